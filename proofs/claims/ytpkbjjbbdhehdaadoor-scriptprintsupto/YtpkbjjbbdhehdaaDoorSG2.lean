/-
  script: rows of overrides and of commands that lie somewhere; a script's text as data.
-/
import Derived.Test.YtpkbjjbbdhehdaaDoorSG1
namespace Go.Proofs.YtpkbjjbbdhehdaaDoor
open Go.RowKit
set_option linter.unusedVariables false

def ovCells : List Ovr → List Value
  | [] => []
  | o :: t => .string o.1 :: .int .u64 (o.2 : Int) :: ovCells t
theorem ovCells_length (os : List Ovr) : (ovCells os).length = os.length * 2 := by
  induction os with
  | nil => rfl
  | cons o t ih => simp [ovCells, ih]; omega
theorem ovCells_at (os : List Ovr) (j : Nat) (hj : j < os.length) : (ovCells os)[j * 2]? = some (.string os[j].1) ∧ (ovCells os)[j * 2 + 1]? = some (.int .u64 (os[j].2 : Int)) := by
  induction os generalizing j with
  | nil => simp at hj
  | cons o t ih =>
    cases j with
    | zero => exact ⟨rfl, rfl⟩
    | succ j =>
      have := ih j (by simpa using hj)
      rw [show (j + 1) * 2 = j * 2 + 2 by omega]
      exact this
theorem ovCells_one (os : List Ovr) : ∀ u ∈ ovCells os, u.oneCell' = true := by
  induction os with
  | nil => intro u hu; cases hu
  | cons o t ih =>
    intro u hu
    simp only [ovCells, List.mem_cons] at hu
    rcases hu with rfl | rfl | hu
    · rfl
    · rfl
    · exact ih u hu
/-- A command and the values of its two lists. -/
structure CmV where
  c : CmdD
  fs : Value
  hs : Value
def CmV.cells (x : CmV) : List Value := [.int .i64 x.c.op, .int .i64 x.c.h, x.fs, x.hs, .int .u64 (x.c.u : Int), .int .u64 (x.c.v : Int), .int .i64 x.c.n, .string x.c.key, .string x.c.elem]
def cmCells : List CmV → List Value
  | [] => []
  | x :: t => x.cells ++ cmCells t
theorem cmCells_length (L : List CmV) : (cmCells L).length = L.length * 9 := by
  induction L with
  | nil => rfl
  | cons o t ih => simp [cmCells, CmV.cells, ih]; omega
theorem cmCells_at (L : List CmV) (j : Nat) (hj : j < L.length) (i : Nat) (hi : i < 9) : (cmCells L)[j * 9 + i]? = L[j].cells[i]? := by
  induction L generalizing j with
  | nil => simp at hj
  | cons o t ih =>
    cases j with
    | zero =>
      rw [Nat.zero_mul, Nat.zero_add]
      show (o.cells ++ cmCells t)[i]? = o.cells[i]?
      rw [List.getElem?_append_left (by simp [CmV.cells]; omega)]
    | succ j =>
      have hj2 : j < t.length := by simpa using hj
      have := ih j hj2
      rw [show (j + 1) * 9 + i = 9 + (j * 9 + i) by omega]
      show (o.cells ++ cmCells t)[9 + (j * 9 + i)]? = t[j].cells[i]?
      rw [List.getElem?_append_right (by simp [CmV.cells]), ← this]
      congr 1
      simp [CmV.cells]
/-- A row of structs that lies somewhere. -/
def RowIn (w : World) (v : Value) (n : Nat) (xs : List Value) : Prop := (v = .slice none 0 0 ∧ n = 0) ∨ ∃ (a : Addr) (cap : Nat), v = .slice (some a) n cap ∧ ∀ j u, xs[j]? = some u → w.cell? (a.add j) = some u
theorem RowIn.keeps {w w' : World} {v : Value} {n : Nat} {xs : List Value} (h : RowIn w v n xs) (k : Keeps w w' (fun _ => False)) : RowIn w' v n xs := by
  rcases h with h | ⟨a, cap, e, hc⟩
  · exact Or.inl h
  · exact Or.inr ⟨a, cap, e, fun j u hu => keeps_cell k (hc j u hu)⟩
theorem RowIn.form {w : World} {v : Value} {n : Nat} {xs : List Value} (h : RowIn w v n xs) : ∃ so cap, v = .slice so n cap := by
  rcases h with ⟨rfl, rfl⟩ | ⟨a, cap, e, hc⟩
  · exact ⟨none, 0, rfl⟩
  · exact ⟨some a, cap, e⟩
theorem plainA {w : World} {a : Addr} {v : Value} (h : w.cell? (a.add 0) = some v) : ∃ bb oo, a = ⟨bb, oo, none⟩ ∧ bb < w.heap.size := by
  obtain ⟨bb, oo, sp⟩ := a
  have h' : w.cell? ⟨bb, oo, sp⟩ = some v := h
  have hlt : bb < w.heap.size := by
    rcases Nat.lt_or_ge bb w.heap.size with h1 | h1
    · exact h1
    · simp [World.cell?, Array.getElem?_eq_none h1] at h'
  cases sp with
  | none => exact ⟨bb, oo, rfl, hlt⟩
  | some s =>
    exfalso
    unfold World.cell? at h'
    split at h' <;> simp at h'
theorem RowIn.some {w : World} {so : Option Addr} {n cap : Nat} {xs : List Value} (h : RowIn w (.slice so n cap) n xs) (h0 : 0 < n) (hx : 0 < xs.length) : ∃ b o, so = some ⟨b, o, none⟩ ∧ b < w.heap.size ∧ ∀ j u, xs[j]? = Option.some u → w.cell? ⟨b, o + j, none⟩ = Option.some u := by
  rcases h with ⟨e, rfl⟩ | ⟨a, c, e, hc⟩
  · omega
  · injection e with e1 e2 e3
    subst e1
    obtain ⟨b, o, rfl, hb⟩ := plainA (hc 0 xs[0] (List.getElem?_eq_getElem hx))
    refine ⟨b, o, rfl, hb, fun j u hu => ?_⟩
    have := hc j u hu
    rwa [addr_add] at this
structure OvIn (w : World) (v : Value) (L : List Ovr) : Prop where
  row : RowIn w v L.length (ovCells L)
  ok : ∀ x ∈ L, x.1.size ≤ 8388608 ∧ x.2 < 18446744073709551616
structure CmIn (w : World) (v : Value) (L : List CmV) : Prop where
  row : RowIn w v L.length (cmCells L)
  ok : ∀ x ∈ L, CmdIn w x.c x.fs x.hs
theorem OvIn.keeps {w w' : World} {v : Value} {L : List Ovr} (h : OvIn w v L) (k : Keeps w w' (fun _ => False)) : OvIn w' v L := ⟨h.row.keeps k, h.ok⟩
theorem CmIn.keeps {w w' : World} {v : Value} {L : List CmV} (h : CmIn w v L) (k : Keeps w w' (fun _ => False)) : CmIn w' v L := ⟨h.row.keeps k, fun x hx => (h.ok x hx).keeps k⟩
theorem OvIn.at {w : World} {so : Option Addr} {cap : Nat} {L : List Ovr} (h : OvIn w (.slice so L.length cap) L) {i : Nat} (hi : i < L.length) :
    ∃ b o, so = some ⟨b, o, none⟩ ∧ w.cell? ⟨b, o + i * 2, none⟩ = some (.string L[i].1) ∧ w.cell? ⟨b, o + i * 2 + 1, none⟩ = some (.int .u64 (L[i].2 : Int)) := by
  obtain ⟨b, o, rfl, -, hc⟩ := h.row.some (by omega) (by rw [ovCells_length]; omega)
  obtain ⟨e1, e2⟩ := ovCells_at L i hi
  exact ⟨b, o, rfl, hc _ _ e1, by have := hc _ _ e2; rwa [← Nat.add_assoc] at this⟩
theorem CmIn.at {w : World} {so : Option Addr} {cap : Nat} {L : List CmV} (h : CmIn w (.slice so L.length cap) L) {i : Nat} (hi : i < L.length) :
    ∃ b o, so = some ⟨b, o, none⟩ ∧ ∀ j u, L[i].cells[j]? = Option.some u → w.cell? ⟨b, o + i * 9 + j, none⟩ = Option.some u := by
  obtain ⟨b, o, rfl, -, hc⟩ := h.row.some (by omega) (by rw [cmCells_length]; omega)
  refine ⟨b, o, rfl, fun j u hu => ?_⟩
  have hj : j < 9 := (List.getElem?_eq_some_iff.1 hu).1
  have := hc (i * 9 + j) u ((cmCells_at L i hi j hj).trans hu)
  rwa [← Nat.add_assoc] at this
/-- A script, as data. -/
def textD (n : Int) (os : List Ovr) (cs : List CmdD) : List UInt8 := limT n ++ os.flatMap ovT ++ cs.flatMap cmdT
def costO (os : List Ovr) : Nat := (os.map (fun o => o.1.size + 1)).sum
def costs (cs : List CmdD) : Nat := (cs.map costC).sum
theorem sum_take {l : List Nat} (i : Nat) : (l.take i).sum ≤ l.sum := by
  conv => rhs; rw [← List.take_append_drop i l, List.sum_append]
  omega
theorem ovs_len {os : List Ovr} (h : ∀ x ∈ os, x.1.size ≤ 8388608 ∧ x.2 < 18446744073709551616) : (os.flatMap ovT).length ≤ 100 * costO os := by
  induction os with
  | nil => simp [costO]
  | cons o t ih =>
    have a := ih (fun x hx => h x (List.mem_cons_of_mem _ hx))
    obtain ⟨h1, h2⟩ := h o List.mem_cons_self
    have b := ovT_len h1 h2
    unfold costO at a ⊢
    rw [List.flatMap_cons, List.length_append, List.map_cons, List.sum_cons]
    omega
theorem cms_len {w : World} {L : List CmV} (h : ∀ x ∈ L, CmdIn w x.c x.fs x.hs) : ((L.map (·.c)).flatMap cmdT).length ≤ 100 * costs (L.map (·.c)) := by
  induction L with
  | nil => simp [costs]
  | cons o t ih =>
    have a := ih (fun x hx => h x (List.mem_cons_of_mem _ hx))
    have b := cmdT_len (h o List.mem_cons_self)
    unfold costs at a ⊢
    rw [List.map_cons, List.flatMap_cons, List.length_append, List.map_cons, List.sum_cons]
    omega
theorem flat_take {α : Type} {f : α → List UInt8} {l : List α} {i : Nat} (h : i < l.length) : (l.take (i + 1)).flatMap f = (l.take i).flatMap f ++ f l[i] := by
  rw [List.take_succ_eq_append_getElem h, List.flatMap_append]
  simp
theorem flat_le {α : Type} (f : α → List UInt8) (l : List α) (i : Nat) : ((l.take i).flatMap f).length ≤ (l.flatMap f).length := by
  conv => rhs; rw [← List.take_append_drop i l, List.flatMap_append, List.length_append]
  omega
end Go.Proofs.YtpkbjjbbdhehdaaDoor
