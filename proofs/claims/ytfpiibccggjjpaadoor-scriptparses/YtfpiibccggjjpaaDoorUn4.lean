import Derived.Deep.Cut
import Derived.Laws.AppendOwnNone
import Derived.RangeFuncRecord
import Derived.Laws.RangeString
import Derived.Deep.LoopGhost
import Derived.Test.YtfpiibccggjjpaaDoorUn3
/-
  script: fieldWords.
-/
namespace Go.Proofs.YtfpiibccggjjpaaDoor
open Go.RowKit
set_option linter.unusedVariables false

/-- What fieldWords answers: a list of its own. -/
def FldR (w : World) (ws : List ByteArray) (e : Ending) (w' : World) : Prop := ∃ r, e = .returned r ∧ ((r = .slice none 0 0 ∧ ws = []) ∨ ∃ g cap, r = .slice (some ⟨g, 0, none⟩) ws.length cap ∧ 0 < ws.length ∧ ∀ j u, (ws.map Value.string)[j]? = some u → w'.cell? ⟨g, j, none⟩ = some u) ∧ Keeps w w' (fun _ => False)

theorem fld_one {w w1 : World} (k : Keeps w w1 (fun _ => False)) (x : ByteArray) : FldR w [x] (.returned (.slice (some ⟨w1.heap.size, 0, none⟩) 1 1)) (w1.alloc (.cells #[.string x] 9)) := by
  refine ⟨_, rfl, Or.inr ⟨_, 1, rfl, by simp, fun j u hj => ?_⟩, k.alloc _⟩
  have hb := heap_alloc_new w1 (.cells #[.string x] 9)
  simp only [World.cell?, hb]
  simpa using hj

theorem fld_texts {w w0 : World} (k : Keeps w w0 (fun _ => False)) {l : List Int} {e : Ending} {w' : World} (h : TextsR w0 l e w') : FldR w (l.map numD) e w' := by
  obtain ⟨r, rfl, hown, hz, k1⟩ := h
  refine ⟨r, rfl, ?_, k.trans k1 (fun _ _ e => e)⟩
  rcases hown.2 with ⟨rfl, e0⟩ | ⟨g, cap, cur, rfl, -, -, -⟩
  · refine Or.inl ⟨rfl, ?_⟩
    have : l = [] := List.eq_nil_of_length_eq_zero (by omega)
    rw [this]
    rfl
  · have h0 : 0 < l.length := by
      rcases Nat.eq_zero_or_pos l.length with e | e
      · cases hz e
      · exact e
    refine Or.inr ⟨g, cap, by rw [List.length_map], by rw [List.length_map]; exact h0, fun j u hj => ?_⟩
    have hj2 : j < l.length := by
      have := (List.getElem?_eq_some_iff.1 hj).1
      simpa using this
    rw [hown.cellAt j (by omega)]
    simpa [Function.comp] using hj

/-- A command, as data; its two lists lie somewhere. -/
structure CmdD where
  op : Int
  h : Int
  u : Nat
  v : Nat
  n : Int
  key : ByteArray
  elem : ByteArray
  fl : List Int
  hl : List Int

def CmdD.vals (c : CmdD) (fs hs : Value) : Array Value := #[.int .i64 c.op, .int .i64 c.h, fs, hs, .int .u64 (c.u : Int), .int .u64 (c.v : Int), .int .i64 c.n, .string c.key, .string c.elem]

structure CmdIn (w : World) (c : CmdD) (fs hs : Value) : Prop where
  f : IntsIn w fs c.fl
  s : IntsIn w hs c.hl
  lf : c.fl.length ≤ 8388608
  ls : c.hl.length ≤ 8388608
  h : -9223372036854775808 ≤ c.h ∧ c.h ≤ 9223372036854775807
  n : -9223372036854775808 ≤ c.n ∧ c.n ≤ 9223372036854775807
  u : c.u < 18446744073709551616
  v : c.v < 18446744073709551616
  key : c.key.size ≤ 8388608
  elem : c.elem.size ≤ 8388608

theorem IntsIn.keeps {w w' : World} {v : Value} {l : List Int} (h : IntsIn w v l) (k : Keeps w w' (fun _ => False)) : IntsIn w' v l := by
  refine ⟨?_, h.fits⟩
  rcases h.form with h1 | ⟨a, c, e, hc⟩
  · exact Or.inl h1
  · exact Or.inr ⟨a, c, e, fun j hj => keeps_cell k (hc j hj)⟩

/-- The words of a field. -/
def fldD (c : CmdD) (p : Int) : List ByteArray := if p = 72 then [numD c.h] else if p = 78 then [numD c.n] else if p = 85 then [wordD c.u] else if p = 86 then [wordD c.v] else if p = 75 then [bytesD c.key] else if p = 69 then [bytesD c.elem] else if p = 70 then c.fl.map numD else if p = 83 then c.hl.map numD else []

theorem cmd_cells {W : World} {q : Nat} {c : CmdD} {fs hs : Value} {t : TypeId} (h : W.heap[q]? = some (.cells (c.vals fs hs) t)) : W.cell? ⟨q, 0, none⟩ = some (.int .i64 c.op) ∧ W.cell? ⟨q, 1, none⟩ = some (.int .i64 c.h) ∧ W.cell? ⟨q, 2, none⟩ = some fs ∧ W.cell? ⟨q, 3, none⟩ = some hs ∧ W.cell? ⟨q, 4, none⟩ = some (.int .u64 (c.u : Int)) ∧ W.cell? ⟨q, 5, none⟩ = some (.int .u64 (c.v : Int)) ∧ W.cell? ⟨q, 6, none⟩ = some (.int .i64 c.n) ∧ W.cell? ⟨q, 7, none⟩ = some (.string c.key) ∧ W.cell? ⟨q, 8, none⟩ = some (.string c.elem) := by
  simp [World.cell?, h, CmdD.vals]

theorem alloc1 {w : World} {o1 : Obj} {P : World → Prop} (h : ∀ W0, W0.heap[w.heap.size]? = some o1 → W0.heap.size = w.heap.size + 1 → Keeps w W0 (fun _ => False) → P W0) : P (w.alloc o1) :=
  h _ (heap_alloc_new w o1) (by simp) ((Keeps.refl _ _).alloc _)

set_option maxRecDepth 100000 in
set_option maxHeartbeats 2000000 in
theorem fld_72 (c : CmdD) (fs hs : Value) (w : World) (hc : CmdIn w c fs hs) (ht : TabW w) (hD : Deb w) : Calls Tryd.prog 36 #[.agg (c.vals fs hs), .int .i32 72] w fun e w' => FldR w (fldD c 72) e w' := by
  have HC := hide (fun (W : World) (k : Keeps w W (fun _ => False)) => ntext_any c.h hc.h.1 hc.h.2 W (ht.keeps k))
  rw [show fldD c 72 = [numD c.h] from rfl]
  have hv : c.vals fs hs = #[.int .i64 c.op, .int .i64 c.h, fs, hs, .int .u64 (c.u : Int), .int .u64 (c.v : Int), .int .i64 c.n, .string c.key, .string c.elem] := rfl
  rw [hv]
  go_enter Tryd.func36, Tryd.ntmps36
  go_upto_region 1 with fail
  refine alloc1 (P := fun W => Code.wp _ _ _ _ W) fun W0 hb hz k0 => ?_
  obtain ⟨c0, c1, c2, c3, c4, c5, c6, c7, c8⟩ := cmd_cells hb
  clear hb hz hc ht hD hv
  go_wp2_with fail
  (with_reducible refine (HC.out W0 k0).mono ?_)
  rintro e w1 ⟨rfl, k1⟩
  have HF := hide (fld_one (k0.trans k1 (fun _ _ e => e)) (numD c.h))
  clear HC c0 c1 c2 c3 c4 c5 c6 c7 c8
  go_wp2_with fail
  go_ret
  exact HF.out

set_option maxRecDepth 100000 in
set_option maxHeartbeats 2000000 in
theorem fld_78 (c : CmdD) (fs hs : Value) (w : World) (hc : CmdIn w c fs hs) (ht : TabW w) (hD : Deb w) : Calls Tryd.prog 36 #[.agg (c.vals fs hs), .int .i32 78] w fun e w' => FldR w (fldD c 78) e w' := by
  have HC := hide (fun (W : World) (k : Keeps w W (fun _ => False)) => ntext_any c.n hc.n.1 hc.n.2 W (ht.keeps k))
  rw [show fldD c 78 = [numD c.n] from rfl]
  have hv : c.vals fs hs = #[.int .i64 c.op, .int .i64 c.h, fs, hs, .int .u64 (c.u : Int), .int .u64 (c.v : Int), .int .i64 c.n, .string c.key, .string c.elem] := rfl
  rw [hv]
  go_enter Tryd.func36, Tryd.ntmps36
  go_upto_region 1 with fail
  refine alloc1 (P := fun W => Code.wp _ _ _ _ W) fun W0 hb hz k0 => ?_
  obtain ⟨c0, c1, c2, c3, c4, c5, c6, c7, c8⟩ := cmd_cells hb
  clear hb hz hc ht hD hv
  go_wp2_with fail
  (with_reducible refine (HC.out W0 k0).mono ?_)
  rintro e w1 ⟨rfl, k1⟩
  have HF := hide (fld_one (k0.trans k1 (fun _ _ e => e)) (numD c.n))
  clear HC c0 c1 c2 c3 c4 c5 c6 c7 c8
  go_wp2_with fail
  go_ret
  exact HF.out

set_option maxRecDepth 100000 in
set_option maxHeartbeats 2000000 in
theorem fld_85 (c : CmdD) (fs hs : Value) (w : World) (hc : CmdIn w c fs hs) (ht : TabW w) (hD : Deb w) : Calls Tryd.prog 36 #[.agg (c.vals fs hs), .int .i32 85] w fun e w' => FldR w (fldD c 85) e w' := by
  have HC := hide (fun (W : World) (k : Keeps w W (fun _ => False)) => wtext_any c.u hc.u W (hD.keeps k))
  rw [show fldD c 85 = [wordD c.u] from rfl]
  have hv : c.vals fs hs = #[.int .i64 c.op, .int .i64 c.h, fs, hs, .int .u64 (c.u : Int), .int .u64 (c.v : Int), .int .i64 c.n, .string c.key, .string c.elem] := rfl
  rw [hv]
  go_enter Tryd.func36, Tryd.ntmps36
  go_upto_region 1 with fail
  refine alloc1 (P := fun W => Code.wp _ _ _ _ W) fun W0 hb hz k0 => ?_
  obtain ⟨c0, c1, c2, c3, c4, c5, c6, c7, c8⟩ := cmd_cells hb
  clear hb hz hc ht hD hv
  go_wp2_with fail
  (with_reducible refine (HC.out W0 k0).mono ?_)
  rintro e w1 ⟨rfl, k1⟩
  have HF := hide (fld_one (k0.trans k1 (fun _ _ e => e)) (wordD c.u))
  clear HC c0 c1 c2 c3 c4 c5 c6 c7 c8
  go_wp2_with fail
  go_ret
  exact HF.out

set_option maxRecDepth 100000 in
set_option maxHeartbeats 2000000 in
theorem fld_86 (c : CmdD) (fs hs : Value) (w : World) (hc : CmdIn w c fs hs) (ht : TabW w) (hD : Deb w) : Calls Tryd.prog 36 #[.agg (c.vals fs hs), .int .i32 86] w fun e w' => FldR w (fldD c 86) e w' := by
  have HC := hide (fun (W : World) (k : Keeps w W (fun _ => False)) => wtext_any c.v hc.v W (hD.keeps k))
  rw [show fldD c 86 = [wordD c.v] from rfl]
  have hv : c.vals fs hs = #[.int .i64 c.op, .int .i64 c.h, fs, hs, .int .u64 (c.u : Int), .int .u64 (c.v : Int), .int .i64 c.n, .string c.key, .string c.elem] := rfl
  rw [hv]
  go_enter Tryd.func36, Tryd.ntmps36
  go_upto_region 1 with fail
  refine alloc1 (P := fun W => Code.wp _ _ _ _ W) fun W0 hb hz k0 => ?_
  obtain ⟨c0, c1, c2, c3, c4, c5, c6, c7, c8⟩ := cmd_cells hb
  clear hb hz hc ht hD hv
  go_wp2_with fail
  (with_reducible refine (HC.out W0 k0).mono ?_)
  rintro e w1 ⟨rfl, k1⟩
  have HF := hide (fld_one (k0.trans k1 (fun _ _ e => e)) (wordD c.v))
  clear HC c0 c1 c2 c3 c4 c5 c6 c7 c8
  go_wp2_with fail
  go_ret
  exact HF.out

set_option maxRecDepth 100000 in
set_option maxHeartbeats 2000000 in
theorem fld_75 (c : CmdD) (fs hs : Value) (w : World) (hc : CmdIn w c fs hs) (ht : TabW w) (hD : Deb w) : Calls Tryd.prog 36 #[.agg (c.vals fs hs), .int .i32 75] w fun e w' => FldR w (fldD c 75) e w' := by
  have HC := hide (fun (W : World) (k : Keeps w W (fun _ => False)) => btext_any c.key hc.key W)
  rw [show fldD c 75 = [bytesD c.key] from rfl]
  have hv : c.vals fs hs = #[.int .i64 c.op, .int .i64 c.h, fs, hs, .int .u64 (c.u : Int), .int .u64 (c.v : Int), .int .i64 c.n, .string c.key, .string c.elem] := rfl
  rw [hv]
  go_enter Tryd.func36, Tryd.ntmps36
  go_upto_region 1 with fail
  refine alloc1 (P := fun W => Code.wp _ _ _ _ W) fun W0 hb hz k0 => ?_
  obtain ⟨c0, c1, c2, c3, c4, c5, c6, c7, c8⟩ := cmd_cells hb
  clear hb hz hc ht hD hv
  go_wp2_with fail
  (with_reducible refine (HC.out W0 k0).mono ?_)
  rintro e w1 ⟨rfl, k1⟩
  have HF := hide (fld_one (k0.trans k1 (fun _ _ e => e)) (bytesD c.key))
  clear HC c0 c1 c2 c3 c4 c5 c6 c7 c8
  go_wp2_with fail
  go_ret
  exact HF.out

set_option maxRecDepth 100000 in
set_option maxHeartbeats 2000000 in
theorem fld_69 (c : CmdD) (fs hs : Value) (w : World) (hc : CmdIn w c fs hs) (ht : TabW w) (hD : Deb w) : Calls Tryd.prog 36 #[.agg (c.vals fs hs), .int .i32 69] w fun e w' => FldR w (fldD c 69) e w' := by
  have HC := hide (fun (W : World) (k : Keeps w W (fun _ => False)) => btext_any c.elem hc.elem W)
  rw [show fldD c 69 = [bytesD c.elem] from rfl]
  have hv : c.vals fs hs = #[.int .i64 c.op, .int .i64 c.h, fs, hs, .int .u64 (c.u : Int), .int .u64 (c.v : Int), .int .i64 c.n, .string c.key, .string c.elem] := rfl
  rw [hv]
  go_enter Tryd.func36, Tryd.ntmps36
  go_upto_region 1 with fail
  refine alloc1 (P := fun W => Code.wp _ _ _ _ W) fun W0 hb hz k0 => ?_
  obtain ⟨c0, c1, c2, c3, c4, c5, c6, c7, c8⟩ := cmd_cells hb
  clear hb hz hc ht hD hv
  go_wp2_with fail
  (with_reducible refine (HC.out W0 k0).mono ?_)
  rintro e w1 ⟨rfl, k1⟩
  have HF := hide (fld_one (k0.trans k1 (fun _ _ e => e)) (bytesD c.elem))
  clear HC c0 c1 c2 c3 c4 c5 c6 c7 c8
  go_wp2_with fail
  go_ret
  exact HF.out

set_option maxRecDepth 100000 in
set_option maxHeartbeats 2000000 in
theorem fld_70 (c : CmdD) (fs hs : Value) (w : World) (hc : CmdIn w c fs hs) (ht : TabW w) (hD : Deb w) : Calls Tryd.prog 36 #[.agg (c.vals fs hs), .int .i32 70] w fun e w' => FldR w (fldD c 70) e w' := by
  have HC := hide (fun (W : World) (k : Keeps w W (fun _ => False)) => ntexts_any fs c.fl hc.lf W (hc.f.keeps k) (ht.keeps k))
  rw [show fldD c 70 = c.fl.map numD from rfl]
  have hv : c.vals fs hs = #[.int .i64 c.op, .int .i64 c.h, fs, hs, .int .u64 (c.u : Int), .int .u64 (c.v : Int), .int .i64 c.n, .string c.key, .string c.elem] := rfl
  rw [hv]
  go_enter Tryd.func36, Tryd.ntmps36
  go_upto_region 1 with fail
  refine alloc1 (P := fun W => Code.wp _ _ _ _ W) fun W0 hb hz k0 => ?_
  obtain ⟨c0, c1, c2, c3, c4, c5, c6, c7, c8⟩ := cmd_cells hb
  clear hb hz hc ht hD hv
  go_wp2_with fail
  (with_reducible refine (HC.out W0 k0).mono ?_)
  rintro e w1 hr
  have hF := fld_texts k0 hr
  obtain ⟨r, rfl, -⟩ := hr
  have HF := hide hF
  clear HC c0 c1 c2 c3 c4 c5 c6 c7 c8 hF
  go_wp2_with fail
  go_ret
  exact HF.out

set_option maxRecDepth 100000 in
set_option maxHeartbeats 2000000 in
theorem fld_83 (c : CmdD) (fs hs : Value) (w : World) (hc : CmdIn w c fs hs) (ht : TabW w) (hD : Deb w) : Calls Tryd.prog 36 #[.agg (c.vals fs hs), .int .i32 83] w fun e w' => FldR w (fldD c 83) e w' := by
  have HC := hide (fun (W : World) (k : Keeps w W (fun _ => False)) => ntexts_any hs c.hl hc.ls W (hc.s.keeps k) (ht.keeps k))
  rw [show fldD c 83 = c.hl.map numD from rfl]
  have hv : c.vals fs hs = #[.int .i64 c.op, .int .i64 c.h, fs, hs, .int .u64 (c.u : Int), .int .u64 (c.v : Int), .int .i64 c.n, .string c.key, .string c.elem] := rfl
  rw [hv]
  go_enter Tryd.func36, Tryd.ntmps36
  go_upto_region 1 with fail
  refine alloc1 (P := fun W => Code.wp _ _ _ _ W) fun W0 hb hz k0 => ?_
  obtain ⟨c0, c1, c2, c3, c4, c5, c6, c7, c8⟩ := cmd_cells hb
  clear hb hz hc ht hD hv
  go_wp2_with fail
  (with_reducible refine (HC.out W0 k0).mono ?_)
  rintro e w1 hr
  have hF := fld_texts k0 hr
  obtain ⟨r, rfl, -⟩ := hr
  have HF := hide hF
  clear HC c0 c1 c2 c3 c4 c5 c6 c7 c8 hF
  go_wp2_with fail
  go_ret
  exact HF.out

set_option maxRecDepth 100000 in
set_option maxHeartbeats 2000000 in
theorem fld_none (c : CmdD) (fs hs : Value) (p : Int) (w : World) (hp : p ≠ 72 ∧ p ≠ 78 ∧ p ≠ 85 ∧ p ≠ 86 ∧ p ≠ 75 ∧ p ≠ 69 ∧ p ≠ 70 ∧ p ≠ 83) : Calls Tryd.prog 36 #[.agg (c.vals fs hs), .int .i32 p] w fun e w' => FldR w (fldD c p) e w' := by
  obtain ⟨p1, p2, p3, p4, p5, p6, p7, p8⟩ := hp
  rw [show fldD c p = [] by unfold fldD; rw [if_neg p1, if_neg p2, if_neg p3, if_neg p4, if_neg p5, if_neg p6, if_neg p7, if_neg p8]]
  have hv : c.vals fs hs = #[.int .i64 c.op, .int .i64 c.h, fs, hs, .int .u64 (c.u : Int), .int .u64 (c.v : Int), .int .i64 c.n, .string c.key, .string c.elem] := rfl
  rw [hv]
  have y1 : (p == 72) = false := by simp [p1]
  have y2 : (p == 78) = false := by simp [p2]
  have y3 : (p == 85) = false := by simp [p3]
  have y4 : (p == 86) = false := by simp [p4]
  have y5 : (p == 75) = false := by simp [p5]
  have y6 : (p == 69) = false := by simp [p6]
  have y7 : (p == 70) = false := by simp [p7]
  have y8 : (p == 83) = false := by simp [p8]
  clear p1 p2 p3 p4 p5 p6 p7 p8 hv
  go_enter Tryd.func36, Tryd.ntmps36
  go_wp2_with fail
  go_ret
  exact ⟨_, rfl, Or.inl ⟨rfl, rfl⟩, (Keeps.refl _ _).alloc _⟩

theorem fld_any (c : CmdD) (fs hs : Value) (p : Int) (w : World) (hc : CmdIn w c fs hs) (ht : TabW w) (hD : Deb w) : Calls Tryd.prog 36 #[.agg (c.vals fs hs), .int .i32 p] w fun e w' => FldR w (fldD c p) e w' := by
  by_cases hp : p ≠ 72 ∧ p ≠ 78 ∧ p ≠ 85 ∧ p ≠ 86 ∧ p ≠ 75 ∧ p ≠ 69 ∧ p ≠ 70 ∧ p ≠ 83
  · exact fld_none c fs hs p w hp
  · have h8 : p = 72 ∨ p = 78 ∨ p = 85 ∨ p = 86 ∨ p = 75 ∨ p = 69 ∨ p = 70 ∨ p = 83 := by omega
    rcases h8 with h | h | h | h | h | h | h | h <;> subst h
    · exact fld_72 c fs hs w hc ht hD
    · exact fld_78 c fs hs w hc ht hD
    · exact fld_85 c fs hs w hc ht hD
    · exact fld_86 c fs hs w hc ht hD
    · exact fld_75 c fs hs w hc ht hD
    · exact fld_69 c fs hs w hc ht hD
    · exact fld_70 c fs hs w hc ht hD
    · exact fld_83 c fs hs w hc ht hD
end Go.Proofs.YtfpiibccggjjpaaDoor
/-
  script: rowOf, whole.
-/
namespace Go.Proofs.YtfpiibccggjjpaaDoor
open Go.RowKit
set_option linter.unusedVariables false
def cellI (z : Int) : Value := .int .i64 z

theorem Tryd.infoI : (Tryd.prog.info? 3).map (fun i => (i.zero, i.size, i.bytes)) = some (some (.int .i64 0), 1, 8) := by kernel_rfl

def fmL : List ByteArray := [⟨#[78]⟩, ⟨#[75, 85]⟩, ⟨#[85, 78, 70]⟩, ⟨#[72, 75]⟩, ⟨#[72, 75, 69]⟩, ⟨#[72, 75]⟩, ⟨#[72]⟩, ⟨#[72, 85]⟩, ⟨#[72]⟩, ⟨#[72, 85, 86]⟩, ⟨#[72]⟩, ⟨#[83]⟩, ⟨#[]⟩, ⟨#[72, 75]⟩, ⟨#[72]⟩, ⟨#[]⟩]
def fmN (i : Nat) : ByteArray := fmL.getD i ⟨#[]⟩
/-- The table of rows, whole. -/
def RowsF (w : World) : Prop := ∀ i, i < 16 → w.cell? ⟨0, i * 4, none⟩ = some (.string (nmN i)) ∧ w.cell? ⟨0, i * 4 + 1, none⟩ = some (.int .i64 (kN i)) ∧ w.cell? ⟨0, i * 4 + 2, none⟩ = some (.int .i64 (oN i)) ∧ w.cell? ⟨0, i * 4 + 3, none⟩ = some (.string (fmN i))
theorem RowsF.keeps {w w' : World} (h : RowsF w) (k : Keeps w w' (fun _ => False)) : RowsF w' := fun i hi => by
  obtain ⟨a, b, c, d⟩ := h i hi
  exact ⟨keeps_cell k a, keeps_cell k b, keeps_cell k c, keeps_cell k d⟩
set_option maxRecDepth 100000 in
set_option maxHeartbeats 2000000 in
theorem rowOfF_any (kd op : Int) (w : World) (hR : RowsF w) : Calls Tryd.prog 35 #[.int .i64 kd, .int .i64 op] w fun e w' => ((∃ i, i < 16 ∧ kN i = kd ∧ oN i = op ∧ e = .returned (.tuple #[.agg #[.string (nmN i), .int .i64 (kN i), .int .i64 (oN i), .string (fmN i)], .bool true])) ∨ ((∀ j, j < 16 → ¬ (kN j = kd ∧ oN j = op)) ∧ e = .returned (.tuple #[.agg #[.string ⟨#[]⟩, .int .i64 0, .int .i64 0, .string ⟨#[]⟩], .bool false]))) ∧ Keeps w w' (fun _ => False) := by
  have HR := hide hR
  clear hR
  go_enter Tryd.func35, Tryd.ntmps35
  go_wp2_with fail
  go_loopw [7] (fun v7 wr => ∃ i : Nat, v7 = .int .i64 (i : Int) ∧ i ≤ 16 ∧ Hid (∀ j, j < i → ¬ (kN j = kd ∧ oN j = op)) ∧ wr.heap[w.heap.size]? = some (.cells #[.string ⟨#[]⟩, .int .i64 0, .int .i64 0, .string ⟨#[]⟩] 68) ∧ Hid (Keeps w wr (fun _ => False))) (fun v7 _ => 16 - (intOf v7).toNat)
  case atStart => exact ⟨0, rfl, Nat.zero_le _, fun j hj => by omega, heap_alloc_new _ _, (Keeps.refl _ _).alloc _⟩
  case round =>
    obtain ⟨i, rfl, hi, hno, hb, HK⟩ := hrel
    have d0 : wr.cell? ⟨w.heap.size, 0, none⟩ = some (.string ⟨#[]⟩) := by simp [World.cell?, hb]
    have d1 : wr.cell? ⟨w.heap.size, 1, none⟩ = some (.int .i64 0) := by simp [World.cell?, hb]
    have d2 : wr.cell? ⟨w.heap.size, 2, none⟩ = some (.int .i64 0) := by simp [World.cell?, hb]
    have d3 : wr.cell? ⟨w.heap.size, 3, none⟩ = some (.string ⟨#[]⟩) := by simp [World.cell?, hb]
    have f0 : wr.frozen? ⟨w.heap.size, 0, none⟩ = false := by simp [World.frozen?, hb]
    have f1 : wr.frozen? ⟨w.heap.size, 1, none⟩ = false := by simp [World.frozen?, hb]
    have f2 : wr.frozen? ⟨w.heap.size, 2, none⟩ = false := by simp [World.frozen?, hb]
    have f3 : wr.frozen? ⟨w.heap.size, 3, none⟩ = false := by simp [World.frozen?, hb]
    by_cases hlt : i < 16
    · have hlt' : (i : Int) < 16 := by omega
      obtain ⟨c1, c2, c3, c4⟩ := (HR.out.keeps HK.out) i hlt
      obtain ⟨f, hf⟩ : ∃ f, fmN i = f := ⟨_, rfl⟩
      rw [hf] at c4
      have hi5 : i ≤ 1099511627776 := by omega
      have Hms : Hid (15 - i < 16 - i) := by show 15 - i < 16 - i; omega
      have Hnx : Hid (¬ (kN i = kd ∧ oN i = op) → ∀ j, j < i + 1 → ¬ (kN j = kd ∧ oN j = op)) := fun q j hj => by
        by_cases e : j = i
        · rw [e]; exact q
        · exact hno.out j (by omega)
      obtain ⟨a6, a7⟩ := wr64s hi5
      by_cases h1 : kN i = kd
      · have e1 : (kN i == kd) = true := by simp [h1]
        by_cases h2 : oN i = op
        · have e2 : (oN i == op) = true := by simp [h2]
          obtain ⟨ND, hND⟩ : ∃ ND, nmN i = ND := ⟨_, rfl⟩
          rw [hND] at c1
          have HF : Hid (∃ j, j < 16 ∧ kN j = kd ∧ oN j = op ∧ (Ending.returned (.tuple #[.agg #[.string ND, .int .i64 (kN i), .int .i64 (oN i), .string f], .bool true])) = .returned (.tuple #[.agg #[.string (nmN j), .int .i64 (kN j), .int .i64 (oN j), .string (fmN j)], .bool true])) := ⟨i, hlt, h1, h2, by rw [hND, hf]⟩
          clear h1 h2 hno Hnx a6 a7 hi5 hND hf
          generalize kN i = kk at *
          generalize oN i = oo at *
          have hk : Keeps w ((((wr.setCell ⟨w.heap.size, 0, none⟩ (.string ND)).setCell ⟨w.heap.size, 1, none⟩ (.int .i64 kk)).setCell ⟨w.heap.size, 2, none⟩ (.int .i64 oo)).setCell ⟨w.heap.size, 3, none⟩ (.string f)) (fun _ => False) := (((HK.out.setCell ⟨w.heap.size, 0, none⟩ (fun h => absurd h (Nat.lt_irrefl _)) _).setCell ⟨w.heap.size, 1, none⟩ (fun h => absurd h (Nat.lt_irrefl _)) _).setCell ⟨w.heap.size, 2, none⟩ (fun h => absurd h (Nat.lt_irrefl _)) _).setCell ⟨w.heap.size, 3, none⟩ (fun h => absurd h (Nat.lt_irrefl _)) _
          have Hk := hide hk
          clear hk
          go_wp2_with fail
          refine bodyPost_ret (v := .tuple #[.agg #[.string ND, .int .i64 kk, .int .i64 oo, .string f], .bool true]) ?_ rfl ?_
          · simp [results, Tryd.results35, go_sem, d0, d1, d2, d3]
          · exact ⟨Or.inl HF.out, Hk.out⟩
        · have e2 : (oN i == op) = false := beq_eq_false_iff_ne.2 h2
          have HX := hide (Hnx.out (fun q => h2 q.2))
          have hb' := hide hb
          clear h1 h2 hno Hnx hi5 d0 d1 d2 d3 f0 f1 f2 f3 c1 c4 hb
          generalize kN i = kk at *
          generalize oN i = oo at *
          go_wp2_with fail
          go_roundw
          case rel => exact ⟨i + 1, by go_num, hlt, HX, hb'.out, HK⟩
          case measure => simp [intOf]; exact Hms.out
      · have e1 : (kN i == kd) = false := beq_eq_false_iff_ne.2 h1
        have HX := hide (Hnx.out (fun q => h1 q.1))
        have hb' := hide hb
        clear h1 hno Hnx hi5 d0 d1 d2 d3 f0 f1 f2 f3 c1 c4 hb c3
        generalize kN i = kk at *
        go_wp2_with fail
        go_roundw
        case rel => exact ⟨i + 1, by go_num, hlt, HX, hb'.out, HK⟩
        case measure => simp [intOf]; exact Hms.out
    · obtain rfl : i = 16 := by omega
      have hk : Keeps w ((((wr.setCell ⟨w.heap.size, 0, none⟩ (.string ⟨#[]⟩)).setCell ⟨w.heap.size, 1, none⟩ (.int .i64 0)).setCell ⟨w.heap.size, 2, none⟩ (.int .i64 0)).setCell ⟨w.heap.size, 3, none⟩ (.string ⟨#[]⟩)) (fun _ => False) := (((HK.out.setCell ⟨w.heap.size, 0, none⟩ (fun h => absurd h (Nat.lt_irrefl _)) _).setCell ⟨w.heap.size, 1, none⟩ (fun h => absurd h (Nat.lt_irrefl _)) _).setCell ⟨w.heap.size, 2, none⟩ (fun h => absurd h (Nat.lt_irrefl _)) _).setCell ⟨w.heap.size, 3, none⟩ (fun h => absurd h (Nat.lt_irrefl _)) _
      have Hk := hide hk
      clear hk
      go_wp2_with fail
      refine bodyPost_ret (v := .tuple #[.agg #[.string ⟨#[]⟩, .int .i64 0, .int .i64 0, .string ⟨#[]⟩], .bool false]) ?_ rfl ?_
      · simp [results, Tryd.results35, go_sem, d0, d1, d2, d3]
      · exact ⟨Or.inr ⟨hno.out, rfl⟩, Hk.out⟩
end Go.Proofs.YtfpiibccggjjpaaDoor
/-
  script: lines and words of a text, as data; what a rune that is no letter skips.
-/
namespace Go.Proofs.YtfpiibccggjjpaaDoor
open Go.RowKit
set_option linter.unusedVariables false

theorem get_at (s : ByteArray) (j : Nat) (h : j < s.size) : s.get! j = s[j]'h := by
  simp [ByteArray.get!, getElem!_pos, h]
  rfl
/-- A rune's bytes behind the first are no letters; it ends within the text. -/
theorem decode_step (s : ByteArray) (pos : Nat) (h : pos < s.size) : 1 ≤ (Utf8.decode s pos).2 ∧ pos + (Utf8.decode s pos).2 ≤ s.size ∧ ∀ j (hj : j < s.size), pos < j → j < pos + (Utf8.decode s pos).2 → 128 ≤ (s[j]'hj).toNat := by
  have one : ∀ v : Nat, 1 ≤ ((v, 1) : Nat × Nat).2 ∧ pos + ((v, 1) : Nat × Nat).2 ≤ s.size ∧ ∀ j (hj : j < s.size), pos < j → j < pos + ((v, 1) : Nat × Nat).2 → 128 ≤ (s[j]'hj).toNat := fun v => ⟨Nat.le_refl _, h, fun j hj h1 h2 => by
    have : j < pos + 1 := h2
    omega⟩
  have cont : ∀ k, (decide (pos + k < s.size) && (s.get! (pos + k)).toNat / 64 == 2) = true → pos + k < s.size ∧ ∀ (hj : pos + k < s.size), 128 ≤ (s[pos + k]'hj).toNat := fun k hk => by
    simp only [Bool.and_eq_true, decide_eq_true_eq, beq_iff_eq] at hk
    refine ⟨hk.1, fun hj => ?_⟩
    have := hk.2
    rw [get_at s (pos + k) hj] at this
    omega
  unfold Utf8.decode
  simp only
  split
  · exact one _
  · split
    · rename_i q
      simp only [Bool.and_eq_true] at q
      obtain ⟨a1, a2⟩ := cont 1 (by simpa using q.2)
      split
      · refine ⟨show 1 ≤ 2 by decide, a1, fun j hj h1 h2 => ?_⟩
        obtain rfl : j = pos + 1 := by
          have : j < pos + 2 := h2
          omega
        exact a2 hj
      · exact one _
    · split
      · rename_i q
        simp only [Bool.and_eq_true] at q
        obtain ⟨a1, a2⟩ := cont 1 (by simpa using q.1.2)
        obtain ⟨b1, b2⟩ := cont 2 (by simpa using q.2)
        split
        · refine ⟨show 1 ≤ 3 by decide, b1, fun j hj h1 h2 => ?_⟩
          have h3 : j < pos + 3 := h2
          have h4 : j = pos + 1 ∨ j = pos + 2 := by omega
          rcases h4 with rfl | rfl
          · exact a2 hj
          · exact b2 hj
        · exact one _
      · split
        · rename_i q
          simp only [Bool.and_eq_true] at q
          obtain ⟨a1, a2⟩ := cont 1 (by simpa using q.1.1.2)
          obtain ⟨b1, b2⟩ := cont 2 (by simpa using q.1.2)
          obtain ⟨c1, c2⟩ := cont 3 (by simpa using q.2)
          split
          · refine ⟨show 1 ≤ 4 by decide, c1, fun j hj h1 h2 => ?_⟩
            have h3 : j < pos + 4 := h2
            have h4 : j = pos + 1 ∨ j = pos + 2 ∨ j = pos + 3 := by omega
            rcases h4 with rfl | rfl | rfl
            · exact a2 hj
            · exact b2 hj
            · exact c2 hj
          · exact one _
        · exact one _
/-- A text's lines under way: those that have ended, and the one that has not. -/
def lnS (st : List (List UInt8) × List UInt8) (x : UInt8) : List (List UInt8) × List UInt8 := if x = 10 then (st.1 ++ [st.2], []) else (st.1, st.2 ++ [x])
def lnF (l : List UInt8) : List (List UInt8) × List UInt8 := l.foldl lnS ([], [])
def linesD (l : List UInt8) : List (List UInt8) := if (lnF l).2 = [] then (lnF l).1 else (lnF l).1 ++ [(lnF l).2]
theorem lnF_take {l : List UInt8} {i : Nat} (h : i < l.length) : lnF (l.take (i + 1)) = lnS (lnF (l.take i)) l[i] := by
  unfold lnF
  rw [List.take_succ_eq_append_getElem h, List.foldl_append]
  rfl
theorem lnF_end {l : List UInt8} {i : Nat} (h : i < l.length) (hx : l[i] = 10) : lnF (l.take (i + 1)) = ((lnF (l.take i)).1 ++ [(lnF (l.take i)).2], []) := by
  rw [lnF_take h, lnS, if_pos hx]
theorem lnF_in {l : List UInt8} {i : Nat} (h : i < l.length) (hx : l[i] ≠ 10) : lnF (l.take (i + 1)) = ((lnF (l.take i)).1, (lnF (l.take i)).2 ++ [l[i]]) := by
  rw [lnF_take h, lnS, if_neg hx]
/-- Several bytes on which no line ends. -/
theorem lnF_skip {l : List UInt8} {i : Nat} : ∀ k, i + k ≤ l.length → (∀ j (h : j < l.length), i ≤ j → j < i + k → l[j] ≠ 10) → lnF (l.take (i + k)) = ((lnF (l.take i)).1, (lnF (l.take i)).2 ++ (l.drop i).take k)
  | 0, _, _ => by simp
  | k + 1, h, hx => by
    have ih := lnF_skip k (by omega) (fun j hj h1 h2 => hx j hj h1 (by omega))
    have hlt : i + k < l.length := by omega
    rw [show i + (k + 1) = i + k + 1 by omega, lnF_in hlt (hx _ hlt (by omega) (by omega)), ih, List.append_assoc]
    congr 2
    rw [List.take_succ_eq_append_getElem (by rw [List.length_drop]; omega), List.getElem_drop]
/-- The line under way is the text's end. -/
theorem lnF_cur (l : List UInt8) : ∀ i, i ≤ l.length → (lnF (l.take i)).2.length ≤ i ∧ (lnF (l.take i)).2 = (l.take i).drop (i - (lnF (l.take i)).2.length)
  | 0, _ => by simp [lnF]
  | i + 1, h => by
    obtain ⟨a, b⟩ := lnF_cur l i (by omega)
    have hlt : i < l.length := by omega
    by_cases hx : l[i] = 10
    · rw [lnF_end hlt hx]
      simp
    · rw [lnF_in hlt hx]
      refine ⟨by rw [List.length_append]; simp; omega, ?_⟩
      simp only [List.length_append, List.length_singleton]
      rw [List.take_succ_eq_append_getElem hlt, List.drop_append_of_le_length (by rw [List.length_take]; omega)]
      congr 1
      rw [show i + 1 - ((lnF (l.take i)).2.length + 1) = i - (lnF (l.take i)).2.length by omega]
      exact b
theorem lnF_few (l : List UInt8) : ∀ i, i ≤ l.length → (lnF (l.take i)).1.length ≤ i
  | 0, _ => by simp [lnF]
  | i + 1, h => by
    have a := lnF_few l i (by omega)
    have hlt : i < l.length := by omega
    by_cases hx : l[i] = 10
    · rw [lnF_end hlt hx]
      simp
      omega
    · rw [lnF_in hlt hx]
      simp only
      omega
/-- A line's words under way: those that have ended, the one that has not, and whether a remark has begun. -/
structure WdS where
  ws : List (List UInt8)
  cur : List UInt8
  rem : Bool
def blank (x : UInt8) : Bool := x == 32 || x == 9
def wdS (st : WdS) (x : UInt8) : WdS :=
  if st.rem then st
  else if st.cur = [] then (if blank x then st else if x = 35 then ⟨st.ws, [], true⟩ else ⟨st.ws, [x], false⟩)
  else if blank x then ⟨st.ws ++ [st.cur], [], false⟩ else ⟨st.ws, st.cur ++ [x], false⟩
def wdF (l : List UInt8) : WdS := l.foldl wdS ⟨[], [], false⟩
def wdsD (l : List UInt8) : List (List UInt8) := if (wdF l).cur = [] then (wdF l).ws else (wdF l).ws ++ [(wdF l).cur]
theorem wdF_take {l : List UInt8} {i : Nat} (h : i < l.length) : wdF (l.take (i + 1)) = wdS (wdF (l.take i)) l[i] := by
  unfold wdF
  rw [List.take_succ_eq_append_getElem h, List.foldl_append]
  rfl
theorem wd_rem (r : List UInt8) : ∀ st : WdS, st.rem = true → r.foldl wdS st = st := by
  induction r with
  | nil => intro st _; rfl
  | cons x t ih =>
    intro st h
    rw [List.foldl_cons, show wdS st x = st by unfold wdS; rw [if_pos h]]
    exact ih st h
/-- Behind a remark's beginning nothing turns. -/
theorem wdF_rem {l : List UInt8} {i : Nat} (h : (wdF (l.take i)).rem = true) : wdF l = wdF (l.take i) := by
  conv => lhs; rw [← List.take_append_drop i l]
  unfold wdF at h ⊢
  rw [List.foldl_append]
  exact wd_rem _ _ h
end Go.Proofs.YtfpiibccggjjpaaDoor
/-
  script: the reference's Lines.
-/
namespace Go.Proofs.YtfpiibccggjjpaaDoor
open Go.RowKit
set_option linter.unusedVariables false
theorem Tryd.infoT : (Tryd.prog.info? 9).map (fun i => (i.zero, i.size, i.bytes)) = some (some (.string ⟨#[]⟩), 1, 16) := by kernel_rfl
def strV (x : List UInt8) : Value := .string (strOf x)
/-- A list of texts of one's own. -/
def TextsO (lo : Nat) (w : World) (r : Value) (ls : List (List UInt8)) : Prop := w.ownsRow lo 9 1 r ls.length (ls.map strV)
theorem extract_eq (s : ByteArray) (a b : Nat) : s.extract a b = strOf ((s.data.toList.take b).drop a) := by
  apply ByteArray.ext
  apply Array.toList_inj.1
  rw [ByteArray.data_extract, strOf_data]
  simp [List.drop_take]
/-- One text more. -/
theorem TextsO.more {lo : Nat} {w : World} {r : Value} {ls : List (List UInt8)} (h : TextsO lo w r ls) (x : List UInt8) (hn : ls.length ≤ 8388608) (hlo : lo ≤ w.heap.size) :
    ∃ g c w', (∀ ty, (Builtin.append_ #[42, 42] ty #[r, .slice (some ⟨w.heap.size, 0, none⟩) 1 1]).run Tryd.prog (w.alloc (.cells #[strV x] 9)) = .ok (.slice (some ⟨g, 0, none⟩) (ls.length + 1) c) w') ∧ TextsO lo w' (.slice (some ⟨g, 0, none⟩) (ls.length + 1) c) (ls ++ [x]) ∧ Keeps w w' (fun k => r.ownBlock = some k) := by
  obtain ⟨g, c, w', h1, h2, h3, -⟩ := append_one (P := Tryd.prog) 42 9 (.string ⟨#[]⟩) 16 Tryd.underlying42 Tryd.infoT rfl (World.ownsRow.alloc h (.cells #[strV x] 9)) (heap_alloc_new w (.cells #[strV x] 9)) rfl (by omega) (by simp only [maxLen]; omega) (by rw [World.size_alloc]; omega)
  refine ⟨g, c, w', h1, ?_, (((Keeps.refl w (fun k => r.ownBlock = some k)).alloc _)).trans h3 (fun _ _ e => e)⟩
  unfold TextsO
  rw [List.length_append, List.map_append]
  exact h2
theorem TextsO.keeps {lo : Nat} {w w' : World} {r : Value} {ls : List (List UInt8)} (h : TextsO lo w r ls) (k : Keeps w w' (fun _ => False)) : TextsO lo w' r ls := ownsRow_keeps h k (fun _ _ e => e)
/-- What a splitting answers. -/
def TextsP (ls : List (List UInt8)) (w : World) (e : Ending) (w' : World) : Prop := ∃ r, e = .returned r ∧ TextsO w.heap.size w' r ls ∧ Keeps w w' (fun _ => False)
set_option maxRecDepth 100000 in
set_option maxHeartbeats 2000000 in
theorem rlines_any (s : ByteArray) (hs : s.size ≤ 8388608) (w : World) : Calls Tryd.prog 38 #[.string s] w fun e w' => TextsP (linesD s.data.toList) w e w' := by
  have hsz : s.data.toList.length = s.size := rfl
  go_enter Tryd.func38, Tryd.ntmps38
  go_wp2_with fail
  go_loopw [3, 4, 5] (fun v3 v4 v5 wr => ∃ i : Nat, v5 = .int .i64 (i : Int) ∧ v4 = .int .i64 ((i - (lnF (s.data.toList.take i)).2.length : Nat) : Int) ∧ i ≤ s.size ∧ TextsO w.heap.size wr v3 (lnF (s.data.toList.take i)).1 ∧ Keeps w wr (fun _ => False)) (fun _ _ v5 _ => s.size - (intOf v5).toNat)
  case atStart => exact ⟨0, rfl, rfl, Nat.zero_le _, ⟨rfl, Or.inl ⟨rfl, rfl⟩⟩, Keeps.refl _ _⟩
  case round =>
    obtain ⟨i, rfl, rfl, hi, hrow, K⟩ := hrel
    obtain ⟨hc1, hc2⟩ := lnF_cur s.data.toList i (by omega)
    have hfew := lnF_few s.data.toList i (by omega)
    have hzK := K.size
    obtain ⟨f, hf⟩ : ∃ f, i - (lnF (s.data.toList.take i)).2.length = f := ⟨_, rfl⟩
    rw [hf] at hc2 ⊢
    have hfi : f ≤ i := by omega
    have hfi' : (f : Int) ≤ (i : Int) := by omega
    have hf0 : (0 : Int) ≤ (f : Int) := by omega
    by_cases hlt : i < s.size
    · have hlt' : (i : Int) < (s.size : Int) := by omega
      have hi' : (i : Int) ≤ (s.size : Int) := by omega
      obtain ⟨x, hx⟩ : ∃ x, s[i] = x := ⟨_, rfl⟩
      have hxl : s.data.toList[i]'(by omega) = x := hx
      obtain ⟨a6, a7⟩ := wr64s (n := i) (by omega)
      have Hms : Hid (s.size - (i + 1) < s.size - i) := by show s.size - (i + 1) < s.size - i; omega
      by_cases h10 : x = 10
      · subst h10
        have hE := lnF_end (l := s.data.toList) (by omega) hxl
        obtain ⟨g1, c1, w1, hap, hT, kk⟩ := hrow.more (lnF (s.data.toList.take i)).2 (by omega) hzK
        have e1 : strV (lnF (s.data.toList.take i)).2 = .string (s.extract f i) := by rw [extract_eq, ← hc2]; rfl
        rw [e1] at hap
        have HN : Hid (TextsO w.heap.size w1 (.slice (some ⟨g1, 0, none⟩) ((lnF (s.data.toList.take i)).1.length + 1) c1) (lnF (s.data.toList.take (i + 1))).1 ∧ i + 1 - (lnF (s.data.toList.take (i + 1))).2.length = i + 1 ∧ Keeps w w1 (fun _ => False)) := by
          rw [hE]
          exact ⟨hT, rfl, K.trans kk (fun q hq e => by
            have := (ownsRow_block hrow e).1
            omega)⟩
        clear hrow K hT kk hE e1 hxl hc1 hc2 hf hzK hsz
        generalize (lnF (s.data.toList.take i)).1.length = m at *
        go_wp2_with (first | (at_builtin; have _t := hap; refine app_run _ rfl (.tmp 16) (.tmp 21) 42 rfl rfl rfl hap ?_; clear hap))
        go_roundw
        case rel => exact ⟨i + 1, by go_num, by rw [HN.out.2.1]; go_num, hlt, HN.out.1, HN.out.2.2⟩
        case measure => simp [intOf]; exact Hms.out
      · have y1 : ((x.toNat : Int) == 10) = false := by
          rw [beq_eq_false_iff_ne]
          intro e
          have e2 : x.toNat = 10 := by omega
          exact h10 (UInt8.toNat_inj.1 e2)
        have y2 : (x == 10) = false := by simpa using h10
        have hE := lnF_in (l := s.data.toList) (i := i) (by omega) (by rw [hxl]; exact h10)
        have HN : Hid (TextsO w.heap.size wr u3 (lnF (s.data.toList.take (i + 1))).1 ∧ i + 1 - (lnF (s.data.toList.take (i + 1))).2.length = f ∧ Keeps w wr (fun _ => False)) := by
          rw [hE]
          refine ⟨hrow, ?_, K⟩
          rw [List.length_append, List.length_singleton]
          omega
        clear hrow K hE hxl hc1 hc2 hf hzK hsz h10
        go_wp2_with fail
        go_roundw
        case rel => exact ⟨i + 1, by go_num, by rw [HN.out.2.1], hlt, HN.out.1, HN.out.2.2⟩
        case measure => simp [intOf]; exact Hms.out
    · obtain rfl : i = s.size := by omega
      have hlt' : ¬ (s.size : Int) < (s.size : Int) := by omega
      rw [List.take_of_length_le (Nat.le_of_eq hsz)] at hrow hc2 hf hc1 hfew
      by_cases h0 : (lnF s.data.toList).2 = []
      · have hfs : f = s.size := by rw [h0] at hf; simp at hf; omega
        have hff : ¬ (f : Int) < (s.size : Int) := by omega
        have HN : Hid (TextsP (linesD s.data.toList) w (.returned u3) wr) := ⟨u3, rfl, by unfold linesD; rw [if_pos h0]; exact hrow, K⟩
        clear hrow K hc1 hc2 hf hzK hsz h0 hfew
        go_wp2_with fail
        refine bodyPost_ret (v := u3) (by simp [results, Tryd.results38, go_sem]) rfl ?_
        exact HN.out
      · have hne : 0 < (lnF s.data.toList).2.length := by
          rcases Nat.eq_zero_or_pos (lnF s.data.toList).2.length with e | e
          · exact absurd (List.eq_nil_of_length_eq_zero e) h0
          · exact e
        have hff : (f : Int) < (s.size : Int) := by omega
        obtain ⟨g1, c1, w1, hap, hT, kk⟩ := hrow.more (lnF s.data.toList).2 (by omega) hzK
        have e1 : strV (lnF s.data.toList).2 = .string (s.extract f s.size) := by
          rw [extract_eq, List.take_of_length_le (Nat.le_of_eq hsz), ← hc2]
          rfl
        rw [e1] at hap
        have HN : Hid (TextsP (linesD s.data.toList) w (.returned (.slice (some ⟨g1, 0, none⟩) ((lnF s.data.toList).1.length + 1) c1)) w1) := ⟨_, rfl, by unfold linesD; rw [if_neg h0]; exact hT, K.trans kk (fun q hq e => by
          have := (ownsRow_block hrow e).1
          omega)⟩
        clear hrow K hT kk e1 hc1 hc2 hf hzK hsz h0 hfew hne
        generalize (lnF s.data.toList).1.length = m at *
        go_wp2_with (first | (at_builtin; have _t := hap; refine app_run _ rfl (.tmp 29) (.tmp 33) 42 rfl rfl rfl hap ?_; clear hap))
        refine bodyPost_ret (v := .slice (some ⟨g1, 0, none⟩) (m + 1) c1) (by simp [results, Tryd.results38, go_sem]) rfl ?_
        exact HN.out
end Go.Proofs.YtfpiibccggjjpaaDoor
/-
  script: linesOf.
-/
namespace Go.Proofs.YtfpiibccggjjpaaDoor
open Go.RowKit
set_option linter.unusedVariables false
theorem nextT_any {P : Program} {W : World} {B : Nat} {s : ByteArray} {pos : Nat} (ty : TypeId) (hB : W.heap[B]? = some (.stringIter s pos)) (h : pos < s.size) :
    (Instr.next (.pointer (some ⟨B, 0, none⟩)) true ty).run P W = .ok (.tuple #[.bool true, .int .i64 pos, .int .i32 (Utf8.decode s pos).1]) (W.putObj B (.stringIter s (pos + (Utf8.decode s pos).2))) := by
  simp only [Instr.next, getObj, setObj, Sem.run_bind, Sem.run, hB, Result.andThen, h, if_true]
  simp [goInt, World.putObj]
theorem nextT_end {P : Program} {W : World} {B : Nat} {s : ByteArray} {pos : Nat} (ty : TypeId) (hB : W.heap[B]? = some (.stringIter s pos)) (h : ¬ pos < s.size) :
    (Instr.next (.pointer (some ⟨B, 0, none⟩)) true ty).run P W = .ok (.tuple #[.bool false]) W := by
  simp [Instr.next, getObj, Sem.run, hB, h]
theorem TextsO.put {lo : Nat} {W : World} {r : Value} {ls : List (List UInt8)} (h : TextsO lo W r ls) {B : Nat} {s : ByteArray} {pos : Nat} (hB : W.heap[B]? = some (.stringIter s pos)) (o : Obj) : TextsO lo (W.putObj B o) r ls := by
  refine ⟨h.1, ?_⟩
  rcases h.2 with h2 | ⟨g, cap, cur, e1, e2, e3, r⟩
  · exact Or.inl h2
  · refine Or.inr ⟨g, cap, cur, e1, e2, ?_, r⟩
    rw [World.putObj_heap_other (fun e => ?_)]
    · exact e3
    · rw [e, hB] at e3
      cases e3
theorem Keeps.putT {w W : World} (k : Keeps w W (fun _ => False)) {B : Nat} (hB : w.heap.size ≤ B) (o : Obj) : Keeps w (W.putObj B o) (fun _ => False) := ⟨k.os, k.tape, k.output, Nat.le_trans k.size (by simp [World.putObj]), fun q hq hn => (World.putObj_heap_other (by omega)).trans (k.block q hq hn)⟩
/-- What stands in each round of a range over a text. -/
structure ItS (w : World) (B : Nat) (s : ByteArray) (pos : Nat) (v : Value) (ls : List (List UInt8)) (W : World) : Prop where
  it : W.heap[B]? = some (.stringIter s pos)
  row : TextsO w.heap.size W v ls
  keeps : Keeps w W (fun _ => False)
theorem ItS.next {w W : World} {B : Nat} {s : ByteArray} {pos : Nat} {v : Value} {ls : List (List UInt8)} (h : ItS w B s pos v ls W) (hB : w.heap.size ≤ B) (p2 : Nat) : ItS w B s p2 v ls (W.putObj B (.stringIter s p2)) :=
  ⟨World.putObj_heap_same (heap_lt h.it), h.row.put h.it _, h.keeps.putT hB _⟩
theorem ItS.more {w W : World} {B : Nat} {s : ByteArray} {pos : Nat} {v : Value} {ls : List (List UInt8)} (h : ItS w B s pos v ls W) (x : List UInt8) (hn : ls.length ≤ 8388608) :
    ∃ g c w', (∀ ty, (Builtin.append_ #[42, 42] ty #[v, .slice (some ⟨W.heap.size, 0, none⟩) 1 1]).run Tryd.prog (W.alloc (.cells #[strV x] 9)) = .ok (.slice (some ⟨g, 0, none⟩) (ls.length + 1) c) w') ∧ ItS w B s pos (.slice (some ⟨g, 0, none⟩) (ls.length + 1) c) (ls ++ [x]) w' := by
  obtain ⟨g, c, w', h1, h2, h3⟩ := h.row.more x hn h.keeps.size
  have hnb : ¬ v.ownBlock = some B := fun e => by
    obtain ⟨-, cur, hc⟩ := ownsRow_block h.row e
    rw [h.it] at hc
    cases hc
  exact ⟨g, c, w', h1, (h3.block _ (heap_lt h.it) hnb).trans h.it, h2, h.keeps.trans h3 (fun q hq e => by
    have := (ownsRow_block h.row e).1
    omega)⟩
theorem decode_ten (s : ByteArray) (pos : Nat) (h : pos < s.size) (c : Nat) (hc : c < 128) : ((Utf8.decode s pos).1 = c ↔ (s[pos]'h).toNat = c) ∧ ((s[pos]'h).toNat < 128 → (Utf8.decode s pos).2 = 1) := by
  by_cases h128 : (s[pos]'h).toNat < 128
  · rw [decode_ascii s pos h h128]
    exact ⟨Iff.rfl, fun _ => rfl⟩
  · refine ⟨⟨fun e => ?_, fun e => by omega⟩, fun e => absurd e h128⟩
    exfalso
    have hb : 128 ≤ (Utf8.decode s pos).1 := by
      have e0 : s.get! (pos + 0) = s[pos]'h := get_at s pos h
      have hr : 128 ≤ Utf8.runeError := by decide
      unfold Utf8.decode
      simp only [e0]
      rw [if_neg h128]
      split
      · split
        · assumption
        · exact hr
      · split
        · split
          · rename_i q
            simp only [Bool.and_eq_true, decide_eq_true_eq] at q
            exact Nat.le_trans (by decide) q.1
          · exact hr
        · split
          · split
            · rename_i q
              simp only [Bool.and_eq_true, decide_eq_true_eq] at q
              exact Nat.le_trans (by decide) q.1
            · exact hr
          · exact hr
    omega
end Go.Proofs.YtfpiibccggjjpaaDoor
/-
  script: linesOf, its walk.
-/
namespace Go.Proofs.YtfpiibccggjjpaaDoor
open Go.RowKit
set_option linter.unusedVariables false
set_option maxRecDepth 100000 in
set_option maxHeartbeats 4000000 in
theorem lines_any (s : ByteArray) (hs : s.size ≤ 8388608) (w : World) : Calls Tryd.prog 17 #[.string s] w fun e w' => TextsP (linesD s.data.toList) w e w' := by
  have hsz : s.data.toList.length = s.size := rfl
  go_enter Tryd.func17, Tryd.ntmps17
  go_wp2_with fail
  go_loopg [3, 4] s.size (fun gm v3 v4 wr => ∃ pos : Nat, gm = s.size - pos ∧ pos ≤ s.size ∧ v4 = .int .i64 ((pos - (lnF (s.data.toList.take pos)).2.length : Nat) : Int) ∧ ItS w w.heap.size s pos v3 (lnF (s.data.toList.take pos)).1 wr)
  case atStart => exact ⟨0, rfl, Nat.zero_le _, rfl, by have := World.iter_heap w s 0; simpa using this, ⟨rfl, Or.inl ⟨rfl, rfl⟩⟩, (Keeps.refl _ _).alloc _⟩
  case round =>
    obtain ⟨pos, rfl, hi, rfl, hp⟩ := hrel
    obtain ⟨hc1, hc2⟩ := lnF_cur s.data.toList pos (by omega)
    have hfew := lnF_few s.data.toList pos (by omega)
    obtain ⟨f, hf⟩ : ∃ f, pos - (lnF (s.data.toList.take pos)).2.length = f := ⟨_, rfl⟩
    rw [hf] at hc2 ⊢
    have hfi : f ≤ pos := by omega
    have hfi' : (f : Int) ≤ (pos : Int) := by omega
    have hf0 : (0 : Int) ≤ (f : Int) := by omega
    by_cases hlt : pos < s.size
    · have hi' : (pos : Int) ≤ (s.size : Int) := by omega
      have hN := fun ty => nextT_any (P := Tryd.prog) ty hp.it hlt
      obtain ⟨d1, d2, d3⟩ := decode_step s pos hlt
      obtain ⟨e1, e2⟩ := decode_ten s pos hlt 10 (by omega)
      obtain ⟨r, hr⟩ : ∃ r, (Utf8.decode s pos).1 = r := ⟨_, rfl⟩
      obtain ⟨k, hk⟩ : ∃ k, (Utf8.decode s pos).2 = k := ⟨_, rfl⟩
      rw [hr] at hN e1
      rw [hk] at hN d1 d2 d3 e2
      obtain ⟨x, hx⟩ : ∃ x, s[pos] = x := ⟨_, rfl⟩
      have hxl : s.data.toList[pos]'(by omega) = x := hx
      rw [hx] at e1 e2
      have hp2 := hp.next (Nat.le_refl _) (pos + k)
      have Hwr := hide (wr64s (n := pos) (by omega))
      have Hms : Hid (s.size - (pos + k) < s.size - pos) := by show s.size - (pos + k) < s.size - pos; omega
      have Hle : Hid (pos + k ≤ s.size) := d2
      by_cases h10 : x.toNat = 10
      · have hk1 : k = 1 := e2 (by omega)
        subst hk1
        have hr10 : r = 10 := e1.2 h10
        subst hr10
        have hx10 : x = 10 := UInt8.toNat_inj.1 h10
        have hE := lnF_end (l := s.data.toList) (by omega) (hxl.trans hx10)
        obtain ⟨g1, c1, w1, hap, hT⟩ := hp2.more (lnF (s.data.toList.take pos)).2 (by omega)
        have e3 : strV (lnF (s.data.toList.take pos)).2 = .string (s.extract f pos) := by rw [extract_eq, ← hc2]; rfl
        rw [e3] at hap
        have HN : Hid (ItS w w.heap.size s (pos + 1) (.slice (some ⟨g1, 0, none⟩) ((lnF (s.data.toList.take pos)).1.length + 1) c1) (lnF (s.data.toList.take (pos + 1))).1 w1 ∧ pos + 1 - (lnF (s.data.toList.take (pos + 1))).2.length = pos + 1) := by
          rw [hE]
          exact ⟨hT, rfl⟩
        clear hp hp2 hT hE e3 hxl hc1 hc2 hf hsz d1 d2 d3 e1 e2 hx h10 hx10 hr hk
        generalize (lnF (s.data.toList.take pos)).1.length = m at *
        generalize wr.putObj w.heap.size (.stringIter s (pos + 1)) = W1 at *
        clear hfew hs hi hlt hfi
        obtain ⟨a6, a7⟩ := Hwr.out
        go_wp2_with (first | (at_builtin; have _t := hap; refine app_run _ rfl (.tmp 15) (.tmp 20) 42 rfl rfl rfl hap ?_; clear hap))
        go_roundg (s.size - (pos + 1))
        case measure => exact Hms.out
        case rel => exact ⟨pos + 1, rfl, Hle.out, by rw [HN.out.2]; go_num, HN.out.1⟩
      · have hr10 : ¬ r = 10 := fun e => h10 (e1.1 e)
        have y1 : ((r : Int) == 10) = false := by
          rw [beq_eq_false_iff_ne]
          omega
        have hE := lnF_skip (l := s.data.toList) (i := pos) k (by omega) (fun j hj h1 h2 => by
          by_cases hjp : j = pos
          · subst hjp
            rw [hxl]
            intro e
            exact h10 (by rw [e]; rfl)
          · have := d3 j hj (by omega) h2
            intro e
            have e5 : (s[j]'hj) = 10 := e
            rw [e5] at this
            exact absurd this (by decide))
        have HN : Hid (ItS w w.heap.size s (pos + k) u3 (lnF (s.data.toList.take (pos + k))).1 (wr.putObj w.heap.size (.stringIter s (pos + k))) ∧ pos + k - (lnF (s.data.toList.take (pos + k))).2.length = f) := by
          rw [hE]
          refine ⟨hp2, ?_⟩
          rw [List.length_append, List.length_take, List.length_drop]
          omega
        clear hp hp2 hE hxl hc1 hc2 hf hsz d1 d2 d3 e1 e2 hx h10 hr hk hr10
        go_wp2_with fail
        go_roundg (s.size - (pos + k))
        case measure => exact Hms.out
        case rel => exact ⟨pos + k, rfl, Hle.out, by rw [HN.out.2], HN.out.1⟩
    · obtain rfl : pos = s.size := by omega
      have hN := fun ty => nextT_end (P := Tryd.prog) ty hp.it hlt
      rw [List.take_of_length_le (Nat.le_of_eq hsz)] at hp hc2 hf hc1 hfew
      by_cases h0 : (lnF s.data.toList).2 = []
      · have hfs : f = s.size := by rw [h0] at hf; simp at hf; omega
        have hff : ¬ (f : Int) < (s.size : Int) := by omega
        have HN : Hid (TextsP (linesD s.data.toList) w (.returned u3) wr) := ⟨u3, rfl, by unfold linesD; rw [if_pos h0]; exact hp.row, hp.keeps⟩
        clear hp hc1 hc2 hf hsz h0 hfew
        go_wp2_with fail
        refine bodyPost_ret (v := u3) (by simp [results, Tryd.results17, go_sem]) rfl ?_
        exact HN.out
      · have hne : 0 < (lnF s.data.toList).2.length := by
          rcases Nat.eq_zero_or_pos (lnF s.data.toList).2.length with e | e
          · exact absurd (List.eq_nil_of_length_eq_zero e) h0
          · exact e
        have hff : (f : Int) < (s.size : Int) := by omega
        obtain ⟨g1, c1, w1, hap, hT⟩ := hp.more (lnF s.data.toList).2 (by omega)
        have e1 : strV (lnF s.data.toList).2 = .string (s.extract f s.size) := by
          rw [extract_eq, List.take_of_length_le (Nat.le_of_eq hsz), ← hc2]
          rfl
        rw [e1] at hap
        have HN : Hid (TextsP (linesD s.data.toList) w (.returned (.slice (some ⟨g1, 0, none⟩) ((lnF s.data.toList).1.length + 1) c1)) w1) := ⟨_, rfl, by unfold linesD; rw [if_neg h0]; exact hT.row, hT.keeps⟩
        clear hp hT e1 hc1 hc2 hf hsz h0 hfew hne
        generalize (lnF s.data.toList).1.length = m at *
        go_wp2_with (first | (at_builtin; have _t := hap; refine app_run _ rfl (.tmp 28) (.tmp 32) 42 rfl rfl rfl hap ?_; clear hap))
        refine bodyPost_ret (v := .slice (some ⟨g1, 0, none⟩) (m + 1) c1) (by simp [results, Tryd.results17, go_sem]) rfl ?_
        exact HN.out
end Go.Proofs.YtfpiibccggjjpaaDoor
/-
  script: a line's words as data: laws.
-/
namespace Go.Proofs.YtfpiibccggjjpaaDoor
open Go.RowKit
set_option linter.unusedVariables false
theorem wdS_rem {st : WdS} (h : st.rem = true) (x : UInt8) : wdS st x = st := by
  unfold wdS
  rw [if_pos h]
theorem wdS_out_blank {st : WdS} (h : st.rem = false) (hc : st.cur = []) {x : UInt8} (hb : blank x = true) : wdS st x = st := by
  unfold wdS
  rw [if_neg (by rw [h]; decide), if_pos hc, if_pos hb]
theorem wdS_out_hash {st : WdS} (h : st.rem = false) (hc : st.cur = []) : wdS st 35 = ⟨st.ws, [], true⟩ := by
  unfold wdS
  rw [if_neg (by rw [h]; decide), if_pos hc, if_neg (by decide), if_pos rfl]
theorem wdS_out {st : WdS} (h : st.rem = false) (hc : st.cur = []) {x : UInt8} (hb : blank x = false) (hx : x ≠ 35) : wdS st x = ⟨st.ws, [x], false⟩ := by
  unfold wdS
  rw [if_neg (by rw [h]; decide), if_pos hc, if_neg (by rw [hb]; decide), if_neg hx]
theorem wdS_in_blank {st : WdS} (h : st.rem = false) (hc : st.cur ≠ []) {x : UInt8} (hb : blank x = true) : wdS st x = ⟨st.ws ++ [st.cur], [], false⟩ := by
  unfold wdS
  rw [if_neg (by rw [h]; decide), if_neg hc, if_pos hb]
theorem wdS_in {st : WdS} (h : st.rem = false) (hc : st.cur ≠ []) {x : UInt8} (hb : blank x = false) : wdS st x = ⟨st.ws, st.cur ++ [x], false⟩ := by
  unfold wdS
  rw [if_neg (by rw [h]; decide), if_neg hc, if_neg (by rw [hb]; decide)]
/-- Several bytes of one word. -/
theorem wdF_skip {l : List UInt8} {i : Nat} (hr : (wdF (l.take i)).rem = false) (h0 : (wdF (l.take i)).cur ≠ [] ∨ ∀ (h : i < l.length), l[i] ≠ 35) : ∀ k, i + k ≤ l.length → (∀ j (h : j < l.length), i ≤ j → j < i + k → blank l[j] = false) → wdF (l.take (i + k)) = ⟨(wdF (l.take i)).ws, (wdF (l.take i)).cur ++ (l.drop i).take k, false⟩
  | 0, _, _ => by
    simp only [Nat.add_zero, List.take_zero, List.append_nil]
    rw [← hr]
  | k + 1, h, hx => by
    have ih := wdF_skip hr h0 k (by omega) (fun j hj h1 h2 => hx j hj h1 (by omega))
    have hlt : i + k < l.length := by omega
    have hb := hx _ hlt (by omega) (by omega)
    have e : (l.drop i).take (k + 1) = (l.drop i).take k ++ [l[i + k]] := by
      rw [List.take_succ_eq_append_getElem (by rw [List.length_drop]; omega), List.getElem_drop]
    rw [show i + (k + 1) = i + k + 1 by omega, wdF_take hlt, ih, e, ← List.append_assoc]
    by_cases hc : (wdF (l.take i)).cur ++ (l.drop i).take k = []
    · have hk : k = 0 := by
        have := congrArg List.length (List.append_eq_nil_iff.1 hc).2
        rw [List.length_take, List.length_drop] at this
        simp at this
        omega
      subst hk
      have hc0 := (List.append_eq_nil_iff.1 hc).1
      have hne : l[i + 0] ≠ 35 := by
        rcases h0 with q | q
        · exact absurd hc0 q
        · exact q (by omega)
      rw [wdS_out rfl hc hb hne, hc]
      rfl
    · rw [wdS_in rfl hc hb]
/-- The word under way is the line's end. -/
theorem wdF_cur (l : List UInt8) : ∀ i, i ≤ l.length → (wdF (l.take i)).cur.length ≤ i ∧ (wdF (l.take i)).ws.length ≤ i ∧ (wdF (l.take i)).cur = (l.take i).drop (i - (wdF (l.take i)).cur.length) ∧ ((wdF (l.take i)).rem = true → (wdF (l.take i)).cur = [])
  | 0, _ => by simp [wdF]
  | i + 1, h => by
    obtain ⟨a, b, c, d⟩ := wdF_cur l i (by omega)
    have hlt : i < l.length := by omega
    rw [wdF_take hlt]
    generalize hst : wdF (l.take i) = st at *
    cases hr : st.rem with
    | true =>
      rw [wdS_rem hr, d hr]
      refine ⟨Nat.zero_le _, by omega, by simp, fun _ => rfl⟩
    | false =>
      by_cases hc : st.cur = []
      · cases hb : blank l[i] with
        | true =>
          rw [wdS_out_blank hr hc hb, hc]
          exact ⟨Nat.zero_le _, by omega, by simp, fun _ => rfl⟩
        | false =>
          by_cases hx : l[i] = 35
          · rw [hx, wdS_out_hash hr hc]
            exact ⟨Nat.zero_le _, by show st.ws.length ≤ _; omega, by simp, fun _ => rfl⟩
          · rw [wdS_out hr hc hb hx]
            refine ⟨by simp, by show st.ws.length ≤ _; omega, ?_, fun e => by cases e⟩
            show [l[i]] = _
            rw [List.take_succ_eq_append_getElem hlt]
            have e1 : (l.take i).length = i := by rw [List.length_take]; omega
            exact (List.drop_left' (l₁ := l.take i) (l₂ := [l[i]]) (by rw [e1]; show i = i + 1 - 1; omega)).symm
      · cases hb : blank l[i] with
        | true =>
          rw [wdS_in_blank hr hc hb]
          exact ⟨Nat.zero_le _, by simp; omega, by simp, fun e => by cases e⟩
        | false =>
          rw [wdS_in hr hc hb]
          refine ⟨by simp; omega, by show st.ws.length ≤ _; omega, ?_, fun e => by cases e⟩
          show st.cur ++ [l[i]] = _
          rw [List.take_succ_eq_append_getElem hlt, List.drop_append_of_le_length (by rw [List.length_take]; show i + 1 - (st.cur ++ [l[i]]).length ≤ _; rw [List.length_append, List.length_singleton]; omega)]
          congr 1
          simp only [List.length_append, List.length_singleton]
          rw [show i + 1 - (st.cur.length + 1) = i - st.cur.length by omega]
          exact c
end Go.Proofs.YtfpiibccggjjpaaDoor
/-
  script: the lines of a text and the words of a line, put together again (as data).
-/
namespace Go.Proofs.YtfpiibccggjjpaaDoor
open Go.RowKit
set_option linter.unusedVariables false

theorem ln_fold (l : List UInt8) : ∀ (ls : List (List UInt8)) (c : List UInt8), l.foldl lnS (ls, c) = (ls ++ (l.foldl lnS ([], c)).1, (l.foldl lnS ([], c)).2) := by
  induction l with
  | nil => intro ls c; simp
  | cons x t ih =>
    intro ls c
    rw [List.foldl_cons, List.foldl_cons]
    unfold lnS
    by_cases h : x = 10
    · rw [if_pos h, if_pos h]
      show List.foldl lnS (ls ++ [c], []) t = (ls ++ (List.foldl lnS ([] ++ [c], []) t).1, (List.foldl lnS ([] ++ [c], []) t).2)
      rw [ih (ls ++ [c]) [], ih ([] ++ [c]) []]
      simp
    · rw [if_neg h, if_neg h]
      exact ih ls (c ++ [x])
theorem ln_plain (l : List UInt8) (h : (10 : UInt8) ∉ l) : ∀ c : List UInt8, l.foldl lnS ([], c) = ([], c ++ l) := by
  induction l with
  | nil => intro c; simp
  | cons x t ih =>
    intro c
    have hx : ¬ x = 10 := fun e => h (by rw [e]; exact List.mem_cons_self)
    rw [List.foldl_cons]
    unfold lnS
    rw [if_neg hx]
    show List.foldl lnS ([], c ++ [x]) t = _
    rw [ih (fun q => h (List.mem_cons_of_mem _ q))]
    simp
/-- A line with its end, and what follows. -/
theorem lines_cons (a r : List UInt8) (h : (10 : UInt8) ∉ a) : linesD (a ++ [10] ++ r) = a :: linesD r := by
  have e : lnF (a ++ [10] ++ r) = (a :: (lnF r).1, (lnF r).2) := by
    unfold lnF
    rw [List.foldl_append, List.foldl_append, ln_plain a h, List.nil_append]
    show List.foldl lnS ([] ++ [a], []) r = _
    rw [ln_fold r ([] ++ [a]) []]
    rfl
  unfold linesD
  rw [e]
  dsimp only
  split
  · rfl
  · rfl
theorem lines_nil : linesD [] = [] := rfl
/-- A word: it has no blank and no end of a line, and does not open a remark. -/
def Wd (x : List UInt8) : Prop := x ≠ [] ∧ (∀ y, y ∈ x → blank y = false ∧ y ≠ 10) ∧ x[0]? ≠ some 35
theorem wd_word (x : List UInt8) (h : ∀ y, y ∈ x → blank y = false) : ∀ (acc : List (List UInt8)) (c : List UInt8), c ≠ [] → x.foldl wdS ⟨acc, c, false⟩ = ⟨acc, c ++ x, false⟩ := by
  induction x with
  | nil => intro acc c _; simp
  | cons y t ih =>
    intro acc c hc
    rw [List.foldl_cons, wdS_in (st := ⟨acc, c, false⟩) rfl hc (h y List.mem_cons_self)]
    rw [ih (fun z hz => h z (List.mem_cons_of_mem _ hz)) acc (c ++ [y]) (by simp)]
    simp
theorem wd_first {x : List UInt8} (h : Wd x) (acc : List (List UInt8)) : x.foldl wdS ⟨acc, [], false⟩ = ⟨acc, x, false⟩ := by
  cases x with
  | nil => exact absurd rfl h.1
  | cons y t =>
    have hy : y ≠ 35 := fun e => h.2.2 (by rw [e]; rfl)
    rw [List.foldl_cons, wdS_out (st := ⟨acc, [], false⟩) rfl rfl (h.2.1 y List.mem_cons_self).1 hy]
    exact wd_word t (fun z hz => (h.2.1 z (List.mem_cons_of_mem _ hz)).1) acc [y] (by simp)
/-- What the words under way come to. -/
def wdE (st : WdS) : List (List UInt8) := if st.cur = [] then st.ws else st.ws ++ [st.cur]
theorem wds_eq (l : List UInt8) : wdsD l = wdE (wdF l) := rfl
theorem wd_tail (ws : List (List UInt8)) (h : ∀ x, x ∈ ws → Wd x) : ∀ (acc : List (List UInt8)) (c : List UInt8), c ≠ [] → wdE ((ws.flatMap (fun x => 32 :: x)).foldl wdS ⟨acc, c, false⟩) = acc ++ c :: ws := by
  induction ws with
  | nil =>
    intro acc c hc
    show wdE ⟨acc, c, false⟩ = _
    unfold wdE
    rw [if_neg hc]
  | cons x t ih =>
    intro acc c hc
    have hx := h x List.mem_cons_self
    rw [List.flatMap_cons, List.foldl_append, List.foldl_cons, wdS_in_blank (st := ⟨acc, c, false⟩) rfl hc (x := 32) (by decide), wd_first hx]
    rw [ih (fun y hy => h y (List.mem_cons_of_mem _ hy)) (acc ++ [c]) x hx.1]
    simp
/-- A name and words behind it, a blank ahead of each. -/
theorem words_line (a : List UInt8) (ws : List (List UInt8)) (ha : Wd a) (h : ∀ x, x ∈ ws → Wd x) : wdsD (a ++ ws.flatMap (fun x => 32 :: x)) = a :: ws := by
  rw [wds_eq]
  unfold wdF
  rw [List.foldl_append, wd_first ha]
  exact wd_tail ws h [] a ha.1
theorem no_end (a : List UInt8) (ws : List (List UInt8)) (ha : Wd a) (h : ∀ x, x ∈ ws → Wd x) : (10 : UInt8) ∉ a ++ ws.flatMap (fun x => 32 :: x) := fun q => by
  rcases List.mem_append.1 q with q | q
  · exact (ha.2.1 10 q).2 rfl
  · obtain ⟨x, hx, hy⟩ := List.mem_flatMap.1 q
    rcases List.mem_cons.1 hy with e | e
    · cases e
    · exact ((h x hx).2.1 10 e).2 rfl
end Go.Proofs.YtfpiibccggjjpaaDoor
