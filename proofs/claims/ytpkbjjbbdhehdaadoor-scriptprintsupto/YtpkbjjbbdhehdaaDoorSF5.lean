/-
  script: fieldWords.
-/
import Derived.Test.YtpkbjjbbdhehdaaDoorSF4
import Derived.Deep.Cut
namespace Go.Proofs.YtpkbjjbbdhehdaaDoor
open Go.RowKit
set_option linter.unusedVariables false
/-- What fieldWords answers: a list of its own. -/
def FldR (w : World) (ws : List ByteArray) (e : Ending) (w' : World) : Prop := ∃ r, e = .returned r ∧ ((r = .slice none 0 0 ∧ ws = []) ∨ ∃ g cap, r = .slice (some ⟨g, 0, none⟩) ws.length cap ∧ 0 < ws.length ∧ ∀ j u, (ws.map Value.string)[j]? = some u → w'.cell? ⟨g, j, none⟩ = some u) ∧ Keeps w w' (fun _ => False)
theorem fld_one {w w1 : World} (k : Keeps w w1 (fun _ => False)) (x : ByteArray) : FldR w [x] (.returned (.slice (some ⟨w1.heap.size, 0, none⟩) 1 1)) (w1.alloc (.cells #[.string x] 9)) := by
  refine ⟨_, rfl, Or.inr ⟨_, 1, rfl, by simp, fun j u hj => ?_⟩, k.alloc _⟩
  have hb := heap_alloc_new w1 (.cells #[.string x] 9)
  simp only [World.cell?, hb]
  simpa using hj
theorem fld_texts {w w0 : World} (k : Keeps w w0 (fun _ => False)) {l : List Int} {e : Ending} {w' : World} (h : TextsR w0 l e w') : FldR w (l.map numD) e w' := by
  obtain ⟨r, rfl, hown, hz, k1⟩ := h
  refine ⟨r, rfl, ?_, k.trans k1 (fun _ _ e => e)⟩
  rcases hown.2 with ⟨rfl, e0⟩ | ⟨g, cap, cur, rfl, -, -, -⟩
  · refine Or.inl ⟨rfl, ?_⟩
    have : l = [] := List.eq_nil_of_length_eq_zero (by omega)
    rw [this]
    rfl
  · have h0 : 0 < l.length := by
      rcases Nat.eq_zero_or_pos l.length with e | e
      · cases hz e
      · exact e
    refine Or.inr ⟨g, cap, by rw [List.length_map], by rw [List.length_map]; exact h0, fun j u hj => ?_⟩
    have hj2 : j < l.length := by
      have := (List.getElem?_eq_some_iff.1 hj).1
      simpa using this
    rw [hown.cellAt j (by omega)]
    simpa [Function.comp] using hj
/-- A command, as data; its two lists lie somewhere. -/
structure CmdD where
  op : Int
  h : Int
  u : Nat
  v : Nat
  n : Int
  key : ByteArray
  elem : ByteArray
  fl : List Int
  hl : List Int
def CmdD.vals (c : CmdD) (fs hs : Value) : Array Value := #[.int .i64 c.op, .int .i64 c.h, fs, hs, .int .u64 (c.u : Int), .int .u64 (c.v : Int), .int .i64 c.n, .string c.key, .string c.elem]
structure CmdIn (w : World) (c : CmdD) (fs hs : Value) : Prop where
  f : IntsIn w fs c.fl
  s : IntsIn w hs c.hl
  lf : c.fl.length ≤ 8388608
  ls : c.hl.length ≤ 8388608
  h : -9223372036854775808 ≤ c.h ∧ c.h ≤ 9223372036854775807
  n : -9223372036854775808 ≤ c.n ∧ c.n ≤ 9223372036854775807
  u : c.u < 18446744073709551616
  v : c.v < 18446744073709551616
  key : c.key.size ≤ 8388608
  elem : c.elem.size ≤ 8388608
theorem IntsIn.keeps {w w' : World} {v : Value} {l : List Int} (h : IntsIn w v l) (k : Keeps w w' (fun _ => False)) : IntsIn w' v l := by
  refine ⟨?_, h.fits⟩
  rcases h.form with h1 | ⟨a, c, e, hc⟩
  · exact Or.inl h1
  · exact Or.inr ⟨a, c, e, fun j hj => keeps_cell k (hc j hj)⟩
/-- The words of a field. -/
def fldD (c : CmdD) (p : Int) : List ByteArray := if p = 72 then [numD c.h] else if p = 78 then [numD c.n] else if p = 85 then [wordD c.u] else if p = 86 then [wordD c.v] else if p = 75 then [bytesD c.key] else if p = 69 then [bytesD c.elem] else if p = 70 then c.fl.map numD else if p = 83 then c.hl.map numD else []
theorem cmd_cells {W : World} {q : Nat} {c : CmdD} {fs hs : Value} {t : TypeId} (h : W.heap[q]? = some (.cells (c.vals fs hs) t)) : W.cell? ⟨q, 0, none⟩ = some (.int .i64 c.op) ∧ W.cell? ⟨q, 1, none⟩ = some (.int .i64 c.h) ∧ W.cell? ⟨q, 2, none⟩ = some fs ∧ W.cell? ⟨q, 3, none⟩ = some hs ∧ W.cell? ⟨q, 4, none⟩ = some (.int .u64 (c.u : Int)) ∧ W.cell? ⟨q, 5, none⟩ = some (.int .u64 (c.v : Int)) ∧ W.cell? ⟨q, 6, none⟩ = some (.int .i64 c.n) ∧ W.cell? ⟨q, 7, none⟩ = some (.string c.key) ∧ W.cell? ⟨q, 8, none⟩ = some (.string c.elem) := by
  simp [World.cell?, h, CmdD.vals]
theorem alloc1 {w : World} {o1 : Obj} {P : World → Prop} (h : ∀ W0, W0.heap[w.heap.size]? = some o1 → W0.heap.size = w.heap.size + 1 → Keeps w W0 (fun _ => False) → P W0) : P (w.alloc o1) :=
  h _ (heap_alloc_new w o1) (by simp) ((Keeps.refl _ _).alloc _)
set_option maxRecDepth 100000 in
set_option maxHeartbeats 2000000 in
theorem fld_72 (c : CmdD) (fs hs : Value) (w : World) (hc : CmdIn w c fs hs) (ht : TabW w) (hD : Deb w) : Calls Tryd.prog 18 #[.agg (c.vals fs hs), .int .i32 72] w fun e w' => FldR w (fldD c 72) e w' := by
  have HC := hide (fun (W : World) (k : Keeps w W (fun _ => False)) => ntext_any c.h hc.h.1 hc.h.2 W (ht.keeps k))
  rw [show fldD c 72 = [numD c.h] from rfl]
  have hv : c.vals fs hs = #[.int .i64 c.op, .int .i64 c.h, fs, hs, .int .u64 (c.u : Int), .int .u64 (c.v : Int), .int .i64 c.n, .string c.key, .string c.elem] := rfl
  rw [hv]
  go_enter Tryd.func18, Tryd.ntmps18
  go_upto_region 1 with fail
  refine alloc1 (P := fun W => Code.wp _ _ _ _ W) fun W0 hb hz k0 => ?_
  obtain ⟨c0, c1, c2, c3, c4, c5, c6, c7, c8⟩ := cmd_cells hb
  clear hb hz hc ht hD hv
  go_wp2_with fail
  (with_reducible refine (HC.out W0 k0).mono ?_)
  rintro e w1 ⟨rfl, k1⟩
  have HF := hide (fld_one (k0.trans k1 (fun _ _ e => e)) (numD c.h))
  clear HC c0 c1 c2 c3 c4 c5 c6 c7 c8
  go_wp2_with fail
  go_ret
  exact HF.out
set_option maxRecDepth 100000 in
set_option maxHeartbeats 2000000 in
theorem fld_78 (c : CmdD) (fs hs : Value) (w : World) (hc : CmdIn w c fs hs) (ht : TabW w) (hD : Deb w) : Calls Tryd.prog 18 #[.agg (c.vals fs hs), .int .i32 78] w fun e w' => FldR w (fldD c 78) e w' := by
  have HC := hide (fun (W : World) (k : Keeps w W (fun _ => False)) => ntext_any c.n hc.n.1 hc.n.2 W (ht.keeps k))
  rw [show fldD c 78 = [numD c.n] from rfl]
  have hv : c.vals fs hs = #[.int .i64 c.op, .int .i64 c.h, fs, hs, .int .u64 (c.u : Int), .int .u64 (c.v : Int), .int .i64 c.n, .string c.key, .string c.elem] := rfl
  rw [hv]
  go_enter Tryd.func18, Tryd.ntmps18
  go_upto_region 1 with fail
  refine alloc1 (P := fun W => Code.wp _ _ _ _ W) fun W0 hb hz k0 => ?_
  obtain ⟨c0, c1, c2, c3, c4, c5, c6, c7, c8⟩ := cmd_cells hb
  clear hb hz hc ht hD hv
  go_wp2_with fail
  (with_reducible refine (HC.out W0 k0).mono ?_)
  rintro e w1 ⟨rfl, k1⟩
  have HF := hide (fld_one (k0.trans k1 (fun _ _ e => e)) (numD c.n))
  clear HC c0 c1 c2 c3 c4 c5 c6 c7 c8
  go_wp2_with fail
  go_ret
  exact HF.out
set_option maxRecDepth 100000 in
set_option maxHeartbeats 2000000 in
theorem fld_85 (c : CmdD) (fs hs : Value) (w : World) (hc : CmdIn w c fs hs) (ht : TabW w) (hD : Deb w) : Calls Tryd.prog 18 #[.agg (c.vals fs hs), .int .i32 85] w fun e w' => FldR w (fldD c 85) e w' := by
  have HC := hide (fun (W : World) (k : Keeps w W (fun _ => False)) => wtext_any c.u hc.u W (hD.keeps k))
  rw [show fldD c 85 = [wordD c.u] from rfl]
  have hv : c.vals fs hs = #[.int .i64 c.op, .int .i64 c.h, fs, hs, .int .u64 (c.u : Int), .int .u64 (c.v : Int), .int .i64 c.n, .string c.key, .string c.elem] := rfl
  rw [hv]
  go_enter Tryd.func18, Tryd.ntmps18
  go_upto_region 1 with fail
  refine alloc1 (P := fun W => Code.wp _ _ _ _ W) fun W0 hb hz k0 => ?_
  obtain ⟨c0, c1, c2, c3, c4, c5, c6, c7, c8⟩ := cmd_cells hb
  clear hb hz hc ht hD hv
  go_wp2_with fail
  (with_reducible refine (HC.out W0 k0).mono ?_)
  rintro e w1 ⟨rfl, k1⟩
  have HF := hide (fld_one (k0.trans k1 (fun _ _ e => e)) (wordD c.u))
  clear HC c0 c1 c2 c3 c4 c5 c6 c7 c8
  go_wp2_with fail
  go_ret
  exact HF.out
set_option maxRecDepth 100000 in
set_option maxHeartbeats 2000000 in
theorem fld_86 (c : CmdD) (fs hs : Value) (w : World) (hc : CmdIn w c fs hs) (ht : TabW w) (hD : Deb w) : Calls Tryd.prog 18 #[.agg (c.vals fs hs), .int .i32 86] w fun e w' => FldR w (fldD c 86) e w' := by
  have HC := hide (fun (W : World) (k : Keeps w W (fun _ => False)) => wtext_any c.v hc.v W (hD.keeps k))
  rw [show fldD c 86 = [wordD c.v] from rfl]
  have hv : c.vals fs hs = #[.int .i64 c.op, .int .i64 c.h, fs, hs, .int .u64 (c.u : Int), .int .u64 (c.v : Int), .int .i64 c.n, .string c.key, .string c.elem] := rfl
  rw [hv]
  go_enter Tryd.func18, Tryd.ntmps18
  go_upto_region 1 with fail
  refine alloc1 (P := fun W => Code.wp _ _ _ _ W) fun W0 hb hz k0 => ?_
  obtain ⟨c0, c1, c2, c3, c4, c5, c6, c7, c8⟩ := cmd_cells hb
  clear hb hz hc ht hD hv
  go_wp2_with fail
  (with_reducible refine (HC.out W0 k0).mono ?_)
  rintro e w1 ⟨rfl, k1⟩
  have HF := hide (fld_one (k0.trans k1 (fun _ _ e => e)) (wordD c.v))
  clear HC c0 c1 c2 c3 c4 c5 c6 c7 c8
  go_wp2_with fail
  go_ret
  exact HF.out
set_option maxRecDepth 100000 in
set_option maxHeartbeats 2000000 in
theorem fld_75 (c : CmdD) (fs hs : Value) (w : World) (hc : CmdIn w c fs hs) (ht : TabW w) (hD : Deb w) : Calls Tryd.prog 18 #[.agg (c.vals fs hs), .int .i32 75] w fun e w' => FldR w (fldD c 75) e w' := by
  have HC := hide (fun (W : World) (k : Keeps w W (fun _ => False)) => btext_any c.key hc.key W)
  rw [show fldD c 75 = [bytesD c.key] from rfl]
  have hv : c.vals fs hs = #[.int .i64 c.op, .int .i64 c.h, fs, hs, .int .u64 (c.u : Int), .int .u64 (c.v : Int), .int .i64 c.n, .string c.key, .string c.elem] := rfl
  rw [hv]
  go_enter Tryd.func18, Tryd.ntmps18
  go_upto_region 1 with fail
  refine alloc1 (P := fun W => Code.wp _ _ _ _ W) fun W0 hb hz k0 => ?_
  obtain ⟨c0, c1, c2, c3, c4, c5, c6, c7, c8⟩ := cmd_cells hb
  clear hb hz hc ht hD hv
  go_wp2_with fail
  (with_reducible refine (HC.out W0 k0).mono ?_)
  rintro e w1 ⟨rfl, k1⟩
  have HF := hide (fld_one (k0.trans k1 (fun _ _ e => e)) (bytesD c.key))
  clear HC c0 c1 c2 c3 c4 c5 c6 c7 c8
  go_wp2_with fail
  go_ret
  exact HF.out
set_option maxRecDepth 100000 in
set_option maxHeartbeats 2000000 in
theorem fld_69 (c : CmdD) (fs hs : Value) (w : World) (hc : CmdIn w c fs hs) (ht : TabW w) (hD : Deb w) : Calls Tryd.prog 18 #[.agg (c.vals fs hs), .int .i32 69] w fun e w' => FldR w (fldD c 69) e w' := by
  have HC := hide (fun (W : World) (k : Keeps w W (fun _ => False)) => btext_any c.elem hc.elem W)
  rw [show fldD c 69 = [bytesD c.elem] from rfl]
  have hv : c.vals fs hs = #[.int .i64 c.op, .int .i64 c.h, fs, hs, .int .u64 (c.u : Int), .int .u64 (c.v : Int), .int .i64 c.n, .string c.key, .string c.elem] := rfl
  rw [hv]
  go_enter Tryd.func18, Tryd.ntmps18
  go_upto_region 1 with fail
  refine alloc1 (P := fun W => Code.wp _ _ _ _ W) fun W0 hb hz k0 => ?_
  obtain ⟨c0, c1, c2, c3, c4, c5, c6, c7, c8⟩ := cmd_cells hb
  clear hb hz hc ht hD hv
  go_wp2_with fail
  (with_reducible refine (HC.out W0 k0).mono ?_)
  rintro e w1 ⟨rfl, k1⟩
  have HF := hide (fld_one (k0.trans k1 (fun _ _ e => e)) (bytesD c.elem))
  clear HC c0 c1 c2 c3 c4 c5 c6 c7 c8
  go_wp2_with fail
  go_ret
  exact HF.out
set_option maxRecDepth 100000 in
set_option maxHeartbeats 2000000 in
theorem fld_70 (c : CmdD) (fs hs : Value) (w : World) (hc : CmdIn w c fs hs) (ht : TabW w) (hD : Deb w) : Calls Tryd.prog 18 #[.agg (c.vals fs hs), .int .i32 70] w fun e w' => FldR w (fldD c 70) e w' := by
  have HC := hide (fun (W : World) (k : Keeps w W (fun _ => False)) => ntexts_any fs c.fl hc.lf W (hc.f.keeps k) (ht.keeps k))
  rw [show fldD c 70 = c.fl.map numD from rfl]
  have hv : c.vals fs hs = #[.int .i64 c.op, .int .i64 c.h, fs, hs, .int .u64 (c.u : Int), .int .u64 (c.v : Int), .int .i64 c.n, .string c.key, .string c.elem] := rfl
  rw [hv]
  go_enter Tryd.func18, Tryd.ntmps18
  go_upto_region 1 with fail
  refine alloc1 (P := fun W => Code.wp _ _ _ _ W) fun W0 hb hz k0 => ?_
  obtain ⟨c0, c1, c2, c3, c4, c5, c6, c7, c8⟩ := cmd_cells hb
  clear hb hz hc ht hD hv
  go_wp2_with fail
  (with_reducible refine (HC.out W0 k0).mono ?_)
  rintro e w1 hr
  have hF := fld_texts k0 hr
  obtain ⟨r, rfl, -⟩ := hr
  have HF := hide hF
  clear HC c0 c1 c2 c3 c4 c5 c6 c7 c8 hF
  go_wp2_with fail
  go_ret
  exact HF.out
set_option maxRecDepth 100000 in
set_option maxHeartbeats 2000000 in
theorem fld_83 (c : CmdD) (fs hs : Value) (w : World) (hc : CmdIn w c fs hs) (ht : TabW w) (hD : Deb w) : Calls Tryd.prog 18 #[.agg (c.vals fs hs), .int .i32 83] w fun e w' => FldR w (fldD c 83) e w' := by
  have HC := hide (fun (W : World) (k : Keeps w W (fun _ => False)) => ntexts_any hs c.hl hc.ls W (hc.s.keeps k) (ht.keeps k))
  rw [show fldD c 83 = c.hl.map numD from rfl]
  have hv : c.vals fs hs = #[.int .i64 c.op, .int .i64 c.h, fs, hs, .int .u64 (c.u : Int), .int .u64 (c.v : Int), .int .i64 c.n, .string c.key, .string c.elem] := rfl
  rw [hv]
  go_enter Tryd.func18, Tryd.ntmps18
  go_upto_region 1 with fail
  refine alloc1 (P := fun W => Code.wp _ _ _ _ W) fun W0 hb hz k0 => ?_
  obtain ⟨c0, c1, c2, c3, c4, c5, c6, c7, c8⟩ := cmd_cells hb
  clear hb hz hc ht hD hv
  go_wp2_with fail
  (with_reducible refine (HC.out W0 k0).mono ?_)
  rintro e w1 hr
  have hF := fld_texts k0 hr
  obtain ⟨r, rfl, -⟩ := hr
  have HF := hide hF
  clear HC c0 c1 c2 c3 c4 c5 c6 c7 c8 hF
  go_wp2_with fail
  go_ret
  exact HF.out
set_option maxRecDepth 100000 in
set_option maxHeartbeats 2000000 in
theorem fld_none (c : CmdD) (fs hs : Value) (p : Int) (w : World) (hp : p ≠ 72 ∧ p ≠ 78 ∧ p ≠ 85 ∧ p ≠ 86 ∧ p ≠ 75 ∧ p ≠ 69 ∧ p ≠ 70 ∧ p ≠ 83) : Calls Tryd.prog 18 #[.agg (c.vals fs hs), .int .i32 p] w fun e w' => FldR w (fldD c p) e w' := by
  obtain ⟨p1, p2, p3, p4, p5, p6, p7, p8⟩ := hp
  rw [show fldD c p = [] by unfold fldD; rw [if_neg p1, if_neg p2, if_neg p3, if_neg p4, if_neg p5, if_neg p6, if_neg p7, if_neg p8]]
  have hv : c.vals fs hs = #[.int .i64 c.op, .int .i64 c.h, fs, hs, .int .u64 (c.u : Int), .int .u64 (c.v : Int), .int .i64 c.n, .string c.key, .string c.elem] := rfl
  rw [hv]
  have y1 : (p == 72) = false := by simp [p1]
  have y2 : (p == 78) = false := by simp [p2]
  have y3 : (p == 85) = false := by simp [p3]
  have y4 : (p == 86) = false := by simp [p4]
  have y5 : (p == 75) = false := by simp [p5]
  have y6 : (p == 69) = false := by simp [p6]
  have y7 : (p == 70) = false := by simp [p7]
  have y8 : (p == 83) = false := by simp [p8]
  clear p1 p2 p3 p4 p5 p6 p7 p8 hv
  go_enter Tryd.func18, Tryd.ntmps18
  go_wp2_with fail
  go_ret
  exact ⟨_, rfl, Or.inl ⟨rfl, rfl⟩, (Keeps.refl _ _).alloc _⟩
theorem fld_any (c : CmdD) (fs hs : Value) (p : Int) (w : World) (hc : CmdIn w c fs hs) (ht : TabW w) (hD : Deb w) : Calls Tryd.prog 18 #[.agg (c.vals fs hs), .int .i32 p] w fun e w' => FldR w (fldD c p) e w' := by
  by_cases hp : p ≠ 72 ∧ p ≠ 78 ∧ p ≠ 85 ∧ p ≠ 86 ∧ p ≠ 75 ∧ p ≠ 69 ∧ p ≠ 70 ∧ p ≠ 83
  · exact fld_none c fs hs p w hp
  · have h8 : p = 72 ∨ p = 78 ∨ p = 85 ∨ p = 86 ∨ p = 75 ∨ p = 69 ∨ p = 70 ∨ p = 83 := by omega
    rcases h8 with h | h | h | h | h | h | h | h <;> subst h
    · exact fld_72 c fs hs w hc ht hD
    · exact fld_78 c fs hs w hc ht hD
    · exact fld_85 c fs hs w hc ht hD
    · exact fld_86 c fs hs w hc ht hD
    · exact fld_75 c fs hs w hc ht hD
    · exact fld_69 c fs hs w hc ht hD
    · exact fld_70 c fs hs w hc ht hD
    · exact fld_83 c fs hs w hc ht hD
end Go.Proofs.YtpkbjjbbdhehdaaDoor
