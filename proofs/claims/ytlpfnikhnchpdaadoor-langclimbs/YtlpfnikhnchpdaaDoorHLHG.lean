/-
  lang: the texts of LangClimbs, as data. (Made by a script.)
-/
import Derived.Test.YtlpfnikhnchpdaaDoorLn11
namespace Go.Proofs.YtlpfnikhnchpdaaDoor
namespace Lg
open Go.RowKit
set_option linter.unusedVariables false
def opA : List Bs := [[124, 124], [38, 38], [61, 61], [33, 61], [60], [60, 61], [62], [62, 61], [43], [45], [42], [47], [37]]
def strA : List Nat := [1, 2, 3, 3, 3, 3, 3, 3, 4, 4, 5, 5, 5]
def opD (i : Nat) : Bs := opA.getD i []
def strD (i : Nat) : Nat := strA.getD i 0
/-- The text. -/
def textD (i j : Nat) (s : Bool) : Bs := ((((if s then [112, 114, 105, 110, 116, 32, 45, 49] else [112, 114, 105, 110, 116, 32, 49]) ++ opD i) ++ [50]) ++ opD j) ++ [51, 59]
def oneD (s : Bool) : Ex := if s then .mk 6 0 [] [45] [exNum 1] else exNum 1
def wantD (i j : Nat) (s : Bool) : Ex := if strD i < strD j then exBin (opD i) (oneD s) (exBin (opD j) (exNum 2) (exNum 3)) else exBin (opD j) (exBin (opD i) (oneD s) (exNum 2)) (exNum 3)
def climbD (i j : Nat) (s : Bool) : Pg × Nat × Nat := if strD i == 3 && strD j == 3 then (⟨[], []⟩, 1, 230) else (⟨[], [.mk 5 [] [] [] [wantD i j s] [] []]⟩, 0, 0)
def casesD : List (Nat × Nat × Bool) := (List.range 13).flatMap fun i => (List.range 13).flatMap fun j => [(i, j, true), (i, j, false)]
theorem climbs_all : casesD.map (fun c => parseD (textD c.1 c.2.1 c.2.2)) = casesD.map (fun c => climbD c.1 c.2.1 c.2.2) := by kernel_rfl
theorem climbs (i j : Nat) (s : Bool) (hi : i < 13) (hj : j < 13) : parseD (textD i j s) = climbD i j s := by
  have h := List.map_inj_left.1 climbs_all (i, j, s) (by
    simp only [casesD, List.mem_flatMap, List.mem_range]
    exact ⟨i, hi, j, hj, by cases s <;> simp⟩)
  exact h
set_option maxRecDepth 100000 in
set_option maxHeartbeats 2000000 in
theorem num_any (n : Int) (w : World) : Calls Tryd.prog 14 #[.int .i64 n] w fun e w' => e = .returned (.agg #[.int .i64 1, .int .i64 n, .string (sB []), .string (sB []), .slice none 0 0]) ∧ Keeps w w' (fun _ => False) := by
  go_enter Tryd.func14, Tryd.ntmps14
  go_wp2_with fail
  refine alloc1 (P := fun W => bodyPost _ _ _ _ _ W) fun W0 hg hz k0 => ?_
  have hX : Xc W0 w.heap.size (.int .i64 1) (.int .i64 n) (.string ⟨#[]⟩) (.string ⟨#[]⟩) (.slice none 0 0) := hg
  obtain ⟨⟨q0, q1, q2, q3, q4⟩, -⟩ := hX.cells
  refine bodyPost_ret (v := .agg #[.int .i64 1, .int .i64 n, .string ⟨#[]⟩, .string ⟨#[]⟩, .slice none 0 0]) (by simp [results, Tryd.results14, go_sem, q0, q1, q2, q3, q4]) rfl ?_
  exact ⟨rfl, k0⟩
/-- What join answers. -/
def JoinP (Pd : Nat → Prop) (w : World) (op : Bs) (x y : Ex) (e : Ending) (w' : World) : Prop :=
  ∃ g, e = .returned (.agg #[.int .i64 7, .int .i64 0, .string (sB []), .string (sB op), .slice (some ⟨g, 0, none⟩) 2 2]) ∧ ExC w' Pd (exBin op x y) [.int .i64 7, .int .i64 0, .string (sB []), .string (sB op), .slice (some ⟨g, 0, none⟩) 2 2] ∧ Keeps w w' (fun _ => False)

set_option maxRecDepth 100000 in
set_option maxHeartbeats 4000000 in
theorem join_any (op : Bs) {x y : Ex} {k n k2 n2 : Int} {nm o nm2 o2 : Bs} {sp sp2 : Option Addr} {sm sc sm2 sc2 : Nat} {Pd : Nat → Prop} (w : World) (hx : ExC w Pd x [.int .i64 k, .int .i64 n, .string (sB nm), .string (sB o), .slice sp sm sc]) (hy : ExC w Pd y [.int .i64 k2, .int .i64 n2, .string (sB nm2), .string (sB o2), .slice sp2 sm2 sc2]) (hn : ∀ i, w.heap.size ≤ i → Pd i) :
    Calls Tryd.prog 17 #[.string (sB op), .agg #[.int .i64 k, .int .i64 n, .string (sB nm), .string (sB o), .slice sp sm sc], .agg #[.int .i64 k2, .int .i64 n2, .string (sB nm2), .string (sB o2), .slice sp2 sm2 sc2]] w (JoinP Pd w op x y) := by
  have HX := hide hx
  have HY := hide hy
  clear hx hy
  go_enter Tryd.func17, Tryd.ntmps17
  go_upto_region 1 with fail
  refine alloc3v (P := fun W => Code.wp _ _ _ _ W) fun W0 h0 h1 h2 hz k0 => ?_
  replace h2 : W0.heap[w.heap.size + 1 + 1]? = _ := h2
  have X1 : Xc W0 w.heap.size (.int .i64 k) (.int .i64 n) (.string (sB nm)) (.string (sB o)) (.slice sp sm sc) := h0
  have X2 : Xc W0 (w.heap.size + 1) (.int .i64 k2) (.int .i64 n2) (.string (sB nm2)) (.string (sB o2)) (.slice sp2 sm2 sc2) := h1
  have X3 : X0 W0 (w.heap.size + 1 + 1) := h2
  obtain ⟨⟨a0, a1, a2, a3, a4⟩, -⟩ := X1.cells
  obtain ⟨⟨b0, b1, b2, b3, b4⟩, -⟩ := X2.cells
  have kA := (Keeps.refl W0 (fun _ => False)).alloc (.cells #[.int .i64 k, .int .i64 n, .string (sB nm), .string (sB o), .slice sp sm sc, .int .i64 k2, .int .i64 n2, .string (sB nm2), .string (sB o2), .slice sp2 sm2 sc2] 42)
  have hnew := hide (heap_alloc_new W0 (.cells #[.int .i64 k, .int .i64 n, .string (sB nm), .string (sB o), .slice sp sm sc, .int .i64 k2, .int .i64 n2, .string (sB nm2), .string (sB o2), .slice sp2 sm2 sc2] 42))
  have X4 := X3.keeps kA id
  obtain ⟨⟨c0, c1, c2, c3, c4⟩, f0, f1, f2, f3, f4⟩ := X4.cells
  have HK := hide (And.intro k0 (And.intro kA X4))
  have Hz := hide hz
  clear h0 h1 h2 hz k0 X1 X2 X3 X4 kA
  go_wp2_with fail
  refine set5 (P := fun W => bodyPost _ _ _ _ _ W) HK.out.2.2 fun W5 h11 k11 => ?_
  obtain ⟨⟨q0, q1, q2, q3, q4⟩, -⟩ := h11.cells
  refine bodyPost_ret (v := .agg #[.int .i64 7, .int .i64 0, .string ⟨#[]⟩, .string (sB op), .slice (some ⟨W0.heap.size, 0, none⟩) 2 2]) (by simp [results, Tryd.results17, go_sem, q0, q1, q2, q3, q4]) rfl ?_
  have hz := Hz.out
  obtain ⟨k0, kA, -⟩ := HK.out
  have hxA := HX.out.under.keeps (k0.trans kA (fun _ _ q => q)) (fun _ _ q => q)
  have hyA := HY.out.under.keeps (k0.trans kA (fun _ _ q => q)) (fun _ _ q => q)
  have hx5 := hxA.keeps k11 (fun i hi q => by have := hi.2; omega)
  have hy5 := hyA.keeps k11 (fun i hi q => by have := hi.2; omega)
  have hr := range_blk ((k11.block _ (heap_lt hnew.out) (fun q => by omega)).trans hnew.out)
  have hlt := Nat.lt_of_lt_of_le (heap_lt hnew.out) k11.size
  refine ⟨W0.heap.size, rfl, ExC.mk (ArgsV.some (args := [_, _]) (hn _ (by omega)) hlt (Nat.le_refl _) hr (ExsC.cons (hx5.mono (fun _ h => h.1)) (ExsC.cons (hy5.mono (fun _ h => h.1)) ExsC.nil))), (k0.trans kA (fun _ _ q => q)).trans k11 (fun i hi q => by omega)⟩

set_option maxRecDepth 100000 in
theorem strength_0 (w : World) : Calls Tryd.prog 16 #[.string ⟨#[124, 124]⟩] w fun e w' => e = .returned (.int .i64 1) ∧ w' = w := by
  go_enter Tryd.func16, Tryd.ntmps16
  go_wp2_with fail
  go_ret
  exact ⟨rfl, rfl⟩

set_option maxRecDepth 100000 in
theorem strength_1 (w : World) : Calls Tryd.prog 16 #[.string ⟨#[38, 38]⟩] w fun e w' => e = .returned (.int .i64 2) ∧ w' = w := by
  go_enter Tryd.func16, Tryd.ntmps16
  go_wp2_with fail
  go_ret
  exact ⟨rfl, rfl⟩

set_option maxRecDepth 100000 in
theorem strength_2 (w : World) : Calls Tryd.prog 16 #[.string ⟨#[61, 61]⟩] w fun e w' => e = .returned (.int .i64 3) ∧ w' = w := by
  go_enter Tryd.func16, Tryd.ntmps16
  go_wp2_with fail
  go_ret
  exact ⟨rfl, rfl⟩

set_option maxRecDepth 100000 in
theorem strength_3 (w : World) : Calls Tryd.prog 16 #[.string ⟨#[33, 61]⟩] w fun e w' => e = .returned (.int .i64 3) ∧ w' = w := by
  go_enter Tryd.func16, Tryd.ntmps16
  go_wp2_with fail
  go_ret
  exact ⟨rfl, rfl⟩

set_option maxRecDepth 100000 in
theorem strength_4 (w : World) : Calls Tryd.prog 16 #[.string ⟨#[60]⟩] w fun e w' => e = .returned (.int .i64 3) ∧ w' = w := by
  go_enter Tryd.func16, Tryd.ntmps16
  go_wp2_with fail
  go_ret
  exact ⟨rfl, rfl⟩

set_option maxRecDepth 100000 in
theorem strength_5 (w : World) : Calls Tryd.prog 16 #[.string ⟨#[60, 61]⟩] w fun e w' => e = .returned (.int .i64 3) ∧ w' = w := by
  go_enter Tryd.func16, Tryd.ntmps16
  go_wp2_with fail
  go_ret
  exact ⟨rfl, rfl⟩

set_option maxRecDepth 100000 in
theorem strength_6 (w : World) : Calls Tryd.prog 16 #[.string ⟨#[62]⟩] w fun e w' => e = .returned (.int .i64 3) ∧ w' = w := by
  go_enter Tryd.func16, Tryd.ntmps16
  go_wp2_with fail
  go_ret
  exact ⟨rfl, rfl⟩

set_option maxRecDepth 100000 in
theorem strength_7 (w : World) : Calls Tryd.prog 16 #[.string ⟨#[62, 61]⟩] w fun e w' => e = .returned (.int .i64 3) ∧ w' = w := by
  go_enter Tryd.func16, Tryd.ntmps16
  go_wp2_with fail
  go_ret
  exact ⟨rfl, rfl⟩

set_option maxRecDepth 100000 in
theorem strength_8 (w : World) : Calls Tryd.prog 16 #[.string ⟨#[43]⟩] w fun e w' => e = .returned (.int .i64 4) ∧ w' = w := by
  go_enter Tryd.func16, Tryd.ntmps16
  go_wp2_with fail
  go_ret
  exact ⟨rfl, rfl⟩

set_option maxRecDepth 100000 in
theorem strength_9 (w : World) : Calls Tryd.prog 16 #[.string ⟨#[45]⟩] w fun e w' => e = .returned (.int .i64 4) ∧ w' = w := by
  go_enter Tryd.func16, Tryd.ntmps16
  go_wp2_with fail
  go_ret
  exact ⟨rfl, rfl⟩

set_option maxRecDepth 100000 in
theorem strength_10 (w : World) : Calls Tryd.prog 16 #[.string ⟨#[42]⟩] w fun e w' => e = .returned (.int .i64 5) ∧ w' = w := by
  go_enter Tryd.func16, Tryd.ntmps16
  go_wp2_with fail
  go_ret
  exact ⟨rfl, rfl⟩

set_option maxRecDepth 100000 in
theorem strength_11 (w : World) : Calls Tryd.prog 16 #[.string ⟨#[47]⟩] w fun e w' => e = .returned (.int .i64 5) ∧ w' = w := by
  go_enter Tryd.func16, Tryd.ntmps16
  go_wp2_with fail
  go_ret
  exact ⟨rfl, rfl⟩

set_option maxRecDepth 100000 in
theorem strength_12 (w : World) : Calls Tryd.prog 16 #[.string ⟨#[37]⟩] w fun e w' => e = .returned (.int .i64 5) ∧ w' = w := by
  go_enter Tryd.func16, Tryd.ntmps16
  go_wp2_with fail
  go_ret
  exact ⟨rfl, rfl⟩
theorem strength_any (i : Nat) (hi : i < 13) (w : World) : Calls Tryd.prog 16 #[.string (sB (opD i))] w fun e w' => e = .returned (.int .i64 (strD i : Int)) ∧ w' = w :=
  match i, hi with
  | 0, _ => strength_0 w
  | 1, _ => strength_1 w
  | 2, _ => strength_2 w
  | 3, _ => strength_3 w
  | 4, _ => strength_4 w
  | 5, _ => strength_5 w
  | 6, _ => strength_6 w
  | 7, _ => strength_7 w
  | 8, _ => strength_8 w
  | 9, _ => strength_9 w
  | 10, _ => strength_10 w
  | 11, _ => strength_11 w
  | 12, _ => strength_12 w
end Lg
end Go.Proofs.YtlpfnikhnchpdaaDoor
