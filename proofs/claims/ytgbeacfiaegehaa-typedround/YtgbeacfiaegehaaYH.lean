/-
  typed: a Both of a text and a Both. (genYG.py)
-/
import Derived.Test.YtgbeacfiaegehaaYG
namespace Go.Proofs.Ytgbeacfiaegehaa
open Go.RowKit
open Fl
set_option linter.unusedVariables false
theorem three_set {w : World} {b : Nat} {u v t x y z : Value} (h0 : w.cell? ⟨b, 0, none⟩ = some u) (h1 : w.cell? ⟨b, 1, none⟩ = some v) (h2 : w.cell? ⟨b, 2, none⟩ = some t) : (((w.setCell ⟨b, 0, none⟩ x).setCell ⟨b, 1, none⟩ y).setCell ⟨b, 2, none⟩ z).cell? ⟨b, 0, none⟩ = some x ∧ (((w.setCell ⟨b, 0, none⟩ x).setCell ⟨b, 1, none⟩ y).setCell ⟨b, 2, none⟩ z).cell? ⟨b, 1, none⟩ = some y ∧ (((w.setCell ⟨b, 0, none⟩ x).setCell ⟨b, 1, none⟩ y).setCell ⟨b, 2, none⟩ z).cell? ⟨b, 2, none⟩ = some z := by
  obtain ⟨e0, e1⟩ := two_set h0 h1 (x := x) (y := y)
  have e2 : ((w.setCell ⟨b, 0, none⟩ x).setCell ⟨b, 1, none⟩ y).cell? ⟨b, 2, none⟩ = some t := (World.cell?_setCell_other _ _ _ _ (by simp)).trans ((World.cell?_setCell_other _ _ _ _ (by simp)).trans h2)
  exact ⟨(World.cell?_setCell_other _ _ _ _ (by simp)).trans e0, (World.cell?_setCell_other _ _ _ _ (by simp)).trans e1, World.cell?_setCell_same _ _ _ e2⟩
theorem three_keeps {w W : World} {b : Nat} (k : Keeps w W (fun _ => False)) (h : w.heap.size ≤ b) (x y z : Value) : Keeps w (((W.setCell ⟨b, 0, none⟩ x).setCell ⟨b, 1, none⟩ y).setCell ⟨b, 2, none⟩ z) (fun _ => False) :=
  (two_keeps k h x y).setCell ⟨b, 2, none⟩ (fun q => absurd q (by show ¬ b < w.heap.size; omega)) z
set_option maxRecDepth 100000 in
theorem bsb_Pack_no (m : Int) (v : ByteArray) (b : Bool) (i : Int) (h : inR m = false ∨ m < (v.size : Int)) (w : World) : Calls Try.prog 25 #[.agg #[.iface 50 (.agg #[.int .i64 m]), .iface 59 (.agg #[.iface 34 (.agg #[]), .iface 28 (.agg #[])])], .agg #[.string v, .bool b, .int .i64 i]] w fun e w' => e = .returned (.tuple #[.string ⟨#[]⟩, .bool false]) ∧ Keeps w w' (fun _ => False) := by
  have hP := tyt_Pack_no m v h
  have hm : ∀ w : World, (method 222 50 (.agg #[.int .i64 m]) "Pack").run Try.prog w = .ok (22, .agg #[.int .i64 m]) w := fun _ => by kernel_rfl
  go_enter Try.func25, Try.ntmps25
  go_wp2_with fail
  (with_reducible refine (hP _).mono ?_)
  rintro e w1 ⟨rfl, k1⟩
  go_wp2_with fail
  go_ret2
  exact ⟨rfl, (((Keeps.refl _ _).alloc _).alloc _).trans k1 (fun _ _ x => x)⟩
set_option maxRecDepth 100000 in
theorem bsb_Pack_yes (M : Nat) (v : ByteArray) (b : Bool) (i : Int) (hM : M ≤ 127) (hv : v.size ≤ M) (hi : I64 i) (w : World) : Calls Try.prog 25 #[.agg #[.iface 50 (.agg #[.int .i64 (M : Int)]), .iface 59 (.agg #[.iface 34 (.agg #[]), .iface 28 (.agg #[])])], .agg #[.string v, .bool b, .int .i64 i]] w fun e w' => e = .returned (.tuple #[.string (strOf (txB M v.data.toList ++ (bB b ++ be 8 (iB i)))), .bool true]) ∧ Keeps w w' (fun _ => False) := by
  have hP := tyt_Pack_yes M v hM hv
  have hQ := bbi_Pack b i hi
  have hz1 : (strOf (txB M v.data.toList)).size = M + 1 := by rw [strOf_size]; exact txB_length hv
  have hz2 : (strOf (bB b ++ be 8 (iB i))).size = 9 := by rw [strOf_size, List.length_append, be_length, bB_len]
  have hA := strOf_append (txB M v.data.toList) ((bB b ++ be 8 (iB i)))
  generalize strOf (txB M v.data.toList) = A at *
  generalize strOf (bB b ++ be 8 (iB i)) = B at *
  generalize strOf (txB M v.data.toList ++ (bB b ++ be 8 (iB i))) = C at *
  have hm : ∀ w : World, (method 222 50 (.agg #[.int .i64 (M : Int)]) "Pack").run Try.prog w = .ok (22, .agg #[.int .i64 (M : Int)]) w := fun _ => by kernel_rfl
  have hn : ∀ w : World, (method 222 59 (.agg #[.iface 34 (.agg #[]), .iface 28 (.agg #[])]) "Pack").run Try.prog w = .ok (79, .agg #[.iface 34 (.agg #[]), .iface 28 (.agg #[])]) w := fun _ => by kernel_rfl
  go_enter Try.func25, Try.ntmps25
  go_wp2_with fail
  (with_reducible refine (hP _).mono ?_)
  rintro e w1 ⟨rfl, k1⟩
  have c1 : w1.cell? ⟨w.heap.size, 1, none⟩ = some (.iface 59 (.agg #[.iface 34 (.agg #[]), .iface 28 (.agg #[])])) := kcell k1 (old_cell _ (new_cell _ _ _ _ _ rfl))
  have c2 : w1.cell? ⟨w.heap.size + 1, 1, none⟩ = some (.bool b) := kcell k1 (next_cell _ _ _ _ _ _ rfl)
  have c3 : w1.cell? ⟨w.heap.size + 1, 2, none⟩ = some (.int .i64 i) := kcell k1 (next_cell _ _ _ _ _ _ rfl)
  go_wp2_with fail
  (with_reducible refine (hQ _).mono ?_)
  rintro e w2 ⟨rfl, k2⟩
  go_wp2_with fail
  go_ret2
  exact ⟨rfl, ((((Keeps.refl _ _).alloc _).alloc _).trans k1 (fun _ _ x => x)).trans k2 (fun _ _ x => x)⟩
set_option maxRecDepth 100000 in
theorem bsb_Width (m : Int) (w : World) : Calls Try.prog 27 #[.agg #[.iface 50 (.agg #[.int .i64 m]), .iface 59 (.agg #[.iface 34 (.agg #[]), .iface 28 (.agg #[])])]] w fun e w' => e = .returned (.int .i64 (txW m + 9)) ∧ Keeps w w' (fun _ => False) := by
  have hW := tyt_Width m
  obtain ⟨h0, h1⟩ := txW_small m
  generalize txW m = W at *
  have hm : ∀ w : World, (method 222 50 (.agg #[.int .i64 m]) "Width").run Try.prog w = .ok (23, .agg #[.int .i64 m]) w := fun _ => by kernel_rfl
  have hn : ∀ w : World, (method 222 59 (.agg #[.iface 34 (.agg #[]), .iface 28 (.agg #[])]) "Width").run Try.prog w = .ok (81, .agg #[.iface 34 (.agg #[]), .iface 28 (.agg #[])]) w := fun _ => by kernel_rfl
  have Z : (w.alloc (.cells #[.iface 50 (.agg #[.int .i64 m]), .iface 59 (.agg #[.iface 34 (.agg #[]), .iface 28 (.agg #[])])] 65)).drew.cell? ⟨w.heap.size, 0, none⟩ = some (.iface 50 (.agg #[.int .i64 m])) ∧ (w.alloc (.cells #[.iface 50 (.agg #[.int .i64 m]), .iface 59 (.agg #[.iface 34 (.agg #[]), .iface 28 (.agg #[])])] 65)).drew.cell? ⟨w.heap.size, 1, none⟩ = some (.iface 59 (.agg #[.iface 34 (.agg #[]), .iface 28 (.agg #[])])) ∧ Keeps w (w.alloc (.cells #[.iface 50 (.agg #[.int .i64 m]), .iface 59 (.agg #[.iface 34 (.agg #[]), .iface 28 (.agg #[])])] 65)).drew (fun _ => False) := ⟨new_cell _ _ _ _ _ rfl, new_cell _ _ _ _ _ rfl, ((Keeps.refl _ _).alloc _).drew⟩
  go_enter Try.func27, Try.ntmps27
  go_wp2_with fail
  go_region_held3 (fun w' => w'.cell? ⟨w.heap.size, 0, none⟩ = some (.iface 50 (.agg #[.int .i64 m])) ∧ w'.cell? ⟨w.heap.size, 1, none⟩ = some (.iface 59 (.agg #[.iface 34 (.agg #[]), .iface 28 (.agg #[])])) ∧ Keeps w w' (fun _ => False)) (first | with_reducible exact Z | with_reducible assumption) (first | (go_at_call 23; (with_reducible refine (hW _).mono ?_); rintro e x1 ⟨rfl, q1⟩; have Z1 : x1.cell? ⟨w.heap.size, 0, none⟩ = some (.iface 50 (.agg #[.int .i64 m])) ∧ x1.cell? ⟨w.heap.size, 1, none⟩ = some (.iface 59 (.agg #[.iface 34 (.agg #[]), .iface 28 (.agg #[])])) ∧ Keeps w x1 (fun _ => False) := ⟨kcell q1 Z.1, kcell q1 Z.2.1, Z.2.2.trans q1 (fun _ _ x => x)⟩) | (go_at_call 81; (with_reducible refine (bbi_Width _).mono ?_); rintro e x2 ⟨rfl, q2⟩; have Z2 : x2.cell? ⟨w.heap.size, 0, none⟩ = some (.iface 50 (.agg #[.int .i64 m])) ∧ x2.cell? ⟨w.heap.size, 1, none⟩ = some (.iface 59 (.agg #[.iface 34 (.agg #[]), .iface 28 (.agg #[])])) ∧ Keeps w x2 (fun _ => False) := ⟨kcell q2 Z1.1, kcell q2 Z1.2.1, Z1.2.2.trans q2 (fun _ _ x => x)⟩))
  have K2 := Z2.2.2
  clear Z Z1 Z2
  have h2 : ¬ (9223372036854775798 : Int) < W := by omega
  go_wp2_with fail
  go_ret
  exact ⟨rfl, K2⟩
def SbAt (w w' : World) (m : Int) : Prop := w'.cell? ⟨w.heap.size, 0, none⟩ = some (.iface 50 (.agg #[.int .i64 m])) ∧ w'.cell? ⟨w.heap.size, 1, none⟩ = some (.iface 59 (.agg #[.iface 34 (.agg #[]), .iface 28 (.agg #[])])) ∧ w'.cell? ⟨w.heap.size + 1, 0, none⟩ = some (.string ⟨#[]⟩) ∧ w'.cell? ⟨w.heap.size + 1, 1, none⟩ = some (.bool false) ∧ w'.cell? ⟨w.heap.size + 1, 2, none⟩ = some (.int .i64 0) ∧ w'.frozen? ⟨w.heap.size + 1, 0, none⟩ = false ∧ w'.frozen? ⟨w.heap.size + 1, 1, none⟩ = false ∧ w'.frozen? ⟨w.heap.size + 1, 2, none⟩ = false ∧ Keeps w w' (fun _ => False)
theorem SbAt.keep {w w1 w2 : World} {m : Int} (h : SbAt w w1 m) (k : Keeps w1 w2 (fun _ => False)) : SbAt w w2 m := by
  obtain ⟨h0, h1, h2, h3, h4, h5, h6, h7, h8⟩ := h
  exact ⟨kcell k h0, kcell k h1, kcell k h2, kcell k h3, kcell k h4, kfrozen k h2 h5, kfrozen k h3 h6, kfrozen k h4 h7, h8.trans k (fun _ _ x => x)⟩
theorem SbAt_new (w : World) (m : Int) : SbAt w ((w.alloc (.cells #[.iface 50 (.agg #[.int .i64 m]), .iface 59 (.agg #[.iface 34 (.agg #[]), .iface 28 (.agg #[])])] 65)).alloc (.cells #[.string ⟨#[]⟩, .bool false, .int .i64 0] 69)) m := by
  refine ⟨old_cell _ (new_cell _ _ _ _ _ rfl), old_cell _ (new_cell _ _ _ _ _ rfl), next_cell _ _ _ _ _ _ rfl, next_cell _ _ _ _ _ _ rfl, next_cell _ _ _ _ _ _ rfl, ?_, ?_, ?_, ((Keeps.refl _ _).alloc _).alloc _⟩
  all_goals
    have g := heap_alloc_new (w.alloc (.cells #[.iface 50 (.agg #[.int .i64 m]), .iface 59 (.agg #[.iface 34 (.agg #[]), .iface 28 (.agg #[])])] 65)) (.cells #[.string ⟨#[]⟩, .bool false, .int .i64 0] 69)
    rw [World.size_alloc] at g
    simp only [World.frozen?, g]
    simp
set_option maxRecDepth 100000 in
set_option maxHeartbeats 4000000 in
theorem bsb_Unpack (m : Int) (hm : I64 m) (s : ByteArray) (n : Nat) (hn : txW m = (n : Int)) (hn2 : n ≤ 128) (h : s.size = n + 9) (w : World) : Calls Try.prog 26 #[.agg #[.iface 50 (.agg #[.int .i64 m]), .iface 59 (.agg #[.iface 34 (.agg #[]), .iface 28 (.agg #[])])], .string s] w fun e w' => e = .returned (.agg #[.string (strOf (txU m (s.data.toList.take n))), .bool (bU ((s.data.toList.drop n).take 1)), .int .i64 (iU ((s.data.toList.drop n).drop 1))]) ∧ Keeps w w' (fun _ => False) := by
  have hW := tyt_Width m
  rw [hn] at hW
  clear hn
  have hU1 := tyt_Unpack m hm (strOf (s.data.toList.take n))
  have hU2 := bbi_Unpack (strOf (s.data.toList.drop n)) (by rw [strOf_size, List.length_drop, show s.data.toList.length = s.size from rfl]; omega)
  rw [strOf_data] at hU1 hU2
  have x1 := take_strOf s n
  have x2 := drop_strOf s n
  generalize strOf (s.data.toList.take n) = S1 at *
  generalize strOf (s.data.toList.drop n) = S2 at *
  generalize strOf (txU m (s.data.toList.take n)) = R1 at *
  generalize bU ((s.data.toList.drop n).take 1) = R2 at *
  generalize iU ((s.data.toList.drop n).drop 1) = R3 at *
  have m1 : ∀ w : World, (method 222 50 (.agg #[.int .i64 m]) "Width").run Try.prog w = .ok (23, .agg #[.int .i64 m]) w := fun _ => by kernel_rfl
  have m2 : ∀ w : World, (method 222 59 (.agg #[.iface 34 (.agg #[]), .iface 28 (.agg #[])]) "Width").run Try.prog w = .ok (81, .agg #[.iface 34 (.agg #[]), .iface 28 (.agg #[])]) w := fun _ => by kernel_rfl
  have m3 : ∀ w : World, (method 222 50 (.agg #[.int .i64 m]) "Unpack").run Try.prog w = .ok (24, .agg #[.int .i64 m]) w := fun _ => by kernel_rfl
  have m4 : ∀ w : World, (method 222 59 (.agg #[.iface 34 (.agg #[]), .iface 28 (.agg #[])]) "Unpack").run Try.prog w = .ok (80, .agg #[.iface 34 (.agg #[]), .iface 28 (.agg #[])]) w := fun _ => by kernel_rfl
  have Z : SbAt w ((w.alloc (.cells #[.iface 50 (.agg #[.int .i64 m]), .iface 59 (.agg #[.iface 34 (.agg #[]), .iface 28 (.agg #[])])] 65)).alloc (.cells #[.string ⟨#[]⟩, .bool false, .int .i64 0] 69)).drew m := (SbAt_new w m).keep (Keeps.refl _ _).drew
  have Z' := Z
  unfold SbAt at Z'
  go_enter Try.func26, Try.ntmps26
  go_wp2_with fail
  go_region_held3 (fun w' => w'.cell? ⟨w.heap.size, 0, none⟩ = some (.iface 50 (.agg #[.int .i64 m])) ∧ w'.cell? ⟨w.heap.size, 1, none⟩ = some (.iface 59 (.agg #[.iface 34 (.agg #[]), .iface 28 (.agg #[])])) ∧ w'.cell? ⟨w.heap.size + 1, 0, none⟩ = some (.string ⟨#[]⟩) ∧ w'.cell? ⟨w.heap.size + 1, 1, none⟩ = some (.bool false) ∧ w'.cell? ⟨w.heap.size + 1, 2, none⟩ = some (.int .i64 0) ∧ w'.frozen? ⟨w.heap.size + 1, 0, none⟩ = false ∧ w'.frozen? ⟨w.heap.size + 1, 1, none⟩ = false ∧ w'.frozen? ⟨w.heap.size + 1, 2, none⟩ = false ∧ Keeps w w' (fun _ => False)) (first | with_reducible exact Z' | with_reducible assumption) (first | (go_at_call 23; (with_reducible refine (hW _).mono ?_); rintro e y1 ⟨rfl, q1⟩; have Z1 := id (Z.keep q1); unfold SbAt at Z1) | (go_at_call 81; (with_reducible refine (bbi_Width _).mono ?_); rintro e y2 ⟨rfl, q2⟩; have Z2 := (show SbAt w y1 m from Z1).keep q2; have Z2' := id Z2; unfold SbAt at Z2'))
  clear Z Z' Z1 Z2' q1 q2
  clear m1 m2 hW
  have h0 : ¬ (n : Int) < 0 := by omega
  have h1 : ¬ (s.size : Int) < (n : Int) := by omega
  have h1' : (n : Int) ≤ (s.size : Int) := by omega
  have hb2 : wrap64 ((s.size : Int) - (n : Int)) = 9 := by unfold wrap64; omega
  clear h
  have Y := Z2.keep (Keeps.refl _ _).drew
  have Y' : y2.drew.cell? ⟨w.heap.size, 0, none⟩ = some (.iface 50 (.agg #[.int .i64 m])) ∧ y2.drew.cell? ⟨w.heap.size, 1, none⟩ = some (.iface 59 (.agg #[.iface 34 (.agg #[]), .iface 28 (.agg #[])])) ∧ Keeps w y2.drew (fun _ => False) := ⟨Y.1, Y.2.1, Y.2.2.2.2.2.2.2.2⟩
  have YY := hide Y
  clear Z2 Y
  go_wp2_with fail
  go_region_held3 (fun w' => w'.cell? ⟨w.heap.size, 0, none⟩ = some (.iface 50 (.agg #[.int .i64 m])) ∧ w'.cell? ⟨w.heap.size, 1, none⟩ = some (.iface 59 (.agg #[.iface 34 (.agg #[]), .iface 28 (.agg #[])])) ∧ Keeps w w' (fun _ => False)) (first | with_reducible exact Y' | with_reducible assumption) (first | (go_at_call 24; (with_reducible refine (hU1 _).mono ?_); rintro e y3 ⟨rfl, q3⟩; have Y3 := hide (YY.out.keep q3); have Y3' : y3.cell? ⟨w.heap.size, 0, none⟩ = some (.iface 50 (.agg #[.int .i64 m])) ∧ y3.cell? ⟨w.heap.size, 1, none⟩ = some (.iface 59 (.agg #[.iface 34 (.agg #[]), .iface 28 (.agg #[])])) ∧ Keeps w y3 (fun _ => False) := ⟨Y3.out.1, Y3.out.2.1, Y3.out.2.2.2.2.2.2.2.2⟩) | (go_at_call 80; (with_reducible refine (hU2 _).mono ?_); rintro e y4 ⟨rfl, q4⟩; have Y4 := Y3.out.keep q4; obtain ⟨e0, e1, c0, c1, c2, f0, f1, f2, K4⟩ := Y4; have k5 := three_keeps K4 (Nat.le_succ w.heap.size) (.string R1) (.bool R2) (.int .i64 R3); have d01 := hide (three_set c0 c1 c2 (x := .string R1) (y := .bool R2) (z := .int .i64 R3)); have Y4' : y4.cell? ⟨w.heap.size, 0, none⟩ = some (.iface 50 (.agg #[.int .i64 m])) ∧ y4.cell? ⟨w.heap.size, 1, none⟩ = some (.iface 59 (.agg #[.iface 34 (.agg #[]), .iface 28 (.agg #[])])) ∧ Keeps w y4 (fun _ => False) := ⟨e0, e1, K4⟩; have Y5' : (((y4.setCell ⟨w.heap.size + 1, 0, none⟩ (.string R1)).setCell ⟨w.heap.size + 1, 1, none⟩ (.bool R2)).setCell ⟨w.heap.size + 1, 2, none⟩ (.int .i64 R3)).cell? ⟨w.heap.size, 0, none⟩ = some (.iface 50 (.agg #[.int .i64 m])) ∧ (((y4.setCell ⟨w.heap.size + 1, 0, none⟩ (.string R1)).setCell ⟨w.heap.size + 1, 1, none⟩ (.bool R2)).setCell ⟨w.heap.size + 1, 2, none⟩ (.int .i64 R3)).cell? ⟨w.heap.size, 1, none⟩ = some (.iface 59 (.agg #[.iface 34 (.agg #[]), .iface 28 (.agg #[])])) ∧ Keeps w (((y4.setCell ⟨w.heap.size + 1, 0, none⟩ (.string R1)).setCell ⟨w.heap.size + 1, 1, none⟩ (.bool R2)).setCell ⟨w.heap.size + 1, 2, none⟩ (.int .i64 R3)) (fun _ => False) := ⟨other_cell (other_cell (other_cell e0 (by omega)) (by omega)) (by omega), other_cell (other_cell (other_cell e1 (by omega)) (by omega)) (by omega), k5⟩))
  obtain ⟨d0, d1, d2⟩ := d01.out
  go_wp2_with fail
  refine bodyPost_ret (v := .agg #[.string R1, .bool R2, .int .i64 R3]) (by simp [results, Try.results26, go_sem, d0, d1, d2]) rfl ?_
  exact ⟨rfl, k5⟩
end Go.Proofs.Ytgbeacfiaegehaa
