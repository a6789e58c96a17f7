/-
  typed: a Both of a truth and a whole number; a Both of a text and such. (genYG.py)
-/
import Derived.Test.YtgbeacfiaegehaaYF
import Derived.Test.YtgbeacfiaegehaaYD
namespace Go.Proofs.Ytgbeacfiaegehaa
open Go.RowKit
open Fl
set_option linter.unusedVariables false
theorem bB_len (b : Bool) : (bB b).length = 1 := by cases b <;> rfl
set_option maxRecDepth 100000 in
theorem bbi_Pack (b : Bool) (i : Int) (hi : I64 i) (w : World) : Calls Try.prog 79 #[.agg #[.iface 34 (.agg #[]), .iface 28 (.agg #[])], .agg #[.bool b, .int .i64 i]] w fun e w' => e = .returned (.tuple #[.string (strOf (bB b ++ be 8 (iB i))), .bool true]) ∧ Keeps w w' (fun _ => False) := by
  have hP := tyb_Pack b
  have hQ := tyi_Pack i hi
  have hz1 : (strOf (bB b)).size = 1 := by rw [strOf_size]; exact bB_len b
  have hz2 : (strOf (be 8 (iB i))).size = 8 := by rw [strOf_size, be_length]
  have hA := strOf_append (bB b) (be 8 (iB i))
  generalize strOf (bB b) = A at *
  generalize strOf (be 8 (iB i)) = B at *
  generalize strOf (bB b ++ be 8 (iB i)) = C at *
  have hm : ∀ w : World, (method 222 34 (.agg #[]) "Pack").run Try.prog w = .ok (11, .agg #[]) w := fun _ => by kernel_rfl
  have hn : ∀ w : World, (method 222 28 (.agg #[]) "Pack").run Try.prog w = .ok (8, .agg #[]) w := fun _ => by kernel_rfl
  go_enter Try.func79, Try.ntmps79
  go_wp2_with fail
  (with_reducible refine (hP _).mono ?_)
  rintro e w1 ⟨rfl, k1⟩
  have c1 : w1.cell? ⟨w.heap.size, 1, none⟩ = some (.iface 28 (.agg #[])) := kcell k1 (old_cell _ (new_cell _ _ _ _ _ rfl))
  have c2 : w1.cell? ⟨w.heap.size + 1, 1, none⟩ = some (.int .i64 i) := kcell k1 (next_cell _ _ _ _ _ _ rfl)
  go_wp2_with fail
  (with_reducible refine (hQ _).mono ?_)
  rintro e w2 ⟨rfl, k2⟩
  go_wp2_with fail
  go_ret2
  exact ⟨rfl, ((((Keeps.refl _ _).alloc _).alloc _).trans k1 (fun _ _ x => x)).trans k2 (fun _ _ x => x)⟩
set_option maxRecDepth 100000 in
theorem bbi_Width (w : World) : Calls Try.prog 81 #[.agg #[.iface 34 (.agg #[]), .iface 28 (.agg #[])]] w fun e w' => e = .returned (.int .i64 (9)) ∧ Keeps w w' (fun _ => False) := by
  have hW := tyb_Width
  have hm : ∀ w : World, (method 222 34 (.agg #[]) "Width").run Try.prog w = .ok (54, .agg #[]) w := fun _ => by kernel_rfl
  have hn : ∀ w : World, (method 222 28 (.agg #[]) "Width").run Try.prog w = .ok (35, .agg #[]) w := fun _ => by kernel_rfl
  have Z : (w.alloc (.cells #[.iface 34 (.agg #[]), .iface 28 (.agg #[])] 59)).drew.cell? ⟨w.heap.size, 0, none⟩ = some (.iface 34 (.agg #[])) ∧ (w.alloc (.cells #[.iface 34 (.agg #[]), .iface 28 (.agg #[])] 59)).drew.cell? ⟨w.heap.size, 1, none⟩ = some (.iface 28 (.agg #[])) ∧ Keeps w (w.alloc (.cells #[.iface 34 (.agg #[]), .iface 28 (.agg #[])] 59)).drew (fun _ => False) := ⟨new_cell _ _ _ _ _ rfl, new_cell _ _ _ _ _ rfl, ((Keeps.refl _ _).alloc _).drew⟩
  go_enter Try.func81, Try.ntmps81
  go_wp2_with fail
  go_region_held3 (fun w' => w'.cell? ⟨w.heap.size, 0, none⟩ = some (.iface 34 (.agg #[])) ∧ w'.cell? ⟨w.heap.size, 1, none⟩ = some (.iface 28 (.agg #[])) ∧ Keeps w w' (fun _ => False)) (first | with_reducible exact Z | with_reducible assumption) (first | (go_at_call 54; (with_reducible refine (hW _).mono ?_); rintro e x1 ⟨rfl, q1⟩; have Z1 : x1.cell? ⟨w.heap.size, 0, none⟩ = some (.iface 34 (.agg #[])) ∧ x1.cell? ⟨w.heap.size, 1, none⟩ = some (.iface 28 (.agg #[])) ∧ Keeps w x1 (fun _ => False) := ⟨kcell q1 Z.1, kcell q1 Z.2.1, Z.2.2.trans q1 (fun _ _ x => x)⟩) | (go_at_call 35; (with_reducible refine (tyi_Width _).mono ?_); rintro e x2 ⟨rfl, q2⟩; have Z2 : x2.cell? ⟨w.heap.size, 0, none⟩ = some (.iface 34 (.agg #[])) ∧ x2.cell? ⟨w.heap.size, 1, none⟩ = some (.iface 28 (.agg #[])) ∧ Keeps w x2 (fun _ => False) := ⟨kcell q2 Z1.1, kcell q2 Z1.2.1, Z1.2.2.trans q2 (fun _ _ x => x)⟩))
  have K2 := Z2.2.2
  clear Z Z1 Z2
  go_wp2_with fail
  go_ret
  exact ⟨rfl, K2⟩
def BiAt (w w' : World) : Prop := w'.cell? ⟨w.heap.size, 0, none⟩ = some (.iface 34 (.agg #[])) ∧ w'.cell? ⟨w.heap.size, 1, none⟩ = some (.iface 28 (.agg #[])) ∧ w'.cell? ⟨w.heap.size + 1, 0, none⟩ = some (.bool false) ∧ w'.cell? ⟨w.heap.size + 1, 1, none⟩ = some (.int .i64 0) ∧ w'.frozen? ⟨w.heap.size + 1, 0, none⟩ = false ∧ w'.frozen? ⟨w.heap.size + 1, 1, none⟩ = false ∧ Keeps w w' (fun _ => False)
theorem BiAt.keep {w w1 w2 : World} (h : BiAt w w1) (k : Keeps w1 w2 (fun _ => False)) : BiAt w w2 := by
  obtain ⟨h0, h1, h2, h3, h4, h5, h6⟩ := h
  exact ⟨kcell k h0, kcell k h1, kcell k h2, kcell k h3, kfrozen k h2 h4, kfrozen k h3 h5, h6.trans k (fun _ _ x => x)⟩
theorem BiAt_new (w : World) : BiAt w ((w.alloc (.cells #[.iface 34 (.agg #[]), .iface 28 (.agg #[])] 59)).alloc (.cells #[.bool false, .int .i64 0] 67)) := by
  refine ⟨old_cell _ (new_cell _ _ _ _ _ rfl), old_cell _ (new_cell _ _ _ _ _ rfl), next_cell _ _ _ _ _ _ rfl, next_cell _ _ _ _ _ _ rfl, ?_, ?_, ((Keeps.refl _ _).alloc _).alloc _⟩
  all_goals
    have g := heap_alloc_new (w.alloc (.cells #[.iface 34 (.agg #[]), .iface 28 (.agg #[])] 59)) (.cells #[.bool false, .int .i64 0] 67)
    rw [World.size_alloc] at g
    simp only [World.frozen?, g]
    simp
set_option maxRecDepth 100000 in
set_option maxHeartbeats 4000000 in
theorem bbi_Unpack (s : ByteArray) (h : s.size = 9) (w : World) : Calls Try.prog 80 #[.agg #[.iface 34 (.agg #[]), .iface 28 (.agg #[])], .string s] w fun e w' => e = .returned (.agg #[.bool (bU (s.data.toList.take 1)), .int .i64 (iU (s.data.toList.drop 1))]) ∧ Keeps w w' (fun _ => False) := by
  have hU1 := tyb_Unpack (strOf (s.data.toList.take 1))
  have hU2 := tyi_Unpack (strOf (s.data.toList.drop 1))
  rw [strOf_data] at hU1 hU2
  have x1 := take_strOf s 1
  have x2 := drop_strOf s 1
  generalize strOf (s.data.toList.take 1) = S1 at *
  generalize strOf (s.data.toList.drop 1) = S2 at *
  generalize bU (s.data.toList.take 1) = R1 at *
  generalize iU (s.data.toList.drop 1) = R2 at *
  have m1 : ∀ w : World, (method 222 34 (.agg #[]) "Width").run Try.prog w = .ok (54, .agg #[]) w := fun _ => by kernel_rfl
  have m2 : ∀ w : World, (method 222 28 (.agg #[]) "Width").run Try.prog w = .ok (35, .agg #[]) w := fun _ => by kernel_rfl
  have m3 : ∀ w : World, (method 222 34 (.agg #[]) "Unpack").run Try.prog w = .ok (20, .agg #[]) w := fun _ => by kernel_rfl
  have m4 : ∀ w : World, (method 222 28 (.agg #[]) "Unpack").run Try.prog w = .ok (18, .agg #[]) w := fun _ => by kernel_rfl
  have Z : BiAt w ((w.alloc (.cells #[.iface 34 (.agg #[]), .iface 28 (.agg #[])] 59)).alloc (.cells #[.bool false, .int .i64 0] 67)).drew := (BiAt_new w).keep (Keeps.refl _ _).drew
  have Z' := Z
  unfold BiAt at Z'
  go_enter Try.func80, Try.ntmps80
  go_wp2_with fail
  go_region_held3 (fun w' => w'.cell? ⟨w.heap.size, 0, none⟩ = some (.iface 34 (.agg #[])) ∧ w'.cell? ⟨w.heap.size, 1, none⟩ = some (.iface 28 (.agg #[])) ∧ w'.cell? ⟨w.heap.size + 1, 0, none⟩ = some (.bool false) ∧ w'.cell? ⟨w.heap.size + 1, 1, none⟩ = some (.int .i64 0) ∧ w'.frozen? ⟨w.heap.size + 1, 0, none⟩ = false ∧ w'.frozen? ⟨w.heap.size + 1, 1, none⟩ = false ∧ Keeps w w' (fun _ => False)) (first | with_reducible exact Z' | with_reducible assumption) (first | (go_at_call 54; (with_reducible refine (tyb_Width _).mono ?_); rintro e y1 ⟨rfl, q1⟩; have Z1 := id (Z.keep q1); unfold BiAt at Z1) | (go_at_call 35; (with_reducible refine (tyi_Width _).mono ?_); rintro e y2 ⟨rfl, q2⟩; have Z2 := (show BiAt w y1 from Z1).keep q2; have Z2' := id Z2; unfold BiAt at Z2'))
  clear Z Z' Z1 Z2' q1 q2
  clear m1 m2
  have h1 : ¬ (s.size : Int) < 1 := by omega
  have h1' : (1 : Int) ≤ (s.size : Int) := by omega
  have hb2 : wrap64 ((s.size : Int) - 1) = 8 := by rw [h]; unfold wrap64; omega
  clear h
  have Y := Z2.keep (Keeps.refl _ _).drew
  have Y' : y2.drew.cell? ⟨w.heap.size, 0, none⟩ = some (.iface 34 (.agg #[])) ∧ y2.drew.cell? ⟨w.heap.size, 1, none⟩ = some (.iface 28 (.agg #[])) ∧ Keeps w y2.drew (fun _ => False) := ⟨Y.1, Y.2.1, Y.2.2.2.2.2.2⟩
  have YY := hide Y
  clear Z2 Y
  go_wp2_with fail
  go_region_held3 (fun w' => w'.cell? ⟨w.heap.size, 0, none⟩ = some (.iface 34 (.agg #[])) ∧ w'.cell? ⟨w.heap.size, 1, none⟩ = some (.iface 28 (.agg #[])) ∧ Keeps w w' (fun _ => False)) (first | with_reducible exact Y' | with_reducible assumption) (first | (go_at_call 20; (with_reducible refine (hU1 _).mono ?_); rintro e y3 ⟨rfl, q3⟩; have Y3 := hide (YY.out.keep q3); have Y3' : y3.cell? ⟨w.heap.size, 0, none⟩ = some (.iface 34 (.agg #[])) ∧ y3.cell? ⟨w.heap.size, 1, none⟩ = some (.iface 28 (.agg #[])) ∧ Keeps w y3 (fun _ => False) := ⟨Y3.out.1, Y3.out.2.1, Y3.out.2.2.2.2.2.2⟩) | (go_at_call 18; (with_reducible refine (hU2 _).mono ?_); rintro e y4 ⟨rfl, q4⟩; have Y4 := Y3.out.keep q4; obtain ⟨e0, e1, c0, c1, f0, f1, K4⟩ := Y4; have k5 := two_keeps K4 (Nat.le_succ w.heap.size) (.bool R1) (.int .i64 R2); have d01 := hide (two_set c0 c1 (x := .bool R1) (y := .int .i64 R2)); have Y4' : y4.cell? ⟨w.heap.size, 0, none⟩ = some (.iface 34 (.agg #[])) ∧ y4.cell? ⟨w.heap.size, 1, none⟩ = some (.iface 28 (.agg #[])) ∧ Keeps w y4 (fun _ => False) := ⟨e0, e1, K4⟩; have Y5' : ((y4.setCell ⟨w.heap.size + 1, 0, none⟩ (.bool R1)).setCell ⟨w.heap.size + 1, 1, none⟩ (.int .i64 R2)).cell? ⟨w.heap.size, 0, none⟩ = some (.iface 34 (.agg #[])) ∧ ((y4.setCell ⟨w.heap.size + 1, 0, none⟩ (.bool R1)).setCell ⟨w.heap.size + 1, 1, none⟩ (.int .i64 R2)).cell? ⟨w.heap.size, 1, none⟩ = some (.iface 28 (.agg #[])) ∧ Keeps w ((y4.setCell ⟨w.heap.size + 1, 0, none⟩ (.bool R1)).setCell ⟨w.heap.size + 1, 1, none⟩ (.int .i64 R2)) (fun _ => False) := ⟨other_cell (other_cell e0 (by omega)) (by omega), other_cell (other_cell e1 (by omega)) (by omega), k5⟩))
  obtain ⟨d0, d1⟩ := d01.out
  go_wp2_with fail
  refine bodyPost_ret (v := .agg #[.bool R1, .int .i64 R2]) (by simp [results, Try.results80, go_sem, d0, d1]) rfl ?_
  exact ⟨rfl, k5⟩
end Go.Proofs.Ytgbeacfiaegehaa
