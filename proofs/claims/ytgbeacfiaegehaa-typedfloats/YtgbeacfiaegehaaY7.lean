/-
  typed: a Both of texts and whole numbers read.
-/
import Derived.Test.YtgbeacfiaegehaaY6
namespace Go.Proofs.Ytgbeacfiaegehaa
open Go.RowKit
set_option linter.unusedVariables false
theorem txW_nat (m : Int) : ∃ n : Nat, txW m = (n : Int) ∧ n ≤ 128 := by
  obtain ⟨h0, h1⟩ := txW_small m
  exact ⟨(txW m).toNat, by omega, by omega⟩
/-- The two interfaces of a Both. -/
def SuAt (w w' : World) (m : Int) : Prop := w'.cell? ⟨w.heap.size, 0, none⟩ = some (.iface 50 (.agg #[.int .i64 m])) ∧ w'.cell? ⟨w.heap.size, 1, none⟩ = some (.iface 30 (.agg #[])) ∧ w'.cell? ⟨w.heap.size + 1, 0, none⟩ = some (.string ⟨#[]⟩) ∧ w'.cell? ⟨w.heap.size + 1, 1, none⟩ = some (.int .u64 0) ∧ w'.frozen? ⟨w.heap.size + 1, 0, none⟩ = false ∧ w'.frozen? ⟨w.heap.size + 1, 1, none⟩ = false ∧ Keeps w w' (fun _ => False)
theorem kfrozen {w w1 : World} {b j : Nat} {v : Value} (k : Keeps w w1 (fun _ => False)) (h : w.cell? ⟨b, j, none⟩ = some v) (hf : w.frozen? ⟨b, j, none⟩ = false) : w1.frozen? ⟨b, j, none⟩ = false := by
  have hlt : b < w.heap.size := World.block_lt_of_cell? w ⟨b, j, none⟩ h
  have := k.block b hlt id
  simp only [World.frozen?] at hf ⊢
  rw [this]
  exact hf
theorem SuAt.keep {w w1 w2 : World} {m : Int} (h : SuAt w w1 m) (k : Keeps w1 w2 (fun _ => False)) : SuAt w w2 m :=
  ⟨kcell k h.1, kcell k h.2.1, kcell k h.2.2.1, kcell k h.2.2.2.1, kfrozen k h.2.2.1 h.2.2.2.2.1, kfrozen k h.2.2.2.1 h.2.2.2.2.2.1, h.2.2.2.2.2.2.trans k (fun _ _ x => x)⟩
theorem suAt_new (w : World) (m : Int) : SuAt w ((w.alloc (.cells #[.iface 50 (.agg #[.int .i64 m]), .iface 30 (.agg #[])] 98)).alloc (.cells #[.string ⟨#[]⟩, .int .u64 0] 101)) m := by
  refine ⟨old_cell _ (new_cell _ _ _ _ _ rfl), old_cell _ (new_cell _ _ _ _ _ rfl), next_cell _ _ _ _ _ _ rfl, next_cell _ _ _ _ _ _ rfl, ?_, ?_, ((Keeps.refl _ _).alloc _).alloc _⟩
  all_goals
    have g := heap_alloc_new (w.alloc (.cells #[.iface 50 (.agg #[.int .i64 m]), .iface 30 (.agg #[])] 98)) (.cells #[.string ⟨#[]⟩, .int .u64 0] 101)
    rw [World.size_alloc] at g
    simp only [World.frozen?, g]
    simp
theorem two_set {w : World} {b : Nat} {u v x y : Value} (h0 : w.cell? ⟨b, 0, none⟩ = some u) (h1 : w.cell? ⟨b, 1, none⟩ = some v) : ((w.setCell ⟨b, 0, none⟩ x).setCell ⟨b, 1, none⟩ y).cell? ⟨b, 0, none⟩ = some x ∧ ((w.setCell ⟨b, 0, none⟩ x).setCell ⟨b, 1, none⟩ y).cell? ⟨b, 1, none⟩ = some y := by
  have e : (w.setCell ⟨b, 0, none⟩ x).cell? ⟨b, 1, none⟩ = some v := (World.cell?_setCell_other _ _ _ _ (by simp)).trans h1
  exact ⟨(World.cell?_setCell_other _ _ _ _ (by simp)).trans (World.cell?_setCell_same _ _ _ h0), World.cell?_setCell_same _ _ _ e⟩
theorem two_keeps {w W : World} {b : Nat} (k : Keeps w W (fun _ => False)) (h : w.heap.size ≤ b) (x y : Value) : Keeps w ((W.setCell ⟨b, 0, none⟩ x).setCell ⟨b, 1, none⟩ y) (fun _ => False) :=
  (k.setCell ⟨b, 0, none⟩ (fun q => absurd q (by show ¬ b < w.heap.size; omega)) x).setCell ⟨b, 1, none⟩ (fun q => absurd q (by show ¬ b < w.heap.size; omega)) y
set_option maxRecDepth 100000 in
set_option maxHeartbeats 2000000 in
theorem bsu_Unpack_no (m : Int) (s : ByteArray) (hs : s.size ≤ 9223372036854775807) (h : ¬ (s.size : Int) = txW m + 8) (w : World) : Calls Try.prog 60 #[.agg #[.iface 50 (.agg #[.int .i64 m]), .iface 30 (.agg #[])], .string s] w fun e w' => e = .returned (.agg #[.string ⟨#[]⟩, .int .u64 0]) ∧ Keeps w w' (fun _ => False) := by
  have hW := tyt_Width m
  obtain ⟨n, hn, hn2⟩ := txW_nat m
  rw [hn] at hW h
  clear hn
  have hm : ∀ w : World, (method 222 50 (.agg #[.int .i64 m]) "Width").run Try.prog w = .ok (23, .agg #[.int .i64 m]) w := fun _ => by kernel_rfl
  have hq : ∀ w : World, (method 222 30 (.agg #[]) "Width").run Try.prog w = .ok (37, .agg #[]) w := fun _ => by kernel_rfl
  have Z : SuAt w ((w.alloc (.cells #[.iface 50 (.agg #[.int .i64 m]), .iface 30 (.agg #[])] 98)).alloc (.cells #[.string ⟨#[]⟩, .int .u64 0] 101)).drew m := (suAt_new w m).keep (Keeps.refl _ _).drew
  have Z' := Z
  unfold SuAt at Z'
  go_enter Try.func60, Try.ntmps60
  go_wp2_with fail
  go_region_held3 (fun w' => w'.cell? ⟨w.heap.size, 0, none⟩ = some (.iface 50 (.agg #[.int .i64 m])) ∧ w'.cell? ⟨w.heap.size, 1, none⟩ = some (.iface 30 (.agg #[])) ∧ w'.cell? ⟨w.heap.size + 1, 0, none⟩ = some (.string ⟨#[]⟩) ∧ w'.cell? ⟨w.heap.size + 1, 1, none⟩ = some (.int .u64 0) ∧ w'.frozen? ⟨w.heap.size + 1, 0, none⟩ = false ∧ w'.frozen? ⟨w.heap.size + 1, 1, none⟩ = false ∧ Keeps w w' (fun _ => False)) (first | with_reducible exact Z' | with_reducible assumption) (first | (go_at_call 23; (with_reducible refine (hW _).mono ?_); rintro e x1 ⟨rfl, q1⟩; have Z1 := id (Z.keep q1); unfold SuAt at Z1) | (go_at_call 37; (with_reducible refine (tyu_Width _).mono ?_); rintro e x2 ⟨rfl, q2⟩; have Z2 := (show SuAt w x1 m from Z1).keep q2; unfold SuAt at Z2))
  obtain ⟨-, -, c0, c1, f0, f1, K2⟩ := Z2
  clear Z Z' Z1 q1 q2 hW hm hq
  have k2 := two_keeps K2 (Nat.le_succ w.heap.size) (.string ⟨#[]⟩) (.int .u64 0)
  obtain ⟨d0, d1⟩ := two_set c0 c1 (x := .string ⟨#[]⟩) (y := .int .u64 0)
  by_cases h1 : (s.size : Int) < (n : Int)
  · have h0 : ¬ (n : Int) < 0 := by omega
    clear h
    go_wp2_with fail
    refine bodyPost_ret (v := .agg #[.string ⟨#[]⟩, .int .u64 0]) (by simp [results, Try.results60, go_sem, d0, d1]) rfl ?_
    exact ⟨rfl, k2⟩
  · have h0 : ¬ (n : Int) < 0 := by omega
    have h2 : ((s.size : Int) - (n : Int) != 8) = true := by rw [bne_iff_ne]; omega
    have h3 : wrap64 ((s.size : Int) - (n : Int)) = (s.size : Int) - (n : Int) := by unfold wrap64; omega
    go_wp2_with fail
    refine bodyPost_ret (v := .agg #[.string ⟨#[]⟩, .int .u64 0]) (by simp [results, Try.results60, go_sem, d0, d1]) rfl ?_
    exact ⟨rfl, k2⟩
theorem other_cell {w : World} {b c j i : Nat} {v x : Value} (h : w.cell? ⟨c, j, none⟩ = some v) (hb : ¬ b = c) : (w.setCell ⟨b, i, none⟩ x).cell? ⟨c, j, none⟩ = some v :=
  (World.cell?_setCell_other _ _ _ _ (fun e => hb (by injection e))).trans h
set_option maxRecDepth 100000 in
set_option maxHeartbeats 2000000 in
theorem bsu_Unpack_yes (m : Int) (hm : I64 m) (s : ByteArray) (n : Nat) (hn : txW m = (n : Int)) (hn2 : n ≤ 128) (h : s.size = n + 8) (w : World) : Calls Try.prog 60 #[.agg #[.iface 50 (.agg #[.int .i64 m]), .iface 30 (.agg #[])], .string s] w fun e w' => e = .returned (.agg #[.string (strOf (txU m (s.data.toList.take n))), .int .u64 (num8 (s.data.toList.drop n) : Int)]) ∧ Keeps w w' (fun _ => False) := by
  have hW := tyt_Width m
  rw [hn] at hW
  clear hn
  have hU1 := tyt_Unpack m hm (strOf (s.data.toList.take n))
  have hU2 := tyu_Unpack (strOf (s.data.toList.drop n))
  rw [strOf_data] at hU1 hU2
  have x1 := take_strOf s n
  have x2 := drop_strOf s n
  generalize strOf (s.data.toList.take n) = S1 at *
  generalize strOf (s.data.toList.drop n) = S2 at *
  generalize strOf (txU m (s.data.toList.take n)) = R1 at *
  generalize num8 (s.data.toList.drop n) = R2 at *
  have m1 : ∀ w : World, (method 222 50 (.agg #[.int .i64 m]) "Width").run Try.prog w = .ok (23, .agg #[.int .i64 m]) w := fun _ => by kernel_rfl
  have m2 : ∀ w : World, (method 222 30 (.agg #[]) "Width").run Try.prog w = .ok (37, .agg #[]) w := fun _ => by kernel_rfl
  have m3 : ∀ w : World, (method 222 50 (.agg #[.int .i64 m]) "Unpack").run Try.prog w = .ok (24, .agg #[.int .i64 m]) w := fun _ => by kernel_rfl
  have m4 : ∀ w : World, (method 222 30 (.agg #[]) "Unpack").run Try.prog w = .ok (19, .agg #[]) w := fun _ => by kernel_rfl
  have Z : SuAt w ((w.alloc (.cells #[.iface 50 (.agg #[.int .i64 m]), .iface 30 (.agg #[])] 98)).alloc (.cells #[.string ⟨#[]⟩, .int .u64 0] 101)).drew m := (suAt_new w m).keep (Keeps.refl _ _).drew
  have Z' := Z
  unfold SuAt at Z'
  go_enter Try.func60, Try.ntmps60
  go_wp2_with fail
  go_region_held3 (fun w' => w'.cell? ⟨w.heap.size, 0, none⟩ = some (.iface 50 (.agg #[.int .i64 m])) ∧ w'.cell? ⟨w.heap.size, 1, none⟩ = some (.iface 30 (.agg #[])) ∧ w'.cell? ⟨w.heap.size + 1, 0, none⟩ = some (.string ⟨#[]⟩) ∧ w'.cell? ⟨w.heap.size + 1, 1, none⟩ = some (.int .u64 0) ∧ w'.frozen? ⟨w.heap.size + 1, 0, none⟩ = false ∧ w'.frozen? ⟨w.heap.size + 1, 1, none⟩ = false ∧ Keeps w w' (fun _ => False)) (first | with_reducible exact Z' | with_reducible assumption) (first | (go_at_call 23; (with_reducible refine (hW _).mono ?_); rintro e y1 ⟨rfl, q1⟩; have Z1 := id (Z.keep q1); unfold SuAt at Z1) | (go_at_call 37; (with_reducible refine (tyu_Width _).mono ?_); rintro e y2 ⟨rfl, q2⟩; have Z2 := (show SuAt w y1 m from Z1).keep q2; have Z2' := id Z2; unfold SuAt at Z2'))
  clear Z Z' Z1 Z2' q1 q2 hW m1 m2
  have h0 : ¬ (n : Int) < 0 := by omega
  have h1 : ¬ (s.size : Int) < (n : Int) := by omega
  have h1' : (n : Int) ≤ (s.size : Int) := by omega
  have h2 : (s.size : Int) - (n : Int) = 8 := by omega
  have Y := Z2.keep (Keeps.refl _ _).drew
  have Y' : y2.drew.cell? ⟨w.heap.size, 0, none⟩ = some (.iface 50 (.agg #[.int .i64 m])) ∧ y2.drew.cell? ⟨w.heap.size, 1, none⟩ = some (.iface 30 (.agg #[])) ∧ Keeps w y2.drew (fun _ => False) := ⟨Y.1, Y.2.1, Y.2.2.2.2.2.2⟩
  have YY := hide Y
  have hb2 : ((s.size : Int) - (n : Int) != 8) = false := by rw [h2]; rfl
  clear Z2 Y h
  go_wp2_with fail
  go_region_held3 (fun w' => w'.cell? ⟨w.heap.size, 0, none⟩ = some (.iface 50 (.agg #[.int .i64 m])) ∧ w'.cell? ⟨w.heap.size, 1, none⟩ = some (.iface 30 (.agg #[])) ∧ Keeps w w' (fun _ => False)) (first | with_reducible exact Y' | with_reducible assumption) (first | (go_at_call 24; (with_reducible refine (hU1 _).mono ?_); rintro e y3 ⟨rfl, q3⟩; have Y3 := hide (YY.out.keep q3); have Y3' : y3.cell? ⟨w.heap.size, 0, none⟩ = some (.iface 50 (.agg #[.int .i64 m])) ∧ y3.cell? ⟨w.heap.size, 1, none⟩ = some (.iface 30 (.agg #[])) ∧ Keeps w y3 (fun _ => False) := ⟨Y3.out.1, Y3.out.2.1, Y3.out.2.2.2.2.2.2⟩) | (go_at_call 19; (with_reducible refine (hU2 _).mono ?_); rintro e y4 ⟨rfl, q4⟩; have Y4 := Y3.out.keep q4; obtain ⟨e0, e1, c0, c1, f0, f1, K4⟩ := Y4; have k5 := two_keeps K4 (Nat.le_succ w.heap.size) (.string R1) (.int .u64 (R2 : Int)); have d01 := hide (two_set c0 c1 (x := .string R1) (y := .int .u64 (R2 : Int))); have Y4' : y4.cell? ⟨w.heap.size, 0, none⟩ = some (.iface 50 (.agg #[.int .i64 m])) ∧ y4.cell? ⟨w.heap.size, 1, none⟩ = some (.iface 30 (.agg #[])) ∧ Keeps w y4 (fun _ => False) := ⟨e0, e1, K4⟩; have Y5' : ((y4.setCell ⟨w.heap.size + 1, 0, none⟩ (.string R1)).setCell ⟨w.heap.size + 1, 1, none⟩ (.int .u64 (R2 : Int))).cell? ⟨w.heap.size, 0, none⟩ = some (.iface 50 (.agg #[.int .i64 m])) ∧ ((y4.setCell ⟨w.heap.size + 1, 0, none⟩ (.string R1)).setCell ⟨w.heap.size + 1, 1, none⟩ (.int .u64 (R2 : Int))).cell? ⟨w.heap.size, 1, none⟩ = some (.iface 30 (.agg #[])) ∧ Keeps w ((y4.setCell ⟨w.heap.size + 1, 0, none⟩ (.string R1)).setCell ⟨w.heap.size + 1, 1, none⟩ (.int .u64 (R2 : Int))) (fun _ => False) := ⟨other_cell (other_cell e0 (by omega)) (by omega), other_cell (other_cell e1 (by omega)) (by omega), k5⟩))
  obtain ⟨d0, d1⟩ := d01.out
  go_wp2_with fail
  refine bodyPost_ret (v := .agg #[.string R1, .int .u64 (R2 : Int)]) (by simp [results, Try.results60, go_sem, d0, d1]) rfl ?_
  exact ⟨rfl, k5⟩
end Go.Proofs.Ytgbeacfiaegehaa
