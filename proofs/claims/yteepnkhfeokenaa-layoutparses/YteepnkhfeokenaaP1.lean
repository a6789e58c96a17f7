import Derived.Test.YteepnkhfeokenaaR2
namespace Go.Proofs.Yteepnkhfeokenaa
open Go.RowKit

section
variable {w W W1 : World} {b : Nat} {v0 v1 v2 v3 v4 v5 v6 v7 v8 : Value}
theorem hd_drew (h : W.cell? ⟨b, 0, none⟩ = some v0 ∧ W.cell? ⟨b, 1, none⟩ = some v1 ∧ W.cell? ⟨b, 2, none⟩ = some v2 ∧ W.cell? ⟨b, 3, none⟩ = some v3 ∧ W.cell? ⟨b, 4, none⟩ = some v4 ∧ W.cell? ⟨b, 5, none⟩ = some v5 ∧ W.cell? ⟨b, 6, none⟩ = some v6 ∧ W.cell? ⟨b, 7, none⟩ = some v7 ∧ W.cell? ⟨b, 8, none⟩ = some v8 ∧ Kp w W) :
    W.drew.cell? ⟨b, 0, none⟩ = some v0 ∧ W.drew.cell? ⟨b, 1, none⟩ = some v1 ∧ W.drew.cell? ⟨b, 2, none⟩ = some v2 ∧ W.drew.cell? ⟨b, 3, none⟩ = some v3 ∧ W.drew.cell? ⟨b, 4, none⟩ = some v4 ∧ W.drew.cell? ⟨b, 5, none⟩ = some v5 ∧ W.drew.cell? ⟨b, 6, none⟩ = some v6 ∧ W.drew.cell? ⟨b, 7, none⟩ = some v7 ∧ W.drew.cell? ⟨b, 8, none⟩ = some v8 ∧ Kp w W.drew := by
  obtain ⟨h0, h1, h2, h3, h4, h5, h6, h7, h8, k⟩ := h
  exact ⟨h0, h1, h2, h3, h4, h5, h6, h7, h8, k.drew⟩
theorem hd_call (k : Kp W W1) (h : W.cell? ⟨b, 0, none⟩ = some v0 ∧ W.cell? ⟨b, 1, none⟩ = some v1 ∧ W.cell? ⟨b, 2, none⟩ = some v2 ∧ W.cell? ⟨b, 3, none⟩ = some v3 ∧ W.cell? ⟨b, 4, none⟩ = some v4 ∧ W.cell? ⟨b, 5, none⟩ = some v5 ∧ W.cell? ⟨b, 6, none⟩ = some v6 ∧ W.cell? ⟨b, 7, none⟩ = some v7 ∧ W.cell? ⟨b, 8, none⟩ = some v8 ∧ Kp w W) :
    W1.cell? ⟨b, 0, none⟩ = some v0 ∧ W1.cell? ⟨b, 1, none⟩ = some v1 ∧ W1.cell? ⟨b, 2, none⟩ = some v2 ∧ W1.cell? ⟨b, 3, none⟩ = some v3 ∧ W1.cell? ⟨b, 4, none⟩ = some v4 ∧ W1.cell? ⟨b, 5, none⟩ = some v5 ∧ W1.cell? ⟨b, 6, none⟩ = some v6 ∧ W1.cell? ⟨b, 7, none⟩ = some v7 ∧ W1.cell? ⟨b, 8, none⟩ = some v8 ∧ Kp w W1 := by
  obtain ⟨h0, h1, h2, h3, h4, h5, h6, h7, h8, k0⟩ := h
  exact ⟨k.cell h0, k.cell h1, k.cell h2, k.cell h3, k.cell h4, k.cell h5, k.cell h6, k.cell h7, k.cell h8, k0.trans k⟩
end

theorem example_any (w : World) :
    Calls Try.prog 14 #[] w fun r w' => r = .returned (.agg #[.int .i64 5, .int .i64 4, .int .i64 1, .int .i64 4, .int .i64 64, .int .i64 8, .int .i64 16, .int .i64 24, .int .i64 200]) ∧ Kp w w' := by
  go_enter Try.func14, Try.ntmps14
  go_wp2_with fail
  refine bodyPost_ret (v := .agg #[.int .i64 5, .int .i64 4, .int .i64 1, .int .i64 4, .int .i64 64, .int .i64 8, .int .i64 16, .int .i64 24, .int .i64 200]) (by simp [results, Try.results14, go_sem]) rfl ⟨rfl, ?_⟩
  repeat first | exact Below.refl _ _ | refine Below.alloc ?_ (by simp <;> omega) _ | refine Below.setCell ?_ (by simp <;> omega) _

set_option maxHeartbeats 4000000 in
theorem fixed_any (w : World) :
    Calls Try.prog 8 #[] w fun r w' => r = .returned (.bool true) ∧ Kp w w' := by
  have hE : errN 5 4 1 4 64 = 0 := by decide
  have hL : laidD 5 4 1 4 64 = ⟨5, 4, 1, 4, 64, 8, 16, 24, 200⟩ := by decide
  have hP := fun (g : Nat) W h0 h1 h2 h3 h4 => parse_ok g 0 5 5 4 1 4 64 W h0 h1 h2 h3 h4 hE
  rw [hL] at hP
  unfold Lay.val at hP
  dsimp only at hP
  go_enter Try.func8, Try.ntmps8
  go_wp2_with fail
  refine (hP _ _ (cell_blk (heap_new _ _) rfl) (cell_blk (heap_new _ _) rfl) (cell_blk (heap_new _ _) rfl) (cell_blk (heap_new _ _) rfl) (cell_blk (heap_new _ _) rfl)).mono ?_
  rintro r w1 ⟨rfl, k1⟩
  clear hP
  have k0 : Kp w w1 := ((Kp.refl w).alloc _).trans k1
  clear k1
  go_wp2_with fail
  refine alloc_any (P := fun W => Code.wp _ _ _ _ W) fun W hB kW => ?_
  replace k0 := k0.trans kW
  obtain ⟨a0, a1, a2, a3, a4, a5, a6, a7, a8, -⟩ := (Kp.refl W).nine hB
  generalize w1.heap.size = B at *
  have hS := And.intro a0 (And.intro a1 (And.intro a2 (And.intro a3 (And.intro a4 (And.intro a5 (And.intro a6 (And.intro a7 (And.intro a8 k0))))))))
  go_region_held3 (fun w' => w'.cell? ⟨B, 0, none⟩ = some (.int .i64 5) ∧ w'.cell? ⟨B, 1, none⟩ = some (.int .i64 4) ∧ w'.cell? ⟨B, 2, none⟩ = some (.int .i64 1) ∧ w'.cell? ⟨B, 3, none⟩ = some (.int .i64 4) ∧ w'.cell? ⟨B, 4, none⟩ = some (.int .i64 64) ∧ w'.cell? ⟨B, 5, none⟩ = some (.int .i64 8) ∧ w'.cell? ⟨B, 6, none⟩ = some (.int .i64 16) ∧ w'.cell? ⟨B, 7, none⟩ = some (.int .i64 24) ∧ w'.cell? ⟨B, 8, none⟩ = some (.int .i64 200) ∧ Kp w w')
    (first | with_reducible assumption | with_reducible exact hd_drew (by assumption) | with_reducible exact hd_call k5 (by assumption))
    (first | (go_at_call 14; refine (example_any _).mono ?_; rintro r w5 ⟨rfl, k5⟩))
  have hS6 : (w5.cell? ⟨B, 0, none⟩ = some (.int .i64 5) ∧ w5.cell? ⟨B, 1, none⟩ = some (.int .i64 4) ∧ w5.cell? ⟨B, 2, none⟩ = some (.int .i64 1) ∧ w5.cell? ⟨B, 3, none⟩ = some (.int .i64 4) ∧ w5.cell? ⟨B, 4, none⟩ = some (.int .i64 64) ∧ w5.cell? ⟨B, 5, none⟩ = some (.int .i64 8) ∧ w5.cell? ⟨B, 6, none⟩ = some (.int .i64 16) ∧ w5.cell? ⟨B, 7, none⟩ = some (.int .i64 24) ∧ w5.cell? ⟨B, 8, none⟩ = some (.int .i64 200) ∧ Kp w w5) := by assumption
  go_wp2_with fail
  go_ret
  exact ⟨rfl, hS6.2.2.2.2.2.2.2.2.2⟩
end Go.Proofs.Yteepnkhfeokenaa
