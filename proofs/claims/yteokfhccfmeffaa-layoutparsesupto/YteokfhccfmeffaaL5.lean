import Derived.Test.YteokfhccfmeffaaL4
namespace Go.Proofs.Yteokfhccfmeffaa
open Go.RowKit

def placeD (l : Lay) (i x : Int) : Int := if 0 ≤ i ∧ i < 8 ∧ validB l = true then 8 + i * l.s + x else -1

theorem slot_bound {k e b : Int} (h0 : 1 ≤ k) (h1 : k ≤ 128) (h2 : 0 ≤ e) (h3 : e ≤ 128) (hb : b = 1 ∨ b = 2 ∨ b = 4 ∨ b = 8) :
    1 ≤ up k b ∧ up k b ≤ 135 ∧ 1 ≤ up (up k b + e) 8 ∧ up (up k b + e) 8 ≤ 270 ∧ 9 ≤ slotOf k e b ∧ slotOf k e b ≤ 278 := by
  have u1 := up_bound (x := k) hb
  have u2 := up_bound (x := up k b + e) (a := 8) (by omega)
  unfold slotOf
  omega
theorem valid_bound {l : Lay} (h : validB l = true) : errN l.k l.e l.a l.b l.c = 0 ∧ l = laidD l.k l.e l.a l.b l.c ∧ 1 ≤ l.eo ∧ l.eo ≤ 135 ∧ 1 ≤ l.bo ∧ l.bo ≤ 270 ∧ 9 ≤ l.s ∧ l.s ≤ 278 ∧ l.g = 8 + 8 * l.s := by
  obtain ⟨h1, h2⟩ := of_decide_eq_true h
  obtain ⟨e1, e2, e3, e4, e5, e6, e7⟩ := errN_zero h1
  have hb := (al_one e6).1
  have := slot_bound e1 e2 e3 e4 hb
  refine ⟨h1, h2, ?_⟩
  have f1 : l.eo = up l.k l.b := congrArg Lay.eo h2
  have f2 : l.bo = up (up l.k l.b + l.e) 8 := congrArg Lay.bo h2
  have f3 : l.s = slotOf l.k l.e l.b := congrArg Lay.s h2
  have f4 : l.g = 8 + 8 * slotOf l.k l.e l.b := congrArg Lay.g h2
  rw [f1, f2, f4, ← f3]
  rw [← f3] at this
  omega

set_option maxHeartbeats 4000000 in
theorem place_any (l : Lay) (i x : Int) (w : World) (hx : validB l = true → 0 ≤ x ∧ x ≤ 300) :
    Calls Try.prog 30 #[.agg #[.int .i64 l.k, .int .i64 l.e, .int .i64 l.a, .int .i64 l.b, .int .i64 l.c, .int .i64 l.eo, .int .i64 l.bo, .int .i64 l.s, .int .i64 l.g], .int .i64 i, .int .i64 x] w
      fun r w' => r = .returned (.int .i64 (placeD l i x)) ∧ Kp w w' := by
  by_cases h1 : i < 0
  · have e : placeD l i x = -1 := if_neg (fun h => by omega)
    rw [e]
    go_enter Try.func30, Try.ntmps30
    go_wp2_with fail
    go_ret
    exact ⟨rfl, (Kp.refl w).alloc _⟩
  by_cases h2 : 8 ≤ i
  · have e : placeD l i x = -1 := if_neg (fun h => by omega)
    rw [e]
    go_enter Try.func30, Try.ntmps30
    go_wp2_with fail
    go_ret
    exact ⟨rfl, (Kp.refl w).alloc _⟩
  have hV := fun W => valid_any l W
  cases hv : validB l
  · have e : placeD l i x = -1 := if_neg (fun h => by rw [hv] at h; exact absurd h.2.2 (by simp))
    rw [e]
    rw [hv] at hV
    go_enter Try.func30, Try.ntmps30
    go_wp2_with fail
    refine (hV _).mono ?_
    rintro r w1 ⟨rfl, k1⟩
    clear hV
    go_wp2_with fail
    go_ret
    exact ⟨rfl, ((Kp.refl w).alloc _).trans k1⟩
  · have e : placeD l i x = 8 + i * l.s + x := if_pos ⟨by omega, by omega, hv⟩
    have hx := hx hv
    have hb := valid_bound hv
    have hs0 : 0 ≤ i * l.s := Int.mul_nonneg (by omega) (by omega)
    have hs1 : i * l.s ≤ 8 * 278 := Int.mul_le_mul (by omega) (by omega) (by omega) (by omega)
    rw [e]
    rw [hv] at hV
    clear hb hv e
    go_enter Try.func30, Try.ntmps30
    go_wp2_with fail
    refine (hV _).mono ?_
    rintro r w1 ⟨rfl, k1⟩
    clear hV
    have k0 : Kp w w1 := ((Kp.refl w).alloc _).trans k1
    obtain ⟨b0, b1, b2, b3, b4, b5, b6, b7, b8, -⟩ := k1.nine (b := w.heap.size) (heap_new _ _)
    clear k1 b0 b1 b2 b3 b4 b5 b6 b8
    go_wp2_with fail
    go_ret
    exact ⟨rfl, k0⟩
end Go.Proofs.Yteokfhccfmeffaa
