import Derived.Test.YteokfhccfmeffaaL5
namespace Go.Proofs.Yteokfhccfmeffaa
open Go.RowKit

set_option maxHeartbeats 4000000 in
theorem keyAt_any (l : Lay) (i : Int) (w : World) :
    Calls Try.prog 17 #[.agg #[.int .i64 l.k, .int .i64 l.e, .int .i64 l.a, .int .i64 l.b, .int .i64 l.c, .int .i64 l.eo, .int .i64 l.bo, .int .i64 l.s, .int .i64 l.g], .int .i64 i] w
      fun r w' => r = .returned (.int .i64 (placeD l i 0)) ∧ Kp w w' := by
  have hP := fun W => place_any l i 0 W (fun _ => by omega)
  go_enter Try.func17, Try.ntmps17
  go_wp2_with fail
  refine (hP _).mono ?_
  rintro r w1 ⟨rfl, k1⟩
  clear hP
  go_wp2_with fail
  go_ret
  exact ⟨rfl, ((Kp.refl w).alloc _).trans k1⟩

set_option maxHeartbeats 4000000 in
theorem elemAt_any (l : Lay) (i : Int) (w : World) :
    Calls Try.prog 19 #[.agg #[.int .i64 l.k, .int .i64 l.e, .int .i64 l.a, .int .i64 l.b, .int .i64 l.c, .int .i64 l.eo, .int .i64 l.bo, .int .i64 l.s, .int .i64 l.g], .int .i64 i] w
      fun r w' => r = .returned (.int .i64 (placeD l i l.eo)) ∧ Kp w w' := by
  have hP := fun W => place_any l i l.eo W (fun h => by have := valid_bound h; omega)
  go_enter Try.func19, Try.ntmps19
  go_wp2_with fail
  refine (hP _).mono ?_
  rintro r w1 ⟨rfl, k1⟩
  clear hP
  go_wp2_with fail
  go_ret
  exact ⟨rfl, ((Kp.refl w).alloc _).trans k1⟩

set_option maxHeartbeats 4000000 in
theorem birthAt_any (l : Lay) (i : Int) (w : World) :
    Calls Try.prog 20 #[.agg #[.int .i64 l.k, .int .i64 l.e, .int .i64 l.a, .int .i64 l.b, .int .i64 l.c, .int .i64 l.eo, .int .i64 l.bo, .int .i64 l.s, .int .i64 l.g], .int .i64 i] w
      fun r w' => r = .returned (.int .i64 (placeD l i l.bo)) ∧ Kp w w' := by
  have hP := fun W => place_any l i l.bo W (fun h => by have := valid_bound h; omega)
  go_enter Try.func20, Try.ntmps20
  go_wp2_with fail
  refine (hP _).mono ?_
  rintro r w1 ⟨rfl, k1⟩
  clear hP
  go_wp2_with fail
  go_ret
  exact ⟨rfl, ((Kp.refl w).alloc _).trans k1⟩

def groupsD (l : Lay) (n : Int) : Int := if pw n 8 65536 = true ∧ validB l = true then n / 8 * l.g else -1

set_option maxHeartbeats 4000000 in
theorem groups_any (l : Lay) (n : Int) (w : World) :
    Calls Try.prog 18 #[.agg #[.int .i64 l.k, .int .i64 l.e, .int .i64 l.a, .int .i64 l.b, .int .i64 l.c, .int .i64 l.eo, .int .i64 l.bo, .int .i64 l.s, .int .i64 l.g], .int .i64 n] w
      fun r w' => r = .returned (.int .i64 (groupsD l n)) ∧ Kp w w' := by
  have hP := fun W => power_any n 8 65536 W (by omega) (by omega)
  have hV := fun W => valid_any l W
  cases hp : pw n 8 65536
  · have e : groupsD l n = -1 := if_neg (fun h => by rw [hp] at h; exact absurd h.1 (by simp))
    rw [e]
    rw [hp] at hP
    clear hp e hV
    go_enter Try.func18, Try.ntmps18
    go_wp2_with fail
    refine (hP _).mono ?_
    rintro r w1 ⟨rfl, rfl⟩
    clear hP
    go_wp2_with fail
    go_ret
    exact ⟨rfl, (Kp.refl w).alloc _⟩
  cases hv : validB l
  · have e : groupsD l n = -1 := if_neg (fun h => by rw [hv] at h; exact absurd h.2 (by simp))
    rw [e]
    rw [hp] at hP
    rw [hv] at hV
    clear hp hv e
    go_enter Try.func18, Try.ntmps18
    go_wp2_with fail
    refine (hP _).mono ?_
    rintro r w1 ⟨rfl, rfl⟩
    clear hP
    go_wp2_with fail
    refine (hV _).mono ?_
    rintro r w1 ⟨rfl, k1⟩
    clear hV
    go_wp2_with fail
    go_ret
    exact ⟨rfl, ((Kp.refl w).alloc _).trans k1⟩
  · have e : groupsD l n = n / 8 * l.g := if_pos ⟨hp, hv⟩
    rw [e]
    have hb := valid_bound hv
    have hn : 8 ≤ n ∧ n ≤ 65536 := by
      have := of_decide_eq_true hp
      omega
    have hn1 : 8 ≤ n := hn.1
    have hq0 : 0 ≤ n / 8 := by omega
    have hq1 : n / 8 ≤ 8192 := by omega
    have hg0 : 0 ≤ l.g := by omega
    have hg1 : l.g ≤ 3000 := by omega
    have hm0 : 0 ≤ n / 8 * l.g := Int.mul_nonneg hq0 hg0
    have hm1 : n / 8 * l.g ≤ 8192 * 3000 := Int.mul_le_mul hq1 hg1 hg0 (by omega)
    rw [hp] at hP
    rw [hv] at hV
    clear hp hv e hb hn
    go_enter Try.func18, Try.ntmps18
    go_wp2_with fail
    refine (hP _).mono ?_
    rintro r w1 ⟨rfl, rfl⟩
    clear hP
    go_wp2_with fail
    refine (hV _).mono ?_
    rintro r w1 ⟨rfl, k1⟩
    clear hV
    have k0 : Kp w w1 := ((Kp.refl w).alloc _).trans k1
    obtain ⟨b0, b1, b2, b3, b4, b5, b6, b7, b8, -⟩ := k1.nine (b := w.heap.size) (heap_new _ _)
    clear k1 b0 b1 b2 b3 b4 b5 b6 b7
    go_wp2_with fail
    go_ret
    exact ⟨rfl, k0⟩
end Go.Proofs.Yteokfhccfmeffaa
