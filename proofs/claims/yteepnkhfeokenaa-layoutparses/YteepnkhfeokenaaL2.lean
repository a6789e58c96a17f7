import Derived.Test.YteepnkhfeokenaaL1
namespace Go.Proofs.Yteepnkhfeokenaa
open Go.RowKit

/-- What was there stays; what is new may be anything. -/
def Kp (w w' : World) : Prop := Below w.heap.size w w'
theorem Kp.refl (w : World) : Kp w w := Below.refl _ _
theorem Kp.trans {w w1 w2 : World} (h : Kp w w1) (k : Kp w1 w2) : Kp w w2 := Below.trans h (Below.mono k h.size)
theorem Kp.alloc {w w1 : World} (h : Kp w w1) (o : Obj) : Kp w (w1.alloc o) := Below.alloc h h.size o
theorem Kp.drew {w w1 : World} (h : Kp w w1) : Kp w w1.drew := Below.drew h
theorem Kp.cell {w w1 : World} (h : Kp w w1) {p : Addr} {v : Value} (hp : w.cell? p = some v) : w1.cell? p = some v := by
  have : p.block < w.heap.size := by
    refine Nat.lt_of_not_le fun hn => ?_
    rw [World.cell?, Array.getElem?_eq_none hn] at hp
    cases hp
  exact (Below.cell h this).trans hp

set_option maxHeartbeats 1000000 in
theorem refused_any (k e a b c x1 x2 x3 x4 : Int) (w : World) :
    Calls Try.prog 12 #[.agg #[.int .i64 k, .int .i64 e, .int .i64 a, .int .i64 b, .int .i64 c, .int .i64 x1, .int .i64 x2, .int .i64 x3, .int .i64 x4]] w
      fun r w' => r = .returned (.int .i64 (errN k e a b c)) ∧ Kp w w' := by
  by_cases hk : k < 1 ∨ 128 < k
  · have he : errN k e a b c = 31 := by unfold errN; rw [if_pos hk]
    rw [he]
    rcases hk with hk | hk
    · go_enter Try.func12, Try.ntmps12
      go_wp2_with fail
      go_ret
      refine ⟨rfl, ?_⟩
      repeat first | exact Below.refl _ _ | refine Below.alloc ?_ (by simp <;> omega) _ | refine Below.setCell ?_ (by simp <;> omega) _
    · have hk' : ¬ k < 1 := by omega
      go_enter Try.func12, Try.ntmps12
      go_wp2_with fail
      go_ret
      refine ⟨rfl, ?_⟩
      repeat first | exact Below.refl _ _ | refine Below.alloc ?_ (by simp <;> omega) _ | refine Below.setCell ?_ (by simp <;> omega) _
  have hk1 : ¬ k < 1 := fun h => hk (Or.inl h)
  have hk2 : ¬ 128 < k := fun h => hk (Or.inr h)
  by_cases hm : e < 0 ∨ 128 < e
  · have he : errN k e a b c = 32 := by unfold errN; rw [if_neg hk, if_pos hm]
    rw [he]
    clear hk
    rcases hm with hm | hm
    · go_enter Try.func12, Try.ntmps12
      go_wp2_with fail
      go_ret
      refine ⟨rfl, ?_⟩
      repeat first | exact Below.refl _ _ | refine Below.alloc ?_ (by simp <;> omega) _ | refine Below.setCell ?_ (by simp <;> omega) _
    · have hm' : ¬ e < 0 := by omega
      go_enter Try.func12, Try.ntmps12
      go_wp2_with fail
      go_ret
      refine ⟨rfl, ?_⟩
      repeat first | exact Below.refl _ _ | refine Below.alloc ?_ (by simp <;> omega) _ | refine Below.setCell ?_ (by simp <;> omega) _
  have hm1 : ¬ e < 0 := fun h => hm (Or.inl h)
  have hm2 : ¬ 128 < e := fun h => hm (Or.inr h)
  have hA := fun W => aligned_any k a W (by omega) (by omega)
  have hB := fun W => aligned_any e b W (by omega) (by omega)
  have hC := fun W => power_any c 16 1024 W (by omega) (by omega)
  cases hqa : al k a
  · have he : errN k e a b c = 33 := by unfold errN; rw [if_neg hk, if_neg hm, if_pos (Or.inl hqa)]
    rw [he]
    simp only [hqa] at hA
    clear hk hm hB hC hqa he
    go_enter Try.func12, Try.ntmps12
    go_wp2_with fail
    refine (hA _).mono ?_
    rintro r w' ⟨rfl, rfl⟩
    clear hA
    go_wp2_with fail
    go_ret
    refine ⟨rfl, ?_⟩
    repeat first | exact Below.refl _ _ | refine Below.alloc ?_ (by simp <;> omega) _ | refine Below.setCell ?_ (by simp <;> omega) _
  cases hqb : al e b
  · have he : errN k e a b c = 33 := by unfold errN; rw [if_neg hk, if_neg hm, if_pos (Or.inr hqb)]
    rw [he]
    simp only [hqa] at hA
    simp only [hqb] at hB
    clear hk hm hC hqa hqb he
    go_enter Try.func12, Try.ntmps12
    go_wp2_with fail
    refine (hA _).mono ?_
    rintro r w' ⟨rfl, rfl⟩
    clear hA
    go_wp2_with fail
    refine (hB _).mono ?_
    rintro r w' ⟨rfl, rfl⟩
    clear hB
    go_wp2_with fail
    go_ret
    refine ⟨rfl, ?_⟩
    repeat first | exact Below.refl _ _ | refine Below.alloc ?_ (by simp <;> omega) _ | refine Below.setCell ?_ (by simp <;> omega) _
  have hno : ¬ (al k a = false ∨ al e b = false) := by rw [hqa, hqb]; simp
  cases hqc : pw c 16 1024
  · have he : errN k e a b c = 34 := by unfold errN; rw [if_neg hk, if_neg hm, if_neg hno, if_pos hqc]
    rw [he]
    simp only [hqa] at hA
    simp only [hqb] at hB
    simp only [hqc] at hC
    clear hk hm hno hqa hqb hqc he
    go_enter Try.func12, Try.ntmps12
    go_wp2_with fail
    refine (hA _).mono ?_
    rintro r w' ⟨rfl, rfl⟩
    clear hA
    go_wp2_with fail
    refine (hB _).mono ?_
    rintro r w' ⟨rfl, rfl⟩
    clear hB
    go_wp2_with fail
    refine (hC _).mono ?_
    rintro r w' ⟨rfl, rfl⟩
    clear hC
    go_wp2_with fail
    go_ret
    refine ⟨rfl, ?_⟩
    repeat first | exact Below.refl _ _ | refine Below.alloc ?_ (by simp <;> omega) _ | refine Below.setCell ?_ (by simp <;> omega) _
  · have he : errN k e a b c = 0 := by unfold errN; rw [if_neg hk, if_neg hm, if_neg hno, if_neg (by rw [hqc]; simp)]
    rw [he]
    simp only [hqa] at hA
    simp only [hqb] at hB
    simp only [hqc] at hC
    clear hk hm hno hqa hqb hqc he
    go_enter Try.func12, Try.ntmps12
    go_wp2_with fail
    refine (hA _).mono ?_
    rintro r w' ⟨rfl, rfl⟩
    clear hA
    go_wp2_with fail
    refine (hB _).mono ?_
    rintro r w' ⟨rfl, rfl⟩
    clear hB
    go_wp2_with fail
    refine (hC _).mono ?_
    rintro r w' ⟨rfl, rfl⟩
    clear hC
    go_wp2_with fail
    go_ret
    refine ⟨rfl, ?_⟩
    repeat first | exact Below.refl _ _ | refine Below.alloc ?_ (by simp <;> omega) _ | refine Below.setCell ?_ (by simp <;> omega) _

theorem errN_zero {k e a b c : Int} (h : errN k e a b c = 0) : 1 ≤ k ∧ k ≤ 128 ∧ 0 ≤ e ∧ e ≤ 128 ∧ al k a = true ∧ al e b = true ∧ pw c 16 1024 = true := by
  unfold errN at h
  split at h
  · omega
  split at h
  · omega
  split at h
  · omega
  split at h
  · omega
  rename_i h1 h2 h3 h4
  refine ⟨by omega, by omega, by omega, by omega, ?_, ?_, by simpa using h4⟩
  · cases hq : al k a
    · exact absurd (Or.inl hq) h3
    · rfl
  · cases hq : al e b
    · exact absurd (Or.inr hq) h3
    · rfl
theorem al_one {x a : Int} (h : al x a = true) : (a = 1 ∨ a = 2 ∨ a = 4 ∨ a = 8) ∧ x % a = 0 := by
  unfold al at h
  rw [Bool.and_eq_true, decide_eq_true_iff] at h
  exact ⟨pw8.1 h.1, h.2⟩
theorem up_bound {x a : Int} (ha : a = 1 ∨ a = 2 ∨ a = 4 ∨ a = 8) : x ≤ up x a ∧ up x a < x + a ∧ up x a % a = 0 := by
  unfold up
  rcases ha with rfl | rfl | rfl | rfl <;> omega

set_option maxHeartbeats 1000000 in
theorem laid_any (k e a b c x1 x2 x3 x4 : Int) (w : World) (h : errN k e a b c = 0) :
    Calls Try.prog 13 #[.agg #[.int .i64 k, .int .i64 e, .int .i64 a, .int .i64 b, .int .i64 c, .int .i64 x1, .int .i64 x2, .int .i64 x3, .int .i64 x4]] w
      fun r w' => r = .returned (laidD k e a b c).val ∧ Kp w w' := by
  obtain ⟨h1, h2, h3, h4, h5, h6, h7⟩ := errN_zero h
  have hb := (al_one h6).1
  have u1 := up_bound (x := k) hb
  have u2 := up_bound (x := up k b + e) (a := 8) (by omega)
  have hR := fun W => raised_any k b W (by omega) (by omega) hb
  have hS := fun W => raised_any (up k b + e) 8 W (by omega) (by omega) (by omega)
  have e1 : up (up k b + e) 8 + 8 = slotOf k e b := rfl
  have hs0 : 0 ≤ slotOf k e b := by omega
  have hs1 : slotOf k e b ≤ 1000 := by omega
  unfold Lay.val laidD
  rw [← e1] at hs0 hs1 ⊢
  generalize hX : up k b = X at *
  generalize hY : up (X + e) 8 = Y at *
  have hX0 : 0 ≤ X := by omega
  have hX1 : X ≤ 200 := by omega
  have hY1 : Y ≤ 1000 := by omega
  have hY0 : 0 ≤ Y := by omega
  clear u1 u2 h5 h6 h7 h hb hX hY e1 hs0 hs1
  go_enter Try.func13, Try.ntmps13
  go_wp2_with fail
  refine (hR _).mono ?_
  rintro r w' ⟨rfl, rfl⟩
  clear hR
  go_wp2_with fail
  refine (hS _).mono ?_
  rintro r w' ⟨rfl, rfl⟩
  clear hS
  go_wp2_with fail
  refine bodyPost_ret (v := .agg #[.int .i64 k, .int .i64 e, .int .i64 a, .int .i64 b, .int .i64 c, .int .i64 X, .int .i64 Y, .int .i64 (Y + 8), .int .i64 (8 + 8 * (Y + 8))]) (by simp [results, Try.results13, go_sem]) rfl ⟨rfl, ?_⟩
  repeat first | exact Below.refl _ _ | refine Below.alloc ?_ (by simp <;> omega) _ | refine Below.setCell ?_ (by simp <;> omega) _
end Go.Proofs.Yteepnkhfeokenaa
