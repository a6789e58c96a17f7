import Derived.Test.YteepnkhfeokenaaL6
namespace Go.Proofs.Yteepnkhfeokenaa
open Go.RowKit

theorem up_step {x a n : Int} (ha : a = 1 ∨ a = 2 ∨ a = 4 ∨ a = 8) (hn : n % a = 0) (h1 : x ≤ n) (h2 : n < x + a) : n = up x a := by
  unfold up
  rcases ha with rfl | rfl | rfl | rfl <;> omega

set_option maxHeartbeats 1000000 in
theorem ref_raised (x a : Int) (w : World) (h0 : 0 ≤ x) (h1 : x ≤ 300) (ha : a = 1 ∨ a = 2 ∨ a = 4 ∨ a = 8) :
    Calls Try.prog 11 #[.int .i64 x, .int .i64 a] w fun e w' => e = .returned (.int .i64 (up x a)) ∧ w' = w := by
  have a1 : 1 ≤ a := by omega
  have a8 : a ≤ 8 := by omega
  have hU : Hid (∀ n : Int, n % a = 0 → x ≤ n → n < x + a → n = up x a) := fun n e1 e2 e3 => up_step ha e1 e2 e3
  have hM : Hid (∀ n : Int, n % a = 0 → (n + a) % a = 0) := fun n e => by rw [Int.add_emod_right]; exact e
  generalize up x a = U at *
  clear ha
  go_enter Try.func11, Try.ntmps11
  go_wp2_with fail
  go_loop [5] (fun v => ∃ n : Int, v = .int .i64 n ∧ Hid (n % a = 0) ∧ 0 ≤ n ∧ n < x + a) (fun v => (x - intOf v).toNat)
  case atStart => exact ⟨0, rfl, Int.zero_emod a, by omega, by omega⟩
  case round =>
    obtain ⟨n, rfl, hn, n0, n1⟩ := hrel
    by_cases hlt : n < x
    · go_wp2_with fail
      go_round
      case rel => exact ⟨n + a, rfl, hM.out n hn.out, by omega, by omega⟩
      case measure => simp [intOf]; omega
    · have e := hU.out n hn.out (by omega) n1
      subst e
      go_wp2_with fail
      go_ret
      exact ⟨rfl, rfl⟩

set_option maxHeartbeats 1000000 in
theorem ref_power8 (x : Int) (w : World) :
    Calls Try.prog 10 #[.int .i64 x, .int .i64 1, .int .i64 8] w fun e w' => e = .returned (.bool (pw x 1 8)) ∧ w' = w := by
  have hT : Hid (pw x 1 8 = true ↔ x = 1 ∨ x = 2 ∨ x = 4 ∨ x = 8) := pw8
  generalize pw x 1 8 = V at *
  go_enter Try.func10, Try.ntmps10
  go_wp2_with fail
  go_loop [7] (fun v => ∃ p : Int, v = .int .i64 p ∧ 1 ≤ p ∧ p ≤ 16 ∧ Hid ((p = 1 ∨ p = 2 ∨ p = 4 ∨ p = 8 ∨ p = 16) ∧ (1 < p → x ≠ 1) ∧ (2 < p → x ≠ 2) ∧ (4 < p → x ≠ 4) ∧ (8 < p → x ≠ 8))) (fun v => (100 - intOf v).toNat)
  case atStart => exact ⟨1, rfl, by omega, by omega, by omega, by omega, by omega, by omega, by omega⟩
  case round =>
    obtain ⟨p, rfl, p1, p2, hp⟩ := hrel
    by_cases hle : p ≤ 8
    · by_cases he : p = x
      · have hV : V = true := hT.out.2 (by have := hp.out; omega)
        subst hV
        subst he
        go_wp2_with fail
        go_ret
        exact ⟨rfl, rfl⟩
      · have he' : (p == x) = false := by simpa using he
        go_wp2_with fail
        go_round
        case rel => exact ⟨2 * p, rfl, by omega, by omega, by have := hp.out; omega, by have := hp.out; omega, by have := hp.out; omega, by have := hp.out; omega, by have := hp.out; omega⟩
        case measure => simp [intOf]; omega
    · have hV : V = false := by
        cases hv : V
        · rfl
        · have := hT.out.1 hv
          have := hp.out
          omega
      subst hV
      go_wp2_with fail
      go_ret
      exact ⟨rfl, rfl⟩

set_option maxHeartbeats 1000000 in
theorem ref_powerCap (x : Int) (w : World) :
    Calls Try.prog 10 #[.int .i64 x, .int .i64 16, .int .i64 1024] w fun e w' => e = .returned (.bool (pw x 16 1024)) ∧ w' = w := by
  have hT : Hid (pw x 16 1024 = true ↔ x = 16 ∨ x = 32 ∨ x = 64 ∨ x = 128 ∨ x = 256 ∨ x = 512 ∨ x = 1024) := pwCap
  generalize pw x 16 1024 = V at *
  go_enter Try.func10, Try.ntmps10
  go_wp2_with fail
  go_loop [7] (fun v => ∃ p : Int, v = .int .i64 p ∧ 16 ≤ p ∧ p ≤ 2048 ∧ Hid ((p = 16 ∨ p = 32 ∨ p = 64 ∨ p = 128 ∨ p = 256 ∨ p = 512 ∨ p = 1024 ∨ p = 2048) ∧ (16 < p → x ≠ 16) ∧ (32 < p → x ≠ 32) ∧ (64 < p → x ≠ 64) ∧ (128 < p → x ≠ 128) ∧ (256 < p → x ≠ 256) ∧ (512 < p → x ≠ 512) ∧ (1024 < p → x ≠ 1024))) (fun v => (10000 - intOf v).toNat)
  case atStart => exact ⟨16, rfl, by omega, by omega, by omega, by omega, by omega, by omega, by omega, by omega, by omega, by omega⟩
  case round =>
    obtain ⟨p, rfl, p1, p2, hp⟩ := hrel
    by_cases hle : p ≤ 1024
    · by_cases he : p = x
      · have hV : V = true := hT.out.2 (by have := hp.out; omega)
        subst hV
        subst he
        go_wp2_with fail
        go_ret
        exact ⟨rfl, rfl⟩
      · have he' : (p == x) = false := by simpa using he
        go_wp2_with fail
        go_round
        case rel => exact ⟨2 * p, rfl, by omega, by omega, by have := hp.out; omega, by have := hp.out; omega, by have := hp.out; omega, by have := hp.out; omega, by have := hp.out; omega, by have := hp.out; omega, by have := hp.out; omega, by have := hp.out; omega⟩
        case measure => simp [intOf]; omega
    · have hV : V = false := by
        cases hv : V
        · rfl
        · have := hT.out.1 hv
          have := hp.out
          omega
      subst hV
      go_wp2_with fail
      go_ret
      exact ⟨rfl, rfl⟩

theorem ref_fits (x a : Int) (w : World) (h0 : 0 ≤ x) (h1 : x ≤ 128) :
    Calls Try.prog 9 #[.int .i64 x, .int .i64 a] w fun e w' => e = .returned (.bool (al x a)) ∧ w' = w := by
  have hp := ref_power8 a w
  cases hq : pw a 1 8
  · have e : al x a = false := by unfold al; rw [hq]; rfl
    rw [hq] at hp
    rw [e]
    go_enter Try.func9, Try.ntmps9
    go_wp2_with fail
    refine hp.mono ?_
    rintro e w' ⟨rfl, rfl⟩
    clear hp
    go_wp2_with fail
    go_ret
    exact ⟨rfl, rfl⟩
  · have ha := pw8.1 hq
    have hr := ref_raised x a w h0 (by omega) ha
    have e : al x a = (up x a == x) := by
      unfold al
      rw [hq, Bool.true_and, Bool.eq_iff_iff, decide_eq_true_iff, beq_iff_eq]
      unfold up
      rcases ha with rfl | rfl | rfl | rfl <;> omega
    rw [hq] at hp
    rw [e]
    go_enter Try.func9, Try.ntmps9
    go_wp2_with fail
    refine hp.mono ?_
    rintro e w' ⟨rfl, rfl⟩
    clear hp
    go_wp2_with fail
    refine hr.mono ?_
    rintro e w' ⟨rfl, rfl⟩
    clear hr
    go_wp2_with fail
    go_ret
    exact ⟨rfl, rfl⟩
end Go.Proofs.Yteepnkhfeokenaa
