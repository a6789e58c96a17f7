/-
  The reference's power, Most, Slots.
-/
import Derived.Test.YtkjbhhfnhpnifabPR1
namespace Go.Proofs.Ytkjbhhfnhpnifab
open Go.RowKit
set_option linter.unusedVariables false

theorem pow_pw {n p hi : Int} {k : Nat} (hp : p = ((2 ^ k : Nat) : Int)) (hle : p ≤ hi) (e : p = n) : pw n 1 hi = true := by
  subst e
  refine (pw_iff (by omega)).2 ⟨?_, hle, k, hp⟩
  have := Nat.two_pow_pos k
  omega
theorem pow_npw {n p hi : Int} {k : Nat} (hp : p = ((2 ^ k : Nat) : Int)) (hlt : hi < p) (h : ∀ j, j < k → n ≠ ((2 ^ j : Nat) : Int)) : pw n 1 hi = false := by
  cases hq : pw n 1 hi
  · rfl
  · obtain ⟨h1, h2, j, rfl⟩ := (pw_iff (by omega)).1 hq
    exfalso
    refine h j (Nat.lt_of_not_le fun hle => ?_) rfl
    have := Nat.pow_le_pow_right (n := 2) (by omega) hle
    omega

set_option maxHeartbeats 1000000 in
theorem rpower_any (n hi : Int) (w : World) (h0 : 1 ≤ hi) (hhi : hi ≤ 65536) :
    Calls Try.prog 15 #[.int .i64 n, .int .i64 hi] w fun e w' => e = .returned (.bool (pw n 1 hi)) ∧ w' = w := by
  obtain ⟨V, hV⟩ : ∃ V, pw n 1 hi = V := ⟨_, rfl⟩
  rw [hV]
  replace hV := hide hV
  go_enter Try.func15, Try.ntmps15
  go_wp2_with fail
  go_loop [5] (fun v => ∃ (k : Nat) (p : Int), v = .int .i64 p ∧ Hid (p = ((2 ^ k : Nat) : Int) ∧ ∀ j, j < k → n ≠ ((2 ^ j : Nat) : Int)) ∧ 1 ≤ p ∧ p ≤ 131072) (fun v => (200000 - intOf v).toNat)
  case atStart => exact ⟨0, 1, rfl, ⟨rfl, fun j hj => by omega⟩, by omega, by omega⟩
  case round =>
    obtain ⟨k, p, rfl, hj, p1, p2⟩ := hrel
    by_cases hle : p ≤ hi
    · by_cases he : p = n
      · have e := hV.out.symm.trans (pow_pw hj.out.1 hle he)
        subst e
        subst he
        clear hj hV
        go_wp2_with fail
        go_ret
        exact ⟨rfl, rfl⟩
      · have he' : (p == n) = false := by simpa using he
        have e : Hid (p * 2 = ((2 ^ (k + 1) : Nat) : Int) ∧ ∀ j, j < k + 1 → n ≠ ((2 ^ j : Nat) : Int)) := by
          refine ⟨?_, fun j hjk => ?_⟩
          · rw [hj.out.1, Nat.pow_succ]; omega
          · by_cases hjk' : j < k
            · exact hj.out.2 j hjk'
            · obtain rfl : j = k := by omega
              rw [← hj.out.1]
              exact fun e => he e.symm
        clear hj
        go_wp2_with fail
        go_round
        case rel => exact ⟨k + 1, p * 2, rfl, e, by omega, by omega⟩
        case measure => simp [intOf]; omega
    · have e := hV.out.symm.trans (pow_npw hj.out.1 (by omega) hj.out.2)
      subst e
      clear hj hV
      go_wp2_with fail
      go_ret
      exact ⟨rfl, rfl⟩

theorem pw_low {s : Int} (h : 8 ≤ s) : pw s 8 65536 = pw s 1 65536 := by
  rw [Bool.eq_iff_iff, pw_iff (by omega), pw_iff (by omega)]
  constructor
  · rintro ⟨h1, h2, h3⟩; exact ⟨by omega, h2, h3⟩
  · rintro ⟨h1, h2, h3⟩; exact ⟨h, h2, h3⟩
end Go.Proofs.Ytkjbhhfnhpnifab
