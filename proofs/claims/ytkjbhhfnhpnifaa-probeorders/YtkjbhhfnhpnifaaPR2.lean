/-
  The reference's power, Most, Slots.
-/
import Derived.Test.YtkjbhhfnhpnifaaPR1
namespace Go.Proofs.Ytkjbhhfnhpnifaa
open Go.RowKit
set_option linter.unusedVariables false

theorem pow_pw {n p hi : Int} {k : Nat} (hp : p = ((2 ^ k : Nat) : Int)) (hle : p ≤ hi) (e : p = n) : pw n 1 hi = true := by
  subst e
  refine (pw_iff (by omega)).2 ⟨?_, hle, k, hp⟩
  have := Nat.two_pow_pos k
  omega
theorem pow_npw {n p hi : Int} {k : Nat} (hp : p = ((2 ^ k : Nat) : Int)) (hlt : hi < p) (h : ∀ j, j < k → n ≠ ((2 ^ j : Nat) : Int)) : pw n 1 hi = false := by
  cases hq : pw n 1 hi
  · rfl
  · obtain ⟨h1, h2, j, rfl⟩ := (pw_iff (by omega)).1 hq
    exfalso
    refine h j (Nat.lt_of_not_le fun hle => ?_) rfl
    have := Nat.pow_le_pow_right (n := 2) (by omega) hle
    omega

set_option maxHeartbeats 1000000 in
theorem rpower_any (n hi : Int) (w : World) (h0 : 1 ≤ hi) (hhi : hi ≤ 65536) :
    Calls Try.prog 22 #[.int .i64 n, .int .i64 hi] w fun e w' => e = .returned (.bool (pw n 1 hi)) ∧ w' = w := by
  obtain ⟨V, hV⟩ : ∃ V, pw n 1 hi = V := ⟨_, rfl⟩
  rw [hV]
  replace hV := hide hV
  go_enter Try.func22, Try.ntmps22
  go_wp2_with fail
  go_loop [5] (fun v => ∃ (k : Nat) (p : Int), v = .int .i64 p ∧ Hid (p = ((2 ^ k : Nat) : Int) ∧ ∀ j, j < k → n ≠ ((2 ^ j : Nat) : Int)) ∧ 1 ≤ p ∧ p ≤ 131072) (fun v => (200000 - intOf v).toNat)
  case atStart => exact ⟨0, 1, rfl, ⟨rfl, fun j hj => by omega⟩, by omega, by omega⟩
  case round =>
    obtain ⟨k, p, rfl, hj, p1, p2⟩ := hrel
    by_cases hle : p ≤ hi
    · by_cases he : p = n
      · have e := hV.out.symm.trans (pow_pw hj.out.1 hle he)
        subst e
        subst he
        clear hj hV
        go_wp2_with fail
        go_ret
        exact ⟨rfl, rfl⟩
      · have he' : (p == n) = false := by simpa using he
        have e : Hid (p * 2 = ((2 ^ (k + 1) : Nat) : Int) ∧ ∀ j, j < k + 1 → n ≠ ((2 ^ j : Nat) : Int)) := by
          refine ⟨?_, fun j hjk => ?_⟩
          · rw [hj.out.1, Nat.pow_succ]; omega
          · by_cases hjk' : j < k
            · exact hj.out.2 j hjk'
            · obtain rfl : j = k := by omega
              rw [← hj.out.1]
              exact fun e => he e.symm
        clear hj
        go_wp2_with fail
        go_round
        case rel => exact ⟨k + 1, p * 2, rfl, e, by omega, by omega⟩
        case measure => simp [intOf]; omega
    · have e := hV.out.symm.trans (pow_npw hj.out.1 (by omega) hj.out.2)
      subst e
      clear hj hV
      go_wp2_with fail
      go_ret
      exact ⟨rfl, rfl⟩

theorem pw_low {s : Int} (h : 8 ≤ s) : pw s 8 65536 = pw s 1 65536 := by
  rw [Bool.eq_iff_iff, pw_iff (by omega), pw_iff (by omega)]
  constructor
  · rintro ⟨h1, h2, h3⟩; exact ⟨by omega, h2, h3⟩
  · rintro ⟨h1, h2, h3⟩; exact ⟨h, h2, h3⟩

theorem rmost_any (s : Int) (w : World) :
    Calls Try.prog 17 #[.int .i64 s] w fun e w' => e = .returned (.int .i64 (mostN s)) ∧ w' = w := by
  by_cases h8 : s < 8
  · have e : mostN s = 0 := by
      unfold mostN
      rw [if_neg]
      intro h
      obtain ⟨h1, _⟩ := (pw_iff (by omega)).1 h
      omega
    rw [e]
    go_enter Try.func17, Try.ntmps17
    go_wp2_with fail
    go_ret
    exact ⟨rfl, rfl⟩
  · have hp := rpower_any s 65536 w (by omega) (by omega)
    rw [← pw_low (by omega)] at hp
    cases hq : pw s 8 65536
    · rw [hq] at hp
      have e : mostN s = 0 := by unfold mostN; rw [hq]; rfl
      rw [e]
      go_enter Try.func17, Try.ntmps17
      go_wp2_with fail
      refine hp.mono ?_
      rintro e w' ⟨rfl, rfl⟩
      go_wp2_with fail
      go_ret
      exact ⟨rfl, rfl⟩
    · rw [hq] at hp
      have e : mostN s = s / 8 * 7 := by unfold mostN; rw [hq]; rfl
      rw [e]
      obtain ⟨h1, h2, _⟩ := (pw_iff (by omega)).1 hq
      go_enter Try.func17, Try.ntmps17
      go_wp2_with fail
      refine hp.mono ?_
      rintro e w' ⟨rfl, rfl⟩
      go_wp2_with fail
      go_ret
      exact ⟨rfl, rfl⟩

set_option maxHeartbeats 1000000 in
theorem rslots_any (n : Int) (w : World) :
    Calls Try.prog 18 #[.int .i64 n] w fun e w' => e = .returned (.int .i64 (slotsN n)) ∧ w' = w := by
  by_cases h0 : n < 0
  · have e : slotsN n = 0 := by unfold slotsN; rw [if_pos h0]
    rw [e]
    go_enter Try.func18, Try.ntmps18
    go_wp2_with fail
    go_loop [3] (fun v => ∃ (p : Int), v = .int .i64 p ∧ 8 ≤ p ∧ p ≤ 131072) (fun v => (200000 - intOf v).toNat)
    case atStart => exact ⟨8, rfl, by omega, by omega⟩
    case round =>
      obtain ⟨p, rfl, p1, p2⟩ := hrel
      by_cases hle : p ≤ 65536
      · go_wp2_with fail
        go_round
        case rel => exact ⟨p * 2, rfl, by omega, by omega⟩
        case measure => simp [intOf]; omega
      · go_wp2_with fail
        go_ret
        exact ⟨rfl, rfl⟩
  · have e : slotsN n = slF n 14 8 := by unfold slotsN; rw [if_neg h0]
    rw [e]
    obtain ⟨V, hV0⟩ : ∃ V, slF n 14 8 = V := ⟨_, rfl⟩
    rw [hV0]
    have hV : Hid (slF n 14 ((8 * 2 ^ 0 : Nat) : Int) = V) := hV0
    clear e hV0
    go_enter Try.func18, Try.ntmps18
    go_wp2_with fail
    go_loop [3] (fun v => ∃ (j : Nat) (p : Int), v = .int .i64 p ∧ Hid (j ≤ 14 ∧ p = ((8 * 2 ^ j : Nat) : Int) ∧ slF n (14 - j) p = V) ∧ 8 ≤ p ∧ p ≤ 131072) (fun v => (200000 - intOf v).toNat)
    case atStart => exact ⟨0, 8, rfl, ⟨by omega, rfl, hV.out⟩, by omega, by omega⟩
    case round =>
      obtain ⟨j, p, rfl, hj, p1, p2⟩ := hrel
      have hm := rmost_any p w
      by_cases hlt : j < 14
      · have hq : pw p 8 65536 = true := by rw [hj.out.2.1]; exact pwS_yes j hlt
        have hmn : mostN p = p / 8 * 7 := by unfold mostN; rw [hq]; rfl
        rw [hmn] at hm
        have hp13 : p ≤ 65536 := by rw [hj.out.2.1]; exact pow_le13 (by omega)
        have hun : Hid (slF n (14 - j) p = if n ≤ p / 8 * 7 then p else slF n (14 - (j + 1)) (2 * p)) := by
          obtain ⟨i, hi⟩ : ∃ i, 14 - j = i + 1 := ⟨14 - j - 1, by omega⟩
          have hi2 : 14 - (j + 1) = i := by omega
          show slF n (14 - j) p = _
          rw [hi, hi2]
          rfl
        by_cases hle : n ≤ p / 8 * 7
        · have e : p = V := by
            have := hun.out
            rw [if_pos hle] at this
            exact this.symm.trans hj.out.2.2
          subst e
          clear hV hj hun
          go_wp2_with fail
          refine hm.mono ?_
          rintro e w' ⟨rfl, rfl⟩
          go_wp2_with fail
          go_ret
          exact ⟨rfl, rfl⟩
        · have e : Hid (j + 1 ≤ 14 ∧ p * 2 = ((8 * 2 ^ (j + 1) : Nat) : Int) ∧ slF n (14 - (j + 1)) (p * 2) = V) := by
            show j + 1 ≤ 14 ∧ p * 2 = ((8 * 2 ^ (j + 1) : Nat) : Int) ∧ slF n (14 - (j + 1)) (p * 2) = V
            rw [Int.mul_comm p 2]
            have := hun.out
            rw [if_neg hle] at this
            exact ⟨by omega, by rw [pow_int, ← hj.out.2.1], this.symm.trans hj.out.2.2⟩
          clear hV hj hun
          go_wp2_with fail
          refine hm.mono ?_
          rintro e w' ⟨rfl, rfl⟩
          go_wp2_with fail
          go_round
          case rel => exact ⟨j + 1, p * 2, rfl, e, by omega, by omega⟩
          case measure => simp [intOf]; omega
      · have e14 : j = 14 := by have := hj.out.1; omega
        subst e14
        have e : (0 : Int) = V := hj.out.2.2
        have hbig : 65536 < p := by
          have h2 := hj.out.2.1
          have : ((8 * 2 ^ 14 : Nat) : Int) = 131072 := by decide
          omega
        subst e
        clear hV hj
        go_wp2_with fail
        go_ret
        exact ⟨rfl, rfl⟩
end Go.Proofs.Ytkjbhhfnhpnifaa
