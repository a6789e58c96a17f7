/-
  The calls of probe that are plain arithmetic: powerWithin, isGroups, isSlots, met, At, Start, Most, Slots.
-/
import Derived.Test.YtkjbhhfnhpnifaaPB
import Derived.Test.YtkjbhhfnhpnifaaRows
import Derived.WalkKit
import Derived.Outline
import Derived.Deep.RegionHeld3
namespace Go.Proofs.Ytkjbhhfnhpnifaa
open Go.RowKit
set_option linter.unusedVariables false

theorem power_any (n lo hi : Int) (w : World) (hlo : 1 ≤ lo) (hhi : hi ≤ 1000000) :
    Calls Try.prog 24 #[.int .i64 n, .int .i64 lo, .int .i64 hi] w fun e w' => e = .returned (.bool (pw n lo hi)) ∧ w' = w := by
  by_cases h1 : lo ≤ n
  · by_cases h2 : n ≤ hi
    · obtain ⟨m, rfl⟩ := Int.eq_ofNat_of_zero_le (show 0 ≤ n by omega)
      have hp : bits .and .i64 (m : Int) ((m : Int) - 1) = ((m &&& (m - 1) : Nat) : Int) := and_pred m (by omega) (by omega)
      go_enter Try.func24, Try.ntmps24
      go_wp2
      go_ret
      refine ⟨?_, rfl⟩
      have e : ((((m &&& (m - 1) : Nat) : Int) == 0) : Bool) = decide (lo ≤ (m : Int) ∧ (m : Int) ≤ hi ∧ ((m : Int).toNat &&& ((m : Int).toNat - 1)) = 0) := by
        rw [Int.toNat_natCast, Bool.eq_iff_iff, beq_iff_eq, decide_eq_true_iff]
        constructor
        · exact fun h => ⟨h1, h2, by omega⟩
        · exact fun h => by rw [h.2.2]; rfl
      exact congrArg (fun b => Ending.returned (Value.bool b)) e
    · have e : pw n lo hi = false := decide_eq_false (fun h => h2 h.2.1)
      rw [e]
      have h2' : ¬ n ≤ hi := h2
      go_enter Try.func24, Try.ntmps24
      go_wp2
      go_ret
      exact ⟨rfl, rfl⟩
  · have e : pw n lo hi = false := decide_eq_false (fun h => h1 h.1)
    rw [e]
    go_enter Try.func24, Try.ntmps24
    go_wp2
    go_ret
    exact ⟨rfl, rfl⟩

theorem valid_any (n : Int) (w : World) :
    Calls Try.prog 9 #[.int .i64 n] w fun e w' => e = .returned (.bool (pw n 1 8192)) ∧ w' = w := by
  by_cases h1 : 1 ≤ n
  · by_cases h2 : n ≤ 8192
    · obtain ⟨m, rfl⟩ := Int.eq_ofNat_of_zero_le (show 0 ≤ n by omega)
      have hp : bits .and .i64 (m : Int) ((m : Int) - 1) = ((m &&& (m - 1) : Nat) : Int) := and_pred m (by omega) (by omega)
      go_enter Try.func9, Try.ntmps9
      go_wp2
      go_ret
      refine ⟨?_, rfl⟩
      have e : ((((m &&& (m - 1) : Nat) : Int) == 0) : Bool) = decide (1 ≤ (m : Int) ∧ (m : Int) ≤ 8192 ∧ ((m : Int).toNat &&& ((m : Int).toNat - 1)) = 0) := by
        rw [Int.toNat_natCast, Bool.eq_iff_iff, beq_iff_eq, decide_eq_true_iff]
        constructor
        · exact fun h => ⟨h1, h2, by omega⟩
        · exact fun h => by rw [h.2.2]; rfl
      exact congrArg (fun b => Ending.returned (Value.bool b)) e
    · have e : pw n 1 8192 = false := decide_eq_false (fun h => h2 h.2.1)
      rw [e]
      have h2' : ¬ n ≤ 8192 := h2
      go_enter Try.func9, Try.ntmps9
      go_wp2
      go_ret
      exact ⟨rfl, rfl⟩
  · have e : pw n 1 8192 = false := decide_eq_false (fun h => h1 h.1)
    rw [e]
    go_enter Try.func9, Try.ntmps9
    go_wp2
    go_ret
    exact ⟨rfl, rfl⟩

theorem isGroups_any (n : Int) (w : World) :
    Calls Try.prog 20 #[.int .i64 n] w fun e w' => e = .returned (.bool (pw n 1 8192)) ∧ w' = w := by
  have hp := power_any n 1 8192 w (by omega) (by omega)
  go_enter Try.func20, Try.ntmps20
  go_wp2_with fail
  refine hp.mono ?_
  rintro e w' ⟨rfl, rfl⟩
  go_wp2_with fail
  go_ret
  exact ⟨rfl, rfl⟩

theorem isSlots_any (n : Int) (w : World) :
    Calls Try.prog 23 #[.int .i64 n] w fun e w' => e = .returned (.bool (pw n 8 65536)) ∧ w' = w := by
  have hp := power_any n 8 65536 w (by omega) (by omega)
  go_enter Try.func23, Try.ntmps23
  go_wp2_with fail
  refine hp.mono ?_
  rintro e w' ⟨rfl, rfl⟩
  go_wp2_with fail
  go_ret
  exact ⟨rfl, rfl⟩

theorem met_val (h k n : Nat) (hk : k ≤ 13) (hn : n < 2 ^ k) :
    wrap64 ((IntKind.u64.wrap ((h : Int) + IntKind.u64.wrap ((IntKind.u64.wrap ((n : Int) * ((n : Int) + 1))).tdiv 2))).tmod ((2 ^ k : Nat) : Int)) = ((metN h (2 ^ k) n : Nat) : Int) := by
  obtain ⟨g1, g2⟩ := pow_bounds hk
  have hmul : n * (n + 1) ≤ 8192 * 8192 := Nat.mul_le_mul (by omega) (by omega)
  have e1 : (n : Int) * ((n : Int) + 1) = ((n * (n + 1) : Nat) : Int) := by rw [Int.natCast_mul]; rfl
  have e0 : IntKind.u64.wrap ((n * (n + 1) : Nat) : Int) = ((n * (n + 1) : Nat) : Int) := by
    rw [IntKind.wrap_u64]
    omega
  have e2 : IntKind.u64.wrap (((n * (n + 1) : Nat) : Int).tdiv 2) = ((n * (n + 1) / 2 : Nat) : Int) := by
    rw [IntKind.wrap_u64, Int.tdiv_eq_ediv_of_nonneg (by omega)]
    omega
  have e3 : IntKind.u64.wrap ((h : Int) + ((n * (n + 1) / 2 : Nat) : Int)) = (((h + n * (n + 1) / 2) % 18446744073709551616 : Nat) : Int) := by
    rw [IntKind.wrap_u64]
    omega
  rw [e1, e0, e2, e3, Int.tmod_eq_emod_of_nonneg (by omega), ← Int.natCast_emod, wrap_mod (by omega)]
  have hl : metN h (2 ^ k) n < 2 ^ k := metN_lt g1
  have hM : metN h (2 ^ k) n = (h + n * (n + 1) / 2) % 2 ^ k := rfl
  rw [← hM]
  unfold wrap64
  omega

set_option maxHeartbeats 1000000 in
theorem met_any (h k n : Nat) (w : World) (hk : k ≤ 13) (hn : n < 2 ^ k) (hh : h < 18446744073709551616) :
    Calls Try.prog 21 #[.int .u64 (h : Int), .int .i64 ((2 ^ k : Nat) : Int), .int .i64 (n : Int)] w fun e w' => e = .returned (.int .i64 ((metN h (2 ^ k) n : Nat) : Int)) ∧ w' = w := by
  obtain ⟨g1, g2⟩ := pow_bounds hk
  have hV := hide (met_val h k n hk hn)
  generalize metN h (2 ^ k) n = M at *
  generalize 2 ^ k = G at *
  go_enter Try.func21, Try.ntmps21
  go_wp2_with fail
  go_ret
  exact ⟨congrArg (fun x => Ending.returned (Value.int .i64 x)) hV.out, rfl⟩

theorem at_no (h g n : Int) (w : World) (hv : pw g 1 8192 = false ∨ n < 0 ∨ g ≤ n) :
    Calls Try.prog 13 #[.int .u64 h, .int .i64 g, .int .i64 n] w fun e w' => e = .returned (.int .i64 (-1)) ∧ w' = w := by
  have hp := isGroups_any g w
  cases hq : pw g 1 8192
  · rw [hq] at hp
    go_enter Try.func13, Try.ntmps13
    go_wp2_with fail
    refine hp.mono ?_
    rintro e w' ⟨rfl, rfl⟩
    go_wp2_with fail
    go_ret
    exact ⟨rfl, rfl⟩
  · rw [hq] at hp
    by_cases h0 : n < 0
    · go_enter Try.func13, Try.ntmps13
      go_wp2_with fail
      refine hp.mono ?_
      rintro e w' ⟨rfl, rfl⟩
      go_wp2_with fail
      go_ret
      exact ⟨rfl, rfl⟩
    · have h1 : g ≤ n := by
        rcases hv with h | h | h
        · rw [hq] at h; cases h
        · exact absurd h h0
        · exact h
      clear hv
      go_enter Try.func13, Try.ntmps13
      go_wp2_with fail
      refine hp.mono ?_
      rintro e w' ⟨rfl, rfl⟩
      go_wp2_with fail
      go_ret
      exact ⟨rfl, rfl⟩

theorem at_yes (h k n : Nat) (w : World) (hk : k ≤ 13) (hn : n < 2 ^ k) (hh : h < 18446744073709551616) :
    Calls Try.prog 13 #[.int .u64 (h : Int), .int .i64 ((2 ^ k : Nat) : Int), .int .i64 (n : Int)] w fun e w' => e = .returned (.int .i64 ((metN h (2 ^ k) n : Nat) : Int)) ∧ w' = w := by
  have hp := isGroups_any ((2 ^ k : Nat) : Int) w
  have hm := met_any h k n w hk hn hh
  rw [pwG_pow hk] at hp
  generalize metN h (2 ^ k) n = M at *
  generalize 2 ^ k = G at *
  have hn' : (n : Int) < (G : Int) := by omega
  go_enter Try.func13, Try.ntmps13
  go_wp2_with fail
  refine hp.mono ?_
  rintro e w' ⟨rfl, rfl⟩
  go_wp2_with fail
  refine hm.mono ?_
  rintro e w' ⟨rfl, rfl⟩
  go_wp2_with fail
  go_ret
  exact ⟨rfl, rfl⟩

/-- The group at step n, or -1. -/
def atN (h : Nat) (g n : Int) : Int := if pw g 1 8192 = true ∧ 0 ≤ n ∧ n < g then ((metN h g.toNat n.toNat : Nat) : Int) else -1
theorem at_any (h : Nat) (g n : Int) (w : World) (hh : h < 18446744073709551616) :
    Calls Try.prog 13 #[.int .u64 (h : Int), .int .i64 g, .int .i64 n] w fun e w' => e = .returned (.int .i64 (atN h g n)) ∧ w' = w := by
  by_cases hc : pw g 1 8192 = true ∧ 0 ≤ n ∧ n < g
  · unfold atN
    rw [if_pos hc]
    obtain ⟨h1, h2, h3⟩ := hc
    obtain ⟨k, hk, rfl⟩ := pwG h1
    obtain ⟨m, rfl⟩ := Int.eq_ofNat_of_zero_le h2
    exact at_yes h k m w hk (by omega) hh
  · unfold atN
    rw [if_neg hc]
    refine at_no h g n w ?_
    cases hq : pw g 1 8192
    · exact .inl rfl
    · exact .inr (by
        by_cases h0 : n < 0
        · exact .inl h0
        · exact .inr (by
            refine Int.not_lt.1 fun hlt => hc ⟨hq, by omega, hlt⟩))

/-- A call of At by its answer. -/
def AtIs (h g n r : Int) : Prop := ∃ H : Nat, h = (H : Int) ∧ H < 18446744073709551616 ∧ r = atN H g n
theorem at_is {h g n r : Int} (q : AtIs h g n r) (w : World) :
    Calls Try.prog 13 #[.int .u64 h, .int .i64 g, .int .i64 n] w fun e w' => e = .returned (.int .i64 r) ∧ w' = w := by
  obtain ⟨H, rfl, h1, rfl⟩ := q
  exact at_any H g n w h1
theorem atN_yes {h k n : Nat} (hk : k ≤ 13) (hn : n < 2 ^ k) : atN h ((2 ^ k : Nat) : Int) (n : Int) = ((metN h (2 ^ k) n : Nat) : Int) := by
  unfold atN
  rw [if_pos ⟨pwG_pow hk, by omega, by omega⟩]
  rfl

theorem start_any (h : Nat) (g : Int) (w : World) (hh : h < 18446744073709551616) :
    Calls Try.prog 12 #[.int .u64 (h : Int), .int .i64 g] w fun e w' => e = .returned (.int .i64 (atN h g 0)) ∧ w' = w := by
  have ha := at_any h g 0 w hh
  generalize atN h g 0 = M at *
  go_enter Try.func12, Try.ntmps12
  go_wp2_with fail
  refine ha.mono ?_
  rintro e w' ⟨rfl, rfl⟩
  go_wp2_with fail
  go_ret
  exact ⟨rfl, rfl⟩

theorem most_any (s : Int) (w : World) :
    Calls Try.prog 16 #[.int .i64 s] w fun e w' => e = .returned (.int .i64 (mostN s)) ∧ w' = w := by
  have hp := isSlots_any s w
  cases hq : pw s 8 65536
  · rw [hq] at hp
    have e : mostN s = 0 := by unfold mostN; rw [hq]; rfl
    rw [e]
    go_enter Try.func16, Try.ntmps16
    go_wp2_with fail
    refine hp.mono ?_
    rintro e w' ⟨rfl, rfl⟩
    go_wp2_with fail
    go_ret
    exact ⟨rfl, rfl⟩
  · rw [hq] at hp
    have e : mostN s = s / 8 * 7 := by unfold mostN; rw [hq]; rfl
    rw [e]
    obtain ⟨h1, h2, _⟩ := (pw_iff (by omega)).1 hq
    go_enter Try.func16, Try.ntmps16
    go_wp2_with fail
    refine hp.mono ?_
    rintro e w' ⟨rfl, rfl⟩
    go_wp2_with fail
    go_ret
    exact ⟨rfl, rfl⟩

set_option maxHeartbeats 1000000 in
theorem slots_any (n : Int) (w : World) :
    Calls Try.prog 15 #[.int .i64 n] w fun e w' => e = .returned (.int .i64 (slotsN n)) ∧ w' = w := by
  by_cases h0 : n < 0
  · have e : slotsN n = 0 := by unfold slotsN; rw [if_pos h0]
    rw [e]
    go_enter Try.func15, Try.ntmps15
    go_wp2_with fail
    go_ret
    exact ⟨rfl, rfl⟩
  · have e : slotsN n = slF n 14 8 := by unfold slotsN; rw [if_neg h0]
    rw [e]
    obtain ⟨V, hV0⟩ : ∃ V, slF n 14 8 = V := ⟨_, rfl⟩
    rw [hV0]
    have hV : Hid (slF n 14 ((8 * 2 ^ 0 : Nat) : Int) = V) := hV0
    clear e hV0
    go_enter Try.func15, Try.ntmps15
    go_wp2_with fail
    go_loop [3] (fun v => ∃ (j : Nat) (p : Int), v = .int .i64 p ∧ Hid (j ≤ 14 ∧ p = ((8 * 2 ^ j : Nat) : Int) ∧ slF n (14 - j) p = V) ∧ 8 ≤ p ∧ p ≤ 131072) (fun v => (200000 - intOf v).toNat)
    case atStart => exact ⟨0, 8, rfl, ⟨by omega, rfl, hV.out⟩, by omega, by omega⟩
    case round =>
      obtain ⟨j, p, rfl, hj, p1, p2⟩ := hrel
      have hs := isSlots_any p w
      have hm := most_any p w
      by_cases hlt : j < 14
      · have hq : pw p 8 65536 = true := by rw [hj.out.2.1]; exact pwS_yes j hlt
        have hmn : mostN p = p / 8 * 7 := by unfold mostN; rw [hq]; rfl
        rw [hq] at hs
        rw [hmn] at hm
        have hp13 : p ≤ 65536 := by rw [hj.out.2.1]; exact pow_le13 (by omega)
        have hun : Hid (slF n (14 - j) p = if n ≤ p / 8 * 7 then p else slF n (14 - (j + 1)) (2 * p)) := by
          obtain ⟨i, hi⟩ : ∃ i, 14 - j = i + 1 := ⟨14 - j - 1, by omega⟩
          have hi2 : 14 - (j + 1) = i := by omega
          show slF n (14 - j) p = _
          rw [hi, hi2]
          rfl
        by_cases hle : n ≤ p / 8 * 7
        · have e : p = V := by
            have := hun.out
            rw [if_pos hle] at this
            exact this.symm.trans hj.out.2.2
          subst e
          clear hV hj hun
          go_wp2_with fail
          refine hs.mono ?_
          rintro e w' ⟨rfl, rfl⟩
          go_wp2_with fail
          refine hm.mono ?_
          rintro e w' ⟨rfl, rfl⟩
          go_wp2_with fail
          go_ret
          exact ⟨rfl, rfl⟩
        · have e : Hid (j + 1 ≤ 14 ∧ p * 2 = ((8 * 2 ^ (j + 1) : Nat) : Int) ∧ slF n (14 - (j + 1)) (p * 2) = V) := by
            show j + 1 ≤ 14 ∧ p * 2 = ((8 * 2 ^ (j + 1) : Nat) : Int) ∧ slF n (14 - (j + 1)) (p * 2) = V
            rw [Int.mul_comm p 2]
            have := hun.out
            rw [if_neg hle] at this
            exact ⟨by omega, by rw [pow_int, ← hj.out.2.1], this.symm.trans hj.out.2.2⟩
          clear hV hj hun
          go_wp2_with fail
          refine hs.mono ?_
          rintro e w' ⟨rfl, rfl⟩
          go_wp2_with fail
          refine hm.mono ?_
          rintro e w' ⟨rfl, rfl⟩
          go_wp2_with fail
          go_round
          case rel => exact ⟨j + 1, p * 2, rfl, e, by omega, by omega⟩
          case measure => simp [intOf]; omega
      · have e14 : j = 14 := by have := hj.out.1; omega
        subst e14
        have hq : pw p 8 65536 = false := by rw [hj.out.2.1]; exact pwS_no
        rw [hq] at hs
        have e : (0 : Int) = V := hj.out.2.2
        subst e
        clear hV hj
        go_wp2_with fail
        refine hs.mono ?_
        rintro e w' ⟨rfl, rfl⟩
        go_wp2_with fail
        go_ret
        exact ⟨rfl, rfl⟩
end Go.Proofs.Ytkjbhhfnhpnifaa
