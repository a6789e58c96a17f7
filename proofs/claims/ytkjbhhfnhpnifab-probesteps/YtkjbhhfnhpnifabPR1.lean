/-
  The calls of probe that are plain arithmetic: powerWithin, isGroups, isSlots, met, At, Start, Most, Slots.
-/
import Derived.Test.YtkjbhhfnhpnifabPB
import Derived.Test.YtkjbhhfnhpnifabRows
import Derived.WalkKit
import Derived.Outline
import Derived.Deep.RegionHeld3
namespace Go.Proofs.Ytkjbhhfnhpnifab
open Go.RowKit
set_option linter.unusedVariables false

theorem power_any (n lo hi : Int) (w : World) (hlo : 1 ≤ lo) (hhi : hi ≤ 1000000) :
    Calls Try.prog 14 #[.int .i64 n, .int .i64 lo, .int .i64 hi] w fun e w' => e = .returned (.bool (pw n lo hi)) ∧ w' = w := by
  by_cases h1 : lo ≤ n
  · by_cases h2 : n ≤ hi
    · obtain ⟨m, rfl⟩ := Int.eq_ofNat_of_zero_le (show 0 ≤ n by omega)
      have hp : bits .and .i64 (m : Int) ((m : Int) - 1) = ((m &&& (m - 1) : Nat) : Int) := and_pred m (by omega) (by omega)
      go_enter Try.func14, Try.ntmps14
      go_wp2
      go_ret
      refine ⟨?_, rfl⟩
      have e : ((((m &&& (m - 1) : Nat) : Int) == 0) : Bool) = decide (lo ≤ (m : Int) ∧ (m : Int) ≤ hi ∧ ((m : Int).toNat &&& ((m : Int).toNat - 1)) = 0) := by
        rw [Int.toNat_natCast, Bool.eq_iff_iff, beq_iff_eq, decide_eq_true_iff]
        constructor
        · exact fun h => ⟨h1, h2, by omega⟩
        · exact fun h => by rw [h.2.2]; rfl
      exact congrArg (fun b => Ending.returned (Value.bool b)) e
    · have e : pw n lo hi = false := decide_eq_false (fun h => h2 h.2.1)
      rw [e]
      have h2' : ¬ n ≤ hi := h2
      go_enter Try.func14, Try.ntmps14
      go_wp2
      go_ret
      exact ⟨rfl, rfl⟩
  · have e : pw n lo hi = false := decide_eq_false (fun h => h1 h.1)
    rw [e]
    go_enter Try.func14, Try.ntmps14
    go_wp2
    go_ret
    exact ⟨rfl, rfl⟩

theorem isGroups_any (n : Int) (w : World) :
    Calls Try.prog 10 #[.int .i64 n] w fun e w' => e = .returned (.bool (pw n 1 8192)) ∧ w' = w := by
  have hp := power_any n 1 8192 w (by omega) (by omega)
  go_enter Try.func10, Try.ntmps10
  go_wp2_with fail
  refine hp.mono ?_
  rintro e w' ⟨rfl, rfl⟩
  go_wp2_with fail
  go_ret
  exact ⟨rfl, rfl⟩

theorem met_val (h k n : Nat) (hk : k ≤ 13) (hn : n < 2 ^ k) :
    wrap64 ((IntKind.u64.wrap ((h : Int) + IntKind.u64.wrap ((IntKind.u64.wrap ((n : Int) * ((n : Int) + 1))).tdiv 2))).tmod ((2 ^ k : Nat) : Int)) = ((metN h (2 ^ k) n : Nat) : Int) := by
  obtain ⟨g1, g2⟩ := pow_bounds hk
  have hmul : n * (n + 1) ≤ 8192 * 8192 := Nat.mul_le_mul (by omega) (by omega)
  have e1 : (n : Int) * ((n : Int) + 1) = ((n * (n + 1) : Nat) : Int) := by rw [Int.natCast_mul]; rfl
  have e0 : IntKind.u64.wrap ((n * (n + 1) : Nat) : Int) = ((n * (n + 1) : Nat) : Int) := by
    rw [IntKind.wrap_u64]
    omega
  have e2 : IntKind.u64.wrap (((n * (n + 1) : Nat) : Int).tdiv 2) = ((n * (n + 1) / 2 : Nat) : Int) := by
    rw [IntKind.wrap_u64, Int.tdiv_eq_ediv_of_nonneg (by omega)]
    omega
  have e3 : IntKind.u64.wrap ((h : Int) + ((n * (n + 1) / 2 : Nat) : Int)) = (((h + n * (n + 1) / 2) % 18446744073709551616 : Nat) : Int) := by
    rw [IntKind.wrap_u64]
    omega
  rw [e1, e0, e2, e3, Int.tmod_eq_emod_of_nonneg (by omega), ← Int.natCast_emod, wrap_mod (by omega)]
  have hl : metN h (2 ^ k) n < 2 ^ k := metN_lt g1
  have hM : metN h (2 ^ k) n = (h + n * (n + 1) / 2) % 2 ^ k := rfl
  rw [← hM]
  unfold wrap64
  omega

set_option maxHeartbeats 1000000 in
theorem met_any (h k n : Nat) (w : World) (hk : k ≤ 13) (hn : n < 2 ^ k) (hh : h < 18446744073709551616) :
    Calls Try.prog 11 #[.int .u64 (h : Int), .int .i64 ((2 ^ k : Nat) : Int), .int .i64 (n : Int)] w fun e w' => e = .returned (.int .i64 ((metN h (2 ^ k) n : Nat) : Int)) ∧ w' = w := by
  obtain ⟨g1, g2⟩ := pow_bounds hk
  have hV := hide (met_val h k n hk hn)
  generalize metN h (2 ^ k) n = M at *
  generalize 2 ^ k = G at *
  go_enter Try.func11, Try.ntmps11
  go_wp2_with fail
  go_ret
  exact ⟨congrArg (fun x => Ending.returned (Value.int .i64 x)) hV.out, rfl⟩

theorem at_no (h g n : Int) (w : World) (hv : pw g 1 8192 = false ∨ n < 0 ∨ g ≤ n) :
    Calls Try.prog 6 #[.int .u64 h, .int .i64 g, .int .i64 n] w fun e w' => e = .returned (.int .i64 (-1)) ∧ w' = w := by
  have hp := isGroups_any g w
  cases hq : pw g 1 8192
  · rw [hq] at hp
    go_enter Try.func6, Try.ntmps6
    go_wp2_with fail
    refine hp.mono ?_
    rintro e w' ⟨rfl, rfl⟩
    go_wp2_with fail
    go_ret
    exact ⟨rfl, rfl⟩
  · rw [hq] at hp
    by_cases h0 : n < 0
    · go_enter Try.func6, Try.ntmps6
      go_wp2_with fail
      refine hp.mono ?_
      rintro e w' ⟨rfl, rfl⟩
      go_wp2_with fail
      go_ret
      exact ⟨rfl, rfl⟩
    · have h1 : g ≤ n := by
        rcases hv with h | h | h
        · rw [hq] at h; cases h
        · exact absurd h h0
        · exact h
      clear hv
      go_enter Try.func6, Try.ntmps6
      go_wp2_with fail
      refine hp.mono ?_
      rintro e w' ⟨rfl, rfl⟩
      go_wp2_with fail
      go_ret
      exact ⟨rfl, rfl⟩

theorem at_yes (h k n : Nat) (w : World) (hk : k ≤ 13) (hn : n < 2 ^ k) (hh : h < 18446744073709551616) :
    Calls Try.prog 6 #[.int .u64 (h : Int), .int .i64 ((2 ^ k : Nat) : Int), .int .i64 (n : Int)] w fun e w' => e = .returned (.int .i64 ((metN h (2 ^ k) n : Nat) : Int)) ∧ w' = w := by
  have hp := isGroups_any ((2 ^ k : Nat) : Int) w
  have hm := met_any h k n w hk hn hh
  rw [pwG_pow hk] at hp
  generalize metN h (2 ^ k) n = M at *
  generalize 2 ^ k = G at *
  have hn' : (n : Int) < (G : Int) := by omega
  go_enter Try.func6, Try.ntmps6
  go_wp2_with fail
  refine hp.mono ?_
  rintro e w' ⟨rfl, rfl⟩
  go_wp2_with fail
  refine hm.mono ?_
  rintro e w' ⟨rfl, rfl⟩
  go_wp2_with fail
  go_ret
  exact ⟨rfl, rfl⟩

/-- The group at step n, or -1. -/
def atN (h : Nat) (g n : Int) : Int := if pw g 1 8192 = true ∧ 0 ≤ n ∧ n < g then ((metN h g.toNat n.toNat : Nat) : Int) else -1
theorem at_any (h : Nat) (g n : Int) (w : World) (hh : h < 18446744073709551616) :
    Calls Try.prog 6 #[.int .u64 (h : Int), .int .i64 g, .int .i64 n] w fun e w' => e = .returned (.int .i64 (atN h g n)) ∧ w' = w := by
  by_cases hc : pw g 1 8192 = true ∧ 0 ≤ n ∧ n < g
  · unfold atN
    rw [if_pos hc]
    obtain ⟨h1, h2, h3⟩ := hc
    obtain ⟨k, hk, rfl⟩ := pwG h1
    obtain ⟨m, rfl⟩ := Int.eq_ofNat_of_zero_le h2
    exact at_yes h k m w hk (by omega) hh
  · unfold atN
    rw [if_neg hc]
    refine at_no h g n w ?_
    cases hq : pw g 1 8192
    · exact .inl rfl
    · exact .inr (by
        by_cases h0 : n < 0
        · exact .inl h0
        · exact .inr (by
            refine Int.not_lt.1 fun hlt => hc ⟨hq, by omega, hlt⟩))

/-- A call of At by its answer. -/
def AtIs (h g n r : Int) : Prop := ∃ H : Nat, h = (H : Int) ∧ H < 18446744073709551616 ∧ r = atN H g n
theorem at_is {h g n r : Int} (q : AtIs h g n r) (w : World) :
    Calls Try.prog 6 #[.int .u64 h, .int .i64 g, .int .i64 n] w fun e w' => e = .returned (.int .i64 r) ∧ w' = w := by
  obtain ⟨H, rfl, h1, rfl⟩ := q
  exact at_any H g n w h1
theorem atN_yes {h k n : Nat} (hk : k ≤ 13) (hn : n < 2 ^ k) : atN h ((2 ^ k : Nat) : Int) (n : Int) = ((metN h (2 ^ k) n : Nat) : Int) := by
  unfold atN
  rw [if_pos ⟨pwG_pow hk, by omega, by omega⟩]
  rfl

theorem start_any (h : Nat) (g : Int) (w : World) (hh : h < 18446744073709551616) :
    Calls Try.prog 4 #[.int .u64 (h : Int), .int .i64 g] w fun e w' => e = .returned (.int .i64 (atN h g 0)) ∧ w' = w := by
  have ha := at_any h g 0 w hh
  generalize atN h g 0 = M at *
  go_enter Try.func4, Try.ntmps4
  go_wp2_with fail
  refine ha.mono ?_
  rintro e w' ⟨rfl, rfl⟩
  go_wp2_with fail
  go_ret
  exact ⟨rfl, rfl⟩
end Go.Proofs.Ytkjbhhfnhpnifab
