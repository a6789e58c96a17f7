import Derived.Test.YtkjbhhfnhpnifaaPR1
namespace Go.Proofs.Ytkjbhhfnhpnifaa

theorem u64_nat {a : Int} (h : (Lit.int .u64 a).wf = true) : ∃ A : Nat, a = (A : Int) ∧ A < 18446744073709551616 := by
  have h2 : 0 ≤ a ∧ a < 18446744073709551616 := by
    have e1 : IntKind.u64.min = 0 := rfl
    have e2 : IntKind.u64.max = 18446744073709551615 := rfl
    simp only [Lit.wf, decide_eq_true_eq, Bool.and_eq_true] at h
    rw [e1, e2] at h
    omega
  exact ⟨a.toNat, by omega, by omega⟩

namespace probeTriangle
open Go.RowKit
set_option linter.unusedVariables false

theorem walk_no (h : Nat) (g n : Int) (w : World) (hh : h < 18446744073709551616) (hv : pw g 1 8192 = false) :
    Calls Try.prog 5 #[.int .u64 (h : Int), .int .i64 g, .int .i64 n] w fun e w' => e = .returned (.bool true) ∧ Below w.heap.size w w' := by
  have h1 := valid_any g w
  rw [hv] at h1
  have h2 := start_any h g w hh
  have h3 := at_any h g n w hh
  have e2 : ∀ m, atN h g m = -1 := fun m => by unfold atN; rw [if_neg (by rw [hv]; simp)]
  rw [e2] at h2 h3
  clear e2
  go_enter Try.func5, Try.ntmps5
  go_wp2_with fail
  refine h1.mono ?_
  rintro e w' ⟨rfl, rfl⟩
  go_wp2_with fail
  refine h2.mono ?_
  rintro e w' ⟨rfl, rfl⟩
  go_wp2_with fail
  refine h3.mono ?_
  rintro e w' ⟨rfl, rfl⟩
  go_wp2_with fail
  go_ret
  exact ⟨rfl, Below.refl _ _⟩

theorem rem_val (h G : Nat) (h1 : 1 ≤ G) (h2 : G ≤ 8192) : wrap64 ((h : Int) % (G : Int)) = ((h % G : Nat) : Int) := by
  rw [← Int.natCast_emod]
  have := Nat.mod_lt h (show 0 < G by omega)
  unfold wrap64
  omega

set_option maxHeartbeats 1000000 in
theorem walk_yes (h k : Nat) (n : Int) (w : World) (hh : h < 18446744073709551616) (hk : k ≤ 13) :
    Calls Try.prog 5 #[.int .u64 (h : Int), .int .i64 ((2 ^ k : Nat) : Int), .int .i64 n] w fun e w' => e = .returned (.bool true) ∧ Below w.heap.size w w' := by
  have h1 := valid_any ((2 ^ k : Nat) : Int) w
  rw [pwG_pow hk] at h1
  obtain ⟨g1, g2⟩ := pow_bounds hk
  have h2 := start_any h ((2 ^ k : Nat) : Int) w hh
  have h3 := at_any h ((2 ^ k : Nat) : Int) 0 w hh
  have ha := at_any h ((2 ^ k : Nat) : Int) n w hh
  have e0 : atN h ((2 ^ k : Nat) : Int) 0 = ((h % 2 ^ k : Nat) : Int) := by
    unfold atN
    rw [if_pos ⟨pwG_pow hk, by omega, by omega⟩, Int.toNat_natCast, Int.toNat_zero, metN_zero]
  rw [e0] at h2 h3
  have hr := rem_val h (2 ^ k) g1 g2
  by_cases hn0 : n < 0
  · have ea : atN h ((2 ^ k : Nat) : Int) n = -1 := by unfold atN; rw [if_neg (by omega)]
    rw [ea] at ha
    clear e0 ea
    generalize 2 ^ k = G at *
    generalize h % G = R at *
    have hne : (n == (G : Int) - 1) = false := by rw [beq_eq_false_iff_ne]; omega
    go_enter Try.func5, Try.ntmps5
    go_wp2_with fail
    refine h1.mono ?_
    rintro e w' ⟨rfl, rfl⟩
    go_wp2_with fail
    refine h2.mono ?_
    rintro e w' ⟨rfl, rfl⟩
    go_wp2_with fail
    refine h3.mono ?_
    rintro e w' ⟨rfl, rfl⟩
    go_wp2_with fail
    refine ha.mono ?_
    rintro e w' ⟨rfl, rfl⟩
    go_wp2_with fail
    go_ret
    exact ⟨rfl, Below.refl _ _⟩
  · by_cases hn1 : ((2 ^ k : Nat) : Int) - 1 ≤ n
    · by_cases hn2 : n = ((2 ^ k : Nat) : Int) - 1
      · clear ha e0
        generalize 2 ^ k = G at *
        generalize h % G = R at *
        have hne : (n == (G : Int) - 1) = true := by rw [beq_iff_eq]; exact hn2
        replace hn2 := hide hn2
        go_enter Try.func5, Try.ntmps5
        go_wp2_with fail
        refine h1.mono ?_
        rintro e w' ⟨rfl, rfl⟩
        go_wp2_with fail
        refine h2.mono ?_
        rintro e w' ⟨rfl, rfl⟩
        go_wp2_with fail
        refine h3.mono ?_
        rintro e w' ⟨rfl, rfl⟩
        go_wp2_with fail
        go_ret
        exact ⟨rfl, Below.refl _ _⟩
      · have ea : atN h ((2 ^ k : Nat) : Int) n = -1 := by unfold atN; rw [if_neg (by omega)]
        rw [ea] at ha
        clear e0 ea
        generalize 2 ^ k = G at *
        generalize h % G = R at *
        have hne : (n == (G : Int) - 1) = false := by rw [beq_eq_false_iff_ne]; omega
        go_enter Try.func5, Try.ntmps5
        go_wp2_with fail
        refine h1.mono ?_
        rintro e w' ⟨rfl, rfl⟩
        go_wp2_with fail
        refine h2.mono ?_
        rintro e w' ⟨rfl, rfl⟩
        go_wp2_with fail
        refine h3.mono ?_
        rintro e w' ⟨rfl, rfl⟩
        go_wp2_with fail
        refine ha.mono ?_
        rintro e w' ⟨rfl, rfl⟩
        go_wp2_with fail
        go_ret
        exact ⟨rfl, Below.refl _ _⟩
    · obtain ⟨m, rfl⟩ := Int.eq_ofNat_of_zero_le (show 0 ≤ n by omega)
      have ha := at_yes h k m w hk (by omega) hh
      have hb : AtIs (h : Int) ((2 ^ k : Nat) : Int) ((m : Int) + 1) ((metN h (2 ^ k) (m + 1) : Nat) : Int) := ⟨h, rfl, hh, (atN_yes (n := m + 1) hk (by omega)).symm⟩
      have hw : IntKind.u64.wrap ((h : Int) + ((2 ^ k : Nat) : Int)) = (((h + 2 ^ k) % 18446744073709551616 : Nat) : Int) := by rw [IntKind.wrap_u64]; omega
      have hd : AtIs (((h + 2 ^ k) % 18446744073709551616 : Nat) : Int) ((2 ^ k : Nat) : Int) (m : Int) ((metN ((h + 2 ^ k) % 18446744073709551616) (2 ^ k) m : Nat) : Int) := ⟨_, rfl, Nat.mod_lt _ (by omega), (atN_yes hk (by omega)).symm⟩
      have ed : metN ((h + 2 ^ k) % 18446744073709551616) (2 ^ k) m = metN h (2 ^ k) m := by
        rw [← metN_mod, wrap_mod (by omega), Nat.add_mod_right, metN_mod]
      rw [ed] at hd
      have es := metN_succ h (2 ^ k) m
      have hl := metN_lt (h := h) (n := m) g1
      generalize (h + 2 ^ k) % 18446744073709551616 = H2 at *
      generalize metN h (2 ^ k) m = M at *
      generalize metN h (2 ^ k) (m + 1) = M2 at *
      clear e0 ed
      have hres : (((M : Int) + (m : Int) + 1) % ((2 ^ k : Nat) : Int)) = (M2 : Int) := by
        rw [show (M : Int) + (m : Int) + 1 = ((M + (m + 1) : Nat) : Int) by omega, ← Int.natCast_emod, ← es]
      have hres2 : (((M : Int) + (m : Int) + 1).tmod ((2 ^ k : Nat) : Int)) = (M2 : Int) := by
        rw [Int.tmod_eq_emod_of_nonneg (by omega)]
        exact hres
      have hlM2 : M2 < 2 ^ k := by rw [es]; exact Nat.mod_lt _ (by omega)
      have q1 : IntKind.i64.wrap ((m : Int) + 1) = (m : Int) + 1 := by rw [IntKind.wrap_i64]; omega
      have q2 : IntKind.i64.wrap ((M : Int) + (m : Int)) = (M : Int) + (m : Int) := by rw [IntKind.wrap_i64]; omega
      have q3 : IntKind.i64.wrap ((M : Int) + (m : Int) + 1) = (M : Int) + (m : Int) + 1 := by rw [IntKind.wrap_i64]; omega
      have q4 : IntKind.i64.wrap (M2 : Int) = (M2 : Int) := by rw [IntKind.wrap_i64]; omega
      have hGz : ¬ ((2 ^ k : Nat) : Int) = 0 := by omega
      have hGn : ¬ 2 ^ k = 0 := by omega
      have q5 : IntKind.u64.wrap ((2 ^ k : Nat) : Int) = ((2 ^ k : Nat) : Int) := by rw [IntKind.wrap_u64]; omega
      have hGb : (((2 ^ k : Nat) : Int) == 0) = false := by rw [beq_eq_false_iff_ne]; omega
      replace es := hide es
      generalize 2 ^ k = G at *
      generalize h % G = R at *
      have hlt : (m : Int) < (G : Int) - 1 := by omega
      go_enter Try.func5, Try.ntmps5
      go_wp2_with fail
      refine h1.mono ?_
      rintro e w' ⟨rfl, rfl⟩
      go_wp2_with fail
      refine h2.mono ?_
      rintro e w' ⟨rfl, rfl⟩
      go_wp2_with fail
      refine h3.mono ?_
      rintro e w' ⟨rfl, rfl⟩
      go_wp2_with fail
      refine ha.mono ?_
      rintro e w' ⟨rfl, rfl⟩
      go_wp2_with fail
      go_region_held3 (fun _ => True) (first | trivial) (first | (go_at_call 13; (with_reducible refine (at_is (by assumption) _).mono ?_); rintro r w5 ⟨rfl, rfl⟩))
      go_wp2_with fail
      go_ret
      exact ⟨rfl, (Below.refl _ _).drew⟩

theorem walk (h g n : Int) (w0 : (Lit.int .u64 h).wf = true) (w1 : (Lit.int .i64 g).wf = true) (w2 : (Lit.int .i64 n).wf = true) (w : World) :
    Calls Try.prog 5 #[.int .u64 h, .int .i64 g, .int .i64 n] w fun e w' => e = .returned (.bool true) ∧ Below w.heap.size w w' := by
  obtain ⟨H, rfl, hH⟩ := u64_nat w0
  cases hq : pw g 1 8192
  · exact walk_no H g n w hH hq
  · obtain ⟨k, hk, rfl⟩ := pwG hq
    exact walk_yes H k n w hH hk
end probeTriangle
end Go.Proofs.Ytkjbhhfnhpnifaa
