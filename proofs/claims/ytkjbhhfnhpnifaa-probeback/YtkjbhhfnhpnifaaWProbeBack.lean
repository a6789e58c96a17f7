import Derived.Test.YtkjbhhfnhpnifaaPO2
namespace Go.Proofs.Ytkjbhhfnhpnifaa

theorem u64_nat {a : Int} (h : (Lit.int .u64 a).wf = true) : ∃ A : Nat, a = (A : Int) ∧ A < 18446744073709551616 := by
  have h2 : 0 ≤ a ∧ a < 18446744073709551616 := by
    have e1 : IntKind.u64.min = 0 := rfl
    have e2 : IntKind.u64.max = 18446744073709551615 := rfl
    simp only [Lit.wf, decide_eq_true_eq, Bool.and_eq_true] at h
    rw [e1, e2] at h
    omega
  exact ⟨a.toNat, by omega, by omega⟩

namespace probeBack
open Go.RowKit
set_option linter.unusedVariables false

theorem steps_met {h k i : Nat} (hk : k ≤ 13) (hi : i < 2 ^ k) : stepsN h ((2 ^ k : Nat) : Int) ((metN h (2 ^ k) i : Nat) : Int) = (i : Int) := by
  unfold stepsN
  rw [ordN_yes hk]
  have hlen : i < ((List.range (2 ^ k)).map (metN h (2 ^ k))).length := by simpa using hi
  have e1 : ((List.range (2 ^ k)).map (metN h (2 ^ k))) = (List.range i).map (metN h (2 ^ k)) ++ metN h (2 ^ k) i :: ((List.range (2 ^ k)).map (metN h (2 ^ k))).drop (i + 1) := by
    have e2 := (List.take_append_drop i ((List.range (2 ^ k)).map (metN h (2 ^ k)))).symm
    rw [List.drop_eq_getElem_cons hlen] at e2
    rw [← List.map_take, List.take_range, Nat.min_eq_left (by omega)] at e2
    simpa using e2
  rw [e1]
  refine (stepsL_some rfl (fun z hz e => ?_)).trans ?_
  · obtain ⟨j, hj, rfl⟩ := List.mem_map.1 hz
    have hj' := List.mem_range.1 hj
    have := metN_inj (by omega) hi (Int.ofNat.inj e)
    omega
  · simp
theorem steps_out {h k : Nat} {x : Int} (hk : k ≤ 13) (hx : x < 0 ∨ ((2 ^ k : Nat) : Int) ≤ x) : stepsN h ((2 ^ k : Nat) : Int) x = -1 := by
  unfold stepsN
  rw [ordN_yes hk]
  refine stepsL_none (fun y hy e => ?_)
  obtain ⟨j, hj, rfl⟩ := List.mem_map.1 hy
  have := metN_lt (h := h) (n := j) (pow_bounds hk).1
  omega
theorem steps_none {h : Nat} {g x : Int} (hq : pw g 1 8192 = false) : stepsN h g x = -1 := by
  unfold stepsN
  rw [ordN_no hq]
  rfl

set_option maxHeartbeats 1000000 in
theorem walk_no (h : Nat) (g n x : Int) (w : World) (hh : h < 18446744073709551616) (hv : pw g 1 8192 = false) :
    Calls Try.prog 6 #[.int .u64 (h : Int), .int .i64 g, .int .i64 n, .int .i64 x] w fun e w' => e = .returned (.bool true) ∧ Kp w w' := by
  have h1 := fun w => valid_any g w
  rw [hv] at h1
  have h2 := fun w => start_any h g w hh
  have h3 := fun w => at_any h g n w hh
  have h4 := fun w => steps_any h g x w hh
  have e2 : ∀ m, atN h g m = -1 := fun m => by unfold atN; rw [if_neg (by rw [hv]; simp)]
  rw [e2] at h2 h3
  rw [steps_none hv] at h4
  clear e2
  go_enter Try.func6, Try.ntmps6
  go_wp2_with fail
  refine (h3 _).mono ?_
  rintro e w1 ⟨rfl, rfl⟩
  go_wp2_with fail
  refine (h4 _).mono ?_
  rintro e w2 ⟨rfl, k2⟩
  go_wp2_with fail
  refine (h1 _).mono ?_
  rintro e w3 ⟨rfl, rfl⟩
  go_wp2_with fail
  refine (h2 _).mono ?_
  rintro e w3 ⟨rfl, rfl⟩
  go_wp2_with fail
  go_ret
  exact ⟨rfl, k2⟩

set_option maxHeartbeats 2000000 in
theorem walk_oo (h k : Nat) (hk : k ≤ 13) (hh : h < 18446744073709551616) (n : Int) (hn : n < 0 ∨ ((2 ^ k : Nat) : Int) ≤ n) (x : Int) (hx : x < 0 ∨ ((2 ^ k : Nat) : Int) ≤ x) (w : World) :
    Calls Try.prog 6 #[.int .u64 (h : Int), .int .i64 ((2 ^ k : Nat) : Int), .int .i64 n, .int .i64 x] w fun e w' => e = .returned (.bool true) ∧ Kp w w' := by
  have h1 := fun w => valid_any ((2 ^ k : Nat) : Int) w
  rw [pwG_pow hk] at h1
  obtain ⟨g1, g2⟩ := pow_bounds hk
  have ha := fun w => at_no (h : Int) ((2 ^ k : Nat) : Int) n w (Or.inr hn)
  have hS := fun w => steps_any h ((2 ^ k : Nat) : Int) x w hh
  rw [steps_out hk hx] at hS
  generalize 2 ^ k = G at *
  by_cases n0 : n < 0
  · clear hn
    by_cases x0 : x < 0
    · clear hx
      go_enter Try.func6, Try.ntmps6
      go_wp2_with fail
      refine (ha _).mono ?_
      rintro e w1 ⟨rfl, rfl⟩
      go_wp2_with fail
      refine (hS _).mono ?_
      rintro e w2 ⟨rfl, k2⟩
      go_wp2_with fail
      refine (h1 _).mono ?_
      rintro e w3 ⟨rfl, rfl⟩
      go_wp2_with fail
      go_ret
      exact ⟨rfl, k2⟩
    · have x1 : (G : Int) ≤ x := by omega
      clear hx
      go_enter Try.func6, Try.ntmps6
      go_wp2_with fail
      refine (ha _).mono ?_
      rintro e w1 ⟨rfl, rfl⟩
      go_wp2_with fail
      refine (hS _).mono ?_
      rintro e w2 ⟨rfl, k2⟩
      go_wp2_with fail
      refine (h1 _).mono ?_
      rintro e w3 ⟨rfl, rfl⟩
      go_wp2_with fail
      go_ret
      exact ⟨rfl, k2⟩
  · have n1 : (G : Int) ≤ n := by omega
    clear hn
    by_cases x0 : x < 0
    · clear hx
      go_enter Try.func6, Try.ntmps6
      go_wp2_with fail
      refine (ha _).mono ?_
      rintro e w1 ⟨rfl, rfl⟩
      go_wp2_with fail
      refine (hS _).mono ?_
      rintro e w2 ⟨rfl, k2⟩
      go_wp2_with fail
      refine (h1 _).mono ?_
      rintro e w3 ⟨rfl, rfl⟩
      go_wp2_with fail
      go_ret
      exact ⟨rfl, k2⟩
    · have x1 : (G : Int) ≤ x := by omega
      clear hx
      go_enter Try.func6, Try.ntmps6
      go_wp2_with fail
      refine (ha _).mono ?_
      rintro e w1 ⟨rfl, rfl⟩
      go_wp2_with fail
      refine (hS _).mono ?_
      rintro e w2 ⟨rfl, k2⟩
      go_wp2_with fail
      refine (h1 _).mono ?_
      rintro e w3 ⟨rfl, rfl⟩
      go_wp2_with fail
      go_ret
      exact ⟨rfl, k2⟩

set_option maxHeartbeats 2000000 in
theorem walk_oi (h k : Nat) (hk : k ≤ 13) (hh : h < 18446744073709551616) (n : Int) (hn : n < 0 ∨ ((2 ^ k : Nat) : Int) ≤ n) (j : Nat) (hj : j < 2 ^ k) (w : World) :
    Calls Try.prog 6 #[.int .u64 (h : Int), .int .i64 ((2 ^ k : Nat) : Int), .int .i64 n, .int .i64 ((metN h (2 ^ k) j : Nat) : Int)] w fun e w' => e = .returned (.bool true) ∧ Kp w w' := by
  have h1 := fun w => valid_any ((2 ^ k : Nat) : Int) w
  rw [pwG_pow hk] at h1
  obtain ⟨g1, g2⟩ := pow_bounds hk
  have ha := fun w => at_no (h : Int) ((2 ^ k : Nat) : Int) n w (Or.inr hn)
  have hS := fun w => steps_any h ((2 ^ k : Nat) : Int) ((metN h (2 ^ k) j : Nat) : Int) w hh
  rw [steps_met hk hj] at hS
  have hA := fun w => at_yes h k j w hk hj hh
  have hl2 := metN_lt (h := h) (n := j) g1
  generalize metN h (2 ^ k) j = Y at *
  generalize 2 ^ k = G at *
  have hji : (j : Int) < (G : Int) := by omega
  have hYi : (Y : Int) < (G : Int) := by omega
  by_cases n0 : n < 0
  · clear hn
    go_enter Try.func6, Try.ntmps6
    go_wp2_with fail
    refine (ha _).mono ?_
    rintro e w1 ⟨rfl, rfl⟩
    go_wp2_with fail
    refine (hS _).mono ?_
    rintro e w2 ⟨rfl, k2⟩
    go_wp2_with fail
    refine (h1 _).mono ?_
    rintro e w3 ⟨rfl, rfl⟩
    go_wp2_with fail
    refine (hA _).mono ?_
    rintro e w5 ⟨rfl, rfl⟩
    go_wp2_with fail
    go_ret
    exact ⟨rfl, k2⟩
  · have n1 : (G : Int) ≤ n := by omega
    clear hn
    go_enter Try.func6, Try.ntmps6
    go_wp2_with fail
    refine (ha _).mono ?_
    rintro e w1 ⟨rfl, rfl⟩
    go_wp2_with fail
    refine (hS _).mono ?_
    rintro e w2 ⟨rfl, k2⟩
    go_wp2_with fail
    refine (h1 _).mono ?_
    rintro e w3 ⟨rfl, rfl⟩
    go_wp2_with fail
    refine (hA _).mono ?_
    rintro e w5 ⟨rfl, rfl⟩
    go_wp2_with fail
    go_ret
    exact ⟨rfl, k2⟩

set_option maxHeartbeats 2000000 in
theorem walk_io (h k : Nat) (hk : k ≤ 13) (hh : h < 18446744073709551616) (m : Nat) (hm : m < 2 ^ k) (x : Int) (hx : x < 0 ∨ ((2 ^ k : Nat) : Int) ≤ x) (w : World) :
    Calls Try.prog 6 #[.int .u64 (h : Int), .int .i64 ((2 ^ k : Nat) : Int), .int .i64 (m : Int), .int .i64 x] w fun e w' => e = .returned (.bool true) ∧ Kp w w' := by
  have h1 := fun w => valid_any ((2 ^ k : Nat) : Int) w
  rw [pwG_pow hk] at h1
  obtain ⟨g1, g2⟩ := pow_bounds hk
  have ha := fun w => at_yes h k m w hk hm hh
  have hs := fun w => steps_any h ((2 ^ k : Nat) : Int) ((metN h (2 ^ k) m : Nat) : Int) w hh
  rw [steps_met hk hm] at hs
  have hl := metN_lt (h := h) (n := m) g1
  have hS := fun w => steps_any h ((2 ^ k : Nat) : Int) x w hh
  rw [steps_out hk hx] at hS
  generalize metN h (2 ^ k) m = M at *
  generalize 2 ^ k = G at *
  have hmi : (m : Int) < (G : Int) := by omega
  have hMi : (M : Int) < (G : Int) := by omega
  by_cases x0 : x < 0
  · clear hx
    go_enter Try.func6, Try.ntmps6
    go_wp2_with fail
    refine (ha _).mono ?_
    rintro e w1 ⟨rfl, rfl⟩
    go_wp2_with fail
    refine (hS _).mono ?_
    rintro e w2 ⟨rfl, k2⟩
    go_wp2_with fail
    refine (h1 _).mono ?_
    rintro e w3 ⟨rfl, rfl⟩
    go_wp2_with fail
    refine (hs _).mono ?_
    rintro e w4 ⟨rfl, k4⟩
    go_wp2_with fail
    go_ret
    exact ⟨rfl, k2.trans k4⟩
  · have x1 : (G : Int) ≤ x := by omega
    clear hx
    go_enter Try.func6, Try.ntmps6
    go_wp2_with fail
    refine (ha _).mono ?_
    rintro e w1 ⟨rfl, rfl⟩
    go_wp2_with fail
    refine (hS _).mono ?_
    rintro e w2 ⟨rfl, k2⟩
    go_wp2_with fail
    refine (h1 _).mono ?_
    rintro e w3 ⟨rfl, rfl⟩
    go_wp2_with fail
    refine (hs _).mono ?_
    rintro e w4 ⟨rfl, k4⟩
    go_wp2_with fail
    go_ret
    exact ⟨rfl, k2.trans k4⟩

set_option maxHeartbeats 2000000 in
theorem walk_ii (h k : Nat) (hk : k ≤ 13) (hh : h < 18446744073709551616) (m : Nat) (hm : m < 2 ^ k) (j : Nat) (hj : j < 2 ^ k) (w : World) :
    Calls Try.prog 6 #[.int .u64 (h : Int), .int .i64 ((2 ^ k : Nat) : Int), .int .i64 (m : Int), .int .i64 ((metN h (2 ^ k) j : Nat) : Int)] w fun e w' => e = .returned (.bool true) ∧ Kp w w' := by
  have h1 := fun w => valid_any ((2 ^ k : Nat) : Int) w
  rw [pwG_pow hk] at h1
  obtain ⟨g1, g2⟩ := pow_bounds hk
  have ha := fun w => at_yes h k m w hk hm hh
  have hs := fun w => steps_any h ((2 ^ k : Nat) : Int) ((metN h (2 ^ k) m : Nat) : Int) w hh
  rw [steps_met hk hm] at hs
  have hl := metN_lt (h := h) (n := m) g1
  have hS := fun w => steps_any h ((2 ^ k : Nat) : Int) ((metN h (2 ^ k) j : Nat) : Int) w hh
  rw [steps_met hk hj] at hS
  have hA := fun w => at_yes h k j w hk hj hh
  have hl2 := metN_lt (h := h) (n := j) g1
  generalize metN h (2 ^ k) m = M at *
  generalize metN h (2 ^ k) j = Y at *
  generalize 2 ^ k = G at *
  have hmi : (m : Int) < (G : Int) := by omega
  have hMi : (M : Int) < (G : Int) := by omega
  have hji : (j : Int) < (G : Int) := by omega
  have hYi : (Y : Int) < (G : Int) := by omega
  go_enter Try.func6, Try.ntmps6
  go_wp2_with fail
  refine (ha _).mono ?_
  rintro e w1 ⟨rfl, rfl⟩
  go_wp2_with fail
  refine (hS _).mono ?_
  rintro e w2 ⟨rfl, k2⟩
  go_wp2_with fail
  refine (h1 _).mono ?_
  rintro e w3 ⟨rfl, rfl⟩
  go_wp2_with fail
  refine (hs _).mono ?_
  rintro e w4 ⟨rfl, k4⟩
  go_wp2_with fail
  refine (hA _).mono ?_
  rintro e w5 ⟨rfl, rfl⟩
  go_wp2_with fail
  go_ret
  exact ⟨rfl, k2.trans k4⟩

theorem walk (h g n x : Int) (w0 : (Lit.int .u64 h).wf = true) (w1 : (Lit.int .i64 g).wf = true) (w2 : (Lit.int .i64 n).wf = true) (w3 : (Lit.int .i64 x).wf = true) (w : World) :
    Calls Try.prog 6 #[.int .u64 h, .int .i64 g, .int .i64 n, .int .i64 x] w fun e w' => e = .returned (.bool true) ∧ Below w.heap.size w w' := by
  obtain ⟨H, rfl, hH⟩ := u64_nat w0
  cases hq : pw g 1 8192
  · exact walk_no H g n x w hH hq
  · obtain ⟨k, hk, rfl⟩ := pwG hq
    by_cases hn : n < 0 ∨ ((2 ^ k : Nat) : Int) ≤ n
    · by_cases hx : x < 0 ∨ ((2 ^ k : Nat) : Int) ≤ x
      · exact walk_oo H k hk hH n hn x hx w
      · obtain ⟨y, rfl⟩ := Int.eq_ofNat_of_zero_le (show 0 ≤ x by omega)
        obtain ⟨j, hj, rfl⟩ := metN_onto (h := H) (k := k) (x := y) (by omega)
        exact walk_oi H k hk hH n hn j hj w
    · obtain ⟨m, rfl⟩ := Int.eq_ofNat_of_zero_le (show 0 ≤ n by omega)
      have hm : m < 2 ^ k := by omega
      by_cases hx : x < 0 ∨ ((2 ^ k : Nat) : Int) ≤ x
      · exact walk_io H k hk hH m hm x hx w
      · obtain ⟨y, rfl⟩ := Int.eq_ofNat_of_zero_le (show 0 ≤ x by omega)
        obtain ⟨j, hj, rfl⟩ := metN_onto (h := H) (k := k) (x := y) (by omega)
        exact walk_ii H k hk hH m hm j hj w
end probeBack
end Go.Proofs.Ytkjbhhfnhpnifaa
