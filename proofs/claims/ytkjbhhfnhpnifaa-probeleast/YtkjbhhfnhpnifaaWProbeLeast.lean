import Derived.Test.YtkjbhhfnhpnifaaPR1
namespace Go.Proofs.Ytkjbhhfnhpnifaa
namespace probeLeast
open Go.RowKit
set_option linter.unusedVariables false

theorem walk_no (n : Int) (w : World) (h : n < 0 ∨ 57344 < n) :
    Calls Try.prog 7 #[.int .i64 n] w fun e w' => e = .returned (.bool true) ∧ Below w.heap.size w w' := by
  have e0 : slotsN n = 0 := by
    unfold slotsN
    by_cases h0 : n < 0
    · rw [if_pos h0]
    · rw [if_neg h0]
      exact slF_no n (by omega) 14 0 rfl
  have hs := slots_any n w
  rw [e0] at hs
  have ht := slots_any 57344 w
  have e1 : slotsN 57344 = 65536 := by decide
  rw [e1] at ht
  clear e0 e1
  by_cases h0 : n < 0
  · clear h
    go_enter Try.func7, Try.ntmps7
    go_wp2_with fail
    refine hs.mono ?_
    rintro e w' ⟨rfl, rfl⟩
    go_wp2_with fail
    refine ht.mono ?_
    rintro e w' ⟨rfl, rfl⟩
    go_wp2_with fail
    go_ret
    exact ⟨rfl, Below.refl _ _⟩
  · have h1 : 57344 < n := by omega
    clear h
    go_enter Try.func7, Try.ntmps7
    go_wp2_with fail
    refine hs.mono ?_
    rintro e w' ⟨rfl, rfl⟩
    go_wp2_with fail
    refine ht.mono ?_
    rintro e w' ⟨rfl, rfl⟩
    go_wp2_with fail
    go_ret
    exact ⟨rfl, Below.refl _ _⟩

set_option maxHeartbeats 1000000 in
theorem walk_yes (n : Int) (w : World) (h0 : 0 ≤ n) (h1 : n ≤ 57344) :
    Calls Try.prog 7 #[.int .i64 n] w fun e w' => e = .returned (.bool true) ∧ Below w.heap.size w w' := by
  obtain ⟨i, hi, hS, hle, hlo⟩ := slF_spec n h1 14 0 rfl (Or.inl rfl)
  have e0 : slotsN n = ((8 * 2 ^ i : Nat) : Int) := by
    unfold slotsN
    rw [if_neg (by omega)]
    exact hS
  have hs := slots_any n w
  rw [e0] at hs
  have hm := most_any ((8 * 2 ^ i : Nat) : Int) w
  have em : mostN ((8 * 2 ^ i : Nat) : Int) = 7 * ((2 ^ i : Nat) : Int) := by
    unfold mostN
    rw [pwS_yes i hi, if_pos rfl]
    omega
  rw [em] at hm
  obtain ⟨b1, b2⟩ := pow_le14 (j := i) (by omega)
  have b3 := pow_le13 (j := i) (by omega)
  have ha : bits .and .i64 ((8 * 2 ^ i : Nat) : Int) (((8 * 2 ^ i : Nat) : Int) - 1) = 0 := by
    rw [and_pred _ (by omega) (by omega), show 8 * 2 ^ i = 2 ^ (i + 3) by rw [Nat.pow_add]; omega, pow_and]
    rfl
  have hd : ((8 * 2 ^ i : Nat) : Int) / 8 = ((2 ^ i : Nat) : Int) := by omega
  have hb : 1 ≤ ((2 ^ i : Nat) : Int) := by omega
  have hb2 : ((8 * 2 ^ i : Nat) : Int) = 8 * ((2 ^ i : Nat) : Int) := by omega
  by_cases hz : i = 0
  · subst hz
    clear hd hb hb2 b1 b2 b3 em e0 hS hlo
    have hm' := hm
    have hm'' : Calls Try.prog 16 #[.int .i64 8] w fun e w' => e = .returned (.int .i64 7) ∧ w' = w := hm'
    have hs' : Calls Try.prog 15 #[.int .i64 n] w fun e w' => e = .returned (.int .i64 8) ∧ w' = w := hs
    have ha' : bits .and .i64 8 7 = 0 := ha
    have hle' : n ≤ 7 := hle
    clear hs hm hm' ha hle
    go_enter Try.func7, Try.ntmps7
    go_wp2_with fail
    refine hs'.mono ?_
    rintro e w' ⟨rfl, rfl⟩
    go_wp2_with fail
    refine hm''.mono ?_
    rintro e w' ⟨rfl, rfl⟩
    go_wp2_with fail
    refine hm''.mono ?_
    rintro e w' ⟨rfl, rfl⟩
    go_wp2_with fail
    go_ret
    exact ⟨rfl, Below.refl _ _⟩
  · obtain ⟨j, rfl⟩ : ∃ j, i = j + 1 := ⟨i - 1, by omega⟩
    have hlo' : 7 * ((2 ^ j : Nat) : Int) < n := by
      rcases hlo with h | h
      · omega
      · exact h
    have hm2 := most_any ((8 * 2 ^ j : Nat) : Int) w
    have em2 : mostN ((8 * 2 ^ j : Nat) : Int) = 7 * ((2 ^ j : Nat) : Int) := by
      unfold mostN
      rw [pwS_yes j (by omega), if_pos rfl]
      omega
    rw [em2] at hm2
    have hq : ((2 ^ (j + 1) : Nat) : Int) = 2 * ((2 ^ j : Nat) : Int) := by rw [Nat.pow_succ]; omega
    have hj1 : 1 ≤ ((2 ^ j : Nat) : Int) := by have := Nat.two_pow_pos j; omega
    have hd2 : ((8 * 2 ^ (j + 1) : Nat) : Int) / 2 = ((8 * 2 ^ j : Nat) : Int) := by rw [pow_int]; omega
    have hjb : ((8 * 2 ^ j : Nat) : Int) = 8 * ((2 ^ j : Nat) : Int) := by omega
    have hne : (((8 * 2 ^ (j + 1) : Nat) : Int) == 8) = false := by
      rw [beq_eq_false_iff_ne]
      omega
    have hx : ((8 * 2 ^ (j + 1) : Nat) : Int) = 16 * ((2 ^ j : Nat) : Int) := by omega
    have hmm : 7 * ((2 ^ (j + 1) : Nat) : Int) = 14 * ((2 ^ j : Nat) : Int) := by omega
    rw [hmm] at hm hle
    have hb14 : 16 * ((2 ^ j : Nat) : Int) ≤ 65536 := by omega
    have hd8 : ((8 * 2 ^ (j + 1) : Nat) : Int) / 8 = 2 * ((2 ^ j : Nat) : Int) := by omega
    rw [hx] at hs hm ha hd2 hne hd8
    rw [hjb] at hm2 hd2
    clear hlo e0 em em2 hS hd hb hb2 hz hq hjb hx hmm b1 b2 b3
    generalize ((2 ^ j : Nat) : Int) = q at *
    go_enter Try.func7, Try.ntmps7
    go_wp2_with fail
    refine hs.mono ?_
    rintro e w' ⟨rfl, rfl⟩
    go_wp2_with fail
    refine hm.mono ?_
    rintro e w' ⟨rfl, rfl⟩
    have hsub : 16 * q - 2 * q = 14 * q := by omega
    go_wp2_with fail
    refine hm.mono ?_
    rintro e w' ⟨rfl, rfl⟩
    go_wp2_with fail
    refine hm2.mono ?_
    rintro e w' ⟨rfl, rfl⟩
    go_wp2_with fail
    refine hm2.mono ?_
    rintro e w' ⟨rfl, rfl⟩
    go_wp2_with fail
    go_ret
    exact ⟨congrArg (fun b => Ending.returned (Value.bool b)) (decide_eq_true (show 0 < 7 * q by omega)), Below.refl _ _⟩

theorem walk (n : Int) (w0 : (Lit.int .i64 n).wf = true) (w : World) :
    Calls Try.prog 7 #[.int .i64 n] w fun e w' => e = .returned (.bool true) ∧ Below w.heap.size w w' := by
  by_cases h : n < 0 ∨ 57344 < n
  · exact walk_no n w h
  · exact walk_yes n w (by omega) (by omega)
end probeLeast
end Go.Proofs.Ytkjbhhfnhpnifaa
