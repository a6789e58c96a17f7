import Derived.Test.YtmfmiaiijepgdaaRows
import Derived.Test.YtmfmiaiijepgdaaAClass
import Derived.Test.YtmfmiaiijepgdaaBase2
import Derived.WalkKit
import Derived.Outline
namespace Go.Proofs.Ytmfmiaiijepgdaa
open Go.RowKit

set_option maxHeartbeats 400000 in
theorem class_no (n : Int) (w : World) (h : n < 1 ∨ 1048576 < n) :
    Calls Try.prog 9 #[.int .i64 n] w fun e w' => e = .returned (.int .i64 0) ∧ w' = w := by
  rcases h with h | h
  · go_enter Try.func9, Try.ntmps9
    go_wp2
    go_ret
    exact ⟨rfl, rfl⟩
  · have h0 : ¬ n < 1 := by omega
    go_enter Try.func9, Try.ntmps9
    go_wp2
    go_ret
    exact ⟨rfl, rfl⟩

set_option maxHeartbeats 1000000 in
theorem class_core (n N M : Nat) (w : World) (h1 : 1 ≤ n) (hM : M ≤ 1048576) (h2 : n ≤ M) (hN : Hid (∀ j, n ≤ 16 * 2 ^ j → (j = 0 ∨ 8 * 2 ^ j < n) → fromPow n (16 * 2 ^ j) = N)) :
    Calls Try.prog 9 #[.int .i64 (n : Int)] w fun e w' => e = .returned (.int .i64 (N : Int)) ∧ w' = w := by
  have g1 : ¬ (n : Int) < 1 := by omega
  have g2 : ¬ (1048576 : Int) < (n : Int) := by omega
  go_enter Try.func9, Try.ntmps9
  go_wp2
  go_loop [3] (fun v => ∃ p : Nat, v = .int .i64 (p : Int) ∧ Hid (∃ j, p = 16 * 2 ^ j ∧ (j = 0 ∨ 8 * 2 ^ j < n)) ∧ p ≤ 2 * M + 16) (fun v => n - (intOf v).toNat)
  case atStart => exact ⟨16, rfl, ⟨0, rfl, Or.inl rfl⟩, by omega⟩
  case round =>
    obtain ⟨p, rfl, hj, hp⟩ := hrel
    by_cases hlt : p < n
    · have hlt' : (p : Int) < (n : Int) := by omega
      clear hN
      have hp0 : 0 < p := by
        obtain ⟨j, e, _⟩ := hj.out
        have : 0 < 2 ^ j := Nat.two_pow_pos j
        omega
      go_wp2
      go_round
      case rel => exact ⟨p * 2, by go_num, by
        obtain ⟨j, e, _⟩ := hj.out
        exact ⟨j + 1, by rw [e, Nat.pow_succ]; omega, Or.inr (by rw [Nat.pow_succ]; omega)⟩, by omega⟩
      case measure => simp [intOf]; omega
    · have hE : fromPow n p = N := by
        obtain ⟨j, e, hj'⟩ := hj.out
        rw [e] at hlt ⊢
        exact hN.out j (by omega) hj'
      have hlt' : ¬ (p : Int) < (n : Int) := by omega
      unfold fromPow at hE
      have HE : Hid ((if n ≤ p / 4 * 3 ∧ p / 4 * 3 % 16 = 0 then p / 4 * 3 else p) = N) := hE
      clear hE hj hN
      by_cases hb1 : n ≤ p / 4 * 3
      · have hb1' : (n : Int) ≤ (p : Int) / 4 * 3 := by omega
        by_cases hb2 : p / 4 * 3 % 16 = 0
        · have hb2' : (p : Int) / 4 * 3 % 16 = 0 := by omega
          go_wp2
          go_ret
          refine ⟨?_, rfl⟩
          rw [← HE.out, if_pos ⟨hb1, hb2⟩]
          rfl
        · have hb2' : ¬ (p : Int) / 4 * 3 % 16 = 0 := by omega
          go_wp2
          go_ret
          refine ⟨?_, rfl⟩
          rw [← HE.out, if_neg (fun h => hb2 h.2)]
          rfl
      · have hb1' : ¬ (n : Int) ≤ (p : Int) / 4 * 3 := by omega
        go_wp2
        go_ret
        refine ⟨?_, rfl⟩
        rw [← HE.out, if_neg (fun h => hb1 h.1)]
        rfl
theorem class_yes (n : Nat) (w : World) (h1 : 1 ≤ n) (h2 : n ≤ 1048576) :
    Calls Try.prog 9 #[.int .i64 (n : Int)] w fun e w' => e = .returned (.int .i64 (classN n : Int)) ∧ w' = w :=
  class_core n (classN n) 1048576 w h1 (Nat.le_refl _) h2 (fun j a b => class_exit n j h1 h2 a b)
end Go.Proofs.Ytmfmiaiijepgdaa
