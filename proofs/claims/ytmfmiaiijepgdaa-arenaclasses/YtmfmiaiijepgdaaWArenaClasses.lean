import Derived.Test.YtmfmiaiijepgdaaAW1
import Derived.Below
namespace Go.Proofs.Ytmfmiaiijepgdaa
namespace arenaClasses
open Go.RowKit

def Post (w : World) (e : Ending) (w' : World) : Prop := e = .returned (.bool true) ∧ Below w.heap.size w w'

set_option maxHeartbeats 400000 in
theorem walk_no (n : Int) (w : World) (h : n < 1 ∨ 1048576 < n) : Calls Try.prog 3 #[.int .i64 n] w fun e w' => Post w e w' := by
  have hc := class_no n w h
  rcases h with h | h
  · go_enter Try.func3, Try.ntmps3
    go_wp2_with fail
    refine hc.mono ?_
    rintro e w' ⟨rfl, rfl⟩
    clear hc
    go_wp2_with fail
    go_ret
    exact ⟨rfl, Below.refl _ _⟩
  · have h0 : ¬ n < 1 := by omega
    go_enter Try.func3, Try.ntmps3
    go_wp2_with fail
    refine hc.mono ?_
    rintro e w' ⟨rfl, rfl⟩
    clear hc
    go_wp2_with fail
    go_ret
    exact ⟨rfl, Below.refl _ _⟩

set_option maxHeartbeats 2000000 in
theorem core (n c b q M : Nat) (w : World) (h1 : 1 ≤ n) (hM : M ≤ 1048576) (hcM : c ≤ M) (hnc : n ≤ c) (h16 : 16 ≤ c) (hmod : c % 16 = 0) (hq : Hid (oddP 17 (c / 16) = q)) (hq13 : q = 1 ∨ q = 3) (hlt : Hid (c / 16 < 2 ^ 17)) (hbn : b < n)
    (hb : b = (if c = 16 then 0 else if c = 32 then 16 else if q = 3 then c / 3 * 2 else c / 4 * 3)) (hbc : c = 16 ∨ 1 ≤ b)
    (k1 : Calls Try.prog 9 #[.int .i64 (n : Int)] w fun e w' => e = .returned (.int .i64 (c : Int)) ∧ w' = w)
    (k2 : ∀ W, Calls Try.prog 9 #[.int .i64 (c : Int)] W fun e w' => e = .returned (.int .i64 (c : Int)) ∧ w' = W)
    (k3 : 1 ≤ b → ∀ W, Calls Try.prog 9 #[.int .i64 (b : Int)] W fun e w' => e = .returned (.int .i64 (b : Int)) ∧ w' = W)
    (k4 : ∀ W, Calls Try.prog 9 #[.int .i64 ((b : Int) + 1)] W fun e w' => e = .returned (.int .i64 (c : Int)) ∧ w' = W) :
    Calls Try.prog 3 #[.int .i64 (n : Int)] w fun e w' => Post w e w' := by
  have g1 : ¬ (n : Int) < 1 := by omega
  have g2 : ¬ (1048576 : Int) < (n : Int) := by omega
  have g3 : ¬ (c : Int) < (n : Int) := by omega
  have g4 : ¬ (c : Int) < 16 := by omega
  have g5 : ¬ (1048576 : Int) < (c : Int) := by omega
  have g6 : (c : Int) % 16 = 0 := by omega
  go_enter Try.func3, Try.ntmps3
  go_wp2_with fail
  refine k1.mono ?_
  rintro e w' ⟨rfl, rfl⟩
  clear k1
  go_wp2_with fail
  go_loop [4] (fun v => ∃ m : Nat, v = .int .i64 (m : Int) ∧ Hid (∃ f, m < 2 ^ f ∧ oddP f m = q) ∧ 1 ≤ m ∧ m ≤ c) (fun v => (intOf v).toNat)
  case atStart => exact ⟨c / 16, by simp, ⟨17, hlt.out, hq.out⟩, by omega, by omega⟩
  case round =>
    obtain ⟨m, rfl, hm, hm1, hmc⟩ := hrel
    by_cases he : m % 2 = 0
    · have he' : (m : Int) % 2 = 0 := by omega
      clear hb hbc hq hlt
      go_wp2_with fail
      go_round
      case rel => exact ⟨m / 2, by simp, by
        obtain ⟨f, h1, h2⟩ := hm.out
        obtain ⟨f', _, h3, h4⟩ := oddP_step hm1 h1 he
        exact ⟨f', h3, h4.trans h2⟩, by omega, by omega⟩
      case measure => simp [intOf]; omega
    · have he' : ¬ (m : Int) % 2 = 0 := by omega
      have hmq : m = q := by
        obtain ⟨f, h1, h2⟩ := hm.out
        rw [← h2, oddP_end hm1 h1 he]
      subst hmq
      clear hm hq hlt
      by_cases e16 : c = 16
      · subst e16
        rw [if_pos rfl] at hb
        subst hb
        clear k3 hbc
        rcases hq13 with rfl | rfl
        · go_wp2_with fail
          refine (k2 _).mono ?_
          rintro e w1 ⟨rfl, rfl⟩
          clear k2
          go_wp2_with fail
          refine (k4 _).mono ?_
          rintro e w1 ⟨rfl, rfl⟩
          clear k4
          go_wp2_with fail
          go_ret
          exact ⟨rfl, Below.refl _ _⟩
        · go_wp2_with fail
          refine (k2 _).mono ?_
          rintro e w1 ⟨rfl, rfl⟩
          clear k2
          go_wp2_with fail
          refine (k4 _).mono ?_
          rintro e w1 ⟨rfl, rfl⟩
          clear k4
          go_wp2_with fail
          go_ret
          exact ⟨rfl, Below.refl _ _⟩
      · have hb1 : 1 ≤ b := by omega
        replace k3 := k3 hb1
        have n16 : ¬ (c : Int) = 16 := by omega
        rw [if_neg e16] at hb
        have hbz : ¬ (b : Int) = 0 := by omega
        have hbn' : (b : Int) < (n : Int) := by omega
        by_cases e32 : c = 32
        · subst e32
          rw [if_pos rfl] at hb
          subst hb
          rcases hq13 with rfl | rfl
          · go_wp2_with fail
            refine (k2 _).mono ?_
            rintro e w1 ⟨rfl, rfl⟩
            clear k2
            go_wp2_with fail
            refine (k3 _).mono ?_
            rintro e w1 ⟨rfl, rfl⟩
            clear k3
            go_wp2_with fail
            refine (k4 _).mono ?_
            rintro e w1 ⟨rfl, rfl⟩
            clear k4
            go_wp2_with fail
            go_ret
            exact ⟨rfl, Below.refl _ _⟩
          · go_wp2_with fail
            refine (k2 _).mono ?_
            rintro e w1 ⟨rfl, rfl⟩
            clear k2
            go_wp2_with fail
            refine (k3 _).mono ?_
            rintro e w1 ⟨rfl, rfl⟩
            clear k3
            go_wp2_with fail
            refine (k4 _).mono ?_
            rintro e w1 ⟨rfl, rfl⟩
            clear k4
            go_wp2_with fail
            go_ret
            exact ⟨rfl, Below.refl _ _⟩
        · have n32 : ¬ (c : Int) = 32 := by omega
          rw [if_neg e32] at hb
          rcases hq13 with rfl | rfl
          · rw [if_neg (by omega)] at hb
            have eb : (b : Int) = (c : Int) / 4 * 3 := by omega
            rw [eb] at k3 k4 hbz hbn'
            go_wp2_with fail
            refine (k2 _).mono ?_
            rintro e w1 ⟨rfl, rfl⟩
            clear k2
            go_wp2_with fail
            refine (k3 _).mono ?_
            rintro e w1 ⟨rfl, rfl⟩
            clear k3
            go_wp2_with fail
            refine (k4 _).mono ?_
            rintro e w1 ⟨rfl, rfl⟩
            clear k4
            go_wp2_with fail
            go_ret
            exact ⟨rfl, Below.refl _ _⟩
          · rw [if_pos rfl] at hb
            have eb : (b : Int) = (c : Int) / 3 * 2 := by omega
            rw [eb] at k3 k4 hbz hbn'
            go_wp2_with fail
            refine (k2 _).mono ?_
            rintro e w1 ⟨rfl, rfl⟩
            clear k2
            go_wp2_with fail
            refine (k3 _).mono ?_
            rintro e w1 ⟨rfl, rfl⟩
            clear k3
            go_wp2_with fail
            refine (k4 _).mono ?_
            rintro e w1 ⟨rfl, rfl⟩
            clear k4
            go_wp2_with fail
            go_ret
            exact ⟨rfl, Below.refl _ _⟩

theorem walk (n : Int) (hn : (Lit.int .i64 n).wf = true) (w : World) : Calls Try.prog 3 #[.int .i64 n] w fun e w' => Post w e w' := by
  by_cases h : n < 1 ∨ 1048576 < n
  · exact walk_no n w h
  · obtain ⟨k, rfl⟩ := Int.eq_ofNat_of_zero_le (show 0 ≤ n by omega)
    have h1 : 1 ≤ k := by omega
    have h2 : k ≤ 1048576 := by omega
    obtain ⟨x, hx, hc, hb, hle⟩ := class_spec k h1 h2
    obtain ⟨f1, f2, f3, f4, f5, f6, f7, f8, f9⟩ := pairs_facts x hx
    have hbc : x.1 = 16 ∨ 1 ≤ x.2 := by
      rcases f8 with f8 | f8
      · left
        have : x.2 + 1 = 1 := by omega
        rw [this] at f9
        rw [← f9]
        rfl
      · exact Or.inr f8.1
    have K := fun (j : Nat) (a : 1 ≤ j) (b : j ≤ 1048576) W => class_yes j W a b
    refine core k x.1 x.2 (oddP 17 (x.1 / 16)) 1048576 w h1 (Nat.le_refl _) f2 hle f1 f3 rfl f5 f4 hb f6.symm hbc ?_ ?_ ?_ ?_
    · have := K k h1 h2 w
      rwa [hc] at this
    · intro W
      have := K x.1 (by omega) f2 W
      rwa [f7] at this
    · intro h W
      have := K x.2 h (by omega) W
      rcases f8 with f8 | f8
      · omega
      · rwa [f8.2] at this
    · intro W
      have := K (x.2 + 1) (by omega) (by omega) W
      rwa [f9] at this
end arenaClasses
end Go.Proofs.Ytmfmiaiijepgdaa
