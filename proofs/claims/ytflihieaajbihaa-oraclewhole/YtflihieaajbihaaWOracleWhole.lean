import Derived.Test.YtflihieaajbihaaOP1
namespace Go.Proofs.Ytflihieaajbihaa
open Go.RowKit
namespace oracleWhole

def Post (w : World) (e : Ending) (w' : World) : Prop := e = .returned (.bool true) ∧ Below w.heap.size w w'
theorem hide {p : Prop} (h : p) : Hid p := h

set_option maxRecDepth 100000 in
set_option maxHeartbeats 4000000 in
theorem core (h : Nat) (w : World) (hh : h < 18446744073709551616) :
    Calls Try.prog 4 #[.int .u64 (h : Int)] w (Post w) := by
  have t1 := tag_any h hh w
  have t2 := home_any h hh w
  have t3 : ∀ d, Calls Try.prog 11 #[.int .u64 (h : Int), .int .i64 d] w fun e w' => e = .returned (.int .i64 ((topN h d : Nat) : Int)) ∧ w' = w := fun d => top_any h d hh w
  have t4 : ∀ d, Calls Try.prog 10 #[.int .u64 (h : Int), .int .i64 d] w fun e w' => e = .returned (.int .i64 ((bitN h d : Nat) : Int)) ∧ w' = w := fun d => bit_any h d hh w
  have a1 : ¬ (h : Int) % 128 < 0 := by omega
  have a2 : ¬ 127 < (h : Int) % 128 := by omega
  have a3 : ¬ 144115188075855872 ≤ (h : Int) / 128 := by omega
  have a7 : (IntKind.u64.wrap (IntKind.u64.wrap ((h : Int) / 128 * 128) + (h : Int) % 128) != (h : Int)) = false := by
    rw [IntKind.wrap_u64, IntKind.wrap_u64, bne_eq_false_iff_eq]
    omega
  generalize (h : Int) / 128 = M at *
  generalize (h : Int) % 128 = T at *
  go_enter Try.func4, Try.ntmps4
  go_wp2_with fail
  refine t1.mono ?_
  rintro e w' ⟨rfl, rfl⟩
  go_wp2_with fail
  refine t2.mono ?_
  rintro e w' ⟨rfl, rfl⟩
  go_wp2_with fail
  refine t2.mono ?_
  rintro e w' ⟨rfl, rfl⟩
  go_wp2_with fail
  clear t1 t2 a1 a2 a3 a7
  go_loop [4, 5] (fun v i => ∃ k : Nat, k ≤ 64 ∧ i = .int .i64 (k : Int) ∧ v = .int .u64 ((headN h k : Nat) : Int)) (fun _ i => 64 - (intOf i).toNat)
  case atStart => exact ⟨0, Nat.zero_le _, rfl, by rw [headN_zero hh]; rfl⟩
  case round =>
    obtain ⟨k, hk, rfl, rfl⟩ := hrel
    by_cases hlt : k < 64
    · have hlt' : (k : Int) < 64 := by omega
      have hs := hide (headN_succ h k (by omega))
      have hs' := headN_succ h k (by omega)
      have hX : headN h k ≤ 9223372036854775807 := by
        have := headN_lt h (k + 1) hh (by omega)
        have h2 : (2 : Nat) ^ (k + 1) ≤ 2 ^ 64 := Nat.pow_le_pow_right (by decide) (by omega)
        omega
      have hC := t4 (k : Int)
      have hB := bitN_lt h (k : Int)
      by_cases h6 : k < 6
      · have h6' : (k : Int) < 6 := by omega
        have e1 := topN_head h k hh (by omega)
        have e2 := topN_head h (k + 1) hh (by omega)
        have hT1 := t3 (k : Int)
        have hT2 := t3 ((k : Int) + 1)
        have hl := topN_lt h (k : Int) hh
        rw [e1] at hT1 hl
        rw [show (k : Int) + 1 = ((k + 1 : Nat) : Int) by omega, e2, hs'] at hT2
        rw [show ((k + 1 : Nat) : Int) = (k : Int) + 1 by omega] at hT2
        clear hs' e1 e2 t3 t4
        generalize headN h k = X at *
        generalize bitN h (k : Int) = B at *
        obtain rfl | rfl : B = 0 ∨ B = 1 := by omega
        all_goals
          go_wp2_with fail
          refine hC.mono ?_
          rintro e w' ⟨rfl, rfl⟩
          clear hC
          go_wp2_with fail
          refine hT2.mono ?_
          rintro e w' ⟨rfl, rfl⟩
          go_wp2_with fail
          refine hT1.mono ?_
          rintro e w' ⟨rfl, rfl⟩
          go_wp2_with fail
          refine ⟨⟨k + 1, by omega, by simp, ?_⟩, by simp [intOf]; omega⟩
          rw [hs.out]
          simp
      · have h6' : ¬ (k : Int) < 6 := by omega
        clear hs' t3 t4
        generalize headN h k = X at *
        generalize bitN h (k : Int) = B at *
        obtain rfl | rfl : B = 0 ∨ B = 1 := by omega
        all_goals
          go_wp2_with fail
          refine hC.mono ?_
          rintro e w' ⟨rfl, rfl⟩
          clear hC
          go_wp2_with fail
          refine ⟨⟨k + 1, by omega, by simp, ?_⟩, by simp [intOf]; omega⟩
          rw [hs.out]
          simp
    · have hlt' : ¬ (k : Int) < 64 := by omega
      obtain rfl : k = 64 := by omega
      rw [headN_all]
      have c1 := t3 0
      have c2 := t3 7
      have c3 := t4 64
      have c4 := t4 (-1)
      have z1 : topN h 0 = 0 := by unfold topN; rw [if_neg (by omega)]
      have z2 : topN h 7 = 0 := by unfold topN; rw [if_neg (by omega)]
      have z3 : bitN h 64 = 0 := by unfold bitN; rw [if_neg (by omega)]
      have z4 : bitN h (-1) = 0 := by unfold bitN; rw [if_neg (by omega)]
      rw [z1] at c1
      rw [z2] at c2
      rw [z3] at c3
      rw [z4] at c4
      clear t3 t4 z1 z2 z3 z4
      go_wp2_with fail
      refine c1.mono ?_
      rintro e w' ⟨rfl, rfl⟩
      go_wp2_with fail
      refine c2.mono ?_
      rintro e w' ⟨rfl, rfl⟩
      go_wp2_with fail
      refine c3.mono ?_
      rintro e w' ⟨rfl, rfl⟩
      go_wp2_with fail
      refine c4.mono ?_
      rintro e w' ⟨rfl, rfl⟩
      go_wp2_with fail
      go_ret
      exact ⟨rfl, Below.refl _ _⟩

theorem walk (a0 : Int) (w0 : (Lit.int .u64 a0).wf = true) (W : World) :
    Calls Try.prog 4 #[.int .u64 a0] W fun e w' => e = .returned (.bool true) ∧ Below W.heap.size W w' := by
  obtain ⟨h, rfl, hh⟩ := u64_nat w0
  exact core h W hh
end oracleWhole
end Go.Proofs.Ytflihieaajbihaa
