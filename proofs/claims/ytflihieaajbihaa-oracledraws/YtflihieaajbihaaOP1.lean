/-
  The parts of a hash: Tag, Home, Top, Bit.
-/
import Derived.Test.YtflihieaajbihaaOP0
import Derived.WalkKit
import Derived.Below
import Derived.ProofKit
import Derived.IntWalk
import Derived.Laws.Bits64
import Derived.Laws.BitsAll
import Derived.Deep.QuietTactic
import Derived.BigQuiet
namespace Go.Proofs.Ytflihieaajbihaa
open Go.RowKit
set_option linter.unusedVariables false

theorem u64_nat {n : Int} (h : (Lit.int .u64 n).wf = true) : ∃ m : Nat, n = (m : Int) ∧ m < 18446744073709551616 := by
  have h2 : 0 ≤ n ∧ n < 18446744073709551616 := by
    have e1 : IntKind.u64.min = 0 := rfl
    have e2 : IntKind.u64.max = 18446744073709551615 := rfl
    simp only [Lit.wf, decide_eq_true_eq, Bool.and_eq_true] at h
    rw [e1, e2] at h
    omega
  exact ⟨n.toNat, by omega, by omega⟩


set_option maxHeartbeats 400000 in
theorem tag_any (h : Nat) (hh : h < 18446744073709551616) (w : World) :
    Calls Try.prog 8 #[.int .u64 (h : Int)] w fun e w' => e = .returned (.int .i64 ((h : Int) % 128)) ∧ w' = w := by
  go_enter Try.func8, Try.ntmps8
  go_wp2_with fail
  go_ret
  exact ⟨rfl, rfl⟩

set_option maxHeartbeats 400000 in
theorem home_any (h : Nat) (hh : h < 18446744073709551616) (w : World) :
    Calls Try.prog 9 #[.int .u64 (h : Int)] w fun e w' => e = .returned (.int .u64 ((h : Int) / 128)) ∧ w' = w := by
  go_enter Try.func9, Try.ntmps9
  go_wp2_with fail
  go_ret
  exact ⟨rfl, rfl⟩

set_option maxHeartbeats 400000 in
theorem top_in (h d : Nat) (R : Int) (hh : h < 18446744073709551616) (h1 : 1 ≤ d) (h6 : d ≤ 6) (hx : wrap64 ((h : Int) / 2 ^ (64 - d)) = R) (w : World) :
    Calls Try.prog 11 #[.int .u64 (h : Int), .int .i64 (d : Int)] w fun e w' => e = .returned (.int .i64 R) ∧ w' = w := by
  have a1 : ¬ (d : Int) < 1 := by omega
  have a2 : ¬ 6 < (d : Int) := by omega
  go_enter Try.func11, Try.ntmps11
  go_wp2_with fail
  go_ret
  exact ⟨rfl, rfl⟩

set_option maxHeartbeats 400000 in
theorem top_out (h : Nat) (d : Int) (hd : d < 1 ∨ 6 < d) (w : World) :
    Calls Try.prog 11 #[.int .u64 (h : Int), .int .i64 d] w fun e w' => e = .returned (.int .i64 0) ∧ w' = w := by
  by_cases h1 : d < 1
  · clear hd
    go_enter Try.func11, Try.ntmps11
    go_wp2_with fail
    go_ret
    exact ⟨rfl, rfl⟩
  · have h6 : 6 < d := hd.resolve_left h1
    clear hd
    go_enter Try.func11, Try.ntmps11
    go_wp2_with fail
    go_ret
    exact ⟨rfl, rfl⟩

theorem top_any (h : Nat) (d : Int) (hh : h < 18446744073709551616) (w : World) :
    Calls Try.prog 11 #[.int .u64 (h : Int), .int .i64 d] w fun e w' => e = .returned (.int .i64 ((topN h d : Nat) : Int)) ∧ w' = w := by
  by_cases hd : 1 ≤ d ∧ d ≤ 6
  · obtain ⟨d1, d6⟩ := hd
    obtain ⟨D, rfl⟩ : ∃ D : Nat, d = (D : Int) := ⟨d.toNat, by omega⟩
    refine top_in h D _ hh (by omega) (by omega) ?_ w
    have hlt := topN_lt h (D : Int) hh
    have e : topN h (D : Int) = h / 2 ^ (64 - D) := by unfold topN; rw [if_pos ⟨d1, d6⟩, Int.toNat_natCast]
    rw [e] at hlt
    rw [e, Int.natCast_ediv, Int.natCast_pow]
    have e2 : (h : Int) / ((2 : Nat) : Int) ^ (64 - D) = ((h / 2 ^ (64 - D) : Nat) : Int) := by rw [Int.natCast_ediv, Int.natCast_pow]
    show wrap64 ((h : Int) / ((2 : Nat) : Int) ^ (64 - D)) = (h : Int) / ((2 : Nat) : Int) ^ (64 - D)
    rw [e2]
    unfold wrap64
    omega
  · have e : topN h d = 0 := by unfold topN; rw [if_neg hd]
    rw [e]
    exact top_out h d (by omega) w

set_option maxHeartbeats 400000 in
theorem bit_in (h d : Nat) (R : Int) (hh : h < 18446744073709551616) (h6 : d < 64) (hx : wrap64 (bits BinOp.and IntKind.u64 ((h : Int) / 2 ^ (63 - d)) 1) = R) (w : World) :
    Calls Try.prog 10 #[.int .u64 (h : Int), .int .i64 (d : Int)] w fun e w' => e = .returned (.int .i64 R) ∧ w' = w := by
  have a1 : ¬ (d : Int) < 0 := by omega
  have a2 : ¬ 64 ≤ (d : Int) := by omega
  go_enter Try.func10, Try.ntmps10
  go_wp2_with fail
  go_ret
  exact ⟨rfl, rfl⟩

set_option maxHeartbeats 400000 in
theorem bit_out (h : Nat) (d : Int) (hd : d < 0 ∨ 64 ≤ d) (w : World) :
    Calls Try.prog 10 #[.int .u64 (h : Int), .int .i64 d] w fun e w' => e = .returned (.int .i64 0) ∧ w' = w := by
  by_cases h1 : d < 0
  · clear hd
    go_enter Try.func10, Try.ntmps10
    go_wp2_with fail
    go_ret
    exact ⟨rfl, rfl⟩
  · have h6 : 64 ≤ d := hd.resolve_left h1
    clear hd
    go_enter Try.func10, Try.ntmps10
    go_wp2_with fail
    go_ret
    exact ⟨rfl, rfl⟩

theorem bit_any (h : Nat) (d : Int) (hh : h < 18446744073709551616) (w : World) :
    Calls Try.prog 10 #[.int .u64 (h : Int), .int .i64 d] w fun e w' => e = .returned (.int .i64 ((bitN h d : Nat) : Int)) ∧ w' = w := by
  by_cases hd : 0 ≤ d ∧ d < 64
  · obtain ⟨d1, d6⟩ := hd
    obtain ⟨D, rfl⟩ : ∃ D : Nat, d = (D : Int) := ⟨d.toNat, by omega⟩
    refine bit_in h D _ hh (by omega) ?_ w
    have e : bitN h (D : Int) = h / 2 ^ (63 - D) % 2 := by unfold bitN; rw [if_pos ⟨d1, d6⟩, Int.toNat_natCast]
    rw [e]
    have e2 : (h : Int) / 2 ^ (63 - D) = ((h / 2 ^ (63 - D) : Nat) : Int) := by rw [Int.natCast_ediv, Int.natCast_pow]; rfl
    rw [e2]
    have hle : h / 2 ^ (63 - D) ≤ h := Nat.div_le_self _ _
    generalize h / 2 ^ (63 - D) = X at *
    rw [u64_and _ _ (by omega) (by omega) (by omega) (by omega), Int.toNat_natCast, show (1 : Int).toNat = 1 from rfl, Nat.and_one_is_mod]
    unfold wrap64
    omega
  · have e : bitN h d = 0 := by unfold bitN; rw [if_neg hd]
    rw [e]
    exact bit_out h d (by omega) w
end Go.Proofs.Ytflihieaajbihaa
