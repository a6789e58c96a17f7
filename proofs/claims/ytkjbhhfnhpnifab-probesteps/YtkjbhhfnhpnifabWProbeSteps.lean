import Derived.Test.YtkjbhhfnhpnifabPF2
namespace Go.Proofs.Ytkjbhhfnhpnifab

theorem u64_nat {a : Int} (h : (Lit.int .u64 a).wf = true) : ∃ A : Nat, a = (A : Int) ∧ A < 18446744073709551616 := by
  have h2 : 0 ≤ a ∧ a < 18446744073709551616 := by
    have e1 : IntKind.u64.min = 0 := rfl
    have e2 : IntKind.u64.max = 18446744073709551615 := rfl
    simp only [Lit.wf, decide_eq_true_eq, Bool.and_eq_true] at h
    rw [e1, e2] at h
    omega
  exact ⟨a.toNat, by omega, by omega⟩

namespace probeSteps
open Go.RowKit
set_option linter.unusedVariables false

set_option maxHeartbeats 1000000 in
theorem core (h : Nat) (g n x : Int) (w : World) (hh : h < 18446744073709551616) :
    Calls Try.prog 3 #[.int .u64 (h : Int), .int .i64 g, .int .i64 n, .int .i64 x] w fun e w' => e = .returned (.bool true) ∧ Kp w w' := by
  have h1 := fun w => start_any h g w hh
  have h2 := fun w => rstart_any h g w hh
  have h3 := fun w => at_any h g n w hh
  have h4 := fun w => rat_any h g n w hh
  have h5 := fun w => steps_any h g x w hh
  have h6 := fun w => rsteps_any h g x w hh
  generalize atN h g 0 = A at *
  generalize atN h g n = B at *
  generalize stepsN h g x = C at *
  go_enter Try.func3, Try.ntmps3
  go_wp2_with fail
  refine (h1 _).mono ?_
  rintro e w1 ⟨rfl, rfl⟩
  go_wp2_with fail
  refine (h2 _).mono ?_
  rintro e w2 ⟨rfl, k2⟩
  go_wp2_with fail
  refine (h3 _).mono ?_
  rintro e w3 ⟨rfl, rfl⟩
  go_wp2_with fail
  refine (h4 _).mono ?_
  rintro e w4 ⟨rfl, k4⟩
  go_wp2_with fail
  refine (h5 _).mono ?_
  rintro e w5 ⟨rfl, k5⟩
  go_wp2_with fail
  refine (h6 _).mono ?_
  rintro e w6 ⟨rfl, k6⟩
  go_wp2_with fail
  go_ret
  exact ⟨rfl, ((k2.trans k4).trans k5).trans k6⟩

theorem walk (h g n x : Int) (w0 : (Lit.int .u64 h).wf = true) (w1 : (Lit.int .i64 g).wf = true) (w2 : (Lit.int .i64 n).wf = true) (w3 : (Lit.int .i64 x).wf = true) (w : World) :
    Calls Try.prog 3 #[.int .u64 h, .int .i64 g, .int .i64 n, .int .i64 x] w fun e w' => e = .returned (.bool true) ∧ Below w.heap.size w w' := by
  obtain ⟨H, rfl, hH⟩ := u64_nat w0
  exact core H g n x w hH
end probeSteps
end Go.Proofs.Ytkjbhhfnhpnifab
