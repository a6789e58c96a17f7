/-
  What the given condition on the factors tells.
-/
import Derived.Test.YtiaalojfoldnfaaDoorRows
import Derived.ProofKit
import Derived.LaidMore
import Derived.OpenShut
import Derived.Stop.Joined
import Derived.Test.YtiaalojfoldnfaaDoorOM2
namespace Go.Proofs.YtiaalojfoldnfaaDoor
open Go.ChangeShapes Go.WideShapes Go.ChangeAt Go.WideMaps Go.WideElems Go.RowKit

theorem own : ownKnob Tryd.prog.godebug = none := by kernel_rfl
theorem laidOut : laidOutB Tryd.prog = true := by kernel_rfl
theorem gOdd : Tryd.prog.globalNamed "larder/oracle.odd" = some 0 := by kernel_rfl
theorem tOdd : (Tryd.prog.globals[0]?).map (·.type) = some 27 := by kernel_rfl
theorem listed (H : Type) : (Rows.laid_larder_oracle_odd : DataW H) = .agg [.lit (.int .u64 13234230157428861123), .lit (.int .u64 11329751410908088055)] := rfl

theorem u64_nat {n : Int} (h : (Lit.int .u64 n).wf = true) : ∃ m : Nat, n = (m : Int) ∧ m < 18446744073709551616 := by
  have h2 : 0 ≤ n ∧ n < 18446744073709551616 := by
    have e1 : IntKind.u64.min = 0 := rfl
    have e2 : IntKind.u64.max = 18446744073709551615 := rfl
    simp only [Lit.wf, decide_eq_true_eq, Bool.and_eq_true] at h
    rw [e1, e2] at h
    omega
  exact ⟨n.toNat, by omega, by omega⟩
theorem u8_nat {n : Int} (h : (Lit.int .u8 n).wf = true) : ∃ x : UInt8, n = (x.toNat : Int) := by
  have h2 : 0 ≤ n ∧ n < 256 := by
    have e1 : IntKind.u8.min = 0 := rfl
    have e2 : IntKind.u8.max = 255 := rfl
    simp only [Lit.wf, decide_eq_true_eq, Bool.and_eq_true] at h
    rw [e1, e2] at h
    omega
  refine ⟨UInt8.ofNat n.toNat, ?_⟩
  have : (UInt8.ofNat n.toNat).toNat = n.toNat := by
    rw [UInt8.toNat_ofNat']
    omega
  omega
theorem len_lt {n : Nat} (h : n ≤ maxLen) : n < 9223372036854775808 := Nat.lt_of_le_of_lt h (by decide)

def laidO : List (String × DataW Unit) := [("larder/oracle.odd", Rows.laid_larder_oracle_odd)]
theorem door_met (os : Os) (args : Array Value) : laidMetH Tryd.prog laidO ((World.doorLaid Tryd.prog 400 os).forCall (fun _ _ => 0) ⟨#[], args, []⟩).memory :=
  laidMetH_of_parts3 (fuel := 8) (laidMet_of_run' 8 (by kernel_rfl) (by kernel_rfl)) (by kernel_rfl) (by kernel_rfl)

theorem of_laid {W : World} (h : laidMetH Tryd.prog laidO W) : OddAt W := by
  rw [MakeChecks.laidMetH_plain _ _ _ (by kernel_rfl)] at h
  obtain ⟨ps, ⟨g0, t0, cs0, f0, p0, q0, hg0, ht0, hv0, hd0, _, _⟩, _, _⟩ := h
  obtain rfl := Option.some.inj (gOdd.symm.trans hg0)
  obtain rfl := Option.some.inj (tOdd.symm.trans ht0)
  obtain ⟨xs, m1, rfl, hx1, hlen, hn, hel⟩ := DataW.trod_array Tryd.underlying27 hd0
  have c22 : Tryd.prog.cellsOf 23 = 1 := by kernel_rfl
  have h0 := hel 0 (by decide)
  have h1 := hel 1 (by decide)
  rw [listed] at hx1
  simp only [Prod.mk.injEq, DataW.agg.injEq] at hx1
  match xs, hn, hx1, h0, h1 with
  | [x0, x1], _, hx1, h0, h1 =>
    simp only [List.map_cons, List.map_nil, List.cons.injEq] at hx1
    obtain ⟨k0, e0, f0, _⟩ := DataW.trod_int Tryd.underlying23 (show DataW.trod _ Tryd.prog W 0 _ false m1 23 _ = some x0 from h0)
    obtain ⟨k1, e1, f1, _⟩ := DataW.trod_int Tryd.underlying23 (show DataW.trod _ Tryd.prog W 0 _ false m1 23 _ = some x1 from h1)
    have hk0 : k0 = 13234230157428861123 := by rw [f0] at hx1; simpa using hx1.1.1.symm
    have hk1 : k1 = 11329751410908088055 := by rw [f1] at hx1; simpa using hx1.1.2.1.symm
    subst hk0 hk1
    have t0 := World.var?_cell hg0 hv0 0
    have t1 := World.var?_cell hg0 hv0 1
    obtain ⟨l1⟩ := cs0
    rw [c22] at e0 e1
    match l1, e0, e1 with
    | c :: d :: _, e0, e1 =>
      simp at e0 e1
      subst e0 e1
      exact ⟨by simpa using t0, by simpa using t1⟩
end Go.Proofs.YtiaalojfoldnfaaDoor
