/-
  script: the reference's hex and bytes.
-/
import Derived.Test.YtpkbjjbbdhehdaaDoorSC0
namespace Go.Proofs.YtpkbjjbbdhehdaaDoor
open Go.RowKit
set_option linter.unusedVariables false

theorem Tryd.infoE : (Tryd.prog.info? 5).map (fun i => (i.zero, i.size, i.bytes)) = some (some (.int .u8 0), 1, 1) := by kernel_rfl
theorem hex_any (v : Nat) (h : v < 16) (w : World) : Calls Tryd.prog 20 #[.int .i64 (v : Int)] w fun e w' => e = .returned (.int .u8 ((hexC v).toNat : Int)) ∧ w' = w := by
  have hx := hexC_val h
  generalize hexC v = c at *
  by_cases h10 : v < 10
  · have h10' : (v : Int) < 10 := by omega
    rw [if_pos h10] at hx
    have e1 : IntKind.u8.wrap (48 + (v : Int)) = (c.toNat : Int) := by rw [IntKind.wrap_u8]; omega
    have e2 : wrap64 (48 + (v : Int)) = 48 + (v : Int) := by unfold wrap64; omega
    have e3 : IntKind.i64.wrap (48 + (v : Int)) = 48 + (v : Int) := by rw [IntKind.wrap_i64]; omega
    clear hx h10
    go_enter Tryd.func20, Tryd.ntmps20
    go_wp2_with fail
    go_ret
    exact ⟨rfl, rfl⟩
  · have h10' : ¬ (v : Int) < 10 := by omega
    rw [if_neg h10] at hx
    have e1 : IntKind.u8.wrap (97 + (v : Int) - 10) = (c.toNat : Int) := by rw [IntKind.wrap_u8]; omega
    have e2 : wrap64 (97 + (v : Int)) = 97 + (v : Int) := by unfold wrap64; omega
    have e3 : IntKind.i64.wrap (97 + (v : Int)) = 97 + (v : Int) := by rw [IntKind.wrap_i64]; omega
    have e4 : wrap64 (97 + (v : Int) - 10) = 97 + (v : Int) - 10 := by unfold wrap64; omega
    have e5 : IntKind.i64.wrap (97 + (v : Int) - 10) = 97 + (v : Int) - 10 := by rw [IntKind.wrap_i64]; omega
    clear hx h10
    go_enter Tryd.func20, Tryd.ntmps20
    go_wp2_with fail
    go_ret
    exact ⟨rfl, rfl⟩
end Go.Proofs.YtpkbjjbbdhehdaaDoor
