/-
  Mix by its answer, in regions with several calls.
-/
import Derived.Test.YtiaalojfoldnfaaDoorOM1
namespace Go.Proofs.YtiaalojfoldnfaaDoor
open Go.RowKit

/-- The factors stand, and all that stood in w. -/
abbrev Sm (w W : World) : Prop := W.cell? ⟨0, 0, none⟩ = some (.int .u64 13234230157428861123) ∧ W.cell? ⟨0, 1, none⟩ = some (.int .u64 11329751410908088055) ∧ Kp w W
theorem sm_drew {w W : World} (h : Sm w W) : Sm w W.drew := ⟨h.1, h.2.1, h.2.2.drew⟩
theorem sm_call {w W W1 : World} (k : Kp W W1) (h : Sm w W) : Sm w W1 := ⟨k.cell h.1, k.cell h.2.1, h.2.2.trans k⟩
theorem sm_odd {w W : World} (h : Sm w W) : OddAt W := ⟨h.1, h.2.1⟩
theorem sm_mk {w : World} (h : OddAt w) : Sm w w := ⟨h.1, h.2, Kp.refl _⟩

/-- A call of Mix by its answer. -/
def MixIs (seed : Int) (key : ByteArray) (r : Int) : Prop := ∃ S : Nat, seed = (S : Int) ∧ S < 18446744073709551616 ∧ key.size < 9223372036854775808 ∧ r = ((mixN S key.data.toList : Nat) : Int)
theorem mix_is {seed r : Int} {key : ByteArray} (q : MixIs seed key r) (w : World) (ho : OddAt w) :
    Calls Tryd.prog 6 #[.int .u64 seed, .string key] w fun e w' => e = .returned (.int .u64 r) ∧ Kp w w' := by
  obtain ⟨S, rfl, h1, h2, rfl⟩ := q
  exact mix_any S key w h1 h2 ho
end Go.Proofs.YtiaalojfoldnfaaDoor
