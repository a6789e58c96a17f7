/-
  What the given condition on the table of math/bits tells.
-/
import Derived.Test.YtbpgjlengpgnnabDoorRows
import Derived.ProofKit
import Derived.LaidMore
import Derived.OpenShut
import Derived.Stop.Joined
import Derived.Lib.LaidTab
import Derived.Test.YtbpgjlengpgnnabDoorC3
namespace Go.Proofs.YtbpgjlengpgnnabDoor
open Go.ChangeShapes Go.WideShapes Go.ChangeAt Go.WideMaps Go.WideElems Go.RowKit

theorem own : ownKnob Tryd.prog.godebug = none := by kernel_rfl
theorem laidOut : laidOutB Tryd.prog = true := by kernel_rfl
theorem gTab : Tryd.prog.globalNamed "math/bits.deBruijn64tab" = some 0 := by kernel_rfl
theorem tTab : (Tryd.prog.globals[0]?).map (·.type) = some 53 := by kernel_rfl
theorem listed : (Rows.laid_math_bits_deBruijn64tab : DataW Unit) = Lib.tabData .u8 (tabL.map fun n : Nat => (n : Int)) := rfl

def laidO : List (String × DataW Unit) := [("math/bits.deBruijn64tab", Rows.laid_math_bits_deBruijn64tab)]
theorem door_met (os : Os) (args : Array Value) : laidMetH Tryd.prog laidO ((World.doorLaid Tryd.prog 400 os).forCall (fun _ _ => 0) ⟨#[], args, []⟩).memory :=
  laidMetH_of_parts3 (fuel := 8) (laidMet_of_run' 8 (by kernel_rfl) (by kernel_rfl)) (by kernel_rfl) (by kernel_rfl)

theorem of_laid {W : World} (h : laidMetH Tryd.prog laidO W) : TabAt W := by
  rw [MakeChecks.laidMetH_plain _ _ _ (by kernel_rfl)] at h
  have h2 : laidMet Tryd.prog (("math/bits.deBruijn64tab", Lib.tabData .u8 (tabL.map fun n : Nat => (n : Int))) :: []) W := h
  have t := Lib.tabIs_of_head gTab tTab Tryd.underlying53 Tryd.underlying5 (by kernel_rfl) (by kernel_rfl) h2
  intro k hk
  have e := t.cell gTab k (by rw [List.length_map]; exact hk)
  rw [e]
  congr 2
  have : (tabL.map fun n : Nat => (n : Int)).getD k 0 = ((tabL.getD k 0 : Nat) : Int) := by
    simp [List.getD]
    cases tabL[k]? <;> rfl
  exact this
end Go.Proofs.YtbpgjlengpgnnabDoor
