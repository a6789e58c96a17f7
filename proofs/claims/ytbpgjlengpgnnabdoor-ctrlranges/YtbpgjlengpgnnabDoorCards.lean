/-
  DERIVED. GIVEN WITH THE SEED: THE CARDS: each row of YtbpgjlengpgnnabDoorRows.lean that lists a variable, with what it lists TIED to the program's text (the seventh form; the later family's looks); each row that meets fmt, with fmt's text TOLD by the authors' own Lean function (tested against real Go, not proved from fmt's source: count such statements apart). THE CARD IS WHAT COUNTS. Prove the row's statement (the work); the ties are given (YtbpgjlengpgnnabDoorTie.lean); close each card by the builder's one call (the guide's Derived/Test/ToyasCard.lean, 'card_holds'). Laid BY PROGRAM, IN A SANDBOX (cutbox-door.mjs). By AI agents, Wed Nov 11 2026. No macro, syntax, notation, axiom, sorry.
-/
import Derived.Test.YtbpgjlengpgnnabDoorRows
import GoSem.ClaimSeven
namespace Go.Proofs.YtbpgjlengpgnnabDoor
namespace Rows

/-- THE TIED CARD OF 'larderlaw05.CtrlRanges'. -/
def ctrlRangesCard : Claim7 := { stood := { row := ctrlRangesRow, standIns := [], harness := (true, "c1bcb54bfd1507ad5b9d6d5ed5f8d2994e77fb6f28ea38688a4b1e04760c4a58"), looks := false }, kinds := [], alts := [], laidByText := true, laidKinds := [.data], laidTests := true, laidLooks := .later }
def CtrlRangesCardSaid : Prop := Claim7.holds Tryd.pinned (.plain (OpenSpec.ofChange ctrlRangesSpec)) ctrlRangesCard

/-- THE TIED CARD OF 'larderlaw05.CtrlExact'. -/
def ctrlExactCard : Claim7 := { stood := { row := ctrlExactRow, standIns := [], harness := (true, "c1bcb54bfd1507ad5b9d6d5ed5f8d2994e77fb6f28ea38688a4b1e04760c4a58"), looks := false }, kinds := [], alts := [], laidByText := true, laidKinds := [.data], laidTests := true, laidLooks := .later }
def CtrlExactCardSaid : Prop := Claim7.holds Tryd.pinned (.plain (OpenSpec.ofChange ctrlExactSpec)) ctrlExactCard

/-- THE SECOND FORM's CARD OF 'larderlaw05.CtrlRanges'. -/
def ctrlRangesUptoCard : Claim7 := { stood := { row := ctrlRangesUptoRow, standIns := [], harness := (true, "c1bcb54bfd1507ad5b9d6d5ed5f8d2994e77fb6f28ea38688a4b1e04760c4a58"), looks := false }, kinds := [], alts := [], laidByText := true, laidKinds := [.data], laidTests := true, laidLooks := .later }
def CtrlRangesUptoCardSaid : Prop := Claim7.holds Tryd.pinned (.plain (OpenSpec.upto ctrlRangesSpec)) ctrlRangesUptoCard

/-- THE SECOND FORM's CARD OF 'larderlaw05.CtrlExact'. -/
def ctrlExactUptoCard : Claim7 := { stood := { row := ctrlExactUptoRow, standIns := [], harness := (true, "c1bcb54bfd1507ad5b9d6d5ed5f8d2994e77fb6f28ea38688a4b1e04760c4a58"), looks := false }, kinds := [], alts := [], laidByText := true, laidKinds := [.data], laidTests := true, laidLooks := .later }
def CtrlExactUptoCardSaid : Prop := Claim7.holds Tryd.pinned (.plain (OpenSpec.upto ctrlExactSpec)) ctrlExactUptoCard
end Rows
end Go.Proofs.YtbpgjlengpgnnabDoor
