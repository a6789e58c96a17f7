/-
  DERIVED. GIVEN WITH THE SEED: THE CARDS: each row of YtdhphakjkgfngaaGreatDoorRows.lean that lists a variable, with what it lists TIED to the program's text (the seventh form; the later family's looks); each row that meets fmt, with fmt's text TOLD by the authors' own Lean function (tested against real Go, not proved from fmt's source: count such statements apart). THE CARD IS WHAT COUNTS. Prove the row's statement (the work); the ties are given (YtdhphakjkgfngaaGreatDoorTie.lean); close each card by the builder's one call (the guide's Derived/Test/ToyasCard.lean, 'card_holds'). Laid BY PROGRAM, IN A SANDBOX (cutbox-door.mjs). By AI agents, Wed Nov 11 2026. No macro, syntax, notation, axiom, sorry.
-/
import Derived.Test.YtdhphakjkgfngaaGreatDoorRows
import GoSem.ClaimSeven
namespace Go.Proofs.YtdhphakjkgfngaaGreatDoor
namespace Rows

/-- THE TIED CARD OF 'larderlaw10.DirGrows'. -/
def dirGrowsCard : Claim7 := { stood := { row := dirGrowsRow, standIns := [], harness := (true, "406ca982a9b8439a6f1bf7c4d98d280802138381c2c3088c95aac035b5f46411"), looks := true }, kinds := [], alts := [], laidByText := true, laidKinds := [.data, .data], laidTests := true, laidLooks := .later }
def DirGrowsCardSaid : Prop := Claim7.holds Tryz.pinned (.plain (OpenSpec.ofChange dirGrowsSpec)) dirGrowsCard

/-- THE SECOND FORM's CARD OF 'larderlaw10.DirGrows'. -/
def dirGrowsUptoCard : Claim7 := { stood := { row := dirGrowsUptoRow, standIns := [], harness := (true, "406ca982a9b8439a6f1bf7c4d98d280802138381c2c3088c95aac035b5f46411"), looks := true }, kinds := [], alts := [], laidByText := true, laidKinds := [.data, .data], laidTests := true, laidLooks := .later }
def DirGrowsUptoCardSaid : Prop := Claim7.holds Tryz.pinned (.plain (OpenSpec.upto dirGrowsSpec)) dirGrowsUptoCard
end Rows
end Go.Proofs.YtdhphakjkgfngaaGreatDoor
