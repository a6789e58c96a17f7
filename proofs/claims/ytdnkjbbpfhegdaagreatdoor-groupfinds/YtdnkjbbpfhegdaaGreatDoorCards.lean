/-
  DERIVED. GIVEN WITH THE SEED: THE CARDS: each row of YtdnkjbbpfhegdaaGreatDoorRows.lean that lists a variable, with what it lists TIED to the program's text (the seventh form; the later family's looks); each row that meets fmt, with fmt's text TOLD by the authors' own Lean function (tested against real Go, not proved from fmt's source: count such statements apart). THE CARD IS WHAT COUNTS. Prove the row's statement (the work); the ties are given (YtdnkjbbpfhegdaaGreatDoorTie.lean); close each card by the builder's one call (the guide's Derived/Test/ToyasCard.lean, 'card_holds'). Laid BY PROGRAM, IN A SANDBOX (cutbox-door.mjs). By AI agents, Wed Nov 11 2026. No macro, syntax, notation, axiom, sorry.
-/
import Derived.Test.YtdnkjbbpfhegdaaGreatDoorRows
import GoSem.ClaimSeven
namespace Go.Proofs.YtdnkjbbpfhegdaaGreatDoor
namespace Rows

/-- THE TIED CARD OF 'larderlaw06.GroupFinds'. -/
def groupFindsCard : Claim7 := { stood := { row := groupFindsRow, standIns := [], harness := (true, "4803df509f46a96009369c02bc387ddf686725a5620f43f4e8fc44903fe40f8c"), looks := true }, kinds := [], alts := [], laidByText := true, laidKinds := [.data], laidTests := true, laidLooks := .later }
def GroupFindsCardSaid : Prop := Claim7.holds Tryz.pinned (.plain (OpenSpec.ofChange groupFindsSpec)) groupFindsCard

/-- THE TIED CARD OF 'larderlaw06.GroupPlays'. -/
def groupPlaysCard : Claim7 := { stood := { row := groupPlaysRow, standIns := [], harness := (true, "4803df509f46a96009369c02bc387ddf686725a5620f43f4e8fc44903fe40f8c"), looks := true }, kinds := [], alts := [], laidByText := true, laidKinds := [.data], laidTests := true, laidLooks := .later }
def GroupPlaysCardSaid : Prop := Claim7.holds Tryz.pinned (.plain (OpenSpec.ofChange groupPlaysSpec)) groupPlaysCard

/-- THE SECOND FORM's CARD OF 'larderlaw06.GroupFinds'. -/
def groupFindsUptoCard : Claim7 := { stood := { row := groupFindsUptoRow, standIns := [], harness := (true, "4803df509f46a96009369c02bc387ddf686725a5620f43f4e8fc44903fe40f8c"), looks := true }, kinds := [], alts := [], laidByText := true, laidKinds := [.data], laidTests := true, laidLooks := .later }
def GroupFindsUptoCardSaid : Prop := Claim7.holds Tryz.pinned (.plain (OpenSpec.upto groupFindsSpec)) groupFindsUptoCard

/-- THE SECOND FORM's CARD OF 'larderlaw06.GroupPlays'. -/
def groupPlaysUptoCard : Claim7 := { stood := { row := groupPlaysUptoRow, standIns := [], harness := (true, "4803df509f46a96009369c02bc387ddf686725a5620f43f4e8fc44903fe40f8c"), looks := true }, kinds := [], alts := [], laidByText := true, laidKinds := [.data], laidTests := true, laidLooks := .later }
def GroupPlaysUptoCardSaid : Prop := Claim7.holds Tryz.pinned (.plain (OpenSpec.upto groupPlaysSpec)) groupPlaysUptoCard
end Rows
end Go.Proofs.YtdnkjbbpfhegdaaGreatDoor
