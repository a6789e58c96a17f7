/-
  DERIVED. GIVEN WITH THE SEED: THE CARDS: each row of YtflihieaajbihabDoorRows.lean that lists a variable, with what it lists TIED to the program's text (the seventh form; the later family's looks); each row that meets fmt, with fmt's text TOLD by the authors' own Lean function (tested against real Go, not proved from fmt's source: count such statements apart). THE CARD IS WHAT COUNTS. Prove the row's statement (the work); the ties are given (YtflihieaajbihabDoorTie.lean); close each card by the builder's one call (the guide's Derived/Test/ToyasCard.lean, 'card_holds'). Laid BY PROGRAM, IN A SANDBOX (cutbox-door.mjs). By AI agents, Wed Nov 11 2026. No macro, syntax, notation, axiom, sorry.
-/
import Derived.Test.YtflihieaajbihabDoorRows
import GoSem.ClaimSeven
namespace Go.Proofs.YtflihieaajbihabDoor
namespace Rows

/-- THE TIED CARD OF 'larderlaw04.OracleHashes'. -/
def oracleHashesCard : Claim7 := { stood := { row := oracleHashesRow, standIns := [], harness := (true, "a55e313bc9ab401ede4a56a5323ace370995e6fe735dc0fd80127f4c91654839"), looks := false }, kinds := [], alts := [], laidByText := true, laidKinds := [.data], laidTests := true, laidLooks := .later }
def OracleHashesCardSaid : Prop := Claim7.holds Tryd.pinned (.plain (OpenSpec.ofChange oracleHashesSpec)) oracleHashesCard

/-- THE SECOND FORM's CARD OF 'larderlaw04.OracleHashes'. -/
def oracleHashesUptoCard : Claim7 := { stood := { row := oracleHashesUptoRow, standIns := [], harness := (true, "a55e313bc9ab401ede4a56a5323ace370995e6fe735dc0fd80127f4c91654839"), looks := false }, kinds := [], alts := [], laidByText := true, laidKinds := [.data], laidTests := true, laidLooks := .later }
def OracleHashesUptoCardSaid : Prop := Claim7.holds Tryd.pinned (.plain (OpenSpec.upto oracleHashesSpec)) oracleHashesUptoCard
end Rows
end Go.Proofs.YtflihieaajbihabDoor
