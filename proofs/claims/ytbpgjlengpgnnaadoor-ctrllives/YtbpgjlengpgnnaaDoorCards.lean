/-
  DERIVED. GIVEN WITH THE SEED: THE CARDS: each row of YtbpgjlengpgnnaaDoorRows.lean that lists a variable, with what it lists TIED to the program's text (the seventh form; the later family's looks); each row that meets fmt, with fmt's text TOLD by the authors' own Lean function (tested against real Go, not proved from fmt's source: count such statements apart). THE CARD IS WHAT COUNTS. Prove the row's statement (the work); the ties are given (YtbpgjlengpgnnaaDoorTie.lean); close each card by the builder's one call (the guide's Derived/Test/ToyasCard.lean, 'card_holds'). Laid BY PROGRAM, IN A SANDBOX (cutbox-door.mjs). By AI agents, Wed Nov 11 2026. No macro, syntax, notation, axiom, sorry.
-/
import Derived.Test.YtbpgjlengpgnnaaDoorRows
import GoSem.ClaimSeven
namespace Go.Proofs.YtbpgjlengpgnnaaDoor
namespace Rows

/-- THE TIED CARD OF 'larderlaw05.CtrlLives'. -/
def ctrlLivesCard : Claim7 := { stood := { row := ctrlLivesRow, standIns := [], harness := (true, "b5a3a3dedda2fb4c89f54211b0458e4090a6893260ec9ed51ca37bcefd1caf5f"), looks := false }, kinds := [], alts := [], laidByText := true, laidKinds := [.data], laidTests := true, laidLooks := .later }
def CtrlLivesCardSaid : Prop := Claim7.holds Tryd.pinned (.plain (OpenSpec.ofChange ctrlLivesSpec)) ctrlLivesCard

/-- THE SECOND FORM's CARD OF 'larderlaw05.CtrlLives'. -/
def ctrlLivesUptoCard : Claim7 := { stood := { row := ctrlLivesUptoRow, standIns := [], harness := (true, "b5a3a3dedda2fb4c89f54211b0458e4090a6893260ec9ed51ca37bcefd1caf5f"), looks := false }, kinds := [], alts := [], laidByText := true, laidKinds := [.data], laidTests := true, laidLooks := .later }
def CtrlLivesUptoCardSaid : Prop := Claim7.holds Tryd.pinned (.plain (OpenSpec.upto ctrlLivesSpec)) ctrlLivesUptoCard
end Rows
end Go.Proofs.YtbpgjlengpgnnaaDoor
