/-
  DERIVED. GIVEN WITH THE SEED: THE CARDS: each row of YtmdnknbolgedgaaGreatDoorRows.lean that lists a variable, with what it lists TIED to the program's text (the seventh form; the later family's looks); each row that meets fmt, with fmt's text TOLD by the authors' own Lean function (tested against real Go, not proved from fmt's source: count such statements apart). THE CARD IS WHAT COUNTS. Prove the row's statement (the work); the ties are given (YtmdnknbolgedgaaGreatDoorTie.lean); close each card by the builder's one call (the guide's Derived/Test/ToyasCard.lean, 'card_holds'). Laid BY PROGRAM, IN A SANDBOX (cutbox-door.mjs). By AI agents, Wed Nov 11 2026. No macro, syntax, notation, axiom, sorry.
-/
import Derived.Test.YtmdnknbolgedgaaGreatDoorRows
import GoSem.ClaimSeven
namespace Go.Proofs.YtmdnknbolgedgaaGreatDoor
namespace Rows

/-- THE TIED CARD OF 'larderlaw08.TablePiles'. -/
def tablePilesCard : Claim7 := { stood := { row := tablePilesRow, standIns := [], harness := (true, "bed779774ca9a8669ba3a3808e85f6e64e664037758741a9a0be2b0565b06e75"), looks := true }, kinds := [], alts := [], laidByText := true, laidKinds := [.data], laidTests := true, laidLooks := .later }
def TablePilesCardSaid : Prop := Claim7.holds Tryz.pinned (.plain (OpenSpec.ofChange tablePilesSpec)) tablePilesCard

/-- THE TIED CARD OF 'larderlaw08.TablePins'. -/
def tablePinsCard : Claim7 := { stood := { row := tablePinsRow, standIns := [], harness := (true, "bed779774ca9a8669ba3a3808e85f6e64e664037758741a9a0be2b0565b06e75"), looks := true }, kinds := [], alts := [], laidByText := true, laidKinds := [.data], laidTests := true, laidLooks := .later }
def TablePinsCardSaid : Prop := Claim7.holds Tryz.pinned (.plain (OpenSpec.ofChange tablePinsSpec)) tablePinsCard

/-- THE TIED CARD OF 'larderlaw08.TableHolds'. -/
def tableHoldsCard : Claim7 := { stood := { row := tableHoldsRow, standIns := [], harness := (true, "bed779774ca9a8669ba3a3808e85f6e64e664037758741a9a0be2b0565b06e75"), looks := true }, kinds := [], alts := [], laidByText := true, laidKinds := [.data], laidTests := true, laidLooks := .later }
def TableHoldsCardSaid : Prop := Claim7.holds Tryz.pinned (.plain (OpenSpec.ofChange tableHoldsSpec)) tableHoldsCard

/-- THE TIED CARD OF 'larderlaw08.TableSwaps'. -/
def tableSwapsCard : Claim7 := { stood := { row := tableSwapsRow, standIns := [], harness := (true, "bed779774ca9a8669ba3a3808e85f6e64e664037758741a9a0be2b0565b06e75"), looks := true }, kinds := [], alts := [], laidByText := true, laidKinds := [.data], laidTests := true, laidLooks := .later }
def TableSwapsCardSaid : Prop := Claim7.holds Tryz.pinned (.plain (OpenSpec.ofChange tableSwapsSpec)) tableSwapsCard

/-- THE TIED CARD OF 'larderlaw08.TableRanges'. -/
def tableRangesCard : Claim7 := { stood := { row := tableRangesRow, standIns := [], harness := (true, "bed779774ca9a8669ba3a3808e85f6e64e664037758741a9a0be2b0565b06e75"), looks := true }, kinds := [], alts := [], laidByText := true, laidKinds := [.data], laidTests := true, laidLooks := .later }
def TableRangesCardSaid : Prop := Claim7.holds Tryz.pinned (.plain (OpenSpec.ofChange tableRangesSpec)) tableRangesCard

/-- THE TIED CARD OF 'larderlaw08.TableShape'. -/
def tableShapeCard : Claim7 := { stood := { row := tableShapeRow, standIns := [], harness := (true, "bed779774ca9a8669ba3a3808e85f6e64e664037758741a9a0be2b0565b06e75"), looks := true }, kinds := [], alts := [], laidByText := true, laidKinds := [.data], laidTests := true, laidLooks := .later }
def TableShapeCardSaid : Prop := Claim7.holds Tryz.pinned (.plain (OpenSpec.ofChange tableShapeSpec)) tableShapeCard

/-- THE SECOND FORM's CARD OF 'larderlaw08.TablePiles'. -/
def tablePilesUptoCard : Claim7 := { stood := { row := tablePilesUptoRow, standIns := [], harness := (true, "bed779774ca9a8669ba3a3808e85f6e64e664037758741a9a0be2b0565b06e75"), looks := true }, kinds := [], alts := [], laidByText := true, laidKinds := [.data], laidTests := true, laidLooks := .later }
def TablePilesUptoCardSaid : Prop := Claim7.holds Tryz.pinned (.plain (OpenSpec.upto tablePilesSpec)) tablePilesUptoCard

/-- THE SECOND FORM's CARD OF 'larderlaw08.TablePins'. -/
def tablePinsUptoCard : Claim7 := { stood := { row := tablePinsUptoRow, standIns := [], harness := (true, "bed779774ca9a8669ba3a3808e85f6e64e664037758741a9a0be2b0565b06e75"), looks := true }, kinds := [], alts := [], laidByText := true, laidKinds := [.data], laidTests := true, laidLooks := .later }
def TablePinsUptoCardSaid : Prop := Claim7.holds Tryz.pinned (.plain (OpenSpec.upto tablePinsSpec)) tablePinsUptoCard

/-- THE SECOND FORM's CARD OF 'larderlaw08.TableHolds'. -/
def tableHoldsUptoCard : Claim7 := { stood := { row := tableHoldsUptoRow, standIns := [], harness := (true, "bed779774ca9a8669ba3a3808e85f6e64e664037758741a9a0be2b0565b06e75"), looks := true }, kinds := [], alts := [], laidByText := true, laidKinds := [.data], laidTests := true, laidLooks := .later }
def TableHoldsUptoCardSaid : Prop := Claim7.holds Tryz.pinned (.plain (OpenSpec.upto tableHoldsSpec)) tableHoldsUptoCard

/-- THE SECOND FORM's CARD OF 'larderlaw08.TableSwaps'. -/
def tableSwapsUptoCard : Claim7 := { stood := { row := tableSwapsUptoRow, standIns := [], harness := (true, "bed779774ca9a8669ba3a3808e85f6e64e664037758741a9a0be2b0565b06e75"), looks := true }, kinds := [], alts := [], laidByText := true, laidKinds := [.data], laidTests := true, laidLooks := .later }
def TableSwapsUptoCardSaid : Prop := Claim7.holds Tryz.pinned (.plain (OpenSpec.upto tableSwapsSpec)) tableSwapsUptoCard

/-- THE SECOND FORM's CARD OF 'larderlaw08.TableRanges'. -/
def tableRangesUptoCard : Claim7 := { stood := { row := tableRangesUptoRow, standIns := [], harness := (true, "bed779774ca9a8669ba3a3808e85f6e64e664037758741a9a0be2b0565b06e75"), looks := true }, kinds := [], alts := [], laidByText := true, laidKinds := [.data], laidTests := true, laidLooks := .later }
def TableRangesUptoCardSaid : Prop := Claim7.holds Tryz.pinned (.plain (OpenSpec.upto tableRangesSpec)) tableRangesUptoCard

/-- THE SECOND FORM's CARD OF 'larderlaw08.TableShape'. -/
def tableShapeUptoCard : Claim7 := { stood := { row := tableShapeUptoRow, standIns := [], harness := (true, "bed779774ca9a8669ba3a3808e85f6e64e664037758741a9a0be2b0565b06e75"), looks := true }, kinds := [], alts := [], laidByText := true, laidKinds := [.data], laidTests := true, laidLooks := .later }
def TableShapeUptoCardSaid : Prop := Claim7.holds Tryz.pinned (.plain (OpenSpec.upto tableShapeSpec)) tableShapeUptoCard
end Rows
end Go.Proofs.YtmdnknbolgedgaaGreatDoor
