/-
  DERIVED. GIVEN WITH THE SEED: THE CARDS: each row of YtgckinldnnckoaaGreatDoorRows.lean that lists a variable, with what it lists TIED to the program's text (the seventh form; the later family's looks); each row that meets fmt, with fmt's text TOLD by the authors' own Lean function (tested against real Go, not proved from fmt's source: count such statements apart). THE CARD IS WHAT COUNTS. Prove the row's statement (the work); the ties are given (YtgckinldnnckoaaGreatDoorTie.lean); close each card by the builder's one call (the guide's Derived/Test/ToyasCard.lean, 'card_holds'). Laid BY PROGRAM, IN A SANDBOX (cutbox-door.mjs). By AI agents, Wed Nov 11 2026. No macro, syntax, notation, axiom, sorry.
-/
import Derived.Test.YtgckinldnnckoaaGreatDoorRows
import GoSem.ClaimSeven
namespace Go.Proofs.YtgckinldnnckoaaGreatDoor
namespace Rows

/-- THE TIED CARD OF 'larderlaw11.SmallHolds'. -/
def smallHoldsCard : Claim7 := { stood := { row := smallHoldsRow, standIns := [], harness := (true, "8b62b8b920ea2d0395e7f702d83b26ee7e562c697130fff0164c5769e6eef60a"), looks := true }, kinds := [], alts := [], laidByText := true, laidKinds := [.data, .data], laidTests := true, laidLooks := .later }
def SmallHoldsCardSaid : Prop := Claim7.holds Tryz.pinned (.plain (OpenSpec.ofChange smallHoldsSpec)) smallHoldsCard

/-- THE TIED CARD OF 'larderlaw11.SmallRanges'. -/
def smallRangesCard : Claim7 := { stood := { row := smallRangesRow, standIns := [], harness := (true, "8b62b8b920ea2d0395e7f702d83b26ee7e562c697130fff0164c5769e6eef60a"), looks := true }, kinds := [], alts := [], laidByText := true, laidKinds := [.data, .data], laidTests := true, laidLooks := .later }
def SmallRangesCardSaid : Prop := Claim7.holds Tryz.pinned (.plain (OpenSpec.ofChange smallRangesSpec)) smallRangesCard

/-- THE TIED CARD OF 'larderlaw11.SmallPromotes'. -/
def smallPromotesCard : Claim7 := { stood := { row := smallPromotesRow, standIns := [], harness := (true, "8b62b8b920ea2d0395e7f702d83b26ee7e562c697130fff0164c5769e6eef60a"), looks := true }, kinds := [], alts := [], laidByText := true, laidKinds := [.data, .data], laidTests := true, laidLooks := .later }
def SmallPromotesCardSaid : Prop := Claim7.holds Tryz.pinned (.plain (OpenSpec.ofChange smallPromotesSpec)) smallPromotesCard

/-- THE TIED CARD OF 'larderlaw11.SmallPins'. -/
def smallPinsCard : Claim7 := { stood := { row := smallPinsRow, standIns := [], harness := (true, "8b62b8b920ea2d0395e7f702d83b26ee7e562c697130fff0164c5769e6eef60a"), looks := true }, kinds := [], alts := [], laidByText := true, laidKinds := [.data, .data], laidTests := true, laidLooks := .later }
def SmallPinsCardSaid : Prop := Claim7.holds Tryz.pinned (.plain (OpenSpec.ofChange smallPinsSpec)) smallPinsCard

/-- THE SECOND FORM's CARD OF 'larderlaw11.SmallHolds'. -/
def smallHoldsUptoCard : Claim7 := { stood := { row := smallHoldsUptoRow, standIns := [], harness := (true, "8b62b8b920ea2d0395e7f702d83b26ee7e562c697130fff0164c5769e6eef60a"), looks := true }, kinds := [], alts := [], laidByText := true, laidKinds := [.data, .data], laidTests := true, laidLooks := .later }
def SmallHoldsUptoCardSaid : Prop := Claim7.holds Tryz.pinned (.plain (OpenSpec.upto smallHoldsSpec)) smallHoldsUptoCard

/-- THE SECOND FORM's CARD OF 'larderlaw11.SmallRanges'. -/
def smallRangesUptoCard : Claim7 := { stood := { row := smallRangesUptoRow, standIns := [], harness := (true, "8b62b8b920ea2d0395e7f702d83b26ee7e562c697130fff0164c5769e6eef60a"), looks := true }, kinds := [], alts := [], laidByText := true, laidKinds := [.data, .data], laidTests := true, laidLooks := .later }
def SmallRangesUptoCardSaid : Prop := Claim7.holds Tryz.pinned (.plain (OpenSpec.upto smallRangesSpec)) smallRangesUptoCard

/-- THE SECOND FORM's CARD OF 'larderlaw11.SmallPromotes'. -/
def smallPromotesUptoCard : Claim7 := { stood := { row := smallPromotesUptoRow, standIns := [], harness := (true, "8b62b8b920ea2d0395e7f702d83b26ee7e562c697130fff0164c5769e6eef60a"), looks := true }, kinds := [], alts := [], laidByText := true, laidKinds := [.data, .data], laidTests := true, laidLooks := .later }
def SmallPromotesUptoCardSaid : Prop := Claim7.holds Tryz.pinned (.plain (OpenSpec.upto smallPromotesSpec)) smallPromotesUptoCard

/-- THE SECOND FORM's CARD OF 'larderlaw11.SmallPins'. -/
def smallPinsUptoCard : Claim7 := { stood := { row := smallPinsUptoRow, standIns := [], harness := (true, "8b62b8b920ea2d0395e7f702d83b26ee7e562c697130fff0164c5769e6eef60a"), looks := true }, kinds := [], alts := [], laidByText := true, laidKinds := [.data, .data], laidTests := true, laidLooks := .later }
def SmallPinsUptoCardSaid : Prop := Claim7.holds Tryz.pinned (.plain (OpenSpec.upto smallPinsSpec)) smallPinsUptoCard
end Rows
end Go.Proofs.YtgckinldnnckoaaGreatDoor
