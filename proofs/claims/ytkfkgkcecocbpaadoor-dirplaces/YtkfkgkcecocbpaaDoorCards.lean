/-
  DERIVED. GIVEN WITH THE SEED: THE CARDS: each row of YtkfkgkcecocbpaaDoorRows.lean that lists a variable, with what it lists TIED to the program's text (the seventh form; the later family's looks); each row that meets fmt, with fmt's text TOLD by the authors' own Lean function (tested against real Go, not proved from fmt's source: count such statements apart). THE CARD IS WHAT COUNTS. Prove the row's statement (the work); the ties are given (YtkfkgkcecocbpaaDoorTie.lean); close each card by the builder's one call (the guide's Derived/Test/ToyasCard.lean, 'card_holds'). Laid BY PROGRAM, IN A SANDBOX (cutbox-door.mjs). By AI agents, Wed Nov 11 2026. No macro, syntax, notation, axiom, sorry.
-/
import Derived.Test.YtkfkgkcecocbpaaDoorRows
import GoSem.ClaimSeven
namespace Go.Proofs.YtkfkgkcecocbpaaDoor
namespace Rows

/-- THE TIED CARD OF 'larderlaw10.DirMakes'. -/
def dirMakesCard : Claim7 := { stood := { row := dirMakesRow, standIns := [], harness := (true, "098996ffab232c163b9db67dddad5c327b214966b156deb261cd62cd35785e43"), looks := true }, kinds := [], alts := [], laidByText := true, laidKinds := [.data, .data], laidTests := true, laidLooks := .later }
def DirMakesCardSaid : Prop := Claim7.holds Tryd.pinned (.plain (OpenSpec.ofChange dirMakesSpec)) dirMakesCard

/-- THE TIED CARD OF 'larderlaw10.DirPicks'. -/
def dirPicksCard : Claim7 := { stood := { row := dirPicksRow, standIns := [], harness := (true, "098996ffab232c163b9db67dddad5c327b214966b156deb261cd62cd35785e43"), looks := true }, kinds := [], alts := [], laidByText := true, laidKinds := [.data, .data], laidTests := true, laidLooks := .later }
def DirPicksCardSaid : Prop := Claim7.holds Tryd.pinned (.plain (OpenSpec.ofChange dirPicksSpec)) dirPicksCard

/-- THE TIED CARD OF 'larderlaw10.DirPlaces'. -/
def dirPlacesCard : Claim7 := { stood := { row := dirPlacesRow, standIns := [], harness := (true, "098996ffab232c163b9db67dddad5c327b214966b156deb261cd62cd35785e43"), looks := true }, kinds := [], alts := [], laidByText := true, laidKinds := [.data, .data], laidTests := true, laidLooks := .later }
def DirPlacesCardSaid : Prop := Claim7.holds Tryd.pinned (.plain (OpenSpec.ofChange dirPlacesSpec)) dirPlacesCard

/-- THE TIED CARD OF 'larderlaw10.DirWidens'. -/
def dirWidensCard : Claim7 := { stood := { row := dirWidensRow, standIns := [], harness := (true, "098996ffab232c163b9db67dddad5c327b214966b156deb261cd62cd35785e43"), looks := true }, kinds := [], alts := [], laidByText := true, laidKinds := [.data, .data], laidTests := true, laidLooks := .later }
def DirWidensCardSaid : Prop := Claim7.holds Tryd.pinned (.plain (OpenSpec.ofChange dirWidensSpec)) dirWidensCard

/-- THE TIED CARD OF 'larderlaw10.DirRefused'. -/
def dirRefusedCard : Claim7 := { stood := { row := dirRefusedRow, standIns := [], harness := (true, "098996ffab232c163b9db67dddad5c327b214966b156deb261cd62cd35785e43"), looks := true }, kinds := [], alts := [], laidByText := true, laidKinds := [.data, .data], laidTests := true, laidLooks := .later }
def DirRefusedCardSaid : Prop := Claim7.holds Tryd.pinned (.plain (OpenSpec.ofChange dirRefusedSpec)) dirRefusedCard

/-- THE TIED CARD OF 'larderlaw10.DirTables'. -/
def dirTablesCard : Claim7 := { stood := { row := dirTablesRow, standIns := [], harness := (true, "098996ffab232c163b9db67dddad5c327b214966b156deb261cd62cd35785e43"), looks := true }, kinds := [], alts := [], laidByText := true, laidKinds := [.data, .data], laidTests := true, laidLooks := .later }
def DirTablesCardSaid : Prop := Claim7.holds Tryd.pinned (.plain (OpenSpec.ofChange dirTablesSpec)) dirTablesCard

/-- THE SECOND FORM's CARD OF 'larderlaw10.DirMakes'. -/
def dirMakesUptoCard : Claim7 := { stood := { row := dirMakesUptoRow, standIns := [], harness := (true, "098996ffab232c163b9db67dddad5c327b214966b156deb261cd62cd35785e43"), looks := true }, kinds := [], alts := [], laidByText := true, laidKinds := [.data, .data], laidTests := true, laidLooks := .later }
def DirMakesUptoCardSaid : Prop := Claim7.holds Tryd.pinned (.plain (OpenSpec.upto dirMakesSpec)) dirMakesUptoCard

/-- THE SECOND FORM's CARD OF 'larderlaw10.DirPicks'. -/
def dirPicksUptoCard : Claim7 := { stood := { row := dirPicksUptoRow, standIns := [], harness := (true, "098996ffab232c163b9db67dddad5c327b214966b156deb261cd62cd35785e43"), looks := true }, kinds := [], alts := [], laidByText := true, laidKinds := [.data, .data], laidTests := true, laidLooks := .later }
def DirPicksUptoCardSaid : Prop := Claim7.holds Tryd.pinned (.plain (OpenSpec.upto dirPicksSpec)) dirPicksUptoCard

/-- THE SECOND FORM's CARD OF 'larderlaw10.DirPlaces'. -/
def dirPlacesUptoCard : Claim7 := { stood := { row := dirPlacesUptoRow, standIns := [], harness := (true, "098996ffab232c163b9db67dddad5c327b214966b156deb261cd62cd35785e43"), looks := true }, kinds := [], alts := [], laidByText := true, laidKinds := [.data, .data], laidTests := true, laidLooks := .later }
def DirPlacesUptoCardSaid : Prop := Claim7.holds Tryd.pinned (.plain (OpenSpec.upto dirPlacesSpec)) dirPlacesUptoCard

/-- THE SECOND FORM's CARD OF 'larderlaw10.DirWidens'. -/
def dirWidensUptoCard : Claim7 := { stood := { row := dirWidensUptoRow, standIns := [], harness := (true, "098996ffab232c163b9db67dddad5c327b214966b156deb261cd62cd35785e43"), looks := true }, kinds := [], alts := [], laidByText := true, laidKinds := [.data, .data], laidTests := true, laidLooks := .later }
def DirWidensUptoCardSaid : Prop := Claim7.holds Tryd.pinned (.plain (OpenSpec.upto dirWidensSpec)) dirWidensUptoCard

/-- THE SECOND FORM's CARD OF 'larderlaw10.DirRefused'. -/
def dirRefusedUptoCard : Claim7 := { stood := { row := dirRefusedUptoRow, standIns := [], harness := (true, "098996ffab232c163b9db67dddad5c327b214966b156deb261cd62cd35785e43"), looks := true }, kinds := [], alts := [], laidByText := true, laidKinds := [.data, .data], laidTests := true, laidLooks := .later }
def DirRefusedUptoCardSaid : Prop := Claim7.holds Tryd.pinned (.plain (OpenSpec.upto dirRefusedSpec)) dirRefusedUptoCard

/-- THE SECOND FORM's CARD OF 'larderlaw10.DirTables'. -/
def dirTablesUptoCard : Claim7 := { stood := { row := dirTablesUptoRow, standIns := [], harness := (true, "098996ffab232c163b9db67dddad5c327b214966b156deb261cd62cd35785e43"), looks := true }, kinds := [], alts := [], laidByText := true, laidKinds := [.data, .data], laidTests := true, laidLooks := .later }
def DirTablesUptoCardSaid : Prop := Claim7.holds Tryd.pinned (.plain (OpenSpec.upto dirTablesSpec)) dirTablesUptoCard
end Rows
end Go.Proofs.YtkfkgkcecocbpaaDoor
