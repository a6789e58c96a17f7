/-
  DERIVED. GIVEN WITH THE SEED: THE CARDS: each row of YtiacmlcoadcefaaDoorRows.lean that lists a variable, with what it lists TIED to the program's text (the seventh form; the later family's looks); each row that meets fmt, with fmt's text TOLD by the authors' own Lean function (tested against real Go, not proved from fmt's source: count such statements apart). THE CARD IS WHAT COUNTS. Prove the row's statement (the work); the ties are given (YtiacmlcoadcefaaDoorTie.lean); close each card by the builder's one call (the guide's Derived/Test/ToyasCard.lean, 'card_holds'). Laid BY PROGRAM, IN A SANDBOX (cutbox-door.mjs). By AI agents, Wed Nov 11 2026. No macro, syntax, notation, axiom, sorry.
-/
import Derived.Test.YtiacmlcoadcefaaDoorRows
import GoSem.ClaimSeven
namespace Go.Proofs.YtiacmlcoadcefaaDoor
namespace Rows

/-- THE TIED CARD OF 'larderlaw10.DirTables'. -/
def dirTablesCard : Claim7 := { stood := { row := dirTablesRow, standIns := [], harness := (true, "e27902b54334cb426d361be1ae8cc5752fe03aad8aa40bbe4178c554b15e70d3"), looks := true }, kinds := [], alts := [], laidByText := true, laidKinds := [.data, .data], laidTests := true, laidLooks := .later }
def DirTablesCardSaid : Prop := Claim7.holds Tryd.pinned (.plain (OpenSpec.ofChange dirTablesSpec)) dirTablesCard

/-- THE TIED CARD OF 'larderlaw10.DirWidens'. -/
def dirWidensCard : Claim7 := { stood := { row := dirWidensRow, standIns := [], harness := (true, "e27902b54334cb426d361be1ae8cc5752fe03aad8aa40bbe4178c554b15e70d3"), looks := true }, kinds := [], alts := [], laidByText := true, laidKinds := [.data, .data], laidTests := true, laidLooks := .later }
def DirWidensCardSaid : Prop := Claim7.holds Tryd.pinned (.plain (OpenSpec.ofChange dirWidensSpec)) dirWidensCard

/-- THE SECOND FORM's CARD OF 'larderlaw10.DirTables'. -/
def dirTablesUptoCard : Claim7 := { stood := { row := dirTablesUptoRow, standIns := [], harness := (true, "e27902b54334cb426d361be1ae8cc5752fe03aad8aa40bbe4178c554b15e70d3"), looks := true }, kinds := [], alts := [], laidByText := true, laidKinds := [.data, .data], laidTests := true, laidLooks := .later }
def DirTablesUptoCardSaid : Prop := Claim7.holds Tryd.pinned (.plain (OpenSpec.upto dirTablesSpec)) dirTablesUptoCard

/-- THE SECOND FORM's CARD OF 'larderlaw10.DirWidens'. -/
def dirWidensUptoCard : Claim7 := { stood := { row := dirWidensUptoRow, standIns := [], harness := (true, "e27902b54334cb426d361be1ae8cc5752fe03aad8aa40bbe4178c554b15e70d3"), looks := true }, kinds := [], alts := [], laidByText := true, laidKinds := [.data, .data], laidTests := true, laidLooks := .later }
def DirWidensUptoCardSaid : Prop := Claim7.holds Tryd.pinned (.plain (OpenSpec.upto dirWidensSpec)) dirWidensUptoCard
end Rows
end Go.Proofs.YtiacmlcoadcefaaDoor
