/-
  NARROWER THAN 'FOR EVERY INPUT', by the rows' own cells (each row's printed sentence says how): DirMakes: laid · DirPicks: laid · DirPlaces: laid · DirWidens: laid · DirRefused: laid · DirTables: laid.
  DERIVED. THE GIVEN ROWS OF THIS SEAT. 6 by the template 'for every input the law returns true; each argument reads behind the call as it read before'; 0 by the template 'total and deterministic' (their statements: YtkfkgkcecocbpaaDoorTotals.lean).
  GIVEN WITH THE SEED: the statements are not yours to turn. If you find one false, say at which input.
  Laid BY PROGRAM, IN A SANDBOX (cutbox-rows.mjs): the forced cells as the released guide's own fill.sh prints them over the translation a96b5ad911035c8b… (all of the seat's roots in one cut). By AI agents, Wed Nov 11 2026. No macro, syntax, notation, axiom, sorry.
-/
import Derived.Test.YtkfkgkcecocbpaaDoorChecked
import GoSem.Claim
import GoSem.ClaimJoined
import GoSem.ClaimMapViews
import Derived.JoinedTies
import Derived.KernelRfl
namespace Go.Proofs.YtkfkgkcecocbpaaDoor
/- THE CELL 'sum', in the pinned program and in every row, IS THE sha256 OF THE DUMP (.gsa) THAT YtkfkgkcecocbpaaDoorProg.lean LOADS. Nothing in Lean hashes anything: it is a label: what it is worth is what the hold of that sum in a sandbox is worth. -/
noncomputable def Tryd.pinned : Pinned := { name := "ytkfkgkcecocbpaadoor", sum := "a96b5ad911035c8b97c7b9136151592733d14ca3cb7ae2898b222e4f51c1ee86", checked := Tryd.checked }
namespace Rows
def none {H : Type} : Left H := { results := [], args := [] }

/- WHAT THE LISTED PACKAGE-LEVEL VARIABLES READ AS WHEN THE CALL BEGINS. Each datum BY PROGRAM (the guide's laid-datum.mjs) off the statement by which the dump's own 'gosem.cut.vars' lays the variable. In a bare row this is a premise. The card (YtkfkgkcecocbpaaDoorCards.lean) ties it to the program's text. -/
def laid_math_bits_deBruijn32tab {H : Type} : DataW H := .agg [.lit (.int .u8 0), .lit (.int .u8 1), .lit (.int .u8 28), .lit (.int .u8 2), .lit (.int .u8 29), .lit (.int .u8 14), .lit (.int .u8 24), .lit (.int .u8 3), .lit (.int .u8 30), .lit (.int .u8 22), .lit (.int .u8 20), .lit (.int .u8 15), .lit (.int .u8 25), .lit (.int .u8 17), .lit (.int .u8 4), .lit (.int .u8 8), .lit (.int .u8 31), .lit (.int .u8 27), .lit (.int .u8 13), .lit (.int .u8 23), .lit (.int .u8 21), .lit (.int .u8 19), .lit (.int .u8 16), .lit (.int .u8 7), .lit (.int .u8 26), .lit (.int .u8 12), .lit (.int .u8 18), .lit (.int .u8 6), .lit (.int .u8 11), .lit (.int .u8 5), .lit (.int .u8 10), .lit (.int .u8 9)]
def laid_math_bits_deBruijn64tab {H : Type} : DataW H := .agg [.lit (.int .u8 0), .lit (.int .u8 1), .lit (.int .u8 56), .lit (.int .u8 2), .lit (.int .u8 57), .lit (.int .u8 49), .lit (.int .u8 28), .lit (.int .u8 3), .lit (.int .u8 61), .lit (.int .u8 58), .lit (.int .u8 42), .lit (.int .u8 50), .lit (.int .u8 38), .lit (.int .u8 29), .lit (.int .u8 17), .lit (.int .u8 4), .lit (.int .u8 62), .lit (.int .u8 47), .lit (.int .u8 59), .lit (.int .u8 36), .lit (.int .u8 45), .lit (.int .u8 43), .lit (.int .u8 51), .lit (.int .u8 22), .lit (.int .u8 53), .lit (.int .u8 39), .lit (.int .u8 33), .lit (.int .u8 30), .lit (.int .u8 24), .lit (.int .u8 18), .lit (.int .u8 12), .lit (.int .u8 5), .lit (.int .u8 63), .lit (.int .u8 55), .lit (.int .u8 48), .lit (.int .u8 27), .lit (.int .u8 60), .lit (.int .u8 41), .lit (.int .u8 37), .lit (.int .u8 16), .lit (.int .u8 46), .lit (.int .u8 35), .lit (.int .u8 44), .lit (.int .u8 21), .lit (.int .u8 52), .lit (.int .u8 32), .lit (.int .u8 23), .lit (.int .u8 11), .lit (.int .u8 54), .lit (.int .u8 26), .lit (.int .u8 40), .lit (.int .u8 15), .lit (.int .u8 34), .lit (.int .u8 20), .lit (.int .u8 31), .lit (.int .u8 10), .lit (.int .u8 25), .lit (.int .u8 14), .lit (.int .u8 19), .lit (.int .u8 9), .lit (.int .u8 13), .lit (.int .u8 8), .lit (.int .u8 7), .lit (.int .u8 6)]

/-- 'larderlaw10.DirMakes': WHATEVER THE INPUT: true; the input reads as it did. -/
def dirMakesSpec : ChangeSpec := { name := "dirMakes", fn := fun _ => fun
  | [d1, d2, d3] => { results := [.lit (.bool true)], args := [d1, d2, d3] }
  | _ => none }
def dirMakesRow : OpenClaim := { program := "ytkfkgkcecocbpaadoor", sum := "a96b5ad911035c8b97c7b9136151592733d14ca3cb7ae2898b222e4f51c1ee86", func := "larder/larderlaw10.DirMakes", spec := "dirMakes", unfollowed := true, recurses := true, named := ["math/bits.deBruijn32tab", "math/bits.deBruijn64tab"], apart := false, laid := [("math/bits.deBruijn32tab", laid_math_bits_deBruijn32tab), ("math/bits.deBruijn64tab", laid_math_bits_deBruijn64tab)] }
def DirMakesSaid : Prop := dirMakesRow.holds Tryd.pinned (OpenSpec.ofChange dirMakesSpec)

/-- ITS FALSE NEIGHBOUR: 'it returns false'. Refute it at one input. -/
def dirMakesWrong : ChangeSpec := { name := "dirMakes", fn := fun _ => fun
  | [d1, d2, d3] => { results := [.lit (.bool false)], args := [d1, d2, d3] }
  | _ => none }
def DirMakesWrongFalsely : Prop := dirMakesRow.holds Tryd.pinned (OpenSpec.ofChange dirMakesWrong)

/-- 'larderlaw10.DirPicks': WHATEVER THE INPUT: true; the input reads as it did. -/
def dirPicksSpec : ChangeSpec := { name := "dirPicks", fn := fun _ => fun
  | [d1, d2] => { results := [.lit (.bool true)], args := [d1, d2] }
  | _ => none }
def dirPicksRow : OpenClaim := { program := "ytkfkgkcecocbpaadoor", sum := "a96b5ad911035c8b97c7b9136151592733d14ca3cb7ae2898b222e4f51c1ee86", func := "larder/larderlaw10.DirPicks", spec := "dirPicks", unfollowed := true, recurses := true, named := ["math/bits.deBruijn32tab", "math/bits.deBruijn64tab"], apart := false, laid := [("math/bits.deBruijn32tab", laid_math_bits_deBruijn32tab), ("math/bits.deBruijn64tab", laid_math_bits_deBruijn64tab)] }
def DirPicksSaid : Prop := dirPicksRow.holds Tryd.pinned (OpenSpec.ofChange dirPicksSpec)

/-- ITS FALSE NEIGHBOUR: 'it returns false'. Refute it at one input. -/
def dirPicksWrong : ChangeSpec := { name := "dirPicks", fn := fun _ => fun
  | [d1, d2] => { results := [.lit (.bool false)], args := [d1, d2] }
  | _ => none }
def DirPicksWrongFalsely : Prop := dirPicksRow.holds Tryd.pinned (OpenSpec.ofChange dirPicksWrong)

/-- 'larderlaw10.DirPlaces': WHATEVER THE INPUT: true; the input reads as it did. -/
def dirPlacesSpec : ChangeSpec := { name := "dirPlaces", fn := fun _ => fun
  | [d1, d2, d3, d4, d5] => { results := [.lit (.bool true)], args := [d1, d2, d3, d4, d5] }
  | _ => none }
def dirPlacesRow : OpenClaim := { program := "ytkfkgkcecocbpaadoor", sum := "a96b5ad911035c8b97c7b9136151592733d14ca3cb7ae2898b222e4f51c1ee86", func := "larder/larderlaw10.DirPlaces", spec := "dirPlaces", unfollowed := true, recurses := true, named := ["math/bits.deBruijn32tab", "math/bits.deBruijn64tab"], apart := false, laid := [("math/bits.deBruijn32tab", laid_math_bits_deBruijn32tab), ("math/bits.deBruijn64tab", laid_math_bits_deBruijn64tab)] }
def DirPlacesSaid : Prop := dirPlacesRow.holds Tryd.pinned (OpenSpec.ofChange dirPlacesSpec)

/-- ITS FALSE NEIGHBOUR: 'it returns false'. Refute it at one input. -/
def dirPlacesWrong : ChangeSpec := { name := "dirPlaces", fn := fun _ => fun
  | [d1, d2, d3, d4, d5] => { results := [.lit (.bool false)], args := [d1, d2, d3, d4, d5] }
  | _ => none }
def DirPlacesWrongFalsely : Prop := dirPlacesRow.holds Tryd.pinned (OpenSpec.ofChange dirPlacesWrong)

/-- 'larderlaw10.DirWidens': WHATEVER THE INPUT: true; the input reads as it did. -/
def dirWidensSpec : ChangeSpec := { name := "dirWidens", fn := fun _ => fun
  | [d1, d2, d3] => { results := [.lit (.bool true)], args := [d1, d2, d3] }
  | _ => none }
def dirWidensRow : OpenClaim := { program := "ytkfkgkcecocbpaadoor", sum := "a96b5ad911035c8b97c7b9136151592733d14ca3cb7ae2898b222e4f51c1ee86", func := "larder/larderlaw10.DirWidens", spec := "dirWidens", unfollowed := true, recurses := true, named := ["math/bits.deBruijn32tab", "math/bits.deBruijn64tab"], apart := false, laid := [("math/bits.deBruijn32tab", laid_math_bits_deBruijn32tab), ("math/bits.deBruijn64tab", laid_math_bits_deBruijn64tab)] }
def DirWidensSaid : Prop := dirWidensRow.holds Tryd.pinned (OpenSpec.ofChange dirWidensSpec)

/-- ITS FALSE NEIGHBOUR: 'it returns false'. Refute it at one input. -/
def dirWidensWrong : ChangeSpec := { name := "dirWidens", fn := fun _ => fun
  | [d1, d2, d3] => { results := [.lit (.bool false)], args := [d1, d2, d3] }
  | _ => none }
def DirWidensWrongFalsely : Prop := dirWidensRow.holds Tryd.pinned (OpenSpec.ofChange dirWidensWrong)

/-- 'larderlaw10.DirRefused': WHATEVER THE INPUT: true; the input reads as it did. -/
def dirRefusedSpec : ChangeSpec := { name := "dirRefused", fn := fun _ => fun
  | [d1, d2, d3] => { results := [.lit (.bool true)], args := [d1, d2, d3] }
  | _ => none }
def dirRefusedRow : OpenClaim := { program := "ytkfkgkcecocbpaadoor", sum := "a96b5ad911035c8b97c7b9136151592733d14ca3cb7ae2898b222e4f51c1ee86", func := "larder/larderlaw10.DirRefused", spec := "dirRefused", unfollowed := true, recurses := true, named := ["math/bits.deBruijn32tab", "math/bits.deBruijn64tab"], apart := false, laid := [("math/bits.deBruijn32tab", laid_math_bits_deBruijn32tab), ("math/bits.deBruijn64tab", laid_math_bits_deBruijn64tab)] }
def DirRefusedSaid : Prop := dirRefusedRow.holds Tryd.pinned (OpenSpec.ofChange dirRefusedSpec)

/-- ITS FALSE NEIGHBOUR: 'it returns false'. Refute it at one input. -/
def dirRefusedWrong : ChangeSpec := { name := "dirRefused", fn := fun _ => fun
  | [d1, d2, d3] => { results := [.lit (.bool false)], args := [d1, d2, d3] }
  | _ => none }
def DirRefusedWrongFalsely : Prop := dirRefusedRow.holds Tryd.pinned (OpenSpec.ofChange dirRefusedWrong)

/-- 'larderlaw10.DirTables': WHATEVER THE INPUT: true; the input reads as it did. -/
def dirTablesSpec : ChangeSpec := { name := "dirTables", fn := fun _ => fun
  | [d1, d2] => { results := [.lit (.bool true)], args := [d1, d2] }
  | _ => none }
def dirTablesRow : OpenClaim := { program := "ytkfkgkcecocbpaadoor", sum := "a96b5ad911035c8b97c7b9136151592733d14ca3cb7ae2898b222e4f51c1ee86", func := "larder/larderlaw10.DirTables", spec := "dirTables", unfollowed := true, recurses := true, named := ["math/bits.deBruijn32tab", "math/bits.deBruijn64tab"], apart := false, laid := [("math/bits.deBruijn32tab", laid_math_bits_deBruijn32tab), ("math/bits.deBruijn64tab", laid_math_bits_deBruijn64tab)] }
def DirTablesSaid : Prop := dirTablesRow.holds Tryd.pinned (OpenSpec.ofChange dirTablesSpec)

/-- ITS FALSE NEIGHBOUR: 'it returns false'. Refute it at one input. -/
def dirTablesWrong : ChangeSpec := { name := "dirTables", fn := fun _ => fun
  | [d1, d2] => { results := [.lit (.bool false)], args := [d1, d2] }
  | _ => none }
def DirTablesWrongFalsely : Prop := dirTablesRow.holds Tryd.pinned (OpenSpec.ofChange dirTablesWrong)

/- THE SECOND FORM. 'bulk': how many values and letters a reading holds, each counted each time it is reached (what is shared counts as often as it is met; a slice's spare places count too). A statement '..UptoSaid' is the law's where the arguments, and the package variables that the reading takes, are together of bulk at most 1048576: NARROWER than '..Said'. Prove '..Said' where nothing that the law and all that it calls make is longer than what came in: it says more and counts as full. Else prove '..UptoSaid'. A law counts once. -/
mutual
def uptoBulk {H : Type} : DataW H → Nat
  | .lit (.string bytes) => bytes.length + 1
  | .lit _ => 1
  | .nil => 1
  | .ptr d => uptoBulk d + 1
  | .slice elems spare => uptoBulkAll elems + uptoBulkAll spare + 1
  | .agg parts => uptoBulkAll parts + 1
  | .iface _ d => uptoBulk d + 1
  | .map entries => uptoBulkEntries entries + 1
  | .held _ => 1
def uptoBulkAll {H : Type} : List (DataW H) → Nat
  | [] => 0
  | d :: r => uptoBulk d + uptoBulkAll r
def uptoBulkEntries {H : Type} : List (Lit × DataW H) → Nat
  | [] => 0
  | x :: r => uptoBulkEntry x + uptoBulkEntries r
def uptoBulkEntry {H : Type} : Lit × DataW H → Nat
  | (.string bytes, d) => bytes.length + uptoBulk d + 1
  | (_, d) => uptoBulk d + 1
 end
def uptoSmall : (H : Type) → List (DataW H) → Bool := fun _ ds => decide (uptoBulkAll ds ≤ 1048576)
def OpenSpec.upto (s : _root_.Go.ChangeSpec) : _root_.Go.OpenSpec := { _root_.Go.OpenSpec.ofChange s with cond := some uptoSmall }

/-- 'larderlaw10.DirMakes', WHERE WHAT IT READS IS OF BULK AT MOST 1048576: true; the input reads as it did. -/
def dirMakesUptoRow : OpenClaim := { program := "ytkfkgkcecocbpaadoor", sum := "a96b5ad911035c8b97c7b9136151592733d14ca3cb7ae2898b222e4f51c1ee86", func := "larder/larderlaw10.DirMakes", spec := "dirMakes", unfollowed := true, recurses := true, named := ["math/bits.deBruijn32tab", "math/bits.deBruijn64tab"], apart := false, laid := [("math/bits.deBruijn32tab", laid_math_bits_deBruijn32tab), ("math/bits.deBruijn64tab", laid_math_bits_deBruijn64tab)], narrowed := true }
def DirMakesUptoSaid : Prop := dirMakesUptoRow.holds Tryd.pinned (OpenSpec.upto dirMakesSpec)

/-- 'larderlaw10.DirPicks', WHERE WHAT IT READS IS OF BULK AT MOST 1048576: true; the input reads as it did. -/
def dirPicksUptoRow : OpenClaim := { program := "ytkfkgkcecocbpaadoor", sum := "a96b5ad911035c8b97c7b9136151592733d14ca3cb7ae2898b222e4f51c1ee86", func := "larder/larderlaw10.DirPicks", spec := "dirPicks", unfollowed := true, recurses := true, named := ["math/bits.deBruijn32tab", "math/bits.deBruijn64tab"], apart := false, laid := [("math/bits.deBruijn32tab", laid_math_bits_deBruijn32tab), ("math/bits.deBruijn64tab", laid_math_bits_deBruijn64tab)], narrowed := true }
def DirPicksUptoSaid : Prop := dirPicksUptoRow.holds Tryd.pinned (OpenSpec.upto dirPicksSpec)

/-- 'larderlaw10.DirPlaces', WHERE WHAT IT READS IS OF BULK AT MOST 1048576: true; the input reads as it did. -/
def dirPlacesUptoRow : OpenClaim := { program := "ytkfkgkcecocbpaadoor", sum := "a96b5ad911035c8b97c7b9136151592733d14ca3cb7ae2898b222e4f51c1ee86", func := "larder/larderlaw10.DirPlaces", spec := "dirPlaces", unfollowed := true, recurses := true, named := ["math/bits.deBruijn32tab", "math/bits.deBruijn64tab"], apart := false, laid := [("math/bits.deBruijn32tab", laid_math_bits_deBruijn32tab), ("math/bits.deBruijn64tab", laid_math_bits_deBruijn64tab)], narrowed := true }
def DirPlacesUptoSaid : Prop := dirPlacesUptoRow.holds Tryd.pinned (OpenSpec.upto dirPlacesSpec)

/-- 'larderlaw10.DirWidens', WHERE WHAT IT READS IS OF BULK AT MOST 1048576: true; the input reads as it did. -/
def dirWidensUptoRow : OpenClaim := { program := "ytkfkgkcecocbpaadoor", sum := "a96b5ad911035c8b97c7b9136151592733d14ca3cb7ae2898b222e4f51c1ee86", func := "larder/larderlaw10.DirWidens", spec := "dirWidens", unfollowed := true, recurses := true, named := ["math/bits.deBruijn32tab", "math/bits.deBruijn64tab"], apart := false, laid := [("math/bits.deBruijn32tab", laid_math_bits_deBruijn32tab), ("math/bits.deBruijn64tab", laid_math_bits_deBruijn64tab)], narrowed := true }
def DirWidensUptoSaid : Prop := dirWidensUptoRow.holds Tryd.pinned (OpenSpec.upto dirWidensSpec)

/-- 'larderlaw10.DirRefused', WHERE WHAT IT READS IS OF BULK AT MOST 1048576: true; the input reads as it did. -/
def dirRefusedUptoRow : OpenClaim := { program := "ytkfkgkcecocbpaadoor", sum := "a96b5ad911035c8b97c7b9136151592733d14ca3cb7ae2898b222e4f51c1ee86", func := "larder/larderlaw10.DirRefused", spec := "dirRefused", unfollowed := true, recurses := true, named := ["math/bits.deBruijn32tab", "math/bits.deBruijn64tab"], apart := false, laid := [("math/bits.deBruijn32tab", laid_math_bits_deBruijn32tab), ("math/bits.deBruijn64tab", laid_math_bits_deBruijn64tab)], narrowed := true }
def DirRefusedUptoSaid : Prop := dirRefusedUptoRow.holds Tryd.pinned (OpenSpec.upto dirRefusedSpec)

/-- 'larderlaw10.DirTables', WHERE WHAT IT READS IS OF BULK AT MOST 1048576: true; the input reads as it did. -/
def dirTablesUptoRow : OpenClaim := { program := "ytkfkgkcecocbpaadoor", sum := "a96b5ad911035c8b97c7b9136151592733d14ca3cb7ae2898b222e4f51c1ee86", func := "larder/larderlaw10.DirTables", spec := "dirTables", unfollowed := true, recurses := true, named := ["math/bits.deBruijn32tab", "math/bits.deBruijn64tab"], apart := false, laid := [("math/bits.deBruijn32tab", laid_math_bits_deBruijn32tab), ("math/bits.deBruijn64tab", laid_math_bits_deBruijn64tab)], narrowed := true }
def DirTablesUptoSaid : Prop := dirTablesUptoRow.holds Tryd.pinned (OpenSpec.upto dirTablesSpec)

end Rows
end Go.Proofs.YtkfkgkcecocbpaaDoor
