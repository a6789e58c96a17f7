/-
  No cell of these rows narrows 'for every input' (looked for: loops, veiled, ifaces, maps, wideKeys, modest, calm, conditions, laid).
  DERIVED. THE GIVEN ROWS OF THIS SEAT. 6 by the template 'for every input the law returns true; each argument reads behind the call as it read before'; 0 by the template 'total and deterministic' (their statements: YtmfmiaiijepgdaaTotals.lean).
  GIVEN WITH THE SEED: the statements are not yours to turn. If you find one false, say at which input.
  Laid BY PROGRAM, IN A SANDBOX (cutbox-rows.mjs): the forced cells as the released guide's own fill.sh prints them over the translation a25155bc9b80905c… (all of the seat's roots in one cut). By AI agents, Wed Nov 11 2026. No macro, syntax, notation, axiom, sorry.
-/
import Derived.Test.YtmfmiaiijepgdaaChecked
import GoSem.Claim
import GoSem.ClaimJoined
import GoSem.ClaimMapViews
import Derived.JoinedTies
import Derived.KernelRfl
namespace Go.Proofs.Ytmfmiaiijepgdaa
/- THE CELL 'sum', in the pinned program and in every row, IS THE sha256 OF THE DUMP (.gsa) THAT YtmfmiaiijepgdaaProg.lean LOADS. Nothing in Lean hashes anything: it is a label: what it is worth is what the hold of that sum in a sandbox is worth. -/
noncomputable def Try.pinned : Pinned := { name := "ytmfmiaiijepgdaa", sum := "a25155bc9b80905c9587fd271065321b885cc7ad1387a92fffa8b8bd19db44e5", checked := Try.checked }
namespace Rows
def none {H : Type} : Left H := { results := [], args := [] }

/-- 'larderlaw02.ArenaClasses': WHATEVER THE INPUT: true; the input reads as it did. -/
def arenaClassesSpec : ChangeSpec := { name := "arenaClasses", fn := fun _ => fun
  | [d] => { results := [.lit (.bool true)], args := [d] }
  | _ => none }
def arenaClassesRow : OpenClaim := { program := "ytmfmiaiijepgdaa", sum := "a25155bc9b80905c9587fd271065321b885cc7ad1387a92fffa8b8bd19db44e5", func := "larder/larderlaw02.ArenaClasses", spec := "arenaClasses", apart := false }
def ArenaClassesSaid : Prop := arenaClassesRow.holds Try.pinned (OpenSpec.ofChange arenaClassesSpec)

/-- ITS FALSE NEIGHBOUR: 'it returns false'. Refute it at one input. -/
def arenaClassesWrong : ChangeSpec := { name := "arenaClasses", fn := fun _ => fun
  | [d] => { results := [.lit (.bool false)], args := [d] }
  | _ => none }
def ArenaClassesWrongFalsely : Prop := arenaClassesRow.holds Try.pinned (OpenSpec.ofChange arenaClassesWrong)

/-- 'larderlaw02.ArenaLowest': WHATEVER THE INPUT: true; the input reads as it did. -/
def arenaLowestSpec : ChangeSpec := { name := "arenaLowest", fn := fun _ => fun
  | [d] => { results := [.lit (.bool true)], args := [d] }
  | _ => none }
def arenaLowestRow : OpenClaim := { program := "ytmfmiaiijepgdaa", sum := "a25155bc9b80905c9587fd271065321b885cc7ad1387a92fffa8b8bd19db44e5", func := "larder/larderlaw02.ArenaLowest", spec := "arenaLowest", unfollowed := true, recurses := true, apart := false }
def ArenaLowestSaid : Prop := arenaLowestRow.holds Try.pinned (OpenSpec.ofChange arenaLowestSpec)

/-- ITS FALSE NEIGHBOUR: 'it returns false'. Refute it at one input. -/
def arenaLowestWrong : ChangeSpec := { name := "arenaLowest", fn := fun _ => fun
  | [d] => { results := [.lit (.bool false)], args := [d] }
  | _ => none }
def ArenaLowestWrongFalsely : Prop := arenaLowestRow.holds Try.pinned (OpenSpec.ofChange arenaLowestWrong)

/-- 'larderlaw02.ArenaMoves': WHATEVER THE INPUT: true; the input reads as it did. -/
def arenaMovesSpec : ChangeSpec := { name := "arenaMoves", fn := fun _ => fun
  | [d] => { results := [.lit (.bool true)], args := [d] }
  | _ => none }
def arenaMovesRow : OpenClaim := { program := "ytmfmiaiijepgdaa", sum := "a25155bc9b80905c9587fd271065321b885cc7ad1387a92fffa8b8bd19db44e5", func := "larder/larderlaw02.ArenaMoves", spec := "arenaMoves", inPlace := ["internal/abi.NoEscape", "internal/bytealg.MakeNoZero"], unfollowed := true, recurses := true, apart := false }
def ArenaMovesSaid : Prop := arenaMovesRow.holds Try.pinned (OpenSpec.ofChange arenaMovesSpec)

/-- ITS FALSE NEIGHBOUR: 'it returns false'. Refute it at one input. -/
def arenaMovesWrong : ChangeSpec := { name := "arenaMoves", fn := fun _ => fun
  | [d] => { results := [.lit (.bool false)], args := [d] }
  | _ => none }
def ArenaMovesWrongFalsely : Prop := arenaMovesRow.holds Try.pinned (OpenSpec.ofChange arenaMovesWrong)

/-- 'larderlaw02.ArenaNumbers': WHATEVER THE INPUT: true; the input reads as it did. -/
def arenaNumbersSpec : ChangeSpec := { name := "arenaNumbers", fn := fun _ => fun
  | [d] => { results := [.lit (.bool true)], args := [d] }
  | _ => none }
def arenaNumbersRow : OpenClaim := { program := "ytmfmiaiijepgdaa", sum := "a25155bc9b80905c9587fd271065321b885cc7ad1387a92fffa8b8bd19db44e5", func := "larder/larderlaw02.ArenaNumbers", spec := "arenaNumbers", unfollowed := true, recurses := true, apart := false }
def ArenaNumbersSaid : Prop := arenaNumbersRow.holds Try.pinned (OpenSpec.ofChange arenaNumbersSpec)

/-- ITS FALSE NEIGHBOUR: 'it returns false'. Refute it at one input. -/
def arenaNumbersWrong : ChangeSpec := { name := "arenaNumbers", fn := fun _ => fun
  | [d] => { results := [.lit (.bool false)], args := [d] }
  | _ => none }
def ArenaNumbersWrongFalsely : Prop := arenaNumbersRow.holds Try.pinned (OpenSpec.ofChange arenaNumbersWrong)

/-- 'larderlaw02.ArenaLists': WHATEVER THE INPUT: true; the input reads as it did. -/
def arenaListsSpec : ChangeSpec := { name := "arenaLists", fn := fun _ => fun
  | [d1, d2, d3] => { results := [.lit (.bool true)], args := [d1, d2, d3] }
  | _ => none }
def arenaListsRow : OpenClaim := { program := "ytmfmiaiijepgdaa", sum := "a25155bc9b80905c9587fd271065321b885cc7ad1387a92fffa8b8bd19db44e5", func := "larder/larderlaw02.ArenaLists", spec := "arenaLists", unfollowed := true, recurses := true, apart := false }
def ArenaListsSaid : Prop := arenaListsRow.holds Try.pinned (OpenSpec.ofChange arenaListsSpec)

/-- ITS FALSE NEIGHBOUR: 'it returns false'. Refute it at one input. -/
def arenaListsWrong : ChangeSpec := { name := "arenaLists", fn := fun _ => fun
  | [d1, d2, d3] => { results := [.lit (.bool false)], args := [d1, d2, d3] }
  | _ => none }
def ArenaListsWrongFalsely : Prop := arenaListsRow.holds Try.pinned (OpenSpec.ofChange arenaListsWrong)

/-- 'larderlaw02.ArenaInside': WHATEVER THE INPUT: true; the input reads as it did. -/
def arenaInsideSpec : ChangeSpec := { name := "arenaInside", fn := fun _ => fun
  | [d] => { results := [.lit (.bool true)], args := [d] }
  | _ => none }
def arenaInsideRow : OpenClaim := { program := "ytmfmiaiijepgdaa", sum := "a25155bc9b80905c9587fd271065321b885cc7ad1387a92fffa8b8bd19db44e5", func := "larder/larderlaw02.ArenaInside", spec := "arenaInside", inPlace := ["internal/abi.NoEscape", "internal/bytealg.MakeNoZero"], unfollowed := true, recurses := true, apart := false }
def ArenaInsideSaid : Prop := arenaInsideRow.holds Try.pinned (OpenSpec.ofChange arenaInsideSpec)

/-- ITS FALSE NEIGHBOUR: 'it returns false'. Refute it at one input. -/
def arenaInsideWrong : ChangeSpec := { name := "arenaInside", fn := fun _ => fun
  | [d] => { results := [.lit (.bool false)], args := [d] }
  | _ => none }
def ArenaInsideWrongFalsely : Prop := arenaInsideRow.holds Try.pinned (OpenSpec.ofChange arenaInsideWrong)

/- THE SECOND FORM. 'bulk': how many values and letters a reading holds, each counted each time it is reached (what is shared counts as often as it is met; a slice's spare places count too). A statement '..UptoSaid' is the law's where the arguments, and the package variables that the reading takes, are together of bulk at most 1048576: NARROWER than '..Said'. Prove '..Said' where nothing that the law and all that it calls make is longer than what came in: it says more and counts as full. Else prove '..UptoSaid'. A law counts once. -/
mutual
def uptoBulk {H : Type} : DataW H → Nat
  | .lit (.string bytes) => bytes.length + 1
  | .lit _ => 1
  | .nil => 1
  | .ptr d => uptoBulk d + 1
  | .slice elems spare => uptoBulkAll elems + uptoBulkAll spare + 1
  | .agg parts => uptoBulkAll parts + 1
  | .iface _ d => uptoBulk d + 1
  | .map entries => uptoBulkEntries entries + 1
  | .held _ => 1
def uptoBulkAll {H : Type} : List (DataW H) → Nat
  | [] => 0
  | d :: r => uptoBulk d + uptoBulkAll r
def uptoBulkEntries {H : Type} : List (Lit × DataW H) → Nat
  | [] => 0
  | x :: r => uptoBulkEntry x + uptoBulkEntries r
def uptoBulkEntry {H : Type} : Lit × DataW H → Nat
  | (.string bytes, d) => bytes.length + uptoBulk d + 1
  | (_, d) => uptoBulk d + 1
 end
def uptoSmall : (H : Type) → List (DataW H) → Bool := fun _ ds => decide (uptoBulkAll ds ≤ 1048576)
def OpenSpec.upto (s : _root_.Go.ChangeSpec) : _root_.Go.OpenSpec := { _root_.Go.OpenSpec.ofChange s with cond := some uptoSmall }

/-- 'larderlaw02.ArenaClasses', WHERE WHAT IT READS IS OF BULK AT MOST 1048576: true; the input reads as it did. -/
def arenaClassesUptoRow : OpenClaim := { program := "ytmfmiaiijepgdaa", sum := "a25155bc9b80905c9587fd271065321b885cc7ad1387a92fffa8b8bd19db44e5", func := "larder/larderlaw02.ArenaClasses", spec := "arenaClasses", apart := false, narrowed := true }
def ArenaClassesUptoSaid : Prop := arenaClassesUptoRow.holds Try.pinned (OpenSpec.upto arenaClassesSpec)

/-- 'larderlaw02.ArenaLowest', WHERE WHAT IT READS IS OF BULK AT MOST 1048576: true; the input reads as it did. -/
def arenaLowestUptoRow : OpenClaim := { program := "ytmfmiaiijepgdaa", sum := "a25155bc9b80905c9587fd271065321b885cc7ad1387a92fffa8b8bd19db44e5", func := "larder/larderlaw02.ArenaLowest", spec := "arenaLowest", unfollowed := true, recurses := true, apart := false, narrowed := true }
def ArenaLowestUptoSaid : Prop := arenaLowestUptoRow.holds Try.pinned (OpenSpec.upto arenaLowestSpec)

/-- 'larderlaw02.ArenaMoves', WHERE WHAT IT READS IS OF BULK AT MOST 1048576: true; the input reads as it did. -/
def arenaMovesUptoRow : OpenClaim := { program := "ytmfmiaiijepgdaa", sum := "a25155bc9b80905c9587fd271065321b885cc7ad1387a92fffa8b8bd19db44e5", func := "larder/larderlaw02.ArenaMoves", spec := "arenaMoves", inPlace := ["internal/abi.NoEscape", "internal/bytealg.MakeNoZero"], unfollowed := true, recurses := true, apart := false, narrowed := true }
def ArenaMovesUptoSaid : Prop := arenaMovesUptoRow.holds Try.pinned (OpenSpec.upto arenaMovesSpec)

/-- 'larderlaw02.ArenaNumbers', WHERE WHAT IT READS IS OF BULK AT MOST 1048576: true; the input reads as it did. -/
def arenaNumbersUptoRow : OpenClaim := { program := "ytmfmiaiijepgdaa", sum := "a25155bc9b80905c9587fd271065321b885cc7ad1387a92fffa8b8bd19db44e5", func := "larder/larderlaw02.ArenaNumbers", spec := "arenaNumbers", unfollowed := true, recurses := true, apart := false, narrowed := true }
def ArenaNumbersUptoSaid : Prop := arenaNumbersUptoRow.holds Try.pinned (OpenSpec.upto arenaNumbersSpec)

/-- 'larderlaw02.ArenaLists', WHERE WHAT IT READS IS OF BULK AT MOST 1048576: true; the input reads as it did. -/
def arenaListsUptoRow : OpenClaim := { program := "ytmfmiaiijepgdaa", sum := "a25155bc9b80905c9587fd271065321b885cc7ad1387a92fffa8b8bd19db44e5", func := "larder/larderlaw02.ArenaLists", spec := "arenaLists", unfollowed := true, recurses := true, apart := false, narrowed := true }
def ArenaListsUptoSaid : Prop := arenaListsUptoRow.holds Try.pinned (OpenSpec.upto arenaListsSpec)

/-- 'larderlaw02.ArenaInside', WHERE WHAT IT READS IS OF BULK AT MOST 1048576: true; the input reads as it did. -/
def arenaInsideUptoRow : OpenClaim := { program := "ytmfmiaiijepgdaa", sum := "a25155bc9b80905c9587fd271065321b885cc7ad1387a92fffa8b8bd19db44e5", func := "larder/larderlaw02.ArenaInside", spec := "arenaInside", inPlace := ["internal/abi.NoEscape", "internal/bytealg.MakeNoZero"], unfollowed := true, recurses := true, apart := false, narrowed := true }
def ArenaInsideUptoSaid : Prop := arenaInsideUptoRow.holds Try.pinned (OpenSpec.upto arenaInsideSpec)

end Rows
end Go.Proofs.Ytmfmiaiijepgdaa
