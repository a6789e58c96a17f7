/-
  No cell of these rows narrows 'for every input' (looked for: loops, veiled, ifaces, maps, wideKeys, modest, calm, conditions, laid).
  DERIVED. THE GIVEN ROWS OF THIS SEAT. 5 by the template 'for every input the law returns true; each argument reads behind the call as it read before'; 0 by the template 'total and deterministic' (their statements: YteglefnfnkgpcaaTotals.lean).
  GIVEN WITH THE SEED: the statements are not yours to turn. If you find one false, say at which input.
  Laid BY PROGRAM, IN A SANDBOX (cutbox-rows.mjs): the forced cells as the released guide's own fill.sh prints them over the translation cc60d369901ccb62… (all of the seat's roots in one cut). By AI agents, Wed Nov 11 2026. No macro, syntax, notation, axiom, sorry.
-/
import Derived.Test.YteglefnfnkgpcaaChecked
import GoSem.Claim
import GoSem.ClaimJoined
import GoSem.ClaimMapViews
import Derived.JoinedTies
import Derived.KernelRfl
namespace Go.Proofs.Yteglefnfnkgpcaa
/- THE CELL 'sum', in the pinned program and in every row, IS THE sha256 OF THE DUMP (.gsa) THAT YteglefnfnkgpcaaProg.lean LOADS. Nothing in Lean hashes anything: it is a label: what it is worth is what the hold of that sum in a sandbox is worth. -/
noncomputable def Try.pinned : Pinned := { name := "yteglefnfnkgpcaa", sum := "cc60d369901ccb629091f42ec88d03401a2d851bfb4d4c5cc1f7f887c13c58d7", checked := Try.checked }
namespace Rows
def none {H : Type} : Left H := { results := [], args := [] }

/-- 'larderlaw02.ArenaLists': WHATEVER THE INPUT: true; the input reads as it did. -/
def arenaListsSpec : ChangeSpec := { name := "arenaLists", fn := fun _ => fun
  | [d1, d2, d3] => { results := [.lit (.bool true)], args := [d1, d2, d3] }
  | _ => none }
def arenaListsRow : OpenClaim := { program := "yteglefnfnkgpcaa", sum := "cc60d369901ccb629091f42ec88d03401a2d851bfb4d4c5cc1f7f887c13c58d7", func := "larder/larderlaw02.ArenaLists", spec := "arenaLists", unfollowed := true, recurses := true, apart := false }
def ArenaListsSaid : Prop := arenaListsRow.holds Try.pinned (OpenSpec.ofChange arenaListsSpec)

/-- ITS FALSE NEIGHBOUR: 'it returns false'. Refute it at one input. -/
def arenaListsWrong : ChangeSpec := { name := "arenaLists", fn := fun _ => fun
  | [d1, d2, d3] => { results := [.lit (.bool false)], args := [d1, d2, d3] }
  | _ => none }
def ArenaListsWrongFalsely : Prop := arenaListsRow.holds Try.pinned (OpenSpec.ofChange arenaListsWrong)

/-- 'larderlaw02.ArenaRange': WHATEVER THE INPUT: true; the input reads as it did. -/
def arenaRangeSpec : ChangeSpec := { name := "arenaRange", fn := fun _ => fun
  | [d1, d2] => { results := [.lit (.bool true)], args := [d1, d2] }
  | _ => none }
def arenaRangeRow : OpenClaim := { program := "yteglefnfnkgpcaa", sum := "cc60d369901ccb629091f42ec88d03401a2d851bfb4d4c5cc1f7f887c13c58d7", func := "larder/larderlaw02.ArenaRange", spec := "arenaRange", unfollowed := true, recurses := true, apart := false }
def ArenaRangeSaid : Prop := arenaRangeRow.holds Try.pinned (OpenSpec.ofChange arenaRangeSpec)

/-- ITS FALSE NEIGHBOUR: 'it returns false'. Refute it at one input. -/
def arenaRangeWrong : ChangeSpec := { name := "arenaRange", fn := fun _ => fun
  | [d1, d2] => { results := [.lit (.bool false)], args := [d1, d2] }
  | _ => none }
def ArenaRangeWrongFalsely : Prop := arenaRangeRow.holds Try.pinned (OpenSpec.ofChange arenaRangeWrong)

/-- 'larderlaw02.ArenaTogether': WHATEVER THE INPUT: true; the input reads as it did. -/
def arenaTogetherSpec : ChangeSpec := { name := "arenaTogether", fn := fun _ => fun
  | [d] => { results := [.lit (.bool true)], args := [d] }
  | _ => none }
def arenaTogetherRow : OpenClaim := { program := "yteglefnfnkgpcaa", sum := "cc60d369901ccb629091f42ec88d03401a2d851bfb4d4c5cc1f7f887c13c58d7", func := "larder/larderlaw02.ArenaTogether", spec := "arenaTogether", unfollowed := true, recurses := true, apart := false }
def ArenaTogetherSaid : Prop := arenaTogetherRow.holds Try.pinned (OpenSpec.ofChange arenaTogetherSpec)

/-- ITS FALSE NEIGHBOUR: 'it returns false'. Refute it at one input. -/
def arenaTogetherWrong : ChangeSpec := { name := "arenaTogether", fn := fun _ => fun
  | [d] => { results := [.lit (.bool false)], args := [d] }
  | _ => none }
def ArenaTogetherWrongFalsely : Prop := arenaTogetherRow.holds Try.pinned (OpenSpec.ofChange arenaTogetherWrong)

/-- 'larderlaw02.ArenaAgain': WHATEVER THE INPUT: true; the input reads as it did. -/
def arenaAgainSpec : ChangeSpec := { name := "arenaAgain", fn := fun _ => fun
  | [d1, d2, d3] => { results := [.lit (.bool true)], args := [d1, d2, d3] }
  | _ => none }
def arenaAgainRow : OpenClaim := { program := "yteglefnfnkgpcaa", sum := "cc60d369901ccb629091f42ec88d03401a2d851bfb4d4c5cc1f7f887c13c58d7", func := "larder/larderlaw02.ArenaAgain", spec := "arenaAgain", unfollowed := true, recurses := true, apart := false }
def ArenaAgainSaid : Prop := arenaAgainRow.holds Try.pinned (OpenSpec.ofChange arenaAgainSpec)

/-- ITS FALSE NEIGHBOUR: 'it returns false'. Refute it at one input. -/
def arenaAgainWrong : ChangeSpec := { name := "arenaAgain", fn := fun _ => fun
  | [d1, d2, d3] => { results := [.lit (.bool false)], args := [d1, d2, d3] }
  | _ => none }
def ArenaAgainWrongFalsely : Prop := arenaAgainRow.holds Try.pinned (OpenSpec.ofChange arenaAgainWrong)

/-- 'larderlaw02.ArenaKeeps': WHATEVER THE INPUT: true; the input reads as it did. -/
def arenaKeepsSpec : ChangeSpec := { name := "arenaKeeps", fn := fun _ => fun
  | [d1, d2] => { results := [.lit (.bool true)], args := [d1, d2] }
  | _ => none }
def arenaKeepsRow : OpenClaim := { program := "yteglefnfnkgpcaa", sum := "cc60d369901ccb629091f42ec88d03401a2d851bfb4d4c5cc1f7f887c13c58d7", func := "larder/larderlaw02.ArenaKeeps", spec := "arenaKeeps", unfollowed := true, recurses := true, apart := false }
def ArenaKeepsSaid : Prop := arenaKeepsRow.holds Try.pinned (OpenSpec.ofChange arenaKeepsSpec)

/-- ITS FALSE NEIGHBOUR: 'it returns false'. Refute it at one input. -/
def arenaKeepsWrong : ChangeSpec := { name := "arenaKeeps", fn := fun _ => fun
  | [d1, d2] => { results := [.lit (.bool false)], args := [d1, d2] }
  | _ => none }
def ArenaKeepsWrongFalsely : Prop := arenaKeepsRow.holds Try.pinned (OpenSpec.ofChange arenaKeepsWrong)

/- THE SECOND FORM. 'bulk': how many values and letters a reading holds, each counted each time it is reached (what is shared counts as often as it is met; a slice's spare places count too). A statement '..UptoSaid' is the law's where the arguments, and the package variables that the reading takes, are together of bulk at most 1048576: NARROWER than '..Said'. Prove '..Said' where nothing that the law and all that it calls make is longer than what came in: it says more and counts as full. Else prove '..UptoSaid'. A law counts once. -/
mutual
def uptoBulk {H : Type} : DataW H → Nat
  | .lit (.string bytes) => bytes.length + 1
  | .lit _ => 1
  | .nil => 1
  | .ptr d => uptoBulk d + 1
  | .slice elems spare => uptoBulkAll elems + uptoBulkAll spare + 1
  | .agg parts => uptoBulkAll parts + 1
  | .iface _ d => uptoBulk d + 1
  | .map entries => uptoBulkEntries entries + 1
  | .held _ => 1
def uptoBulkAll {H : Type} : List (DataW H) → Nat
  | [] => 0
  | d :: r => uptoBulk d + uptoBulkAll r
def uptoBulkEntries {H : Type} : List (Lit × DataW H) → Nat
  | [] => 0
  | x :: r => uptoBulkEntry x + uptoBulkEntries r
def uptoBulkEntry {H : Type} : Lit × DataW H → Nat
  | (.string bytes, d) => bytes.length + uptoBulk d + 1
  | (_, d) => uptoBulk d + 1
 end
def uptoSmall : (H : Type) → List (DataW H) → Bool := fun _ ds => decide (uptoBulkAll ds ≤ 1048576)
def OpenSpec.upto (s : _root_.Go.ChangeSpec) : _root_.Go.OpenSpec := { _root_.Go.OpenSpec.ofChange s with cond := some uptoSmall }

/-- 'larderlaw02.ArenaLists', WHERE WHAT IT READS IS OF BULK AT MOST 1048576: true; the input reads as it did. -/
def arenaListsUptoRow : OpenClaim := { program := "yteglefnfnkgpcaa", sum := "cc60d369901ccb629091f42ec88d03401a2d851bfb4d4c5cc1f7f887c13c58d7", func := "larder/larderlaw02.ArenaLists", spec := "arenaLists", unfollowed := true, recurses := true, apart := false, narrowed := true }
def ArenaListsUptoSaid : Prop := arenaListsUptoRow.holds Try.pinned (OpenSpec.upto arenaListsSpec)

/-- 'larderlaw02.ArenaRange', WHERE WHAT IT READS IS OF BULK AT MOST 1048576: true; the input reads as it did. -/
def arenaRangeUptoRow : OpenClaim := { program := "yteglefnfnkgpcaa", sum := "cc60d369901ccb629091f42ec88d03401a2d851bfb4d4c5cc1f7f887c13c58d7", func := "larder/larderlaw02.ArenaRange", spec := "arenaRange", unfollowed := true, recurses := true, apart := false, narrowed := true }
def ArenaRangeUptoSaid : Prop := arenaRangeUptoRow.holds Try.pinned (OpenSpec.upto arenaRangeSpec)

/-- 'larderlaw02.ArenaTogether', WHERE WHAT IT READS IS OF BULK AT MOST 1048576: true; the input reads as it did. -/
def arenaTogetherUptoRow : OpenClaim := { program := "yteglefnfnkgpcaa", sum := "cc60d369901ccb629091f42ec88d03401a2d851bfb4d4c5cc1f7f887c13c58d7", func := "larder/larderlaw02.ArenaTogether", spec := "arenaTogether", unfollowed := true, recurses := true, apart := false, narrowed := true }
def ArenaTogetherUptoSaid : Prop := arenaTogetherUptoRow.holds Try.pinned (OpenSpec.upto arenaTogetherSpec)

/-- 'larderlaw02.ArenaAgain', WHERE WHAT IT READS IS OF BULK AT MOST 1048576: true; the input reads as it did. -/
def arenaAgainUptoRow : OpenClaim := { program := "yteglefnfnkgpcaa", sum := "cc60d369901ccb629091f42ec88d03401a2d851bfb4d4c5cc1f7f887c13c58d7", func := "larder/larderlaw02.ArenaAgain", spec := "arenaAgain", unfollowed := true, recurses := true, apart := false, narrowed := true }
def ArenaAgainUptoSaid : Prop := arenaAgainUptoRow.holds Try.pinned (OpenSpec.upto arenaAgainSpec)

/-- 'larderlaw02.ArenaKeeps', WHERE WHAT IT READS IS OF BULK AT MOST 1048576: true; the input reads as it did. -/
def arenaKeepsUptoRow : OpenClaim := { program := "yteglefnfnkgpcaa", sum := "cc60d369901ccb629091f42ec88d03401a2d851bfb4d4c5cc1f7f887c13c58d7", func := "larder/larderlaw02.ArenaKeeps", spec := "arenaKeeps", unfollowed := true, recurses := true, apart := false, narrowed := true }
def ArenaKeepsUptoSaid : Prop := arenaKeepsUptoRow.holds Try.pinned (OpenSpec.upto arenaKeepsSpec)

end Rows
end Go.Proofs.Yteglefnfnkgpcaa
