/-
  No cell of these rows narrows 'for every input' (looked for: loops, veiled, ifaces, maps, wideKeys, modest, calm, conditions, laid).
  DERIVED. THE GIVEN ROWS OF THIS SEAT. 3 by the template 'for every input the law returns true; each argument reads behind the call as it read before'; 0 by the template 'total and deterministic' (their statements: YtdlibnjgmdffnaaGreatTotals.lean).
  GIVEN WITH THE SEED: the statements are not yours to turn. If you find one false, say at which input.
  Laid BY PROGRAM, IN A SANDBOX (cutbox-rows.mjs): the forced cells as the released guide's own fill.sh prints them over the translation 240a0a1635d0f125… (all of the seat's roots in one cut). By AI agents, Wed Nov 11 2026. No macro, syntax, notation, axiom, sorry.
-/
import Derived.Test.YtdlibnjgmdffnaaGreatChecked
import GoSem.Claim
import GoSem.ClaimJoined
import GoSem.ClaimMapViews
import Derived.JoinedTies
import Derived.KernelRfl
namespace Go.Proofs.YtdlibnjgmdffnaaGreat
/- THE CELL 'sum', in the pinned program and in every row, IS THE sha256 OF THE DUMP (.gsa) THAT YtdlibnjgmdffnaaGreatProg.lean LOADS. Nothing in Lean hashes anything: it is a label: what it is worth is what the hold of that sum in a sandbox is worth. -/
noncomputable def Tryz.pinned : Pinned := { name := "ytdlibnjgmdffnaagreat", sum := "240a0a1635d0f125bcae67b279f121fde54a0a091df488725f291adc5623f78c", checked := Tryz.checked }
namespace Rows
def none {H : Type} : Left H := { results := [], args := [] }

/-- 'larderlaw02.ArenaExact': WHATEVER THE INPUT: true; the input reads as it did. -/
def arenaExactSpec : ChangeSpec := { name := "arenaExact", fn := fun _ => fun
  | [d1, d2] => { results := [.lit (.bool true)], args := [d1, d2] }
  | _ => none }
def arenaExactRow : OpenClaim := { program := "ytdlibnjgmdffnaagreat", sum := "240a0a1635d0f125bcae67b279f121fde54a0a091df488725f291adc5623f78c", func := "larder/larderlaw02.ArenaExact", spec := "arenaExact", inPlace := ["internal/abi.NoEscape", "internal/bytealg.MakeNoZero"], unfollowed := true, recurses := true, apart := false }
def ArenaExactSaid : Prop := arenaExactRow.holds Tryz.pinned (OpenSpec.ofChange arenaExactSpec)

/-- ITS FALSE NEIGHBOUR: 'it returns false'. Refute it at one input. -/
def arenaExactWrong : ChangeSpec := { name := "arenaExact", fn := fun _ => fun
  | [d1, d2] => { results := [.lit (.bool false)], args := [d1, d2] }
  | _ => none }
def ArenaExactWrongFalsely : Prop := arenaExactRow.holds Tryz.pinned (OpenSpec.ofChange arenaExactWrong)

/-- 'larderlaw02.ArenaTwo': WHATEVER THE INPUT: true; the input reads as it did. -/
def arenaTwoSpec : ChangeSpec := { name := "arenaTwo", fn := fun _ => fun
  | [d1, d2, d3] => { results := [.lit (.bool true)], args := [d1, d2, d3] }
  | _ => none }
def arenaTwoRow : OpenClaim := { program := "ytdlibnjgmdffnaagreat", sum := "240a0a1635d0f125bcae67b279f121fde54a0a091df488725f291adc5623f78c", func := "larder/larderlaw02.ArenaTwo", spec := "arenaTwo", inPlace := ["internal/abi.NoEscape", "internal/bytealg.MakeNoZero"], unfollowed := true, recurses := true, apart := false }
def ArenaTwoSaid : Prop := arenaTwoRow.holds Tryz.pinned (OpenSpec.ofChange arenaTwoSpec)

/-- ITS FALSE NEIGHBOUR: 'it returns false'. Refute it at one input. -/
def arenaTwoWrong : ChangeSpec := { name := "arenaTwo", fn := fun _ => fun
  | [d1, d2, d3] => { results := [.lit (.bool false)], args := [d1, d2, d3] }
  | _ => none }
def ArenaTwoWrongFalsely : Prop := arenaTwoRow.holds Tryz.pinned (OpenSpec.ofChange arenaTwoWrong)

/-- 'larderlaw02.ArenaRestores': WHATEVER THE INPUT: true; the input reads as it did. -/
def arenaRestoresSpec : ChangeSpec := { name := "arenaRestores", fn := fun _ => fun
  | [d1, d2] => { results := [.lit (.bool true)], args := [d1, d2] }
  | _ => none }
def arenaRestoresRow : OpenClaim := { program := "ytdlibnjgmdffnaagreat", sum := "240a0a1635d0f125bcae67b279f121fde54a0a091df488725f291adc5623f78c", func := "larder/larderlaw02.ArenaRestores", spec := "arenaRestores", inPlace := ["internal/abi.NoEscape", "internal/bytealg.MakeNoZero"], unfollowed := true, recurses := true, apart := false }
def ArenaRestoresSaid : Prop := arenaRestoresRow.holds Tryz.pinned (OpenSpec.ofChange arenaRestoresSpec)

/-- ITS FALSE NEIGHBOUR: 'it returns false'. Refute it at one input. -/
def arenaRestoresWrong : ChangeSpec := { name := "arenaRestores", fn := fun _ => fun
  | [d1, d2] => { results := [.lit (.bool false)], args := [d1, d2] }
  | _ => none }
def ArenaRestoresWrongFalsely : Prop := arenaRestoresRow.holds Tryz.pinned (OpenSpec.ofChange arenaRestoresWrong)

/- THE SECOND FORM. 'bulk': how many values and letters a reading holds, each counted each time it is reached (what is shared counts as often as it is met; a slice's spare places count too). A statement '..UptoSaid' is the law's where the arguments, and the package variables that the reading takes, are together of bulk at most 1048576: NARROWER than '..Said'. Prove '..Said' where nothing that the law and all that it calls make is longer than what came in: it says more and counts as full. Else prove '..UptoSaid'. A law counts once. -/
mutual
def uptoBulk {H : Type} : DataW H → Nat
  | .lit (.string bytes) => bytes.length + 1
  | .lit _ => 1
  | .nil => 1
  | .ptr d => uptoBulk d + 1
  | .slice elems spare => uptoBulkAll elems + uptoBulkAll spare + 1
  | .agg parts => uptoBulkAll parts + 1
  | .iface _ d => uptoBulk d + 1
  | .map entries => uptoBulkEntries entries + 1
  | .held _ => 1
def uptoBulkAll {H : Type} : List (DataW H) → Nat
  | [] => 0
  | d :: r => uptoBulk d + uptoBulkAll r
def uptoBulkEntries {H : Type} : List (Lit × DataW H) → Nat
  | [] => 0
  | x :: r => uptoBulkEntry x + uptoBulkEntries r
def uptoBulkEntry {H : Type} : Lit × DataW H → Nat
  | (.string bytes, d) => bytes.length + uptoBulk d + 1
  | (_, d) => uptoBulk d + 1
 end
def uptoSmall : (H : Type) → List (DataW H) → Bool := fun _ ds => decide (uptoBulkAll ds ≤ 1048576)
def OpenSpec.upto (s : _root_.Go.ChangeSpec) : _root_.Go.OpenSpec := { _root_.Go.OpenSpec.ofChange s with cond := some uptoSmall }

/-- 'larderlaw02.ArenaExact', WHERE WHAT IT READS IS OF BULK AT MOST 1048576: true; the input reads as it did. -/
def arenaExactUptoRow : OpenClaim := { program := "ytdlibnjgmdffnaagreat", sum := "240a0a1635d0f125bcae67b279f121fde54a0a091df488725f291adc5623f78c", func := "larder/larderlaw02.ArenaExact", spec := "arenaExact", inPlace := ["internal/abi.NoEscape", "internal/bytealg.MakeNoZero"], unfollowed := true, recurses := true, apart := false, narrowed := true }
def ArenaExactUptoSaid : Prop := arenaExactUptoRow.holds Tryz.pinned (OpenSpec.upto arenaExactSpec)

/-- 'larderlaw02.ArenaTwo', WHERE WHAT IT READS IS OF BULK AT MOST 1048576: true; the input reads as it did. -/
def arenaTwoUptoRow : OpenClaim := { program := "ytdlibnjgmdffnaagreat", sum := "240a0a1635d0f125bcae67b279f121fde54a0a091df488725f291adc5623f78c", func := "larder/larderlaw02.ArenaTwo", spec := "arenaTwo", inPlace := ["internal/abi.NoEscape", "internal/bytealg.MakeNoZero"], unfollowed := true, recurses := true, apart := false, narrowed := true }
def ArenaTwoUptoSaid : Prop := arenaTwoUptoRow.holds Tryz.pinned (OpenSpec.upto arenaTwoSpec)

/-- 'larderlaw02.ArenaRestores', WHERE WHAT IT READS IS OF BULK AT MOST 1048576: true; the input reads as it did. -/
def arenaRestoresUptoRow : OpenClaim := { program := "ytdlibnjgmdffnaagreat", sum := "240a0a1635d0f125bcae67b279f121fde54a0a091df488725f291adc5623f78c", func := "larder/larderlaw02.ArenaRestores", spec := "arenaRestores", inPlace := ["internal/abi.NoEscape", "internal/bytealg.MakeNoZero"], unfollowed := true, recurses := true, apart := false, narrowed := true }
def ArenaRestoresUptoSaid : Prop := arenaRestoresUptoRow.holds Tryz.pinned (OpenSpec.upto arenaRestoresSpec)

end Rows
end Go.Proofs.YtdlibnjgmdffnaaGreat
