import Derived.Test.YtmfmiaiijepgdaaWalks4
namespace Go.Proofs.Ytmfmiaiijepgdaa
open Go.RowKit

/-- The byte at a place; -1: there is none. -/
def atVal (bs : List UInt8) (p : Int) : Int := if 0 ≤ p then (match bs[p.toNat]? with | some x => (x.toNat : Int) | none => -1) else -1
theorem atVal_in (bs : List UInt8) (q : Nat) (h : q < bs.length) : atVal bs (q : Int) = (bs[q].toNat : Int) := by
  simp [atVal, h]
theorem atVal_out (bs : List UInt8) (p : Int) (h : p < 0 ∨ (bs.length : Int) ≤ p) : atVal bs p = -1 := by
  unfold atVal
  by_cases h0 : 0 ≤ p
  · rw [if_pos h0, List.getElem?_eq_none (by omega)]
  · rw [if_neg h0]

def AtPost (w : World) (v : Int) (e : Ending) (w' : World) : Prop := e = .returned (.int .i64 v) ∧ Keeps w w' (fun _ => False)
end Go.Proofs.Ytmfmiaiijepgdaa
