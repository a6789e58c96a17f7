/-
  typed: TypedRound's walk. (genYR.py)
-/
import Derived.Test.YtgbeacfiaegehaaWTypedRound1
import Derived.Test.YtgbeacfiaegehaaWTypedRound2
import Derived.Test.YtgbeacfiaegehaaWTypedRound3
import Derived.Test.YtgbeacfiaegehaaWTypedRound4
namespace Go.Proofs.Ytgbeacfiaegehaa
open Go.RowKit
namespace typedRound
theorem walk (p : PairD) (hp : p.Ok) (m : Int) (hm : I64 m) (w : World) : Calls Try.prog 6 #[.agg p.cells, .int .i64 m] w fun e w' => e = .returned (.bool true) ∧ Keeps w w' (fun _ => False) := by
  by_cases m0 : m < 0
  · exact walk_neg p hp m (Or.inl (by simp [inR]; omega)) m0 w
  · by_cases m2 : 127 < m
    · exact walk_big p hp m (Or.inl (by simp [inR]; omega)) m0 m2 w
    · by_cases m4 : m < (p.s.size : Int)
      · exact walk_long p hp m (Or.inr m4) m0 m2 m4 w
      · obtain ⟨M, rfl⟩ : ∃ M : Nat, m = (M : Int) := ⟨m.toNat, by omega⟩
        exact walk_yes p hp M (by omega) (by omega) w
end typedRound
end Go.Proofs.Ytgbeacfiaegehaa
