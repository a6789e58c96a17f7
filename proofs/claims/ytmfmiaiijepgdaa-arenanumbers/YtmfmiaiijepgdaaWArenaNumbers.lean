import Derived.Test.YtmfmiaiijepgdaaWArenaNumbers2
import Derived.OpenShut
namespace Go.Proofs.Ytmfmiaiijepgdaa
open Go.RowKit Go.Shelf
namespace arenaNumbers

theorem walk (a0 wd v u : Int) (_ : (Lit.int .i64 a0).wf = true) (_ : (Lit.int .i64 wd).wf = true) (hv : (Lit.int .u64 v).wf = true) (hu : (Lit.int .u8 u).wf = true) (w : World) :
    Calls Try.prog 6 #[.agg #[.int .i64 a0, .int .i64 wd, .int .u64 v, .int .u8 u]] w fun e w' => Post w e w' := by
  have hub : 0 ≤ u ∧ u ≤ 255 := by
    simp [Lit.wf, IntKind.min, IntKind.max, IntKind.signed, IntKind.bits] at hu
    omega
  have hvb : 0 ≤ v ∧ v < 18446744073709551616 := by
    simp [Lit.wf, IntKind.min, IntKind.max, IntKind.signed, IntKind.bits] at hv
    omega
  obtain ⟨u', rfl⟩ : ∃ u' : UInt8, u = (u'.toNat : Int) := ⟨UInt8.ofNat u.toNat, by rw [UInt8.toNat_ofNat_of_lt' (show u.toNat < 256 by omega)]; omega⟩
  obtain ⟨v', rfl⟩ := Int.eq_ofNat_of_zero_le hvb.1
  clear hv hu hub
  cases hwd : widthB wd
  · exact no_width a0 wd v' u' w hwd
  · rcases widthB_true hwd with rfl | rfl | rfl | rfl
    · by_cases h0 : a0 < 0
      · exact no_low1 a0 v' u' w h0
      · by_cases h1 : 15 < a0
        · exact no_high1 a0 v' u' w h1
        · obtain ⟨a, rfl⟩ := Int.eq_ofNat_of_zero_le (show 0 ≤ a0 by omega)
          exact yes1 a v' u' w (by omega) (by omega)
    · by_cases h0 : a0 < 0
      · exact no_low2 a0 v' u' w h0
      · by_cases h1 : 14 < a0
        · exact no_high2 a0 v' u' w h1
        · obtain ⟨a, rfl⟩ := Int.eq_ofNat_of_zero_le (show 0 ≤ a0 by omega)
          exact yes2 a v' u' w (by omega) (by omega)
    · by_cases h0 : a0 < 0
      · exact no_low4 a0 v' u' w h0
      · by_cases h1 : 12 < a0
        · exact no_high4 a0 v' u' w h1
        · obtain ⟨a, rfl⟩ := Int.eq_ofNat_of_zero_le (show 0 ≤ a0 by omega)
          exact yes4 a v' u' w (by omega) (by omega)
    · by_cases h0 : a0 < 0
      · exact no_low8 a0 v' u' w h0
      · by_cases h1 : 8 < a0
        · exact no_high8 a0 v' u' w h1
        · obtain ⟨a, rfl⟩ := Int.eq_ofNat_of_zero_le (show 0 ≤ a0 by omega)
          exact yes8 a v' u' w (by omega) (by omega)
end arenaNumbers
end Go.Proofs.Ytmfmiaiijepgdaa
