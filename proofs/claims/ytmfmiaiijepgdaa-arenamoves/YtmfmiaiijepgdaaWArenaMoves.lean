import Derived.Test.YtmfmiaiijepgdaaWArenaMoves3
import Derived.OpenShut
namespace Go.Proofs.Ytmfmiaiijepgdaa
open Go.RowKit Go.Shelf
namespace arenaMoves

set_option maxHeartbeats 1000000 in
set_option maxRecDepth 100000 in
theorem no_len (s : ByteArray) (dst src n u : Int) (w : World) (hs : s.size ≤ maxLen) (h : s.size < 1 ∨ 4096 < s.size) :
    Calls Try.prog 5 #[.agg #[.string s, .int .i64 dst, .int .i64 src, .int .i64 n, .int .u8 u]] w fun e w' => Post w e w' := by
  unfold maxLen at hs
  have K0 := hide (fun nq => Keeps.drewN ((Keeps.refl w (fun _ => False)).alloc (.cells #[.string s, .int .i64 dst, .int .i64 src, .int .i64 n, .int .u8 u] 39)) nq)
  rcases h with h | h
  · have g1 : (s.size : Int) < 1 := by omega
    go_enter Try.func5, Try.ntmps5
    go_wp2_with fail
    go_quiet (fail)
    go_wp2_with fail
    go_ret
    exact ⟨rfl, (K0.out _).below (Nat.le_refl _) (fun _ _ e => e)⟩
  · have g1 : ¬ (s.size : Int) < 1 := by omega
    have g2 : (4096 : Int) < (s.size : Int) := by omega
    go_enter Try.func5, Try.ntmps5
    go_wp2_with fail
    go_quiet (fail)
    go_wp2_with fail
    go_ret
    exact ⟨rfl, (K0.out _).below (Nat.le_refl _) (fun _ _ e => e)⟩

theorem walk (s : ByteArray) (dst src n u : Int) (hs : s.size ≤ maxLen) (hn : (Lit.int .i64 n).wf = true) (hu : (Lit.int .u8 u).wf = true) (w : World) :
    Calls Try.prog 5 #[.agg #[.string s, .int .i64 dst, .int .i64 src, .int .i64 n, .int .u8 u]] w fun e w' => Post w e w' := by
  have hub : 0 ≤ u ∧ u ≤ 255 := by
    simp [Lit.wf, IntKind.min, IntKind.max, IntKind.signed, IntKind.bits] at hu
    omega
  have hnb := (fitsI_bounds hn).2
  obtain ⟨u', rfl⟩ : ∃ u' : UInt8, u = (u'.toNat : Int) := ⟨UInt8.ofNat u.toNat, by rw [UInt8.toNat_ofNat_of_lt' (show u.toNat < 256 by omega)]; omega⟩
  by_cases h : s.size < 1 ∨ 4096 < s.size
  · exact no_len s dst src n _ w hs h
  · have h1 : 1 ≤ s.size := by omega
    have h2 : s.size ≤ 4096 := by omega
    by_cases a1 : dst < 0
    · exact out_a s dst src n u' w h1 h2 a1
    · by_cases a2 : src < 0
      · exact out_b s dst src n u' w h1 h2 a2
      · by_cases a3 : n < 0
        · exact out_c s dst src n u' w h1 h2 a3
        · by_cases a4 : (s.size : Int) - n < dst
          · exact out_d s dst src n u' w h1 h2 (by omega) hnb a4
          · by_cases a5 : (s.size : Int) - n < src
            · exact out_e s dst src n u' w h1 h2 (by omega) hnb a5
            · obtain ⟨x, rfl⟩ := Int.eq_ofNat_of_zero_le (show 0 ≤ dst by omega)
              obtain ⟨y, rfl⟩ := Int.eq_ofNat_of_zero_le (show 0 ≤ src by omega)
              obtain ⟨k, rfl⟩ := Int.eq_ofNat_of_zero_le (show 0 ≤ n by omega)
              exact yes s x y k u' w h1 h2 (by omega) (by omega)
end arenaMoves
end Go.Proofs.Ytmfmiaiijepgdaa
