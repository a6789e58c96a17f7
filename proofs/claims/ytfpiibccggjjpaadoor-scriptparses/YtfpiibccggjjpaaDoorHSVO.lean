/-
  script: ScriptParses' walk.
-/
import Derived.Test.YtfpiibccggjjpaaDoorHSVN
namespace Go.Proofs.YtfpiibccggjjpaaDoor
open Go.RowKit
set_option linter.unusedVariables false
theorem run_cut0 (w : World) (s : ByteArray) (k : Int) (h0 : 0 ≤ k) (h1 : k ≤ (s.size : Int)) : (Instr.slice 9 (.string s) none (some (.int .i64 k)) none).run Tryd.prog w = .ok (.string (s.extract 0 k.toNat)) w := by
  simp [Instr.slice, run_underlying Tryd.underlying9, Instr.sliceBounds, run_sliceBound, h0, h1]
theorem extract_le (s : ByteArray) (n : Nat) : (s.extract 0 n).size ≤ s.size := by
  have := ByteArray.size_extract (a := s) (b := 0) (e := n)
  omega
def pa5 : ByteArray := ⟨#[108, 105, 109, 105, 116, 32, 53, 10, 108, 101, 110, 32, 49]⟩
theorem IntsIn.len9 {w : World} {v : Value} {l : List Int} (h : IntsIn w v l) : ∃ so c, v = .slice so l.length c := by
  rcases h.form with ⟨rfl, rfl⟩ | ⟨a, c, rfl, -⟩
  · exact ⟨none, 0, rfl⟩
  · exact ⟨_, c, rfl⟩

set_option maxRecDepth 100000 in
set_option maxHeartbeats 8000000 in
theorem parses_walk (HP : RPar) (s : ByteArray) (v : Value) (l : List Int) (hl : l.length ≤ 17592186044000) (w : World) (hs : s.size ≤ 9223372036854775807) (hv : IntsIn w v l) (hR : RowsF w) (he : ErrW w) : Calls Tryd.prog 5 #[.string s, v] w fun e w' => e = .returned (.bool true) ∧ Keeps w w' (fun _ => False) := by
  have HRd := hide (fun (t : ByteArray) (hz : t.size ≤ 9223372036854775807) (W : World) (k : Keeps w W (fun _ => False)) => reads_any HP t hz W (hR.keeps k) (he.keeps k))
  have h1 := HRd.out s hs w (Keeps.refl _ _)
  have Hs := hide hs
  have HV := hide hv
  obtain ⟨so, co, rfl⟩ := hv.len9
  have Hl := hide hl
  clear hR he HP hs hv hl
  go_enter Tryd.func5, Tryd.ntmps5
  go_wp2_with fail
  (with_reducible refine h1.mono ?_)
  rintro e w1 ⟨rfl, k1⟩
  have K1 := hide k1
  have h2 := HRd.out pa5 (by decide) w1 k1
  unfold pa5 at h2
  clear h1 k1
  go_wp2_with fail
  (with_reducible refine h2.mono ?_)
  rintro e w2 ⟨rfl, k2⟩
  have K2 := hide (K1.out.trans k2 (fun _ _ e => e))
  clear h2 k2 K1
  go_wp2_with fail
  go_loopw [16] (fun v16 wr => ∃ i : Nat, v16 = .int .i64 (i : Int) ∧ i ≤ l.length ∧ Keeps w wr (fun _ => False)) (fun v16 _ => l.length - (intOf v16).toNat)
  case atStart => exact ⟨0, rfl, Nat.zero_le _, K2.out⟩
  case round =>
    obtain ⟨i, rfl, hi, K⟩ := hrel
    by_cases hlt : i < l.length
    · have hlt' : (i : Int) < (l.length : Int) := by omega
      have h0' : (0 : Int) ≤ (i : Int) := by omega
      have hin := HV.out.keeps K
      rcases hin.form with ⟨-, hn⟩ | ⟨a, c, e, hcell⟩
      · rw [hn] at hlt
        exact absurd hlt (Nat.not_lt_zero _)
      · injection e with e1 _ e3
        subst e1 e3
        have q1 := hcell i hlt
        obtain ⟨k, hk⟩ : ∃ k, l[i] = k := ⟨_, rfl⟩
        rw [hk] at q1
        have Hms : Hid (l.length - (i + 1) < l.length - i) := by show l.length - (i + 1) < l.length - i; omega
        have Hi : Hid (i + 1 ≤ l.length) := hlt
        have hw1 := hide (show wrap64 ((i : Int) + 1) = (i : Int) + 1 ∧ IntKind.i64.wrap ((i : Int) + 1) = (i : Int) + 1 from by
          have := Hl.out
          constructor
          · unfold wrap64; omega
          · rw [IntKind.wrap_i64]; omega)
        have HK := hide K
        clear K hi hin hcell hk
        by_cases hk0 : 0 ≤ k
        · by_cases hk1 : k ≤ (s.size : Int)
          · have hcut := fun W => run_cut0 W s k hk0 hk1
            have hc := HRd.out (s.extract 0 k.toNat) (Nat.le_trans (extract_le s _) Hs.out) wr HK.out
            generalize s.extract 0 k.toNat = t at *
            go_wp2_with fail
            (with_reducible refine hc.mono ?_)
            rintro e w3 ⟨rfl, k3⟩
            have K3 := hide (HK.out.trans k3 (fun _ _ e => e))
            clear hc k3 hcut
            obtain ⟨a6, a7⟩ := hw1.out
            go_wp2_with fail
            go_roundw
            case rel => exact ⟨i + 1, by go_num, Hi.out, K3.out⟩
            case measure => simp [intOf]; exact Hms.out
          · obtain ⟨a6, a7⟩ := hw1.out
            go_wp2_with fail
            go_roundw
            case rel => exact ⟨i + 1, by go_num, Hi.out, HK.out⟩
            case measure => simp [intOf]; exact Hms.out
        · obtain ⟨a6, a7⟩ := hw1.out
          go_wp2_with fail
          go_roundw
          case rel => exact ⟨i + 1, by go_num, Hi.out, HK.out⟩
          case measure => simp [intOf]; exact Hms.out
    · obtain rfl : i = l.length := by omega
      have hlt' : ¬ (l.length : Int) < (l.length : Int) := by omega
      have HK := hide K
      clear K
      go_wp2_with fail
      go_ret
      exact ⟨rfl, HK.out⟩
end Go.Proofs.YtfpiibccggjjpaaDoor
