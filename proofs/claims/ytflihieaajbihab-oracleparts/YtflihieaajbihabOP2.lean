/-
  The reference's parts of a hash.
-/
import Derived.Test.YtflihieaajbihabOP1
namespace Go.Proofs.Ytflihieaajbihab
open Go.RowKit
set_option linter.unusedVariables false
theorem hide {p : Prop} (h : p) : Hid p := h

set_option maxHeartbeats 400000 in
theorem rtag_any (h : Nat) (hh : h < 18446744073709551616) (w : World) :
    Calls Try.prog 5 #[.int .u64 (h : Int)] w fun e w' => e = .returned (.int .i64 ((h : Int) % 128)) ∧ w' = w := by
  go_enter Try.func5, Try.ntmps5
  go_wp2_with fail
  go_ret
  exact ⟨rfl, rfl⟩

set_option maxHeartbeats 400000 in
theorem rhome_any (h : Nat) (hh : h < 18446744073709551616) (w : World) :
    Calls Try.prog 7 #[.int .u64 (h : Int)] w fun e w' => e = .returned (.int .u64 ((h : Int) / 128)) ∧ w' = w := by
  go_enter Try.func7, Try.ntmps7
  go_wp2_with fail
  go_ret
  exact ⟨rfl, rfl⟩

set_option maxHeartbeats 400000 in
theorem rbit_out (h : Nat) (d : Int) (hd : d < 0 ∨ 63 < d) (w : World) :
    Calls Try.prog 11 #[.int .u64 (h : Int), .int .i64 d] w fun e w' => e = .returned (.int .i64 0) ∧ w' = w := by
  by_cases h1 : d < 0
  · clear hd
    go_enter Try.func11, Try.ntmps11
    go_wp2_with fail
    go_ret
    exact ⟨rfl, rfl⟩
  · have h6 : 63 < d := hd.resolve_left h1
    clear hd
    go_enter Try.func11, Try.ntmps11
    go_wp2_with fail
    go_ret
    exact ⟨rfl, rfl⟩

set_option maxHeartbeats 400000 in
theorem rbit_in (h d : Nat) (hh : h < 18446744073709551616) (h6 : d < 64) (w : World) :
    Calls Try.prog 11 #[.int .u64 (h : Int), .int .i64 (d : Int)] w fun e w' => e = .returned (.int .i64 ((bitN h (d : Int) : Nat) : Int)) ∧ w' = w := by
  have a1 : ¬ (d : Int) < 0 := by omega
  have a2 : ¬ 63 < (d : Int) := by omega
  go_enter Try.func11, Try.ntmps11
  go_wp2_with fail
  go_loop [0, 5] (fun v i => ∃ k : Nat, k ≤ d ∧ i = .int .i64 (k : Int) ∧ v = .int .u64 ((dropN h k : Nat) : Int)) (fun _ i => d - (intOf i).toNat)
  case atStart => exact ⟨0, Nat.zero_le _, rfl, by rw [dropN_zero hh]⟩
  case round =>
    obtain ⟨k, hk, rfl, rfl⟩ := hrel
    by_cases hlt : k < d
    · have hlt' : (k : Int) < (d : Int) := by omega
      have hs := hide (dropN_succ h k)
      have hX := dropN_lt h k
      generalize dropN h k = X at *
      go_wp2_with fail
      refine ⟨⟨k + 1, by omega, by simp, ?_⟩, by simp [intOf]; omega⟩
      rw [hs.out]
      simp
    · have hlt' : ¬ (k : Int) < (d : Int) := by omega
      have hkd : k = d := by omega
      subst hkd
      have hb : Hid ((dropN h k : Int) / 9223372036854775808 = ((bitN h (k : Int) : Nat) : Int)) := by
        have e := dropN_bit h k h6
        have hX := dropN_lt h k
        show _ = _
        omega
      have hX := dropN_lt h k
      have hq : IntKind.u64.wrap ((dropN h k : Int) / 9223372036854775808) = (dropN h k : Int) / 9223372036854775808 := by
        rw [IntKind.wrap_u64]
        omega
      generalize dropN h k = X at *
      go_wp2_with fail
      go_ret
      refine ⟨?_, rfl⟩
      rw [← hb.out]
      rfl

theorem rbit_any (h : Nat) (d : Int) (hh : h < 18446744073709551616) (w : World) :
    Calls Try.prog 11 #[.int .u64 (h : Int), .int .i64 d] w fun e w' => e = .returned (.int .i64 ((bitN h d : Nat) : Int)) ∧ w' = w := by
  by_cases hd : 0 ≤ d ∧ d < 64
  · obtain ⟨d1, d6⟩ := hd
    obtain ⟨D, rfl⟩ : ∃ D : Nat, d = (D : Int) := ⟨d.toNat, by omega⟩
    exact rbit_in h D hh (by omega) w
  · have e : bitN h d = 0 := by unfold bitN; rw [if_neg hd]
    rw [e]
    exact rbit_out h d (by omega) w

set_option maxHeartbeats 400000 in
theorem rtop_out (h : Nat) (d : Int) (hd : 6 < d) (w : World) :
    Calls Try.prog 9 #[.int .u64 (h : Int), .int .i64 d] w fun e w' => e = .returned (.int .i64 0) ∧ w' = w := by
  go_enter Try.func9, Try.ntmps9
  go_wp2_with fail
  go_ret
  exact ⟨rfl, rfl⟩

set_option maxHeartbeats 400000 in
theorem rtop_in (h : Nat) (d : Int) (hh : h < 18446744073709551616) (h6 : d ≤ 6) (w : World) :
    Calls Try.prog 9 #[.int .u64 (h : Int), .int .i64 d] w fun e w' => e = .returned (.int .i64 ((topN h d : Nat) : Int)) ∧ w' = w := by
  have a2 : ¬ 6 < d := by omega
  have hE : Hid (topN h d = headN h d.toNat) := by
    show _ = _
    by_cases h0 : 0 ≤ d
    · have := topN_head h d.toNat hh (by omega)
      rwa [show ((d.toNat : Nat) : Int) = d by omega] at this
    · rw [show d.toNat = 0 by omega, headN_zero hh]
      unfold topN
      rw [if_neg (by omega)]
  generalize topN h d = R at *
  go_enter Try.func9, Try.ntmps9
  go_wp2_with fail
  go_loop [5, 6] (fun v i => ∃ k : Nat, k ≤ d.toNat ∧ i = .int .i64 (k : Int) ∧ v = .int .i64 ((headN h k : Nat) : Int)) (fun _ i => d.toNat - (intOf i).toNat)
  case atStart => exact ⟨0, Nat.zero_le _, rfl, by rw [headN_zero hh]; rfl⟩
  case round =>
    obtain ⟨k, hk, rfl, rfl⟩ := hrel
    by_cases hlt : k < d.toNat
    · have hlt' : (k : Int) < d := by omega
      have hs := hide (headN_succ h k (by omega))
      have hX : headN h k < 64 := by
        have := headN_lt h k hh (by omega)
        have h2 : (2 : Nat) ^ k ≤ 2 ^ 6 := Nat.pow_le_pow_right (by decide) (by omega)
        omega
      have hB := bitN_lt h (k : Int)
      have hC := rbit_any h (k : Int) hh w
      generalize headN h k = X at *
      generalize bitN h (k : Int) = B at *
      go_wp2_with fail
      refine hC.mono ?_
      rintro e w' ⟨rfl, rfl⟩
      clear hC
      go_wp2_with fail
      refine ⟨⟨k + 1, by omega, by simp, ?_⟩, by simp [intOf]; omega⟩
      rw [hs.out]
      simp
    · have hlt' : ¬ (k : Int) < d := by omega
      have hkd : k = d.toNat := by omega
      go_wp2_with fail
      go_ret
      refine ⟨?_, rfl⟩
      rw [hE.out, ← hkd]
      rfl

theorem rtop_any (h : Nat) (d : Int) (hh : h < 18446744073709551616) (w : World) :
    Calls Try.prog 9 #[.int .u64 (h : Int), .int .i64 d] w fun e w' => e = .returned (.int .i64 ((topN h d : Nat) : Int)) ∧ w' = w := by
  by_cases hd : d ≤ 6
  · exact rtop_in h d hh hd w
  · have e : topN h d = 0 := by unfold topN; rw [if_neg (by omega)]
    rw [e]
    exact rtop_out h d (by omega) w
end Go.Proofs.Ytflihieaajbihab
