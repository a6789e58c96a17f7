/-
  script: word64Text; numbers as texts.
-/
import Derived.Test.YtpkbjjbbdhehdaaDoorSF2
namespace Go.Proofs.YtpkbjjbbdhehdaaDoor
open Go.RowKit
set_option linter.unusedVariables false
theorem Deb.keeps {w W : World} (h : Deb w) (k : Keeps w W (fun _ => False)) : Deb W := keeps_cell k h
set_option maxRecDepth 100000 in
set_option maxHeartbeats 2000000 in
theorem ifuint_any (u : Nat) (hu : u < 18446744073709551616) (w : World) (hD : Deb w) : Calls Tryd.prog 35 #[.int .u64 (u : Int), .int .i64 16] w fun e w' => e = .returned (.string (strOf (hexW u))) ∧ Keeps w w' (fun _ => False) := by
  have h := fbits_any u hu w hD
  go_enter Tryd.func35, Tryd.ntmps35
  go_wp2_with fail
  (with_reducible refine h.mono ?_)
  rintro e w1 ⟨rfl, k1⟩
  go_wp2_with fail
  go_ret
  exact ⟨rfl, k1⟩
set_option maxRecDepth 100000 in
set_option maxHeartbeats 2000000 in
theorem fuint_any (u : Nat) (hu : u < 18446744073709551616) (w : World) (hD : Deb w) : Calls Tryd.prog 32 #[.int .u64 (u : Int), .int .i64 16] w fun e w' => e = .returned (.string (strOf (hexW u))) ∧ Keeps w w' (fun _ => False) := by
  have h := ifuint_any u hu w hD
  go_enter Tryd.func32, Tryd.ntmps32
  go_wp2_with fail
  (with_reducible refine h.mono ?_)
  rintro e w1 ⟨rfl, k1⟩
  go_wp2_with fail
  go_ret
  exact ⟨rfl, k1⟩
set_option maxRecDepth 100000 in
set_option maxHeartbeats 2000000 in
theorem wtext_any (u : Nat) (hu : u < 18446744073709551616) (w : World) (hD : Deb w) : Calls Tryd.prog 26 #[.int .u64 (u : Int)] w fun e w' => e = .returned (.string (wordD u)) ∧ Keeps w w' (fun _ => False) := by
  have h := fuint_any u hu w hD
  have hX : ⟨#[48, 120]⟩ ++ strOf (hexW u) = wordD u := strOf_append [48, 120] (hexW u)
  have hlen := hexW_len 15 u (by omega)
  have hsz : (strOf (hexW u)).size = (hexW u).length := strOf_size _
  rw [← hX]
  obtain ⟨R, hR⟩ : ∃ R, strOf (hexW u) = R := ⟨_, rfl⟩
  rw [hR] at h hsz ⊢
  have hsum : 2 + R.size ≤ 9223372036854775807 := by omega
  clear hX hlen hsz hR
  go_enter Tryd.func26, Tryd.ntmps26
  go_wp2_with fail
  (with_reducible refine h.mono ?_)
  rintro e w1 ⟨rfl, k1⟩
  go_wp2_with fail
  go_ret
  exact ⟨rfl, k1⟩
end Go.Proofs.YtpkbjjbbdhehdaaDoor
