import Derived.Test.YtgbeacfiaegehaaYR
import Derived.Test.YtgbeacfiaegehaaYK
namespace Go.Proofs.Ytgbeacfiaegehaa
open Go.RowKit
set_option linter.unusedVariables false
namespace typedFloats
theorem last1 : strOf (be 8 (Fl.rise 13835058055282163712)) = ⟨#[63, 255, 255, 255, 255, 255, 255, 255]⟩ := by decide +kernel
set_option maxRecDepth 100000 in
set_option maxHeartbeats 4000000 in
theorem walk (b o len cap : Nat) (A : Nat → AskD) (w : World) (hlen : len ≤ 9223372036854775807) (hA : ∀ i, i < len → (A i).Ok ∧ AskO w b (o + i * 7) (A i)) :
    Calls Try.prog 5 #[.slice (some ⟨b, o, none⟩) len cap] w fun e w' => e = .returned (.bool true) ∧ Keeps w w' (fun _ => False) := by
  have hE := tyf_Pack 13835058055282163712 (by omega)
  rw [last1] at hE
  go_enter Try.func5, Try.ntmps5
  go_wp2_with fail
  go_loopw [3] (fun v wr => ∃ i : Nat, v = .int .i64 (i : Int) ∧ i ≤ len ∧ Keeps w wr (fun _ => False)) (fun v _ => len - (intOf v).toNat)
  case atStart => exact ⟨0, rfl, by omega, Keeps.refl _ _⟩
  case round =>
    obtain ⟨i, rfl, hi, K⟩ := hrel
    by_cases hlt : i < len
    · have hlt' : (i : Int) < (len : Int) := by omega
      obtain ⟨hok, hat⟩ := hA i hlt
      obtain ⟨c0, c1, c2, c3, c4, c5, c6⟩ := hat.keep K
      have hW := float_any (A i) hok
      generalize A i = a at *
      obtain ⟨ai, u, f, bb, m, s, r⟩ := a
      dsimp only [AskD.cells] at *
      go_wp2_with fail
      (with_reducible refine (hW _).mono ?_)
      rintro e w1 ⟨rfl, k1⟩
      have K1 := hide (K.trans k1 (fun _ _ x => x))
      clear c0 c1 c2 c3 c4 c5 c6 hat hok
      have m1 : Hid (len - (i + 1) < len - i) := by show len - (i + 1) < len - i; omega
      have e1 : wrap64 ((i : Int) + 1) = (i : Int) + 1 := by unfold wrap64; omega
      go_wp2_with fail
      go_roundw
      case rel => exact ⟨i + 1, by go_num, by omega, K1.out⟩
      case measure => simp [intOf]; exact m1.out
    · obtain rfl : i = len := by omega
      have hlt' : ¬ (i : Int) < (i : Int) := by omega
      go_wp2_with fail
      (with_reducible refine (hE _).mono ?_)
      rintro e w1 ⟨rfl, k1⟩
      go_wp2_with fail
      go_ret
      exact ⟨rfl, K.trans k1 (fun _ _ x => x)⟩
set_option maxRecDepth 100000 in
theorem walk0 (so : Option Addr) (cap : Nat) (w : World) : Calls Try.prog 5 #[.slice so 0 cap] w fun e w' => e = .returned (.bool true) ∧ Keeps w w' (fun _ => False) := by
  have hE := tyf_Pack 13835058055282163712 (by omega)
  rw [last1] at hE
  go_enter Try.func5, Try.ntmps5
  go_wp2_with fail
  go_loopw [3] (fun v wr => v = .int .i64 0 ∧ wr = w) (fun v _ => 0)
  case atStart => exact ⟨rfl, rfl⟩
  case round =>
    obtain ⟨rfl, rfl⟩ := hrel
    go_wp2_with fail
    (with_reducible refine (hE _).mono ?_)
    rintro e w1 ⟨rfl, k1⟩
    go_wp2_with fail
    go_ret
    exact ⟨rfl, k1⟩
end typedFloats
end Go.Proofs.Ytgbeacfiaegehaa
