/-
  typed: floats read; a Both of a truth and a whole number.
-/
import Derived.Test.YtgbeacfiaegehaaYA
import Derived.Test.YtgbeacfiaegehaaY8
namespace Go.Proofs.Ytgbeacfiaegehaa
open Go.RowKit
open Fl
set_option linter.unusedVariables false
/-- The bits of a float that is read. -/
def fU (l : List UInt8) : Nat := if l.length = 8 then (if 9223372036854775808 ≤ num8 l then num8 l - 9223372036854775808 else 18446744073709551615 - num8 l) else 0
theorem fU_lt (l : List UInt8) : fU l < 18446744073709551616 := by
  have := num8_lt l
  unfold fU
  repeat' split
  all_goals omega
theorem run_from (x : Nat) (w : World) : (callFunc 47 #[.int .u64 (x : Int)]).run Try.prog w = .ok (.value (.float .f64 x)) w := by
  rw [run_callFunc_extern Try.func47 (by kernel_rfl) (by kernel_rfl) (by kernel_rfl) (e := Extern.MathFloatBits.float64frombits) (by kernel_rfl)]
  rfl
set_option maxRecDepth 100000 in
theorem tyf_Unpack (s : ByteArray) (w : World) : Calls Try.prog 21 #[.agg #[], .string s] w fun e w' => e = .returned (.float .f64 (fU s.data.toList)) ∧ Keeps w w' (fun _ => False) := by
  by_cases h : s.size = 8
  · have h8 : s.data.toList.length = 8 := h
    have hb := numberOf_yes s h
    have hlt := num8_lt s.data.toList
    have e0 : bnA 0 s.data.toList = num8 s.data.toList := (num8_yes h).symm
    rw [e0] at hb
    by_cases hs : 9223372036854775808 ≤ num8 s.data.toList
    · have e1 : fU s.data.toList = num8 s.data.toList - 9223372036854775808 := by unfold fU; rw [if_pos h8, if_pos hs]
      have b1 := hi_bit hlt
      rw [if_pos hs] at b1
      obtain ⟨R, hR, hR2⟩ : ∃ R : Nat, fU s.data.toList = R ∧ (num8 s.data.toList : Int) - 9223372036854775808 = (R : Int) := ⟨_, rfl, by rw [e1]; omega⟩
      have hfr := run_from R
      rw [hR]
      clear e1 hR
      generalize num8 s.data.toList = B at *
      have w1 : IntKind.u64.wrap ((B : Int) - 9223372036854775808) = (R : Int) := by rw [IntKind.wrap_u64]; omega
      clear hR2
      go_enter Try.func21, Try.ntmps21
      go_wp2_with fail
      (with_reducible refine (hb _).mono ?_)
      rintro e w1 ⟨rfl, rfl⟩
      go_wp2_with fail
      go_ret
      exact ⟨rfl, (Keeps.refl _ _).alloc _⟩
    · have e1 : fU s.data.toList = 18446744073709551615 - num8 s.data.toList := by unfold fU; rw [if_pos h8, if_neg hs]
      have b1 := hi_bit hlt
      rw [if_neg hs] at b1
      obtain ⟨R, hR, hR2⟩ : ∃ R : Nat, fU s.data.toList = R ∧ (18446744073709551615 : Int) - (num8 s.data.toList : Int) = (R : Int) := ⟨_, rfl, by rw [e1]; omega⟩
      have hfr := run_from R
      have hx := (xor_all hlt).trans hR2
      rw [hR]
      clear e1 hR hR2
      generalize num8 s.data.toList = B at *
      clear h8
      go_enter Try.func21, Try.ntmps21
      go_wp2_with fail
      (with_reducible refine (hb _).mono ?_)
      rintro e w1 ⟨rfl, rfl⟩
      go_wp2_with fail
      go_ret
      exact ⟨rfl, (Keeps.refl _ _).alloc _⟩
  · have e1 : fU s.data.toList = 0 := if_neg h
    rw [e1]
    have hb := numberOf_no s h
    go_enter Try.func21, Try.ntmps21
    go_wp2_with fail
    (with_reducible refine (hb _).mono ?_)
    rintro e w1 ⟨rfl, rfl⟩
    go_wp2_with fail
    go_ret
    exact ⟨rfl, (Keeps.refl _ _).alloc _⟩
/-- What was laid is read: the same bits, but of a zero and of what is no number. -/
theorem fU_rise {f : Nat} (hf : f < 18446744073709551616) : fU (be 8 (rise f)) = if nan f = true then 9223372036854775807 else if f % 9223372036854775808 = 0 then 0 else f := by
  have e : fU (be 8 (rise f)) = if 9223372036854775808 ≤ rise f then rise f - 9223372036854775808 else 18446744073709551615 - rise f := by
    unfold fU
    rw [if_pos (be_length _ _), num_be8 (rise_lt f hf)]
  rw [e]
  clear e
  cases hn : nan f
  · have hn' := of_decide_eq_false hn
    have e2 : rise f = if f % 9223372036854775808 = 0 then 9223372036854775808 else if 9223372036854775808 ≤ f then 18446744073709551615 - f else f + 9223372036854775808 := by
      unfold rise
      rw [hn]
      rfl
    rw [e2]
    simp only [Bool.false_eq_true, if_false]
    by_cases hz : f % 9223372036854775808 = 0
    · simp only [if_pos hz]
      rw [if_pos (Nat.le_refl _), Nat.sub_self]
    · simp only [if_neg hz]
      by_cases hs : 9223372036854775808 ≤ f
      · simp only [if_pos hs]
        rw [if_neg (by omega)]
        omega
      · simp only [if_neg hs]
        rw [if_pos (by omega)]
        omega
  · rw [rise_nan hn, if_pos (show 9223372036854775808 ≤ 18446744073709551615 by omega), if_pos rfl]
end Go.Proofs.Ytgbeacfiaegehaa
