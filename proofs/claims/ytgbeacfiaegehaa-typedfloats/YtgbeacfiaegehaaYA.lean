/-
  typed: floats laid.
-/
import Derived.Test.YtgbeacfiaegehaaY2
import Derived.Test.YtgbeacfiaegehaaFD1
import Derived.Test.YtgbeacfiaegehaaY3
import Derived.Laws.Cover2
import Derived.Laws.Externs
import Derived.WalkLawsBesides
namespace Go.Proofs.Ytgbeacfiaegehaa
open Go.RowKit
open Fl
set_option linter.unusedVariables false
theorem run_bits (x : Nat) (w : World) : (callFunc 61 #[.float .f64 x]).run Try.prog w = .ok (.value (.int .u64 (x : Int))) w := by
  rw [run_callFunc_extern Try.func61 (by kernel_rfl) (by kernel_rfl) (by kernel_rfl) (e := Extern.MathFloatBits.float64bits) (by kernel_rfl)]
  rfl
theorem nan_facts {x : Nat} (hx : x < 18446744073709551616) : (FloatKind.f64.format.order x x != some .eq) = nan x ∧ (FloatKind.f64.format.order x x == some .eq) = !nan x := by
  have h : (FloatKind.f64.format.order x x == some .eq) = !nan x := eq_self hx
  refine ⟨?_, h⟩
  rw [bne, h, Bool.not_not]
theorem zero_fact {x : Nat} (hx : x < 18446744073709551616) : (FloatKind.f64.format.order x 0 == some .eq) = decide (x % 9223372036854775808 = 0) := by
  have h : (FloatKind.f64.format.order x 0 == some .eq) = (!nan x && !nan 0 && decide (rise x = rise 0)) := eq_rise hx (by omega)
  rw [h, show nan 0 = false by decide, show rise 0 = 9223372036854775808 by decide]
  by_cases hz : x % 9223372036854775808 = 0
  · have n0 : nan x = false := by unfold nan; rw [hz]; decide
    have : rise x = 9223372036854775808 := by unfold rise; rw [n0, if_neg (by decide), if_pos hz]
    rw [n0, this, decide_eq_true hz]
    decide
  · rw [decide_eq_false hz]
    cases n0 : nan x
    · have hn := of_decide_eq_false n0
      have : ¬ rise x = 9223372036854775808 := by
        unfold rise
        rw [n0, if_neg (by decide), if_neg hz]
        split <;> omega
      rw [decide_eq_false this]
      rfl
    · rfl
theorem and_hi (x : Nat) (hx : x < 18446744073709551616) : x &&& 9223372036854775808 = if 9223372036854775808 ≤ x then 9223372036854775808 else 0 := by
  apply Nat.eq_of_testBit_eq
  intro i
  rw [Nat.testBit_and, show (9223372036854775808 : Nat) = 2 ^ 63 from rfl, Nat.testBit_two_pow]
  by_cases hi : 63 = i
  · subst hi
    rw [decide_eq_true rfl, Bool.and_true, Nat.testBit_eq_decide_div_mod_eq]
    by_cases h : 2 ^ 63 ≤ x
    · rw [if_pos h, Nat.testBit_two_pow, decide_eq_true rfl, decide_eq_true_eq]
      omega
    · rw [if_neg h, Nat.zero_testBit, decide_eq_false_iff_not]
      omega
  · rw [decide_eq_false hi, Bool.and_false]
    split
    · rw [Nat.testBit_two_pow, decide_eq_false hi]
    · rw [Nat.zero_testBit]
theorem hi_bit {x : Nat} (hx : x < 18446744073709551616) : bits BinOp.and IntKind.u64 (x : Int) 9223372036854775808 = if 9223372036854775808 ≤ x then 9223372036854775808 else 0 := by
  have e := u64_and_nat x 9223372036854775808 hx (by decide)
  rw [show ((9223372036854775808 : Nat) : Int) = 9223372036854775808 from rfl] at e
  rw [e, and_hi x hx]
  split <;> rfl
theorem xor_all {x : Nat} (hx : x < 18446744073709551616) : bits BinOp.xor IntKind.u64 IntKind.u64.max (x : Int) = 18446744073709551615 - (x : Int) := by
  have e := u64_xor_nat 18446744073709551615 x (by decide) hx
  rw [show IntKind.u64.max = ((18446744073709551615 : Nat) : Int) from rfl, e]
  have h : 18446744073709551615 ^^^ x = 18446744073709551615 - x := by
    apply Nat.eq_of_testBit_eq
    intro i
    rw [Nat.testBit_xor, show 18446744073709551615 - x = 2 ^ 64 - (x + 1) by omega, Nat.testBit_two_pow_sub_succ hx, show (18446744073709551615 : Nat) = 2 ^ 64 - 1 from rfl, Nat.testBit_two_pow_sub_one]
    by_cases hi : i < 64
    · rw [decide_eq_true hi]
      cases x.testBit i <;> rfl
    · rw [decide_eq_false hi, Nat.testBit_lt_two_pow (show x < 2 ^ i from Nat.lt_of_lt_of_le hx (Nat.pow_le_pow_right (show 0 < 2 by decide) (show 64 ≤ i by omega)))]
      rfl
  rw [h]
  omega
set_option maxRecDepth 100000 in
theorem risingBits_any (x : Nat) (hx : x < 18446744073709551616) (w : World) : Calls Try.prog 31 #[.float .f64 x] w fun e w' => e = .returned (.int .u64 (rise x : Int)) ∧ w' = w := by
  obtain ⟨n1, -⟩ := nan_facts hx
  have z1 := zero_fact hx
  have b1 := hi_bit hx
  cases hn : nan x
  · rw [hn] at n1
    by_cases hz : x % 9223372036854775808 = 0
    · have e : rise x = 9223372036854775808 := by unfold rise; rw [hn, if_neg (by decide), if_pos hz]
      rw [decide_eq_true hz] at z1
      rw [e]
      clear b1 hz e
      go_enter Try.func31, Try.ntmps31
      go_wp2_with fail
      go_ret
      exact ⟨rfl, rfl⟩
    · rw [decide_eq_false hz] at z1
      have hr := run_bits x
      by_cases hs : 9223372036854775808 ≤ x
      · have e : rise x = 18446744073709551615 - x := by unfold rise; rw [hn, if_neg (by decide), if_neg hz, if_pos hs]
        rw [if_pos hs] at b1
        obtain ⟨R, hR, hR2⟩ : ∃ R : Nat, rise x = R ∧ (18446744073709551615 : Int) - (x : Int) = (R : Int) := ⟨_, rfl, by rw [e]; omega⟩
        rw [hR]
        clear hz e hR
        go_enter Try.func31, Try.ntmps31
        have hx2 := hide (xor_all hx)
        go_wp2_with fail
        go_ret
        exact ⟨by rw [← hR2, ← hx2.out]; rfl, rfl⟩
      · have e : rise x = x + 9223372036854775808 := by unfold rise; rw [hn, if_neg (by decide), if_neg hz, if_neg hs]
        rw [if_neg hs] at b1
        have hs' : x < 9223372036854775808 := by omega
        rw [e]
        clear hz e
        go_enter Try.func31, Try.ntmps31
        go_wp2_with fail
        go_ret
        exact ⟨rfl, rfl⟩
  · rw [hn] at n1
    have e := rise_nan hn
    rw [e]
    clear b1 z1 e
    go_enter Try.func31, Try.ntmps31
    go_wp2_with fail
    go_ret
    exact ⟨rfl, rfl⟩
theorem rise_lt (x : Nat) (hx : x < 18446744073709551616) : rise x < 18446744073709551616 := by
  cases hn : nan x
  · exact Nat.lt_trans (rise_num hn) (by omega)
  · rw [rise_nan hn]; omega
theorem tyf_Pack (x : Nat) (hx : x < 18446744073709551616) (w : World) : Calls Try.prog 10 #[.agg #[], .float .f64 x] w fun e w' => e = .returned (.tuple #[.string (strOf (be 8 (rise x))), .bool true]) ∧ Keeps w w' (fun _ => False) := by
  have hR := risingBits_any x hx
  have hB := bytesOf_any (rise x) (rise_lt x hx)
  go_enter Try.func10, Try.ntmps10
  go_wp2_with fail
  (with_reducible refine (hR _).mono ?_)
  rintro e w1 ⟨rfl, rfl⟩
  go_wp2_with fail
  (with_reducible refine (hB _).mono ?_)
  rintro e w2 ⟨rfl, K⟩
  go_wp2_with fail
  go_ret2
  exact ⟨rfl, ((Keeps.refl _ _).alloc _).trans K (fun _ _ x => x)⟩
theorem number_any (x : Nat) (hx : x < 18446744073709551616) (w : World) : Calls Try.prog 13 #[.float .f64 x] w fun e w' => e = .returned (.bool (!nan x)) ∧ w' = w := by
  obtain ⟨-, h⟩ := nan_facts hx
  generalize (!nan x) = b at *
  go_enter Try.func13, Try.ntmps13
  go_wp2_with fail
  go_ret
  exact ⟨rfl, rfl⟩
/-- Is the one ahead of the other: by number, and what is no number behind all that are? It is as the bits say. -/
theorem below_rise {x y : Nat} (hx : x < 18446744073709551616) (hy : y < 18446744073709551616) : ((FloatKind.f64.format.order x y == some .lt) || (!nan x && nan y)) = decide (rise x < rise y) := by
  have h : (FloatKind.f64.format.order x y == some .lt) = (!nan x && !nan y && decide (rise x < rise y)) := lt_rise hx hy
  rw [h]
  cases nx : nan x <;> cases ny : nan y
  · simp
  · have := rise_num nx
    rw [rise_nan ny, decide_eq_true this]
    rfl
  · have := rise_num ny
    rw [rise_nan nx, decide_eq_false (by omega)]
    rfl
  · rw [rise_nan nx, rise_nan ny]
    simp
theorem alike_rise {x y : Nat} (hx : x < 18446744073709551616) (hy : y < 18446744073709551616) : ((FloatKind.f64.format.order x y == some .eq) || (nan x && nan y)) = decide (rise x = rise y) := by
  have h : (FloatKind.f64.format.order x y == some .eq) = (!nan x && !nan y && decide (rise x = rise y)) := eq_rise hx hy
  rw [h]
  cases nx : nan x <;> cases ny : nan y
  · simp
  · have := rise_num nx
    rw [rise_nan ny, decide_eq_false (by omega)]
    rfl
  · have := rise_num ny
    rw [rise_nan nx, decide_eq_false (by omega)]
    rfl
  · rw [rise_nan nx, rise_nan ny]
    simp
set_option maxRecDepth 100000 in
theorem below_any (x y : Nat) (hx : x < 18446744073709551616) (hy : y < 18446744073709551616) (w : World) : Calls Try.prog 12 #[.float .f64 x, .float .f64 y] w fun e w' => e = .returned (.bool (decide (rise x < rise y))) ∧ w' = w := by
  have h1 := number_any x hx
  have h2 := number_any y hy
  rw [← below_rise hx hy]
  obtain ⟨b, hb⟩ : ∃ b, (FloatKind.f64.format.order x y == some .lt) = b := ⟨_, rfl⟩
  rw [hb]
  generalize nan x = nx at *
  generalize nan y = ny at *
  cases b
  · cases nx
    · go_enter Try.func12, Try.ntmps12
      go_wp2_with fail
      (with_reducible refine (h1 _).mono ?_)
      rintro e w1 ⟨rfl, rfl⟩
      go_wp2_with fail
      (with_reducible refine (h2 _).mono ?_)
      rintro e w2 ⟨rfl, rfl⟩
      go_wp2_with fail
      go_ret
      exact ⟨by cases ny <;> rfl, rfl⟩
    · go_enter Try.func12, Try.ntmps12
      go_wp2_with fail
      (with_reducible refine (h1 _).mono ?_)
      rintro e w1 ⟨rfl, rfl⟩
      go_wp2_with fail
      go_ret
      exact ⟨rfl, rfl⟩
  · go_enter Try.func12, Try.ntmps12
    go_wp2_with fail
    go_ret
    exact ⟨rfl, rfl⟩
end Go.Proofs.Ytgbeacfiaegehaa
