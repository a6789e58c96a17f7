/-
  typed: the law's Bits: the bits of a float found by halving and doubling. (genYI.py)
-/
import Derived.Test.YtgbeacfiaegehaaYA
import Derived.Test.YtgbeacfiaegehaaFD3
namespace Go.Proofs.Ytgbeacfiaegehaa
open Go.RowKit
open Fl
set_option linter.unusedVariables false
theorem run_div {a c : Nat} (h : Ieee.double.div a 4611686018427387904 = some c) (w : World) : (binOp .quo 23 (.float .f64 a) (.float .f64 4611686018427387904)).run Try.prog w = .ok (.float .f64 c) w := run_float_arith w .quo _ .f64 _ _ _ h
theorem run_mul {a b c : Nat} (h : Ieee.double.mul a b = some c) (w : World) : (binOp .mul 23 (.float .f64 a) (.float .f64 b)).run Try.prog w = .ok (.float .f64 c) w := run_float_arith w .mul _ .f64 _ _ _ h
theorem run_sub {a b c : Nat} (h : Ieee.double.sub a b = some c) (w : World) : (binOp .sub 23 (.float .f64 a) (.float .f64 b)).run Try.prog w = .ok (.float .f64 c) w := run_float_arith w .sub _ .f64 _ _ _ h
theorem run_toInt {d t : Nat} (h : floatToIntVal .f64 d .u64 = some (t : Int)) (w : World) : (convert 23 22 (.float .f64 d)).run Try.prog w = .ok (.int .u64 (t : Int)) w := run_convert_float_int w _ _ .f64 .u64 d t (by kernel_rfl) Try.underlying22 h
theorem neg_word {x : Nat} (h : 9223372036854775808 ≤ x) (hx : x < 18446744073709551616) : Op.negFloat .f64 x = x - 9223372036854775808 := by
  unfold Op.negFloat
  show x ^^^ 2 ^ 63 = _
  apply Nat.eq_of_testBit_eq
  intro i
  rw [Nat.testBit_xor, Nat.testBit_two_pow]
  by_cases hi : 63 = i
  · subst hi
    rw [decide_eq_true rfl, Nat.testBit_eq_decide_div_mod_eq, Nat.testBit_eq_decide_div_mod_eq, decide_eq_true (show x / 2 ^ 63 % 2 = 1 by omega), decide_eq_false (show ¬ (x - 9223372036854775808) / 2 ^ 63 % 2 = 1 by omega)]
    rfl
  · rw [decide_eq_false hi, Bool.xor_false]
    have h1 : x = 2 ^ 63 + (x - 9223372036854775808) := by omega
    have h2 : x - 9223372036854775808 < 2 ^ 63 := by omega
    by_cases hlt : i < 63
    · conv => lhs; rw [h1]
      rw [Nat.testBit_two_pow_add_gt hlt]
    · have h3 : 64 ≤ i := by omega
      rw [Nat.testBit_lt_two_pow (show x < 2 ^ i from Nat.lt_of_lt_of_le hx (Nat.pow_le_pow_right (show 0 < 2 by decide) h3)), Nat.testBit_lt_two_pow (show x - 9223372036854775808 < 2 ^ i from Nat.lt_of_lt_of_le (show x - 9223372036854775808 < 18446744073709551616 by omega) (Nat.pow_le_pow_right (show 0 < 2 by decide) h3))]
/-- Is it below 0? -/
theorem neg_fact {x : Nat} (hx : x < 18446744073709551616) (hn : nan x = false) (hz : ¬ x % 9223372036854775808 = 0) : (FloatKind.f64.format.order x 0 == some .lt) = decide (9223372036854775808 ≤ x) := by
  have h : (FloatKind.f64.format.order x 0 == some .lt) = (!nan x && !nan 0 && decide (rise x < rise 0)) := lt_rise hx (by omega)
  have e2 : rise x = if 9223372036854775808 ≤ x then 18446744073709551615 - x else x + 9223372036854775808 := by
    unfold rise
    rw [hn, if_neg (by decide), if_neg hz]
  rw [h, hn, show nan 0 = false by decide, show rise 0 = 9223372036854775808 by decide, e2]
  by_cases hs : 9223372036854775808 ≤ x
  · rw [if_pos hs, decide_eq_true hs, decide_eq_true (by omega)]; rfl
  · rw [if_neg hs, decide_eq_false hs, decide_eq_false (by omega)]; rfl
def mz (v : Value) : Nat := match v with | .float _ b => b | _ => 0
def mi (v : Value) : Nat := match v with | .int _ b => b.toNat | _ => 0
theorem dblN_one {Q r j : Nat} (hQ : Q = 1022) (hr : r < 4503599627370496) (hj : j ≤ Q) : dblN j r < 4607182418800017408 := by
  refine vl_lt_iff.1 ?_
  have e : vl 4607182418800017408 = 4503599627370496 * 2 ^ Q := by
    unfold vl
    rw [if_neg (by omega), show 4607182418800017408 % 4503599627370496 = 0 by omega, show 4607182418800017408 / 4503599627370496 - 1 = Q by omega]
  rw [vl_dblN, vl_small (by omega), e]
  exact Nat.lt_of_lt_of_le (Nat.mul_lt_mul_of_pos_right hr (Nat.two_pow_pos j)) (Nat.mul_le_mul_left _ (Nat.pow_le_pow_right (show 0 < 2 by decide) hj))
set_option maxRecDepth 100000 in
set_option maxHeartbeats 8000000 in
theorem Bits_any (x : Nat) (hx : x < 18446744073709551616) (hn : nan x = false) (w : World) : Calls Try.prog 42 #[.float .f64 x] w fun e w' => e = .returned (.int .u64 ((if x % 9223372036854775808 = 0 then 0 else x : Nat) : Int)) ∧ w' = w := by
  have zf := zero_fact hx
  have hn' := of_decide_eq_false hn
  by_cases hz : x % 9223372036854775808 = 0
  · rw [if_pos hz]
    rw [decide_eq_true hz] at zf
    have nf : (FloatKind.f64.format.order x 0 == some .lt) = false := by
      have h : (FloatKind.f64.format.order x 0 == some .lt) = (!nan x && !nan 0 && decide (rise x < rise 0)) := lt_rise hx (by omega)
      have e2 : rise x = 9223372036854775808 := by unfold rise; rw [hn, if_neg (by decide), if_pos hz]
      rw [h, e2, show rise 0 = 9223372036854775808 by decide]
      simp
    clear hn' hz
    go_enter Try.func42, Try.ntmps42
    go_wp2_with fail
    go_ret
    exact ⟨rfl, rfl⟩
  · rw [if_neg hz]
    have nf := neg_fact hx hn hz
    by_cases hs : 9223372036854775808 ≤ x
    · rw [decide_eq_true hs] at nf
      obtain ⟨r, hr⟩ : ∃ r, x = 9223372036854775808 + r := ⟨x - 9223372036854775808, by omega⟩
      have hr0 : 0 < r := by omega
      have hrI : r ≤ 9218868437227405312 := by omega
      have hng : Op.negFloat .f64 x = r := by rw [neg_word hs hx]; omega
      have zr : (FloatKind.f64.format.order r 0 == some .eq) = false := by rw [zero_fact (by omega), decide_eq_false (by omega)]
      clear zf hn' hz hn
      have hun : ∀ w : World, (Op.unary .neg (.float .f64 x)).run Try.prog w = .ok (.float .f64 r) w := fun w => by
        rw [← hng]
        rfl
      clear hng
      have HXr := hide hr
      clear hr
      go_enter Try.func42, Try.ntmps42
      go_wp2_with fail
      by_cases hinf : r = 9218868437227405312
      · subst hinf
        go_loopw [0, 4] (fun v0 v4 wr => ∃ e : Nat, v0 = .float .f64 9218868437227405312 ∧ v4 = .int .u64 (e : Int) ∧ e ≤ 2047 ∧ wr = w) (fun _ v4 _ => 2047 - mi v4)
        case atStart => exact ⟨1023, rfl, rfl, by omega, rfl⟩
        case round =>
          obtain ⟨e, rfl, rfl, he, hw⟩ := hrel
          replace hw := hw.symm
          subst hw
          have g1 := ge_pos (a := 9218868437227405312) (b := 4611686018427387904) (by omega) (by omega)
          rw [decide_eq_true (by omega)] at g1
          by_cases h2 : e < 2047
          · have e1 : (e : Int) < 2047 := by omega
            have hd := run_div inf_two
            have HM : Hid (2047 - mi (.int .u64 ((e : Int) + 1)) < 2047 - mi (.int .u64 (e : Int))) := by
              show 2047 - ((e : Int) + 1).toNat < 2047 - (e : Int).toNat
              omega
            have HE : Hid (e + 1 ≤ 2047) := h2
            clear h2 he
            go_wp2_with fail
            exact ⟨⟨e + 1, by first | exact True.intro | rfl, congrArg (Value.int .u64) (by omega), HE.out, by first | exact True.intro | rfl⟩, HM.out⟩
          · obtain rfl : e = 2047 := by omega
            have HX : Hid (9223372036854775808 + 9218868437227405312 = (x : Int)) := by have := HXr.out; show _ = _; omega
            have B4 : 9223372036854775808 + 9218868437227405312 < 18446744073709551616 := by have := HXr.out; omega
            clear h2 he
            go_wp2_with fail
            go_ret
            exact ⟨congrArg (fun z => Ending.returned (.int .u64 z)) HX.out, rfl⟩
      · have hr1 : r < 9218868437227405312 := by omega
        clear hinf
        go_loopw [0, 4] (fun v0 v4 wr => ∃ a e : Nat, v0 = .float .f64 a ∧ v4 = .int .u64 (e : Int) ∧ a + (e - 1023) * 4503599627370496 = r ∧ 1023 ≤ e ∧ (e = 1023 ∨ 4607182418800017408 ≤ a) ∧ wr = w) (fun v0 _ _ => mz v0)
        case atStart => exact ⟨r, 1023, rfl, rfl, by omega, by omega, Or.inl rfl, rfl⟩
        case round =>
          obtain ⟨a, e, rfl, rfl, hae, he, hor, hw⟩ := hrel
          replace hw := hw.symm
          subst hw
          have g1 := ge_pos (a := a) (b := 4611686018427387904) (by omega) (by omega)
          by_cases h2 : 4611686018427387904 ≤ a
          · rw [decide_eq_true h2] at g1
            have e1 : (e : Int) < 2047 := by omega
            obtain ⟨a', rfl⟩ : ∃ a', a = a' + 4503599627370496 := ⟨a - 4503599627370496, by omega⟩
            have hd := run_div (div_two (a := a') (by omega) (by omega))
            have HR : Hid (∃ a e1 : Nat, (Value.float .f64 a' = .float .f64 a) ∧ (Value.int .u64 ((e : Int) + 1) = .int .u64 (e1 : Int)) ∧ a + (e1 - 1023) * 4503599627370496 = r ∧ 1023 ≤ e1 ∧ (e1 = 1023 ∨ 4607182418800017408 ≤ a)) := ⟨a', e + 1, rfl, rfl, by omega, by omega, Or.inr (by omega)⟩
            clear hae hor h2
            go_wp2_with fail
            obtain ⟨b1, b2, b3, b4, b5, b6, b7⟩ := HR.out
            refine ⟨⟨b1, b2, b3, b4, b5, b6, b7, by first | exact True.intro | rfl⟩, ?_⟩
            show a' < a' + 4503599627370496
            omega
          · rw [decide_eq_false h2] at g1
            have e2 : ((e : Int) == 2047) = false := by rw [beq_eq_false_iff_ne]; omega
            go_wp2_with fail
            by_cases hB : r < 4503599627370496
            · obtain rfl : e = 1023 := by omega
              obtain ⟨Q, hQ⟩ : ∃ Q, Q = 1022 := ⟨_, rfl⟩
              go_loopw [0, 4] (fun v0 v4 wr => ∃ j e : Nat, v0 = .float .f64 (dblN j r) ∧ v4 = .int .u64 (e : Int) ∧ j + e = 1023 ∧ 1 ≤ e ∧ wr = w) (fun _ v4 _ => mi v4)
              case atStart => exact ⟨0, 1023, by rw [show a = r by omega]; rfl, rfl, by omega, by omega, rfl⟩
              case round =>
                obtain ⟨j, e, rfl, rfl, hj, he1, hw⟩ := hrel
                replace hw := hw.symm
                subst hw
                have hlt := dblN_one (j := j) hQ hB (by omega)
                have hpo := pos_rung (k := j) hr0
                have g2 := lt_pos (a := dblN j r) (b := 4607182418800017408) (by omega) (by omega)
                rw [decide_eq_true hlt] at g2
                by_cases h3 : 1 < e
                · have e3 : (1 : Int) < (e : Int) := by omega
                  have hlt2 := dblN_one (j := j + 1) hQ hB (by omega)
                  have hd := run_mul (mul_two (a := dblN j r) hpo (show dblN (j + 1) r < _ by omega))
                  rw [show dbl (dblN j r) = dblN (j + 1) r from rfl] at hd
                  obtain ⟨E, hE⟩ : ∃ E : Int, (e : Int) = E := ⟨_, rfl⟩
                  have HR : Hid (∃ j1 e1 : Nat, (Value.float .f64 (dblN (j + 1) r) = .float .f64 (dblN j1 r)) ∧ (Value.int .u64 (E - 1) = .int .u64 (e1 : Int)) ∧ j1 + e1 = 1023 ∧ 1 ≤ e1) := ⟨j + 1, e - 1, rfl, congrArg (Value.int .u64) (by omega), by omega, by omega⟩
                  have HM : Hid (mi (.int .u64 (E - 1)) < mi (.int .u64 E)) := by
                    show (E - 1).toNat < E.toNat
                    omega
                  rw [hE] at e3 ⊢
                  have E1 : 1 ≤ E := by omega
                  have E2 : E ≤ 2046 := by omega
                  generalize dblN (j + 1) r = c1 at *
                  generalize dblN j r = c0 at *
                  clear hE hj he1 hlt hlt2 hpo h3
                  go_wp2_with fail
                  obtain ⟨b1, b2, b3, b4, b5, b6⟩ := HR.out
                  exact ⟨⟨b1, b2, b3, b4, b5, b6, by first | exact True.intro | rfl⟩, HM.out⟩
                · obtain rfl : e = 1 := by omega
                  obtain rfl : j = Q := by omega
                  obtain ⟨d, f1, f2⟩ := frac_int hQ hB
                  have hml := run_mul f1
                  have hti := run_toInt f2
                  generalize dblN j r = c at *
                  have HX : Hid (9223372036854775808 + (r : Int) = (x : Int)) := by have := HXr.out; show _ = _; omega
                  have B4 : 9223372036854775808 + (r : Int) < 18446744073709551616 := by have := HXr.out; omega
                  clear f1 f2 hQ hj he1 h3 hpo hlt
                  go_wp2_with fail
                  go_ret
                  exact ⟨congrArg (fun z => Ending.returned (.int .u64 z)) HX.out, rfl⟩
            · have hae' : (a : Int) + ((e : Int) - 1023) * 4503599627370496 = (r : Int) := by omega
              have he' : e ≤ 2046 := by omega
              go_loopw [0, 4] (fun v0 v4 wr => ∃ a e : Nat, v0 = .float .f64 a ∧ v4 = .int .u64 (e : Int) ∧ (a : Int) + ((e : Int) - 1023) * 4503599627370496 = (r : Int) ∧ 4503599627370496 ≤ a ∧ a < 4611686018427387904 ∧ 1 ≤ e ∧ e ≤ 2046 ∧ wr = w) (fun _ v4 _ => mi v4)
              case atStart => exact ⟨a, e, rfl, rfl, by omega, by omega, by omega, by omega, by omega, rfl⟩
              case round =>
                obtain ⟨a, e, rfl, rfl, hae2, ha1, ha2, he1, he2, hw⟩ := hrel
                replace hw := hw.symm
                subst hw
                have g2 := lt_pos (a := a) (b := 4607182418800017408) (by omega) (by omega)
                by_cases h3 : a < 4607182418800017408
                · rw [decide_eq_true h3] at g2
                  have e3 : (1 : Int) < (e : Int) := by omega
                  have hdb : dbl a = a + 4503599627370496 := by unfold dbl; rw [if_neg (by omega)]
                  have hd := run_mul (mul_two (a := a) (by omega) (by rw [hdb]; omega))
                  rw [hdb] at hd
                  obtain ⟨e', rfl⟩ : ∃ e', e = e' + 1 := ⟨e - 1, by omega⟩
                  have HR : Hid (∃ a1 e1 : Nat, (Value.float .f64 (a + 4503599627370496) = .float .f64 a1) ∧ (Value.int .u64 (((e' + 1 : Nat) : Int) - 1) = .int .u64 (e1 : Int)) ∧ (a1 : Int) + ((e1 : Int) - 1023) * 4503599627370496 = (r : Int) ∧ 4503599627370496 ≤ a1 ∧ a1 < 4611686018427387904 ∧ 1 ≤ e1 ∧ e1 ≤ 2046) := ⟨a + 4503599627370496, e', rfl, congrArg (Value.int .u64) (by omega), by omega, by omega, by omega, by omega, by omega⟩
                  obtain ⟨E, hE⟩ : ∃ E : Int, (((e' + 1 : Nat) : Int)) = E := ⟨_, rfl⟩
                  have HM : Hid (mi (.int .u64 (E - 1)) < mi (.int .u64 E)) := by
                    show (E - 1).toNat < E.toNat
                    omega
                  rw [hE] at HR e3 ⊢
                  have E1 : 1 ≤ E := by omega
                  have E2 : E ≤ 2046 := by omega
                  clear hae2 hE he1 he2
                  go_wp2_with fail
                  obtain ⟨b1, b2, b3, b4, b5, b6, b7, b8, b9⟩ := HR.out
                  exact ⟨⟨b1, b2, b3, b4, b5, b6, b7, b8, b9, by first | exact True.intro | rfl⟩, HM.out⟩
                · rw [decide_eq_false h3] at g2
                  obtain ⟨t, rfl⟩ : ∃ t, a = 4607182418800017408 + t := ⟨a - 4607182418800017408, by omega⟩
                  obtain ⟨Q, hQ⟩ : ∃ Q, Q = 1022 := ⟨_, rfl⟩
                  have ht : t < 4503599627370496 := by omega
                  have hsb := run_sub (sub_one hQ ht)
                  obtain ⟨d, f1, f2⟩ := frac_int hQ ht
                  have hml := run_mul f1
                  have hti := run_toInt f2
                  generalize dblN Q t = c at *
                  have HX : Hid (9223372036854775808 + (e : Int) * 4503599627370496 + (t : Int) = (x : Int)) := by have := HXr.out; show _ = _; omega
                  have HXr' := HXr.out
                  have B1 : 0 ≤ 9223372036854775808 + (e : Int) * 4503599627370496 := by omega
                  have B2 : 9223372036854775808 + (e : Int) * 4503599627370496 < 18446744073709551616 := by omega
                  have B3 : (e : Int) * 4503599627370496 < 18446744073709551616 := by omega
                  have B4 : 9223372036854775808 + (e : Int) * 4503599627370496 + (t : Int) < 18446744073709551616 := by omega
                  clear hae2 f1 f2 hQ HXr'
                  go_wp2_with fail
                  go_ret
                  exact ⟨congrArg (fun z => Ending.returned (.int .u64 z)) HX.out, rfl⟩
    · rw [decide_eq_false hs] at nf
      obtain ⟨r, hr⟩ : ∃ r, x = r := ⟨_, rfl⟩
      have HXr := hide hr
      have hr0 : 0 < r := by omega
      have hrI : r ≤ 9218868437227405312 := by omega
      rw [decide_eq_false hz] at zf
      clear hn' hz hn
      refine (show Calls Try.prog 42 #[.float .f64 r] w (fun e w' => e = .returned (.int .u64 (x : Int)) ∧ w' = w) → _ from fun h => by rw [← hr] at h; exact h) ?_
      rw [hr] at zf nf
      clear hr
      go_enter Try.func42, Try.ntmps42
      go_wp2_with fail
      by_cases hinf : r = 9218868437227405312
      · subst hinf
        go_loopw [0, 4] (fun v0 v4 wr => ∃ e : Nat, v0 = .float .f64 9218868437227405312 ∧ v4 = .int .u64 (e : Int) ∧ e ≤ 2047 ∧ wr = w) (fun _ v4 _ => 2047 - mi v4)
        case atStart => exact ⟨1023, rfl, rfl, by omega, rfl⟩
        case round =>
          obtain ⟨e, rfl, rfl, he, hw⟩ := hrel
          replace hw := hw.symm
          subst hw
          have g1 := ge_pos (a := 9218868437227405312) (b := 4611686018427387904) (by omega) (by omega)
          rw [decide_eq_true (by omega)] at g1
          by_cases h2 : e < 2047
          · have e1 : (e : Int) < 2047 := by omega
            have hd := run_div inf_two
            have HM : Hid (2047 - mi (.int .u64 ((e : Int) + 1)) < 2047 - mi (.int .u64 (e : Int))) := by
              show 2047 - ((e : Int) + 1).toNat < 2047 - (e : Int).toNat
              omega
            have HE : Hid (e + 1 ≤ 2047) := h2
            clear h2 he
            go_wp2_with fail
            exact ⟨⟨e + 1, by first | exact True.intro | rfl, congrArg (Value.int .u64) (by omega), HE.out, by first | exact True.intro | rfl⟩, HM.out⟩
          · obtain rfl : e = 2047 := by omega
            have HX : Hid (9218868437227405312 = (x : Int)) := by have := HXr.out; show _ = _; omega
            have B4 : 9218868437227405312 < 18446744073709551616 := by have := HXr.out; omega
            clear h2 he
            go_wp2_with fail
            go_ret
            exact ⟨congrArg (fun z => Ending.returned (.int .u64 z)) HX.out, rfl⟩
      · have hr1 : r < 9218868437227405312 := by omega
        clear hinf
        go_loopw [0, 4] (fun v0 v4 wr => ∃ a e : Nat, v0 = .float .f64 a ∧ v4 = .int .u64 (e : Int) ∧ a + (e - 1023) * 4503599627370496 = r ∧ 1023 ≤ e ∧ (e = 1023 ∨ 4607182418800017408 ≤ a) ∧ wr = w) (fun v0 _ _ => mz v0)
        case atStart => exact ⟨r, 1023, rfl, rfl, by omega, by omega, Or.inl rfl, rfl⟩
        case round =>
          obtain ⟨a, e, rfl, rfl, hae, he, hor, hw⟩ := hrel
          replace hw := hw.symm
          subst hw
          have g1 := ge_pos (a := a) (b := 4611686018427387904) (by omega) (by omega)
          by_cases h2 : 4611686018427387904 ≤ a
          · rw [decide_eq_true h2] at g1
            have e1 : (e : Int) < 2047 := by omega
            obtain ⟨a', rfl⟩ : ∃ a', a = a' + 4503599627370496 := ⟨a - 4503599627370496, by omega⟩
            have hd := run_div (div_two (a := a') (by omega) (by omega))
            have HR : Hid (∃ a e1 : Nat, (Value.float .f64 a' = .float .f64 a) ∧ (Value.int .u64 ((e : Int) + 1) = .int .u64 (e1 : Int)) ∧ a + (e1 - 1023) * 4503599627370496 = r ∧ 1023 ≤ e1 ∧ (e1 = 1023 ∨ 4607182418800017408 ≤ a)) := ⟨a', e + 1, rfl, rfl, by omega, by omega, Or.inr (by omega)⟩
            clear hae hor h2
            go_wp2_with fail
            obtain ⟨b1, b2, b3, b4, b5, b6, b7⟩ := HR.out
            refine ⟨⟨b1, b2, b3, b4, b5, b6, b7, by first | exact True.intro | rfl⟩, ?_⟩
            show a' < a' + 4503599627370496
            omega
          · rw [decide_eq_false h2] at g1
            have e2 : ((e : Int) == 2047) = false := by rw [beq_eq_false_iff_ne]; omega
            go_wp2_with fail
            by_cases hB : r < 4503599627370496
            · obtain rfl : e = 1023 := by omega
              obtain ⟨Q, hQ⟩ : ∃ Q, Q = 1022 := ⟨_, rfl⟩
              go_loopw [0, 4] (fun v0 v4 wr => ∃ j e : Nat, v0 = .float .f64 (dblN j r) ∧ v4 = .int .u64 (e : Int) ∧ j + e = 1023 ∧ 1 ≤ e ∧ wr = w) (fun _ v4 _ => mi v4)
              case atStart => exact ⟨0, 1023, by rw [show a = r by omega]; rfl, rfl, by omega, by omega, rfl⟩
              case round =>
                obtain ⟨j, e, rfl, rfl, hj, he1, hw⟩ := hrel
                replace hw := hw.symm
                subst hw
                have hlt := dblN_one (j := j) hQ hB (by omega)
                have hpo := pos_rung (k := j) hr0
                have g2 := lt_pos (a := dblN j r) (b := 4607182418800017408) (by omega) (by omega)
                rw [decide_eq_true hlt] at g2
                by_cases h3 : 1 < e
                · have e3 : (1 : Int) < (e : Int) := by omega
                  have hlt2 := dblN_one (j := j + 1) hQ hB (by omega)
                  have hd := run_mul (mul_two (a := dblN j r) hpo (show dblN (j + 1) r < _ by omega))
                  rw [show dbl (dblN j r) = dblN (j + 1) r from rfl] at hd
                  obtain ⟨E, hE⟩ : ∃ E : Int, (e : Int) = E := ⟨_, rfl⟩
                  have HR : Hid (∃ j1 e1 : Nat, (Value.float .f64 (dblN (j + 1) r) = .float .f64 (dblN j1 r)) ∧ (Value.int .u64 (E - 1) = .int .u64 (e1 : Int)) ∧ j1 + e1 = 1023 ∧ 1 ≤ e1) := ⟨j + 1, e - 1, rfl, congrArg (Value.int .u64) (by omega), by omega, by omega⟩
                  have HM : Hid (mi (.int .u64 (E - 1)) < mi (.int .u64 E)) := by
                    show (E - 1).toNat < E.toNat
                    omega
                  rw [hE] at e3 ⊢
                  have E1 : 1 ≤ E := by omega
                  have E2 : E ≤ 2046 := by omega
                  generalize dblN (j + 1) r = c1 at *
                  generalize dblN j r = c0 at *
                  clear hE hj he1 hlt hlt2 hpo h3
                  go_wp2_with fail
                  obtain ⟨b1, b2, b3, b4, b5, b6⟩ := HR.out
                  exact ⟨⟨b1, b2, b3, b4, b5, b6, by first | exact True.intro | rfl⟩, HM.out⟩
                · obtain rfl : e = 1 := by omega
                  obtain rfl : j = Q := by omega
                  obtain ⟨d, f1, f2⟩ := frac_int hQ hB
                  have hml := run_mul f1
                  have hti := run_toInt f2
                  generalize dblN j r = c at *
                  have HX : Hid ((r : Int) = (x : Int)) := by have := HXr.out; show _ = _; omega
                  have B4 : (r : Int) < 18446744073709551616 := by have := HXr.out; omega
                  clear f1 f2 hQ hj he1 h3 hpo hlt
                  go_wp2_with fail
                  go_ret
                  exact ⟨congrArg (fun z => Ending.returned (.int .u64 z)) HX.out, rfl⟩
            · have hae' : (a : Int) + ((e : Int) - 1023) * 4503599627370496 = (r : Int) := by omega
              have he' : e ≤ 2046 := by omega
              go_loopw [0, 4] (fun v0 v4 wr => ∃ a e : Nat, v0 = .float .f64 a ∧ v4 = .int .u64 (e : Int) ∧ (a : Int) + ((e : Int) - 1023) * 4503599627370496 = (r : Int) ∧ 4503599627370496 ≤ a ∧ a < 4611686018427387904 ∧ 1 ≤ e ∧ e ≤ 2046 ∧ wr = w) (fun _ v4 _ => mi v4)
              case atStart => exact ⟨a, e, rfl, rfl, by omega, by omega, by omega, by omega, by omega, rfl⟩
              case round =>
                obtain ⟨a, e, rfl, rfl, hae2, ha1, ha2, he1, he2, hw⟩ := hrel
                replace hw := hw.symm
                subst hw
                have g2 := lt_pos (a := a) (b := 4607182418800017408) (by omega) (by omega)
                by_cases h3 : a < 4607182418800017408
                · rw [decide_eq_true h3] at g2
                  have e3 : (1 : Int) < (e : Int) := by omega
                  have hdb : dbl a = a + 4503599627370496 := by unfold dbl; rw [if_neg (by omega)]
                  have hd := run_mul (mul_two (a := a) (by omega) (by rw [hdb]; omega))
                  rw [hdb] at hd
                  obtain ⟨e', rfl⟩ : ∃ e', e = e' + 1 := ⟨e - 1, by omega⟩
                  have HR : Hid (∃ a1 e1 : Nat, (Value.float .f64 (a + 4503599627370496) = .float .f64 a1) ∧ (Value.int .u64 (((e' + 1 : Nat) : Int) - 1) = .int .u64 (e1 : Int)) ∧ (a1 : Int) + ((e1 : Int) - 1023) * 4503599627370496 = (r : Int) ∧ 4503599627370496 ≤ a1 ∧ a1 < 4611686018427387904 ∧ 1 ≤ e1 ∧ e1 ≤ 2046) := ⟨a + 4503599627370496, e', rfl, congrArg (Value.int .u64) (by omega), by omega, by omega, by omega, by omega, by omega⟩
                  obtain ⟨E, hE⟩ : ∃ E : Int, (((e' + 1 : Nat) : Int)) = E := ⟨_, rfl⟩
                  have HM : Hid (mi (.int .u64 (E - 1)) < mi (.int .u64 E)) := by
                    show (E - 1).toNat < E.toNat
                    omega
                  rw [hE] at HR e3 ⊢
                  have E1 : 1 ≤ E := by omega
                  have E2 : E ≤ 2046 := by omega
                  clear hae2 hE he1 he2
                  go_wp2_with fail
                  obtain ⟨b1, b2, b3, b4, b5, b6, b7, b8, b9⟩ := HR.out
                  exact ⟨⟨b1, b2, b3, b4, b5, b6, b7, b8, b9, by first | exact True.intro | rfl⟩, HM.out⟩
                · rw [decide_eq_false h3] at g2
                  obtain ⟨t, rfl⟩ : ∃ t, a = 4607182418800017408 + t := ⟨a - 4607182418800017408, by omega⟩
                  obtain ⟨Q, hQ⟩ : ∃ Q, Q = 1022 := ⟨_, rfl⟩
                  have ht : t < 4503599627370496 := by omega
                  have hsb := run_sub (sub_one hQ ht)
                  obtain ⟨d, f1, f2⟩ := frac_int hQ ht
                  have hml := run_mul f1
                  have hti := run_toInt f2
                  generalize dblN Q t = c at *
                  have HX : Hid ((e : Int) * 4503599627370496 + (t : Int) = (x : Int)) := by have := HXr.out; show _ = _; omega
                  have HXr' := HXr.out
                  have B1 : 0 ≤ (e : Int) * 4503599627370496 := by omega
                  have B2 : (e : Int) * 4503599627370496 < 18446744073709551616 := by omega
                  have B3 : (e : Int) * 4503599627370496 < 18446744073709551616 := by omega
                  have B4 : (e : Int) * 4503599627370496 + (t : Int) < 18446744073709551616 := by omega
                  clear hae2 f1 f2 hQ HXr'
                  go_wp2_with fail
                  go_ret
                  exact ⟨congrArg (fun z => Ending.returned (.int .u64 z)) HX.out, rfl⟩
end Go.Proofs.Ytgbeacfiaegehaa
