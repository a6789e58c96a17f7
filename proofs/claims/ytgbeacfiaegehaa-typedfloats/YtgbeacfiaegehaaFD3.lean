/-
  Floats of 64 bits: what is left of 1, times 2^52, as a whole number; the order of magnitudes.
-/
import Derived.Test.YtgbeacfiaegehaaFD2
namespace Go.Proofs.Ytgbeacfiaegehaa
namespace Fl
open Ieee
def dblN : Nat → Nat → Nat
  | 0, a => a
  | k + 1, a => dbl (dblN k a)
theorem vl_dblN (k a : Nat) : vl (dblN k a) = vl a * 2 ^ k := by
  induction k with
  | zero => simp [dblN]
  | succ k ih => rw [dblN, vl_dbl, ih, Nat.pow_succ, Nat.mul_comm 2, Nat.mul_assoc]
theorem vl_small {a : Nat} (h : a < 9007199254740992) : vl a = a := by
  unfold vl
  split
  · rfl
  · rw [show a / 4503599627370496 - 1 = 0 by omega]
    omega
theorem vl_inf : ∃ E, E = 2046 ∧ vl 9218868437227405312 = 4503599627370496 * 2 ^ E := by
  obtain ⟨E, hE⟩ : ∃ E, 9218868437227405312 / 4503599627370496 - 1 = E := ⟨_, rfl⟩
  refine ⟨E, by omega, ?_⟩
  unfold vl
  rw [if_neg (by omega), show 9218868437227405312 % 4503599627370496 = 0 by omega, hE]
theorem small_rung {t k : Nat} (ht : t < 4503599627370496) (hk : k ≤ 2046) : dblN k t < 9218868437227405312 := by
  refine vl_lt_iff.1 ?_
  obtain ⟨E, hE, hv⟩ := vl_inf
  rw [vl_dblN, vl_small (by omega), hv]
  exact Nat.lt_of_lt_of_le (Nat.mul_lt_mul_of_pos_right ht (Nat.two_pow_pos k)) (Nat.mul_le_mul_left _ (Nat.pow_le_pow_right (show 0 < 2 by decide) (by omega)))
theorem pos_rung {t k : Nat} (ht : 0 < t) : 0 < dblN k t := by
  induction k with
  | zero => exact ht
  | succ k ih => unfold dblN dbl; split <;> omega
theorem mul_p52 {a d : Nat} (ha : a < 9218868437227405312) (h0 : 0 < d) (hd : d < 9218868437227405312) (h : vl d = vl a * 2 ^ 52) : double.mul a 4841369599423283200 = some d := by
  obtain ⟨m, e, h1, h2⟩ := pos_read ha
  unfold Format.mul
  rw [h1, p52_read]
  show some (double.nearest (false ^^ false) (m * 4503599627370496) (-1074 + (e : Int) + 0)) = _
  rw [show (false ^^ false) = false from rfl, nearest_exact (A := e) (E := 0) (c := d) h0 hd]
  · rw [h, ← h2, Nat.pow_zero, Nat.mul_one, Nat.mul_right_comm]
  · omega
theorem toInt_exact {d t P : Nat} (hP : P = 1074) (hd : d < 9218868437227405312) (ht : 0 < t) (h : vl d = t * 2 ^ P) : (double.read d).toInt .zero = some (t : Int) := by
  obtain ⟨m, e, h1, h2⟩ := pos_read hd
  rw [h1]
  have hc : Toward.zero.cut false (m <<< (-1074 + (e : Int)).toNat) (-(-1074 + (e : Int))).toNat = t := by
    by_cases he : P ≤ e
    · have u1 : (-1074 + (e : Int)).toNat = e - P := by omega
      have u2 : (-(-1074 + (e : Int))).toNat = 0 := by omega
      rw [u1, u2, cut_none _ (Or.inr rfl), Nat.shiftLeft_eq]
      have h3 : m * 2 ^ (e - P) * 2 ^ P = t * 2 ^ P := by
        rw [Nat.mul_assoc, ← Nat.pow_add, show e - P + P = e by omega, h2, h]
      exact Nat.eq_of_mul_eq_mul_right (Nat.two_pow_pos _) h3
    · have u1 : (-1074 + (e : Int)).toNat = 0 := by omega
      have u2 : (-(-1074 + (e : Int))).toNat = P - e := by omega
      rw [u1, u2, Nat.shiftLeft_zero]
      have h3 : m * 2 ^ e = t * 2 ^ (P - e) * 2 ^ e := by
        rw [Nat.mul_assoc, ← Nat.pow_add, show P - e + e = P by omega, h2, h]
      rw [Nat.eq_of_mul_eq_mul_right (Nat.two_pow_pos _) h3]
      exact cut_exact _ (Or.inr rfl) t _ ht
  show some (signed false (Toward.zero.cut false (m <<< (-1074 + (e : Int)).toNat) (-(-1074 + (e : Int))).toNat) 0) = _
  rw [hc]
  unfold signed
  rw [if_neg (by decide), Nat.shiftLeft_zero]
theorem toU64 {d t P : Nat} (hP : P = 1074) (hd : d < 9218868437227405312) (ht : 0 < t) (ht2 : t < 4503599627370496) (h : vl d = t * 2 ^ P) : floatToIntVal .f64 d .u64 = some (t : Int) := by
  unfold floatToIntVal
  have e : FloatKind.f64.decode d = double.read d := rfl
  rw [e, toInt_exact hP hd ht h]
  have e1 : IntKind.u64.min = 0 := rfl
  have e2 : IntKind.u64.max = 18446744073709551615 := rfl
  rw [e1, e2]
  dsimp only
  rw [if_pos (by omega)]
theorem dblN_zero (k : Nat) : dblN k 0 = 0 := by
  have : vl (dblN k 0) = vl 0 := by rw [vl_dblN, vl_zero, Nat.zero_mul]
  exact vl_inj.1 this
/-- A small number times 2^1022 units, times 2^52, is that number. -/
theorem frac_int {t Q : Nat} (hQ : Q = 1022) (ht : t < 4503599627370496) : ∃ d, double.mul (dblN Q t) 4841369599423283200 = some d ∧ floatToIntVal .f64 d .u64 = some (t : Int) := by
  by_cases h0 : 0 < t
  · refine ⟨dblN (Q + 52) t, mul_p52 (small_rung ht (by omega)) (pos_rung h0) (small_rung ht (by omega)) ?_, toU64 (P := Q + 52) (by omega) (small_rung ht (by omega)) h0 ht ?_⟩
    · rw [vl_dblN, vl_dblN, Nat.mul_assoc, ← Nat.pow_add]
    · rw [vl_dblN, vl_small (by omega)]
  · obtain rfl : t = 0 := by omega
    rw [dblN_zero]
    exact ⟨0, by decide +kernel, by decide +kernel⟩
/-- What is left of a number from 1 to 2. -/
theorem sub_one {t Q : Nat} (hQ : Q = 1022) (ht : t < 4503599627370496) : double.sub (4607182418800017408 + t) 4607182418800017408 = some (dblN Q t) := by
  have hr : double.read (4607182418800017408 + t) = .number false (4503599627370496 + t) (-52) := by
    rw [read_red]
    unfold red
    rw [show (4607182418800017408 + t) % 9223372036854775808 = 4607182418800017408 + t by omega, if_neg (by omega), if_pos (by omega), show (4607182418800017408 + t) / 9223372036854775808 = 0 by omega, show (4607182418800017408 + t) % 4503599627370496 = t by omega, show (4607182418800017408 + t) / 4503599627370496 - 1 = 1022 by omega]
    rfl
  unfold Format.sub
  rw [hr, one_read]
  have hs : Datum.sum (.number false (4503599627370496 + t) (-52)) (Datum.number false 4503599627370496 (-52)).opposite = some (.number false t (-52)) := by
    show Datum.sum (.number false (4503599627370496 + t) (-52)) (.number true 4503599627370496 (-52)) = _
    unfold Datum.sum
    dsimp only
    have hb : (-52 - min (-52 : Int) (-52)).toNat = 0 := by decide
    have hb2 : min (-52 : Int) (-52) = -52 := by decide
    rw [hb, hb2]
    have ht2 : signed false (4503599627370496 + t) 0 + signed true 4503599627370496 0 = (t : Int) := by
      unfold signed
      rw [if_neg (by decide), if_pos rfl, Nat.shiftLeft_zero, Nat.shiftLeft_zero]
      omega
    rw [ht2]
    by_cases h0 : (t : Int) = 0
    · rw [if_pos h0]
      have : t = 0 := by omega
      subst this
      rfl
    · rw [if_neg h0, show decide ((t : Int) < 0) = false from decide_eq_false (by omega), Int.natAbs_natCast]
  rw [hs]
  show some (double.nearest false t (-52)) = _
  by_cases h0 : 0 < t
  · rw [nearest_exact (A := Q) (E := 0) (c := dblN Q t) (pos_rung h0) (small_rung ht (by omega))]
    · rw [vl_dblN, vl_small (by omega), Nat.pow_zero, Nat.mul_one]
    · omega
  · obtain rfl : t = 0 := by omega
    rw [dblN_zero]
    decide +kernel
/-- The order of magnitudes. -/
theorem pos_order {a b : Nat} (ha : a ≤ 9218868437227405312) (hb : b ≤ 9218868437227405312) : double.order a b = some (compare (vl a : Int) (vl b : Int)) := by
  rw [order_sv a b (decide_eq_false (by omega)) (decide_eq_false (by omega)), sv_pos (by omega), sv_pos (by omega)]
theorem lt_pos {a b : Nat} (ha : a ≤ 9218868437227405312) (hb : b ≤ 9218868437227405312) : (FloatKind.f64.format.order a b == some .lt) = decide (a < b) := by
  have e : FloatKind.f64.format.order a b = some (compare (vl a : Int) (vl b : Int)) := pos_order ha hb
  rw [e]
  have h := @vl_lt_iff a b
  by_cases h1 : a < b
  · rw [cmp_lt (by omega), decide_eq_true h1]; rfl
  · rw [decide_eq_false h1]
    by_cases h2 : vl a = vl b
    · rw [cmp_eq (by omega)]; rfl
    · rw [cmp_gt (by omega)]; rfl
theorem ge_pos {a b : Nat} (ha : a ≤ 9218868437227405312) (hb : b ≤ 9218868437227405312) : ((FloatKind.f64.format.order a b == some .gt) || (FloatKind.f64.format.order a b == some .eq)) = decide (b ≤ a) := by
  have e : FloatKind.f64.format.order a b = some (compare (vl a : Int) (vl b : Int)) := pos_order ha hb
  rw [e]
  have h := @vl_lt_iff a b
  by_cases h1 : a < b
  · rw [cmp_lt (by omega), decide_eq_false (by omega)]; rfl
  · rw [decide_eq_true (by omega)]
    by_cases h2 : vl a = vl b
    · rw [cmp_eq (by omega)]; rfl
    · rw [cmp_gt (by omega)]; rfl
end Fl
end Go.Proofs.Ytgbeacfiaegehaa
