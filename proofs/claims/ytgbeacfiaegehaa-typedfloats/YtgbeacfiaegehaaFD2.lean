/-
  Floats of 64 bits: exact results are written as they are; halving, doubling, what is left of 1, times 2^52.
-/
import Derived.Test.YtgbeacfiaegehaaFD1
import Derived.Laws.FloatArith
namespace Go.Proofs.Ytgbeacfiaegehaa
namespace Fl
open Ieee
theorem log2_mul {n : Nat} (h : 0 < n) (k : Nat) : (n * 2 ^ k).log2 = n.log2 + k := by
  have h1 : n ≠ 0 := by omega
  have h2 : n * 2 ^ k ≠ 0 := Nat.ne_of_gt (Nat.mul_pos h (Nat.two_pow_pos k))
  obtain ⟨a, b⟩ := (Nat.log2_eq_iff h1).1 rfl
  rw [Nat.log2_eq_iff h2]
  constructor
  · rw [Nat.pow_add]; exact Nat.mul_le_mul_right _ a
  · rw [show n.log2 + k + 1 = n.log2 + 1 + k by omega, Nat.pow_add]; exact Nat.mul_lt_mul_of_pos_right b (Nat.two_pow_pos k)
/-- A cut that leaves nothing over. -/
theorem cut_exact (way : Toward) (hw : way = .even ∨ way = .zero) (K d : Nat) (hK : 0 < K) : way.cut false (K * 2 ^ d) d = K := by
  have hl := log2_mul hK d
  unfold Toward.cut
  have hmin : min d ((K * 2 ^ d).log2 + 2) = d := by omega
  have hg : 1 <<< d = 2 ^ d := by rw [Nat.shiftLeft_eq, Nat.one_mul]
  have hpos := Nat.two_pow_pos d
  simp only [hmin, hg, Nat.mul_div_cancel _ hpos, Nat.mul_mod_left]
  rcases hw with rfl | rfl
  · simp
  · simp
theorem cut_none (way : Toward) (hw : way = .even ∨ way = .zero) (n : Nat) : way.cut false n 0 = n := by
  by_cases h : 0 < n
  · have := cut_exact way hw n 0 h
    simpa using this
  · obtain rfl : n = 0 := by omega
    unfold Toward.cut
    rcases hw with rfl | rfl <;> simp
/-- How a magnitude is made: a number of at most 53 digits, and how often it is doubled. -/
theorem vl_parts {c : Nat} (h : 0 < c) : ∃ q K, vl c = K * 2 ^ q ∧ 0 < K ∧ q * 4503599627370496 + K = c ∧ (vl c).log2 - 52 = q := by
  unfold vl
  by_cases h1 : c < 4503599627370496
  · rw [if_pos h1]
    refine ⟨0, c, by simp, h, by omega, ?_⟩
    have : c.log2 < 52 := (Nat.log2_lt (by omega)).2 h1
    omega
  · rw [if_neg h1]
    refine ⟨c / 4503599627370496 - 1, 4503599627370496 + c % 4503599627370496, rfl, by omega, by omega, ?_⟩
    have hl : (4503599627370496 + c % 4503599627370496).log2 = 52 := by
      rw [Nat.log2_eq_iff (by omega)]
      have : c % 4503599627370496 < 4503599627370496 := Nat.mod_lt _ (by omega)
      exact ⟨by omega, by omega⟩
    rw [log2_mul (by omega), hl]
    omega
theorem nearest_exact {mag A E c : Nat} {place : Int} (h0 : 0 < c) (hc : c < 9218868437227405312) (hm : mag * 2 ^ A = vl c * 2 ^ E) (hp : place = -1074 + (A : Int) - (E : Int)) : double.nearest false mag place = c := by
  obtain ⟨s1, s2, s3, s4⟩ := consts
  have hvpos : 0 < vl c := by have := vl_lt h0; omega
  have hmpos : 0 < mag := by
    refine Nat.pos_of_ne_zero fun e => ?_
    rw [e, Nat.zero_mul] at hm
    have := Nat.mul_pos hvpos (Nat.two_pow_pos E)
    omega
  have hlog : mag.log2 + A = (vl c).log2 + E := by rw [← log2_mul hmpos, ← log2_mul hvpos, hm]
  obtain ⟨q, K, e1, hK, e2, e3⟩ := vl_parts h0
  unfold Format.nearest
  rw [if_neg (by omega)]
  simp only [s2, s3, s4]
  have hfb : (double.fractionBits : Int) = 52 := rfl
  have hlast : max (place + (mag.log2 : Int) - (double.fractionBits : Int)) (-1074) = -1074 + (q : Int) := by rw [hfb]; omega
  rw [hlast]
  have hq : (-1074 + (q : Int) - -1074).toNat = q := by omega
  rw [hq]
  have hkept : Toward.even.cut false (mag <<< (place - (-1074 + (q : Int))).toNat) (-1074 + (q : Int) - place).toNat = K := by
    by_cases hA : E + q ≤ A
    · have u1 : (place - (-1074 + (q : Int))).toNat = A - E - q := by omega
      have u2 : (-1074 + (q : Int) - place).toNat = 0 := by omega
      rw [u1, u2, cut_none _ (Or.inl rfl), Nat.shiftLeft_eq]
      have h3 : mag * 2 ^ (A - E - q) * 2 ^ (E + q) = K * 2 ^ (E + q) := by
        rw [Nat.mul_assoc, ← Nat.pow_add, show A - E - q + (E + q) = A by omega, hm, e1, Nat.mul_assoc, ← Nat.pow_add, Nat.add_comm q E]
      exact Nat.eq_of_mul_eq_mul_right (Nat.two_pow_pos _) h3
    · have u1 : (place - (-1074 + (q : Int))).toNat = 0 := by omega
      have u2 : (-1074 + (q : Int) - place).toNat = E + q - A := by omega
      rw [u1, u2, Nat.shiftLeft_zero]
      have h3 : mag * 2 ^ A = K * 2 ^ (E + q - A) * 2 ^ A := by
        rw [Nat.mul_assoc, ← Nat.pow_add, show E + q - A + A = q + E by omega, Nat.pow_add, ← Nat.mul_assoc, ← e1, hm]
      have h4 : mag = K * 2 ^ (E + q - A) := Nat.eq_of_mul_eq_mul_right (Nat.two_pow_pos _) h3
      rw [h4]
      exact cut_exact _ (Or.inl rfl) K _ hK
  rw [hkept, e2]
  unfold Format.word
  rw [if_neg (by decide)]
  exact Nat.min_eq_left (by omega)
/-- The rung of twice a magnitude. -/
def dbl (a : Nat) : Nat := if a < 4503599627370496 then 2 * a else a + 4503599627370496
theorem vl_dbl (a : Nat) : vl (dbl a) = 2 * vl a := by
  unfold dbl
  by_cases h : a < 4503599627370496
  · rw [if_pos h]
    unfold vl
    rw [if_pos h]
    by_cases h2 : 2 * a < 4503599627370496
    · rw [if_pos h2]
    · rw [if_neg h2, show 2 * a / 4503599627370496 - 1 = 0 by omega]
      omega
  · rw [if_neg h]
    unfold vl
    rw [if_neg h, if_neg (by omega), show (a + 4503599627370496) % 4503599627370496 = a % 4503599627370496 by omega, show (a + 4503599627370496) / 4503599627370496 - 1 = (a / 4503599627370496 - 1) + 1 by omega, Nat.pow_succ]
    rw [← Nat.mul_assoc, Nat.mul_comm]
theorem pos_read {a : Nat} (h : a < 9218868437227405312) : ∃ m e : Nat, double.read a = .number false m (-1074 + (e : Int)) ∧ m * 2 ^ e = vl a := by
  obtain ⟨m, e, h1, h2⟩ := red_num a (by omega)
  rw [show (a / 9223372036854775808 % 2 == 1) = false by rw [show a / 9223372036854775808 = 0 by omega]; rfl] at h1
  rw [show a % 9223372036854775808 = a by omega] at h2
  exact ⟨m, e, by rw [read_red, h1], h2⟩
theorem two_read : double.read 4611686018427387904 = .number false 4503599627370496 (-51) := by decide +kernel
theorem one_read : double.read 4607182418800017408 = .number false 4503599627370496 (-52) := by decide +kernel
theorem p52_read : double.read 4841369599423283200 = .number false 4503599627370496 0 := by decide +kernel
/-- Twice. -/
theorem mul_two {a : Nat} (h0 : 0 < a) (h : dbl a < 9218868437227405312) : double.mul a 4611686018427387904 = some (dbl a) := by
  have ha : a < 9218868437227405312 := by unfold dbl at h; split at h <;> omega
  obtain ⟨m, e, h1, h2⟩ := pos_read ha
  unfold Format.mul
  rw [h1, two_read]
  show some (double.nearest (false ^^ false) (m * 4503599627370496) (-1074 + (e : Int) + -51)) = _
  rw [show (false ^^ false) = false from rfl, nearest_exact (A := e) (E := 51) (c := dbl a) (by unfold dbl; split <;> omega) h]
  · rw [vl_dbl, ← h2, Nat.mul_right_comm, show (4503599627370496 : Nat) = 2 ^ 52 from rfl, show (2 : Nat) ^ 52 = 2 * 2 ^ 51 from rfl, ← Nat.mul_assoc, Nat.mul_comm (m * 2 ^ e) 2]
  · omega
/-- Half, of what is not among the least. -/
theorem div_two {a : Nat} (h : 4503599627370496 ≤ a) (h2 : a + 4503599627370496 < 9218868437227405312) : double.div (a + 4503599627370496) 4611686018427387904 = some a := by
  have hr : double.read (a + 4503599627370496) = .number false (4503599627370496 + (a + 4503599627370496) % 4503599627370496) (-1074 + (((a + 4503599627370496) / 4503599627370496 - 1 : Nat) : Int)) := by
    rw [read_red]
    unfold red
    rw [show (a + 4503599627370496) % 9223372036854775808 = a + 4503599627370496 by omega, if_neg (by omega), if_pos h2, show (a + 4503599627370496) / 9223372036854775808 = 0 by omega]
    rfl
  obtain ⟨t, ht⟩ : ∃ t, (a + 4503599627370496) % 4503599627370496 = t := ⟨_, rfl⟩
  obtain ⟨e, he⟩ : ∃ e, (a + 4503599627370496) / 4503599627370496 - 1 = e := ⟨_, rfl⟩
  have ht2 : t < 4503599627370496 := by omega
  have hl : (4503599627370496 + t).log2 = 52 := by
    rw [Nat.log2_eq_iff (by omega)]
    exact ⟨by omega, by omega⟩
  have hl2 : (4503599627370496 : Nat).log2 = 52 := by decide +kernel
  unfold Format.div
  rw [hr, two_read, ht, he]
  have hq : Datum.quotient (double.fractionBits + 2) (.number false (4503599627370496 + t) (-1074 + (e : Int))) (.number false 4503599627370496 (-51)) = some (.number false (8 * (4503599627370496 + t)) (-1074 + (e : Int) - 4)) := by
    unfold Datum.quotient
    dsimp only
    rw [if_neg (by decide)]
    have hm : double.fractionBits + 2 + (4503599627370496 : Nat).log2 - (4503599627370496 + t).log2 = 54 := by rw [hl, hl2]; rfl
    simp only [hm]
    have hs : (4503599627370496 + t) <<< 54 = (4503599627370496 + t) * 4 * 4503599627370496 := by
      rw [Nat.shiftLeft_eq, Nat.mul_assoc]
    rw [hs, Nat.mul_div_cancel _ (by omega), Nat.mul_mod_left]
    refine congrArg some ?_
    have e1 : 2 * ((4503599627370496 + t) * 4) + (0 != 0).toNat = 8 * (4503599627370496 + t) := by
      show 2 * ((4503599627370496 + t) * 4) + 0 = _
      omega
    have e2 : -1074 + (e : Int) - -51 - ((54 : Nat) : Int) - 1 = -1074 + (e : Int) - 4 := by omega
    rw [e1, e2]
    rfl
  rw [hq]
  show some (double.nearest false _ _) = _
  rw [nearest_exact (A := e) (E := 4) (c := a) (by omega) (by omega)]
  · have h3 := vl_dbl a
    have h4 : dbl a = a + 4503599627370496 := by unfold dbl; rw [if_neg (by omega)]
    rw [h4] at h3
    have h5 : vl (a + 4503599627370496) = (4503599627370496 + t) * 2 ^ e := by
      unfold vl
      rw [if_neg (by omega), ht, he]
    rw [h5] at h3
    have h6 : (2 : Nat) ^ 4 = 8 * 2 := rfl
    rw [h6, Nat.mul_comm 8, Nat.mul_assoc, Nat.mul_comm 8, ← Nat.mul_assoc, h3, Nat.mul_comm 2, Nat.mul_assoc, Nat.mul_comm 2 8]
  · rfl
theorem inf_two : double.div 9218868437227405312 4611686018427387904 = some 9218868437227405312 := by decide +kernel
end Fl
end Go.Proofs.Ytgbeacfiaegehaa
