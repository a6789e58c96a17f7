/-
  Floats of 64 bits as numbers: the magnitudes in rising order, and what the order of two words is.
-/
import GoSem.Core.Float
namespace Go.Proofs.Ytgbeacfiaegehaa
namespace Fl
open Ieee
/-- A magnitude by its rung, in units of the least one. -/
def vl (r : Nat) : Nat := if r < 4503599627370496 then r else (4503599627370496 + r % 4503599627370496) * 2 ^ (r / 4503599627370496 - 1)
theorem vl_succ (r : Nat) : vl r < vl (r + 1) := by
  unfold vl
  by_cases h1 : r < 4503599627370496
  · rw [if_pos h1]
    by_cases h2 : r + 1 < 4503599627370496
    · rw [if_pos h2]; omega
    · obtain rfl : r = 4503599627370495 := by omega
      decide
  · rw [if_neg h1, if_neg (by omega)]
    obtain ⟨q, hq⟩ : ∃ q, r / 4503599627370496 = q + 1 := ⟨r / 4503599627370496 - 1, by omega⟩
    by_cases h2 : r % 4503599627370496 + 1 < 4503599627370496
    · have e1 : (r + 1) / 4503599627370496 = q + 1 := by omega
      have e2 : (r + 1) % 4503599627370496 = r % 4503599627370496 + 1 := by omega
      rw [hq, e1, e2]
      exact Nat.mul_lt_mul_of_pos_right (by omega) (Nat.two_pow_pos _)
    · have e1 : (r + 1) / 4503599627370496 = q + 2 := by omega
      have e2 : (r + 1) % 4503599627370496 = 0 := by omega
      rw [hq, e1, e2, show q + 2 - 1 = (q + 1 - 1) + 1 by omega, Nat.pow_succ, ← Nat.mul_assoc, Nat.mul_right_comm]
      exact Nat.mul_lt_mul_of_pos_right (by omega) (Nat.two_pow_pos _)
theorem vl_lt {r s : Nat} (h : r < s) : vl r < vl s := by
  induction s with
  | zero => omega
  | succ s ih =>
    by_cases e : r = s
    · subst e; exact vl_succ r
    · exact Nat.lt_trans (ih (by omega)) (vl_succ s)
theorem vl_lt_iff {r s : Nat} : vl r < vl s ↔ r < s := by
  refine ⟨fun h => ?_, vl_lt⟩
  by_cases e : r < s
  · exact e
  · exfalso
    by_cases e2 : r = s
    · subst e2; omega
    · have := vl_lt (show s < r by omega); omega
theorem vl_inj {r s : Nat} : vl r = vl s ↔ r = s := by
  refine ⟨fun h => ?_, fun h => by rw [h]⟩
  have h1 := @vl_lt_iff r s
  have h2 := @vl_lt_iff s r
  omega
theorem vl_zero : vl 0 = 0 := by decide
/-- The number of a word with its sign (an infinity's: above all). -/
def sv (x : Nat) : Int := if x / 9223372036854775808 % 2 = 1 then -((vl (x % 9223372036854775808) : Nat) : Int) else ((vl (x % 9223372036854775808) : Nat) : Int)
/-- Is it no number? -/
def nan (x : Nat) : Bool := decide (9218868437227405312 < x % 9223372036854775808)
theorem order_cmp {a b P : Nat} (s t : Bool) (hP : 0 < P) : compare (if s then -((a * P : Nat) : Int) else ((a * P : Nat) : Int)) (if t then -((b * P : Nat) : Int) else ((b * P : Nat) : Int)) = compare (if s then -(a : Int) else (a : Int)) (if t then -(b : Int) else (b : Int)) := by
  have key : ∀ u v : Int, compare (u * (P : Int)) (v * (P : Int)) = compare u v := by
    intro u v
    have hp : (0 : Int) < (P : Int) := by omega
    have h1 : u * (P : Int) < v * (P : Int) ↔ u < v := ⟨fun h => Int.lt_of_mul_lt_mul_right h (by omega), fun h => Int.mul_lt_mul_of_pos_right h hp⟩
    have h2 : u * (P : Int) = v * (P : Int) ↔ u = v := ⟨fun h => Int.eq_of_mul_eq_mul_right (by omega) h, fun h => by rw [h]⟩
    show compareOfLessAndEq _ _ = compareOfLessAndEq _ _
    unfold compareOfLessAndEq
    simp only [h1, h2]
  rw [← key (if s then -(a : Int) else (a : Int))]
  have e1 : (if s then -((a * P : Nat) : Int) else ((a * P : Nat) : Int)) = (if s then -(a : Int) else (a : Int)) * (P : Int) := by cases s <;> simp [Int.neg_mul]
  have e2 : (if t then -((b * P : Nat) : Int) else ((b * P : Nat) : Int)) = (if t then -(b : Int) else (b : Int)) * (P : Int) := by cases t <;> simp [Int.neg_mul]
  rw [e1, e2]
theorem cmp_lt {u v : Int} (h : u < v) : compare u v = .lt := by
  show compareOfLessAndEq _ _ = _
  unfold compareOfLessAndEq
  rw [if_pos h]
theorem cmp_gt {u v : Int} (h : v < u) : compare u v = .gt := by
  show compareOfLessAndEq _ _ = _
  unfold compareOfLessAndEq
  rw [if_neg (by omega), if_neg (by omega)]
theorem cmp_eq {u v : Int} (h : u = v) : compare u v = .eq := by
  show compareOfLessAndEq _ _ = _
  unfold compareOfLessAndEq
  rw [if_neg (by omega), if_pos h]
/-- What a word stands for, in units of the least place. -/
def red (x : Nat) : Datum :=
  if x % 9223372036854775808 < 4503599627370496 then .number (x / 9223372036854775808 % 2 == 1) (x % 9223372036854775808) (-1074)
  else if x % 9223372036854775808 < 9218868437227405312 then .number (x / 9223372036854775808 % 2 == 1) (4503599627370496 + x % 9223372036854775808 % 4503599627370496) (-1074 + ((x % 9223372036854775808 / 4503599627370496 - 1 : Nat) : Int))
  else if x % 9223372036854775808 = 9218868437227405312 then .infinity (x / 9223372036854775808 % 2 == 1)
  else .nan (x / 9223372036854775808 % 2 == 1) (x % 9223372036854775808 - 9218868437227405312)
theorem consts : double.signWeight = 9223372036854775808 ∧ double.binade = 4503599627370496 ∧ double.infRung = 9218868437227405312 ∧ double.leastPlace = -1074 := by decide
theorem read_red (x : Nat) : double.read x = red x := by
  obtain ⟨h1, h2, h3, h4⟩ := consts
  unfold Format.read red
  simp only [h1, h2, h3, h4]
theorem red_num (x : Nat) (h : x % 9223372036854775808 < 9218868437227405312) : ∃ m a : Nat, red x = .number (x / 9223372036854775808 % 2 == 1) m (-1074 + (a : Int)) ∧ m * 2 ^ a = vl (x % 9223372036854775808) := by
  unfold red vl
  by_cases h1 : x % 9223372036854775808 < 4503599627370496
  · rw [if_pos h1, if_pos h1]
    exact ⟨_, 0, rfl, by omega⟩
  · rw [if_neg h1, if_neg h1, if_pos h]
    exact ⟨_, _, rfl, rfl⟩
theorem red_inf (x : Nat) (h : x % 9223372036854775808 = 9218868437227405312) : red x = .infinity (x / 9223372036854775808 % 2 == 1) := by
  unfold red
  rw [if_neg (by omega), if_neg (by omega), if_pos h]
theorem red_nan (x : Nat) (h : 9218868437227405312 < x % 9223372036854775808) : ∃ f, red x = .nan (x / 9223372036854775808 % 2 == 1) f := by
  unfold red
  rw [if_neg (by omega), if_neg (by omega), if_neg (by omega)]
  exact ⟨_, rfl⟩
theorem signed_eq (s : Bool) (m k : Nat) : signed s m k = if s then -((m * 2 ^ k : Nat) : Int) else ((m * 2 ^ k : Nat) : Int) := by
  unfold signed
  rw [Nat.shiftLeft_eq]
theorem sv_eq (x : Nat) : sv x = if (x / 9223372036854775808 % 2 == 1) then -((vl (x % 9223372036854775808) : Nat) : Int) else ((vl (x % 9223372036854775808) : Nat) : Int) := by
  unfold sv
  by_cases h : x / 9223372036854775808 % 2 = 1
  · rw [if_pos h, h]; rfl
  · rw [if_neg h, show (x / 9223372036854775808 % 2 == 1) = false by simpa using h]; rfl
theorem order_num (s t : Bool) (m n a b : Nat) : Datum.order (.number s m (-1074 + (a : Int))) (.number t n (-1074 + (b : Int))) = some (compare (if s then -((m * 2 ^ a : Nat) : Int) else ((m * 2 ^ a : Nat) : Int)) (if t then -((n * 2 ^ b : Nat) : Int) else ((n * 2 ^ b : Nat) : Int))) := by
  unfold Datum.order
  simp only [signed_eq]
  have e1 : (-1074 + (a : Int) - min (-1074 + (a : Int)) (-1074 + (b : Int))).toNat = a - min a b := by omega
  have e2 : (-1074 + (b : Int) - min (-1074 + (a : Int)) (-1074 + (b : Int))).toNat = b - min a b := by omega
  rw [e1, e2, ← order_cmp (P := 2 ^ min a b) s t (Nat.two_pow_pos _)]
  have f1 : m * 2 ^ (a - min a b) * 2 ^ min a b = m * 2 ^ a := by rw [Nat.mul_assoc, ← Nat.pow_add, Nat.sub_add_cancel (Nat.min_le_left _ _)]
  have f2 : n * 2 ^ (b - min a b) * 2 ^ min a b = n * 2 ^ b := by rw [Nat.mul_assoc, ← Nat.pow_add, Nat.sub_add_cancel (Nat.min_le_right _ _)]
  rw [f1, f2]
theorem order_nan (x y : Nat) (h : nan x = true ∨ nan y = true) : double.order x y = none := by
  unfold Format.order
  rw [read_red, read_red]
  rcases h with h | h
  · obtain ⟨f, e⟩ := red_nan x (of_decide_eq_true h)
    rw [e]
    rfl
  · obtain ⟨f, e⟩ := red_nan y (of_decide_eq_true h)
    rw [e]
    cases red x <;> rfl
theorem order_sv (x y : Nat) (hx : nan x = false) (hy : nan y = false) : double.order x y = some (compare (sv x) (sv y)) := by
  have hx' := of_decide_eq_false hx
  have hy' := of_decide_eq_false hy
  unfold Format.order
  rw [read_red, read_red, sv_eq, sv_eq]
  obtain ⟨s, hs⟩ : ∃ s, (x / 9223372036854775808 % 2 == 1) = s := ⟨_, rfl⟩
  obtain ⟨t, ht⟩ : ∃ t, (y / 9223372036854775808 % 2 == 1) = t := ⟨_, rfl⟩
  have top : (0 : Int) < (vl 9218868437227405312 : Int) := by
    have := vl_lt (show 0 < 9218868437227405312 by omega)
    omega
  by_cases h1 : x % 9223372036854775808 < 9218868437227405312
  · obtain ⟨m, a, e1, e2⟩ := red_num x h1
    have l1 := vl_lt h1
    by_cases h2 : y % 9223372036854775808 < 9218868437227405312
    · obtain ⟨n, b, e3, e4⟩ := red_num y h2
      rw [e1, e3, order_num, e2, e4]
    · have h3 : y % 9223372036854775808 = 9218868437227405312 := by omega
      rw [e1, red_inf y h3, h3, hs, ht]
      unfold Datum.order
      cases t
      · refine congrArg some (cmp_lt ?_).symm
        cases s <;> simp <;> omega
      · refine congrArg some (cmp_gt ?_).symm
        cases s <;> simp <;> omega
  · have h3 : x % 9223372036854775808 = 9218868437227405312 := by omega
    rw [red_inf x h3, h3]
    by_cases h2 : y % 9223372036854775808 < 9218868437227405312
    · obtain ⟨n, b, e3, e4⟩ := red_num y h2
      have l1 := vl_lt h2
      rw [e3, hs, ht]
      unfold Datum.order
      cases s
      · refine congrArg some (cmp_gt ?_).symm
        cases t <;> simp <;> omega
      · refine congrArg some (cmp_lt ?_).symm
        cases t <;> simp <;> omega
    · have h4 : y % 9223372036854775808 = 9218868437227405312 := by omega
      rw [red_inf y h4, h4, hs, ht]
      unfold Datum.order
      cases s <;> cases t
      · exact congrArg some (cmp_eq rfl).symm
      · refine congrArg some (cmp_gt ?_).symm
        simp; omega
      · refine congrArg some (cmp_lt ?_).symm
        simp; omega
      · exact congrArg some (cmp_eq rfl).symm
/-- Bits that rise with the values. -/
def rise (x : Nat) : Nat := if nan x = true then 18446744073709551615 else if x % 9223372036854775808 = 0 then 9223372036854775808 else if 9223372036854775808 ≤ x then 18446744073709551615 - x else x + 9223372036854775808
theorem sv_pos {x : Nat} (h : x < 9223372036854775808) : sv x = (vl x : Int) := by
  unfold sv
  rw [if_neg (by omega), Nat.mod_eq_of_lt h]
theorem sv_neg {x : Nat} (h : 9223372036854775808 ≤ x) (h2 : x < 18446744073709551616) : sv x = -(vl (x - 9223372036854775808) : Int) := by
  unfold sv
  rw [if_pos (by omega), show x % 9223372036854775808 = x - 9223372036854775808 by omega]
theorem sv_rise {x y : Nat} (hx : x < 18446744073709551616) (hy : y < 18446744073709551616) (nx : nan x = false) (ny : nan y = false) : (sv x < sv y ↔ rise x < rise y) ∧ (sv x = sv y ↔ rise x = rise y) := by
  have zz := vl_zero
  unfold rise
  rw [nx, ny]
  simp only [Bool.false_eq_true, if_false]
  by_cases h1 : 9223372036854775808 ≤ x <;> by_cases h2 : 9223372036854775808 ≤ y
  · rw [sv_neg h1 hx, sv_neg h2 hy]
    have a1 := @vl_lt_iff (y - 9223372036854775808) (x - 9223372036854775808)
    have a2 := @vl_inj (x - 9223372036854775808) (y - 9223372036854775808)
    rw [if_pos h1, if_pos h2]
    repeat' split
    all_goals omega
  · rw [sv_neg h1 hx, sv_pos (by omega)]
    have a1 := @vl_lt_iff 0 (x - 9223372036854775808)
    have a2 := @vl_lt_iff 0 y
    rw [if_pos h1, if_neg h2]
    repeat' split
    all_goals omega
  · rw [sv_pos (by omega), sv_neg h2 hy]
    have a1 := @vl_lt_iff 0 (y - 9223372036854775808)
    have a2 := @vl_lt_iff 0 x
    rw [if_neg h1, if_pos h2]
    repeat' split
    all_goals omega
  · rw [sv_pos (by omega), sv_pos (by omega)]
    have a1 := @vl_lt_iff x y
    have a2 := @vl_inj x y
    rw [if_neg h1, if_neg h2]
    repeat' split
    all_goals omega
theorem rise_num {x : Nat} (nx : nan x = false) : rise x < 18446744073709551615 := by
  have := of_decide_eq_false nx
  unfold rise
  rw [if_neg (by rw [nx]; decide)]
  split
  · omega
  · split <;> omega
theorem rise_nan {x : Nat} (nx : nan x = true) : rise x = 18446744073709551615 := by
  unfold rise
  rw [if_pos nx]
/-- Less, by numbers alone. -/
theorem lt_rise {x y : Nat} (hx : x < 18446744073709551616) (hy : y < 18446744073709551616) : (double.order x y == some .lt) = (!nan x && !nan y && decide (rise x < rise y)) := by
  by_cases nx : nan x = true
  · rw [order_nan x y (Or.inl nx), nx]; rfl
  · by_cases ny : nan y = true
    · rw [order_nan x y (Or.inr ny), ny]; simp
    · have nx' : nan x = false := by simpa using nx
      have ny' : nan y = false := by simpa using ny
      rw [order_sv x y nx' ny', nx', ny']
      obtain ⟨a1, a2⟩ := sv_rise hx hy nx' ny'
      by_cases h : sv x < sv y
      · rw [cmp_lt h, decide_eq_true (a1.1 h)]; rfl
      · rw [decide_eq_false (fun q => h (a1.2 q))]
        by_cases e : sv x = sv y
        · rw [cmp_eq e]; rfl
        · rw [cmp_gt (by omega)]; rfl
/-- The same, by numbers. -/
theorem eq_rise {x y : Nat} (hx : x < 18446744073709551616) (hy : y < 18446744073709551616) : (double.order x y == some .eq) = (!nan x && !nan y && decide (rise x = rise y)) := by
  by_cases nx : nan x = true
  · rw [order_nan x y (Or.inl nx), nx]; rfl
  · by_cases ny : nan y = true
    · rw [order_nan x y (Or.inr ny), ny]; simp
    · have nx' : nan x = false := by simpa using nx
      have ny' : nan y = false := by simpa using ny
      rw [order_sv x y nx' ny', nx', ny']
      obtain ⟨a1, a2⟩ := sv_rise hx hy nx' ny'
      by_cases h : sv x = sv y
      · rw [cmp_eq h, decide_eq_true (a2.1 h)]; rfl
      · rw [decide_eq_false (fun q => h (a2.2 q))]
        by_cases e : sv x < sv y
        · rw [cmp_lt e]; rfl
        · rw [cmp_gt (by omega)]; rfl
theorem eq_self {x : Nat} (hx : x < 18446744073709551616) : (double.order x x == some .eq) = !nan x := by
  rw [eq_rise hx hx]
  simp
end Fl
end Go.Proofs.Ytgbeacfiaegehaa
