/-
  The order of a table's groups, as data: the document's words of chapter 7, as functions of numbers. Nothing here names the program.
-/
import Derived.WalkKit
import Derived.Below
namespace Go.Proofs.Ytkjbhhfnhpnifaa
open Go.RowKit

theorem hide {p : Prop} (h : p) : Hid p := h

/-- A power of two from lo to hi. -/
def pw (n lo hi : Int) : Bool := decide (lo ≤ n ∧ n ≤ hi ∧ (n.toNat &&& (n.toNat - 1)) = 0)
theorem two_pow_of {n : Nat} (h0 : n ≠ 0) (h : n &&& (n - 1) = 0) : ∃ k, n = 2 ^ k := (Nat.and_sub_one_eq_zero_iff_isPowerOfTwo h0).1 h
theorem pow_and (k : Nat) : 2 ^ k &&& (2 ^ k - 1) = 0 := (Nat.and_sub_one_eq_zero_iff_isPowerOfTwo (by have := Nat.two_pow_pos k; omega)).2 ⟨k, rfl⟩
theorem pw_iff {n lo hi : Int} (hlo : 1 ≤ lo) : pw n lo hi = true ↔ lo ≤ n ∧ n ≤ hi ∧ ∃ k : Nat, n = ((2 ^ k : Nat) : Int) := by
  unfold pw
  rw [decide_eq_true_iff]
  constructor
  · rintro ⟨h1, h2, h3⟩
    obtain ⟨m, rfl⟩ := Int.eq_ofNat_of_zero_le (show 0 ≤ n by omega)
    obtain ⟨k, hk⟩ := two_pow_of (n := m) (by omega) h3
    exact ⟨h1, h2, k, by rw [hk]⟩
  · rintro ⟨h1, h2, k, rfl⟩
    exact ⟨h1, h2, pow_and k⟩
theorem and_pred (m : Nat) (h1 : 1 ≤ m) (h2 : m ≤ 1000000) : bits .and .i64 (m : Int) ((m : Int) - 1) = ((m &&& (m - 1) : Nat) : Int) := by
  have e : (m : Int) - 1 = ((m - 1 : Nat) : Int) := by omega
  rw [e]
  show IntKind.i64.wrap ((BitVec.ofInt 64 (m : Int) &&& BitVec.ofInt 64 ((m - 1 : Nat) : Int)).toNat : Int) = _
  have ha : (m &&& (m - 1)) ≤ m := Nat.and_le_left
  rw [BitVec.toNat_and, BitVec.ofInt_natCast, BitVec.ofInt_natCast, BitVec.toNat_ofNat, BitVec.toNat_ofNat, Nat.mod_eq_of_lt (by omega), Nat.mod_eq_of_lt (by omega), IntKind.wrap_i64]
  omega

/-- A number of groups that is valid. -/
theorem pwG {n : Int} (h : pw n 1 8192 = true) : ∃ k : Nat, k ≤ 13 ∧ n = ((2 ^ k : Nat) : Int) := by
  obtain ⟨h1, h2, k, rfl⟩ := (pw_iff (by omega)).1 h
  refine ⟨k, Nat.le_of_not_lt fun hk => ?_, rfl⟩
  have := Nat.pow_le_pow_right (n := 2) (by omega) (show 14 ≤ k by omega)
  omega
theorem pwG_pow {k : Nat} (h : k ≤ 13) : pw ((2 ^ k : Nat) : Int) 1 8192 = true := by
  refine (pw_iff (by omega)).2 ⟨?_, ?_, k, rfl⟩
  · have := Nat.two_pow_pos k; omega
  · have := Nat.pow_le_pow_right (n := 2) (by omega) h; omega
theorem pow_bounds {k : Nat} (h : k ≤ 13) : 1 ≤ 2 ^ k ∧ 2 ^ k ≤ 8192 := by
  have := Nat.two_pow_pos k
  have := Nat.pow_le_pow_right (n := 2) (by omega) h
  omega

/-- The group at step n. -/
def metN (h G n : Nat) : Nat := (h + n * (n + 1) / 2) % G
theorem metN_lt {h G n : Nat} (hG : 1 ≤ G) : metN h G n < G := Nat.mod_lt _ hG
theorem metN_zero (h G : Nat) : metN h G 0 = h % G := by simp [metN]
theorem tri_succ (n : Nat) : (n + 1) * (n + 1 + 1) / 2 = n * (n + 1) / 2 + (n + 1) := by
  have e : (n + 1) * (n + 1 + 1) = n * (n + 1) + (n + 1) * 2 := by
    rw [Nat.add_mul, Nat.mul_add, Nat.mul_add]; omega
  rw [e, Nat.add_mul_div_right _ _ (by omega)]
theorem metN_succ (h G n : Nat) : metN h G (n + 1) = (metN h G n + (n + 1)) % G := by
  unfold metN
  rw [tri_succ, Nat.mod_add_mod, Nat.add_assoc]
theorem tri_even (n : Nat) : n * (n + 1) / 2 * 2 = n * (n + 1) := by
  have h : n * (n + 1) % 2 = 0 := by
    rw [Nat.mul_mod]
    rcases Nat.mod_two_eq_zero_or_one n with h | h
    · rw [h, Nat.zero_mul]
    · rw [Nat.add_mod, h]
  omega
/-- Every home's remainder alone counts. -/
theorem metN_mod (h G n : Nat) : metN (h % G) G n = metN h G n := by
  unfold metN
  rw [Nat.mod_add_mod]
theorem wrap_mod {a k : Nat} (h : k ≤ 64) : a % 18446744073709551616 % 2 ^ k = a % 2 ^ k := by
  rw [show (18446744073709551616 : Nat) = 2 ^ 64 by rfl]
  exact Nat.mod_mod_of_dvd _ (Nat.pow_dvd_pow 2 h)

/-- Triangular numbers below a power of two are all different. -/
theorem odd_dvd {k a b : Nat} (ho : b % 2 = 1) (h : 2 ^ k ∣ a * b) : 2 ^ k ∣ a := by
  have hc : Nat.Coprime (2 ^ k) b := Nat.Coprime.pow_left k (by
    have : Nat.gcd 2 b = 1 := by rw [Nat.gcd_rec, ho]; rfl
    exact this)
  exact hc.dvd_of_dvd_mul_right h
theorem metN_lt_ne {h k m n : Nat} (hmn : m < n) (hn : n < 2 ^ k) : metN h (2 ^ k) m ≠ metN h (2 ^ k) n := by
  intro e
  unfold metN at e
  have hle : m * (m + 1) / 2 ≤ n * (n + 1) / 2 := Nat.div_le_div_right (Nat.mul_le_mul (by omega) (by omega))
  have hd : 2 ^ k ∣ (n * (n + 1) / 2 - m * (m + 1) / 2) := by
    have := Nat.dvd_of_mod_eq_zero (Nat.sub_mod_eq_zero_of_mod_eq e.symm)
    rwa [Nat.add_sub_add_left] at this
  have hd2 : 2 ^ (k + 1) ∣ (n - m) * (n + m + 1) := by
    have h1 : 2 ^ k * 2 ∣ (n * (n + 1) / 2 - m * (m + 1) / 2) * 2 := Nat.mul_dvd_mul_right hd 2
    have e1 : (n * (n + 1) / 2 - m * (m + 1) / 2) * 2 = (n - m) * (n + m + 1) := by
      rw [Nat.sub_mul, tri_even, tri_even]
      obtain ⟨d, rfl⟩ : ∃ d, n = m + d := ⟨n - m, by omega⟩
      rw [Nat.add_sub_cancel_left]
      have e2 : (m + d) * (m + d + 1) = m * (m + 1) + d * (m + d + m + 1) := by
        simp only [Nat.add_mul, Nat.mul_add, Nat.mul_one]
        have := Nat.mul_comm m d
        omega
      rw [e2, Nat.add_sub_cancel_left]
    rw [e1] at h1
    exact h1
  have hp : 2 ^ (k + 1) = 2 ^ k * 2 := Nat.pow_succ 2 k
  rcases Nat.mod_two_eq_zero_or_one (n - m) with h0 | h0
  · have ho : (n + m + 1) % 2 = 1 := by omega
    have := Nat.le_of_dvd (by omega) (odd_dvd ho hd2)
    omega
  · rw [Nat.mul_comm] at hd2
    have := Nat.le_of_dvd (by omega) (odd_dvd h0 hd2)
    omega
theorem metN_inj {h k m n : Nat} (hm : m < 2 ^ k) (hn : n < 2 ^ k) (e : metN h (2 ^ k) m = metN h (2 ^ k) n) : m = n := by
  rcases Nat.lt_trichotomy m n with h1 | h1 | h1
  · exact absurd e (metN_lt_ne h1 hn)
  · exact h1
  · exact absurd e.symm (metN_lt_ne h1 hm)

/-- As many places as things: what is one to one meets all. -/
theorem no_inj : ∀ (G : Nat) (f : Nat → Nat), (∀ i, i < G + 1 → f i < G) → (∀ i j, i < G + 1 → j < G + 1 → f i = f j → i = j) → False
  | 0, f, h1, _ => by have := h1 0 (by omega); omega
  | G + 1, f, h1, h2 => by
    refine no_inj G (fun i => if f i = G then f (G + 1) else f i) (fun i hi => ?_) (fun i j hi hj e => ?_)
    · have a := h1 i (by omega)
      have b := h1 (G + 1) (by omega)
      show (if f i = G then f (G + 1) else f i) < G
      split
      · rename_i he
        have : f (G + 1) ≠ G := fun e => by have := h2 i (G + 1) (by omega) (by omega) (he.trans e.symm); omega
        omega
      · omega
    · have a : f i ≠ f (G + 1) := fun e => by have := h2 i (G + 1) (by omega) (by omega) e; omega
      have b : f j ≠ f (G + 1) := fun e => by have := h2 j (G + 1) (by omega) (by omega) e; omega
      split at e <;> split at e
      · rename_i x y; exact h2 i j (by omega) (by omega) (x.trans y.symm)
      · exact absurd e.symm b
      · exact absurd e a
      · exact h2 i j (by omega) (by omega) e
theorem inj_onto {G : Nat} {f : Nat → Nat} (h1 : ∀ i, i < G → f i < G) (h2 : ∀ i j, i < G → j < G → f i = f j → i = j) {x : Nat} (hx : x < G) : ∃ i, i < G ∧ f i = x := by
  apply Classical.byContradiction
  intro hn
  have hne : ∀ i, i < G → f i ≠ x := fun i hi e => hn ⟨i, hi, e⟩
  obtain ⟨g, rfl⟩ : ∃ g, G = g + 1 := ⟨G - 1, by omega⟩
  refine no_inj g (fun i => if f i = g then x else f i) (fun i hi => ?_) (fun i j hi hj e => ?_)
  · have a := h1 i hi
    have b := hne i hi
    show (if f i = g then x else f i) < g
    split <;> omega
  · have a := hne i hi
    have b := hne j hj
    split at e <;> split at e
    · rename_i y z; exact h2 i j hi hj (y.trans z.symm)
    · exact absurd e.symm b
    · exact absurd e a
    · exact h2 i j hi hj e
theorem metN_onto {h k x : Nat} (hx : x < 2 ^ k) : ∃ i, i < 2 ^ k ∧ metN h (2 ^ k) i = x :=
  inj_onto (f := metN h (2 ^ k)) (fun i hi => metN_lt (by omega)) (fun i j hi hj e => metN_inj hi hj e) hx

/-- How many slots may be full. -/
def mostN (s : Int) : Int := if pw s 8 65536 then s / 8 * 7 else 0
/-- The least table, from p on. -/
def slF (n : Int) : Nat → Int → Int
  | 0, _ => 0
  | f + 1, p => if n ≤ p / 8 * 7 then p else slF n f (2 * p)
def slotsN (n : Int) : Int := if n < 0 then 0 else slF n 14 8

theorem pwS_yes : ∀ j, j < 14 → pw ((8 * 2 ^ j : Nat) : Int) 8 65536 = true := by decide
theorem pwS_no : pw ((8 * 2 ^ 14 : Nat) : Int) 8 65536 = false := by decide
theorem pow_int (j : Nat) : ((8 * 2 ^ (j + 1) : Nat) : Int) = 2 * ((8 * 2 ^ j : Nat) : Int) := by
  rw [Nat.pow_succ]; omega
theorem pow_le14 : ∀ {j : Nat}, j ≤ 14 → 8 ≤ ((8 * 2 ^ j : Nat) : Int) ∧ ((8 * 2 ^ j : Nat) : Int) ≤ 131072 := by
  intro j hj
  have := Nat.two_pow_pos j
  have := Nat.pow_le_pow_right (n := 2) (by omega) hj
  omega
theorem pow_le13 {j : Nat} (hj : j ≤ 13) : ((8 * 2 ^ j : Nat) : Int) ≤ 65536 := by
  have := Nat.pow_le_pow_right (n := 2) (by omega) hj
  omega
theorem slF_spec (n : Int) (hn : n ≤ 57344) : ∀ f j, f + j = 14 → (j = 0 ∨ 7 * (2 ^ (j - 1) : Nat) < n) →
    ∃ i, i < 14 ∧ slF n f ((8 * 2 ^ j : Nat) : Int) = ((8 * 2 ^ i : Nat) : Int) ∧ n ≤ 7 * (2 ^ i : Nat) ∧ (i = 0 ∨ 7 * (2 ^ (i - 1) : Nat) < n)
  | 0, j, hj, h => by
    exfalso
    obtain rfl : j = 14 := by omega
    rcases h with h | h
    · omega
    · have : (7 * ((2 ^ (14 - 1) : Nat) : Int)) = 57344 := by decide
      omega
  | f + 1, j, hj, h => by
    unfold slF
    have e : ((8 * 2 ^ j : Nat) : Int) / 8 * 7 = 7 * (2 ^ j : Nat) := by omega
    rw [e]
    by_cases hle : n ≤ 7 * (2 ^ j : Nat)
    · rw [if_pos hle]
      exact ⟨j, by omega, rfl, hle, h⟩
    · rw [if_neg hle, ← pow_int]
      exact slF_spec n hn f (j + 1) (by omega) (Or.inr (by rw [Nat.add_sub_cancel]; omega))
theorem slF_no (n : Int) (hn : 57344 < n) : ∀ f j, f + j = 14 → slF n f ((8 * 2 ^ j : Nat) : Int) = 0
  | 0, _, _ => rfl
  | f + 1, j, hj => by
    unfold slF
    have e : ((8 * 2 ^ j : Nat) : Int) / 8 * 7 = 7 * (2 ^ j : Nat) := by omega
    have := Nat.pow_le_pow_right (n := 2) (by omega) (show j ≤ 13 by omega)
    rw [e, if_neg (by omega), ← pow_int]
    exact slF_no n hn f (j + 1) (by omega)
end Go.Proofs.Ytkjbhhfnhpnifaa
