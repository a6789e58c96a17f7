/-
  The parts of a hash as numbers.
-/
import Derived.Test.YtflihieaajbihaaChecked
namespace Go.Proofs.Ytflihieaajbihaa

def bitN (h : Nat) (d : Int) : Nat := if 0 ≤ d ∧ d < 64 then h / 2 ^ (63 - d.toNat) % 2 else 0
def topN (h : Nat) (d : Int) : Nat := if 1 ≤ d ∧ d ≤ 6 then h / 2 ^ (64 - d.toNat) else 0
/-- The first i bits from the highest on. -/
def headN (h i : Nat) : Nat := h / 2 ^ (64 - i)
theorem bitN_lt (h : Nat) (d : Int) : bitN h d < 2 := by
  unfold bitN
  split
  · exact Nat.mod_lt _ (by decide)
  · decide
theorem headN_zero {h : Nat} (hh : h < 18446744073709551616) : headN h 0 = 0 := by
  unfold headN
  exact Nat.div_eq_of_lt hh
theorem headN_all (h : Nat) : headN h 64 = h := by
  unfold headN
  simp
theorem headN_succ (h i : Nat) (hi : i < 64) : headN h (i + 1) = 2 * headN h i + bitN h (i : Int) := by
  unfold headN bitN
  rw [if_pos ⟨by omega, by omega⟩, Int.toNat_natCast]
  have e : 64 - i = (63 - i) + 1 := by omega
  have e2 : 64 - (i + 1) = 63 - i := by omega
  rw [e2, e, Nat.pow_succ, ← Nat.div_div_eq_div_mul]
  omega
theorem headN_lt (h i : Nat) (hh : h < 18446744073709551616) (hi : i ≤ 64) : headN h i < 2 ^ i := by
  unfold headN
  rw [Nat.div_lt_iff_lt_mul (Nat.two_pow_pos _), ← Nat.pow_add, show i + (64 - i) = 64 by omega]
  exact hh
theorem topN_head (h : Nat) (i : Nat) (hh : h < 18446744073709551616) (hi : i ≤ 6) : topN h (i : Int) = headN h i := by
  unfold topN
  by_cases h0 : i = 0
  · subst h0
    rw [headN_zero hh]
    rfl
  · rw [if_pos ⟨by omega, by omega⟩, Int.toNat_natCast]
    rfl
theorem topN_lt (h : Nat) (d : Int) (hh : h < 18446744073709551616) : topN h d < 64 := by
  unfold topN
  split
  · rename_i hd
    obtain ⟨d1, d6⟩ := hd
    have := headN_lt h d.toNat hh (by omega)
    unfold headN at this
    have h2 : (2 : Nat) ^ d.toNat ≤ 2 ^ 6 := Nat.pow_le_pow_right (by decide) (by omega)
    omega
  · decide
/-- The highest bit dropped i times. -/
def dropN (h i : Nat) : Nat := h * 2 ^ i % 18446744073709551616
theorem dropN_zero {h : Nat} (hh : h < 18446744073709551616) : dropN h 0 = h := by
  unfold dropN
  rw [Nat.pow_zero, Nat.mul_one, Nat.mod_eq_of_lt hh]
theorem dropN_succ (h i : Nat) : dropN h (i + 1) = dropN h i % 9223372036854775808 * 2 := by
  unfold dropN
  rw [Nat.pow_succ, ← Nat.mul_assoc]
  omega
theorem dropN_lt (h i : Nat) : dropN h i < 18446744073709551616 := Nat.mod_lt _ (by decide)
theorem dropN_bit (h i : Nat) (hi : i < 64) : dropN h i / 9223372036854775808 = bitN h (i : Int) := by
  unfold dropN bitN
  rw [if_pos ⟨by omega, by omega⟩, Int.toNat_natCast]
  have e : (18446744073709551616 : Nat) = 9223372036854775808 * 2 := by decide
  rw [e, Nat.mod_mul_right_div_self]
  have e2 : (9223372036854775808 : Nat) = 2 ^ (63 - i) * 2 ^ i := by
    rw [← Nat.pow_add, show 63 - i + i = 63 by omega]
  rw [e2, Nat.mul_div_mul_right _ _ (Nat.two_pow_pos _)]
end Go.Proofs.Ytflihieaajbihaa
