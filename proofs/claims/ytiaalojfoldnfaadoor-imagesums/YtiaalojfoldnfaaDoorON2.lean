/-
  The reference's numbers: xor, down, whole.
-/
import Derived.Test.YtiaalojfoldnfaaDoorON1
namespace Go.Proofs.YtiaalojfoldnfaaDoor
open Go.RowKit
set_option linter.unusedVariables false

theorem pow_16 (i : Nat) : 65536 ^ i = 2 ^ (16 * i) := by rw [Nat.pow_mul]
theorem dig_xor (a b i : Nat) : dig (a ^^^ b) i = dig a i ^^^ dig b i := by
  unfold dig
  have e : (65536 : Nat) = 2 ^ 16 := by decide
  rw [pow_16, Nat.xor_div_two_pow, e, Nat.xor_mod_two_pow]
theorem xor_i64 (a b : Nat) (ha : a < 65536) (hb : b < 65536) : bits .xor .i64 (a : Int) (b : Int) = ((a ^^^ b : Nat) : Int) := by
  have hx : a ^^^ b < 2 ^ 16 := Nat.xor_lt_two_pow (by omega) (by omega)
  have h1 : (BitVec.ofInt 64 (a : Int)).toNat = a := by
    rw [BitVec.ofInt_natCast, BitVec.toNat_ofNat]; exact Nat.mod_eq_of_lt (by omega)
  have h2 : (BitVec.ofInt 64 (b : Int)).toNat = b := by
    rw [BitVec.ofInt_natCast, BitVec.toNat_ofNat]; exact Nat.mod_eq_of_lt (by omega)
  show IntKind.i64.wrap ((BitVec.ofInt 64 (a : Int) ^^^ BitVec.ofInt 64 (b : Int)).toNat : Int) = _
  rw [BitVec.toNat_xor, h1, h2, IntKind.wrap_i64]
  omega
theorem whole_step (v i : Nat) : v / 65536 ^ i = v / 65536 ^ (i + 1) * 65536 + dig v i := by
  unfold dig
  rw [Nat.pow_succ, ← Nat.div_div_eq_div_mul]
  omega
theorem whole_top {v : Nat} (h : v < 18446744073709551616) : v / 65536 ^ 4 = 0 := Nat.div_eq_of_lt h

theorem down_core (X r p s : Nat) (hp : p * s = 65536) : X / p % 65536 = X % 65536 / p + X / 65536 % p * s := by
  have hp0 : 0 < p := by
    refine Nat.pos_of_ne_zero fun e => ?_
    subst e
    omega
  have hs0 : 0 < s := by
    refine Nat.pos_of_ne_zero fun e => ?_
    subst e
    omega
  have e1 : X = X % 65536 + p * (X / 65536 * s) := by
    have h1 : X / 65536 * 65536 + X % 65536 = X := Nat.div_add_mod' X 65536
    have h2 : p * (X / 65536 * s) = X / 65536 * 65536 := by rw [Nat.mul_left_comm, hp]
    omega
  have e2 : X / p = X % 65536 / p + X / 65536 * s := by
    have := Nat.add_mul_div_left (X % 65536) (X / 65536 * s) hp0
    rw [← this, ← e1]
  have e3 : X / 65536 * s = p * s * (X / 65536 / p) + X / 65536 % p * s := by
    have h1 := Nat.div_add_mod (X / 65536) p
    have h2 : (p * (X / 65536 / p) + X / 65536 % p) * s = X / 65536 * s := by rw [h1]
    rw [Nat.add_mul] at h2
    have h3 : p * (X / 65536 / p) * s = p * s * (X / 65536 / p) := by rw [Nat.mul_right_comm]
    omega
  have e4 : X % 65536 / p < s := by
    rw [Nat.div_lt_iff_lt_mul hp0, Nat.mul_comm, hp]
    exact Nat.mod_lt _ (by decide)
  have e5 : X / 65536 % p * s + s ≤ p * s := by
    have : X / 65536 % p + 1 ≤ p := Nat.mod_lt _ hp0
    have h2 := Nat.mul_le_mul_right s this
    rw [Nat.add_mul, Nat.one_mul] at h2
    exact h2
  rw [e2, e3, hp]
  rw [hp] at e5
  generalize X / 65536 % p * s = Y at *
  generalize X % 65536 / p = Z at *
  generalize X / 65536 / p = W at *
  omega
theorem dig_high {a : Nat} (ha : a < 18446744073709551616) {k : Nat} (hk : 4 ≤ k) : dig a k = 0 := by
  unfold dig
  have h2 : (65536 : Nat) ^ 4 ≤ 65536 ^ k := Nat.pow_le_pow_right (by decide) hk
  rw [Nat.div_eq_of_lt (Nat.lt_of_lt_of_le ha h2)]
/-- A digit of a number shifted by k. -/
theorem dig_down (a k i : Nat) : dig (a / 2 ^ k) i = dig a (i + k / 16) / 2 ^ (k % 16) + dig a (i + k / 16 + 1) % 2 ^ (k % 16) * 2 ^ (16 - k % 16) := by
  have hr : k % 16 < 16 := Nat.mod_lt _ (by decide)
  have hp : 2 ^ (k % 16) * 2 ^ (16 - k % 16) = 65536 := by
    rw [← Nat.pow_add, show k % 16 + (16 - k % 16) = 16 by omega]
  have e1 : a / 2 ^ k / 65536 ^ i = a / 65536 ^ (i + k / 16) / 2 ^ (k % 16) := by
    rw [Nat.div_div_eq_div_mul, Nat.div_div_eq_div_mul, pow_16, pow_16, ← Nat.pow_add, ← Nat.pow_add]
    congr 2
    omega
  have e2 : a / 65536 ^ (i + k / 16 + 1) = a / 65536 ^ (i + k / 16) / 65536 := by rw [Nat.pow_succ, Nat.div_div_eq_div_mul]
  unfold dig
  rw [e1, e2, down_core _ 0 _ _ hp]
  congr 2
  rw [Nat.mod_mod_of_dvd]
  exact ⟨_, hp.symm⟩
end Go.Proofs.YtiaalojfoldnfaaDoor
