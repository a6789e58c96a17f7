/-
  Layouts as data: the document's words of chapter 3, as functions of numbers. Nothing here names the program.
-/
import Derived.WalkKit
import Derived.Below
namespace Go.Proofs.Yteepnkhfeokenaa
open Go.RowKit

/-- A power of two from lo to hi. -/
def pw (n lo hi : Int) : Bool := decide (lo ≤ n ∧ n ≤ hi ∧ (n.toNat &&& (n.toNat - 1)) = 0)
/-- May a width w have the alignment a? -/
def al (w a : Int) : Bool := pw a 1 8 && decide (w % a = 0)
def errN (k e a b c : Int) : Int :=
  if k < 1 ∨ 128 < k then 31 else if e < 0 ∨ 128 < e then 32 else if al k a = false ∨ al e b = false then 33 else if pw c 16 1024 = false then 34 else 0
/-- x raised to a. -/
def up (x a : Int) : Int := (x + a - 1) / a * a
structure Lay where
  k : Int
  e : Int
  a : Int
  b : Int
  c : Int
  eo : Int
  bo : Int
  s : Int
  g : Int
deriving DecidableEq
def Lay.zero : Lay := ⟨0, 0, 0, 0, 0, 0, 0, 0, 0⟩
def slotOf (k e b : Int) : Int := up (up k b + e) 8 + 8
def laidD (k e a b c : Int) : Lay := ⟨k, e, a, b, c, up k b, up (up k b + e) 8, slotOf k e b, 8 + 8 * slotOf k e b⟩
def Lay.val (l : Lay) : Value := .agg #[.int .i64 l.k, .int .i64 l.e, .int .i64 l.a, .int .i64 l.b, .int .i64 l.c, .int .i64 l.eo, .int .i64 l.bo, .int .i64 l.s, .int .i64 l.g]
def parseD : List Int → Lay × Int
  | [k, e, a, b, c] => if errN k e a b c = 0 then (laidD k e a b c, 0) else (Lay.zero, errN k e a b c)
  | _ => (Lay.zero, 30)
def validB (l : Lay) : Bool := decide (errN l.k l.e l.a l.b l.c = 0 ∧ l = laidD l.k l.e l.a l.b l.c)

theorem two_pow_of {n : Nat} (h0 : n ≠ 0) (h : n &&& (n - 1) = 0) : ∃ k, n = 2 ^ k := (Nat.and_sub_one_eq_zero_iff_isPowerOfTwo h0).1 h
theorem pw8 {a : Int} : pw a 1 8 = true ↔ a = 1 ∨ a = 2 ∨ a = 4 ∨ a = 8 := by
  unfold pw
  rw [decide_eq_true_iff]
  constructor
  · rintro ⟨h1, h2, h3⟩
    obtain ⟨n, rfl⟩ := Int.eq_ofNat_of_zero_le (show 0 ≤ a by omega)
    have h2' : n < 9 := by omega
    have h1' : 1 ≤ n := by omega
    have : ∀ m : Fin 9, 1 ≤ m.val → m.val &&& (m.val - 1) = 0 → m.val = 1 ∨ m.val = 2 ∨ m.val = 4 ∨ m.val = 8 := by decide
    have := this ⟨n, h2'⟩ h1' h3
    simp only at this
    omega
  · rintro (rfl | rfl | rfl | rfl) <;> decide
theorem pwCap {c : Int} : pw c 16 1024 = true ↔ c = 16 ∨ c = 32 ∨ c = 64 ∨ c = 128 ∨ c = 256 ∨ c = 512 ∨ c = 1024 := by
  unfold pw
  rw [decide_eq_true_iff]
  constructor
  · rintro ⟨h1, h2, h3⟩
    obtain ⟨n, rfl⟩ := Int.eq_ofNat_of_zero_le (show 0 ≤ c by omega)
    obtain ⟨j, hj⟩ := two_pow_of (by omega) h3
    have hj' : n = 2 ^ j := hj
    have hlt : j < 11 := by
      refine Nat.lt_of_not_le fun hge => ?_
      have := Nat.pow_le_pow_right (show 0 < 2 by omega) hge
      omega
    have : ∀ m : Fin 11, 16 ≤ 2 ^ m.val → 2 ^ m.val = 16 ∨ 2 ^ m.val = 32 ∨ 2 ^ m.val = 64 ∨ 2 ^ m.val = 128 ∨ 2 ^ m.val = 256 ∨ 2 ^ m.val = 512 ∨ 2 ^ m.val = 1024 := by decide
    have := this ⟨j, hlt⟩ (by show 16 ≤ 2 ^ j; omega)
    simp only at this
    omega
  · rintro (rfl | rfl | rfl | rfl | rfl | rfl | rfl) <;> decide
theorem pwSlots {s : Int} : pw s 8 65536 = true ↔ s = 8 ∨ s = 16 ∨ s = 32 ∨ s = 64 ∨ s = 128 ∨ s = 256 ∨ s = 512 ∨ s = 1024 ∨ s = 2048 ∨ s = 4096 ∨ s = 8192 ∨ s = 16384 ∨ s = 32768 ∨ s = 65536 := by
  unfold pw
  rw [decide_eq_true_iff]
  constructor
  · rintro ⟨h1, h2, h3⟩
    obtain ⟨n, rfl⟩ := Int.eq_ofNat_of_zero_le (show 0 ≤ s by omega)
    obtain ⟨j, hj⟩ := two_pow_of (by omega) h3
    have hj' : n = 2 ^ j := hj
    have hlt : j < 17 := by
      refine Nat.lt_of_not_le fun hge => ?_
      have := Nat.pow_le_pow_right (show 0 < 2 by omega) hge
      omega
    have : ∀ m : Fin 17, 8 ≤ 2 ^ m.val → 2 ^ m.val = 8 ∨ 2 ^ m.val = 16 ∨ 2 ^ m.val = 32 ∨ 2 ^ m.val = 64 ∨ 2 ^ m.val = 128 ∨ 2 ^ m.val = 256 ∨ 2 ^ m.val = 512 ∨ 2 ^ m.val = 1024 ∨ 2 ^ m.val = 2048 ∨ 2 ^ m.val = 4096 ∨ 2 ^ m.val = 8192 ∨ 2 ^ m.val = 16384 ∨ 2 ^ m.val = 32768 ∨ 2 ^ m.val = 65536 := by decide
    have := this ⟨j, hlt⟩ (by show 8 ≤ 2 ^ j; omega)
    simp only at this
    omega
  · rintro (rfl | rfl | rfl | rfl | rfl | rfl | rfl | rfl | rfl | rfl | rfl | rfl | rfl | rfl) <;> decide

/-- The model's '&' of n and n - 1. -/
theorem and_pred (n : Nat) (h1 : 1 ≤ n) (h2 : n < 9223372036854775808) : IntKind.i64.wrap (((BitVec.ofInt 64 (n : Int)) &&& (BitVec.ofInt 64 ((n : Int) - 1))).toNat : Int) = ((n &&& (n - 1) : Nat) : Int) := by
  have e1 : BitVec.ofInt 64 (n : Int) = BitVec.ofNat 64 n := by simp
  have e2 : BitVec.ofInt 64 ((n : Int) - 1) = BitVec.ofNat 64 (n - 1) := by
    rw [show (n : Int) - 1 = ((n - 1 : Nat) : Int) by omega]
    simp
  rw [e1, e2, BitVec.toNat_and, BitVec.toNat_ofNat, BitVec.toNat_ofNat, Nat.mod_eq_of_lt (by omega), Nat.mod_eq_of_lt (by omega)]
  have : n &&& (n - 1) ≤ n := Nat.and_le_left
  rw [IntKind.wrap_i64]
  omega
theorem up_and (a : Nat) (ha : a = 1 ∨ a = 2 ∨ a = 4 ∨ a = 8) (x : Nat) (h : x ≤ 300) : IntKind.i64.wrap (((BitVec.ofInt 64 ((x : Int) + (a : Int) - 1)) &&& ~~~ (BitVec.ofInt 64 ((a : Int) - 1))).toNat : Int) = up (x : Int) (a : Int) := by
  have key : ∀ m : Fin 301, IntKind.i64.wrap (((BitVec.ofInt 64 (((m.val : Nat) : Int) + 1 - 1)) &&& ~~~ (BitVec.ofInt 64 ((1 : Int) - 1))).toNat : Int) = up ((m.val : Nat) : Int) 1 ∧
      IntKind.i64.wrap (((BitVec.ofInt 64 (((m.val : Nat) : Int) + 2 - 1)) &&& ~~~ (BitVec.ofInt 64 ((2 : Int) - 1))).toNat : Int) = up ((m.val : Nat) : Int) 2 ∧
      IntKind.i64.wrap (((BitVec.ofInt 64 (((m.val : Nat) : Int) + 4 - 1)) &&& ~~~ (BitVec.ofInt 64 ((4 : Int) - 1))).toNat : Int) = up ((m.val : Nat) : Int) 4 ∧
      IntKind.i64.wrap (((BitVec.ofInt 64 (((m.val : Nat) : Int) + 8 - 1)) &&& ~~~ (BitVec.ofInt 64 ((8 : Int) - 1))).toNat : Int) = up ((m.val : Nat) : Int) 8 := by
    decide +kernel
  have := key ⟨x, by omega⟩
  rcases ha with rfl | rfl | rfl | rfl
  · exact this.1
  · exact this.2.1
  · exact this.2.2.1
  · exact this.2.2.2
end Go.Proofs.Yteepnkhfeokenaa
