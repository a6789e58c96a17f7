/-
  typed: the order of texts that are laid, of bytes one behind the other.
-/
import Derived.Test.YtgbeacfiaegehaaYA
import Derived.Test.YtgbeacfiaegehaaY5
namespace Go.Proofs.Ytgbeacfiaegehaa
open Go.RowKit
open Fl
set_option linter.unusedVariables false
theorem less_cons (x y : UInt8) (k l : List UInt8) : Op.bytesLess (x :: k) (y :: l) = (decide (x < y) || (x == y && Op.bytesLess k l)) := by
  conv => lhs; unfold Op.bytesLess
theorem less_nil (k : List UInt8) : Op.bytesLess k [] = false := by
  cases k <;> rfl
theorem less_self : ∀ k : List UInt8, Op.bytesLess k k = false
  | [] => rfl
  | x :: k => by
    rw [less_cons, less_self k]
    simp
theorem less_append : ∀ (a c b d : List UInt8), a.length = c.length → Op.bytesLess (a ++ b) (c ++ d) = (Op.bytesLess a c || (a == c && Op.bytesLess b d))
  | [], [], b, d, _ => by simp [less_self []]
  | [], _ :: _, _, _, h => by simp at h
  | _ :: _, [], _, _, h => by simp at h
  | x :: a, y :: c, b, d, h => by
    have ih := less_append a c b d (by simpa using h)
    rw [List.cons_append, List.cons_append, less_cons, less_cons, ih]
    by_cases e : x = y
    · subst e
      simp
    · have e2 : (x == y) = false := by simpa using e
      have e3 : ((x :: a) == (y :: c)) = false := by simp [e]
      rw [e2, e3]
      simp
theorem zeros_cons (k : Nat) : zeros (k + 1) = 0 :: zeros k := rfl
theorem less_zeros (k : Nat) (x y : UInt8) : Op.bytesLess (zeros k ++ [x]) (zeros k ++ [y]) = decide (x < y) := by
  rw [less_append _ _ _ _ rfl, less_self, less_cons]
  simp [less_nil]
/-- A text ahead of a longer one, both with zeros behind them. -/
theorem less_front : ∀ (t : List UInt8) (l : Nat) (x y : UInt8), t ≠ [] → x < y → Op.bytesLess (zeros (t.length + l) ++ [x]) (t ++ zeros l ++ [y]) = true ∧ Op.bytesLess (t ++ zeros l ++ [y]) (zeros (t.length + l) ++ [x]) = false
  | [], _, _, _, h, _ => absurd rfl h
  | b :: t, l, x, y, _, hxy => by
    rw [show (b :: t).length + l = (t.length + l) + 1 by simp; omega, zeros_cons]
    simp only [List.cons_append]
    rw [less_cons, less_cons]
    by_cases hb : b = 0
    · subst hb
      simp only [UInt8.lt_irrefl, decide_false, Bool.false_or, BEq.rfl, Bool.true_and]
      by_cases ht : t = []
      · subst ht
        rw [show ([] : List UInt8).length + l = l by simp, List.nil_append, less_zeros, less_zeros]
        exact ⟨decide_eq_true hxy, decide_eq_false (fun q => absurd (UInt8.lt_iff_toNat_lt.1 q) (by have := UInt8.lt_iff_toNat_lt.1 hxy; omega))⟩
      · exact less_front t l x y ht hxy
    · have h0 : (0 : UInt8) < b := by
        rw [UInt8.lt_iff_toNat_lt]
        have : b.toNat ≠ 0 := fun q => hb (UInt8.toNat_inj.1 (by simpa using q))
        show 0 < b.toNat
        omega
      have e1 : (b == 0) = false := by simpa using hb
      have e2 : ((0 : UInt8) == b) = false := by simpa using fun q => hb q.symm
      have e3 : decide (b < 0) = false := by
        rw [decide_eq_false_iff_not]
        intro q
        have := UInt8.lt_iff_toNat_lt.1 q
        have h2 : (0 : UInt8).toNat = 0 := rfl
        omega
      rw [e1, e2, e3, decide_eq_true h0]
      simp
theorem less_tx : ∀ (s t : List UInt8) (k l c : Nat), s.length + k = t.length + l → c + s.length < 256 → c + t.length < 256 → Op.bytesLess (s ++ zeros k ++ [UInt8.ofNat (c + s.length)]) (t ++ zeros l ++ [UInt8.ofNat (c + t.length)]) = Op.bytesLess s t
  | [], [], k, l, c, h, _, _ => by
    obtain rfl : k = l := by simpa using h
    rw [less_self]
    rfl
  | [], b :: t, k, l, c, h, h1, h2 => by
    obtain rfl : k = (b :: t).length + l := by simpa using h
    have hlt : UInt8.ofNat (c + ([] : List UInt8).length) < UInt8.ofNat (c + (b :: t).length) := by
      rw [UInt8.lt_iff_toNat_lt]
      have e1 : (UInt8.ofNat (c + ([] : List UInt8).length)).toNat = c := by
        rw [show UInt8.ofNat (c + ([] : List UInt8).length) = UInt8.ofNat (c % 256) by rw [Nat.mod_eq_of_lt (by simpa using h1)]; rfl, byte_nat]
        have : c < 256 := by simpa using h1
        omega
      have e2 : (UInt8.ofNat (c + (b :: t).length)).toNat = c + (b :: t).length := by
        rw [show UInt8.ofNat (c + (b :: t).length) = UInt8.ofNat ((c + (b :: t).length) % 256) by rw [Nat.mod_eq_of_lt h2], byte_nat]
        omega
      rw [e1, e2]
      simp
    have := (less_front (b :: t) l _ _ (by simp) hlt).1
    rw [List.nil_append, this]
    rfl
  | a :: s, [], k, l, c, h, h1, h2 => by
    obtain rfl : l = (a :: s).length + k := by simpa using h.symm
    have hlt : UInt8.ofNat (c + ([] : List UInt8).length) < UInt8.ofNat (c + (a :: s).length) := by
      rw [UInt8.lt_iff_toNat_lt]
      have e1 : (UInt8.ofNat (c + ([] : List UInt8).length)).toNat = c := by
        rw [show UInt8.ofNat (c + ([] : List UInt8).length) = UInt8.ofNat (c % 256) by rw [Nat.mod_eq_of_lt (by simpa using h2)]; rfl, byte_nat]
        have : c < 256 := by simpa using h2
        omega
      have e2 : (UInt8.ofNat (c + (a :: s).length)).toNat = c + (a :: s).length := by
        rw [show UInt8.ofNat (c + (a :: s).length) = UInt8.ofNat ((c + (a :: s).length) % 256) by rw [Nat.mod_eq_of_lt h1], byte_nat]
        omega
      rw [e1, e2]
      simp
    have := (less_front (a :: s) k _ _ (by simp) hlt).2
    rw [List.nil_append, this, less_nil]
  | a :: s, b :: t, k, l, c, h, h1, h2 => by
    have ih := less_tx s t k l (c + 1) (by simp at h; omega) (by simp at h1; omega) (by simp at h2; omega)
    simp only [List.cons_append, List.length_cons]
    rw [less_cons, less_cons, show c + (s.length + 1) = c + 1 + s.length by omega, show c + (t.length + 1) = c + 1 + t.length by omega, ih]
theorem txB_less {M : Nat} {s t : List UInt8} (hM : M ≤ 127) (hs : s.length ≤ M) (ht : t.length ≤ M) : Op.bytesLess (txB M s) (txB M t) = Op.bytesLess s t := by
  have := less_tx s t (M - s.length) (M - t.length) 0 (by omega) (by omega) (by omega)
  rw [Nat.zero_add, Nat.zero_add] at this
  exact this
theorem txB_inj {M : Nat} {s t : List UInt8} (hM : M ≤ 127) (hs : s.length ≤ M) (ht : t.length ≤ M) : txB M s = txB M t ↔ s = t := by
  refine ⟨fun h => ?_, fun h => by rw [h]⟩
  obtain ⟨h1, h2⟩ := List.append_inj' h rfl
  have h3 : s.length = t.length := by
    have e := congrArg UInt8.toNat (List.cons.inj h2).1
    rw [show UInt8.ofNat s.length = UInt8.ofNat (s.length % 256) by rw [Nat.mod_eq_of_lt (by omega)], show UInt8.ofNat t.length = UInt8.ofNat (t.length % 256) by rw [Nat.mod_eq_of_lt (by omega)], byte_nat, byte_nat] at e
    omega
  exact (List.append_inj h1 h3).1
end Go.Proofs.Ytgbeacfiaegehaa
