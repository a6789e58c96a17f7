/-
  typed: numbers as eight bytes, the highest first; plain laws.
-/
import Derived.Test.YtgbeacfiaegehaaBase6
import Derived.Test.YtgbeacfiaegehaaProg
import Derived.Outline
import Derived.Deep.Cut
import Derived.Laws.IdiomStrings
import Derived.Laws.BitsAllLaws
namespace Go.Proofs.Ytgbeacfiaegehaa
open Go.RowKit
set_option linter.unusedVariables false
/-- A fact that the walk does not look into. -/
def Hid (p : Prop) : Prop := p
theorem hide {p : Prop} (h : p) : Hid p := h
theorem Hid.out {p : Prop} (h : Hid p) : p := h
def strOf (x : List UInt8) : ByteArray := ⟨x.toArray⟩
theorem strOf_data (x : List UInt8) : (strOf x).data.toList = x := by simp [strOf]
theorem strOf_self (s : ByteArray) : strOf s.data.toList = s := by simp [strOf]
theorem strOf_append (x y : List UInt8) : strOf x ++ strOf y = strOf (x ++ y) := by
  apply ByteArray.ext
  simp [strOf]
theorem strOf_size (x : List UInt8) : (strOf x).size = x.length := by simp [strOf, ByteArray.size]
theorem strOf_inj {x y : List UInt8} : strOf x = strOf y ↔ x = y := by
  refine ⟨fun h => ?_, fun h => by rw [h]⟩
  have := congrArg (fun s : ByteArray => s.data.toList) h
  simpa [strOf_data] using this
theorem run_text (w : World) (a : Addr) (c n : Nat) (x : List UInt8) (hn : x.length = n) (h : ∀ j (hj : j < x.length), w.cell? (a.add j) = some (.int .u8 (x[j].toNat : Int))) :
    (convert 88 9 (.slice (some a) n c)).run Try.prog w = .ok (.string (strOf x)) w := by
  subst hn
  exact run_convert_bytes_back (P := Try.prog) w 88 9 5 a c x Try.underlying88 Try.underlying5 Try.underlying9 h
theorem wr64 {n : Nat} (h : n ≤ 1099511627776) : wrap64 (n : Int) = (n : Int) ∧ IntKind.i64.wrap (n : Int) = (n : Int) := by
  constructor
  · unfold wrap64; omega
  · rw [IntKind.wrap_i64]; omega
theorem wr64s {n : Nat} (h : n ≤ 1099511627776) : wrap64 ((n : Int) + 1) = (n : Int) + 1 ∧ IntKind.i64.wrap ((n : Int) + 1) = (n : Int) + 1 := by
  constructor
  · unfold wrap64; omega
  · rw [IntKind.wrap_i64]; omega
/-- The last k bytes of a number, the highest first. -/
def be : Nat → Nat → List UInt8
  | 0, _ => []
  | k + 1, n => UInt8.ofNat (n / 256 ^ k % 256) :: be k n
/-- The number of bytes, the highest first, behind what went ahead. -/
def bnA (a : Nat) (l : List UInt8) : Nat := l.foldl (fun a b => a * 256 + b.toNat) a
theorem bnA_cons (a : Nat) (x : UInt8) (l : List UInt8) : bnA a (x :: l) = bnA (a * 256 + x.toNat) l := rfl
theorem bnA_nil (a : Nat) : bnA a [] = a := rfl
theorem bnA_snoc (a : Nat) (l : List UInt8) (x : UInt8) : bnA a (l ++ [x]) = bnA a l * 256 + x.toNat := by simp [bnA]
theorem be_length (k n : Nat) : (be k n).length = k := by
  induction k with
  | zero => rfl
  | succ k ih => simp [be, ih]
theorem byte_nat (n : Nat) : (UInt8.ofNat (n % 256)).toNat = n % 256 := by simp
theorem bn_be (k n : Nat) : ∀ a, bnA a (be k n) = a * 256 ^ k + n % 256 ^ k := by
  induction k with
  | zero => intro a; simp [be, bnA_nil, Nat.mod_one]
  | succ k ih =>
    intro a
    rw [be, bnA_cons, ih, byte_nat, Nat.pow_succ, Nat.mod_mul, Nat.add_mul, Nat.mul_assoc, Nat.mul_comm 256, Nat.mul_comm (n / 256 ^ k % 256)]
    omega
theorem bnA_lt (l : List UInt8) : ∀ a b, a < b → bnA a l < b * 256 ^ l.length := by
  induction l with
  | nil => intro a b h; simpa [bnA_nil] using h
  | cons x l ih =>
    intro a b h
    have hx := x.toNat_lt
    have e : b * 256 ^ (l.length + 1) = b * 256 * 256 ^ l.length := by rw [Nat.pow_succ, Nat.mul_comm _ 256, ← Nat.mul_assoc]
    rw [bnA_cons, List.length_cons, e]
    exact ih _ _ (by omega)
theorem bnA_ge (l : List UInt8) : ∀ a, a * 256 ^ l.length ≤ bnA a l := by
  induction l with
  | nil => intro a; simp [bnA_nil]
  | cons x l ih =>
    intro a
    have e : a * 256 ^ (l.length + 1) = a * 256 * 256 ^ l.length := by rw [Nat.pow_succ, Nat.mul_comm _ 256, ← Nat.mul_assoc]
    rw [bnA_cons, List.length_cons, e]
    exact Nat.le_trans (Nat.mul_le_mul_right _ (by omega)) (ih _)
theorem bnA_lex {k l : List UInt8} (h : k.length = l.length) {a b : Nat} (hab : a < b) : bnA a k < bnA b l :=
  Nat.lt_of_lt_of_le (by have := bnA_lt k a b hab; rwa [h] at this) (bnA_ge l b)
theorem less_bn : ∀ (k l : List UInt8) (a : Nat), k.length = l.length → ((Op.bytesLess k l = true ∧ bnA a k < bnA a l) ∨ (Op.bytesLess k l = false ∧ k = l) ∨ (Op.bytesLess k l = false ∧ k ≠ l ∧ bnA a l < bnA a k))
  | [], [], a, _ => Or.inr (Or.inl ⟨rfl, rfl⟩)
  | [], _ :: _, a, h => by simp at h
  | _ :: _, [], a, h => by simp at h
  | x :: k, y :: l, a, h => by
    have h' : k.length = l.length := by simpa using h
    unfold Op.bytesLess
    by_cases e : x = y
    · subst e
      have e1 : decide (x < x) = false := by simp
      have e2 : (x == x) = true := by simp
      rw [e1, e2, Bool.false_or, Bool.true_and]
      rcases less_bn k l (a * 256 + x.toNat) h' with ⟨q1, q2⟩ | ⟨q1, rfl⟩ | ⟨q1, q2, q3⟩
      · exact Or.inl ⟨q1, q2⟩
      · exact Or.inr (Or.inl ⟨q1, rfl⟩)
      · exact Or.inr (Or.inr ⟨q1, fun q => q2 (List.cons.inj q).2, q3⟩)
    · have e2 : (x == y) = false := by simpa using e
      have hne : x.toNat ≠ y.toNat := fun q => e (UInt8.toNat_inj.1 q)
      rw [e2, Bool.false_and, Bool.or_false]
      by_cases hlt : x.toNat < y.toNat
      · have e1 : decide (x < y) = true := by rw [decide_eq_true_iff]; exact UInt8.lt_iff_toNat_lt.2 hlt
        exact Or.inl ⟨e1, by rw [bnA_cons, bnA_cons]; exact bnA_lex h' (by omega)⟩
      · have e1 : decide (x < y) = false := by rw [decide_eq_false_iff_not]; exact fun q => hlt (UInt8.lt_iff_toNat_lt.1 q)
        exact Or.inr (Or.inr ⟨e1, fun q => e (List.cons.inj q).1, by rw [bnA_cons, bnA_cons]; exact bnA_lex h'.symm (by omega)⟩)
theorem bn_inj {k l : List UInt8} (h : k.length = l.length) (e : bnA 0 k = bnA 0 l) : k = l := by
  rcases less_bn k l 0 h with ⟨q1, q2⟩ | ⟨q1, q2⟩ | ⟨q1, q2, q3⟩
  · omega
  · exact q2
  · omega
/-- The number of eight bytes, of none other. -/
def num8 (l : List UInt8) : Nat := if l.length = 8 then bnA 0 l else 0
theorem num8_yes {l : List UInt8} (h : l.length = 8) : num8 l = bnA 0 l := if_pos h
theorem num8_no {l : List UInt8} (h : ¬ l.length = 8) : num8 l = 0 := if_neg h
theorem bn8_lt {l : List UInt8} (h : l.length = 8) : bnA 0 l < 18446744073709551616 := by
  have := bnA_lt l 0 1 (by omega)
  rw [h] at this
  exact this
theorem num8_lt (l : List UInt8) : num8 l < 18446744073709551616 := by
  unfold num8
  split
  · rename_i h; exact bn8_lt h
  · omega
theorem bn_be8 {n : Nat} (h : n < 18446744073709551616) : bnA 0 (be 8 n) = n := by
  rw [bn_be, Nat.zero_mul, Nat.zero_add]
  exact Nat.mod_eq_of_lt h
theorem num_be8 {n : Nat} (h : n < 18446744073709551616) : num8 (be 8 n) = n := by
  rw [num8_yes (be_length _ _), bn_be8 h]
theorem be_num8 {l : List UInt8} (h : l.length = 8) : be 8 (num8 l) = l :=
  bn_inj (by rw [be_length, h]) (by rw [bn_be8 (num8_lt l), num8_yes h])
theorem be8_inj {n m : Nat} (hn : n < 18446744073709551616) (hm : m < 18446744073709551616) : be 8 n = be 8 m ↔ n = m := by
  refine ⟨fun h => ?_, fun h => by rw [h]⟩
  rw [← bn_be8 hn, h, bn_be8 hm]
theorem be8_less {n m : Nat} (hn : n < 18446744073709551616) (hm : m < 18446744073709551616) : Op.bytesLess (be 8 n) (be 8 m) = decide (n < m) := by
  rcases less_bn (be 8 n) (be 8 m) 0 (by rw [be_length, be_length]) with ⟨q1, q2⟩ | ⟨q1, q2⟩ | ⟨q1, q2, q3⟩
  · rw [bn_be8 hn, bn_be8 hm] at q2
    rw [q1, decide_eq_true q2]
  · rw [q1, (be8_inj hn hm).1 q2, decide_eq_false (by omega)]
  · rw [bn_be8 hn, bn_be8 hm] at q3
    rw [q1, decide_eq_false (by omega)]
theorem be_get (k n i : Nat) (h : i < k) : (be k n)[i]'(by rw [be_length]; exact h) = UInt8.ofNat (n / 256 ^ (k - 1 - i) % 256) := by
  induction k generalizing i with
  | zero => omega
  | succ k ih =>
    cases i with
    | zero => simp [be]
    | succ i =>
      simp only [be, List.getElem_cons_succ]
      rw [ih i (by omega), show k + 1 - 1 - (i + 1) = k - 1 - i by omega]
end Go.Proofs.Ytgbeacfiaegehaa
