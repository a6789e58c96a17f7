/-
  script: the reference's Number.
-/
import Derived.Test.YteimjilngabebaaDoorSE4
namespace Go.Proofs.YteimjilngabebaaDoor
open Go.RowKit
set_option linter.unusedVariables false
theorem strip_dec : ∀ (k u : Nat), u ≤ k → strip (Lib.decDigits u) = Lib.decDigits u ∧ (1 ≤ u → (Lib.decDigits u).head? ≠ some 48)
  | 0, u, hk => by
    obtain rfl : u = 0 := by omega
    refine ⟨?_, fun h => by omega⟩
    rw [dec_unfold, if_pos (by decide)]
    rfl
  | k + 1, u, hk => by
    rw [dec_unfold]
    split
    · rename_i h
      refine ⟨rfl, fun h1 e => ?_⟩
      simp only [List.head?_cons, Option.some.injEq] at e
      have := congrArg UInt8.toNat e
      rw [dig_val h] at this
      have z : (48 : UInt8).toNat = 48 := rfl
      omega
    · rename_i h
      obtain ⟨-, ih⟩ := strip_dec k (u / 10) (by omega)
      have ih := ih (by omega)
      cases hd : Lib.decDigits (u / 10) with
      | nil => exact absurd hd (dec_ne _)
      | cons a r =>
        rw [hd] at ih
        have ha : ¬ a = 48 := fun e => ih (by rw [e]; rfl)
        refine ⟨?_, fun _ e => ha (by simpa using e)⟩
        cases r with
        | nil =>
          simp only [List.cons_append, List.nil_append]
          unfold strip
          rw [if_neg ha]
        | cons b r =>
          simp only [List.cons_append]
          unfold strip
          rw [if_neg ha]
/-- The part of a number's text that is digits, and whether there is a minus ahead. -/
theorem num_parts {m : Int} : ((numD m).data.toList = 45 :: Lib.decDigits m.natAbs ∧ m < 0) ∨ ((numD m).data.toList = Lib.decDigits m.toNat ∧ 0 ≤ m ∧ ∀ r, (numD m).data.toList ≠ 45 :: r) := by
  unfold numD
  rw [strOf_data]
  unfold Lib.itoa
  split
  · exact Or.inl ⟨rfl, by omega⟩
  · refine Or.inr ⟨rfl, by omega, fun r e => ?_⟩
    have := dec_dig _ m.toNat (Nat.le_refl _) 45 (by rw [e]; exact List.mem_cons_self)
    have z : (45 : UInt8).toNat = 45 := rfl
    omega
/-- What is found of digits t that are a number's without its sign. -/
theorem digits_of {u : Nat} (hu : u ≤ 9223372036854775808) : allD 10 (Lib.decDigits u) = true ∧ strip (Lib.decDigits u) = Lib.decDigits u ∧ (Lib.decDigits u).length ≤ 19 ∧ valD (Lib.decDigits u) = (u : Int) :=
  ⟨all_dec u, (strip_dec u u (Nat.le_refl _)).1, dec_len19 18 u (by omega), valD_dec u u (Nat.le_refl _) (by omega)⟩
/-- A number's text with a minus ahead: what is behind it. -/
theorem minus_of {s : ByteArray} {t : List UInt8} (hs : s.data.toList = 45 :: t) {m : Int} (hm : Fit m) (e : s = numD m) : m < 0 ∧ t = Lib.decDigits m.natAbs ∧ m.natAbs ≤ 9223372036854775808 := by
  rw [e] at hs
  obtain ⟨h1, h2⟩ := hm
  rcases num_parts (m := m) with ⟨h, hn⟩ | ⟨-, -, h⟩
  · rw [h] at hs
    injection hs with _ h3
    exact ⟨hn, h3.symm, by omega⟩
  · exact absurd hs (h t)
theorem plain_of {s : ByteArray} (hs : ∀ t, s.data.toList ≠ 45 :: t) {m : Int} (hm : Fit m) (e : s = numD m) : 0 ≤ m ∧ s.data.toList = Lib.decDigits m.toNat ∧ m.toNat ≤ 9223372036854775807 := by
  rw [e] at hs ⊢
  obtain ⟨h1, h2⟩ := hm
  rcases num_parts (m := m) with ⟨h, hn⟩ | ⟨h, h0, -⟩
  · exact absurd h (hs _)
  · exact ⟨h0, h, by omega⟩
/-- What the digits t of a number of that sign are to tell. -/
def Digs (neg : Bool) (t : List UInt8) (n : Int) : Prop := Fit n ∧ ∀ u : Nat, t = Lib.decDigits u → (neg = true → u ≤ 9223372036854775808 → n = -(u : Int)) ∧ (neg = false → u ≤ 9223372036854775807 → n = (u : Int))
theorem digs_zero (neg : Bool) {t : List UInt8} (h : ∀ u : Nat, u ≤ 9223372036854775808 → t = Lib.decDigits u → False) : Digs neg t 0 :=
  ⟨⟨by omega, by omega⟩, fun u e => ⟨fun _ hu => (h u hu e).elim, fun _ hu => (h u (by omega) e).elim⟩⟩
theorem numR_minus {s : ByteArray} {t : List UInt8} (hs : s.data.toList = 45 :: t) {n : Int} (h : Digs true t n) : NumR s n := by
  refine ⟨h.1, fun m hm e => ?_, fun e => ?_⟩
  · obtain ⟨h1, h2, h3⟩ := minus_of hs hm e
    rw [(h.2 _ h2).1 rfl h3]
    omega
  · rw [e] at hs
    cases hs
theorem numR_plain {s : ByteArray} (hs : ∀ t, s.data.toList ≠ 45 :: t) {n : Int} (h : Digs false s.data.toList n) (h0 : s = ⟨#[]⟩ → n = 0) : NumR s n := by
  refine ⟨h.1, fun m hm e => ?_, h0⟩
  obtain ⟨h1, h2, h3⟩ := plain_of hs hm e
  rw [(h.2 _ h2).2 rfl h3]
  omega
end Go.Proofs.YteimjilngabebaaDoor
