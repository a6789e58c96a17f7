/-
  script: a number's text is read as the number (as data).
-/
import Derived.Test.YtomlmbhbadicbaaDoorSC14
import Derived.Test.YtomlmbhbadicbaaDoorShelf5
namespace Go.Proofs.YtomlmbhbadicbaaDoor
open Go.RowKit
set_option linter.unusedVariables false
def Fit (n : Int) : Prop := -9223372036854775808 ≤ n ∧ n ≤ 9223372036854775807
theorem dec_unfold (u : Nat) : Lib.decDigits u = if u < 10 then [UInt8.ofNat (48 + u)] else Lib.decDigits (u / 10) ++ [UInt8.ofNat (48 + u % 10)] := by
  rw [Lib.decDigits]
  split <;> rfl
theorem dig_val {d : Nat} (h : d < 10) : (UInt8.ofNat (48 + d)).toNat = 48 + d := by
  simp
  omega
theorem dec_ne (u : Nat) : Lib.decDigits u ≠ [] := by
  rw [dec_unfold]
  split <;> simp
theorem dec_last (u : Nat) : 48 ≤ (UInt8.ofNat (48 + u % 10)).toNat ∧ (UInt8.ofNat (48 + u % 10)).toNat ≤ 57 := by
  have := Nat.mod_lt u (show 0 < 10 by decide)
  rw [dig_val this]
  omega
theorem dec_dig : ∀ (k u : Nat), u ≤ k → ∀ x, x ∈ Lib.decDigits u → 48 ≤ x.toNat ∧ x.toNat ≤ 57
  | 0, u, hk, x, hx => by
    rw [dec_unfold, if_pos (by omega)] at hx
    simp only [List.mem_singleton] at hx
    rw [hx, dig_val (by omega)]
    omega
  | k + 1, u, hk, x, hx => by
    rw [dec_unfold] at hx
    split at hx
    · rename_i h
      simp only [List.mem_singleton] at hx
      rw [hx, dig_val h]
      omega
    · rename_i h
      rcases List.mem_append.1 hx with hx | hx
      · exact dec_dig k (u / 10) (by omega) x hx
      · simp only [List.mem_singleton] at hx
        rw [hx]
        exact dec_last u
theorem parse_app (M : Nat) : ∀ (l1 l2 : List UInt8) (acc a : Nat), Lib.parseUintM M acc l1 = .ok a → Lib.parseUintM M acc (l1 ++ l2) = Lib.parseUintM M a l2
  | [], l2, acc, a, h => by
    simp only [Lib.parseUintM] at h
    injection h with h
    subst h
    rfl
  | c :: r, l2, acc, a, h => by
    simp only [List.cons_append, Lib.parseUintM] at h ⊢
    split at h
    · rename_i h1
      rw [if_pos h1]
      split at h
      · cases h
      · rename_i h2
        rw [if_neg h2]
        split at h
        · cases h
        · rename_i h3
          rw [if_neg h3]
          exact parse_app M r l2 _ a h
    · cases h
theorem parse_one {u : Nat} (h : u < 10) : Lib.parseUintM 18446744073709551615 0 [UInt8.ofNat (48 + u)] = .ok u := by
  simp only [Lib.parseUintM, dig_val h]
  rw [if_pos (by omega), if_neg (by omega), if_neg (by omega)]
  congr 1
  omega
theorem parse_dec : ∀ (k u : Nat), u ≤ k → u ≤ 18446744073709551615 → Lib.parseUintM 18446744073709551615 0 (Lib.decDigits u) = .ok u
  | 0, u, hk, hu => by
    rw [dec_unfold, if_pos (by omega)]
    exact parse_one (by omega)
  | k + 1, u, hk, hu => by
    rw [dec_unfold]
    split
    · rename_i h
      exact parse_one h
    · rename_i h
      have ih := parse_dec k (u / 10) (by omega) (by omega)
      rw [parse_app _ _ _ _ _ ih]
      have hm := Nat.mod_lt u (show 0 < 10 by decide)
      simp only [Lib.parseUintM, dig_val hm]
      rw [if_pos (by omega), if_neg (by omega), if_neg (by omega)]
      congr 1
      omega
theorem parseB_dec (u : Nat) (hu : u ≤ 18446744073709551615) : Lib.parseUintB 64 (Lib.decDigits u) = .ok u := by
  unfold Lib.parseUintB
  rw [if_neg (dec_ne u)]
  exact parse_dec u u (Nat.le_refl _) hu
theorem parse_itoa (n : Int) (hn : Fit n) : Lib.parseIntB 64 (Lib.itoa n) = .ok n := by
  obtain ⟨h1, h2⟩ := hn
  have e63 : (2 : Nat) ^ (64 - 1) = 9223372036854775808 := by decide
  unfold Lib.itoa
  split
  · rename_i h
    unfold Lib.parseIntB
    have c45 : (45 : UInt8).toNat = 45 := rfl
    simp only [c45, true_and, or_true, if_true, not_true_eq_false, false_and, if_false, parseB_dec n.natAbs (by omega), e63]
    rw [if_neg (by omega)]
    congr 1
    omega
  · rename_i h
    cases hd : Lib.decDigits n.toNat with
    | nil => exact absurd hd (dec_ne _)
    | cons c r =>
      have hc := dec_dig _ n.toNat (Nat.le_refl _) c (by rw [hd]; exact List.mem_cons_self)
      unfold Lib.parseIntB
      have x1 : ¬ c.toNat = 43 := by omega
      have x2 : ¬ c.toNat = 45 := by omega
      have key : Lib.parseUintB 64 (c :: r) = .ok n.toNat := by
        rw [← hd]
        exact parseB_dec n.toNat (by omega)
      simp only [x1, x2, or_self, if_false, key, e63, not_false_eq_true, true_and, false_and]
      rw [if_neg (by omega)]
      congr 1
      omega
theorem digD_dec {x : UInt8} (h : 48 ≤ x.toNat ∧ x.toNat ≤ 57) : digD (x.toNat : Int) < 10 := by
  unfold digD
  split
  · omega
  · split
    · omega
    · omega
theorem all_dec (u : Nat) : allD 10 (Lib.decDigits u) = true := allD_iff.2 ⟨dec_ne u, fun x hx => digD_dec (dec_dig _ u (Nat.le_refl _) x hx)⟩
theorem all_itoa (n : Int) : allD 10 (Lib.trimPrefix (Lib.itoa n) [45]) = true := by
  unfold Lib.itoa
  split
  · have : Lib.trimPrefix (45 :: Lib.decDigits n.natAbs) [45] = Lib.decDigits n.natAbs := by
      simp [Lib.trimPrefix, Lib.hasPrefix]
    rw [this]
    exact all_dec _
  · cases hd : Lib.decDigits n.toNat with
    | nil => exact absurd hd (dec_ne _)
    | cons c r =>
      have hc := dec_dig _ n.toNat (Nat.le_refl _) c (by rw [hd]; exact List.mem_cons_self)
      have : Lib.trimPrefix (c :: r) [45] = c :: r := by
        have hne : ¬ (45 : UInt8) = c := fun e => by
          rw [← e] at hc
          have : (45 : UInt8).toNat = 45 := rfl
          omega
        simp [Lib.trimPrefix, Lib.hasPrefix, hne]
      rw [this, ← hd]
      exact all_dec _
/-- What number answers to a text. -/
def NumR (s : ByteArray) (n : Int) : Prop := Fit n ∧ (∀ m, Fit m → s = numD m → n = m) ∧ (s = ⟨#[]⟩ → n = 0)
end Go.Proofs.YtomlmbhbadicbaaDoor
