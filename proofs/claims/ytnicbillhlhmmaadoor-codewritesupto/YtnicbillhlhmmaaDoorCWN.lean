/-
  code: a number's text is read as the number (as data).
-/
import Derived.Test.YtnicbillhlhmmaaDoorSU1
import Derived.Lib.ParseIntB
import Derived.Lib.ItoaNum
namespace Go.Proofs.YtnicbillhlhmmaaDoor
open Go.RowKit
set_option linter.unusedVariables false
def Fit (n : Int) : Prop := -9223372036854775808 ≤ n ∧ n ≤ 9223372036854775807
theorem dec_unfold (u : Nat) : Lib.decDigits u = if u < 10 then [UInt8.ofNat (48 + u)] else Lib.decDigits (u / 10) ++ [UInt8.ofNat (48 + u % 10)] := by
  rw [Lib.decDigits]
  split <;> rfl
theorem dig_val {d : Nat} (h : d < 10) : (UInt8.ofNat (48 + d)).toNat = 48 + d := by
  simp
  omega
theorem dec_ne (u : Nat) : Lib.decDigits u ≠ [] := by
  rw [dec_unfold]
  split <;> simp
theorem dec_last (u : Nat) : 48 ≤ (UInt8.ofNat (48 + u % 10)).toNat ∧ (UInt8.ofNat (48 + u % 10)).toNat ≤ 57 := by
  have := Nat.mod_lt u (show 0 < 10 by decide)
  rw [dig_val this]
  omega
theorem dec_dig : ∀ (k u : Nat), u ≤ k → ∀ x, x ∈ Lib.decDigits u → 48 ≤ x.toNat ∧ x.toNat ≤ 57
  | 0, u, hk, x, hx => by
    rw [dec_unfold, if_pos (by omega)] at hx
    simp only [List.mem_singleton] at hx
    rw [hx, dig_val (by omega)]
    omega
  | k + 1, u, hk, x, hx => by
    rw [dec_unfold] at hx
    split at hx
    · rename_i h
      simp only [List.mem_singleton] at hx
      rw [hx, dig_val h]
      omega
    · rename_i h
      rcases List.mem_append.1 hx with hx | hx
      · exact dec_dig k (u / 10) (by omega) x hx
      · simp only [List.mem_singleton] at hx
        rw [hx]
        exact dec_last u
theorem parse_app (M : Nat) : ∀ (l1 l2 : List UInt8) (acc a : Nat), Lib.parseUintM M acc l1 = .ok a → Lib.parseUintM M acc (l1 ++ l2) = Lib.parseUintM M a l2
  | [], l2, acc, a, h => by
    simp only [Lib.parseUintM] at h
    injection h with h
    subst h
    rfl
  | c :: r, l2, acc, a, h => by
    simp only [List.cons_append, Lib.parseUintM] at h ⊢
    split at h
    · rename_i h1
      rw [if_pos h1]
      split at h
      · cases h
      · rename_i h2
        rw [if_neg h2]
        split at h
        · cases h
        · rename_i h3
          rw [if_neg h3]
          exact parse_app M r l2 _ a h
    · cases h
theorem parse_one {u : Nat} (h : u < 10) : Lib.parseUintM 18446744073709551615 0 [UInt8.ofNat (48 + u)] = .ok u := by
  simp only [Lib.parseUintM, dig_val h]
  rw [if_pos (by omega), if_neg (by omega), if_neg (by omega)]
  congr 1
  omega
theorem parse_dec : ∀ (k u : Nat), u ≤ k → u ≤ 18446744073709551615 → Lib.parseUintM 18446744073709551615 0 (Lib.decDigits u) = .ok u
  | 0, u, hk, hu => by
    rw [dec_unfold, if_pos (by omega)]
    exact parse_one (by omega)
  | k + 1, u, hk, hu => by
    rw [dec_unfold]
    split
    · rename_i h
      exact parse_one h
    · rename_i h
      have ih := parse_dec k (u / 10) (by omega) (by omega)
      rw [parse_app _ _ _ _ _ ih]
      have hm := Nat.mod_lt u (show 0 < 10 by decide)
      simp only [Lib.parseUintM, dig_val hm]
      rw [if_pos (by omega), if_neg (by omega), if_neg (by omega)]
      congr 1
      omega
theorem parseB_dec (u : Nat) (hu : u ≤ 18446744073709551615) : Lib.parseUintB 64 (Lib.decDigits u) = .ok u := by
  unfold Lib.parseUintB
  rw [if_neg (dec_ne u)]
  exact parse_dec u u (Nat.le_refl _) hu
theorem parse_itoa (n : Int) (hn : Fit n) : Lib.parseIntB 64 (Lib.itoa n) = .ok n := by
  obtain ⟨h1, h2⟩ := hn
  have e63 : (2 : Nat) ^ (64 - 1) = 9223372036854775808 := by decide
  unfold Lib.itoa
  split
  · rename_i h
    unfold Lib.parseIntB
    have c45 : (45 : UInt8).toNat = 45 := rfl
    simp only [c45, true_and, or_true, if_true, not_true_eq_false, false_and, if_false, parseB_dec n.natAbs (by omega), e63]
    rw [if_neg (by omega)]
    congr 1
    omega
  · rename_i h
    cases hd : Lib.decDigits n.toNat with
    | nil => exact absurd hd (dec_ne _)
    | cons c r =>
      have hc := dec_dig _ n.toNat (Nat.le_refl _) c (by rw [hd]; exact List.mem_cons_self)
      unfold Lib.parseIntB
      have x1 : ¬ c.toNat = 43 := by omega
      have x2 : ¬ c.toNat = 45 := by omega
      have key : Lib.parseUintB 64 (c :: r) = .ok n.toNat := by
        rw [← hd]
        exact parseB_dec n.toNat (by omega)
      simp only [x1, x2, or_self, if_false, key, e63, not_false_eq_true, true_and, false_and]
      rw [if_neg (by omega)]
      congr 1
      omega
theorem itoa_ne (n : Int) : Lib.itoa n ≠ [] := by
  unfold Lib.itoa
  split
  · simp
  · exact dec_ne _
theorem itoa_mem {n : Int} {y : UInt8} (h : y ∈ Lib.itoa n) : y = 45 ∨ 48 ≤ y.toNat ∧ y.toNat ≤ 57 := by
  unfold Lib.itoa at h
  split at h
  · rcases List.mem_cons.1 h with h | h
    · exact Or.inl h
    · exact Or.inr (dec_dig _ _ (Nat.le_refl _) y h)
  · exact Or.inr (dec_dig _ _ (Nat.le_refl _) y h)
theorem wd_fine {x : List UInt8} (h0 : x ≠ []) (h : ∀ y, y ∈ x → blank y = false ∧ y ≠ 10 ∧ y ≠ 35) : Wd x := ⟨h0, fun y hy => ⟨(h y hy).1, (h y hy).2.1⟩, fun e => (h 35 (List.mem_of_getElem? e)).2.2 rfl⟩
theorem wd_itoa (n : Int) : Wd (Lib.itoa n) := wd_fine (itoa_ne n) fun y hy => by
  have hb : ∀ z : UInt8, z.toNat = 45 ∨ 48 ≤ z.toNat ∧ z.toNat ≤ 57 → blank z = false ∧ z ≠ 10 ∧ z ≠ 35 := by
    have : ∀ k : Fin 256, (UInt8.ofNat k.1).toNat = 45 ∨ 48 ≤ (UInt8.ofNat k.1).toNat ∧ (UInt8.ofNat k.1).toNat ≤ 57 → blank (UInt8.ofNat k.1) = false ∧ UInt8.ofNat k.1 ≠ 10 ∧ UInt8.ofNat k.1 ≠ 35 := by decide +kernel
    intro z
    have h := this ⟨z.toNat, z.toNat_lt⟩
    simpa using h
  exact hb y (by rcases itoa_mem hy with e | e
                 · rw [e]; exact Or.inl rfl
                 · exact Or.inr e)
theorem itoa_plus (n : Int) : Lib.hasPrefix (Lib.itoa n) [43] = false := by
  cases h : Lib.itoa n with
  | nil => exact absurd h (itoa_ne n)
  | cons c r =>
    have hc := itoa_mem (n := n) (y := c) (by rw [h]; exact List.mem_cons_self)
    have : ¬ (43 : UInt8) = c := fun e => by
      rw [← e] at hc
      have h43 : (43 : UInt8).toNat = 43 := rfl
      rcases hc with hc | hc
      · exact absurd hc (by decide)
      · omega
    show ((43 : UInt8) == c && List.isPrefixOf [] r) = false
    simp [this]
theorem dec_len : ∀ (k u : Nat), u < 10 ^ (k + 1) → (Lib.decDigits u).length ≤ k + 1
  | 0, u, h => by
    rw [dec_unfold, if_pos (by simpa using h)]
    simp
  | k + 1, u, h => by
    rw [dec_unfold]
    split
    · simp
    · rw [List.length_append]
      have := dec_len k (u / 10) (by rw [Nat.div_lt_iff_lt_mul (by decide)]; rw [Nat.pow_succ] at h; exact h)
      simp
      omega
theorem itoa_len (n : Int) (hn : Fit n) : (Lib.itoa n).length ≤ 20 := by
  obtain ⟨h1, h2⟩ := hn
  unfold Lib.itoa
  split
  · have := dec_len 18 n.natAbs (by omega)
    simp
    omega
  · have := dec_len 18 n.toNat (by omega)
    omega
end Go.Proofs.YtnicbillhlhmmaaDoor
