/-
  script: the reference's Word: the data of the base 16, and of the base 10 to twenty digits.
-/
import Derived.Test.YtfpiibccggjjpaaDoorHSV4
namespace Go.Proofs.YtfpiibccggjjpaaDoor
open Go.RowKit
set_option linter.unusedVariables false
theorem hex_byte {x : UInt8} (h : digD (x.toNat : Int) < 16) : ∃ d : Nat, d < 16 ∧ digD (x.toNat : Int) = (d : Int) ∧ rdD (x.toNat : Int) 16 = (d : Int) := by
  have h0 := digD_pos (x.toNat : Int) (by omega)
  refine ⟨(digD (x.toNat : Int)).toNat, by omega, by omega, ?_⟩
  unfold rdD
  rw [if_pos h]
  omega
theorem hexF_ge (l : List UInt8) : ∀ a, a * 16 ^ l.length ≤ l.foldl hexS a := by
  induction l with
  | nil => intro a; simp
  | cons x t ih =>
    intro a
    have := ih (hexS a x)
    have h2 : a * 16 * 16 ^ t.length ≤ hexS a x * 16 ^ t.length := Nat.mul_le_mul_right _ (by unfold hexS; omega)
    have e : a * 16 ^ (x :: t).length = a * 16 * 16 ^ t.length := by
      rw [List.length_cons, Nat.pow_succ, Nat.mul_assoc, Nat.mul_comm 16]
    rw [e]
    exact Nat.le_trans h2 this
theorem hexF_lt (l : List UInt8) : ∀ a, (∀ x, x ∈ l → digD (x.toNat : Int) < 16) → l.foldl hexS a < (a + 1) * 16 ^ l.length := by
  induction l with
  | nil => intro a _; simp
  | cons x t ih =>
    intro a h
    have := ih (hexS a x) (fun y hy => h y (List.mem_cons_of_mem _ hy))
    obtain ⟨d, h1, h2, -⟩ := hex_byte (h x List.mem_cons_self)
    have h3 : (hexS a x + 1) * 16 ^ t.length ≤ (a + 1) * 16 * 16 ^ t.length := Nat.mul_le_mul_right _ (by unfold hexS; omega)
    have e : (a + 1) * 16 ^ (x :: t).length = (a + 1) * 16 * 16 ^ t.length := by
      rw [List.length_cons, Nat.pow_succ, Nat.mul_assoc, Nat.mul_comm 16]
    rw [e]
    exact Nat.lt_of_lt_of_le this h3
theorem vstepX_byte {v : Nat} {x : UInt8} (hx : digD (x.toNat : Int) < 16) (h : hexS v x ≤ 18446744073709551615) : vstepX (v : Int) x = ((hexS v x : Nat) : Int) := by
  obtain ⟨d, h1, h2, h3⟩ := hex_byte hx
  unfold hexS at h ⊢
  unfold vstepX
  rw [h2] at h ⊢
  rw [h3]
  have e : ((d : Nat) : Int).toNat = d := by omega
  rw [e] at h ⊢
  simp only [IntKind.wrap_u64]
  omega
theorem valXF_hex (l : List UInt8) : ∀ a : Nat, (∀ x, x ∈ l → digD (x.toNat : Int) < 16) → l.foldl hexS a ≤ 18446744073709551615 → l.foldl vstepX (a : Int) = ((l.foldl hexS a : Nat) : Int) := by
  induction l with
  | nil => intro a _ _; rfl
  | cons x t ih =>
    intro a h hm
    have hm' : t.foldl hexS (hexS a x) ≤ 18446744073709551615 := hm
    have := hexS_le t (hexS a x)
    rw [List.foldl_cons, vstepX_byte (h x List.mem_cons_self) (by omega)]
    exact ih _ (fun y hy => h y (List.mem_cons_of_mem _ hy)) hm
theorem strip_hex : ∀ l : List UInt8, hexV (strip l) = hexV l
  | [] => rfl
  | [a] => rfl
  | a :: b :: r => by
    unfold strip
    split
    · rename_i h
      rw [strip_hex (b :: r), h]
      rfl
    · rfl
theorem digD_zero {x : UInt8} (h : digD (x.toNat : Int) < 16) (h2 : x ≠ 48) : 1 ≤ (digD (x.toNat : Int)).toNat := by
  have h3 : x.toNat ≠ 48 := fun q => h2 (UInt8.toNat_inj.1 q)
  unfold digD at h ⊢
  split at h
  · omega
  · split at h
    · rw [if_neg (by omega), if_pos (by omega)]
      omega
    · split at h
      · omega
      · split at h
        · rw [if_neg (by omega), if_neg (by omega), if_neg (by omega), if_pos (by omega)]
          omega
        · split at h
          · omega
          · split at h
            · rw [if_neg (by omega), if_neg (by omega), if_neg (by omega), if_neg (by omega), if_neg (by omega), if_pos (by omega)]
              omega
            · omega
theorem hex_long {l : List UInt8} (h : allD 16 l = true) (hl : 16 < (strip l).length) : ¬ hexV l < 18446744073709551616 := by
  obtain ⟨a, r, e, ha⟩ := strip_head l (by omega)
  have hd := digD_zero ((allD_iff.1 h).2 a (strip_mem l a (by rw [e]; exact List.mem_cons_self))) ha
  rw [← strip_hex, e]
  rw [e, List.length_cons] at hl
  have h1 := hexF_ge r (hexS 0 a)
  have h2 : 16 ^ 16 ≤ 16 ^ r.length := Nat.pow_le_pow_right (by decide) (by omega)
  have h3 : 1 * 16 ^ r.length ≤ hexS 0 a * 16 ^ r.length := Nat.mul_le_mul_right _ (by unfold hexS; omega)
  have h4 : (16 : Nat) ^ 16 = 18446744073709551616 := by decide
  rw [Nat.one_mul] at h3
  rw [← h4]
  exact Nat.not_lt.2 (Nat.le_trans h2 (Nat.le_trans h3 h1))
theorem hex_short {l : List UInt8} (h : allD 16 l = true) (hl : ¬ 16 < (strip l).length) : hexV l < 18446744073709551616 ∧ valX (strip l) = ((hexV l : Nat) : Int) := by
  have hm : ∀ x, x ∈ strip l → digD (x.toNat : Int) < 16 := fun x hx => (allD_iff.1 h).2 x (strip_mem l x hx)
  have h1 := hexF_lt (strip l) 0 hm
  have h2 : 16 ^ (strip l).length ≤ 16 ^ 16 := Nat.pow_le_pow_right (by decide) (by omega)
  have h4 : (16 : Nat) ^ 16 = 18446744073709551616 := by decide
  rw [h4] at h2
  rw [Nat.zero_add, Nat.one_mul] at h1
  have h5 : hexV (strip l) < 18446744073709551616 := Nat.lt_of_lt_of_le h1 h2
  have h6 : hexV (strip l) ≤ 18446744073709551615 := by omega
  have h7 : (strip l).foldl vstepX ((0 : Nat) : Int) = ((hexV (strip l) : Nat) : Int) := valXF_hex (strip l) 0 hm h6
  rw [strip_hex] at h5 h7
  exact ⟨h5, h7⟩
theorem dec_long {l : List UInt8} (h : allD 10 l = true) (hl : 20 < (strip l).length) : ¬ decF 0 l ≤ 18446744073709551615 := by
  obtain ⟨a, r, e, ha⟩ := strip_head l (by omega)
  have hd := dec_byte ((allD_iff.1 h).2 a (strip_mem l a (by rw [e]; exact List.mem_cons_self)))
  have ha' : a.toNat ≠ 48 := fun q => ha (UInt8.toNat_inj.1 q)
  rw [← strip_keep, e]
  rw [e, List.length_cons] at hl
  have h1 := decF_ge r (decS 0 a)
  have h2 : 10 ^ 20 ≤ 10 ^ r.length := Nat.pow_le_pow_right (by decide) (by omega)
  have h3 : 1 * 10 ^ r.length ≤ decS 0 a * 10 ^ r.length := Nat.mul_le_mul_right _ (by unfold decS; omega)
  have h4 : (10 : Nat) ^ 20 = 100000000000000000000 := by decide
  rw [Nat.one_mul] at h3
  rw [h4] at h2
  have h5 : 100000000000000000000 ≤ decF 0 (a :: r) := Nat.le_trans h2 (Nat.le_trans h3 h1)
  omega
theorem dec_val {l : List UInt8} (h : allD 10 l = true) (hv : decF 0 l ≤ 18446744073709551615) : valD (strip l) = ((decF 0 l : Nat) : Int) := by
  have hm : ∀ x, x ∈ strip l → digD (x.toNat : Int) < 10 := fun x hx => (allD_iff.1 h).2 x (strip_mem l x hx)
  have h7 : (strip l).foldl vstep ((0 : Nat) : Int) = ((decF 0 (strip l) : Nat) : Int) := valF_dec (strip l) 0 hm (by rw [strip_keep]; exact hv)
  rw [strip_keep] at h7
  exact h7
/-- Of two texts of digits that are as long, the one that comes later is the greater number. -/
theorem dec_lex : ∀ (k l : List UInt8) (a b : Nat), k.length = l.length → (∀ x, x ∈ k → digD (x.toNat : Int) < 10) → (∀ x, x ∈ l → digD (x.toNat : Int) < 10) → a < b → decF a k < decF b l
  | [], [], a, b, _, _, _, h => h
  | x :: k, y :: l, a, b, hl, hk, hm, h => by
    obtain ⟨x1, x2, -⟩ := dec_byte (hk x List.mem_cons_self)
    obtain ⟨y1, y2, -⟩ := dec_byte (hm y List.mem_cons_self)
    exact dec_lex k l (decS a x) (decS b y) (by simpa using hl) (fun z hz => hk z (List.mem_cons_of_mem _ hz)) (fun z hz => hm z (List.mem_cons_of_mem _ hz)) (by unfold decS; omega)
  | [], _ :: _, a, b, hl, _, _, _ => by simp at hl
  | _ :: _, [], a, b, hl, _, _, _ => by simp at hl
end Go.Proofs.YtfpiibccggjjpaaDoor
