/-
  script: the reference's Number, exactly: the data.
-/
import Derived.Test.YtfpiibccggjjpaaDoorHSE4
import Derived.Test.YtfpiibccggjjpaaDoorUn13
namespace Go.Proofs.YtfpiibccggjjpaaDoor
open Go.RowKit
set_option linter.unusedVariables false
def decS (a : Nat) (x : UInt8) : Nat := a * 10 + (x.toNat - 48)
def decF (a : Nat) (l : List UInt8) : Nat := l.foldl decS a
theorem dec_byte {x : UInt8} (h : digD (x.toNat : Int) < 10) : 48 ≤ x.toNat ∧ x.toNat ≤ 57 ∧ digD (x.toNat : Int) = ((x.toNat - 48 : Nat) : Int) := by
  unfold digD at h ⊢
  split at h
  · omega
  · split at h
    · refine ⟨by omega, by omega, ?_⟩
      rw [if_neg (by omega), if_pos (by omega)]
      omega
    · split at h
      · omega
      · split at h
        · omega
        · split at h
          · omega
          · split at h
            · omega
            · omega
theorem decF_ge (l : List UInt8) : ∀ a, a * 10 ^ l.length ≤ decF a l := by
  induction l with
  | nil => intro a; simp [decF]
  | cons x t ih =>
    intro a
    have := ih (decS a x)
    have h2 : a * 10 * 10 ^ t.length ≤ decS a x * 10 ^ t.length := Nat.mul_le_mul_right _ (by unfold decS; omega)
    have e : a * 10 ^ (x :: t).length = a * 10 * 10 ^ t.length := by
      rw [List.length_cons, Nat.pow_succ, Nat.mul_assoc, Nat.mul_comm 10]
    rw [e]
    exact Nat.le_trans h2 this
theorem decF_mono (l : List UInt8) (a : Nat) : a ≤ decF a l := Nat.le_trans (Nat.le_mul_of_pos_right a (Nat.pow_pos (by decide))) (decF_ge l a)
theorem decF_lt (l : List UInt8) : ∀ a, (∀ x, x ∈ l → digD (x.toNat : Int) < 10) → decF a l < (a + 1) * 10 ^ l.length := by
  induction l with
  | nil => intro a _; simp [decF]
  | cons x t ih =>
    intro a h
    have := ih (decS a x) (fun y hy => h y (List.mem_cons_of_mem _ hy))
    obtain ⟨h1, h2, -⟩ := dec_byte (h x List.mem_cons_self)
    have h3 : (decS a x + 1) * 10 ^ t.length ≤ (a + 1) * 10 * 10 ^ t.length := Nat.mul_le_mul_right _ (by unfold decS; omega)
    have e : (a + 1) * 10 ^ (x :: t).length = (a + 1) * 10 * 10 ^ t.length := by
      rw [List.length_cons, Nat.pow_succ, Nat.mul_assoc, Nat.mul_comm 10]
    rw [e]
    exact Nat.lt_of_lt_of_le this h3
theorem parseM_dec (l : List UInt8) : ∀ a, (∀ x, x ∈ l → digD (x.toNat : Int) < 10) → a ≤ 18446744073709551615 → Lib.parseUintM 18446744073709551615 a l = if decF a l ≤ 18446744073709551615 then .ok (decF a l) else .range := by
  induction l with
  | nil =>
    intro a _ ha
    have e : decF a [] = a := rfl
    rw [e, if_pos ha]
    rfl
  | cons x t ih =>
    intro a h ha
    obtain ⟨h1, h2, -⟩ := dec_byte (h x List.mem_cons_self)
    have e : decF a (x :: t) = decF (a * 10 + (x.toNat - 48)) t := rfl
    have hm := decF_mono t (a * 10 + (x.toNat - 48))
    rw [e]
    simp only [Lib.parseUintM]
    rw [if_pos ⟨h1, h2⟩]
    split
    · rw [if_neg (by omega)]
    · split
      · rw [if_neg (by omega)]
      · exact ih _ (fun y hy => h y (List.mem_cons_of_mem _ hy)) (by omega)
theorem parseU_dec {l : List UInt8} (h : allD 10 l = true) : Lib.parseUintB 64 l = if decF 0 l ≤ 18446744073709551615 then .ok (decF 0 l) else .range := by
  obtain ⟨h0, h1⟩ := allD_iff.1 h
  unfold Lib.parseUintB
  rw [if_neg h0]
  exact parseM_dec l 0 h1 (by omega)
theorem vstep_byte {v : Nat} {x : UInt8} (hx : digD (x.toNat : Int) < 10) (h : decS v x ≤ 18446744073709551615) : vstep (v : Int) x = ((decS v x : Nat) : Int) := by
  obtain ⟨h1, h2, h3⟩ := dec_byte hx
  unfold decS at h ⊢
  obtain ⟨d, hd⟩ : ∃ d, x.toNat - 48 = d := ⟨_, rfl⟩
  have e : x = UInt8.ofNat (48 + d) := by
    apply UInt8.toNat_inj.1
    rw [dig_val (by omega)]
    omega
  rw [hd] at h ⊢
  rw [e]
  exact vstep_dec (by omega) h
theorem valF_dec (l : List UInt8) : ∀ a : Nat, (∀ x, x ∈ l → digD (x.toNat : Int) < 10) → decF a l ≤ 18446744073709551615 → l.foldl vstep (a : Int) = ((decF a l : Nat) : Int) := by
  induction l with
  | nil => intro a _ _; rfl
  | cons x t ih =>
    intro a h hm
    have hm' : decF (decS a x) t ≤ 18446744073709551615 := hm
    have := decF_mono t (decS a x)
    rw [List.foldl_cons, vstep_byte (h x List.mem_cons_self) (by omega)]
    exact ih _ (fun y hy => h y (List.mem_cons_of_mem _ hy)) hm
theorem strip_keep : ∀ l : List UInt8, decF 0 (strip l) = decF 0 l
  | [] => rfl
  | [a] => rfl
  | a :: b :: r => by
    unfold strip
    split
    · rename_i h
      rw [strip_keep (b :: r), h]
      rfl
    · rfl
theorem strip_mem : ∀ (l : List UInt8) x, x ∈ strip l → x ∈ l
  | [], x, h => h
  | [a], x, h => h
  | a :: b :: r, x, h => by
    unfold strip at h
    split at h
    · exact List.mem_cons_of_mem _ (strip_mem (b :: r) x h)
    · exact h
theorem strip_head : ∀ (l : List UInt8), 2 ≤ (strip l).length → ∃ a r, strip l = a :: r ∧ a ≠ 48
  | [], h => by simp [strip] at h
  | [a], h => by simp [strip] at h
  | a :: b :: r, h => by
    unfold strip at h ⊢
    split at h
    · rename_i q
      rw [if_pos q]
      exact strip_head (b :: r) h
    · rename_i q
      rw [if_neg q]
      exact ⟨a, b :: r, rfl, q⟩
theorem strip_long {l : List UInt8} (h : allD 10 l = true) (hl : 19 < (strip l).length) : 10000000000000000000 ≤ decF 0 l := by
  obtain ⟨a, r, e, ha⟩ := strip_head l (by omega)
  have hd := dec_byte ((allD_iff.1 h).2 a (strip_mem l a (by rw [e]; exact List.mem_cons_self)))
  have ha' : a.toNat ≠ 48 := fun q => ha (UInt8.toNat_inj.1 q)
  rw [← strip_keep, e]
  rw [e, List.length_cons] at hl
  have h1 := decF_ge r (decS 0 a)
  have h2 : 10 ^ 19 ≤ 10 ^ r.length := Nat.pow_le_pow_right (by decide) (by omega)
  have h3 : 1 * 10 ^ r.length ≤ decS 0 a * 10 ^ r.length := Nat.mul_le_mul_right _ (by unfold decS; omega)
  have h4 : (10 : Nat) ^ 19 = 10000000000000000000 := by decide
  rw [Nat.one_mul] at h3
  rw [← h4]
  exact Nat.le_trans h2 (Nat.le_trans h3 h1)
theorem strip_short {l : List UInt8} (h : allD 10 l = true) (hl : ¬ 19 < (strip l).length) : decF 0 l < 10000000000000000000 ∧ valD (strip l) = ((decF 0 l : Nat) : Int) := by
  have hm : ∀ x, x ∈ strip l → digD (x.toNat : Int) < 10 := fun x hx => (allD_iff.1 h).2 x (strip_mem l x hx)
  have h1 := decF_lt (strip l) 0 hm
  have h2 : 10 ^ (strip l).length ≤ 10 ^ 19 := Nat.pow_le_pow_right (by decide) (by omega)
  have h4 : (10 : Nat) ^ 19 = 10000000000000000000 := by decide
  rw [h4] at h2
  rw [Nat.zero_add, Nat.one_mul] at h1
  have h5 := Nat.lt_of_lt_of_le h1 h2
  rw [strip_keep] at h5
  refine ⟨h5, ?_⟩
  unfold valD
  have := valF_dec (strip l) 0 hm (by rw [strip_keep]; omega)
  rw [strip_keep] at this
  exact this
/-- What the digits t of a number of that sign tell, exactly. -/
def DigX (neg : Bool) (t : List UInt8) (n er : Int) : Prop :=
  (allD 10 t = false ∧ n = 0 ∧ er = 160) ∨ (allD 10 t = true ∧ (if neg = true then 9223372036854775808 < decF 0 t else 9223372036854775808 ≤ decF 0 t) ∧ n = 0 ∧ er = 161) ∨ (allD 10 t = true ∧ (if neg = true then decF 0 t ≤ 9223372036854775808 ∧ n = -(decF 0 t : Int) else decF 0 t < 9223372036854775808 ∧ n = (decF 0 t : Int)) ∧ er = 0)
theorem numX_minus {s t : List UInt8} (hs : s = 45 :: t) {n er : Int} (h : DigX true t n er) : numE s = (n, er) := by
  subst hs
  have e1 : Lib.trimPrefix (45 :: t) [45] = t := by simp [Lib.trimPrefix, Lib.hasPrefix, List.isPrefixOf]
  unfold numE
  rw [e1]
  have hp : Lib.parseIntB 64 (45 :: t) = (match Lib.parseUintB 64 t with
    | .syntax => .syntax
    | .range => .range
    | .ok u => if 9223372036854775808 < u then .range else .ok (-(u : Int))) := by
    simp [Lib.parseIntB]
    cases Lib.parseUintB 64 t <;> rfl
  rcases h with ⟨h1, rfl, rfl⟩ | ⟨h1, h2, rfl, rfl⟩ | ⟨h1, h2, rfl⟩
  · rw [h1]; rfl
  · rw [if_pos h1, hp, parseU_dec h1]
    rw [if_pos rfl] at h2
    by_cases h3 : decF 0 t ≤ 18446744073709551615
    · rw [if_pos h3]
      simp only
      rw [if_pos h2]
    · rw [if_neg h3]
  · rw [if_pos rfl] at h2
    obtain ⟨h2, rfl⟩ := h2
    rw [if_pos h1, hp, parseU_dec h1, if_pos (by omega)]
    simp only
    rw [if_neg (by omega)]
theorem numX_plain {s : List UInt8} (hs : ∀ t, s ≠ 45 :: t) {n er : Int} (h : DigX false s n er) : numE s = (n, er) := by
  have e1 : Lib.trimPrefix s [45] = s := by
    unfold Lib.trimPrefix Lib.hasPrefix
    cases s with
    | nil => rfl
    | cons a t =>
      have : ¬ a = 45 := fun e => hs t (by rw [e])
      have h2 : ([45] : List UInt8).isPrefixOf (a :: t) = false := by
        simp [List.isPrefixOf]
        exact fun e => this e.symm
      rw [h2]
      rfl
  unfold numE
  rw [e1]
  have hp : allD 10 s = true → Lib.parseIntB 64 s = (match Lib.parseUintB 64 s with
    | .syntax => .syntax
    | .range => .range
    | .ok u => if 9223372036854775808 ≤ u then .range else .ok (u : Int)) := by
    intro h
    obtain ⟨h0, hm⟩ := allD_iff.1 h
    cases s with
    | nil => exact absurd rfl h0
    | cons a t =>
      obtain ⟨q1, q2, -⟩ := dec_byte (hm a List.mem_cons_self)
      have z1 : ¬ a.toNat = 45 := by omega
      have z2 : ¬ a.toNat = 43 := by omega
      simp [Lib.parseIntB, z1, z2]
      cases Lib.parseUintB 64 (a :: t) <;> rfl
  rcases h with ⟨h1, rfl, rfl⟩ | ⟨h1, h2, rfl, rfl⟩ | ⟨h1, h2, rfl⟩
  · rw [h1]; rfl
  · rw [if_pos h1, hp h1, parseU_dec h1]
    rw [if_neg (by decide)] at h2
    by_cases h3 : decF 0 s ≤ 18446744073709551615
    · rw [if_pos h3]
      simp only
      rw [if_pos h2]
    · rw [if_neg h3]
  · rw [if_neg (by decide)] at h2
    obtain ⟨h2, rfl⟩ := h2
    rw [if_pos h1, hp h1, parseU_dec h1, if_pos (by omega)]
    simp only
    rw [if_neg (by omega)]
theorem digx_bad {neg : Bool} {t : List UInt8} (h : allD 10 t = false) : DigX neg t 0 160 := Or.inl ⟨h, rfl, rfl⟩
theorem digx_long {neg : Bool} {t : List UInt8} (ha : allD 10 t = true) (h : 19 < (strip t).length) : DigX neg t 0 161 := by
  have := strip_long ha h
  refine Or.inr (Or.inl ⟨ha, ?_, rfl, rfl⟩)
  split <;> omega
theorem digx_over {t : List UInt8} (ha : allD 10 t = true) (hl : ¬ 19 < (strip t).length) (h : 9223372036854775808 < valD (strip t)) : DigX true t 0 161 := by
  obtain ⟨h1, h2⟩ := strip_short ha hl
  refine Or.inr (Or.inl ⟨ha, ?_, rfl, rfl⟩)
  rw [if_pos rfl]
  omega
theorem digx_least {t : List UInt8} (ha : allD 10 t = true) (hl : ¬ 19 < (strip t).length) (h : valD (strip t) = 9223372036854775808) : DigX true t (-9223372036854775808) 0 := by
  obtain ⟨h1, h2⟩ := strip_short ha hl
  refine Or.inr (Or.inr ⟨ha, ?_, rfl⟩)
  rw [if_pos rfl]
  omega
theorem digx_neg {t : List UInt8} (ha : allD 10 t = true) (hl : ¬ 19 < (strip t).length) (h : valD (strip t) < 9223372036854775808) : DigX true t (-valD (strip t)) 0 := by
  obtain ⟨h1, h2⟩ := strip_short ha hl
  refine Or.inr (Or.inr ⟨ha, ?_, rfl⟩)
  rw [if_pos rfl]
  omega
theorem digx_big {t : List UInt8} (ha : allD 10 t = true) (hl : ¬ 19 < (strip t).length) (h : 9223372036854775807 < valD (strip t)) : DigX false t 0 161 := by
  obtain ⟨h1, h2⟩ := strip_short ha hl
  refine Or.inr (Or.inl ⟨ha, ?_, rfl, rfl⟩)
  rw [if_neg (by decide)]
  omega
theorem digx_pos {t : List UInt8} (ha : allD 10 t = true) (hl : ¬ 19 < (strip t).length) (h : valD (strip t) ≤ 9223372036854775807) : DigX false t (valD (strip t)) 0 := by
  obtain ⟨h1, h2⟩ := strip_short ha hl
  refine Or.inr (Or.inr ⟨ha, ?_, rfl⟩)
  rw [if_neg (by decide)]
  omega
end Go.Proofs.YtfpiibccggjjpaaDoor
