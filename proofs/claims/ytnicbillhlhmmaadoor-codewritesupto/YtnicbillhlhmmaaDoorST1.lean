/-
  script: lines and words of a text, as data; what a rune that is no letter skips.
-/
import Derived.Test.YtnicbillhlhmmaaDoorSC0
namespace Go.Proofs.YtnicbillhlhmmaaDoor
open Go.RowKit
set_option linter.unusedVariables false

theorem get_at (s : ByteArray) (j : Nat) (h : j < s.size) : s.get! j = s[j]'h := by
  simp [ByteArray.get!, getElem!_pos, h]
  rfl
/-- A rune's bytes behind the first are no letters; it ends within the text. -/
theorem decode_step (s : ByteArray) (pos : Nat) (h : pos < s.size) : 1 ≤ (Utf8.decode s pos).2 ∧ pos + (Utf8.decode s pos).2 ≤ s.size ∧ ∀ j (hj : j < s.size), pos < j → j < pos + (Utf8.decode s pos).2 → 128 ≤ (s[j]'hj).toNat := by
  have one : ∀ v : Nat, 1 ≤ ((v, 1) : Nat × Nat).2 ∧ pos + ((v, 1) : Nat × Nat).2 ≤ s.size ∧ ∀ j (hj : j < s.size), pos < j → j < pos + ((v, 1) : Nat × Nat).2 → 128 ≤ (s[j]'hj).toNat := fun v => ⟨Nat.le_refl _, h, fun j hj h1 h2 => by
    have : j < pos + 1 := h2
    omega⟩
  have cont : ∀ k, (decide (pos + k < s.size) && (s.get! (pos + k)).toNat / 64 == 2) = true → pos + k < s.size ∧ ∀ (hj : pos + k < s.size), 128 ≤ (s[pos + k]'hj).toNat := fun k hk => by
    simp only [Bool.and_eq_true, decide_eq_true_eq, beq_iff_eq] at hk
    refine ⟨hk.1, fun hj => ?_⟩
    have := hk.2
    rw [get_at s (pos + k) hj] at this
    omega
  unfold Utf8.decode
  simp only
  split
  · exact one _
  · split
    · rename_i q
      simp only [Bool.and_eq_true] at q
      obtain ⟨a1, a2⟩ := cont 1 (by simpa using q.2)
      split
      · refine ⟨show 1 ≤ 2 by decide, a1, fun j hj h1 h2 => ?_⟩
        obtain rfl : j = pos + 1 := by
          have : j < pos + 2 := h2
          omega
        exact a2 hj
      · exact one _
    · split
      · rename_i q
        simp only [Bool.and_eq_true] at q
        obtain ⟨a1, a2⟩ := cont 1 (by simpa using q.1.2)
        obtain ⟨b1, b2⟩ := cont 2 (by simpa using q.2)
        split
        · refine ⟨show 1 ≤ 3 by decide, b1, fun j hj h1 h2 => ?_⟩
          have h3 : j < pos + 3 := h2
          have h4 : j = pos + 1 ∨ j = pos + 2 := by omega
          rcases h4 with rfl | rfl
          · exact a2 hj
          · exact b2 hj
        · exact one _
      · split
        · rename_i q
          simp only [Bool.and_eq_true] at q
          obtain ⟨a1, a2⟩ := cont 1 (by simpa using q.1.1.2)
          obtain ⟨b1, b2⟩ := cont 2 (by simpa using q.1.2)
          obtain ⟨c1, c2⟩ := cont 3 (by simpa using q.2)
          split
          · refine ⟨show 1 ≤ 4 by decide, c1, fun j hj h1 h2 => ?_⟩
            have h3 : j < pos + 4 := h2
            have h4 : j = pos + 1 ∨ j = pos + 2 ∨ j = pos + 3 := by omega
            rcases h4 with rfl | rfl | rfl
            · exact a2 hj
            · exact b2 hj
            · exact c2 hj
          · exact one _
        · exact one _
/-- A text's lines under way: those that have ended, and the one that has not. -/
def lnS (st : List (List UInt8) × List UInt8) (x : UInt8) : List (List UInt8) × List UInt8 := if x = 10 then (st.1 ++ [st.2], []) else (st.1, st.2 ++ [x])
def lnF (l : List UInt8) : List (List UInt8) × List UInt8 := l.foldl lnS ([], [])
def linesD (l : List UInt8) : List (List UInt8) := if (lnF l).2 = [] then (lnF l).1 else (lnF l).1 ++ [(lnF l).2]
theorem lnF_take {l : List UInt8} {i : Nat} (h : i < l.length) : lnF (l.take (i + 1)) = lnS (lnF (l.take i)) l[i] := by
  unfold lnF
  rw [List.take_succ_eq_append_getElem h, List.foldl_append]
  rfl
theorem lnF_end {l : List UInt8} {i : Nat} (h : i < l.length) (hx : l[i] = 10) : lnF (l.take (i + 1)) = ((lnF (l.take i)).1 ++ [(lnF (l.take i)).2], []) := by
  rw [lnF_take h, lnS, if_pos hx]
theorem lnF_in {l : List UInt8} {i : Nat} (h : i < l.length) (hx : l[i] ≠ 10) : lnF (l.take (i + 1)) = ((lnF (l.take i)).1, (lnF (l.take i)).2 ++ [l[i]]) := by
  rw [lnF_take h, lnS, if_neg hx]
/-- Several bytes on which no line ends. -/
theorem lnF_skip {l : List UInt8} {i : Nat} : ∀ k, i + k ≤ l.length → (∀ j (h : j < l.length), i ≤ j → j < i + k → l[j] ≠ 10) → lnF (l.take (i + k)) = ((lnF (l.take i)).1, (lnF (l.take i)).2 ++ (l.drop i).take k)
  | 0, _, _ => by simp
  | k + 1, h, hx => by
    have ih := lnF_skip k (by omega) (fun j hj h1 h2 => hx j hj h1 (by omega))
    have hlt : i + k < l.length := by omega
    rw [show i + (k + 1) = i + k + 1 by omega, lnF_in hlt (hx _ hlt (by omega) (by omega)), ih, List.append_assoc]
    congr 2
    rw [List.take_succ_eq_append_getElem (by rw [List.length_drop]; omega), List.getElem_drop]
/-- The line under way is the text's end. -/
theorem lnF_cur (l : List UInt8) : ∀ i, i ≤ l.length → (lnF (l.take i)).2.length ≤ i ∧ (lnF (l.take i)).2 = (l.take i).drop (i - (lnF (l.take i)).2.length)
  | 0, _ => by simp [lnF]
  | i + 1, h => by
    obtain ⟨a, b⟩ := lnF_cur l i (by omega)
    have hlt : i < l.length := by omega
    by_cases hx : l[i] = 10
    · rw [lnF_end hlt hx]
      simp
    · rw [lnF_in hlt hx]
      refine ⟨by rw [List.length_append]; simp; omega, ?_⟩
      simp only [List.length_append, List.length_singleton]
      rw [List.take_succ_eq_append_getElem hlt, List.drop_append_of_le_length (by rw [List.length_take]; omega)]
      congr 1
      rw [show i + 1 - ((lnF (l.take i)).2.length + 1) = i - (lnF (l.take i)).2.length by omega]
      exact b
theorem lnF_few (l : List UInt8) : ∀ i, i ≤ l.length → (lnF (l.take i)).1.length ≤ i
  | 0, _ => by simp [lnF]
  | i + 1, h => by
    have a := lnF_few l i (by omega)
    have hlt : i < l.length := by omega
    by_cases hx : l[i] = 10
    · rw [lnF_end hlt hx]
      simp
      omega
    · rw [lnF_in hlt hx]
      simp only
      omega
/-- A line's words under way: those that have ended, the one that has not, and whether a remark has begun. -/
structure WdS where
  ws : List (List UInt8)
  cur : List UInt8
  rem : Bool
def blank (x : UInt8) : Bool := x == 32 || x == 9
def wdS (st : WdS) (x : UInt8) : WdS :=
  if st.rem then st
  else if st.cur = [] then (if blank x then st else if x = 35 then ⟨st.ws, [], true⟩ else ⟨st.ws, [x], false⟩)
  else if blank x then ⟨st.ws ++ [st.cur], [], false⟩ else ⟨st.ws, st.cur ++ [x], false⟩
def wdF (l : List UInt8) : WdS := l.foldl wdS ⟨[], [], false⟩
def wdsD (l : List UInt8) : List (List UInt8) := if (wdF l).cur = [] then (wdF l).ws else (wdF l).ws ++ [(wdF l).cur]
theorem wdF_take {l : List UInt8} {i : Nat} (h : i < l.length) : wdF (l.take (i + 1)) = wdS (wdF (l.take i)) l[i] := by
  unfold wdF
  rw [List.take_succ_eq_append_getElem h, List.foldl_append]
  rfl
theorem wd_rem (r : List UInt8) : ∀ st : WdS, st.rem = true → r.foldl wdS st = st := by
  induction r with
  | nil => intro st _; rfl
  | cons x t ih =>
    intro st h
    rw [List.foldl_cons, show wdS st x = st by unfold wdS; rw [if_pos h]]
    exact ih st h
/-- Behind a remark's beginning nothing turns. -/
theorem wdF_rem {l : List UInt8} {i : Nat} (h : (wdF (l.take i)).rem = true) : wdF l = wdF (l.take i) := by
  conv => lhs; rw [← List.take_append_drop i l]
  unfold wdF at h ⊢
  rw [List.foldl_append]
  exact wd_rem _ _ h
end Go.Proofs.YtnicbillhlhmmaaDoor
