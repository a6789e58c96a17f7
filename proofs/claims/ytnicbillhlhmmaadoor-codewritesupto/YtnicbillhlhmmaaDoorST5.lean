/-
  script: a line's words as data: laws.
-/
import Derived.Test.YtnicbillhlhmmaaDoorST4
namespace Go.Proofs.YtnicbillhlhmmaaDoor
open Go.RowKit
set_option linter.unusedVariables false
theorem wdS_rem {st : WdS} (h : st.rem = true) (x : UInt8) : wdS st x = st := by
  unfold wdS
  rw [if_pos h]
theorem wdS_out_blank {st : WdS} (h : st.rem = false) (hc : st.cur = []) {x : UInt8} (hb : blank x = true) : wdS st x = st := by
  unfold wdS
  rw [if_neg (by rw [h]; decide), if_pos hc, if_pos hb]
theorem wdS_out_hash {st : WdS} (h : st.rem = false) (hc : st.cur = []) : wdS st 35 = ⟨st.ws, [], true⟩ := by
  unfold wdS
  rw [if_neg (by rw [h]; decide), if_pos hc, if_neg (by decide), if_pos rfl]
theorem wdS_out {st : WdS} (h : st.rem = false) (hc : st.cur = []) {x : UInt8} (hb : blank x = false) (hx : x ≠ 35) : wdS st x = ⟨st.ws, [x], false⟩ := by
  unfold wdS
  rw [if_neg (by rw [h]; decide), if_pos hc, if_neg (by rw [hb]; decide), if_neg hx]
theorem wdS_in_blank {st : WdS} (h : st.rem = false) (hc : st.cur ≠ []) {x : UInt8} (hb : blank x = true) : wdS st x = ⟨st.ws ++ [st.cur], [], false⟩ := by
  unfold wdS
  rw [if_neg (by rw [h]; decide), if_neg hc, if_pos hb]
theorem wdS_in {st : WdS} (h : st.rem = false) (hc : st.cur ≠ []) {x : UInt8} (hb : blank x = false) : wdS st x = ⟨st.ws, st.cur ++ [x], false⟩ := by
  unfold wdS
  rw [if_neg (by rw [h]; decide), if_neg hc, if_neg (by rw [hb]; decide)]
/-- Several bytes of one word. -/
theorem wdF_skip {l : List UInt8} {i : Nat} (hr : (wdF (l.take i)).rem = false) (h0 : (wdF (l.take i)).cur ≠ [] ∨ ∀ (h : i < l.length), l[i] ≠ 35) : ∀ k, i + k ≤ l.length → (∀ j (h : j < l.length), i ≤ j → j < i + k → blank l[j] = false) → wdF (l.take (i + k)) = ⟨(wdF (l.take i)).ws, (wdF (l.take i)).cur ++ (l.drop i).take k, false⟩
  | 0, _, _ => by
    simp only [Nat.add_zero, List.take_zero, List.append_nil]
    rw [← hr]
  | k + 1, h, hx => by
    have ih := wdF_skip hr h0 k (by omega) (fun j hj h1 h2 => hx j hj h1 (by omega))
    have hlt : i + k < l.length := by omega
    have hb := hx _ hlt (by omega) (by omega)
    have e : (l.drop i).take (k + 1) = (l.drop i).take k ++ [l[i + k]] := by
      rw [List.take_succ_eq_append_getElem (by rw [List.length_drop]; omega), List.getElem_drop]
    rw [show i + (k + 1) = i + k + 1 by omega, wdF_take hlt, ih, e, ← List.append_assoc]
    by_cases hc : (wdF (l.take i)).cur ++ (l.drop i).take k = []
    · have hk : k = 0 := by
        have := congrArg List.length (List.append_eq_nil_iff.1 hc).2
        rw [List.length_take, List.length_drop] at this
        simp at this
        omega
      subst hk
      have hc0 := (List.append_eq_nil_iff.1 hc).1
      have hne : l[i + 0] ≠ 35 := by
        rcases h0 with q | q
        · exact absurd hc0 q
        · exact q (by omega)
      rw [wdS_out rfl hc hb hne, hc]
      rfl
    · rw [wdS_in rfl hc hb]
/-- The word under way is the line's end. -/
theorem wdF_cur (l : List UInt8) : ∀ i, i ≤ l.length → (wdF (l.take i)).cur.length ≤ i ∧ (wdF (l.take i)).ws.length ≤ i ∧ (wdF (l.take i)).cur = (l.take i).drop (i - (wdF (l.take i)).cur.length) ∧ ((wdF (l.take i)).rem = true → (wdF (l.take i)).cur = [])
  | 0, _ => by simp [wdF]
  | i + 1, h => by
    obtain ⟨a, b, c, d⟩ := wdF_cur l i (by omega)
    have hlt : i < l.length := by omega
    rw [wdF_take hlt]
    generalize hst : wdF (l.take i) = st at *
    cases hr : st.rem with
    | true =>
      rw [wdS_rem hr, d hr]
      refine ⟨Nat.zero_le _, by omega, by simp, fun _ => rfl⟩
    | false =>
      by_cases hc : st.cur = []
      · cases hb : blank l[i] with
        | true =>
          rw [wdS_out_blank hr hc hb, hc]
          exact ⟨Nat.zero_le _, by omega, by simp, fun _ => rfl⟩
        | false =>
          by_cases hx : l[i] = 35
          · rw [hx, wdS_out_hash hr hc]
            exact ⟨Nat.zero_le _, by show st.ws.length ≤ _; omega, by simp, fun _ => rfl⟩
          · rw [wdS_out hr hc hb hx]
            refine ⟨by simp, by show st.ws.length ≤ _; omega, ?_, fun e => by cases e⟩
            show [l[i]] = _
            rw [List.take_succ_eq_append_getElem hlt]
            have e1 : (l.take i).length = i := by rw [List.length_take]; omega
            exact (List.drop_left' (l₁ := l.take i) (l₂ := [l[i]]) (by rw [e1]; show i = i + 1 - 1; omega)).symm
      · cases hb : blank l[i] with
        | true =>
          rw [wdS_in_blank hr hc hb]
          exact ⟨Nat.zero_le _, by simp; omega, by simp, fun e => by cases e⟩
        | false =>
          rw [wdS_in hr hc hb]
          refine ⟨by simp; omega, by show st.ws.length ≤ _; omega, ?_, fun e => by cases e⟩
          show st.cur ++ [l[i]] = _
          rw [List.take_succ_eq_append_getElem hlt, List.drop_append_of_le_length (by rw [List.length_take]; show i + 1 - (st.cur ++ [l[i]]).length ≤ _; rw [List.length_append, List.length_singleton]; omega)]
          congr 1
          simp only [List.length_append, List.length_singleton]
          rw [show i + 1 - (st.cur.length + 1) = i - st.cur.length by omega]
          exact c
end Go.Proofs.YtnicbillhlhmmaaDoor
