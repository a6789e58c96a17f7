/-
  script: the reference's line beside lnR.
-/
import Derived.Test.YtfpiibccggjjpaaDoorHSVJ
import Derived.Test.YtfpiibccggjjpaaDoorHSV1
namespace Go.Proofs.YtfpiibccggjjpaaDoor
open Go.RowKit
set_option linter.unusedVariables false
theorem rf_size : ∀ i : Fin 16, if many i.1 = true then (rfN i.1).size + 1 = (fmN i.1).size else (rfN i.1).size = (fmN i.1).size := by decide +kernel
theorem rd_fit {i : Nat} (hi : i < 16) (fs : List (List UInt8)) : rdG (rfN i).data.toList (many i) fs = if fitN i fs.length = true then flF (rfN i).data.toList FlD.zero fs else (FlD.zero, 160) := by
  have h := rf_size ⟨i, hi⟩
  dsimp only at h
  have hs : (rfN i).data.toList.length = (rfN i).size := rfl
  unfold rdG fitN
  rw [hs]
  cases hm : many i with
  | true =>
    rw [hm, if_pos rfl] at h
    simp only [if_true, decide_eq_true_eq]
    by_cases q : (rfN i).size ≤ fs.length
    · rw [if_pos ⟨q, Or.inr trivial⟩, if_pos (by omega)]
    · rw [if_neg (fun e => q e.1), if_neg (by omega)]
  | false =>
    rw [hm, if_neg (by decide)] at h
    simp only [Bool.false_eq_true, if_false, decide_eq_true_eq]
    by_cases q : (rfN i).size = fs.length
    · rw [if_pos ⟨by omega, Or.inl (by omega)⟩, if_pos (by omega)]
    · rw [if_neg (fun e => by rcases e with ⟨e1, e2 | e2⟩; exact q (by omega); cases e2), if_neg (by omega)]
theorem nm_of {i : Nat} {nm : List UInt8} (h : nmN i = strOf nm) : (nmN i).data.toList = nm := by rw [h, strOf_data]
theorem ln_none {last : Int} {nm : List UInt8} {fs : List (List UInt8)} (h : ∀ i, i < 16 → nmN i ≠ strOf nm) : (lnR last nm fs).2.2 = 160 := by
  unfold lnR
  rw [rowI_none (fun i hi e => h i hi (by rw [← e, strOf_self]))]
theorem ln_not {last : Int} {nm : List UInt8} {fs : List (List UInt8)} {i : Nat} (hi : i < 16) (hn : nmN i = strOf nm) (h : mayF last (kN i) = false) : (lnR last nm fs).2.2 = 160 := by
  unfold lnR
  rw [rowI_some hi (nm_of hn)]
  dsimp only
  rw [h, if_neg (by simp)]
theorem ln_may {last : Int} {nm : List UInt8} {fs : List (List UInt8)} {i : Nat} (hi : i < 16) (hn : nmN i = strOf nm) (h : mayF last (kN i) = true) : (rdG (rfN i).data.toList (many i) fs).2 = (lnR last nm fs).2.2 ∧ ((lnR last nm fs).2.2 = 0 → (lnR last nm fs).1 = kN i ∧ RowT i (rdG (rfN i).data.toList (many i) fs).1 (lnR last nm fs).2.1) := by
  rw [rd_fit hi]
  unfold lnR
  rw [rowI_some hi (nm_of hn)]
  dsimp only
  rw [h, Bool.true_and]
  cases hf : fitN i fs.length with
  | false => simp
  | true =>
    obtain ⟨g1, g2⟩ := row_any hi fs hf
    rw [if_pos rfl, if_pos rfl]
    by_cases q : (rowRd i fs).2 = 0
    · rw [if_pos q]
      exact ⟨by rw [g1, q], fun _ => ⟨rfl, g2 q⟩⟩
    · rw [if_neg q]
      exact ⟨g1, fun e => absurd e q⟩
/-- What the last line's kind says. -/
structure LstOk (st : PSt) : Prop where
  in4 : st.last = 0 ∨ st.last = 1 ∨ st.last = 2 ∨ st.last = 3
  cs : 0 < st.cs.length ↔ st.last = 3
theorem LstOk.zero : LstOk PSt.zero := ⟨Or.inl rfl, by simp [PSt.zero]⟩
theorem LstOk.lay {st : PSt} (h : LstOk st) {k : Int} {c : CmdD} (hk : k = 1 ∨ k = 2 ∨ k = 3) (hm : mayF st.last k = true) : LstOk (st.lay k c) := by
  obtain ⟨h1, h2⟩ := h
  rcases hk with rfl | rfl | rfl
  · have e : st.last = 0 := by simpa [mayF] using hm
    refine ⟨by simp [PSt.lay], ?_⟩
    rw [e] at h2
    simp [PSt.lay]
    simpa using h2
  · have e : st.last ≠ 0 ∧ st.last ≤ 2 := by simpa [mayF] using hm
    refine ⟨by simp [PSt.lay], ?_⟩
    have : ¬ st.last = 3 := by omega
    simp only [this, iff_false] at h2
    simp [PSt.lay]
    simpa using h2
  · exact ⟨by simp [PSt.lay], by simp [PSt.lay]⟩
theorem may_0 (last : Int) : mayF last (kN 0) = decide (last = 0) := by simp [mayF, kN]
theorem may_1 {st : PSt} (h : LstOk st) : mayF st.last (kN 1) = (decide (st.last ≠ 0) && decide (st.cs.length = 0)) := by
  obtain ⟨h1, h2⟩ := h
  have : st.cs.length = 0 ↔ ¬ st.last = 3 := by rw [← h2]; omega
  simp only [mayF, kN, this]
  rcases h1 with e | e | e | e <;> rw [e] <;> decide
theorem may_2 {st : PSt} (h : LstOk st) {i : Nat} (h2 : 2 ≤ i) : mayF st.last (kN i) = decide (st.last ≠ 0) := by
  have e : kN i = 3 := by unfold kN; rw [if_neg (by omega), if_neg (by omega)]
  rw [e]
  rcases h.in4 with e | e | e | e <;> rw [e] <;> decide
theorem nm_limit : ∀ i : Fin 16, (nmN i.1 == ⟨#[108, 105, 109, 105, 116]⟩) = (i.1 == 0) := by decide +kernel
theorem nm_hash : ∀ i : Fin 16, (nmN i.1 == ⟨#[104, 97, 115, 104]⟩) = (i.1 == 1) := by decide +kernel
end Go.Proofs.YtfpiibccggjjpaaDoor
