/-
  script: a spread text has the words of the text (as data).
-/
import Derived.Test.YteakgdfckmllhaaDoorHSS1
namespace Go.Proofs.YteakgdfckmllhaaDoor
open Go.RowKit
set_option linter.unusedVariables false

theorem tk_line : ∀ (l : List UInt8), (∀ x, x ∈ l → x ≠ 10) → ∀ (ds : List Wds) (st : WdS), l.foldl tkS ⟨ds, st⟩ = ⟨ds, l.foldl wdS st⟩
  | [], _, ds, st => rfl
  | x :: t, h, ds, st => by
    have hx := h x List.mem_cons_self
    rw [List.foldl_cons, List.foldl_cons]
    have e : tkS ⟨ds, st⟩ x = ⟨ds, wdS st x⟩ := by
      unfold tkS
      rw [if_neg hx]
    rw [e]
    exact tk_line t (fun y hy => h y (List.mem_cons_of_mem _ hy)) ds _
theorem rm5_E (st : WdS) (hr : st.rem = true → st.cur = []) : wdE (rm5.foldl wdS st) = wdE st := by
  obtain ⟨h1, h2, -⟩ := wdE_blank st hr
  have e : rm5.foldl wdS st = [108, 105, 109, 105, 116, 32, 55, 32, 255].foldl wdS (wdS (wdS st 32) 35) := rfl
  rw [e]
  generalize wdS st 32 = s1 at *
  cases hrm : s1.rem with
  | true =>
    rw [wdS_rem hrm, wd_rem _ _ hrm]
    exact h1
  | false =>
    rw [wdS_out_hash hrm h2, wd_rem _ _ rfl, ← h1]
    unfold wdE
    rw [if_pos rfl, if_pos h2]
theorem piece_tok (s : TkS) (hr : s.st.rem = true → s.st.cur = []) (k : Int) (x : UInt8) (hk : ¬ (x = 32 ∨ x = 10) → k = 0) : (pieceD k x).foldl tkS s = tkS s x := by
  obtain ⟨ds, st⟩ := s
  unfold pieceD
  by_cases hx : x = 10
  · subst hx
    by_cases h5 : k = 5
    · subst h5
      have e : (if (5 : Int) = 5 ∧ (10 : UInt8) = 10 then rm5 else []) ++ [(10 : UInt8)] ++ (if (5 : Int) = 1 then [9] else if (5 : Int) = 2 then [32, 32] else if (5 : Int) = 3 ∧ (10 : UInt8) = 10 then [10] else if (5 : Int) = 4 ∧ (10 : UInt8) = 10 then rm4 else []) = rm5 ++ [10] := by decide
      rw [e, List.foldl_append, tk_line rm5 (by decide)]
      show tkS ⟨ds, rm5.foldl wdS st⟩ 10 = tkS ⟨ds, st⟩ 10
      unfold tkS
      rw [if_pos rfl, if_pos rfl]
      dsimp only
      rw [rm5_E st hr]
    · rw [if_neg (fun q => h5 q.1), List.nil_append, List.foldl_append]
      show List.foldl tkS (tkS ⟨ds, st⟩ 10) _ = _
      have e1 : tkS ⟨ds, st⟩ 10 = ⟨addL ds (wdE st), w0S⟩ := by
        unfold tkS
        rw [if_pos rfl]
      rw [e1]
      generalize addL ds (wdE st) = d1
      by_cases h1 : k = 1
      · rw [if_pos h1]
        rfl
      rw [if_neg h1]
      by_cases h2 : k = 2
      · rw [if_pos h2]
        rfl
      rw [if_neg h2]
      by_cases h3 : k = 3 ∧ (10 : UInt8) = 10
      · rw [if_pos h3]
        rfl
      rw [if_neg h3]
      by_cases h4 : k = 4 ∧ (10 : UInt8) = 10
      · rw [if_pos h4]
        rfl
      rw [if_neg h4]
      rfl
  · rw [if_neg (fun q => hx q.2), List.nil_append, List.foldl_append]
    by_cases h32 : x = 32
    · subst h32
      obtain ⟨-, hc, -⟩ := wdE_blank st hr
      have e1 : tkS ⟨ds, st⟩ 32 = ⟨ds, wdS st 32⟩ := by
        unfold tkS
        rw [if_neg (by decide)]
      show List.foldl tkS (tkS ⟨ds, st⟩ 32) _ = _
      rw [e1]
      generalize wdS st 32 = s1 at *
      have b : ∀ y, blank y = true → y ≠ 10 → tkS ⟨ds, s1⟩ y = ⟨ds, s1⟩ := fun y hy hn => by
        unfold tkS
        rw [if_neg hn]
        dsimp only
        rw [blank_more s1 (fun _ => hc) hy hc]
      by_cases h1 : k = 1
      · rw [if_pos h1]
        show tkS ⟨ds, s1⟩ 9 = _
        exact b 9 (by decide) (by decide)
      rw [if_neg h1]
      by_cases h2 : k = 2
      · rw [if_pos h2]
        show tkS (tkS ⟨ds, s1⟩ 32) 32 = _
        rw [b 32 (by decide) (by decide), b 32 (by decide) (by decide)]
      rw [if_neg h2, if_neg (fun q => hx q.2), if_neg (fun q => hx q.2)]
      rfl
    · obtain rfl := hk (fun q => q.elim h32 hx)
      rfl
theorem tk_rem (l : List UInt8) : (tkF l).st.rem = true → (tkF l).st.cur = [] := by
  have h := tk_lines l l.length (Nat.le_refl _)
  rw [List.take_length] at h
  rw [h]
  dsimp only
  generalize (lnF l).2 = c
  have := (wdF_cur c c.length (Nat.le_refl _)).2.2.2
  rw [List.take_length] at this
  exact this
theorem tk_spread (hl : List Int) (l : List UInt8) : ∀ i, i ≤ l.length → tkF (spF hl (l.take i)).1 = tkF (l.take i)
  | 0, _ => rfl
  | i + 1, h => by
    have hlt : i < l.length := by omega
    have ih := tk_spread hl l i (by omega)
    have e : tkF (l.take (i + 1)) = tkS (tkF (l.take i)) l[i] := by
      unfold tkF
      rw [List.take_succ_eq_append_getElem hlt, List.foldl_append]
      rfl
    rw [spF_take hlt, e, ← piece_tok _ (tk_rem _) (kD hl (spF hl (l.take i)).2 l[i]) l[i] (fun q => by unfold kD; rw [if_neg (fun z => q z.2)]), ← ih]
    show tkF ((spF hl (l.take i)).1 ++ _) = _
    unfold tkF
    rw [List.foldl_append]
theorem toks_spread (hl : List Int) (l : List UInt8) : toksD (spF hl l).1 = toksD l := by
  have h := tk_spread hl l l.length (Nat.le_refl _)
  rw [List.take_length] at h
  unfold toksD
  rw [h]
theorem piece_len (k : Int) (x : UInt8) : (pieceD k x).length ≤ 30 := by
  unfold pieceD
  rw [List.length_append, List.length_append]
  have h1 : (if k = 5 ∧ x = 10 then rm5 else []).length ≤ 11 := by
    split
    · decide
    · exact Nat.zero_le _
  have h2 : (if k = 1 then [9] else if k = 2 then [32, 32] else if k = 3 ∧ x = 10 then [10] else if k = 4 ∧ x = 10 then rm4 else []).length ≤ 10 := by
    split
    · decide
    · split
      · decide
      · split
        · decide
        · split
          · decide
          · exact Nat.zero_le _
  show _ + 1 + _ ≤ 30
  omega
theorem sp_len (hl : List Int) (l : List UInt8) : ∀ i, i ≤ l.length → (spF hl (l.take i)).1.length ≤ 30 * i ∧ (spF hl (l.take i)).2 ≤ i
  | 0, _ => ⟨Nat.le_refl _, Nat.le_refl _⟩
  | i + 1, h => by
    have hlt : i < l.length := by omega
    obtain ⟨a, b⟩ := sp_len hl l i (by omega)
    rw [spF_take hlt]
    constructor
    · show ((spF hl (l.take i)).1 ++ _).length ≤ _
      have := piece_len (kD hl (spF hl (l.take i)).2 l[i]) l[i]
      rw [List.length_append]
      omega
    · show nD hl (spF hl (l.take i)).2 l[i] ≤ i + 1
      unfold nD
      split <;> omega
end Go.Proofs.YteakgdfckmllhaaDoor
