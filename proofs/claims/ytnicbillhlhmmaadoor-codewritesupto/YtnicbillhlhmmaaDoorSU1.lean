/-
  script: the lines of a text and the words of a line, put together again (as data).
-/
import Derived.Test.YtnicbillhlhmmaaDoorST5
namespace Go.Proofs.YtnicbillhlhmmaaDoor
open Go.RowKit
set_option linter.unusedVariables false

theorem ln_fold (l : List UInt8) : ∀ (ls : List (List UInt8)) (c : List UInt8), l.foldl lnS (ls, c) = (ls ++ (l.foldl lnS ([], c)).1, (l.foldl lnS ([], c)).2) := by
  induction l with
  | nil => intro ls c; simp
  | cons x t ih =>
    intro ls c
    rw [List.foldl_cons, List.foldl_cons]
    unfold lnS
    by_cases h : x = 10
    · rw [if_pos h, if_pos h]
      show List.foldl lnS (ls ++ [c], []) t = (ls ++ (List.foldl lnS ([] ++ [c], []) t).1, (List.foldl lnS ([] ++ [c], []) t).2)
      rw [ih (ls ++ [c]) [], ih ([] ++ [c]) []]
      simp
    · rw [if_neg h, if_neg h]
      exact ih ls (c ++ [x])
theorem ln_plain (l : List UInt8) (h : (10 : UInt8) ∉ l) : ∀ c : List UInt8, l.foldl lnS ([], c) = ([], c ++ l) := by
  induction l with
  | nil => intro c; simp
  | cons x t ih =>
    intro c
    have hx : ¬ x = 10 := fun e => h (by rw [e]; exact List.mem_cons_self)
    rw [List.foldl_cons]
    unfold lnS
    rw [if_neg hx]
    show List.foldl lnS ([], c ++ [x]) t = _
    rw [ih (fun q => h (List.mem_cons_of_mem _ q))]
    simp
/-- A line with its end, and what follows. -/
theorem lines_cons (a r : List UInt8) (h : (10 : UInt8) ∉ a) : linesD (a ++ [10] ++ r) = a :: linesD r := by
  have e : lnF (a ++ [10] ++ r) = (a :: (lnF r).1, (lnF r).2) := by
    unfold lnF
    rw [List.foldl_append, List.foldl_append, ln_plain a h, List.nil_append]
    show List.foldl lnS ([] ++ [a], []) r = _
    rw [ln_fold r ([] ++ [a]) []]
    rfl
  unfold linesD
  rw [e]
  dsimp only
  split
  · rfl
  · rfl
theorem lines_nil : linesD [] = [] := rfl
/-- A word: it has no blank and no end of a line, and does not open a remark. -/
def Wd (x : List UInt8) : Prop := x ≠ [] ∧ (∀ y, y ∈ x → blank y = false ∧ y ≠ 10) ∧ x[0]? ≠ some 35
theorem wd_word (x : List UInt8) (h : ∀ y, y ∈ x → blank y = false) : ∀ (acc : List (List UInt8)) (c : List UInt8), c ≠ [] → x.foldl wdS ⟨acc, c, false⟩ = ⟨acc, c ++ x, false⟩ := by
  induction x with
  | nil => intro acc c _; simp
  | cons y t ih =>
    intro acc c hc
    rw [List.foldl_cons, wdS_in (st := ⟨acc, c, false⟩) rfl hc (h y List.mem_cons_self)]
    rw [ih (fun z hz => h z (List.mem_cons_of_mem _ hz)) acc (c ++ [y]) (by simp)]
    simp
theorem wd_first {x : List UInt8} (h : Wd x) (acc : List (List UInt8)) : x.foldl wdS ⟨acc, [], false⟩ = ⟨acc, x, false⟩ := by
  cases x with
  | nil => exact absurd rfl h.1
  | cons y t =>
    have hy : y ≠ 35 := fun e => h.2.2 (by rw [e]; rfl)
    rw [List.foldl_cons, wdS_out (st := ⟨acc, [], false⟩) rfl rfl (h.2.1 y List.mem_cons_self).1 hy]
    exact wd_word t (fun z hz => (h.2.1 z (List.mem_cons_of_mem _ hz)).1) acc [y] (by simp)
/-- What the words under way come to. -/
def wdE (st : WdS) : List (List UInt8) := if st.cur = [] then st.ws else st.ws ++ [st.cur]
theorem wds_eq (l : List UInt8) : wdsD l = wdE (wdF l) := rfl
theorem wd_tail (ws : List (List UInt8)) (h : ∀ x, x ∈ ws → Wd x) : ∀ (acc : List (List UInt8)) (c : List UInt8), c ≠ [] → wdE ((ws.flatMap (fun x => 32 :: x)).foldl wdS ⟨acc, c, false⟩) = acc ++ c :: ws := by
  induction ws with
  | nil =>
    intro acc c hc
    show wdE ⟨acc, c, false⟩ = _
    unfold wdE
    rw [if_neg hc]
  | cons x t ih =>
    intro acc c hc
    have hx := h x List.mem_cons_self
    rw [List.flatMap_cons, List.foldl_append, List.foldl_cons, wdS_in_blank (st := ⟨acc, c, false⟩) rfl hc (x := 32) (by decide), wd_first hx]
    rw [ih (fun y hy => h y (List.mem_cons_of_mem _ hy)) (acc ++ [c]) x hx.1]
    simp
/-- A name and words behind it, a blank ahead of each. -/
theorem words_line (a : List UInt8) (ws : List (List UInt8)) (ha : Wd a) (h : ∀ x, x ∈ ws → Wd x) : wdsD (a ++ ws.flatMap (fun x => 32 :: x)) = a :: ws := by
  rw [wds_eq]
  unfold wdF
  rw [List.foldl_append, wd_first ha]
  exact wd_tail ws h [] a ha.1
theorem no_end (a : List UInt8) (ws : List (List UInt8)) (ha : Wd a) (h : ∀ x, x ∈ ws → Wd x) : (10 : UInt8) ∉ a ++ ws.flatMap (fun x => 32 :: x) := fun q => by
  rcases List.mem_append.1 q with q | q
  · exact (ha.2.1 10 q).2 rfl
  · obtain ⟨x, hx, hy⟩ := List.mem_flatMap.1 q
    rcases List.mem_cons.1 hy with e | e
    · cases e
    · exact ((h x hx).2.1 10 e).2 rfl
end Go.Proofs.YtnicbillhlhmmaaDoor
