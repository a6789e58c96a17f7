/-
  script: what a text says by its words alone; a text that is spread (as data).
-/
import Derived.Test.YteakgdfckmllhaaDoorUn13
namespace Go.Proofs.YteakgdfckmllhaaDoor
open Go.RowKit
set_option linter.unusedVariables false

abbrev Wds := List (List UInt8)
def w0S : WdS := ⟨[], [], false⟩
def addL (ds : List Wds) (ws : Wds) : List Wds := if ws = [] then ds else ds ++ [ws]
structure TkS where
  ds : List Wds
  st : WdS
def tkS (s : TkS) (x : UInt8) : TkS := if x = 10 then ⟨addL s.ds (wdE s.st), w0S⟩ else ⟨s.ds, wdS s.st x⟩
def tkF (l : List UInt8) : TkS := l.foldl tkS ⟨[], w0S⟩
def toksD (l : List UInt8) : List Wds := addL (tkF l).ds (wdE (tkF l).st)
def full (L : List Wds) : List Wds := L.filter (fun x => !x.isEmpty)
theorem full_more (L : List Wds) (ws : Wds) : full (L ++ [ws]) = addL (full L) ws := by
  unfold full addL
  rw [List.filter_append]
  cases ws with
  | nil => simp
  | cons a t => simp
theorem tk_lines (l : List UInt8) : ∀ i, i ≤ l.length → tkF (l.take i) = ⟨full ((lnF (l.take i)).1.map wdsD), wdF (lnF (l.take i)).2⟩
  | 0, _ => rfl
  | i + 1, h => by
    have hlt : i < l.length := by omega
    have ih := tk_lines l i (by omega)
    have e : tkF (l.take (i + 1)) = tkS (tkF (l.take i)) l[i] := by
      unfold tkF
      rw [List.take_succ_eq_append_getElem hlt, List.foldl_append]
      rfl
    rw [e, ih]
    by_cases hx : l[i] = 10
    · rw [lnF_end hlt hx, tkS, if_pos hx]
      simp only [List.map_append, List.map_cons, List.map_nil]
      rw [full_more]
      rfl
    · rw [lnF_in hlt hx, tkS, if_neg hx]
      show TkS.mk _ (wdS _ _) = TkS.mk _ (wdF _)
      congr 1
      unfold wdF
      rw [List.foldl_append]
      rfl
theorem toks_lines (l : List UInt8) : toksD l = full ((linesD l).map wdsD) := by
  have h := tk_lines l l.length (Nat.le_refl _)
  rw [List.take_length] at h
  unfold toksD linesD
  rw [h]
  dsimp only
  split
  · rename_i q
    rw [q]
    rfl
  · rw [List.map_append, List.map_cons, List.map_nil, full_more]
    rfl
def psT : PSt → List Wds → Option PSt
  | s, [] => some s
  | s, [] :: r => psT s r
  | s, (nm :: fs) :: r => if (lnR s.last nm fs).2.2 = 0 then psT (s.lay (lnR s.last nm fs).1 (lnR s.last nm fs).2.1) r else none
theorem psT_full : ∀ (L : List Wds) (s : PSt), psT s (full L) = psT s L
  | [], s => rfl
  | [] :: r, s => by
    show psT s (full r) = psT s r
    exact psT_full r s
  | (nm :: fs) :: r, s => by
    have e : full ((nm :: fs) :: r) = (nm :: fs) :: full r := by simp [full]
    rw [e, psT, psT]
    split
    · exact psT_full r _
    · rfl
theorem psF_psT : ∀ (ls : List (List UInt8)) (s : PSt) (i : Nat) (r : PSt), psF s i ls = .inl r ↔ psT s (ls.map wdsD) = some r
  | [], s, i, r => by simp [psF, psT]
  | l :: t, s, i, r => by
    rw [List.map_cons]
    cases hw : wdsD l with
    | nil =>
      rw [psF_skip hw, psT]
      exact psF_psT t s (i + 1) r
    | cons nm fs =>
      rw [psT]
      by_cases h0 : (lnR s.last nm fs).2.2 = 0
      · rw [psF_read hw h0, if_pos h0]
        exact psF_psT t _ (i + 1) r
      · rw [psF_bad hw h0, if_neg h0]
        constructor <;> (intro q; cases q)
/-- Two texts with the same words say the same. -/
theorem parse_toks {t u : List UInt8} {r : PSt} (h : toksD u = toksD t) (hu : u.length ≤ 1048576) (hp : parseD t = .inl r) : parseD u = .inl r := by
  unfold parseD at hp ⊢
  rw [if_neg (by omega)]
  by_cases hz : 1048576 < t.length
  · rw [if_pos hz] at hp
    cases hp
  · rw [if_neg hz] at hp
    cases hq : psF PSt.zero 0 (linesD t) with
    | inr x =>
      rw [hq] at hp
      cases hp
    | inl s =>
      rw [hq] at hp
      dsimp only at hp
      have h1 := (psF_psT _ _ _ _).1 hq
      rw [← psT_full, ← toks_lines, ← h, toks_lines, psT_full] at h1
      have h2 := (psF_psT _ _ 0 _).2 h1
      rw [h2]
      dsimp only
      by_cases hl : s.last = 0
      · rw [if_pos hl] at hp
        cases hp
      · rw [if_neg hl] at hp ⊢
        exact hp
def rm5 : List UInt8 := [32, 35, 108, 105, 109, 105, 116, 32, 55, 32, 255]
def rm4 : List UInt8 := [9, 32, 35, 32, 108, 101, 110, 32, 49, 10]
/-- What stands in a spread text in a byte's place. -/
def pieceD (k : Int) (x : UInt8) : List UInt8 := (if k = 5 ∧ x = 10 then rm5 else []) ++ [x] ++ (if k = 1 then [9] else if k = 2 then [32, 32] else if k = 3 ∧ x = 10 then [10] else if k = 4 ∧ x = 10 then rm4 else [])
def kD (hl : List Int) (n : Nat) (x : UInt8) : Int := if hl ≠ [] ∧ (x = 32 ∨ x = 10) then hl.getD (n % hl.length) 0 else 0
def nD (hl : List Int) (n : Nat) (x : UInt8) : Nat := if hl ≠ [] ∧ (x = 32 ∨ x = 10) then n + 1 else n
def spS (hl : List Int) (s : List UInt8 × Nat) (x : UInt8) : List UInt8 × Nat := (s.1 ++ pieceD (kD hl s.2 x) x, nD hl s.2 x)
def spF (hl : List Int) (l : List UInt8) : List UInt8 × Nat := l.foldl (spS hl) ([], 0)
theorem spF_take {hl : List Int} {l : List UInt8} {i : Nat} (h : i < l.length) : spF hl (l.take (i + 1)) = spS hl (spF hl (l.take i)) l[i] := by
  unfold spF
  rw [List.take_succ_eq_append_getElem h, List.foldl_append]
  rfl
theorem wdE_blank (st : WdS) (hr : st.rem = true → st.cur = []) : wdE (wdS st 32) = wdE st ∧ (wdS st 32).cur = [] ∧ ((wdS st 32).rem = true ∨ (wdS st 32).rem = false) := by
  cases hrm : st.rem with
  | true =>
    rw [wdS_rem hrm]
    exact ⟨rfl, hr hrm, Or.inl hrm⟩
  | false =>
    by_cases hc : st.cur = []
    · rw [wdS_out_blank hrm hc (by decide)]
      exact ⟨rfl, hc, Or.inr hrm⟩
    · rw [wdS_in_blank hrm hc (by decide)]
      refine ⟨?_, rfl, Or.inr rfl⟩
      unfold wdE
      rw [if_pos rfl, if_neg hc]
theorem blank_more (st : WdS) (hr : st.rem = true → st.cur = []) {x : UInt8} (hx : blank x = true) (hc : st.cur = []) : wdS st x = st := by
  cases hrm : st.rem with
  | true => exact wdS_rem hrm x
  | false => exact wdS_out_blank hrm hc hx
end Go.Proofs.YteakgdfckmllhaaDoor
