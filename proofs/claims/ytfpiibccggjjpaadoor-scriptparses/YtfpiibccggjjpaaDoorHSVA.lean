/-
  script: what the reference's read and command say, as data.
-/
import Derived.Test.YtfpiibccggjjpaaDoorHSV9
namespace Go.Proofs.YtfpiibccggjjpaaDoor
open Go.RowKit
set_option linter.unusedVariables false
set_option linter.unusedSimpArgs false
/-- The fields of a line, each kind in its order. -/
structure FlD where
  n : List Int
  w : List Nat
  b : List ByteArray
def FlD.zero : FlD := ⟨[], [], []⟩
/-- One field more. -/
def flS (p : UInt8) (f : FlD) (x : List UInt8) : FlD × Int :=
  if p = 110 then (⟨f.n ++ [(numE x).1], f.w, f.b⟩, (numE x).2)
  else if p = 119 then (⟨f.n, f.w ++ [(wrdE x).1], f.b⟩, (wrdE x).2)
  else (⟨f.n, f.w, f.b ++ [(bytE x).1]⟩, (bytE x).2)
/-- The fields from left to right, by their forms; behind the forms: numbers. -/
def flF : List UInt8 → FlD → List (List UInt8) → FlD × Int
  | _, f, [] => (f, 0)
  | ps, f, x :: r => if (flS (ps.headD 110) f x).2 = 0 then flF (ps.drop 1) (flS (ps.headD 110) f x).1 r else (FlD.zero, (flS (ps.headD 110) f x).2)
theorem flF_nums : ∀ (xs : List (List UInt8)) (f : FlD), flF [] f xs = if (numsE xs).2 = 0 then (⟨f.n ++ (numsE xs).1, f.w, f.b⟩, 0) else (FlD.zero, (numsE xs).2)
  | [], f => by simp [flF, numsE]
  | x :: r, f => by
    have ih := flF_nums r ⟨f.n ++ [(numE x).1], f.w, f.b⟩
    unfold flF numsE
    by_cases h1 : (numE x).2 = 0
    · by_cases h2 : (numsE r).2 = 0
      · simp [flS, h1, h2, ih]
      · simp [flS, h1, h2, ih]
    · simp [flS, h1]
/-- The command of these fields. -/
def cmdF (op : Int) (f : FlD) : CmdD :=
  ⟨op, if op = 1 then 0 else if op = 10 then 0 else f.n.headD 0, f.w.headD 0, (f.w.drop 1).headD 0, if op = 1 then f.n.headD 0 else 0, f.b.headD ⟨#[]⟩, (f.b.drop 1).headD ⟨#[]⟩, if op = 1 then f.n.drop 1 else [], if op = 10 then f.n else []⟩
/-- What a row's fields are to say. -/
def RowT (i : Nat) (f : FlD) (c : CmdD) : Prop := if i = 0 then f.n = [c.n] else if i = 1 then f.b = [c.key] ∧ f.w = [c.u] else c = cmdF (oN i) f ∧ (i = 2 → f.n ≠ [])
def RowG (i : Nat) (fs : List (List UInt8)) : Prop := (flF (rfN i).data.toList FlD.zero fs).2 = (rowRd i fs).2 ∧ ((rowRd i fs).2 = 0 → RowT i (flF (rfN i).data.toList FlD.zero fs).1 (rowRd i fs).1)
theorem row_0 (fs : List (List UInt8)) (h : fs.length = 1) : RowG 0 fs := by
  match fs, h with
  | [a], _ =>
    have e1 : rowRd 0 [a] = rdFs { zeroC with op := oN 0 } [78] [a] := rfl
    have e2 : (rfN 0).data.toList = [110] := rfl
    unfold RowG
    rw [e1, e2]
    by_cases h0 : (numE a).2 = 0 <;> simp [h0, rdFs, rdF, flF, flS, FlD.zero, RowT, cmdF, oN, zeroC]
theorem row_1 (fs : List (List UInt8)) (h : fs.length = 2) : RowG 1 fs := by
  match fs, h with
  | [a, b], _ =>
    have e1 : rowRd 1 [a, b] = rdFs { zeroC with op := oN 1 } [75, 85] [a, b] := rfl
    have e2 : (rfN 1).data.toList = [98, 119] := rfl
    unfold RowG
    rw [e1, e2]
    by_cases h0 : (bytE a).2 = 0 <;> by_cases h1 : (wrdE b).2 = 0 <;> simp [h0, h1, rdFs, rdF, flF, flS, FlD.zero, RowT, cmdF, oN, zeroC]
theorem row_3 (fs : List (List UInt8)) (h : fs.length = 2) : RowG 3 fs := by
  match fs, h with
  | [a, b], _ =>
    have e1 : rowRd 3 [a, b] = rdFs { zeroC with op := oN 3 } [72, 75] [a, b] := rfl
    have e2 : (rfN 3).data.toList = [110, 98] := rfl
    unfold RowG
    rw [e1, e2]
    by_cases h0 : (numE a).2 = 0 <;> by_cases h1 : (bytE b).2 = 0 <;> simp [h0, h1, rdFs, rdF, flF, flS, FlD.zero, RowT, cmdF, oN, zeroC]
theorem row_4 (fs : List (List UInt8)) (h : fs.length = 3) : RowG 4 fs := by
  match fs, h with
  | [a, b, c], _ =>
    have e1 : rowRd 4 [a, b, c] = rdFs { zeroC with op := oN 4 } [72, 75, 69] [a, b, c] := rfl
    have e2 : (rfN 4).data.toList = [110, 98, 98] := rfl
    unfold RowG
    rw [e1, e2]
    by_cases h0 : (numE a).2 = 0 <;> by_cases h1 : (bytE b).2 = 0 <;> by_cases h2 : (bytE c).2 = 0 <;> simp [h0, h1, h2, rdFs, rdF, flF, flS, FlD.zero, RowT, cmdF, oN, zeroC]
theorem row_5 (fs : List (List UInt8)) (h : fs.length = 2) : RowG 5 fs := by
  match fs, h with
  | [a, b], _ =>
    have e1 : rowRd 5 [a, b] = rdFs { zeroC with op := oN 5 } [72, 75] [a, b] := rfl
    have e2 : (rfN 5).data.toList = [110, 98] := rfl
    unfold RowG
    rw [e1, e2]
    by_cases h0 : (numE a).2 = 0 <;> by_cases h1 : (bytE b).2 = 0 <;> simp [h0, h1, rdFs, rdF, flF, flS, FlD.zero, RowT, cmdF, oN, zeroC]
theorem row_6 (fs : List (List UInt8)) (h : fs.length = 1) : RowG 6 fs := by
  match fs, h with
  | [a], _ =>
    have e1 : rowRd 6 [a] = rdFs { zeroC with op := oN 6 } [72] [a] := rfl
    have e2 : (rfN 6).data.toList = [110] := rfl
    unfold RowG
    rw [e1, e2]
    by_cases h0 : (numE a).2 = 0 <;> simp [h0, rdFs, rdF, flF, flS, FlD.zero, RowT, cmdF, oN, zeroC]
theorem row_7 (fs : List (List UInt8)) (h : fs.length = 2) : RowG 7 fs := by
  match fs, h with
  | [a, b], _ =>
    have e1 : rowRd 7 [a, b] = rdFs { zeroC with op := oN 7 } [72, 85] [a, b] := rfl
    have e2 : (rfN 7).data.toList = [110, 119] := rfl
    unfold RowG
    rw [e1, e2]
    by_cases h0 : (numE a).2 = 0 <;> by_cases h1 : (wrdE b).2 = 0 <;> simp [h0, h1, rdFs, rdF, flF, flS, FlD.zero, RowT, cmdF, oN, zeroC]
theorem row_8 (fs : List (List UInt8)) (h : fs.length = 1) : RowG 8 fs := by
  match fs, h with
  | [a], _ =>
    have e1 : rowRd 8 [a] = rdFs { zeroC with op := oN 8 } [72] [a] := rfl
    have e2 : (rfN 8).data.toList = [110] := rfl
    unfold RowG
    rw [e1, e2]
    by_cases h0 : (numE a).2 = 0 <;> simp [h0, rdFs, rdF, flF, flS, FlD.zero, RowT, cmdF, oN, zeroC]
theorem row_9 (fs : List (List UInt8)) (h : fs.length = 3) : RowG 9 fs := by
  match fs, h with
  | [a, b, c], _ =>
    have e1 : rowRd 9 [a, b, c] = rdFs { zeroC with op := oN 9 } [72, 85, 86] [a, b, c] := rfl
    have e2 : (rfN 9).data.toList = [110, 119, 119] := rfl
    unfold RowG
    rw [e1, e2]
    by_cases h0 : (numE a).2 = 0 <;> by_cases h1 : (wrdE b).2 = 0 <;> by_cases h2 : (wrdE c).2 = 0 <;> simp [h0, h1, h2, rdFs, rdF, flF, flS, FlD.zero, RowT, cmdF, oN, zeroC]
theorem row_10 (fs : List (List UInt8)) (h : fs.length = 1) : RowG 10 fs := by
  match fs, h with
  | [a], _ =>
    have e1 : rowRd 10 [a] = rdFs { zeroC with op := oN 10 } [72] [a] := rfl
    have e2 : (rfN 10).data.toList = [110] := rfl
    unfold RowG
    rw [e1, e2]
    by_cases h0 : (numE a).2 = 0 <;> simp [h0, rdFs, rdF, flF, flS, FlD.zero, RowT, cmdF, oN, zeroC]
theorem row_12 (fs : List (List UInt8)) (h : fs.length = 0) : RowG 12 fs := by
  match fs, h with
  | [], _ =>
    have e1 : rowRd 12 [] = rdFs { zeroC with op := oN 12 } [] [] := rfl
    have e2 : (rfN 12).data.toList = [] := rfl
    unfold RowG
    rw [e1, e2]
    simp [rdFs, rdF, flF, flS, FlD.zero, RowT, cmdF, oN, zeroC]
theorem row_13 (fs : List (List UInt8)) (h : fs.length = 2) : RowG 13 fs := by
  match fs, h with
  | [a, b], _ =>
    have e1 : rowRd 13 [a, b] = rdFs { zeroC with op := oN 13 } [72, 75] [a, b] := rfl
    have e2 : (rfN 13).data.toList = [110, 98] := rfl
    unfold RowG
    rw [e1, e2]
    by_cases h0 : (numE a).2 = 0 <;> by_cases h1 : (bytE b).2 = 0 <;> simp [h0, h1, rdFs, rdF, flF, flS, FlD.zero, RowT, cmdF, oN, zeroC]
theorem row_14 (fs : List (List UInt8)) (h : fs.length = 1) : RowG 14 fs := by
  match fs, h with
  | [a], _ =>
    have e1 : rowRd 14 [a] = rdFs { zeroC with op := oN 14 } [72] [a] := rfl
    have e2 : (rfN 14).data.toList = [110] := rfl
    unfold RowG
    rw [e1, e2]
    by_cases h0 : (numE a).2 = 0 <;> simp [h0, rdFs, rdF, flF, flS, FlD.zero, RowT, cmdF, oN, zeroC]
theorem row_15 (fs : List (List UInt8)) (h : fs.length = 0) : RowG 15 fs := by
  match fs, h with
  | [], _ =>
    have e1 : rowRd 15 [] = rdFs { zeroC with op := oN 15 } [] [] := rfl
    have e2 : (rfN 15).data.toList = [] := rfl
    unfold RowG
    rw [e1, e2]
    simp [rdFs, rdF, flF, flS, FlD.zero, RowT, cmdF, oN, zeroC]
theorem row_11 (fs : List (List UInt8)) : RowG 11 fs := by
  have e1 : rowRd 11 fs = rdFs { zeroC with op := oN 11 } [83] fs := rfl
  have e2 : (rfN 11).data.toList = [] := rfl
  unfold RowG
  rw [e1, e2, flF_nums]
  by_cases h0 : (numsE fs).2 = 0 <;> simp [h0, rdFs, rdF, FlD.zero, RowT, cmdF, oN, zeroC]
theorem row_2 (fs : List (List UInt8)) (h : 2 ≤ fs.length) : RowG 2 fs := by
  match fs, h with
  | a :: b :: r, _ =>
    have e1 : rowRd 2 (a :: b :: r) = rdFs { zeroC with op := oN 2 } [85, 78, 70] (a :: b :: r) := rfl
    have e2 : (rfN 2).data.toList = [119, 110] := rfl
    unfold RowG
    rw [e1, e2]
    by_cases h0 : (wrdE a).2 = 0 <;> by_cases h1 : (numE b).2 = 0 <;> by_cases h2 : (numsE r).2 = 0 <;> simp [h0, h1, h2, rdFs, rdF, flF, flF_nums, flS, FlD.zero, RowT, cmdF, oN, zeroC]
theorem row_any {i : Nat} (hi : i < 16) (fs : List (List UInt8)) (h : fitN i fs.length = true) : RowG i fs := by
  match i, hi with
  | 0, _ => exact row_0 fs (of_decide_eq_true (show decide (fs.length = 1) = true from h))
  | 1, _ => exact row_1 fs (of_decide_eq_true (show decide (fs.length = 2) = true from h))
  | 2, _ => exact row_2 fs (by have : decide (3 ≤ fs.length + 1) = true := h; have := of_decide_eq_true this; omega)
  | 3, _ => exact row_3 fs (of_decide_eq_true (show decide (fs.length = 2) = true from h))
  | 4, _ => exact row_4 fs (of_decide_eq_true (show decide (fs.length = 3) = true from h))
  | 5, _ => exact row_5 fs (of_decide_eq_true (show decide (fs.length = 2) = true from h))
  | 6, _ => exact row_6 fs (of_decide_eq_true (show decide (fs.length = 1) = true from h))
  | 7, _ => exact row_7 fs (of_decide_eq_true (show decide (fs.length = 2) = true from h))
  | 8, _ => exact row_8 fs (of_decide_eq_true (show decide (fs.length = 1) = true from h))
  | 9, _ => exact row_9 fs (of_decide_eq_true (show decide (fs.length = 3) = true from h))
  | 10, _ => exact row_10 fs (of_decide_eq_true (show decide (fs.length = 1) = true from h))
  | 11, _ => exact row_11 fs
  | 12, _ => exact row_12 fs (of_decide_eq_true (show decide (fs.length = 0) = true from h))
  | 13, _ => exact row_13 fs (of_decide_eq_true (show decide (fs.length = 2) = true from h))
  | 14, _ => exact row_14 fs (of_decide_eq_true (show decide (fs.length = 1) = true from h))
  | 15, _ => exact row_15 fs (of_decide_eq_true (show decide (fs.length = 0) = true from h))
  | j + 16, hi => omega
end Go.Proofs.YtfpiibccggjjpaaDoor
