/-
  code: the table of forms; isForm, opNamed.
-/
import Derived.Test.YtnicbillhlhmmaaDoorCWB
namespace Go.Proofs.YtnicbillhlhmmaaDoor
namespace Cw
open Go.RowKit
set_option linter.unusedVariables false
theorem keepsW {w w' : World} (h : Below w.heap.size w w') : Keeps w w' (fun _ => False) := ⟨h.os, h.tape, h.output, h.size, fun k hk _ => h.block k hk⟩
theorem keeps_at {w w' : World} (k : Keeps w w' (fun _ => False)) {a : Addr} {v : Value} (h : w.cell? a = some v) : w'.cell? a = some v := by
  unfold World.cell? at h ⊢
  cases hb : w.heap[a.block]? with
  | none => rw [hb] at h; cases h
  | some o =>
    rw [k.block a.block (heap_lt hb) id, hb]
    rw [hb] at h
    exact h
theorem str_yes {a b : ByteArray} (h : a = b) : (a.toList == b.toList) = true := by simp [h]
theorem str_no {a b : ByteArray} (h : a ≠ b) : (a.toList == b.toList) = false := by
  simp only [beq_eq_false_iff_ne, ne_eq]
  exact fun e => h (ByteArray.ext (Array.toList_inj.1 (by simpa [ByteArray.toList_eq] using e)))
theorem sB_inj {a b : Bs} (h : sB a = sB b) : a = b := by rw [← sB_data a, h, sB_data]
theorem sB_ne {a b : Bs} (h : a ≠ b) : sB a ≠ sB b := fun e => h (sB_inj e)
/-- The table of the forms: each name, and what it uses. -/
def FormsAt (w : World) : Prop := ∀ k, k < 30 → w.cell? ⟨0, k * 2, none⟩ = some (.string (sB (nmC k))) ∧ w.cell? ⟨0, k * 2 + 1, none⟩ = some (.int .i64 (usC k : Nat))
theorem FormsAt.keeps {w w' : World} (h : FormsAt w) (k : Keeps w w' (fun _ => False)) : FormsAt w' := fun i hi => ⟨keeps_at k (h i hi).1, keeps_at k (h i hi).2⟩
def inV (x : In) : Value := .agg #[.int .i64 x.op, .int .i64 x.a, .int .i64 x.n]
theorem uses_le : ∀ k : Fin 30, usC k.1 ≤ 5 := by decide +kernel

set_option maxRecDepth 100000 in
set_option maxHeartbeats 2000000 in
theorem isForm_any (x : In) (w : World) (hW : FormsAt w) : Calls Tryd.prog 34 #[inV x] w fun e w' => e = .returned (.bool (isFm x)) ∧ Keeps w w' (fun _ => False) := by
  obtain ⟨op, a, n⟩ := x
  obtain ⟨F, hF⟩ : ∃ F, isFm ⟨op, a, n⟩ = F := ⟨_, rfl⟩
  rw [hF]
  unfold isFm at hF
  dsimp only at hF
  unfold inV
  dsimp only
  by_cases h1 : op < 1
  · obtain rfl : F = false := by rw [← hF]; simp [show ¬ 1 ≤ op by omega]
    clear hF
    go_enter Tryd.func34, Tryd.ntmps34
    go_wp2_with fail
    go_ret
    exact ⟨rfl, (Keeps.refl _ _).alloc _⟩
  by_cases h2 : op > 29
  · obtain rfl : F = false := by rw [← hF]; simp [show ¬ op ≤ 29 by omega]
    clear hF
    go_enter Tryd.func34, Tryd.ntmps34
    go_wp2_with fail
    go_ret
    exact ⟨rfl, (Keeps.refl _ _).alloc _⟩
  obtain ⟨k, rfl⟩ : ∃ k : Nat, op = (k : Int) := ⟨op.toNat, by omega⟩
  have hk : k < 30 := by omega
  have hc := keeps_at ((Keeps.refl w (fun _ => False)).alloc (.cells #[.int .i64 (k : Int), .int .i64 a, .int .i64 n] 36)) ((hW k hk).2)
  have hu := uses_le ⟨k, hk⟩
  rw [show ((⟨k, hk⟩ : Fin 30)).1 = k from rfl] at hu
  rw [Int.toNat_natCast] at hF
  clear hW
  generalize usC k = u at *
  have e1 : decide ((1 : Int) ≤ (k : Int)) = true := decide_eq_true (by omega)
  have e2 : decide ((k : Int) ≤ 29) = true := decide_eq_true (by omega)
  rw [e1, e2] at hF
  clear e1 e2
  obtain rfl | rfl | rfl | rfl | rfl | rfl : u = 0 ∨ u = 1 ∨ u = 2 ∨ u = 3 ∨ u = 4 ∨ u = 5 := by omega
  all_goals (
    by_cases h3 : n = 0 <;> by_cases h4 : a = 0
    all_goals (
      simp [h3, h4] at hF
      subst hF
      have g3 : (n == 0) = decide (n = 0) := by rw [Bool.eq_iff_iff]; simp
      have g4 : (a == 0) = decide (a = 0) := by rw [Bool.eq_iff_iff]; simp
      simp only [h3, h4, decide_true, decide_false] at g3 g4
      clear hu
      (try subst h3)
      (try subst h4)
      go_enter Tryd.func34, Tryd.ntmps34
      go_wp2_with fail
      go_ret
      exact ⟨rfl, (Keeps.refl _ _).alloc _⟩))

set_option maxRecDepth 100000 in
set_option maxHeartbeats 2000000 in
theorem opNamed_any (s : Bs) (w : World) (hW : FormsAt w) : Calls Tryd.prog 57 #[.string (sB s)] w fun e w' => e = .returned (.int .i64 (opD s : Nat)) ∧ w' = w := by
  have HW := hide hW
  obtain ⟨R, hR⟩ : ∃ R, opD s = R := ⟨_, rfl⟩
  rw [hR]
  have HR0 := hide hR
  clear hW hR
  go_enter Tryd.func57, Tryd.ntmps57
  go_wp2_with fail
  go_loopw [3] (fun v3 wr => ∃ i : Nat, v3 = .int .i64 (i : Int) ∧ 1 ≤ i ∧ i ≤ 30 ∧ wr = w ∧ Hid (R = opF (30 - i) i s)) (fun v3 _ => 30 - (intOf v3).toNat)
  case atStart => exact ⟨1, rfl, by omega, by omega, rfl, HR0.out.symm⟩
  case round =>
    obtain ⟨i, rfl, hi1, hi, rfl, HR⟩ := hrel
    by_cases hlt : i ≤ 29
    · have hlt' : (i : Int) ≤ 29 := by omega
      obtain ⟨c1, -⟩ := HW.out i (by omega)
      have hRi := HR.out
      rw [show 30 - i = (29 - i) + 1 by omega, opF] at hRi
      have hw1 : wrap64 ((i : Int) + 1) = (i : Int) + 1 := by unfold wrap64; omega
      by_cases hs : nmC i = s
      · rw [if_pos hs] at hRi
        subst hRi
        have e1 := str_yes (congrArg sB hs)
        clear HR hs
        generalize nmC R = y at *
        go_wp2_with fail
        go_ret
        exact ⟨rfl, rfl⟩
      · rw [if_neg hs] at hRi
        have e1 := str_no (sB_ne hs)
        have HR2 : Hid (R = opF (30 - (i + 1)) (i + 1) s) := by show _ = _; rw [show 30 - (i + 1) = 29 - i by omega]; exact hRi
        clear HR hs hRi
        generalize nmC i = y at *
        go_wp2_with fail
        go_roundw
        case rel => exact ⟨i + 1, by go_num, by omega, by omega, by trivial, HR2⟩
        case measure => simp [intOf]; omega
    · obtain rfl : i = 30 := by omega
      have hRi : R = 0 := HR.out
      subst hRi
      clear HR
      go_wp2_with fail
      go_ret
      exact ⟨rfl, rfl⟩
end Cw
end Go.Proofs.YtnicbillhlhmmaaDoor
