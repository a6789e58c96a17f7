import Derived.Test.YteokfhccfmeffaaL7
import Derived.Deep.QuietTactic
import Derived.BigQuiet
namespace Go.Proofs.Yteokfhccfmeffaa
open Go.RowKit
namespace layoutTight

def Post (w : World) (e : Ending) (w' : World) : Prop := e = .returned (.bool true) ∧ Below w.heap.size w w'

theorem _root_.Go.Proofs.Yteokfhccfmeffaa.Kp.drewN {w w1 : World} (h : Kp w w1) (n : Nat) : Kp w (w1.drewN n) := ⟨h.os, h.tape, h.output, h.size, h.block⟩
theorem five_cells {w : World} {g : Nat} {k e a b c : Int} (h : w.heap[g]? = some (.cells #[.int .i64 k, .int .i64 e, .int .i64 a, .int .i64 b, .int .i64 c] 3)) :
    w.cell? ⟨g, 0, none⟩ = some (.int .i64 k) ∧ w.cell? ⟨g, 1, none⟩ = some (.int .i64 e) ∧ w.cell? ⟨g, 2, none⟩ = some (.int .i64 a) ∧ w.cell? ⟨g, 3, none⟩ = some (.int .i64 b) ∧ w.cell? ⟨g, 4, none⟩ = some (.int .i64 c) ∧ g < w.heap.size :=
  ⟨cell_blk h rfl, cell_blk h rfl, cell_blk h rfl, cell_blk h rfl, cell_blk h rfl, (Array.getElem?_eq_some_iff.1 h).1⟩

set_option maxHeartbeats 8000000 in
theorem walk (k e a b c p x : Int) (hk : (Lit.int .i64 k).wf = true) (he : (Lit.int .i64 e).wf = true) (ha : (Lit.int .i64 a).wf = true) (hb : (Lit.int .i64 b).wf = true) (hc : (Lit.int .i64 c).wf = true) (_ : (Lit.int .i64 p).wf = true) (_ : (Lit.int .i64 x).wf = true) (w : World) :
    Calls Try.prog 3 #[.agg #[.int .i64 k, .int .i64 e, .int .i64 a, .int .i64 b, .int .i64 c, .int .i64 p, .int .i64 x]] w fun r w' => Post w r w' := by
  have hR := fun W => right_any k e a b c p x W hk he ha hb hc
  clear hk he ha hb hc
  go_enter Try.func3, Try.ntmps3
  go_wp2_with fail
  refine (hR _).mono ?_
  rintro r w1 ⟨g, K, E, A, B, C, hE, rfl, h1, hg, k1⟩
  clear hR
  have kw : Kp w w1 := ((Kp.refl w).alloc _).trans k1
  obtain ⟨c0, c1, c2, c3, c4, hlt⟩ := five_cells h1
  go_wp2_with fail
  refine (parse_ok g 0 5 K E A B C _ c0 c1 c2 c3 c4 hE).mono ?_
  rintro r w2 ⟨rfl, k2⟩
  obtain ⟨e1, e2, e3, e4, e5, e6, e7⟩ := errN_zero hE
  obtain ⟨hA, hKA⟩ := al_one e5
  obtain ⟨hB, hEB⟩ := al_one e6
  replace kw := kw.trans k2
  clear c0 c1 c2 c3 c4 hlt
  obtain ⟨c0, c1, c2, c3, c4, hlt⟩ := five_cells (k2.blk h1)
  have u1 := up_bound (x := K) hB
  have u2 := up_bound (x := up K B + E) (a := 8) (by omega)
  unfold Lay.val laidD slotOf
  dsimp only
  generalize up K B = X at *
  generalize up (X + E) 8 = Y at *
  have t1 : X % B = 0 := u1.2.2
  have t2 : X.tmod B = 0 := by rw [Int.tmod_eq_emod_of_nonneg (by omega)]; exact t1
  have t3 : Y % 8 = 0 := u2.2.2
  have b1 : 1 ≤ B := by omega
  have b8 : B ≤ 8 := by omega
  have bne : ¬ B = 0 := by omega
  have x0 : 1 ≤ X := by omega
  have x1 : X ≤ 200 := by omega
  have y0 : 1 ≤ Y := by omega
  have y1 : Y ≤ 500 := by omega
  have z1 : decide (X - K < 0) = false := decide_eq_false (by omega)
  have z2 : decide (B ≤ X - K) = false := decide_eq_false (by omega)
  have z3 : decide (Y - X - E < 0) = false := decide_eq_false (by omega)
  have z4 : decide (7 < Y - X - E) = false := decide_eq_false (by omega)
  clear hE e5 e6 e7 hA hKA hB hEB u1 u2 k1 k2 h1
  go_wp2_with fail
  go_quiet (fail)
  go_wp2_with fail
  go_quiet (fail)
  go_wp2_with fail
  go_quiet (fail)
  go_wp2_with fail
  go_quiet (fail)
  go_wp2_with fail
  go_ret
  refine ⟨congrArg (fun v => Ending.returned (Value.bool v)) (show (8 + 8 * (Y + 8) == 8 * (Y + 8) + 8) = true by simp; omega), ?_⟩
  show Kp _ _
  repeat first | exact kw | refine Kp.drewN ?_ _ | refine Kp.drew ?_ | refine Kp.alloc ?_ _
end layoutTight
end Go.Proofs.Yteokfhccfmeffaa
