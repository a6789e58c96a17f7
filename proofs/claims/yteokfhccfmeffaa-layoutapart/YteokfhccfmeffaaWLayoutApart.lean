import Derived.Test.YteokfhccfmeffaaA2
import Derived.Laws.MakeOwn
import Derived.Laws.Slices
import Derived.Lib.SliceRun
namespace Go.Proofs.Yteokfhccfmeffaa
open Go.RowKit
namespace layoutApart
open layoutTight

theorem make_bools (N : Nat) (hN : N ≤ 4096) :
    ∃ o : Obj, (∀ W : World, (Instr.makeSlice 42 (.int .i64 (N : Int)) (.int .i64 (N : Int))).run Try.prog W = .ok (.slice (some ⟨W.heap.size, 0, none⟩) N N) (W.alloc o)) ∧ ∀ W : World, Owned (W.alloc o) W.heap.size N 0 := by
  have hi : (Try.prog.info? 4).map (fun i => (i.zero, i.size, i.bytes)) = some (some (.bool false), 1, 1) := by kernel_rfl
  obtain ⟨i, h1, h2, h3, h4⟩ := info_parts hi
  have hs : (madeCells (Value.bool false).cells (N * 1)).size = N := by simp [size_madeCells]
  have hc : ∀ j, j < N → (madeCells (Value.bool false).cells (N * 1))[j]? = some (.bool false) := fun j hj => by
    rw [Array.getElem?_eq_getElem (by omega)]
    simp [madeCells, Value.cells, Nat.mod_one]
  refine ⟨.cells (madeCells (Value.bool false).cells (N * 1)) 4, fun W => ?_, fun W => ⟨_, heap_new _ _, hs, fun j hj => ⟨false, hc j hj⟩, fun j _ hj => hc j hj⟩⟩
  have h := run_make (P := Try.prog) W 42 4 i (.bool false) Try.underlying42 h1 h2 .i64 .i64 (N : Int) (N : Int) (by omega) (by omega) (by rw [h4]; omega) (by omega)
  rw [h, h3]
  simp only [Int.toNat_natCast]

set_option maxRecDepth 100000 in
set_option maxHeartbeats 8000000 in
theorem walk (k e a b c p x : Int) (hk : (Lit.int .i64 k).wf = true) (he : (Lit.int .i64 e).wf = true) (ha : (Lit.int .i64 a).wf = true) (hb : (Lit.int .i64 b).wf = true) (hc : (Lit.int .i64 c).wf = true) (_ : (Lit.int .i64 p).wf = true) (_ : (Lit.int .i64 x).wf = true) (w : World) :
    Calls Try.prog 7 #[.agg #[.int .i64 k, .int .i64 e, .int .i64 a, .int .i64 b, .int .i64 c, .int .i64 p, .int .i64 x]] w fun r w' => Post w r w' := by
  have hR := fun W => right_any k e a b c p x W hk he ha hb hc
  clear hk he ha hb hc
  go_enter Try.func7, Try.ntmps7
  go_wp2_with fail
  refine (hR _).mono ?_
  rintro r w1 ⟨g, K, E, A, B, C, hE, rfl, h1, hg, k1⟩
  clear hR
  have kw : Kp w w1 := ((Kp.refl w).alloc _).trans k1
  obtain ⟨c0, c1, c2, c3, c4, hlt⟩ := five_cells h1
  go_wp2_with fail
  refine (parse_ok g 0 5 K E A B C _ c0 c1 c2 c3 c4 hE).mono ?_
  rintro r w2 ⟨rfl, k2⟩
  replace kw := kw.trans k2
  have hV := valid_laid hE
  obtain ⟨X, Y, S, G, hm⟩ : ∃ X Y S G, laidD K E A B C = ⟨K, E, A, B, C, X, Y, S, G⟩ := ⟨_, _, _, _, rfl⟩
  rw [hm] at hV
  rw [hm]
  unfold Lay.val
  dsimp only
  replace h1 := k2.blk h1
  clear c0 c1 c2 c3 c4 hlt k1 k2 hg hE hm
  obtain ⟨c0, c1, c2, c3, c4, hlt⟩ := five_cells h1
  obtain ⟨v1, v2, v3, v4, va, vb, v5, v6, v7, v8, v9, v10, v11⟩ := valid_facts hV
  dsimp only at v1 v2 v3 v4 va vb v5 v6 v7 v8 v9 v10 v11
  have z1 : decide (G < 1) = false := decide_eq_false (by omega)
  have z2 : decide (4096 < G) = false := decide_eq_false (by omega)
  have z3 : G % 8 = 0 := by omega
  have z4 : G.tmod 8 = 0 := by rw [Int.tmod_eq_emod_of_nonneg (by omega)]; exact z3
  have gb : 1 ≤ G := by omega
  have gb2 : G ≤ 4096 := by omega
  have H8 : Hid (S = Y + 8 ∧ G = 8 + 8 * S) := ⟨v7, v8⟩
  clear v5 v6 v7 v8 v9 v10 v11 va vb v1 v2 v3 v4
  go_wp2_with fail
  go_quiet (fail)
  refine tail_alloc kw (P := fun W => Exit.then _ _ _ _ (W.drewN _)) fun W3 hL kW => ?_
  clear c0 c1 c2 c3 c4 hlt kw
  replace kW := kW.drewN nq
  replace hL : (W3.drewN nq).heap[w2.heap.size]? = _ := hL
  have hLw : w2.heap.size < (W3.drewN nq).heap.size := (Array.getElem?_eq_some_iff.1 hL).1
  generalize W3.drewN nq = W at *
  generalize w2.heap.size = L at *
  obtain ⟨b0, b1, b2, b3, b4, b5, b6, b7, b8, -⟩ := (Kp.refl W).nine hL
  obtain ⟨N, rfl⟩ := Int.eq_ofNat_of_zero_le (show 0 ≤ G by omega)
  have hN : N ≤ 4096 := by omega
  obtain ⟨ob, hmk, hmo⟩ := make_bools N hN
  have hmk := hmk W
  go_wp2_with fail
  have ho := hmo W
  have kW2 := kW.alloc ob
  replace hL := heap_old hL ob
  have hq : w.heap.size ≤ W.heap.size := kW.size
  have hLq : L ≠ W.heap.size := by omega
  have h8N : (0 : Int) + 8 ≤ N := by have := H8.out; omega
  clear hmk hmo b0 b1 b2 b3 b4 b5 b6 b7 b8 kW
  generalize W.alloc ob = W1 at *
  generalize W.heap.size = q at *
  refine (mark_int q N 0 0 8 _ ho (by omega) (by omega) h8N hN).mono ?_
  rintro r w4 ⟨rfl, ho1, k1⟩
  replace hL := k1.blk hL hLq
  replace kW2 := k1.kp kW2 hq
  clear ho k1
  go_wp2_with fail
  go_loopw [7, 8] (fun vo v wr => ∃ i : Nat, vo = .bool true ∧ v = .int .i64 (i : Int) ∧ i ≤ 8 ∧ Owned wr q N (8 + (i : Int) * S).toNat ∧ wr.heap[L]? = some (.cells #[.int .i64 K, .int .i64 E, .int .i64 A, .int .i64 B, .int .i64 C, .int .i64 X, .int .i64 Y, .int .i64 S, .int .i64 (N : Int)] 27) ∧ Kp w wr) (fun _ v _ => 8 - (intOf v).toNat)
  case atStart => exact ⟨0, rfl, rfl, by omega, by simpa using ho1, hL, kW2⟩
  case round =>
    obtain ⟨i, rfl, rfl, hi, ho, hl, kr⟩ := hrel
    clear ho1 hL kW2
    obtain ⟨b0, b1, b2, b3, b4, b5, b6, b7, b8, -⟩ := (Kp.refl wr).nine hl
    by_cases h8 : i < 8
    · have h8' : (i : Int) < 8 := by omega
      go_wp2_with fail
      refine (slot_any q N i ⟨K, E, A, B, C, X, Y, S, N⟩ _ hV h8 rfl ho).mono ?_
      rintro r w5 ⟨rfl, ho5, k5⟩
      have hl5 := k5.blk hl hLq
      have kr5 := k5.kp kr hq
      clear k5 b0 b1 b2 b3 b4 b5 b6 b7 b8
      go_wp2_with fail
      go_roundw
      case rel => exact ⟨i + 1, rfl, rfl, by omega, ho5, hl5, kr5⟩
      case measure => simp [intOf]; omega
    · have h8' : ¬ (i : Int) < 8 := by omega
      go_wp2_with fail
      go_ret
      exact ⟨rfl, kr⟩
end layoutApart
end Go.Proofs.Yteokfhccfmeffaa
