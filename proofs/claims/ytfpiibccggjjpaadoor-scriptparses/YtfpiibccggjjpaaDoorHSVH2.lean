/-
  script: the reference's command, case by case (gensvh.py).
-/
import Derived.Test.YtfpiibccggjjpaaDoorHSVG0
namespace Go.Proofs.YtfpiibccggjjpaaDoor
open Go.RowKit
set_option linter.unusedVariables false
set_option maxRecDepth 100000 in
set_option maxHeartbeats 4000000 in
theorem cmd_20A (w : World) (gb cb : Nat) (x0 : ByteArray) (qb0 : w.cell? ⟨gb, 0, none⟩ = some (.string x0)) (mb : Nat) (hmb : 1 < mb) (x1 : ByteArray) (qb1 : w.cell? ⟨gb, 1, none⟩ = some (.string x1)) (sw : Option Addr) (cw : Nat) (gn on cn mn : Nat) (hmn : 0 < mn) (z : Int) (qn : w.cell? ⟨gn, on, none⟩ = some (.int .i64 z)) (so : Option Addr) (n1 c1 : Nat) (hcut : ∀ W, (Instr.slice 30 (.slice (some ⟨gn, on, none⟩) mn cn) (some (.int .i64 1)) none none).run Tryd.prog W = .ok (.slice so n1 c1) W) : Calls Tryd.prog 42 #[.int .i64 1, .agg #[.slice (some ⟨gn, on, none⟩) mn cn, .slice sw 0 cw, .slice (some ⟨gb, 0, none⟩) mb cb]] w fun e w' => e = .returned (.agg #[.int .i64 1, .int .i64 0, .slice so n1 c1, .slice none 0 0, .int .u64 0, .int .u64 0, .int .i64 z, .string x0, .string x1]) ∧ Keeps w w' (fun _ => False) := by
  have a_gb : ¬ gb = w.heap.size + 1 + 1 := by have := cell_lt8 qb0; simp only at this; omega
  have b_gb : ¬ w.heap.size + 1 + 1 = gb := by omega
  have a_gn : ¬ gn = w.heap.size + 1 + 1 := by have := cell_lt8 qn; simp only at this; omega
  have b_gn : ¬ w.heap.size + 1 + 1 = gn := by omega
  have i_mb : (0 : Int) < (mb : Int) := by omega
  have j_mb : 0 < mb := by omega
  have k_mb : (1 : Int) < (mb : Int) := by omega
  have i_mn : (0 : Int) < (mn : Int) := by omega
  have j_mn : 0 < mn := by omega
  go_enter Tryd.func42, Tryd.ntmps42
  go_upto_region 2 with fail
  refine alloc3r (P := fun W => Code.wp _ _ _ _ W) fun W0 hb0 hb1 hb2 k0 => ?_
  obtain ⟨e0, e1, e2⟩ := three_cells9 hb0
  obtain ⟨d0, d1, d2, d3, d4, d5, d6, d7, d8⟩ := at9 hb2
  obtain ⟨f0, f1, f2, f3, f4, f5, f6, f7, f8⟩ := fro9 hb2
  obtain ⟨r0, r1, r2, r3, r4, r5, r6, r7, r8⟩ := at9 hb1
  obtain ⟨s0, s1, s2, s3, s4, s5, s6, s7, s8⟩ := fro9 hb1
  have qb0' := keeps_cell k0 qb0
  have qb1' := keeps_cell k0 qb1
  have qn' := keeps_cell k0 qn
  have Hb1 := hide hb1
  have K0 := hide k0
  clear hb0 hb1 hb2 k0 qb0 qb1 qn
  go_wp2_with (rw [hcut])
  refine set9 (P := bodyPost Tryd.prog _ _ Exit.ret _) (B := w.heap.size + 1) (by (repeat (with_reducible refine blk_other ?_ (by omega) _)); with_reducible exact Hb1.out) fun W' hb kk => ?_
  obtain ⟨t0, t1, t2, t3, t4, t5, t6, t7, t8⟩ := at9 hb
  refine bodyPost_ret (v := .agg #[.int .i64 1, .int .i64 0, .slice so n1 c1, .slice none 0 0, .int .u64 0, .int .u64 0, .int .i64 z, .string x0, .string x1]) (by simp [results, Tryd.results42, go_sem, t0, t1, t2, t3, t4, t5, t6, t7, t8]) rfl ?_
  exact ⟨rfl, Keeps.trans (by (repeat (with_reducible refine Keeps.setHi ?_ (by omega) _)); with_reducible exact K0.out) kk (fun i hi e => by omega)⟩
set_option maxRecDepth 100000 in
set_option maxHeartbeats 4000000 in
theorem cmd_20B (w : World) (gb cb : Nat) (x0 : ByteArray) (qb0 : w.cell? ⟨gb, 0, none⟩ = some (.string x0)) (mb : Nat) (hmb : 1 < mb) (x1 : ByteArray) (qb1 : w.cell? ⟨gb, 1, none⟩ = some (.string x1)) (sw : Option Addr) (cw : Nat) (so : Option Addr) (n1 c1 : Nat) : Calls Tryd.prog 42 #[.int .i64 10, .agg #[.slice so n1 c1, .slice sw 0 cw, .slice (some ⟨gb, 0, none⟩) mb cb]] w fun e w' => e = .returned (.agg #[.int .i64 10, .int .i64 0, .slice none 0 0, .slice so n1 c1, .int .u64 0, .int .u64 0, .int .i64 0, .string x0, .string x1]) ∧ Keeps w w' (fun _ => False) := by
  have a_gb : ¬ gb = w.heap.size + 1 + 1 := by have := cell_lt8 qb0; simp only at this; omega
  have b_gb : ¬ w.heap.size + 1 + 1 = gb := by omega
  have i_mb : (0 : Int) < (mb : Int) := by omega
  have j_mb : 0 < mb := by omega
  have k_mb : (1 : Int) < (mb : Int) := by omega
  go_enter Tryd.func42, Tryd.ntmps42
  go_upto_region 2 with fail
  refine alloc3r (P := fun W => Code.wp _ _ _ _ W) fun W0 hb0 hb1 hb2 k0 => ?_
  obtain ⟨e0, e1, e2⟩ := three_cells9 hb0
  obtain ⟨d0, d1, d2, d3, d4, d5, d6, d7, d8⟩ := at9 hb2
  obtain ⟨f0, f1, f2, f3, f4, f5, f6, f7, f8⟩ := fro9 hb2
  obtain ⟨r0, r1, r2, r3, r4, r5, r6, r7, r8⟩ := at9 hb1
  obtain ⟨s0, s1, s2, s3, s4, s5, s6, s7, s8⟩ := fro9 hb1
  have qb0' := keeps_cell k0 qb0
  have qb1' := keeps_cell k0 qb1
  have Hb1 := hide hb1
  have K0 := hide k0
  clear hb0 hb1 hb2 k0 qb0 qb1
  go_wp2_with fail
  refine set9 (P := bodyPost Tryd.prog _ _ Exit.ret _) (B := w.heap.size + 1) (by (repeat (with_reducible refine blk_other ?_ (by omega) _)); with_reducible exact Hb1.out) fun W' hb kk => ?_
  obtain ⟨t0, t1, t2, t3, t4, t5, t6, t7, t8⟩ := at9 hb
  refine bodyPost_ret (v := .agg #[.int .i64 10, .int .i64 0, .slice none 0 0, .slice so n1 c1, .int .u64 0, .int .u64 0, .int .i64 0, .string x0, .string x1]) (by simp [results, Tryd.results42, go_sem, t0, t1, t2, t3, t4, t5, t6, t7, t8]) rfl ?_
  exact ⟨rfl, Keeps.trans (by (repeat (with_reducible refine Keeps.setHi ?_ (by omega) _)); with_reducible exact K0.out) kk (fun i hi e => by omega)⟩
set_option maxRecDepth 100000 in
set_option maxHeartbeats 4000000 in
theorem cmd_20C (w : World) (gb cb : Nat) (x0 : ByteArray) (qb0 : w.cell? ⟨gb, 0, none⟩ = some (.string x0)) (mb : Nat) (hmb : 1 < mb) (x1 : ByteArray) (qb1 : w.cell? ⟨gb, 1, none⟩ = some (.string x1)) (sw : Option Addr) (cw : Nat) (op : Int) (h1 : ¬ op = 1) (h10 : ¬ op = 10) (sn : Option Addr) (cn : Nat) : Calls Tryd.prog 42 #[.int .i64 op, .agg #[.slice sn 0 cn, .slice sw 0 cw, .slice (some ⟨gb, 0, none⟩) mb cb]] w fun e w' => e = .returned (.agg #[.int .i64 op, .int .i64 0, .slice none 0 0, .slice none 0 0, .int .u64 0, .int .u64 0, .int .i64 0, .string x0, .string x1]) ∧ Keeps w w' (fun _ => False) := by
  have a_gb : ¬ gb = w.heap.size + 1 + 1 := by have := cell_lt8 qb0; simp only at this; omega
  have b_gb : ¬ w.heap.size + 1 + 1 = gb := by omega
  have i_mb : (0 : Int) < (mb : Int) := by omega
  have j_mb : 0 < mb := by omega
  have k_mb : (1 : Int) < (mb : Int) := by omega
  go_enter Tryd.func42, Tryd.ntmps42
  go_upto_region 2 with fail
  refine alloc3r (P := fun W => Code.wp _ _ _ _ W) fun W0 hb0 hb1 hb2 k0 => ?_
  obtain ⟨e0, e1, e2⟩ := three_cells9 hb0
  obtain ⟨d0, d1, d2, d3, d4, d5, d6, d7, d8⟩ := at9 hb2
  obtain ⟨f0, f1, f2, f3, f4, f5, f6, f7, f8⟩ := fro9 hb2
  obtain ⟨r0, r1, r2, r3, r4, r5, r6, r7, r8⟩ := at9 hb1
  obtain ⟨s0, s1, s2, s3, s4, s5, s6, s7, s8⟩ := fro9 hb1
  have qb0' := keeps_cell k0 qb0
  have qb1' := keeps_cell k0 qb1
  have Hb1 := hide hb1
  have K0 := hide k0
  clear hb0 hb1 hb2 k0 qb0 qb1
  go_wp2_with fail
  refine set9 (P := bodyPost Tryd.prog _ _ Exit.ret _) (B := w.heap.size + 1) (by (repeat (with_reducible refine blk_other ?_ (by omega) _)); with_reducible exact Hb1.out) fun W' hb kk => ?_
  obtain ⟨t0, t1, t2, t3, t4, t5, t6, t7, t8⟩ := at9 hb
  refine bodyPost_ret (v := .agg #[.int .i64 op, .int .i64 0, .slice none 0 0, .slice none 0 0, .int .u64 0, .int .u64 0, .int .i64 0, .string x0, .string x1]) (by simp [results, Tryd.results42, go_sem, t0, t1, t2, t3, t4, t5, t6, t7, t8]) rfl ?_
  exact ⟨rfl, Keeps.trans (by (repeat (with_reducible refine Keeps.setHi ?_ (by omega) _)); with_reducible exact K0.out) kk (fun i hi e => by omega)⟩
set_option maxRecDepth 100000 in
set_option maxHeartbeats 4000000 in
theorem cmd_20D (w : World) (gb cb : Nat) (x0 : ByteArray) (qb0 : w.cell? ⟨gb, 0, none⟩ = some (.string x0)) (mb : Nat) (hmb : 1 < mb) (x1 : ByteArray) (qb1 : w.cell? ⟨gb, 1, none⟩ = some (.string x1)) (sw : Option Addr) (cw : Nat) (op : Int) (h1 : ¬ op = 1) (h10 : ¬ op = 10) (gn on cn mn : Nat) (hmn : 0 < mn) (z : Int) (qn : w.cell? ⟨gn, on, none⟩ = some (.int .i64 z)) : Calls Tryd.prog 42 #[.int .i64 op, .agg #[.slice (some ⟨gn, on, none⟩) mn cn, .slice sw 0 cw, .slice (some ⟨gb, 0, none⟩) mb cb]] w fun e w' => e = .returned (.agg #[.int .i64 op, .int .i64 z, .slice none 0 0, .slice none 0 0, .int .u64 0, .int .u64 0, .int .i64 0, .string x0, .string x1]) ∧ Keeps w w' (fun _ => False) := by
  have a_gb : ¬ gb = w.heap.size + 1 + 1 := by have := cell_lt8 qb0; simp only at this; omega
  have b_gb : ¬ w.heap.size + 1 + 1 = gb := by omega
  have a_gn : ¬ gn = w.heap.size + 1 + 1 := by have := cell_lt8 qn; simp only at this; omega
  have b_gn : ¬ w.heap.size + 1 + 1 = gn := by omega
  have i_mb : (0 : Int) < (mb : Int) := by omega
  have j_mb : 0 < mb := by omega
  have k_mb : (1 : Int) < (mb : Int) := by omega
  have i_mn : (0 : Int) < (mn : Int) := by omega
  have j_mn : 0 < mn := by omega
  go_enter Tryd.func42, Tryd.ntmps42
  go_upto_region 2 with fail
  refine alloc3r (P := fun W => Code.wp _ _ _ _ W) fun W0 hb0 hb1 hb2 k0 => ?_
  obtain ⟨e0, e1, e2⟩ := three_cells9 hb0
  obtain ⟨d0, d1, d2, d3, d4, d5, d6, d7, d8⟩ := at9 hb2
  obtain ⟨f0, f1, f2, f3, f4, f5, f6, f7, f8⟩ := fro9 hb2
  obtain ⟨r0, r1, r2, r3, r4, r5, r6, r7, r8⟩ := at9 hb1
  obtain ⟨s0, s1, s2, s3, s4, s5, s6, s7, s8⟩ := fro9 hb1
  have qb0' := keeps_cell k0 qb0
  have qb1' := keeps_cell k0 qb1
  have qn' := keeps_cell k0 qn
  have Hb1 := hide hb1
  have K0 := hide k0
  clear hb0 hb1 hb2 k0 qb0 qb1 qn
  go_wp2_with fail
  refine set9 (P := bodyPost Tryd.prog _ _ Exit.ret _) (B := w.heap.size + 1) (by (repeat (with_reducible refine blk_other ?_ (by omega) _)); with_reducible exact Hb1.out) fun W' hb kk => ?_
  obtain ⟨t0, t1, t2, t3, t4, t5, t6, t7, t8⟩ := at9 hb
  refine bodyPost_ret (v := .agg #[.int .i64 op, .int .i64 z, .slice none 0 0, .slice none 0 0, .int .u64 0, .int .u64 0, .int .i64 0, .string x0, .string x1]) (by simp [results, Tryd.results42, go_sem, t0, t1, t2, t3, t4, t5, t6, t7, t8]) rfl ?_
  exact ⟨rfl, Keeps.trans (by (repeat (with_reducible refine Keeps.setHi ?_ (by omega) _)); with_reducible exact K0.out) kk (fun i hi e => by omega)⟩
set_option maxRecDepth 100000 in
set_option maxHeartbeats 4000000 in
theorem cmd_21A (w : World) (gb cb : Nat) (x0 : ByteArray) (qb0 : w.cell? ⟨gb, 0, none⟩ = some (.string x0)) (mb : Nat) (hmb : 1 < mb) (x1 : ByteArray) (qb1 : w.cell? ⟨gb, 1, none⟩ = some (.string x1)) (gw cw : Nat) (y0 : Nat) (qw0 : w.cell? ⟨gw, 0, none⟩ = some (.int .u64 (y0 : Int))) (gn on cn mn : Nat) (hmn : 0 < mn) (z : Int) (qn : w.cell? ⟨gn, on, none⟩ = some (.int .i64 z)) (so : Option Addr) (n1 c1 : Nat) (hcut : ∀ W, (Instr.slice 30 (.slice (some ⟨gn, on, none⟩) mn cn) (some (.int .i64 1)) none none).run Tryd.prog W = .ok (.slice so n1 c1) W) : Calls Tryd.prog 42 #[.int .i64 1, .agg #[.slice (some ⟨gn, on, none⟩) mn cn, .slice (some ⟨gw, 0, none⟩) 1 cw, .slice (some ⟨gb, 0, none⟩) mb cb]] w fun e w' => e = .returned (.agg #[.int .i64 1, .int .i64 0, .slice so n1 c1, .slice none 0 0, .int .u64 (y0 : Int), .int .u64 0, .int .i64 z, .string x0, .string x1]) ∧ Keeps w w' (fun _ => False) := by
  have a_gb : ¬ gb = w.heap.size + 1 + 1 := by have := cell_lt8 qb0; simp only at this; omega
  have b_gb : ¬ w.heap.size + 1 + 1 = gb := by omega
  have a_gw : ¬ gw = w.heap.size + 1 + 1 := by have := cell_lt8 qw0; simp only at this; omega
  have b_gw : ¬ w.heap.size + 1 + 1 = gw := by omega
  have a_gn : ¬ gn = w.heap.size + 1 + 1 := by have := cell_lt8 qn; simp only at this; omega
  have b_gn : ¬ w.heap.size + 1 + 1 = gn := by omega
  have i_mb : (0 : Int) < (mb : Int) := by omega
  have j_mb : 0 < mb := by omega
  have k_mb : (1 : Int) < (mb : Int) := by omega
  have i_mn : (0 : Int) < (mn : Int) := by omega
  have j_mn : 0 < mn := by omega
  go_enter Tryd.func42, Tryd.ntmps42
  go_upto_region 2 with fail
  refine alloc3r (P := fun W => Code.wp _ _ _ _ W) fun W0 hb0 hb1 hb2 k0 => ?_
  obtain ⟨e0, e1, e2⟩ := three_cells9 hb0
  obtain ⟨d0, d1, d2, d3, d4, d5, d6, d7, d8⟩ := at9 hb2
  obtain ⟨f0, f1, f2, f3, f4, f5, f6, f7, f8⟩ := fro9 hb2
  obtain ⟨r0, r1, r2, r3, r4, r5, r6, r7, r8⟩ := at9 hb1
  obtain ⟨s0, s1, s2, s3, s4, s5, s6, s7, s8⟩ := fro9 hb1
  have qb0' := keeps_cell k0 qb0
  have qb1' := keeps_cell k0 qb1
  have qw0' := keeps_cell k0 qw0
  have qn' := keeps_cell k0 qn
  have Hb1 := hide hb1
  have K0 := hide k0
  clear hb0 hb1 hb2 k0 qb0 qb1 qw0 qn
  go_wp2_with (rw [hcut])
  refine set9 (P := bodyPost Tryd.prog _ _ Exit.ret _) (B := w.heap.size + 1) (by (repeat (with_reducible refine blk_other ?_ (by omega) _)); with_reducible exact Hb1.out) fun W' hb kk => ?_
  obtain ⟨t0, t1, t2, t3, t4, t5, t6, t7, t8⟩ := at9 hb
  refine bodyPost_ret (v := .agg #[.int .i64 1, .int .i64 0, .slice so n1 c1, .slice none 0 0, .int .u64 (y0 : Int), .int .u64 0, .int .i64 z, .string x0, .string x1]) (by simp [results, Tryd.results42, go_sem, t0, t1, t2, t3, t4, t5, t6, t7, t8]) rfl ?_
  exact ⟨rfl, Keeps.trans (by (repeat (with_reducible refine Keeps.setHi ?_ (by omega) _)); with_reducible exact K0.out) kk (fun i hi e => by omega)⟩
set_option maxRecDepth 100000 in
set_option maxHeartbeats 4000000 in
theorem cmd_21B (w : World) (gb cb : Nat) (x0 : ByteArray) (qb0 : w.cell? ⟨gb, 0, none⟩ = some (.string x0)) (mb : Nat) (hmb : 1 < mb) (x1 : ByteArray) (qb1 : w.cell? ⟨gb, 1, none⟩ = some (.string x1)) (gw cw : Nat) (y0 : Nat) (qw0 : w.cell? ⟨gw, 0, none⟩ = some (.int .u64 (y0 : Int))) (so : Option Addr) (n1 c1 : Nat) : Calls Tryd.prog 42 #[.int .i64 10, .agg #[.slice so n1 c1, .slice (some ⟨gw, 0, none⟩) 1 cw, .slice (some ⟨gb, 0, none⟩) mb cb]] w fun e w' => e = .returned (.agg #[.int .i64 10, .int .i64 0, .slice none 0 0, .slice so n1 c1, .int .u64 (y0 : Int), .int .u64 0, .int .i64 0, .string x0, .string x1]) ∧ Keeps w w' (fun _ => False) := by
  have a_gb : ¬ gb = w.heap.size + 1 + 1 := by have := cell_lt8 qb0; simp only at this; omega
  have b_gb : ¬ w.heap.size + 1 + 1 = gb := by omega
  have a_gw : ¬ gw = w.heap.size + 1 + 1 := by have := cell_lt8 qw0; simp only at this; omega
  have b_gw : ¬ w.heap.size + 1 + 1 = gw := by omega
  have i_mb : (0 : Int) < (mb : Int) := by omega
  have j_mb : 0 < mb := by omega
  have k_mb : (1 : Int) < (mb : Int) := by omega
  go_enter Tryd.func42, Tryd.ntmps42
  go_upto_region 2 with fail
  refine alloc3r (P := fun W => Code.wp _ _ _ _ W) fun W0 hb0 hb1 hb2 k0 => ?_
  obtain ⟨e0, e1, e2⟩ := three_cells9 hb0
  obtain ⟨d0, d1, d2, d3, d4, d5, d6, d7, d8⟩ := at9 hb2
  obtain ⟨f0, f1, f2, f3, f4, f5, f6, f7, f8⟩ := fro9 hb2
  obtain ⟨r0, r1, r2, r3, r4, r5, r6, r7, r8⟩ := at9 hb1
  obtain ⟨s0, s1, s2, s3, s4, s5, s6, s7, s8⟩ := fro9 hb1
  have qb0' := keeps_cell k0 qb0
  have qb1' := keeps_cell k0 qb1
  have qw0' := keeps_cell k0 qw0
  have Hb1 := hide hb1
  have K0 := hide k0
  clear hb0 hb1 hb2 k0 qb0 qb1 qw0
  go_wp2_with fail
  refine set9 (P := bodyPost Tryd.prog _ _ Exit.ret _) (B := w.heap.size + 1) (by (repeat (with_reducible refine blk_other ?_ (by omega) _)); with_reducible exact Hb1.out) fun W' hb kk => ?_
  obtain ⟨t0, t1, t2, t3, t4, t5, t6, t7, t8⟩ := at9 hb
  refine bodyPost_ret (v := .agg #[.int .i64 10, .int .i64 0, .slice none 0 0, .slice so n1 c1, .int .u64 (y0 : Int), .int .u64 0, .int .i64 0, .string x0, .string x1]) (by simp [results, Tryd.results42, go_sem, t0, t1, t2, t3, t4, t5, t6, t7, t8]) rfl ?_
  exact ⟨rfl, Keeps.trans (by (repeat (with_reducible refine Keeps.setHi ?_ (by omega) _)); with_reducible exact K0.out) kk (fun i hi e => by omega)⟩
set_option maxRecDepth 100000 in
set_option maxHeartbeats 4000000 in
theorem cmd_21C (w : World) (gb cb : Nat) (x0 : ByteArray) (qb0 : w.cell? ⟨gb, 0, none⟩ = some (.string x0)) (mb : Nat) (hmb : 1 < mb) (x1 : ByteArray) (qb1 : w.cell? ⟨gb, 1, none⟩ = some (.string x1)) (gw cw : Nat) (y0 : Nat) (qw0 : w.cell? ⟨gw, 0, none⟩ = some (.int .u64 (y0 : Int))) (op : Int) (h1 : ¬ op = 1) (h10 : ¬ op = 10) (sn : Option Addr) (cn : Nat) : Calls Tryd.prog 42 #[.int .i64 op, .agg #[.slice sn 0 cn, .slice (some ⟨gw, 0, none⟩) 1 cw, .slice (some ⟨gb, 0, none⟩) mb cb]] w fun e w' => e = .returned (.agg #[.int .i64 op, .int .i64 0, .slice none 0 0, .slice none 0 0, .int .u64 (y0 : Int), .int .u64 0, .int .i64 0, .string x0, .string x1]) ∧ Keeps w w' (fun _ => False) := by
  have a_gb : ¬ gb = w.heap.size + 1 + 1 := by have := cell_lt8 qb0; simp only at this; omega
  have b_gb : ¬ w.heap.size + 1 + 1 = gb := by omega
  have a_gw : ¬ gw = w.heap.size + 1 + 1 := by have := cell_lt8 qw0; simp only at this; omega
  have b_gw : ¬ w.heap.size + 1 + 1 = gw := by omega
  have i_mb : (0 : Int) < (mb : Int) := by omega
  have j_mb : 0 < mb := by omega
  have k_mb : (1 : Int) < (mb : Int) := by omega
  go_enter Tryd.func42, Tryd.ntmps42
  go_upto_region 2 with fail
  refine alloc3r (P := fun W => Code.wp _ _ _ _ W) fun W0 hb0 hb1 hb2 k0 => ?_
  obtain ⟨e0, e1, e2⟩ := three_cells9 hb0
  obtain ⟨d0, d1, d2, d3, d4, d5, d6, d7, d8⟩ := at9 hb2
  obtain ⟨f0, f1, f2, f3, f4, f5, f6, f7, f8⟩ := fro9 hb2
  obtain ⟨r0, r1, r2, r3, r4, r5, r6, r7, r8⟩ := at9 hb1
  obtain ⟨s0, s1, s2, s3, s4, s5, s6, s7, s8⟩ := fro9 hb1
  have qb0' := keeps_cell k0 qb0
  have qb1' := keeps_cell k0 qb1
  have qw0' := keeps_cell k0 qw0
  have Hb1 := hide hb1
  have K0 := hide k0
  clear hb0 hb1 hb2 k0 qb0 qb1 qw0
  go_wp2_with fail
  refine set9 (P := bodyPost Tryd.prog _ _ Exit.ret _) (B := w.heap.size + 1) (by (repeat (with_reducible refine blk_other ?_ (by omega) _)); with_reducible exact Hb1.out) fun W' hb kk => ?_
  obtain ⟨t0, t1, t2, t3, t4, t5, t6, t7, t8⟩ := at9 hb
  refine bodyPost_ret (v := .agg #[.int .i64 op, .int .i64 0, .slice none 0 0, .slice none 0 0, .int .u64 (y0 : Int), .int .u64 0, .int .i64 0, .string x0, .string x1]) (by simp [results, Tryd.results42, go_sem, t0, t1, t2, t3, t4, t5, t6, t7, t8]) rfl ?_
  exact ⟨rfl, Keeps.trans (by (repeat (with_reducible refine Keeps.setHi ?_ (by omega) _)); with_reducible exact K0.out) kk (fun i hi e => by omega)⟩
set_option maxRecDepth 100000 in
set_option maxHeartbeats 4000000 in
theorem cmd_21D (w : World) (gb cb : Nat) (x0 : ByteArray) (qb0 : w.cell? ⟨gb, 0, none⟩ = some (.string x0)) (mb : Nat) (hmb : 1 < mb) (x1 : ByteArray) (qb1 : w.cell? ⟨gb, 1, none⟩ = some (.string x1)) (gw cw : Nat) (y0 : Nat) (qw0 : w.cell? ⟨gw, 0, none⟩ = some (.int .u64 (y0 : Int))) (op : Int) (h1 : ¬ op = 1) (h10 : ¬ op = 10) (gn on cn mn : Nat) (hmn : 0 < mn) (z : Int) (qn : w.cell? ⟨gn, on, none⟩ = some (.int .i64 z)) : Calls Tryd.prog 42 #[.int .i64 op, .agg #[.slice (some ⟨gn, on, none⟩) mn cn, .slice (some ⟨gw, 0, none⟩) 1 cw, .slice (some ⟨gb, 0, none⟩) mb cb]] w fun e w' => e = .returned (.agg #[.int .i64 op, .int .i64 z, .slice none 0 0, .slice none 0 0, .int .u64 (y0 : Int), .int .u64 0, .int .i64 0, .string x0, .string x1]) ∧ Keeps w w' (fun _ => False) := by
  have a_gb : ¬ gb = w.heap.size + 1 + 1 := by have := cell_lt8 qb0; simp only at this; omega
  have b_gb : ¬ w.heap.size + 1 + 1 = gb := by omega
  have a_gw : ¬ gw = w.heap.size + 1 + 1 := by have := cell_lt8 qw0; simp only at this; omega
  have b_gw : ¬ w.heap.size + 1 + 1 = gw := by omega
  have a_gn : ¬ gn = w.heap.size + 1 + 1 := by have := cell_lt8 qn; simp only at this; omega
  have b_gn : ¬ w.heap.size + 1 + 1 = gn := by omega
  have i_mb : (0 : Int) < (mb : Int) := by omega
  have j_mb : 0 < mb := by omega
  have k_mb : (1 : Int) < (mb : Int) := by omega
  have i_mn : (0 : Int) < (mn : Int) := by omega
  have j_mn : 0 < mn := by omega
  go_enter Tryd.func42, Tryd.ntmps42
  go_upto_region 2 with fail
  refine alloc3r (P := fun W => Code.wp _ _ _ _ W) fun W0 hb0 hb1 hb2 k0 => ?_
  obtain ⟨e0, e1, e2⟩ := three_cells9 hb0
  obtain ⟨d0, d1, d2, d3, d4, d5, d6, d7, d8⟩ := at9 hb2
  obtain ⟨f0, f1, f2, f3, f4, f5, f6, f7, f8⟩ := fro9 hb2
  obtain ⟨r0, r1, r2, r3, r4, r5, r6, r7, r8⟩ := at9 hb1
  obtain ⟨s0, s1, s2, s3, s4, s5, s6, s7, s8⟩ := fro9 hb1
  have qb0' := keeps_cell k0 qb0
  have qb1' := keeps_cell k0 qb1
  have qw0' := keeps_cell k0 qw0
  have qn' := keeps_cell k0 qn
  have Hb1 := hide hb1
  have K0 := hide k0
  clear hb0 hb1 hb2 k0 qb0 qb1 qw0 qn
  go_wp2_with fail
  refine set9 (P := bodyPost Tryd.prog _ _ Exit.ret _) (B := w.heap.size + 1) (by (repeat (with_reducible refine blk_other ?_ (by omega) _)); with_reducible exact Hb1.out) fun W' hb kk => ?_
  obtain ⟨t0, t1, t2, t3, t4, t5, t6, t7, t8⟩ := at9 hb
  refine bodyPost_ret (v := .agg #[.int .i64 op, .int .i64 z, .slice none 0 0, .slice none 0 0, .int .u64 (y0 : Int), .int .u64 0, .int .i64 0, .string x0, .string x1]) (by simp [results, Tryd.results42, go_sem, t0, t1, t2, t3, t4, t5, t6, t7, t8]) rfl ?_
  exact ⟨rfl, Keeps.trans (by (repeat (with_reducible refine Keeps.setHi ?_ (by omega) _)); with_reducible exact K0.out) kk (fun i hi e => by omega)⟩
set_option maxRecDepth 100000 in
set_option maxHeartbeats 4000000 in
theorem cmd_22A (w : World) (gb cb : Nat) (x0 : ByteArray) (qb0 : w.cell? ⟨gb, 0, none⟩ = some (.string x0)) (mb : Nat) (hmb : 1 < mb) (x1 : ByteArray) (qb1 : w.cell? ⟨gb, 1, none⟩ = some (.string x1)) (gw cw : Nat) (y0 : Nat) (qw0 : w.cell? ⟨gw, 0, none⟩ = some (.int .u64 (y0 : Int))) (mw : Nat) (hmw : 1 < mw) (y1 : Nat) (qw1 : w.cell? ⟨gw, 1, none⟩ = some (.int .u64 (y1 : Int))) (gn on cn mn : Nat) (hmn : 0 < mn) (z : Int) (qn : w.cell? ⟨gn, on, none⟩ = some (.int .i64 z)) (so : Option Addr) (n1 c1 : Nat) (hcut : ∀ W, (Instr.slice 30 (.slice (some ⟨gn, on, none⟩) mn cn) (some (.int .i64 1)) none none).run Tryd.prog W = .ok (.slice so n1 c1) W) : Calls Tryd.prog 42 #[.int .i64 1, .agg #[.slice (some ⟨gn, on, none⟩) mn cn, .slice (some ⟨gw, 0, none⟩) mw cw, .slice (some ⟨gb, 0, none⟩) mb cb]] w fun e w' => e = .returned (.agg #[.int .i64 1, .int .i64 0, .slice so n1 c1, .slice none 0 0, .int .u64 (y0 : Int), .int .u64 (y1 : Int), .int .i64 z, .string x0, .string x1]) ∧ Keeps w w' (fun _ => False) := by
  have a_gb : ¬ gb = w.heap.size + 1 + 1 := by have := cell_lt8 qb0; simp only at this; omega
  have b_gb : ¬ w.heap.size + 1 + 1 = gb := by omega
  have a_gw : ¬ gw = w.heap.size + 1 + 1 := by have := cell_lt8 qw0; simp only at this; omega
  have b_gw : ¬ w.heap.size + 1 + 1 = gw := by omega
  have a_gn : ¬ gn = w.heap.size + 1 + 1 := by have := cell_lt8 qn; simp only at this; omega
  have b_gn : ¬ w.heap.size + 1 + 1 = gn := by omega
  have i_mb : (0 : Int) < (mb : Int) := by omega
  have j_mb : 0 < mb := by omega
  have k_mb : (1 : Int) < (mb : Int) := by omega
  have i_mw : (0 : Int) < (mw : Int) := by omega
  have j_mw : 0 < mw := by omega
  have k_mw : (1 : Int) < (mw : Int) := by omega
  have i_mn : (0 : Int) < (mn : Int) := by omega
  have j_mn : 0 < mn := by omega
  go_enter Tryd.func42, Tryd.ntmps42
  go_upto_region 2 with fail
  refine alloc3r (P := fun W => Code.wp _ _ _ _ W) fun W0 hb0 hb1 hb2 k0 => ?_
  obtain ⟨e0, e1, e2⟩ := three_cells9 hb0
  obtain ⟨d0, d1, d2, d3, d4, d5, d6, d7, d8⟩ := at9 hb2
  obtain ⟨f0, f1, f2, f3, f4, f5, f6, f7, f8⟩ := fro9 hb2
  obtain ⟨r0, r1, r2, r3, r4, r5, r6, r7, r8⟩ := at9 hb1
  obtain ⟨s0, s1, s2, s3, s4, s5, s6, s7, s8⟩ := fro9 hb1
  have qb0' := keeps_cell k0 qb0
  have qb1' := keeps_cell k0 qb1
  have qw0' := keeps_cell k0 qw0
  have qw1' := keeps_cell k0 qw1
  have qn' := keeps_cell k0 qn
  have Hb1 := hide hb1
  have K0 := hide k0
  clear hb0 hb1 hb2 k0 qb0 qb1 qw0 qw1 qn
  go_wp2_with (rw [hcut])
  refine set9 (P := bodyPost Tryd.prog _ _ Exit.ret _) (B := w.heap.size + 1) (by (repeat (with_reducible refine blk_other ?_ (by omega) _)); with_reducible exact Hb1.out) fun W' hb kk => ?_
  obtain ⟨t0, t1, t2, t3, t4, t5, t6, t7, t8⟩ := at9 hb
  refine bodyPost_ret (v := .agg #[.int .i64 1, .int .i64 0, .slice so n1 c1, .slice none 0 0, .int .u64 (y0 : Int), .int .u64 (y1 : Int), .int .i64 z, .string x0, .string x1]) (by simp [results, Tryd.results42, go_sem, t0, t1, t2, t3, t4, t5, t6, t7, t8]) rfl ?_
  exact ⟨rfl, Keeps.trans (by (repeat (with_reducible refine Keeps.setHi ?_ (by omega) _)); with_reducible exact K0.out) kk (fun i hi e => by omega)⟩
set_option maxRecDepth 100000 in
set_option maxHeartbeats 4000000 in
theorem cmd_22B (w : World) (gb cb : Nat) (x0 : ByteArray) (qb0 : w.cell? ⟨gb, 0, none⟩ = some (.string x0)) (mb : Nat) (hmb : 1 < mb) (x1 : ByteArray) (qb1 : w.cell? ⟨gb, 1, none⟩ = some (.string x1)) (gw cw : Nat) (y0 : Nat) (qw0 : w.cell? ⟨gw, 0, none⟩ = some (.int .u64 (y0 : Int))) (mw : Nat) (hmw : 1 < mw) (y1 : Nat) (qw1 : w.cell? ⟨gw, 1, none⟩ = some (.int .u64 (y1 : Int))) (so : Option Addr) (n1 c1 : Nat) : Calls Tryd.prog 42 #[.int .i64 10, .agg #[.slice so n1 c1, .slice (some ⟨gw, 0, none⟩) mw cw, .slice (some ⟨gb, 0, none⟩) mb cb]] w fun e w' => e = .returned (.agg #[.int .i64 10, .int .i64 0, .slice none 0 0, .slice so n1 c1, .int .u64 (y0 : Int), .int .u64 (y1 : Int), .int .i64 0, .string x0, .string x1]) ∧ Keeps w w' (fun _ => False) := by
  have a_gb : ¬ gb = w.heap.size + 1 + 1 := by have := cell_lt8 qb0; simp only at this; omega
  have b_gb : ¬ w.heap.size + 1 + 1 = gb := by omega
  have a_gw : ¬ gw = w.heap.size + 1 + 1 := by have := cell_lt8 qw0; simp only at this; omega
  have b_gw : ¬ w.heap.size + 1 + 1 = gw := by omega
  have i_mb : (0 : Int) < (mb : Int) := by omega
  have j_mb : 0 < mb := by omega
  have k_mb : (1 : Int) < (mb : Int) := by omega
  have i_mw : (0 : Int) < (mw : Int) := by omega
  have j_mw : 0 < mw := by omega
  have k_mw : (1 : Int) < (mw : Int) := by omega
  go_enter Tryd.func42, Tryd.ntmps42
  go_upto_region 2 with fail
  refine alloc3r (P := fun W => Code.wp _ _ _ _ W) fun W0 hb0 hb1 hb2 k0 => ?_
  obtain ⟨e0, e1, e2⟩ := three_cells9 hb0
  obtain ⟨d0, d1, d2, d3, d4, d5, d6, d7, d8⟩ := at9 hb2
  obtain ⟨f0, f1, f2, f3, f4, f5, f6, f7, f8⟩ := fro9 hb2
  obtain ⟨r0, r1, r2, r3, r4, r5, r6, r7, r8⟩ := at9 hb1
  obtain ⟨s0, s1, s2, s3, s4, s5, s6, s7, s8⟩ := fro9 hb1
  have qb0' := keeps_cell k0 qb0
  have qb1' := keeps_cell k0 qb1
  have qw0' := keeps_cell k0 qw0
  have qw1' := keeps_cell k0 qw1
  have Hb1 := hide hb1
  have K0 := hide k0
  clear hb0 hb1 hb2 k0 qb0 qb1 qw0 qw1
  go_wp2_with fail
  refine set9 (P := bodyPost Tryd.prog _ _ Exit.ret _) (B := w.heap.size + 1) (by (repeat (with_reducible refine blk_other ?_ (by omega) _)); with_reducible exact Hb1.out) fun W' hb kk => ?_
  obtain ⟨t0, t1, t2, t3, t4, t5, t6, t7, t8⟩ := at9 hb
  refine bodyPost_ret (v := .agg #[.int .i64 10, .int .i64 0, .slice none 0 0, .slice so n1 c1, .int .u64 (y0 : Int), .int .u64 (y1 : Int), .int .i64 0, .string x0, .string x1]) (by simp [results, Tryd.results42, go_sem, t0, t1, t2, t3, t4, t5, t6, t7, t8]) rfl ?_
  exact ⟨rfl, Keeps.trans (by (repeat (with_reducible refine Keeps.setHi ?_ (by omega) _)); with_reducible exact K0.out) kk (fun i hi e => by omega)⟩
set_option maxRecDepth 100000 in
set_option maxHeartbeats 4000000 in
theorem cmd_22C (w : World) (gb cb : Nat) (x0 : ByteArray) (qb0 : w.cell? ⟨gb, 0, none⟩ = some (.string x0)) (mb : Nat) (hmb : 1 < mb) (x1 : ByteArray) (qb1 : w.cell? ⟨gb, 1, none⟩ = some (.string x1)) (gw cw : Nat) (y0 : Nat) (qw0 : w.cell? ⟨gw, 0, none⟩ = some (.int .u64 (y0 : Int))) (mw : Nat) (hmw : 1 < mw) (y1 : Nat) (qw1 : w.cell? ⟨gw, 1, none⟩ = some (.int .u64 (y1 : Int))) (op : Int) (h1 : ¬ op = 1) (h10 : ¬ op = 10) (sn : Option Addr) (cn : Nat) : Calls Tryd.prog 42 #[.int .i64 op, .agg #[.slice sn 0 cn, .slice (some ⟨gw, 0, none⟩) mw cw, .slice (some ⟨gb, 0, none⟩) mb cb]] w fun e w' => e = .returned (.agg #[.int .i64 op, .int .i64 0, .slice none 0 0, .slice none 0 0, .int .u64 (y0 : Int), .int .u64 (y1 : Int), .int .i64 0, .string x0, .string x1]) ∧ Keeps w w' (fun _ => False) := by
  have a_gb : ¬ gb = w.heap.size + 1 + 1 := by have := cell_lt8 qb0; simp only at this; omega
  have b_gb : ¬ w.heap.size + 1 + 1 = gb := by omega
  have a_gw : ¬ gw = w.heap.size + 1 + 1 := by have := cell_lt8 qw0; simp only at this; omega
  have b_gw : ¬ w.heap.size + 1 + 1 = gw := by omega
  have i_mb : (0 : Int) < (mb : Int) := by omega
  have j_mb : 0 < mb := by omega
  have k_mb : (1 : Int) < (mb : Int) := by omega
  have i_mw : (0 : Int) < (mw : Int) := by omega
  have j_mw : 0 < mw := by omega
  have k_mw : (1 : Int) < (mw : Int) := by omega
  go_enter Tryd.func42, Tryd.ntmps42
  go_upto_region 2 with fail
  refine alloc3r (P := fun W => Code.wp _ _ _ _ W) fun W0 hb0 hb1 hb2 k0 => ?_
  obtain ⟨e0, e1, e2⟩ := three_cells9 hb0
  obtain ⟨d0, d1, d2, d3, d4, d5, d6, d7, d8⟩ := at9 hb2
  obtain ⟨f0, f1, f2, f3, f4, f5, f6, f7, f8⟩ := fro9 hb2
  obtain ⟨r0, r1, r2, r3, r4, r5, r6, r7, r8⟩ := at9 hb1
  obtain ⟨s0, s1, s2, s3, s4, s5, s6, s7, s8⟩ := fro9 hb1
  have qb0' := keeps_cell k0 qb0
  have qb1' := keeps_cell k0 qb1
  have qw0' := keeps_cell k0 qw0
  have qw1' := keeps_cell k0 qw1
  have Hb1 := hide hb1
  have K0 := hide k0
  clear hb0 hb1 hb2 k0 qb0 qb1 qw0 qw1
  go_wp2_with fail
  refine set9 (P := bodyPost Tryd.prog _ _ Exit.ret _) (B := w.heap.size + 1) (by (repeat (with_reducible refine blk_other ?_ (by omega) _)); with_reducible exact Hb1.out) fun W' hb kk => ?_
  obtain ⟨t0, t1, t2, t3, t4, t5, t6, t7, t8⟩ := at9 hb
  refine bodyPost_ret (v := .agg #[.int .i64 op, .int .i64 0, .slice none 0 0, .slice none 0 0, .int .u64 (y0 : Int), .int .u64 (y1 : Int), .int .i64 0, .string x0, .string x1]) (by simp [results, Tryd.results42, go_sem, t0, t1, t2, t3, t4, t5, t6, t7, t8]) rfl ?_
  exact ⟨rfl, Keeps.trans (by (repeat (with_reducible refine Keeps.setHi ?_ (by omega) _)); with_reducible exact K0.out) kk (fun i hi e => by omega)⟩
set_option maxRecDepth 100000 in
set_option maxHeartbeats 4000000 in
theorem cmd_22D (w : World) (gb cb : Nat) (x0 : ByteArray) (qb0 : w.cell? ⟨gb, 0, none⟩ = some (.string x0)) (mb : Nat) (hmb : 1 < mb) (x1 : ByteArray) (qb1 : w.cell? ⟨gb, 1, none⟩ = some (.string x1)) (gw cw : Nat) (y0 : Nat) (qw0 : w.cell? ⟨gw, 0, none⟩ = some (.int .u64 (y0 : Int))) (mw : Nat) (hmw : 1 < mw) (y1 : Nat) (qw1 : w.cell? ⟨gw, 1, none⟩ = some (.int .u64 (y1 : Int))) (op : Int) (h1 : ¬ op = 1) (h10 : ¬ op = 10) (gn on cn mn : Nat) (hmn : 0 < mn) (z : Int) (qn : w.cell? ⟨gn, on, none⟩ = some (.int .i64 z)) : Calls Tryd.prog 42 #[.int .i64 op, .agg #[.slice (some ⟨gn, on, none⟩) mn cn, .slice (some ⟨gw, 0, none⟩) mw cw, .slice (some ⟨gb, 0, none⟩) mb cb]] w fun e w' => e = .returned (.agg #[.int .i64 op, .int .i64 z, .slice none 0 0, .slice none 0 0, .int .u64 (y0 : Int), .int .u64 (y1 : Int), .int .i64 0, .string x0, .string x1]) ∧ Keeps w w' (fun _ => False) := by
  have a_gb : ¬ gb = w.heap.size + 1 + 1 := by have := cell_lt8 qb0; simp only at this; omega
  have b_gb : ¬ w.heap.size + 1 + 1 = gb := by omega
  have a_gw : ¬ gw = w.heap.size + 1 + 1 := by have := cell_lt8 qw0; simp only at this; omega
  have b_gw : ¬ w.heap.size + 1 + 1 = gw := by omega
  have a_gn : ¬ gn = w.heap.size + 1 + 1 := by have := cell_lt8 qn; simp only at this; omega
  have b_gn : ¬ w.heap.size + 1 + 1 = gn := by omega
  have i_mb : (0 : Int) < (mb : Int) := by omega
  have j_mb : 0 < mb := by omega
  have k_mb : (1 : Int) < (mb : Int) := by omega
  have i_mw : (0 : Int) < (mw : Int) := by omega
  have j_mw : 0 < mw := by omega
  have k_mw : (1 : Int) < (mw : Int) := by omega
  have i_mn : (0 : Int) < (mn : Int) := by omega
  have j_mn : 0 < mn := by omega
  go_enter Tryd.func42, Tryd.ntmps42
  go_upto_region 2 with fail
  refine alloc3r (P := fun W => Code.wp _ _ _ _ W) fun W0 hb0 hb1 hb2 k0 => ?_
  obtain ⟨e0, e1, e2⟩ := three_cells9 hb0
  obtain ⟨d0, d1, d2, d3, d4, d5, d6, d7, d8⟩ := at9 hb2
  obtain ⟨f0, f1, f2, f3, f4, f5, f6, f7, f8⟩ := fro9 hb2
  obtain ⟨r0, r1, r2, r3, r4, r5, r6, r7, r8⟩ := at9 hb1
  obtain ⟨s0, s1, s2, s3, s4, s5, s6, s7, s8⟩ := fro9 hb1
  have qb0' := keeps_cell k0 qb0
  have qb1' := keeps_cell k0 qb1
  have qw0' := keeps_cell k0 qw0
  have qw1' := keeps_cell k0 qw1
  have qn' := keeps_cell k0 qn
  have Hb1 := hide hb1
  have K0 := hide k0
  clear hb0 hb1 hb2 k0 qb0 qb1 qw0 qw1 qn
  go_wp2_with fail
  refine set9 (P := bodyPost Tryd.prog _ _ Exit.ret _) (B := w.heap.size + 1) (by (repeat (with_reducible refine blk_other ?_ (by omega) _)); with_reducible exact Hb1.out) fun W' hb kk => ?_
  obtain ⟨t0, t1, t2, t3, t4, t5, t6, t7, t8⟩ := at9 hb
  refine bodyPost_ret (v := .agg #[.int .i64 op, .int .i64 z, .slice none 0 0, .slice none 0 0, .int .u64 (y0 : Int), .int .u64 (y1 : Int), .int .i64 0, .string x0, .string x1]) (by simp [results, Tryd.results42, go_sem, t0, t1, t2, t3, t4, t5, t6, t7, t8]) rfl ?_
  exact ⟨rfl, Keeps.trans (by (repeat (with_reducible refine Keeps.setHi ?_ (by omega) _)); with_reducible exact K0.out) kk (fun i hi e => by omega)⟩
end Go.Proofs.YtfpiibccggjjpaaDoor
