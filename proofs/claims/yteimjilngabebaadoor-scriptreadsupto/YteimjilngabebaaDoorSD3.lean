/-
  script: the law's tidy.
-/
import Derived.Test.YteimjilngabebaaDoorSD2
import Derived.Deep.Cut
namespace Go.Proofs.YteimjilngabebaaDoor
open Go.RowKit
set_option linter.unusedVariables false
theorem heap_three (w : World) (a b c : Obj) : (((w.alloc a).alloc b).alloc c).heap[w.heap.size]? = some a ∧ (((w.alloc a).alloc b).alloc c).heap[w.heap.size + 1]? = some b ∧ (((w.alloc a).alloc b).alloc c).heap[w.heap.size + 1 + 1]? = some c ∧ Keeps w (((w.alloc a).alloc b).alloc c) (fun _ => False) := by
  have k2 : Keeps ((w.alloc a).alloc b) (((w.alloc a).alloc b).alloc c) (fun _ => False) := (Keeps.refl _ _).alloc _
  have k1 : Keeps (w.alloc a) (((w.alloc a).alloc b).alloc c) (fun _ => False) := ((Keeps.refl _ _).alloc _).alloc _
  have e2 := heap_alloc_new ((w.alloc a).alloc b) c
  have e1 := heap_alloc_new (w.alloc a) b
  simp only [World.size_alloc] at e1 e2
  exact ⟨k1.blk (heap_alloc_new w a), k2.blk e1, e2, (((Keeps.refl _ _).alloc _).alloc _).alloc _⟩
theorem alloc3 {w : World} {a b c : Obj} {P : World → Prop} (h : ∀ W, W.heap[w.heap.size]? = some a → W.heap[w.heap.size + 1]? = some b → W.heap[w.heap.size + 1 + 1]? = some c → Keeps w W (fun _ => False) → P W) : P (((w.alloc a).alloc b).alloc c) :=
  h _ (heap_three w a b c).1 (heap_three w a b c).2.1 (heap_three w a b c).2.2.1 (heap_three w a b c).2.2.2
/-- What the law's tidy answers. -/
def tidV (op err n off : Int) (yes : Bool) (key elem : ByteArray) : Value := if 1 ≤ op ∧ op ≤ 14 then .tuple #[.agg #[.int .i64 op, .int .i64 err, .int .i64 (tN op err n), .int .i64 (tOff op err n off), .bool (tYes op err yes), .string (tKey op err yes key), .string (tElem op err yes elem)], .bool true] else .tuple #[.agg #[.int .i64 0, .int .i64 0, .int .i64 0, .int .i64 0, .bool false, .string ⟨#[]⟩, .string ⟨#[]⟩], .bool false]
theorem blk_set_ne {W : World} {g q : Nat} {o : Obj} (h : W.heap[g]? = some o) (hne : g ≠ q) (i : Nat) (v : Value) : (W.setCell ⟨q, i, none⟩ v).heap[g]? = some o := by
  simp only [World.setCell, Array.getElem?_modify]
  rw [if_neg (fun e => hne e.symm)]
  exact h
set_option maxRecDepth 100000 in
set_option maxHeartbeats 2000000 in
theorem tidy_1 (n off : Int) (yes : Bool) (key elem : ByteArray) (w : World) : Calls Tryd.prog 5 #[.agg #[.int .i64 1, .int .i64 0, .int .i64 n, .int .i64 off, .bool yes, .string key, .string elem]] w fun e w' => e = .returned (.tuple #[.agg #[.int .i64 1, .int .i64 0, .int .i64 n, .int .i64 0, .bool false, .string ⟨#[]⟩, .string ⟨#[]⟩], .bool true]) ∧ Keeps w w' (fun _ => False) := by
  go_enter Tryd.func5, Tryd.ntmps5
  go_upto_region 2 with fail
  refine alloc3 (P := fun W => Code.wp _ _ _ _ W) fun W h1 h2 h3 k => ?_
  obtain ⟨⟨a0, a1, a2, a3, a4, a5, a6⟩, -⟩ := ans_open h1
  obtain ⟨⟨r0, r1, r2, r3, r4, r5, r6⟩, q0, q1, q2, q3, q4, q5, q6⟩ := ans_open h2
  obtain ⟨⟨b0, b1, b2, b3, b4, b5, b6⟩, f0, f1, f2, f3, f4, f5, f6⟩ := ans_open h3
  have H2 := hide h2
  have K := hide k
  clear h1 h2 h3 k
  go_wp2_with fail
  refine ans_set (P := bodyPost Tryd.prog _ _ Exit.ret _) (blk_set_ne H2.out (by omega) 2 (.int .i64 n)) (K.out.setCell ⟨w.heap.size + 1 + 1, 2, none⟩ (fun e => by simp at e; omega) (.int .i64 n)) (by omega) (fun w9 hb9 k9 => ?_)
  obtain ⟨⟨d0, d1, d2, d3, d4, d5, d6⟩, -⟩ := ans_open hb9
  refine bodyPost_ret (v := .tuple #[.agg #[.int .i64 1, .int .i64 0, .int .i64 n, .int .i64 0, .bool false, .string ⟨#[]⟩, .string ⟨#[]⟩], .bool true]) (by simp [results, Tryd.results5, go_sem, d0, d1, d2, d3, d4, d5, d6]) rfl ?_
  exact ⟨rfl, k9⟩
set_option maxRecDepth 100000 in
set_option maxHeartbeats 2000000 in
theorem tidy_5 (n off : Int) (yes : Bool) (key elem : ByteArray) (w : World) : Calls Tryd.prog 5 #[.agg #[.int .i64 5, .int .i64 0, .int .i64 n, .int .i64 off, .bool yes, .string key, .string elem]] w fun e w' => e = .returned (.tuple #[.agg #[.int .i64 5, .int .i64 0, .int .i64 n, .int .i64 0, .bool false, .string ⟨#[]⟩, .string ⟨#[]⟩], .bool true]) ∧ Keeps w w' (fun _ => False) := by
  go_enter Tryd.func5, Tryd.ntmps5
  go_upto_region 2 with fail
  refine alloc3 (P := fun W => Code.wp _ _ _ _ W) fun W h1 h2 h3 k => ?_
  obtain ⟨⟨a0, a1, a2, a3, a4, a5, a6⟩, -⟩ := ans_open h1
  obtain ⟨⟨r0, r1, r2, r3, r4, r5, r6⟩, q0, q1, q2, q3, q4, q5, q6⟩ := ans_open h2
  obtain ⟨⟨b0, b1, b2, b3, b4, b5, b6⟩, f0, f1, f2, f3, f4, f5, f6⟩ := ans_open h3
  have H2 := hide h2
  have K := hide k
  clear h1 h2 h3 k
  go_wp2_with fail
  refine ans_set (P := bodyPost Tryd.prog _ _ Exit.ret _) (blk_set_ne H2.out (by omega) 2 (.int .i64 n)) (K.out.setCell ⟨w.heap.size + 1 + 1, 2, none⟩ (fun e => by simp at e; omega) (.int .i64 n)) (by omega) (fun w9 hb9 k9 => ?_)
  obtain ⟨⟨d0, d1, d2, d3, d4, d5, d6⟩, -⟩ := ans_open hb9
  refine bodyPost_ret (v := .tuple #[.agg #[.int .i64 5, .int .i64 0, .int .i64 n, .int .i64 0, .bool false, .string ⟨#[]⟩, .string ⟨#[]⟩], .bool true]) (by simp [results, Tryd.results5, go_sem, d0, d1, d2, d3, d4, d5, d6]) rfl ?_
  exact ⟨rfl, k9⟩
set_option maxRecDepth 100000 in
set_option maxHeartbeats 2000000 in
theorem tidy_7 (n off : Int) (yes : Bool) (key elem : ByteArray) (w : World) : Calls Tryd.prog 5 #[.agg #[.int .i64 7, .int .i64 0, .int .i64 n, .int .i64 off, .bool yes, .string key, .string elem]] w fun e w' => e = .returned (.tuple #[.agg #[.int .i64 7, .int .i64 0, .int .i64 n, .int .i64 0, .bool false, .string ⟨#[]⟩, .string ⟨#[]⟩], .bool true]) ∧ Keeps w w' (fun _ => False) := by
  go_enter Tryd.func5, Tryd.ntmps5
  go_upto_region 2 with fail
  refine alloc3 (P := fun W => Code.wp _ _ _ _ W) fun W h1 h2 h3 k => ?_
  obtain ⟨⟨a0, a1, a2, a3, a4, a5, a6⟩, -⟩ := ans_open h1
  obtain ⟨⟨r0, r1, r2, r3, r4, r5, r6⟩, q0, q1, q2, q3, q4, q5, q6⟩ := ans_open h2
  obtain ⟨⟨b0, b1, b2, b3, b4, b5, b6⟩, f0, f1, f2, f3, f4, f5, f6⟩ := ans_open h3
  have H2 := hide h2
  have K := hide k
  clear h1 h2 h3 k
  go_wp2_with fail
  refine ans_set (P := bodyPost Tryd.prog _ _ Exit.ret _) (blk_set_ne H2.out (by omega) 2 (.int .i64 n)) (K.out.setCell ⟨w.heap.size + 1 + 1, 2, none⟩ (fun e => by simp at e; omega) (.int .i64 n)) (by omega) (fun w9 hb9 k9 => ?_)
  obtain ⟨⟨d0, d1, d2, d3, d4, d5, d6⟩, -⟩ := ans_open hb9
  refine bodyPost_ret (v := .tuple #[.agg #[.int .i64 7, .int .i64 0, .int .i64 n, .int .i64 0, .bool false, .string ⟨#[]⟩, .string ⟨#[]⟩], .bool true]) (by simp [results, Tryd.results5, go_sem, d0, d1, d2, d3, d4, d5, d6]) rfl ?_
  exact ⟨rfl, k9⟩
set_option maxRecDepth 100000 in
set_option maxHeartbeats 2000000 in
theorem tidy_8 (n off : Int) (yes : Bool) (key elem : ByteArray) (w : World) : Calls Tryd.prog 5 #[.agg #[.int .i64 8, .int .i64 0, .int .i64 n, .int .i64 off, .bool yes, .string key, .string elem]] w fun e w' => e = .returned (.tuple #[.agg #[.int .i64 8, .int .i64 0, .int .i64 n, .int .i64 0, .bool false, .string ⟨#[]⟩, .string ⟨#[]⟩], .bool true]) ∧ Keeps w w' (fun _ => False) := by
  go_enter Tryd.func5, Tryd.ntmps5
  go_upto_region 2 with fail
  refine alloc3 (P := fun W => Code.wp _ _ _ _ W) fun W h1 h2 h3 k => ?_
  obtain ⟨⟨a0, a1, a2, a3, a4, a5, a6⟩, -⟩ := ans_open h1
  obtain ⟨⟨r0, r1, r2, r3, r4, r5, r6⟩, q0, q1, q2, q3, q4, q5, q6⟩ := ans_open h2
  obtain ⟨⟨b0, b1, b2, b3, b4, b5, b6⟩, f0, f1, f2, f3, f4, f5, f6⟩ := ans_open h3
  have H2 := hide h2
  have K := hide k
  clear h1 h2 h3 k
  go_wp2_with fail
  refine ans_set (P := bodyPost Tryd.prog _ _ Exit.ret _) (blk_set_ne H2.out (by omega) 2 (.int .i64 n)) (K.out.setCell ⟨w.heap.size + 1 + 1, 2, none⟩ (fun e => by simp at e; omega) (.int .i64 n)) (by omega) (fun w9 hb9 k9 => ?_)
  obtain ⟨⟨d0, d1, d2, d3, d4, d5, d6⟩, -⟩ := ans_open hb9
  refine bodyPost_ret (v := .tuple #[.agg #[.int .i64 8, .int .i64 0, .int .i64 n, .int .i64 0, .bool false, .string ⟨#[]⟩, .string ⟨#[]⟩], .bool true]) (by simp [results, Tryd.results5, go_sem, d0, d1, d2, d3, d4, d5, d6]) rfl ?_
  exact ⟨rfl, k9⟩
set_option maxRecDepth 100000 in
set_option maxHeartbeats 2000000 in
theorem tidy_11 (n off : Int) (yes : Bool) (key elem : ByteArray) (w : World) : Calls Tryd.prog 5 #[.agg #[.int .i64 11, .int .i64 0, .int .i64 n, .int .i64 off, .bool yes, .string key, .string elem]] w fun e w' => e = .returned (.tuple #[.agg #[.int .i64 11, .int .i64 0, .int .i64 n, .int .i64 0, .bool false, .string ⟨#[]⟩, .string ⟨#[]⟩], .bool true]) ∧ Keeps w w' (fun _ => False) := by
  go_enter Tryd.func5, Tryd.ntmps5
  go_upto_region 2 with fail
  refine alloc3 (P := fun W => Code.wp _ _ _ _ W) fun W h1 h2 h3 k => ?_
  obtain ⟨⟨a0, a1, a2, a3, a4, a5, a6⟩, -⟩ := ans_open h1
  obtain ⟨⟨r0, r1, r2, r3, r4, r5, r6⟩, q0, q1, q2, q3, q4, q5, q6⟩ := ans_open h2
  obtain ⟨⟨b0, b1, b2, b3, b4, b5, b6⟩, f0, f1, f2, f3, f4, f5, f6⟩ := ans_open h3
  have H2 := hide h2
  have K := hide k
  clear h1 h2 h3 k
  go_wp2_with fail
  refine ans_set (P := bodyPost Tryd.prog _ _ Exit.ret _) (blk_set_ne H2.out (by omega) 2 (.int .i64 n)) (K.out.setCell ⟨w.heap.size + 1 + 1, 2, none⟩ (fun e => by simp at e; omega) (.int .i64 n)) (by omega) (fun w9 hb9 k9 => ?_)
  obtain ⟨⟨d0, d1, d2, d3, d4, d5, d6⟩, -⟩ := ans_open hb9
  refine bodyPost_ret (v := .tuple #[.agg #[.int .i64 11, .int .i64 0, .int .i64 n, .int .i64 0, .bool false, .string ⟨#[]⟩, .string ⟨#[]⟩], .bool true]) (by simp [results, Tryd.results5, go_sem, d0, d1, d2, d3, d4, d5, d6]) rfl ?_
  exact ⟨rfl, k9⟩
set_option maxRecDepth 100000 in
set_option maxHeartbeats 2000000 in
theorem tidy_12 (n off : Int) (yes : Bool) (key elem : ByteArray) (w : World) : Calls Tryd.prog 5 #[.agg #[.int .i64 12, .int .i64 0, .int .i64 n, .int .i64 off, .bool yes, .string key, .string elem]] w fun e w' => e = .returned (.tuple #[.agg #[.int .i64 12, .int .i64 0, .int .i64 n, .int .i64 0, .bool false, .string ⟨#[]⟩, .string ⟨#[]⟩], .bool true]) ∧ Keeps w w' (fun _ => False) := by
  go_enter Tryd.func5, Tryd.ntmps5
  go_upto_region 2 with fail
  refine alloc3 (P := fun W => Code.wp _ _ _ _ W) fun W h1 h2 h3 k => ?_
  obtain ⟨⟨a0, a1, a2, a3, a4, a5, a6⟩, -⟩ := ans_open h1
  obtain ⟨⟨r0, r1, r2, r3, r4, r5, r6⟩, q0, q1, q2, q3, q4, q5, q6⟩ := ans_open h2
  obtain ⟨⟨b0, b1, b2, b3, b4, b5, b6⟩, f0, f1, f2, f3, f4, f5, f6⟩ := ans_open h3
  have H2 := hide h2
  have K := hide k
  clear h1 h2 h3 k
  go_wp2_with fail
  refine ans_set (P := bodyPost Tryd.prog _ _ Exit.ret _) (blk_set_ne H2.out (by omega) 2 (.int .i64 n)) (K.out.setCell ⟨w.heap.size + 1 + 1, 2, none⟩ (fun e => by simp at e; omega) (.int .i64 n)) (by omega) (fun w9 hb9 k9 => ?_)
  obtain ⟨⟨d0, d1, d2, d3, d4, d5, d6⟩, -⟩ := ans_open hb9
  refine bodyPost_ret (v := .tuple #[.agg #[.int .i64 12, .int .i64 0, .int .i64 n, .int .i64 0, .bool false, .string ⟨#[]⟩, .string ⟨#[]⟩], .bool true]) (by simp [results, Tryd.results5, go_sem, d0, d1, d2, d3, d4, d5, d6]) rfl ?_
  exact ⟨rfl, k9⟩
set_option maxRecDepth 100000 in
set_option maxHeartbeats 2000000 in
theorem tidy_13 (n off : Int) (yes : Bool) (key elem : ByteArray) (w : World) : Calls Tryd.prog 5 #[.agg #[.int .i64 13, .int .i64 0, .int .i64 n, .int .i64 off, .bool yes, .string key, .string elem]] w fun e w' => e = .returned (.tuple #[.agg #[.int .i64 13, .int .i64 0, .int .i64 n, .int .i64 0, .bool false, .string ⟨#[]⟩, .string ⟨#[]⟩], .bool true]) ∧ Keeps w w' (fun _ => False) := by
  go_enter Tryd.func5, Tryd.ntmps5
  go_upto_region 2 with fail
  refine alloc3 (P := fun W => Code.wp _ _ _ _ W) fun W h1 h2 h3 k => ?_
  obtain ⟨⟨a0, a1, a2, a3, a4, a5, a6⟩, -⟩ := ans_open h1
  obtain ⟨⟨r0, r1, r2, r3, r4, r5, r6⟩, q0, q1, q2, q3, q4, q5, q6⟩ := ans_open h2
  obtain ⟨⟨b0, b1, b2, b3, b4, b5, b6⟩, f0, f1, f2, f3, f4, f5, f6⟩ := ans_open h3
  have H2 := hide h2
  have K := hide k
  clear h1 h2 h3 k
  go_wp2_with fail
  refine ans_set (P := bodyPost Tryd.prog _ _ Exit.ret _) (blk_set_ne H2.out (by omega) 2 (.int .i64 n)) (K.out.setCell ⟨w.heap.size + 1 + 1, 2, none⟩ (fun e => by simp at e; omega) (.int .i64 n)) (by omega) (fun w9 hb9 k9 => ?_)
  obtain ⟨⟨d0, d1, d2, d3, d4, d5, d6⟩, -⟩ := ans_open hb9
  refine bodyPost_ret (v := .tuple #[.agg #[.int .i64 13, .int .i64 0, .int .i64 n, .int .i64 0, .bool false, .string ⟨#[]⟩, .string ⟨#[]⟩], .bool true]) (by simp [results, Tryd.results5, go_sem, d0, d1, d2, d3, d4, d5, d6]) rfl ?_
  exact ⟨rfl, k9⟩
set_option maxRecDepth 100000 in
set_option maxHeartbeats 2000000 in
theorem tidy_6 (n off : Int) (yes : Bool) (key elem : ByteArray) (w : World) : Calls Tryd.prog 5 #[.agg #[.int .i64 6, .int .i64 0, .int .i64 n, .int .i64 off, .bool yes, .string key, .string elem]] w fun e w' => e = .returned (.tuple #[.agg #[.int .i64 6, .int .i64 0, .int .i64 0, .int .i64 0, .bool false, .string ⟨#[]⟩, .string ⟨#[]⟩], .bool true]) ∧ Keeps w w' (fun _ => False) := by
  go_enter Tryd.func5, Tryd.ntmps5
  go_upto_region 2 with fail
  refine alloc3 (P := fun W => Code.wp _ _ _ _ W) fun W h1 h2 h3 k => ?_
  obtain ⟨⟨a0, a1, a2, a3, a4, a5, a6⟩, -⟩ := ans_open h1
  obtain ⟨⟨r0, r1, r2, r3, r4, r5, r6⟩, q0, q1, q2, q3, q4, q5, q6⟩ := ans_open h2
  obtain ⟨⟨b0, b1, b2, b3, b4, b5, b6⟩, f0, f1, f2, f3, f4, f5, f6⟩ := ans_open h3
  have H2 := hide h2
  have K := hide k
  clear h1 h2 h3 k
  go_wp2_with fail
  refine ans_set (P := bodyPost Tryd.prog _ _ Exit.ret _) H2.out K.out (by omega) (fun w9 hb9 k9 => ?_)
  obtain ⟨⟨d0, d1, d2, d3, d4, d5, d6⟩, -⟩ := ans_open hb9
  refine bodyPost_ret (v := .tuple #[.agg #[.int .i64 6, .int .i64 0, .int .i64 0, .int .i64 0, .bool false, .string ⟨#[]⟩, .string ⟨#[]⟩], .bool true]) (by simp [results, Tryd.results5, go_sem, d0, d1, d2, d3, d4, d5, d6]) rfl ?_
  exact ⟨rfl, k9⟩
set_option maxRecDepth 100000 in
set_option maxHeartbeats 2000000 in
theorem tidy_10 (n off : Int) (yes : Bool) (key elem : ByteArray) (w : World) : Calls Tryd.prog 5 #[.agg #[.int .i64 10, .int .i64 0, .int .i64 n, .int .i64 off, .bool yes, .string key, .string elem]] w fun e w' => e = .returned (.tuple #[.agg #[.int .i64 10, .int .i64 0, .int .i64 0, .int .i64 0, .bool false, .string ⟨#[]⟩, .string ⟨#[]⟩], .bool true]) ∧ Keeps w w' (fun _ => False) := by
  go_enter Tryd.func5, Tryd.ntmps5
  go_upto_region 2 with fail
  refine alloc3 (P := fun W => Code.wp _ _ _ _ W) fun W h1 h2 h3 k => ?_
  obtain ⟨⟨a0, a1, a2, a3, a4, a5, a6⟩, -⟩ := ans_open h1
  obtain ⟨⟨r0, r1, r2, r3, r4, r5, r6⟩, q0, q1, q2, q3, q4, q5, q6⟩ := ans_open h2
  obtain ⟨⟨b0, b1, b2, b3, b4, b5, b6⟩, f0, f1, f2, f3, f4, f5, f6⟩ := ans_open h3
  have H2 := hide h2
  have K := hide k
  clear h1 h2 h3 k
  go_wp2_with fail
  refine ans_set (P := bodyPost Tryd.prog _ _ Exit.ret _) H2.out K.out (by omega) (fun w9 hb9 k9 => ?_)
  obtain ⟨⟨d0, d1, d2, d3, d4, d5, d6⟩, -⟩ := ans_open hb9
  refine bodyPost_ret (v := .tuple #[.agg #[.int .i64 10, .int .i64 0, .int .i64 0, .int .i64 0, .bool false, .string ⟨#[]⟩, .string ⟨#[]⟩], .bool true]) (by simp [results, Tryd.results5, go_sem, d0, d1, d2, d3, d4, d5, d6]) rfl ?_
  exact ⟨rfl, k9⟩
set_option maxRecDepth 100000 in
set_option maxHeartbeats 2000000 in
theorem tidy_3 (n off : Int) (yes : Bool) (key elem : ByteArray) (w : World) : Calls Tryd.prog 5 #[.agg #[.int .i64 3, .int .i64 0, .int .i64 n, .int .i64 off, .bool yes, .string key, .string elem]] w fun e w' => e = .returned (.tuple #[.agg #[.int .i64 3, .int .i64 0, .int .i64 0, .int .i64 0, .bool yes, .string ⟨#[]⟩, .string ⟨#[]⟩], .bool true]) ∧ Keeps w w' (fun _ => False) := by
  go_enter Tryd.func5, Tryd.ntmps5
  go_upto_region 2 with fail
  refine alloc3 (P := fun W => Code.wp _ _ _ _ W) fun W h1 h2 h3 k => ?_
  obtain ⟨⟨a0, a1, a2, a3, a4, a5, a6⟩, -⟩ := ans_open h1
  obtain ⟨⟨r0, r1, r2, r3, r4, r5, r6⟩, q0, q1, q2, q3, q4, q5, q6⟩ := ans_open h2
  obtain ⟨⟨b0, b1, b2, b3, b4, b5, b6⟩, f0, f1, f2, f3, f4, f5, f6⟩ := ans_open h3
  have H2 := hide h2
  have K := hide k
  clear h1 h2 h3 k
  go_wp2_with fail
  refine ans_set (P := bodyPost Tryd.prog _ _ Exit.ret _) (blk_set_ne H2.out (by omega) 4 (.bool yes)) (K.out.setCell ⟨w.heap.size + 1 + 1, 4, none⟩ (fun e => by simp at e; omega) (.bool yes)) (by omega) (fun w9 hb9 k9 => ?_)
  obtain ⟨⟨d0, d1, d2, d3, d4, d5, d6⟩, -⟩ := ans_open hb9
  refine bodyPost_ret (v := .tuple #[.agg #[.int .i64 3, .int .i64 0, .int .i64 0, .int .i64 0, .bool yes, .string ⟨#[]⟩, .string ⟨#[]⟩], .bool true]) (by simp [results, Tryd.results5, go_sem, d0, d1, d2, d3, d4, d5, d6]) rfl ?_
  exact ⟨rfl, k9⟩
set_option maxRecDepth 100000 in
set_option maxHeartbeats 2000000 in
theorem tidy_4 (n off : Int) (yes : Bool) (key elem : ByteArray) (w : World) : Calls Tryd.prog 5 #[.agg #[.int .i64 4, .int .i64 0, .int .i64 n, .int .i64 off, .bool yes, .string key, .string elem]] w fun e w' => e = .returned (.tuple #[.agg #[.int .i64 4, .int .i64 0, .int .i64 0, .int .i64 0, .bool yes, .string ⟨#[]⟩, .string ⟨#[]⟩], .bool true]) ∧ Keeps w w' (fun _ => False) := by
  go_enter Tryd.func5, Tryd.ntmps5
  go_upto_region 2 with fail
  refine alloc3 (P := fun W => Code.wp _ _ _ _ W) fun W h1 h2 h3 k => ?_
  obtain ⟨⟨a0, a1, a2, a3, a4, a5, a6⟩, -⟩ := ans_open h1
  obtain ⟨⟨r0, r1, r2, r3, r4, r5, r6⟩, q0, q1, q2, q3, q4, q5, q6⟩ := ans_open h2
  obtain ⟨⟨b0, b1, b2, b3, b4, b5, b6⟩, f0, f1, f2, f3, f4, f5, f6⟩ := ans_open h3
  have H2 := hide h2
  have K := hide k
  clear h1 h2 h3 k
  go_wp2_with fail
  refine ans_set (P := bodyPost Tryd.prog _ _ Exit.ret _) (blk_set_ne H2.out (by omega) 4 (.bool yes)) (K.out.setCell ⟨w.heap.size + 1 + 1, 4, none⟩ (fun e => by simp at e; omega) (.bool yes)) (by omega) (fun w9 hb9 k9 => ?_)
  obtain ⟨⟨d0, d1, d2, d3, d4, d5, d6⟩, -⟩ := ans_open hb9
  refine bodyPost_ret (v := .tuple #[.agg #[.int .i64 4, .int .i64 0, .int .i64 0, .int .i64 0, .bool yes, .string ⟨#[]⟩, .string ⟨#[]⟩], .bool true]) (by simp [results, Tryd.results5, go_sem, d0, d1, d2, d3, d4, d5, d6]) rfl ?_
  exact ⟨rfl, k9⟩
set_option maxRecDepth 100000 in
set_option maxHeartbeats 2000000 in
theorem tidy_2t (n off : Int) (key elem : ByteArray) (w : World) : Calls Tryd.prog 5 #[.agg #[.int .i64 2, .int .i64 0, .int .i64 n, .int .i64 off, .bool true, .string key, .string elem]] w fun e w' => e = .returned (.tuple #[.agg #[.int .i64 2, .int .i64 0, .int .i64 0, .int .i64 0, .bool true, .string ⟨#[]⟩, .string elem], .bool true]) ∧ Keeps w w' (fun _ => False) := by
  go_enter Tryd.func5, Tryd.ntmps5
  go_upto_region 2 with fail
  refine alloc3 (P := fun W => Code.wp _ _ _ _ W) fun W h1 h2 h3 k => ?_
  obtain ⟨⟨a0, a1, a2, a3, a4, a5, a6⟩, -⟩ := ans_open h1
  obtain ⟨⟨r0, r1, r2, r3, r4, r5, r6⟩, q0, q1, q2, q3, q4, q5, q6⟩ := ans_open h2
  obtain ⟨⟨b0, b1, b2, b3, b4, b5, b6⟩, f0, f1, f2, f3, f4, f5, f6⟩ := ans_open h3
  have H2 := hide h2
  have K := hide k
  clear h1 h2 h3 k
  go_wp2_with fail
  refine ans_set (P := bodyPost Tryd.prog _ _ Exit.ret _) (blk_set_ne (blk_set_ne H2.out (by omega) 4 (.bool true)) (by omega) 6 (.string elem)) ((K.out.setCell ⟨w.heap.size + 1 + 1, 4, none⟩ (fun e => by simp at e; omega) (.bool true)).setCell ⟨w.heap.size + 1 + 1, 6, none⟩ (fun e => by simp at e; omega) (.string elem)) (by omega) (fun w9 hb9 k9 => ?_)
  obtain ⟨⟨d0, d1, d2, d3, d4, d5, d6⟩, -⟩ := ans_open hb9
  refine bodyPost_ret (v := .tuple #[.agg #[.int .i64 2, .int .i64 0, .int .i64 0, .int .i64 0, .bool true, .string ⟨#[]⟩, .string elem], .bool true]) (by simp [results, Tryd.results5, go_sem, d0, d1, d2, d3, d4, d5, d6]) rfl ?_
  exact ⟨rfl, k9⟩
set_option maxRecDepth 100000 in
set_option maxHeartbeats 2000000 in
theorem tidy_9t (n off : Int) (key elem : ByteArray) (w : World) : Calls Tryd.prog 5 #[.agg #[.int .i64 9, .int .i64 0, .int .i64 n, .int .i64 off, .bool true, .string key, .string elem]] w fun e w' => e = .returned (.tuple #[.agg #[.int .i64 9, .int .i64 0, .int .i64 0, .int .i64 0, .bool true, .string key, .string elem], .bool true]) ∧ Keeps w w' (fun _ => False) := by
  go_enter Tryd.func5, Tryd.ntmps5
  go_upto_region 2 with fail
  refine alloc3 (P := fun W => Code.wp _ _ _ _ W) fun W h1 h2 h3 k => ?_
  obtain ⟨⟨a0, a1, a2, a3, a4, a5, a6⟩, -⟩ := ans_open h1
  obtain ⟨⟨r0, r1, r2, r3, r4, r5, r6⟩, q0, q1, q2, q3, q4, q5, q6⟩ := ans_open h2
  obtain ⟨⟨b0, b1, b2, b3, b4, b5, b6⟩, f0, f1, f2, f3, f4, f5, f6⟩ := ans_open h3
  have H2 := hide h2
  have K := hide k
  clear h1 h2 h3 k
  go_wp2_with fail
  refine ans_set (P := bodyPost Tryd.prog _ _ Exit.ret _) (blk_set_ne (blk_set_ne (blk_set_ne H2.out (by omega) 4 (.bool true)) (by omega) 5 (.string key)) (by omega) 6 (.string elem)) (((K.out.setCell ⟨w.heap.size + 1 + 1, 4, none⟩ (fun e => by simp at e; omega) (.bool true)).setCell ⟨w.heap.size + 1 + 1, 5, none⟩ (fun e => by simp at e; omega) (.string key)).setCell ⟨w.heap.size + 1 + 1, 6, none⟩ (fun e => by simp at e; omega) (.string elem)) (by omega) (fun w9 hb9 k9 => ?_)
  obtain ⟨⟨d0, d1, d2, d3, d4, d5, d6⟩, -⟩ := ans_open hb9
  refine bodyPost_ret (v := .tuple #[.agg #[.int .i64 9, .int .i64 0, .int .i64 0, .int .i64 0, .bool true, .string key, .string elem], .bool true]) (by simp [results, Tryd.results5, go_sem, d0, d1, d2, d3, d4, d5, d6]) rfl ?_
  exact ⟨rfl, k9⟩
set_option maxRecDepth 100000 in
set_option maxHeartbeats 2000000 in
theorem tidy_2f (n off : Int) (key elem : ByteArray) (w : World) : Calls Tryd.prog 5 #[.agg #[.int .i64 2, .int .i64 0, .int .i64 n, .int .i64 off, .bool false, .string key, .string elem]] w fun e w' => e = .returned (.tuple #[.agg #[.int .i64 2, .int .i64 0, .int .i64 0, .int .i64 0, .bool false, .string ⟨#[]⟩, .string ⟨#[]⟩], .bool true]) ∧ Keeps w w' (fun _ => False) := by
  go_enter Tryd.func5, Tryd.ntmps5
  go_upto_region 2 with fail
  refine alloc3 (P := fun W => Code.wp _ _ _ _ W) fun W h1 h2 h3 k => ?_
  obtain ⟨⟨a0, a1, a2, a3, a4, a5, a6⟩, -⟩ := ans_open h1
  obtain ⟨⟨r0, r1, r2, r3, r4, r5, r6⟩, q0, q1, q2, q3, q4, q5, q6⟩ := ans_open h2
  obtain ⟨⟨b0, b1, b2, b3, b4, b5, b6⟩, f0, f1, f2, f3, f4, f5, f6⟩ := ans_open h3
  have H2 := hide h2
  have K := hide k
  clear h1 h2 h3 k
  go_wp2_with fail
  refine ans_set (P := bodyPost Tryd.prog _ _ Exit.ret _) (blk_set_ne H2.out (by omega) 4 (.bool false)) (K.out.setCell ⟨w.heap.size + 1 + 1, 4, none⟩ (fun e => by simp at e; omega) (.bool false)) (by omega) (fun w9 hb9 k9 => ?_)
  obtain ⟨⟨d0, d1, d2, d3, d4, d5, d6⟩, -⟩ := ans_open hb9
  refine bodyPost_ret (v := .tuple #[.agg #[.int .i64 2, .int .i64 0, .int .i64 0, .int .i64 0, .bool false, .string ⟨#[]⟩, .string ⟨#[]⟩], .bool true]) (by simp [results, Tryd.results5, go_sem, d0, d1, d2, d3, d4, d5, d6]) rfl ?_
  exact ⟨rfl, k9⟩
set_option maxRecDepth 100000 in
set_option maxHeartbeats 2000000 in
theorem tidy_9f (n off : Int) (key elem : ByteArray) (w : World) : Calls Tryd.prog 5 #[.agg #[.int .i64 9, .int .i64 0, .int .i64 n, .int .i64 off, .bool false, .string key, .string elem]] w fun e w' => e = .returned (.tuple #[.agg #[.int .i64 9, .int .i64 0, .int .i64 0, .int .i64 0, .bool false, .string ⟨#[]⟩, .string ⟨#[]⟩], .bool true]) ∧ Keeps w w' (fun _ => False) := by
  go_enter Tryd.func5, Tryd.ntmps5
  go_upto_region 2 with fail
  refine alloc3 (P := fun W => Code.wp _ _ _ _ W) fun W h1 h2 h3 k => ?_
  obtain ⟨⟨a0, a1, a2, a3, a4, a5, a6⟩, -⟩ := ans_open h1
  obtain ⟨⟨r0, r1, r2, r3, r4, r5, r6⟩, q0, q1, q2, q3, q4, q5, q6⟩ := ans_open h2
  obtain ⟨⟨b0, b1, b2, b3, b4, b5, b6⟩, f0, f1, f2, f3, f4, f5, f6⟩ := ans_open h3
  have H2 := hide h2
  have K := hide k
  clear h1 h2 h3 k
  go_wp2_with fail
  refine ans_set (P := bodyPost Tryd.prog _ _ Exit.ret _) (blk_set_ne H2.out (by omega) 4 (.bool false)) (K.out.setCell ⟨w.heap.size + 1 + 1, 4, none⟩ (fun e => by simp at e; omega) (.bool false)) (by omega) (fun w9 hb9 k9 => ?_)
  obtain ⟨⟨d0, d1, d2, d3, d4, d5, d6⟩, -⟩ := ans_open hb9
  refine bodyPost_ret (v := .tuple #[.agg #[.int .i64 9, .int .i64 0, .int .i64 0, .int .i64 0, .bool false, .string ⟨#[]⟩, .string ⟨#[]⟩], .bool true]) (by simp [results, Tryd.results5, go_sem, d0, d1, d2, d3, d4, d5, d6]) rfl ?_
  exact ⟨rfl, k9⟩
set_option maxRecDepth 100000 in
set_option maxHeartbeats 2000000 in
theorem tidy_14z (off : Int) (yes : Bool) (key elem : ByteArray) (w : World) : Calls Tryd.prog 5 #[.agg #[.int .i64 14, .int .i64 0, .int .i64 0, .int .i64 off, .bool yes, .string key, .string elem]] w fun e w' => e = .returned (.tuple #[.agg #[.int .i64 14, .int .i64 0, .int .i64 0, .int .i64 0, .bool false, .string ⟨#[]⟩, .string ⟨#[]⟩], .bool true]) ∧ Keeps w w' (fun _ => False) := by
  go_enter Tryd.func5, Tryd.ntmps5
  go_upto_region 2 with fail
  refine alloc3 (P := fun W => Code.wp _ _ _ _ W) fun W h1 h2 h3 k => ?_
  obtain ⟨⟨a0, a1, a2, a3, a4, a5, a6⟩, -⟩ := ans_open h1
  obtain ⟨⟨r0, r1, r2, r3, r4, r5, r6⟩, q0, q1, q2, q3, q4, q5, q6⟩ := ans_open h2
  obtain ⟨⟨b0, b1, b2, b3, b4, b5, b6⟩, f0, f1, f2, f3, f4, f5, f6⟩ := ans_open h3
  have H2 := hide h2
  have K := hide k
  clear h1 h2 h3 k
  go_wp2_with fail
  refine ans_set (P := bodyPost Tryd.prog _ _ Exit.ret _) (blk_set_ne H2.out (by omega) 2 (.int .i64 0)) (K.out.setCell ⟨w.heap.size + 1 + 1, 2, none⟩ (fun e => by simp at e; omega) (.int .i64 0)) (by omega) (fun w9 hb9 k9 => ?_)
  obtain ⟨⟨d0, d1, d2, d3, d4, d5, d6⟩, -⟩ := ans_open hb9
  refine bodyPost_ret (v := .tuple #[.agg #[.int .i64 14, .int .i64 0, .int .i64 0, .int .i64 0, .bool false, .string ⟨#[]⟩, .string ⟨#[]⟩], .bool true]) (by simp [results, Tryd.results5, go_sem, d0, d1, d2, d3, d4, d5, d6]) rfl ?_
  exact ⟨rfl, k9⟩
set_option maxRecDepth 100000 in
set_option maxHeartbeats 2000000 in
theorem tidy_14n (n off : Int) (h0 : n ≠ 0) (yes : Bool) (key elem : ByteArray) (w : World) : Calls Tryd.prog 5 #[.agg #[.int .i64 14, .int .i64 0, .int .i64 n, .int .i64 off, .bool yes, .string key, .string elem]] w fun e w' => e = .returned (.tuple #[.agg #[.int .i64 14, .int .i64 0, .int .i64 n, .int .i64 off, .bool false, .string ⟨#[]⟩, .string ⟨#[]⟩], .bool true]) ∧ Keeps w w' (fun _ => False) := by
  have y0 : (n != 0) = true := by simp [h0]
  go_enter Tryd.func5, Tryd.ntmps5
  go_upto_region 2 with fail
  refine alloc3 (P := fun W => Code.wp _ _ _ _ W) fun W h1 h2 h3 k => ?_
  obtain ⟨⟨a0, a1, a2, a3, a4, a5, a6⟩, -⟩ := ans_open h1
  obtain ⟨⟨r0, r1, r2, r3, r4, r5, r6⟩, q0, q1, q2, q3, q4, q5, q6⟩ := ans_open h2
  obtain ⟨⟨b0, b1, b2, b3, b4, b5, b6⟩, f0, f1, f2, f3, f4, f5, f6⟩ := ans_open h3
  have H2 := hide h2
  have K := hide k
  clear h1 h2 h3 k
  go_wp2_with fail
  refine ans_set (P := bodyPost Tryd.prog _ _ Exit.ret _) (blk_set_ne (blk_set_ne H2.out (by omega) 2 (.int .i64 n)) (by omega) 3 (.int .i64 off)) ((K.out.setCell ⟨w.heap.size + 1 + 1, 2, none⟩ (fun e => by simp at e; omega) (.int .i64 n)).setCell ⟨w.heap.size + 1 + 1, 3, none⟩ (fun e => by simp at e; omega) (.int .i64 off)) (by omega) (fun w9 hb9 k9 => ?_)
  obtain ⟨⟨d0, d1, d2, d3, d4, d5, d6⟩, -⟩ := ans_open hb9
  refine bodyPost_ret (v := .tuple #[.agg #[.int .i64 14, .int .i64 0, .int .i64 n, .int .i64 off, .bool false, .string ⟨#[]⟩, .string ⟨#[]⟩], .bool true]) (by simp [results, Tryd.results5, go_sem, d0, d1, d2, d3, d4, d5, d6]) rfl ?_
  exact ⟨rfl, k9⟩
set_option maxRecDepth 100000 in
set_option maxHeartbeats 2000000 in
theorem tidy_err (op err n off : Int) (ho : 1 ≤ op ∧ op ≤ 14) (h0 : err ≠ 0) (yes : Bool) (key elem : ByteArray) (w : World) : Calls Tryd.prog 5 #[.agg #[.int .i64 op, .int .i64 err, .int .i64 n, .int .i64 off, .bool yes, .string key, .string elem]] w fun e w' => e = .returned (.tuple #[.agg #[.int .i64 op, .int .i64 err, .int .i64 0, .int .i64 0, .bool false, .string ⟨#[]⟩, .string ⟨#[]⟩], .bool true]) ∧ Keeps w w' (fun _ => False) := by
  have y0 : (err != 0) = true := by simp [h0]
  have y1 : ¬ op < 1 := by omega
  have y2 : ¬ 14 < op := by omega
  go_enter Tryd.func5, Tryd.ntmps5
  go_upto_region 2 with fail
  refine alloc3 (P := fun W => Code.wp _ _ _ _ W) fun W h1 h2 h3 k => ?_
  obtain ⟨⟨a0, a1, a2, a3, a4, a5, a6⟩, -⟩ := ans_open h1
  obtain ⟨⟨r0, r1, r2, r3, r4, r5, r6⟩, q0, q1, q2, q3, q4, q5, q6⟩ := ans_open h2
  obtain ⟨⟨b0, b1, b2, b3, b4, b5, b6⟩, f0, f1, f2, f3, f4, f5, f6⟩ := ans_open h3
  have H2 := hide h2
  have K := hide k
  clear h1 h2 h3 k
  go_wp2_with fail
  refine ans_set (P := bodyPost Tryd.prog _ _ Exit.ret _) (blk_set_ne H2.out (by omega) 1 (.int .i64 err)) (K.out.setCell ⟨w.heap.size + 1 + 1, 1, none⟩ (fun e => by simp at e; omega) (.int .i64 err)) (by omega) (fun w9 hb9 k9 => ?_)
  obtain ⟨⟨d0, d1, d2, d3, d4, d5, d6⟩, -⟩ := ans_open hb9
  refine bodyPost_ret (v := .tuple #[.agg #[.int .i64 op, .int .i64 err, .int .i64 0, .int .i64 0, .bool false, .string ⟨#[]⟩, .string ⟨#[]⟩], .bool true]) (by simp [results, Tryd.results5, go_sem, d0, d1, d2, d3, d4, d5, d6]) rfl ?_
  exact ⟨rfl, k9⟩
set_option maxRecDepth 100000 in
set_option maxHeartbeats 2000000 in
theorem tidy_lo (op err n off : Int) (ho : op < 1) (yes : Bool) (key elem : ByteArray) (w : World) : Calls Tryd.prog 5 #[.agg #[.int .i64 op, .int .i64 err, .int .i64 n, .int .i64 off, .bool yes, .string key, .string elem]] w fun e w' => e = .returned (.tuple #[.agg #[.int .i64 0, .int .i64 0, .int .i64 0, .int .i64 0, .bool false, .string ⟨#[]⟩, .string ⟨#[]⟩], .bool false]) ∧ Keeps w w' (fun _ => False) := by
  go_enter Tryd.func5, Tryd.ntmps5
  go_upto_region 2 with fail
  refine alloc3 (P := fun W => Code.wp _ _ _ _ W) fun W h1 h2 h3 k => ?_
  obtain ⟨⟨a0, a1, a2, a3, a4, a5, a6⟩, -⟩ := ans_open h1
  obtain ⟨⟨r0, r1, r2, r3, r4, r5, r6⟩, q0, q1, q2, q3, q4, q5, q6⟩ := ans_open h2
  obtain ⟨⟨b0, b1, b2, b3, b4, b5, b6⟩, f0, f1, f2, f3, f4, f5, f6⟩ := ans_open h3
  have H2 := hide h2
  have K := hide k
  clear h1 h2 h3 k
  go_wp2_with fail
  refine ans_set (P := bodyPost Tryd.prog _ _ Exit.ret _) H2.out K.out (by omega) (fun w9 hb9 k9 => ?_)
  obtain ⟨⟨d0, d1, d2, d3, d4, d5, d6⟩, -⟩ := ans_open hb9
  refine bodyPost_ret (v := .tuple #[.agg #[.int .i64 0, .int .i64 0, .int .i64 0, .int .i64 0, .bool false, .string ⟨#[]⟩, .string ⟨#[]⟩], .bool false]) (by simp [results, Tryd.results5, go_sem, d0, d1, d2, d3, d4, d5, d6]) rfl ?_
  exact ⟨rfl, k9⟩
set_option maxRecDepth 100000 in
set_option maxHeartbeats 2000000 in
theorem tidy_hi (op err n off : Int) (ho : 14 < op) (yes : Bool) (key elem : ByteArray) (w : World) : Calls Tryd.prog 5 #[.agg #[.int .i64 op, .int .i64 err, .int .i64 n, .int .i64 off, .bool yes, .string key, .string elem]] w fun e w' => e = .returned (.tuple #[.agg #[.int .i64 0, .int .i64 0, .int .i64 0, .int .i64 0, .bool false, .string ⟨#[]⟩, .string ⟨#[]⟩], .bool false]) ∧ Keeps w w' (fun _ => False) := by
  have y1 : ¬ op < 1 := by omega
  go_enter Tryd.func5, Tryd.ntmps5
  go_upto_region 2 with fail
  refine alloc3 (P := fun W => Code.wp _ _ _ _ W) fun W h1 h2 h3 k => ?_
  obtain ⟨⟨a0, a1, a2, a3, a4, a5, a6⟩, -⟩ := ans_open h1
  obtain ⟨⟨r0, r1, r2, r3, r4, r5, r6⟩, q0, q1, q2, q3, q4, q5, q6⟩ := ans_open h2
  obtain ⟨⟨b0, b1, b2, b3, b4, b5, b6⟩, f0, f1, f2, f3, f4, f5, f6⟩ := ans_open h3
  have H2 := hide h2
  have K := hide k
  clear h1 h2 h3 k
  go_wp2_with fail
  refine ans_set (P := bodyPost Tryd.prog _ _ Exit.ret _) H2.out K.out (by omega) (fun w9 hb9 k9 => ?_)
  obtain ⟨⟨d0, d1, d2, d3, d4, d5, d6⟩, -⟩ := ans_open hb9
  refine bodyPost_ret (v := .tuple #[.agg #[.int .i64 0, .int .i64 0, .int .i64 0, .int .i64 0, .bool false, .string ⟨#[]⟩, .string ⟨#[]⟩], .bool false]) (by simp [results, Tryd.results5, go_sem, d0, d1, d2, d3, d4, d5, d6]) rfl ?_
  exact ⟨rfl, k9⟩
theorem tidy_any (op err n off : Int) (yes : Bool) (key elem : ByteArray) (w : World) : Calls Tryd.prog 5 #[.agg #[.int .i64 op, .int .i64 err, .int .i64 n, .int .i64 off, .bool yes, .string key, .string elem]] w fun e w' => e = .returned (tidV op err n off yes key elem) ∧ Keeps w w' (fun _ => False) := by
  by_cases ho : 1 ≤ op ∧ op ≤ 14
  · unfold tidV
    rw [if_pos ho]
    by_cases h0 : err = 0
    · subst h0
      rcases op_cases ho with h | h | h | h | h | h | h | h | h | h | h | h | h | h <;> subst h
      · exact tidy_1 n off yes key elem w
      · cases yes
        · exact tidy_2f n off key elem w
        · exact tidy_2t n off key elem w
      · exact tidy_3 n off yes key elem w
      · exact tidy_4 n off yes key elem w
      · exact tidy_5 n off yes key elem w
      · exact tidy_6 n off yes key elem w
      · exact tidy_7 n off yes key elem w
      · exact tidy_8 n off yes key elem w
      · cases yes
        · exact tidy_9f n off key elem w
        · exact tidy_9t n off key elem w
      · exact tidy_10 n off yes key elem w
      · exact tidy_11 n off yes key elem w
      · exact tidy_12 n off yes key elem w
      · exact tidy_13 n off yes key elem w
      · by_cases hn : n = 0
        · subst hn
          exact tidy_14z off yes key elem w
        · have e2 : tOff 14 0 n off = off := if_pos ⟨rfl, rfl, hn⟩
          rw [e2]
          exact tidy_14n n off hn yes key elem w
    · have e1 : tN op err n = 0 := if_neg (fun e => h0 e.1)
      have e2 : tOff op err n off = 0 := if_neg (fun e => h0 e.1)
      have e3 : tYes op err yes = false := if_neg (fun e => h0 e.1)
      have e4 : tKey op err yes key = ⟨#[]⟩ := if_neg (fun e => h0 e.1)
      have e5 : tElem op err yes elem = ⟨#[]⟩ := if_neg (fun e => h0 e.1)
      rw [e1, e2, e3, e4, e5]
      exact tidy_err op err n off ho h0 yes key elem w
  · unfold tidV
    rw [if_neg ho]
    by_cases h1 : op < 1
    · exact tidy_lo op err n off h1 yes key elem w
    · exact tidy_hi op err n off (by omega) yes key elem w
end Go.Proofs.YteimjilngabebaaDoor

