import Derived.Deep.Cut
import Derived.Test.YtfpiibccggjjpaaDoorUn9
/-
  script: the law's clean.
-/
namespace Go.Proofs.YtfpiibccggjjpaaDoor
open Go.RowKit
set_option linter.unusedVariables false

theorem alloc3r {w : World} {o1 o2 o3 : Obj} {P : World → Prop} (h : ∀ W0, W0.heap[w.heap.size]? = some o1 → W0.heap[w.heap.size + 1]? = some o2 → W0.heap[w.heap.size + 1 + 1]? = some o3 → Keeps w W0 (fun _ => False) → P W0) : P (((w.alloc o1).alloc o2).alloc o3) := by
  have k2 : Keeps ((w.alloc o1).alloc o2) (((w.alloc o1).alloc o2).alloc o3) (fun _ => False) := (Keeps.refl _ _).alloc _
  have k1 : Keeps (w.alloc o1) ((w.alloc o1).alloc o2) (fun _ => False) := (Keeps.refl _ _).alloc _
  have e1 := heap_alloc_new (w.alloc o1) o2
  have e2 := heap_alloc_new ((w.alloc o1).alloc o2) o3
  simp only [World.size_alloc] at e1 e2
  exact h _ (k2.blk8 (k1.blk8 (heap_alloc_new w o1))) (k2.blk8 e1) e2 ((((Keeps.refl _ _).alloc _).alloc _).alloc _)
theorem set1r {W : World} {B k : Nat} {cs : Array Value} {t : TypeId} (h : W.heap[B]? = some (.cells cs t)) {a : Value} {P : World → Prop} (hP : ∀ W', W'.heap[B]? = some (.cells (cs.setIfInBounds k a) t) → Keeps W W' (fun x => x = B) → P W') : P (W.setCell ⟨B, k, none⟩ a) := hP _ (setB h k a) (keepsB k a)
/-- What clean answers. -/
def ClP (w : World) (vs : Array Value) (ok : Bool) (e : Ending) (w' : World) : Prop := e = .returned (.tuple #[.agg vs, .bool ok]) ∧ Keeps w w' (fun _ => False)
set_option maxRecDepth 100000 in
set_option maxHeartbeats 4000000 in
theorem clean_1 (h n : Int) (u v : Nat) (key elem : ByteArray) (sf sh : Option Addr) (nf cf nh ch : Nat) (w : World) : Calls Tryd.prog 28 #[.agg #[.int .i64 1, .int .i64 h, .slice sf nf cf, .slice sh nh ch, .int .u64 (u : Int), .int .u64 (v : Int), .int .i64 n, .string key, .string elem]] w fun e w' => ClP w #[.int .i64 1, .int .i64 0, .slice sf nf cf, .slice none 0 0, .int .u64 (u : Int), .int .u64 0, .int .i64 n, .string ⟨#[]⟩, .string ⟨#[]⟩] true e w' := by
  go_enter Tryd.func28, Tryd.ntmps28
  go_upto_region 2 with fail
  refine alloc3r (P := fun W => Code.wp _ _ _ _ W) fun W0 hb0 hb1 hb2 k0 => ?_
  obtain ⟨c0, c1, c2, c3, c4, c5, c6, c7, c8⟩ := at9 hb0
  obtain ⟨e0, e1, e2, e3, e4, e5, e6, e7, e8⟩ := at9 hb1
  obtain ⟨f0, f1, f2, f3, f4, f5, f6, f7, f8⟩ := fro9 hb1
  obtain ⟨d0, d1, d2, d3, d4, d5, d6, d7, d8⟩ := at9 hb2
  obtain ⟨g0, g1, g2, g3, g4, g5, g6, g7, g8⟩ := fro9 hb2
  have HB1 := hide hb1
  have K0 := hide k0
  clear hb0 hb1 hb2 k0
  go_wp2_with fail
  refine set9 (P := fun W => bodyPost _ _ _ _ _ W) HB1.out fun W9 h9 k9 => ?_
  obtain ⟨y0, y1, y2, y3, y4, y5, y6, y7, y8⟩ := at9 h9
  refine bodyPost_ret (v := .tuple #[.agg #[.int .i64 1, .int .i64 0, .slice sf nf cf, .slice none 0 0, .int .u64 (u : Int), .int .u64 0, .int .i64 n, .string ⟨#[]⟩, .string ⟨#[]⟩], .bool true]) (by simp [results, Tryd.results28, go_sem, y0, y1, y2, y3, y4, y5, y6, y7, y8]) rfl ?_
  exact ⟨rfl, keeps_out K0.out (show w.heap.size ≤ w.heap.size + 1 by omega) k9⟩
set_option maxRecDepth 100000 in
set_option maxHeartbeats 4000000 in
theorem clean_2 (h n : Int) (u v : Nat) (key elem : ByteArray) (sf sh : Option Addr) (nf cf nh ch : Nat) (w : World) : Calls Tryd.prog 28 #[.agg #[.int .i64 2, .int .i64 h, .slice sf nf cf, .slice sh nh ch, .int .u64 (u : Int), .int .u64 (v : Int), .int .i64 n, .string key, .string elem]] w fun e w' => ClP w #[.int .i64 2, .int .i64 h, .slice none 0 0, .slice none 0 0, .int .u64 0, .int .u64 0, .int .i64 0, .string key, .string ⟨#[]⟩] true e w' := by
  go_enter Tryd.func28, Tryd.ntmps28
  go_upto_region 2 with fail
  refine alloc3r (P := fun W => Code.wp _ _ _ _ W) fun W0 hb0 hb1 hb2 k0 => ?_
  obtain ⟨c0, c1, c2, c3, c4, c5, c6, c7, c8⟩ := at9 hb0
  obtain ⟨d0, d1, d2, d3, d4, d5, d6, d7, d8⟩ := at9 hb2
  obtain ⟨g0, g1, g2, g3, g4, g5, g6, g7, g8⟩ := fro9 hb2
  have HB0 := hide hb0
  have HB1 := hide hb1
  have HB2 := hide hb2
  have K0 := hide k0
  clear hb0 hb1 hb2 k0
  go_upto_region 28 with fail
  refine set1r (P := fun W => Code.wp _ _ _ _ W) HB2.out fun W1 h1 k1 => ?_
  clear c0 c1 c2 c3 c4 c5 c6 c7 c8 d0 d1 d2 d3 d4 d5 d6 d7 d8 g0 g1 g2 g3 g4 g5 g6 g7 g8
  have hb0 := (k1.block w.heap.size (heap_lt HB0.out) (by omega)).trans HB0.out
  have hb1 := (k1.block (w.heap.size + 1) (heap_lt HB1.out) (by omega)).trans HB1.out
  have hb2 : W1.heap[w.heap.size + 1 + 1]? = some (.cells #[.int .i64 2, .int .i64 h, .slice none 0 0, .slice none 0 0, .int .u64 0, .int .u64 0, .int .i64 0, .string key, .string ⟨#[]⟩] 33) := h1
  have k0 := keeps_out K0.out (show w.heap.size ≤ w.heap.size + 1 + 1 by omega) k1
  clear HB0 HB1 HB2 K0 k1 h1
  obtain ⟨c0, c1, c2, c3, c4, c5, c6, c7, c8⟩ := at9 hb0
  obtain ⟨e0, e1, e2, e3, e4, e5, e6, e7, e8⟩ := at9 hb1
  obtain ⟨f0, f1, f2, f3, f4, f5, f6, f7, f8⟩ := fro9 hb1
  obtain ⟨d0, d1, d2, d3, d4, d5, d6, d7, d8⟩ := at9 hb2
  obtain ⟨g0, g1, g2, g3, g4, g5, g6, g7, g8⟩ := fro9 hb2
  have HB1 := hide hb1
  have K0 := hide k0
  clear hb0 hb1 hb2 k0
  go_wp2_with fail
  refine set9 (P := fun W => bodyPost _ _ _ _ _ W) HB1.out fun W9 h9 k9 => ?_
  obtain ⟨y0, y1, y2, y3, y4, y5, y6, y7, y8⟩ := at9 h9
  refine bodyPost_ret (v := .tuple #[.agg #[.int .i64 2, .int .i64 h, .slice none 0 0, .slice none 0 0, .int .u64 0, .int .u64 0, .int .i64 0, .string key, .string ⟨#[]⟩], .bool true]) (by simp [results, Tryd.results28, go_sem, y0, y1, y2, y3, y4, y5, y6, y7, y8]) rfl ?_
  exact ⟨rfl, keeps_out K0.out (show w.heap.size ≤ w.heap.size + 1 by omega) k9⟩
set_option maxRecDepth 100000 in
set_option maxHeartbeats 4000000 in
theorem clean_3 (h n : Int) (u v : Nat) (key elem : ByteArray) (sf sh : Option Addr) (nf cf nh ch : Nat) (w : World) : Calls Tryd.prog 28 #[.agg #[.int .i64 3, .int .i64 h, .slice sf nf cf, .slice sh nh ch, .int .u64 (u : Int), .int .u64 (v : Int), .int .i64 n, .string key, .string elem]] w fun e w' => ClP w #[.int .i64 3, .int .i64 h, .slice none 0 0, .slice none 0 0, .int .u64 0, .int .u64 0, .int .i64 0, .string key, .string elem] true e w' := by
  go_enter Tryd.func28, Tryd.ntmps28
  go_upto_region 2 with fail
  refine alloc3r (P := fun W => Code.wp _ _ _ _ W) fun W0 hb0 hb1 hb2 k0 => ?_
  obtain ⟨c0, c1, c2, c3, c4, c5, c6, c7, c8⟩ := at9 hb0
  obtain ⟨d0, d1, d2, d3, d4, d5, d6, d7, d8⟩ := at9 hb2
  obtain ⟨g0, g1, g2, g3, g4, g5, g6, g7, g8⟩ := fro9 hb2
  have HB0 := hide hb0
  have HB1 := hide hb1
  have HB2 := hide hb2
  have K0 := hide k0
  clear hb0 hb1 hb2 k0
  go_upto_region 12 with fail
  refine set1r (P := fun W => Code.wp _ _ _ _ W) HB2.out fun W1 h1 k1 => ?_
  clear c0 c1 c2 c3 c4 c5 c6 c7 c8 d0 d1 d2 d3 d4 d5 d6 d7 d8 g0 g1 g2 g3 g4 g5 g6 g7 g8
  have hb0 := (k1.block w.heap.size (heap_lt HB0.out) (by omega)).trans HB0.out
  have hb1 := (k1.block (w.heap.size + 1) (heap_lt HB1.out) (by omega)).trans HB1.out
  have hb2 : W1.heap[w.heap.size + 1 + 1]? = some (.cells #[.int .i64 3, .int .i64 h, .slice none 0 0, .slice none 0 0, .int .u64 0, .int .u64 0, .int .i64 0, .string key, .string ⟨#[]⟩] 33) := h1
  have k0 := keeps_out K0.out (show w.heap.size ≤ w.heap.size + 1 + 1 by omega) k1
  clear HB0 HB1 HB2 K0 k1 h1
  obtain ⟨c0, c1, c2, c3, c4, c5, c6, c7, c8⟩ := at9 hb0
  obtain ⟨d0, d1, d2, d3, d4, d5, d6, d7, d8⟩ := at9 hb2
  obtain ⟨g0, g1, g2, g3, g4, g5, g6, g7, g8⟩ := fro9 hb2
  have HB0 := hide hb0
  have HB1 := hide hb1
  have HB2 := hide hb2
  have K0 := hide k0
  clear hb0 hb1 hb2 k0
  go_upto_region 28 with fail
  refine set1r (P := fun W => Code.wp _ _ _ _ W) HB2.out fun W2 h2 k2 => ?_
  clear c0 c1 c2 c3 c4 c5 c6 c7 c8 d0 d1 d2 d3 d4 d5 d6 d7 d8 g0 g1 g2 g3 g4 g5 g6 g7 g8
  have hb0 := (k2.block w.heap.size (heap_lt HB0.out) (by omega)).trans HB0.out
  have hb1 := (k2.block (w.heap.size + 1) (heap_lt HB1.out) (by omega)).trans HB1.out
  have hb2 : W2.heap[w.heap.size + 1 + 1]? = some (.cells #[.int .i64 3, .int .i64 h, .slice none 0 0, .slice none 0 0, .int .u64 0, .int .u64 0, .int .i64 0, .string key, .string elem] 33) := h2
  have k0 := keeps_out K0.out (show w.heap.size ≤ w.heap.size + 1 + 1 by omega) k2
  clear HB0 HB1 HB2 K0 k2 h2
  obtain ⟨c0, c1, c2, c3, c4, c5, c6, c7, c8⟩ := at9 hb0
  obtain ⟨e0, e1, e2, e3, e4, e5, e6, e7, e8⟩ := at9 hb1
  obtain ⟨f0, f1, f2, f3, f4, f5, f6, f7, f8⟩ := fro9 hb1
  obtain ⟨d0, d1, d2, d3, d4, d5, d6, d7, d8⟩ := at9 hb2
  obtain ⟨g0, g1, g2, g3, g4, g5, g6, g7, g8⟩ := fro9 hb2
  have HB1 := hide hb1
  have K0 := hide k0
  clear hb0 hb1 hb2 k0
  go_wp2_with fail
  refine set9 (P := fun W => bodyPost _ _ _ _ _ W) HB1.out fun W9 h9 k9 => ?_
  obtain ⟨y0, y1, y2, y3, y4, y5, y6, y7, y8⟩ := at9 h9
  refine bodyPost_ret (v := .tuple #[.agg #[.int .i64 3, .int .i64 h, .slice none 0 0, .slice none 0 0, .int .u64 0, .int .u64 0, .int .i64 0, .string key, .string elem], .bool true]) (by simp [results, Tryd.results28, go_sem, y0, y1, y2, y3, y4, y5, y6, y7, y8]) rfl ?_
  exact ⟨rfl, keeps_out K0.out (show w.heap.size ≤ w.heap.size + 1 by omega) k9⟩
set_option maxRecDepth 100000 in
set_option maxHeartbeats 4000000 in
theorem clean_4 (h n : Int) (u v : Nat) (key elem : ByteArray) (sf sh : Option Addr) (nf cf nh ch : Nat) (w : World) : Calls Tryd.prog 28 #[.agg #[.int .i64 4, .int .i64 h, .slice sf nf cf, .slice sh nh ch, .int .u64 (u : Int), .int .u64 (v : Int), .int .i64 n, .string key, .string elem]] w fun e w' => ClP w #[.int .i64 4, .int .i64 h, .slice none 0 0, .slice none 0 0, .int .u64 0, .int .u64 0, .int .i64 0, .string key, .string ⟨#[]⟩] true e w' := by
  go_enter Tryd.func28, Tryd.ntmps28
  go_upto_region 2 with fail
  refine alloc3r (P := fun W => Code.wp _ _ _ _ W) fun W0 hb0 hb1 hb2 k0 => ?_
  obtain ⟨c0, c1, c2, c3, c4, c5, c6, c7, c8⟩ := at9 hb0
  obtain ⟨d0, d1, d2, d3, d4, d5, d6, d7, d8⟩ := at9 hb2
  obtain ⟨g0, g1, g2, g3, g4, g5, g6, g7, g8⟩ := fro9 hb2
  have HB0 := hide hb0
  have HB1 := hide hb1
  have HB2 := hide hb2
  have K0 := hide k0
  clear hb0 hb1 hb2 k0
  go_upto_region 28 with fail
  refine set1r (P := fun W => Code.wp _ _ _ _ W) HB2.out fun W1 h1 k1 => ?_
  clear c0 c1 c2 c3 c4 c5 c6 c7 c8 d0 d1 d2 d3 d4 d5 d6 d7 d8 g0 g1 g2 g3 g4 g5 g6 g7 g8
  have hb0 := (k1.block w.heap.size (heap_lt HB0.out) (by omega)).trans HB0.out
  have hb1 := (k1.block (w.heap.size + 1) (heap_lt HB1.out) (by omega)).trans HB1.out
  have hb2 : W1.heap[w.heap.size + 1 + 1]? = some (.cells #[.int .i64 4, .int .i64 h, .slice none 0 0, .slice none 0 0, .int .u64 0, .int .u64 0, .int .i64 0, .string key, .string ⟨#[]⟩] 33) := h1
  have k0 := keeps_out K0.out (show w.heap.size ≤ w.heap.size + 1 + 1 by omega) k1
  clear HB0 HB1 HB2 K0 k1 h1
  obtain ⟨c0, c1, c2, c3, c4, c5, c6, c7, c8⟩ := at9 hb0
  obtain ⟨e0, e1, e2, e3, e4, e5, e6, e7, e8⟩ := at9 hb1
  obtain ⟨f0, f1, f2, f3, f4, f5, f6, f7, f8⟩ := fro9 hb1
  obtain ⟨d0, d1, d2, d3, d4, d5, d6, d7, d8⟩ := at9 hb2
  obtain ⟨g0, g1, g2, g3, g4, g5, g6, g7, g8⟩ := fro9 hb2
  have HB1 := hide hb1
  have K0 := hide k0
  clear hb0 hb1 hb2 k0
  go_wp2_with fail
  refine set9 (P := fun W => bodyPost _ _ _ _ _ W) HB1.out fun W9 h9 k9 => ?_
  obtain ⟨y0, y1, y2, y3, y4, y5, y6, y7, y8⟩ := at9 h9
  refine bodyPost_ret (v := .tuple #[.agg #[.int .i64 4, .int .i64 h, .slice none 0 0, .slice none 0 0, .int .u64 0, .int .u64 0, .int .i64 0, .string key, .string ⟨#[]⟩], .bool true]) (by simp [results, Tryd.results28, go_sem, y0, y1, y2, y3, y4, y5, y6, y7, y8]) rfl ?_
  exact ⟨rfl, keeps_out K0.out (show w.heap.size ≤ w.heap.size + 1 by omega) k9⟩
set_option maxRecDepth 100000 in
set_option maxHeartbeats 4000000 in
theorem clean_5 (h n : Int) (u v : Nat) (key elem : ByteArray) (sf sh : Option Addr) (nf cf nh ch : Nat) (w : World) : Calls Tryd.prog 28 #[.agg #[.int .i64 5, .int .i64 h, .slice sf nf cf, .slice sh nh ch, .int .u64 (u : Int), .int .u64 (v : Int), .int .i64 n, .string key, .string elem]] w fun e w' => ClP w #[.int .i64 5, .int .i64 h, .slice none 0 0, .slice none 0 0, .int .u64 0, .int .u64 0, .int .i64 0, .string ⟨#[]⟩, .string ⟨#[]⟩] true e w' := by
  go_enter Tryd.func28, Tryd.ntmps28
  go_upto_region 2 with fail
  refine alloc3r (P := fun W => Code.wp _ _ _ _ W) fun W0 hb0 hb1 hb2 k0 => ?_
  obtain ⟨c0, c1, c2, c3, c4, c5, c6, c7, c8⟩ := at9 hb0
  obtain ⟨e0, e1, e2, e3, e4, e5, e6, e7, e8⟩ := at9 hb1
  obtain ⟨f0, f1, f2, f3, f4, f5, f6, f7, f8⟩ := fro9 hb1
  obtain ⟨d0, d1, d2, d3, d4, d5, d6, d7, d8⟩ := at9 hb2
  obtain ⟨g0, g1, g2, g3, g4, g5, g6, g7, g8⟩ := fro9 hb2
  have HB1 := hide hb1
  have K0 := hide k0
  clear hb0 hb1 hb2 k0
  go_wp2_with fail
  refine set9 (P := fun W => bodyPost _ _ _ _ _ W) HB1.out fun W9 h9 k9 => ?_
  obtain ⟨y0, y1, y2, y3, y4, y5, y6, y7, y8⟩ := at9 h9
  refine bodyPost_ret (v := .tuple #[.agg #[.int .i64 5, .int .i64 h, .slice none 0 0, .slice none 0 0, .int .u64 0, .int .u64 0, .int .i64 0, .string ⟨#[]⟩, .string ⟨#[]⟩], .bool true]) (by simp [results, Tryd.results28, go_sem, y0, y1, y2, y3, y4, y5, y6, y7, y8]) rfl ?_
  exact ⟨rfl, keeps_out K0.out (show w.heap.size ≤ w.heap.size + 1 by omega) k9⟩
set_option maxRecDepth 100000 in
set_option maxHeartbeats 4000000 in
theorem clean_6 (h n : Int) (u v : Nat) (key elem : ByteArray) (sf sh : Option Addr) (nf cf nh ch : Nat) (w : World) : Calls Tryd.prog 28 #[.agg #[.int .i64 6, .int .i64 h, .slice sf nf cf, .slice sh nh ch, .int .u64 (u : Int), .int .u64 (v : Int), .int .i64 n, .string key, .string elem]] w fun e w' => ClP w #[.int .i64 6, .int .i64 h, .slice none 0 0, .slice none 0 0, .int .u64 (u : Int), .int .u64 0, .int .i64 0, .string ⟨#[]⟩, .string ⟨#[]⟩] true e w' := by
  go_enter Tryd.func28, Tryd.ntmps28
  go_upto_region 2 with fail
  refine alloc3r (P := fun W => Code.wp _ _ _ _ W) fun W0 hb0 hb1 hb2 k0 => ?_
  obtain ⟨c0, c1, c2, c3, c4, c5, c6, c7, c8⟩ := at9 hb0
  obtain ⟨d0, d1, d2, d3, d4, d5, d6, d7, d8⟩ := at9 hb2
  obtain ⟨g0, g1, g2, g3, g4, g5, g6, g7, g8⟩ := fro9 hb2
  have HB0 := hide hb0
  have HB1 := hide hb1
  have HB2 := hide hb2
  have K0 := hide k0
  clear hb0 hb1 hb2 k0
  go_upto_region 28 with fail
  refine set1r (P := fun W => Code.wp _ _ _ _ W) HB2.out fun W1 h1 k1 => ?_
  clear c0 c1 c2 c3 c4 c5 c6 c7 c8 d0 d1 d2 d3 d4 d5 d6 d7 d8 g0 g1 g2 g3 g4 g5 g6 g7 g8
  have hb0 := (k1.block w.heap.size (heap_lt HB0.out) (by omega)).trans HB0.out
  have hb1 := (k1.block (w.heap.size + 1) (heap_lt HB1.out) (by omega)).trans HB1.out
  have hb2 : W1.heap[w.heap.size + 1 + 1]? = some (.cells #[.int .i64 6, .int .i64 h, .slice none 0 0, .slice none 0 0, .int .u64 (u : Int), .int .u64 0, .int .i64 0, .string ⟨#[]⟩, .string ⟨#[]⟩] 33) := h1
  have k0 := keeps_out K0.out (show w.heap.size ≤ w.heap.size + 1 + 1 by omega) k1
  clear HB0 HB1 HB2 K0 k1 h1
  obtain ⟨c0, c1, c2, c3, c4, c5, c6, c7, c8⟩ := at9 hb0
  obtain ⟨e0, e1, e2, e3, e4, e5, e6, e7, e8⟩ := at9 hb1
  obtain ⟨f0, f1, f2, f3, f4, f5, f6, f7, f8⟩ := fro9 hb1
  obtain ⟨d0, d1, d2, d3, d4, d5, d6, d7, d8⟩ := at9 hb2
  obtain ⟨g0, g1, g2, g3, g4, g5, g6, g7, g8⟩ := fro9 hb2
  have HB1 := hide hb1
  have K0 := hide k0
  clear hb0 hb1 hb2 k0
  go_wp2_with fail
  refine set9 (P := fun W => bodyPost _ _ _ _ _ W) HB1.out fun W9 h9 k9 => ?_
  obtain ⟨y0, y1, y2, y3, y4, y5, y6, y7, y8⟩ := at9 h9
  refine bodyPost_ret (v := .tuple #[.agg #[.int .i64 6, .int .i64 h, .slice none 0 0, .slice none 0 0, .int .u64 (u : Int), .int .u64 0, .int .i64 0, .string ⟨#[]⟩, .string ⟨#[]⟩], .bool true]) (by simp [results, Tryd.results28, go_sem, y0, y1, y2, y3, y4, y5, y6, y7, y8]) rfl ?_
  exact ⟨rfl, keeps_out K0.out (show w.heap.size ≤ w.heap.size + 1 by omega) k9⟩
set_option maxRecDepth 100000 in
set_option maxHeartbeats 4000000 in
theorem clean_7 (h n : Int) (u v : Nat) (key elem : ByteArray) (sf sh : Option Addr) (nf cf nh ch : Nat) (w : World) : Calls Tryd.prog 28 #[.agg #[.int .i64 7, .int .i64 h, .slice sf nf cf, .slice sh nh ch, .int .u64 (u : Int), .int .u64 (v : Int), .int .i64 n, .string key, .string elem]] w fun e w' => ClP w #[.int .i64 7, .int .i64 h, .slice none 0 0, .slice none 0 0, .int .u64 0, .int .u64 0, .int .i64 0, .string ⟨#[]⟩, .string ⟨#[]⟩] true e w' := by
  go_enter Tryd.func28, Tryd.ntmps28
  go_upto_region 2 with fail
  refine alloc3r (P := fun W => Code.wp _ _ _ _ W) fun W0 hb0 hb1 hb2 k0 => ?_
  obtain ⟨c0, c1, c2, c3, c4, c5, c6, c7, c8⟩ := at9 hb0
  obtain ⟨e0, e1, e2, e3, e4, e5, e6, e7, e8⟩ := at9 hb1
  obtain ⟨f0, f1, f2, f3, f4, f5, f6, f7, f8⟩ := fro9 hb1
  obtain ⟨d0, d1, d2, d3, d4, d5, d6, d7, d8⟩ := at9 hb2
  obtain ⟨g0, g1, g2, g3, g4, g5, g6, g7, g8⟩ := fro9 hb2
  have HB1 := hide hb1
  have K0 := hide k0
  clear hb0 hb1 hb2 k0
  go_wp2_with fail
  refine set9 (P := fun W => bodyPost _ _ _ _ _ W) HB1.out fun W9 h9 k9 => ?_
  obtain ⟨y0, y1, y2, y3, y4, y5, y6, y7, y8⟩ := at9 h9
  refine bodyPost_ret (v := .tuple #[.agg #[.int .i64 7, .int .i64 h, .slice none 0 0, .slice none 0 0, .int .u64 0, .int .u64 0, .int .i64 0, .string ⟨#[]⟩, .string ⟨#[]⟩], .bool true]) (by simp [results, Tryd.results28, go_sem, y0, y1, y2, y3, y4, y5, y6, y7, y8]) rfl ?_
  exact ⟨rfl, keeps_out K0.out (show w.heap.size ≤ w.heap.size + 1 by omega) k9⟩
set_option maxRecDepth 100000 in
set_option maxHeartbeats 4000000 in
theorem clean_8 (h n : Int) (u v : Nat) (key elem : ByteArray) (sf sh : Option Addr) (nf cf nh ch : Nat) (w : World) : Calls Tryd.prog 28 #[.agg #[.int .i64 8, .int .i64 h, .slice sf nf cf, .slice sh nh ch, .int .u64 (u : Int), .int .u64 (v : Int), .int .i64 n, .string key, .string elem]] w fun e w' => ClP w #[.int .i64 8, .int .i64 h, .slice none 0 0, .slice none 0 0, .int .u64 (u : Int), .int .u64 (v : Int), .int .i64 0, .string ⟨#[]⟩, .string ⟨#[]⟩] true e w' := by
  go_enter Tryd.func28, Tryd.ntmps28
  go_upto_region 2 with fail
  refine alloc3r (P := fun W => Code.wp _ _ _ _ W) fun W0 hb0 hb1 hb2 k0 => ?_
  obtain ⟨c0, c1, c2, c3, c4, c5, c6, c7, c8⟩ := at9 hb0
  obtain ⟨d0, d1, d2, d3, d4, d5, d6, d7, d8⟩ := at9 hb2
  obtain ⟨g0, g1, g2, g3, g4, g5, g6, g7, g8⟩ := fro9 hb2
  have HB0 := hide hb0
  have HB1 := hide hb1
  have HB2 := hide hb2
  have K0 := hide k0
  clear hb0 hb1 hb2 k0
  go_upto_region 22 with fail
  refine set1r (P := fun W => Code.wp _ _ _ _ W) HB2.out fun W1 h1 k1 => ?_
  clear c0 c1 c2 c3 c4 c5 c6 c7 c8 d0 d1 d2 d3 d4 d5 d6 d7 d8 g0 g1 g2 g3 g4 g5 g6 g7 g8
  have hb0 := (k1.block w.heap.size (heap_lt HB0.out) (by omega)).trans HB0.out
  have hb1 := (k1.block (w.heap.size + 1) (heap_lt HB1.out) (by omega)).trans HB1.out
  have hb2 : W1.heap[w.heap.size + 1 + 1]? = some (.cells #[.int .i64 8, .int .i64 h, .slice none 0 0, .slice none 0 0, .int .u64 (u : Int), .int .u64 0, .int .i64 0, .string ⟨#[]⟩, .string ⟨#[]⟩] 33) := h1
  have k0 := keeps_out K0.out (show w.heap.size ≤ w.heap.size + 1 + 1 by omega) k1
  clear HB0 HB1 HB2 K0 k1 h1
  obtain ⟨c0, c1, c2, c3, c4, c5, c6, c7, c8⟩ := at9 hb0
  obtain ⟨d0, d1, d2, d3, d4, d5, d6, d7, d8⟩ := at9 hb2
  obtain ⟨g0, g1, g2, g3, g4, g5, g6, g7, g8⟩ := fro9 hb2
  have HB0 := hide hb0
  have HB1 := hide hb1
  have HB2 := hide hb2
  have K0 := hide k0
  clear hb0 hb1 hb2 k0
  go_upto_region 28 with fail
  refine set1r (P := fun W => Code.wp _ _ _ _ W) HB2.out fun W2 h2 k2 => ?_
  clear c0 c1 c2 c3 c4 c5 c6 c7 c8 d0 d1 d2 d3 d4 d5 d6 d7 d8 g0 g1 g2 g3 g4 g5 g6 g7 g8
  have hb0 := (k2.block w.heap.size (heap_lt HB0.out) (by omega)).trans HB0.out
  have hb1 := (k2.block (w.heap.size + 1) (heap_lt HB1.out) (by omega)).trans HB1.out
  have hb2 : W2.heap[w.heap.size + 1 + 1]? = some (.cells #[.int .i64 8, .int .i64 h, .slice none 0 0, .slice none 0 0, .int .u64 (u : Int), .int .u64 (v : Int), .int .i64 0, .string ⟨#[]⟩, .string ⟨#[]⟩] 33) := h2
  have k0 := keeps_out K0.out (show w.heap.size ≤ w.heap.size + 1 + 1 by omega) k2
  clear HB0 HB1 HB2 K0 k2 h2
  obtain ⟨c0, c1, c2, c3, c4, c5, c6, c7, c8⟩ := at9 hb0
  obtain ⟨e0, e1, e2, e3, e4, e5, e6, e7, e8⟩ := at9 hb1
  obtain ⟨f0, f1, f2, f3, f4, f5, f6, f7, f8⟩ := fro9 hb1
  obtain ⟨d0, d1, d2, d3, d4, d5, d6, d7, d8⟩ := at9 hb2
  obtain ⟨g0, g1, g2, g3, g4, g5, g6, g7, g8⟩ := fro9 hb2
  have HB1 := hide hb1
  have K0 := hide k0
  clear hb0 hb1 hb2 k0
  go_wp2_with fail
  refine set9 (P := fun W => bodyPost _ _ _ _ _ W) HB1.out fun W9 h9 k9 => ?_
  obtain ⟨y0, y1, y2, y3, y4, y5, y6, y7, y8⟩ := at9 h9
  refine bodyPost_ret (v := .tuple #[.agg #[.int .i64 8, .int .i64 h, .slice none 0 0, .slice none 0 0, .int .u64 (u : Int), .int .u64 (v : Int), .int .i64 0, .string ⟨#[]⟩, .string ⟨#[]⟩], .bool true]) (by simp [results, Tryd.results28, go_sem, y0, y1, y2, y3, y4, y5, y6, y7, y8]) rfl ?_
  exact ⟨rfl, keeps_out K0.out (show w.heap.size ≤ w.heap.size + 1 by omega) k9⟩
set_option maxRecDepth 100000 in
set_option maxHeartbeats 4000000 in
theorem clean_9 (h n : Int) (u v : Nat) (key elem : ByteArray) (sf sh : Option Addr) (nf cf nh ch : Nat) (w : World) : Calls Tryd.prog 28 #[.agg #[.int .i64 9, .int .i64 h, .slice sf nf cf, .slice sh nh ch, .int .u64 (u : Int), .int .u64 (v : Int), .int .i64 n, .string key, .string elem]] w fun e w' => ClP w #[.int .i64 9, .int .i64 h, .slice none 0 0, .slice none 0 0, .int .u64 0, .int .u64 0, .int .i64 0, .string ⟨#[]⟩, .string ⟨#[]⟩] true e w' := by
  go_enter Tryd.func28, Tryd.ntmps28
  go_upto_region 2 with fail
  refine alloc3r (P := fun W => Code.wp _ _ _ _ W) fun W0 hb0 hb1 hb2 k0 => ?_
  obtain ⟨c0, c1, c2, c3, c4, c5, c6, c7, c8⟩ := at9 hb0
  obtain ⟨e0, e1, e2, e3, e4, e5, e6, e7, e8⟩ := at9 hb1
  obtain ⟨f0, f1, f2, f3, f4, f5, f6, f7, f8⟩ := fro9 hb1
  obtain ⟨d0, d1, d2, d3, d4, d5, d6, d7, d8⟩ := at9 hb2
  obtain ⟨g0, g1, g2, g3, g4, g5, g6, g7, g8⟩ := fro9 hb2
  have HB1 := hide hb1
  have K0 := hide k0
  clear hb0 hb1 hb2 k0
  go_wp2_with fail
  refine set9 (P := fun W => bodyPost _ _ _ _ _ W) HB1.out fun W9 h9 k9 => ?_
  obtain ⟨y0, y1, y2, y3, y4, y5, y6, y7, y8⟩ := at9 h9
  refine bodyPost_ret (v := .tuple #[.agg #[.int .i64 9, .int .i64 h, .slice none 0 0, .slice none 0 0, .int .u64 0, .int .u64 0, .int .i64 0, .string ⟨#[]⟩, .string ⟨#[]⟩], .bool true]) (by simp [results, Tryd.results28, go_sem, y0, y1, y2, y3, y4, y5, y6, y7, y8]) rfl ?_
  exact ⟨rfl, keeps_out K0.out (show w.heap.size ≤ w.heap.size + 1 by omega) k9⟩
set_option maxRecDepth 100000 in
set_option maxHeartbeats 4000000 in
theorem clean_10 (h n : Int) (u v : Nat) (key elem : ByteArray) (sf sh : Option Addr) (nf cf nh ch : Nat) (w : World) : Calls Tryd.prog 28 #[.agg #[.int .i64 10, .int .i64 h, .slice sf nf cf, .slice sh nh ch, .int .u64 (u : Int), .int .u64 (v : Int), .int .i64 n, .string key, .string elem]] w fun e w' => ClP w #[.int .i64 10, .int .i64 0, .slice none 0 0, .slice sh nh ch, .int .u64 0, .int .u64 0, .int .i64 0, .string ⟨#[]⟩, .string ⟨#[]⟩] true e w' := by
  go_enter Tryd.func28, Tryd.ntmps28
  go_upto_region 2 with fail
  refine alloc3r (P := fun W => Code.wp _ _ _ _ W) fun W0 hb0 hb1 hb2 k0 => ?_
  obtain ⟨c0, c1, c2, c3, c4, c5, c6, c7, c8⟩ := at9 hb0
  obtain ⟨e0, e1, e2, e3, e4, e5, e6, e7, e8⟩ := at9 hb1
  obtain ⟨f0, f1, f2, f3, f4, f5, f6, f7, f8⟩ := fro9 hb1
  obtain ⟨d0, d1, d2, d3, d4, d5, d6, d7, d8⟩ := at9 hb2
  obtain ⟨g0, g1, g2, g3, g4, g5, g6, g7, g8⟩ := fro9 hb2
  have HB1 := hide hb1
  have K0 := hide k0
  clear hb0 hb1 hb2 k0
  go_wp2_with fail
  refine set9 (P := fun W => bodyPost _ _ _ _ _ W) HB1.out fun W9 h9 k9 => ?_
  obtain ⟨y0, y1, y2, y3, y4, y5, y6, y7, y8⟩ := at9 h9
  refine bodyPost_ret (v := .tuple #[.agg #[.int .i64 10, .int .i64 0, .slice none 0 0, .slice sh nh ch, .int .u64 0, .int .u64 0, .int .i64 0, .string ⟨#[]⟩, .string ⟨#[]⟩], .bool true]) (by simp [results, Tryd.results28, go_sem, y0, y1, y2, y3, y4, y5, y6, y7, y8]) rfl ?_
  exact ⟨rfl, keeps_out K0.out (show w.heap.size ≤ w.heap.size + 1 by omega) k9⟩
set_option maxRecDepth 100000 in
set_option maxHeartbeats 4000000 in
theorem clean_11 (h n : Int) (u v : Nat) (key elem : ByteArray) (sf sh : Option Addr) (nf cf nh ch : Nat) (w : World) : Calls Tryd.prog 28 #[.agg #[.int .i64 11, .int .i64 h, .slice sf nf cf, .slice sh nh ch, .int .u64 (u : Int), .int .u64 (v : Int), .int .i64 n, .string key, .string elem]] w fun e w' => ClP w #[.int .i64 11, .int .i64 0, .slice none 0 0, .slice none 0 0, .int .u64 0, .int .u64 0, .int .i64 0, .string ⟨#[]⟩, .string ⟨#[]⟩] true e w' := by
  go_enter Tryd.func28, Tryd.ntmps28
  go_upto_region 2 with fail
  refine alloc3r (P := fun W => Code.wp _ _ _ _ W) fun W0 hb0 hb1 hb2 k0 => ?_
  obtain ⟨c0, c1, c2, c3, c4, c5, c6, c7, c8⟩ := at9 hb0
  obtain ⟨e0, e1, e2, e3, e4, e5, e6, e7, e8⟩ := at9 hb1
  obtain ⟨f0, f1, f2, f3, f4, f5, f6, f7, f8⟩ := fro9 hb1
  obtain ⟨d0, d1, d2, d3, d4, d5, d6, d7, d8⟩ := at9 hb2
  obtain ⟨g0, g1, g2, g3, g4, g5, g6, g7, g8⟩ := fro9 hb2
  have HB1 := hide hb1
  have K0 := hide k0
  clear hb0 hb1 hb2 k0
  go_wp2_with fail
  refine set9 (P := fun W => bodyPost _ _ _ _ _ W) HB1.out fun W9 h9 k9 => ?_
  obtain ⟨y0, y1, y2, y3, y4, y5, y6, y7, y8⟩ := at9 h9
  refine bodyPost_ret (v := .tuple #[.agg #[.int .i64 11, .int .i64 0, .slice none 0 0, .slice none 0 0, .int .u64 0, .int .u64 0, .int .i64 0, .string ⟨#[]⟩, .string ⟨#[]⟩], .bool true]) (by simp [results, Tryd.results28, go_sem, y0, y1, y2, y3, y4, y5, y6, y7, y8]) rfl ?_
  exact ⟨rfl, keeps_out K0.out (show w.heap.size ≤ w.heap.size + 1 by omega) k9⟩
set_option maxRecDepth 100000 in
set_option maxHeartbeats 4000000 in
theorem clean_12 (h n : Int) (u v : Nat) (key elem : ByteArray) (sf sh : Option Addr) (nf cf nh ch : Nat) (w : World) : Calls Tryd.prog 28 #[.agg #[.int .i64 12, .int .i64 h, .slice sf nf cf, .slice sh nh ch, .int .u64 (u : Int), .int .u64 (v : Int), .int .i64 n, .string key, .string elem]] w fun e w' => ClP w #[.int .i64 12, .int .i64 h, .slice none 0 0, .slice none 0 0, .int .u64 0, .int .u64 0, .int .i64 0, .string key, .string ⟨#[]⟩] true e w' := by
  go_enter Tryd.func28, Tryd.ntmps28
  go_upto_region 2 with fail
  refine alloc3r (P := fun W => Code.wp _ _ _ _ W) fun W0 hb0 hb1 hb2 k0 => ?_
  obtain ⟨c0, c1, c2, c3, c4, c5, c6, c7, c8⟩ := at9 hb0
  obtain ⟨d0, d1, d2, d3, d4, d5, d6, d7, d8⟩ := at9 hb2
  obtain ⟨g0, g1, g2, g3, g4, g5, g6, g7, g8⟩ := fro9 hb2
  have HB0 := hide hb0
  have HB1 := hide hb1
  have HB2 := hide hb2
  have K0 := hide k0
  clear hb0 hb1 hb2 k0
  go_upto_region 28 with fail
  refine set1r (P := fun W => Code.wp _ _ _ _ W) HB2.out fun W1 h1 k1 => ?_
  clear c0 c1 c2 c3 c4 c5 c6 c7 c8 d0 d1 d2 d3 d4 d5 d6 d7 d8 g0 g1 g2 g3 g4 g5 g6 g7 g8
  have hb0 := (k1.block w.heap.size (heap_lt HB0.out) (by omega)).trans HB0.out
  have hb1 := (k1.block (w.heap.size + 1) (heap_lt HB1.out) (by omega)).trans HB1.out
  have hb2 : W1.heap[w.heap.size + 1 + 1]? = some (.cells #[.int .i64 12, .int .i64 h, .slice none 0 0, .slice none 0 0, .int .u64 0, .int .u64 0, .int .i64 0, .string key, .string ⟨#[]⟩] 33) := h1
  have k0 := keeps_out K0.out (show w.heap.size ≤ w.heap.size + 1 + 1 by omega) k1
  clear HB0 HB1 HB2 K0 k1 h1
  obtain ⟨c0, c1, c2, c3, c4, c5, c6, c7, c8⟩ := at9 hb0
  obtain ⟨e0, e1, e2, e3, e4, e5, e6, e7, e8⟩ := at9 hb1
  obtain ⟨f0, f1, f2, f3, f4, f5, f6, f7, f8⟩ := fro9 hb1
  obtain ⟨d0, d1, d2, d3, d4, d5, d6, d7, d8⟩ := at9 hb2
  obtain ⟨g0, g1, g2, g3, g4, g5, g6, g7, g8⟩ := fro9 hb2
  have HB1 := hide hb1
  have K0 := hide k0
  clear hb0 hb1 hb2 k0
  go_wp2_with fail
  refine set9 (P := fun W => bodyPost _ _ _ _ _ W) HB1.out fun W9 h9 k9 => ?_
  obtain ⟨y0, y1, y2, y3, y4, y5, y6, y7, y8⟩ := at9 h9
  refine bodyPost_ret (v := .tuple #[.agg #[.int .i64 12, .int .i64 h, .slice none 0 0, .slice none 0 0, .int .u64 0, .int .u64 0, .int .i64 0, .string key, .string ⟨#[]⟩], .bool true]) (by simp [results, Tryd.results28, go_sem, y0, y1, y2, y3, y4, y5, y6, y7, y8]) rfl ?_
  exact ⟨rfl, keeps_out K0.out (show w.heap.size ≤ w.heap.size + 1 by omega) k9⟩
set_option maxRecDepth 100000 in
set_option maxHeartbeats 4000000 in
theorem clean_13 (h n : Int) (u v : Nat) (key elem : ByteArray) (sf sh : Option Addr) (nf cf nh ch : Nat) (w : World) : Calls Tryd.prog 28 #[.agg #[.int .i64 13, .int .i64 h, .slice sf nf cf, .slice sh nh ch, .int .u64 (u : Int), .int .u64 (v : Int), .int .i64 n, .string key, .string elem]] w fun e w' => ClP w #[.int .i64 13, .int .i64 h, .slice none 0 0, .slice none 0 0, .int .u64 0, .int .u64 0, .int .i64 0, .string ⟨#[]⟩, .string ⟨#[]⟩] true e w' := by
  go_enter Tryd.func28, Tryd.ntmps28
  go_upto_region 2 with fail
  refine alloc3r (P := fun W => Code.wp _ _ _ _ W) fun W0 hb0 hb1 hb2 k0 => ?_
  obtain ⟨c0, c1, c2, c3, c4, c5, c6, c7, c8⟩ := at9 hb0
  obtain ⟨e0, e1, e2, e3, e4, e5, e6, e7, e8⟩ := at9 hb1
  obtain ⟨f0, f1, f2, f3, f4, f5, f6, f7, f8⟩ := fro9 hb1
  obtain ⟨d0, d1, d2, d3, d4, d5, d6, d7, d8⟩ := at9 hb2
  obtain ⟨g0, g1, g2, g3, g4, g5, g6, g7, g8⟩ := fro9 hb2
  have HB1 := hide hb1
  have K0 := hide k0
  clear hb0 hb1 hb2 k0
  go_wp2_with fail
  refine set9 (P := fun W => bodyPost _ _ _ _ _ W) HB1.out fun W9 h9 k9 => ?_
  obtain ⟨y0, y1, y2, y3, y4, y5, y6, y7, y8⟩ := at9 h9
  refine bodyPost_ret (v := .tuple #[.agg #[.int .i64 13, .int .i64 h, .slice none 0 0, .slice none 0 0, .int .u64 0, .int .u64 0, .int .i64 0, .string ⟨#[]⟩, .string ⟨#[]⟩], .bool true]) (by simp [results, Tryd.results28, go_sem, y0, y1, y2, y3, y4, y5, y6, y7, y8]) rfl ?_
  exact ⟨rfl, keeps_out K0.out (show w.heap.size ≤ w.heap.size + 1 by omega) k9⟩
set_option maxRecDepth 100000 in
set_option maxHeartbeats 4000000 in
theorem clean_14 (h n : Int) (u v : Nat) (key elem : ByteArray) (sf sh : Option Addr) (nf cf nh ch : Nat) (w : World) : Calls Tryd.prog 28 #[.agg #[.int .i64 14, .int .i64 h, .slice sf nf cf, .slice sh nh ch, .int .u64 (u : Int), .int .u64 (v : Int), .int .i64 n, .string key, .string elem]] w fun e w' => ClP w #[.int .i64 14, .int .i64 0, .slice none 0 0, .slice none 0 0, .int .u64 0, .int .u64 0, .int .i64 0, .string ⟨#[]⟩, .string ⟨#[]⟩] true e w' := by
  go_enter Tryd.func28, Tryd.ntmps28
  go_upto_region 2 with fail
  refine alloc3r (P := fun W => Code.wp _ _ _ _ W) fun W0 hb0 hb1 hb2 k0 => ?_
  obtain ⟨c0, c1, c2, c3, c4, c5, c6, c7, c8⟩ := at9 hb0
  obtain ⟨e0, e1, e2, e3, e4, e5, e6, e7, e8⟩ := at9 hb1
  obtain ⟨f0, f1, f2, f3, f4, f5, f6, f7, f8⟩ := fro9 hb1
  obtain ⟨d0, d1, d2, d3, d4, d5, d6, d7, d8⟩ := at9 hb2
  obtain ⟨g0, g1, g2, g3, g4, g5, g6, g7, g8⟩ := fro9 hb2
  have HB1 := hide hb1
  have K0 := hide k0
  clear hb0 hb1 hb2 k0
  go_wp2_with fail
  refine set9 (P := fun W => bodyPost _ _ _ _ _ W) HB1.out fun W9 h9 k9 => ?_
  obtain ⟨y0, y1, y2, y3, y4, y5, y6, y7, y8⟩ := at9 h9
  refine bodyPost_ret (v := .tuple #[.agg #[.int .i64 14, .int .i64 0, .slice none 0 0, .slice none 0 0, .int .u64 0, .int .u64 0, .int .i64 0, .string ⟨#[]⟩, .string ⟨#[]⟩], .bool true]) (by simp [results, Tryd.results28, go_sem, y0, y1, y2, y3, y4, y5, y6, y7, y8]) rfl ?_
  exact ⟨rfl, keeps_out K0.out (show w.heap.size ≤ w.heap.size + 1 by omega) k9⟩
set_option maxRecDepth 100000 in
set_option maxHeartbeats 4000000 in
theorem clean_no (op h n : Int) (u v : Nat) (key elem : ByteArray) (sf sh : Option Addr) (nf cf nh ch : Nat) (w : World) (hno : ¬ (1 ≤ op ∧ op ≤ 14)) : Calls Tryd.prog 28 #[.agg #[.int .i64 op, .int .i64 h, .slice sf nf cf, .slice sh nh ch, .int .u64 (u : Int), .int .u64 (v : Int), .int .i64 n, .string key, .string elem]] w fun e w' => ClP w #[.int .i64 op, .int .i64 h, .slice none 0 0, .slice none 0 0, .int .u64 0, .int .u64 0, .int .i64 0, .string ⟨#[]⟩, .string ⟨#[]⟩] false e w' := by
  have x1 : (op == 1) = false := by rw [beq_eq_false_iff_ne]; omega
  have x2 : (op == 2) = false := by rw [beq_eq_false_iff_ne]; omega
  have x3 : (op == 3) = false := by rw [beq_eq_false_iff_ne]; omega
  have x4 : (op == 4) = false := by rw [beq_eq_false_iff_ne]; omega
  have x5 : (op == 5) = false := by rw [beq_eq_false_iff_ne]; omega
  have x6 : (op == 6) = false := by rw [beq_eq_false_iff_ne]; omega
  have x7 : (op == 7) = false := by rw [beq_eq_false_iff_ne]; omega
  have x8 : (op == 8) = false := by rw [beq_eq_false_iff_ne]; omega
  have x9 : (op == 9) = false := by rw [beq_eq_false_iff_ne]; omega
  have x10 : (op == 10) = false := by rw [beq_eq_false_iff_ne]; omega
  have x11 : (op == 11) = false := by rw [beq_eq_false_iff_ne]; omega
  have x12 : (op == 12) = false := by rw [beq_eq_false_iff_ne]; omega
  have x13 : (op == 13) = false := by rw [beq_eq_false_iff_ne]; omega
  have x14 : (op == 14) = false := by rw [beq_eq_false_iff_ne]; omega
  clear hno
  go_enter Tryd.func28, Tryd.ntmps28
  go_upto_region 2 with fail
  refine alloc3r (P := fun W => Code.wp _ _ _ _ W) fun W0 hb0 hb1 hb2 k0 => ?_
  obtain ⟨c0, c1, c2, c3, c4, c5, c6, c7, c8⟩ := at9 hb0
  obtain ⟨e0, e1, e2, e3, e4, e5, e6, e7, e8⟩ := at9 hb1
  obtain ⟨f0, f1, f2, f3, f4, f5, f6, f7, f8⟩ := fro9 hb1
  obtain ⟨d0, d1, d2, d3, d4, d5, d6, d7, d8⟩ := at9 hb2
  obtain ⟨g0, g1, g2, g3, g4, g5, g6, g7, g8⟩ := fro9 hb2
  have HB1 := hide hb1
  have K0 := hide k0
  clear hb0 hb1 hb2 k0
  go_wp2_with fail
  refine set9 (P := fun W => bodyPost _ _ _ _ _ W) HB1.out fun W9 h9 k9 => ?_
  obtain ⟨y0, y1, y2, y3, y4, y5, y6, y7, y8⟩ := at9 h9
  refine bodyPost_ret (v := .tuple #[.agg #[.int .i64 op, .int .i64 h, .slice none 0 0, .slice none 0 0, .int .u64 0, .int .u64 0, .int .i64 0, .string ⟨#[]⟩, .string ⟨#[]⟩], .bool false]) (by simp [results, Tryd.results28, go_sem, y0, y1, y2, y3, y4, y5, y6, y7, y8]) rfl ?_
  exact ⟨rfl, keeps_out K0.out (show w.heap.size ≤ w.heap.size + 1 by omega) k9⟩
end Go.Proofs.YtfpiibccggjjpaaDoor
/-
  script: Print.
-/
namespace Go.Proofs.YtfpiibccggjjpaaDoor
open Go.RowKit
set_option linter.unusedVariables false

theorem alloc2 {w : World} {o1 o2 : Obj} {P : World → Prop} (h : ∀ W0, W0.heap[w.heap.size]? = some o1 → W0.heap[w.heap.size + 1]? = some o2 → Keeps w W0 (fun _ => False) → P W0) : P ((w.alloc o1).alloc o2) := by
  have k1 : Keeps (w.alloc o1) ((w.alloc o1).alloc o2) (fun _ => False) := (Keeps.refl _ _).alloc _
  have e1 := heap_alloc_new (w.alloc o1) o2
  simp only [World.size_alloc] at e1
  exact h _ (k1.blk8 (heap_alloc_new w o1)) e1 (((Keeps.refl _ _).alloc _).alloc _)
theorem three_cells {W : World} {q : Nat} {a b c : Value} {t : TypeId} (h : W.heap[q]? = some (.cells #[a, b, c] t)) : W.cell? ⟨q, 0, none⟩ = some a ∧ W.cell? ⟨q, 1, none⟩ = some b ∧ W.cell? ⟨q, 2, none⟩ = some c := by
  simp [World.cell?, h]
theorem below_blk {w w' : World} {B b : Nat} (k : Below B w w') (hb : b < B) {o : Obj} (h : w.heap[b]? = some o) : w'.heap[b]? = some o := (k.block b hb).trans h
theorem strL (x : List UInt8) : (strOf x).size = x.length := strOf_size x
theorem ovs_few (os : List Ovr) : os.length ≤ costO os := by
  unfold costO
  induction os with
  | nil => simp
  | cons a t ih => rw [List.map_cons, List.sum_cons, List.length_cons]; omega
theorem cms_few (cs : List CmdD) : cs.length ≤ costs cs := by
  unfold costs
  induction cs with
  | nil => simp
  | cons a t ih =>
    have : 1 ≤ costC a := by unfold costC; omega
    rw [List.map_cons, List.sum_cons, List.length_cons]
    omega
theorem IntsIn.slice {w : World} {v : Value} {l : List Int} (h : IntsIn w v l) : ∃ so n c, v = .slice so n c := by
  rcases h.form with ⟨rfl, rfl⟩ | ⟨a, c, e, -⟩
  · exact ⟨none, 0, 0, rfl⟩
  · exact ⟨some a, _, c, e⟩
/-- What stands in each round of Print. -/
structure PrS (w : World) (vo vc : Value) (n : Int) (l : List UInt8) (W : World) : Prop where
  box : W.heap[w.heap.size]? = some (.cells #[.int .i64 n, vo, vc] 25)
  bld : Lib.IsBuilder 56 5 (w.heap.size + 1) (w.heap.size + 1) (Lib.byteCells l) W
  keeps : Keeps w W (fun _ => False)
theorem PrS.stay {w W W' : World} {vo vc : Value} {n : Int} {l : List UInt8} (h : PrS w vo vc n l W) (k : Keeps W W' (fun _ => False)) : PrS w vo vc n l W' := ⟨k.blk8 h.box, bld_keeps h.bld k, h.keeps.trans k (fun _ _ e => e)⟩
theorem PrS.write {w W : World} {vo vc : Value} {n : Int} {l : List UInt8} (h : PrS w vo vc n l W) (x : List UInt8) (hl : l.length + x.length ≤ 140737488355328) :
    Calls Tryd.prog 24 #[.pointer (some ⟨w.heap.size + 1, 0, none⟩), .string (strOf x)] W fun e w' => e = .returned (.tuple #[.int .i64 (strOf x).size, .nilIface]) ∧ PrS w vo vc n (l ++ x) w' := by
  have hlt := heap_lt h.box
  refine (bld_write _ _ l (strOf x) W h.bld (by rw [strOf_size]; exact hl) (by omega)).mono ?_
  rintro e w' ⟨h1, h2, h3⟩
  rw [strOf_data] at h2
  exact ⟨h1, below_blk h3 (by omega) h.box, h2, keeps_under h.keeps h3 (by omega)⟩
set_option maxRecDepth 100000 in
set_option maxHeartbeats 4000000 in
theorem print_any (n : Int) (vo vc : Value) (os : List Ovr) (L : List CmV) (w : World) (hn : -9223372036854775808 ≤ n ∧ n ≤ 9223372036854775807) (ho : OvIn w vo os) (hc : CmIn w vc L) (hcost : costO os + costs (L.map (·.c)) ≤ 4194304) (ht : TabW w) (hD : Deb w) (hR : RowsF w) :
    Calls Tryd.prog 13 #[.agg #[.int .i64 n, vo, vc]] w fun e w' => e = .returned (.string (strOf (textD n os (L.map (·.c))))) ∧ Keeps w w' (fun _ => False) := by
  have HLim := hide (fun W (k : Keeps w W (fun _ => False)) => line_lim n hn W (ht.keeps k) (hD.keeps k) (hR.keeps k))
  have HOv := hide (fun W (k : Keeps w W (fun _ => False)) i (hi : i < os.length) => line_ov os[i] (ho.ok _ (List.getElem_mem hi)).1 (ho.ok _ (List.getElem_mem hi)).2 W (ht.keeps k) (hD.keeps k) (hR.keeps k))
  have HCm := hide (fun W (k : Keeps w W (fun _ => False)) i (hi : i < L.length) => line_cmd L[i].c L[i].fs L[i].hs W ((hc.ok _ (List.getElem_mem hi)).keeps k) (ht.keeps k) (hD.keeps k) (hR.keeps k))
  have l1 := limT_len hn
  have l2 := ovs_len ho.ok
  have l3 := cms_len hc.ok
  have HL := hide (And.intro l1 (And.intro l2 (And.intro l3 hcost)))
  obtain ⟨so, co, rfl⟩ := ho.row.form
  obtain ⟨sc, cc, rfl⟩ := hc.row.form
  have HO := hide ho
  have HC := hide hc
  obtain ⟨T, hT⟩ : ∃ T, strOf (textD n os (L.map (·.c))) = T := ⟨_, rfl⟩
  rw [hT]
  have HTT := hide hT
  clear ho hc ht hD hR l1 l2 l3 hcost hn hT
  go_enter Tryd.func13, Tryd.ntmps13
  go_upto_region 2 with fail
  refine alloc2 (P := fun W => Code.wp _ _ _ _ W) fun W0 hb0 hb1 k0 => ?_
  obtain ⟨c0, c1, c2⟩ := three_cells hb0
  have HP0 : Hid (PrS w (.slice so os.length co) (.slice sc L.length cc) n [] W0) := ⟨hb0, Or.inl ⟨Nat.le_refl _, _, hb1, ⟨rfl, Or.inl ⟨rfl, rfl⟩⟩, by simp [Value.ownBlock]⟩, k0⟩
  clear hb0 hb1 k0
  have hcall : Calls Tryd.prog 25 #[.int .i64 1, .agg #[.int .i64 0, .int .i64 0, .slice none 0 0, .slice none 0 0, .int .u64 0, .int .u64 0, .int .i64 n, .string ⟨#[]⟩, .string ⟨#[]⟩]] W0 fun e w' => e = .returned (.string (strOf (limT n))) ∧ Keeps W0 w' (fun _ => False) := HLim.out W0 HP0.out.keeps
  go_wp2_with fail
  (with_reducible refine hcall.mono ?_)
  rintro e w1 ⟨rfl, k1⟩
  clear hcall HLim c0 c1 c2
  have HP1 := hide (HP0.out.stay k1)
  have hcall := HP1.out.write (limT n) (by have := HL.out.1; simp; omega)
  clear k1 HP0
  go_wp2_with fail
  (with_reducible refine hcall.mono ?_)
  rintro e w2 ⟨rfl, p2⟩
  clear hcall HP1
  rw [List.nil_append] at p2
  obtain ⟨c0, c1, c2⟩ := three_cells p2.box
  have HP2 := hide p2
  clear p2
  go_wp2_with fail
  clear c0 c1 c2
  go_loopw [16] (fun v16 wr => ∃ i : Nat, v16 = .int .i64 (i : Int) ∧ i ≤ os.length ∧ PrS w (.slice so os.length co) (.slice sc L.length cc) n (limT n ++ (os.take i).flatMap ovT) wr) (fun v16 _ => os.length - (intOf v16).toNat)
  case atStart => exact ⟨0, rfl, Nat.zero_le _, by simpa using HP2.out⟩
  case round =>
    obtain ⟨i, rfl, hi, hp⟩ := hrel
    by_cases hlt : i < os.length
    · have hlt' : (i : Int) < (os.length : Int) := by omega
      obtain ⟨b, o, rfl, q1, q2⟩ := (HO.out.keeps hp.keeps).at hlt
      have HCall := hide (fun W (k : Keeps w W (fun _ => False)) => HOv.out W k i hlt)
      have HT := hide (flat_take (f := ovT) hlt)
      have HLe := hide (flat_le ovT os (i + 1))
      obtain ⟨x, hx⟩ : ∃ x, os[i] = x := ⟨_, rfl⟩
      rw [hx] at q1 q2 HCall HT
      obtain ⟨ky, hu⟩ := x
      have HP := hide hp
      have Hms : Hid (os.length - (i + 1) < os.length - i) := by show os.length - (i + 1) < os.length - i; omega
      have Hi : Hid (i + 1 ≤ os.length) := hlt
      have hfew : os.length ≤ 4194304 := by
        have := HL.out.2.2.2
        have := ovs_few os
        omega
      obtain ⟨a6, a7⟩ := wr64s (n := i) (by omega)
      clear hp hfew hi
      have hcall : Calls Tryd.prog 25 #[.int .i64 2, .agg #[.int .i64 0, .int .i64 0, .slice none 0 0, .slice none 0 0, .int .u64 (hu : Int), .int .u64 0, .int .i64 0, .string ky, .string ⟨#[]⟩]] (wr.alloc (.cells #[.string ky, .int .u64 (hu : Int)] 49)) fun e w' => e = .returned (.string (strOf (ovT (ky, hu)))) ∧ Keeps (wr.alloc (.cells #[.string ky, .int .u64 (hu : Int)] 49)) w' (fun _ => False) := HCall.out _ (HP.out.keeps.alloc _)
      clear HCall
      go_wp2_with fail
      (with_reducible refine hcall.mono ?_)
      rintro e w3 ⟨rfl, k3⟩
      clear hcall q1 q2
      have HP3 := hide ((HP.out.stay ((Keeps.refl _ _).alloc _)).stay k3)
      clear k3 HP
      have hcall := HP3.out.write (ovT (ky, hu)) (by
        have a := HLe.out
        rw [HT.out] at a
        obtain ⟨b1, b2, b3, b4⟩ := HL.out
        rw [List.length_append] at a ⊢
        omega)
      clear HLe
      go_wp2_with fail
      (with_reducible refine hcall.mono ?_)
      rintro e w4 ⟨rfl, p4⟩
      clear hcall HP3
      rw [List.append_assoc, ← HT.out] at p4
      have HP4 := hide p4
      clear p4 HT
      go_wp2_with fail
      refine ⟨⟨i + 1, by go_num, Hi.out, HP4.out⟩, ?_⟩
      simp [intOf]
      exact Hms.out
    · obtain rfl : i = os.length := by omega
      have hlt' : ¬ (os.length : Int) < (os.length : Int) := by omega
      rw [List.take_of_length_le (Nat.le_refl _)] at hp
      obtain ⟨c0, c1, c2⟩ := three_cells hp.box
      have HP5 := hide hp
      clear hp HP2 HOv HO
      go_wp2_with fail
      clear c0 c1 c2
      go_loopw [31] (fun v31 wr => ∃ i : Nat, v31 = .int .i64 (i : Int) ∧ i ≤ L.length ∧ PrS w (.slice so os.length co) (.slice sc L.length cc) n (limT n ++ os.flatMap ovT ++ ((L.take i).map (·.c)).flatMap cmdT) wr) (fun v31 _ => L.length - (intOf v31).toNat)
      case atStart => exact ⟨0, rfl, Nat.zero_le _, by simpa using HP5.out⟩
      case round =>
        obtain ⟨i, rfl, hi, hp⟩ := hrel
        by_cases hlt : i < L.length
        · have hlt'' : (i : Int) < (L.length : Int) := by omega
          obtain ⟨b, o, rfl, hcl⟩ := (HC.out.keeps hp.keeps).at hlt
          have HCall := hide (fun W (k : Keeps w W (fun _ => False)) => HCm.out W k i hlt)
          have HT : Hid (((L.take (i + 1)).map (·.c)).flatMap cmdT = ((L.take i).map (·.c)).flatMap cmdT ++ cmdT L[i].c) := by
            show ((L.take (i + 1)).map (·.c)).flatMap cmdT = ((L.take i).map (·.c)).flatMap cmdT ++ cmdT L[i].c
            rw [List.take_succ_eq_append_getElem hlt, List.map_append, List.flatMap_append]
            simp
          have HLe : Hid ((((L.take (i + 1)).map (·.c)).flatMap cmdT).length ≤ ((L.map (·.c)).flatMap cmdT).length) := by
            have := flat_le cmdT (L.map (·.c)) (i + 1)
            rw [← List.map_take] at this
            exact this
          have hci := HC.out.ok _ (List.getElem_mem hlt)
          obtain ⟨x, hx⟩ : ∃ x, L[i] = x := ⟨_, rfl⟩
          rw [hx] at hcl HCall HT hci
          obtain ⟨sf, nf, cf, ef⟩ := hci.f.slice
          obtain ⟨sh, nh, ch, eh⟩ := hci.s.slice
          clear hci
          obtain ⟨cd, fs, hs⟩ := x
          dsimp only at ef eh
          subst ef eh
          have q0 := hcl 0 _ rfl
          have q1 := hcl 1 _ rfl
          have q2 := hcl 2 _ rfl
          have q3 := hcl 3 _ rfl
          have q4 := hcl 4 _ rfl
          have q5 := hcl 5 _ rfl
          have q6 := hcl 6 _ rfl
          have q7 := hcl 7 _ rfl
          have q8 := hcl 8 _ rfl
          rw [Nat.add_zero] at q0
          have HP := hide hp
          have Hms : Hid (L.length - (i + 1) < L.length - i) := by show L.length - (i + 1) < L.length - i; omega
          have Hi : Hid (i + 1 ≤ L.length) := hlt
          have hfew : L.length ≤ 4194304 := by
            have := HL.out.2.2.2
            have := cms_few (L.map (·.c))
            rw [List.length_map] at this
            omega
          obtain ⟨a6, a7⟩ := wr64s (n := i) (by omega)
          clear hp hfew hi hcl
          dsimp only at q0 q1 q2 q3 q4 q5 q6 q7 q8 HT HCall
          obtain ⟨op, hh, u, v, nn, key, elem, fl, hl⟩ := cd
          dsimp only at q0 q1 q2 q3 q4 q5 q6 q7 q8
          obtain ⟨C, hC⟩ : ∃ C : CmdD, (⟨op, hh, u, v, nn, key, elem, fl, hl⟩ : CmdD) = C := ⟨_, rfl⟩
          have hv : C.vals (.slice sf nf cf) (.slice sh nh ch) = #[.int .i64 op, .int .i64 hh, .slice sf nf cf, .slice sh nh ch, .int .u64 (u : Int), .int .u64 (v : Int), .int .i64 nn, .string key, .string elem] := by rw [← hC]; rfl
          rw [hC] at HT HCall
          clear hC hx
          have hcall := HCall.out _ (HP.out.keeps.alloc (.cells #[.int .i64 op, .int .i64 hh, .slice sf nf cf, .slice sh nh ch, .int .u64 (u : Int), .int .u64 (v : Int), .int .i64 nn, .string key, .string elem] 33))
          rw [hv] at hcall
          clear HCall hv
          go_wp2_with fail
          (with_reducible refine hcall.mono ?_)
          rintro e w3 ⟨rfl, k3⟩
          clear hcall q0 q1 q2 q3 q4 q5 q6 q7 q8
          have HP3 := hide ((HP.out.stay ((Keeps.refl _ _).alloc _)).stay k3)
          clear k3 HP
          have hcall := HP3.out.write (cmdT C) (by
            have a := HLe.out
            rw [HT.out] at a
            obtain ⟨b1, b2, b3, b4⟩ := HL.out
            rw [List.length_append] at a
            rw [List.length_append, List.length_append]
            omega)
          clear HLe
          go_wp2_with fail
          (with_reducible refine hcall.mono ?_)
          rintro e w4 ⟨rfl, p4⟩
          clear hcall HP3
          rw [List.append_assoc, ← HT.out] at p4
          have HP4 := hide p4
          clear p4 HT
          go_wp2_with fail
          refine ⟨⟨i + 1, by go_num, Hi.out, HP4.out⟩, ?_⟩
          simp [intOf]
          exact Hms.out
        · obtain rfl : i = L.length := by omega
          have hlt'' : ¬ (L.length : Int) < (L.length : Int) := by omega
          rw [List.take_of_length_le (Nat.le_refl _)] at hp
          have hcall := bld_string _ _ _ wr hp.bld (by have := heap_lt hp.box; omega)
          have eT : (⟨(limT n ++ os.flatMap ovT ++ (L.map (·.c)).flatMap cmdT).toArray⟩ : ByteArray) = T := HTT.out
          rw [eT] at hcall
          clear eT
          have HP6 := hide hp
          clear hp
          go_wp2_with fail
          (with_reducible refine hcall.mono ?_)
          rintro e w4 ⟨rfl, b4⟩
          have HK4 := hide (keeps_under HP6.out.keeps b4 (by omega))
          clear hcall b4
          go_wp2_with fail
          go_ret
          exact ⟨rfl, HK4.out⟩
end Go.Proofs.YtfpiibccggjjpaaDoor
/-
  script: the law's cleaned.
-/
namespace Go.Proofs.YtfpiibccggjjpaaDoor
open Go.RowKit
set_option linter.unusedVariables false

def tellF (c : CmdD) (fv : Value) : Value := if c.op = 1 then fv else .slice none 0 0
def tellH (c : CmdD) (hv : Value) : Value := if c.op = 10 then hv else .slice none 0 0
theorem clean_yes (c : CmdD) (sf sh : Option Addr) (nf cf nh ch : Nat) (w : World) (hop : 1 ≤ c.op ∧ c.op ≤ 14) : Calls Tryd.prog 28 #[.agg (c.vals (.slice sf nf cf) (.slice sh nh ch))] w fun e w' => ClP w ((tellI (c.op.toNat + 1) c).vals (tellF c (.slice sf nf cf)) (tellH c (.slice sh nh ch))) true e w' := by
  obtain ⟨op, h, u, v, n, key, elem, fl, hl⟩ := c
  have hc : op = 1 ∨ op = 2 ∨ op = 3 ∨ op = 4 ∨ op = 5 ∨ op = 6 ∨ op = 7 ∨ op = 8 ∨ op = 9 ∨ op = 10 ∨ op = 11 ∨ op = 12 ∨ op = 13 ∨ op = 14 := by
    dsimp only at hop
    omega
  rcases hc with rfl | rfl | rfl | rfl | rfl | rfl | rfl | rfl | rfl | rfl | rfl | rfl | rfl | rfl
  · exact clean_1 h n u v key elem sf sh nf cf nh ch w
  · exact clean_2 h n u v key elem sf sh nf cf nh ch w
  · exact clean_3 h n u v key elem sf sh nf cf nh ch w
  · exact clean_4 h n u v key elem sf sh nf cf nh ch w
  · exact clean_5 h n u v key elem sf sh nf cf nh ch w
  · exact clean_6 h n u v key elem sf sh nf cf nh ch w
  · exact clean_7 h n u v key elem sf sh nf cf nh ch w
  · exact clean_8 h n u v key elem sf sh nf cf nh ch w
  · exact clean_9 h n u v key elem sf sh nf cf nh ch w
  · exact clean_10 h n u v key elem sf sh nf cf nh ch w
  · exact clean_11 h n u v key elem sf sh nf cf nh ch w
  · exact clean_12 h n u v key elem sf sh nf cf nh ch w
  · exact clean_13 h n u v key elem sf sh nf cf nh ch w
  · exact clean_14 h n u v key elem sf sh nf cf nh ch w
/-- What is told of a command is as well laid as the command. -/
theorem tell_in {w : World} {c : CmdD} {fv hv : Value} (h : CmdIn w c fv hv) (hop : 1 ≤ c.op ∧ c.op ≤ 14) : CmdIn w (tellI (c.op.toNat + 1) c) (tellF c fv) (tellH c hv) := by
  have hh := h.h
  have hn := h.n
  have hu := h.u
  have hv2 := h.v
  have hk := h.key
  have he := h.elem
  have hf := h.f
  have hs := h.s
  have lf := h.lf
  have ls := h.ls
  obtain ⟨op, h0, u, v, n, key, elem, fl, hl⟩ := c
  have e0 : (⟨#[]⟩ : ByteArray).size ≤ 8388608 := Nat.zero_le _
  have z0 : -9223372036854775808 ≤ (0 : Int) ∧ (0 : Int) ≤ 9223372036854775807 := by decide
  have zu : 0 < 18446744073709551616 := by decide
  have zl : ([] : List Int).length ≤ 8388608 := Nat.zero_le _
  have hc : op = 1 ∨ op = 2 ∨ op = 3 ∨ op = 4 ∨ op = 5 ∨ op = 6 ∨ op = 7 ∨ op = 8 ∨ op = 9 ∨ op = 10 ∨ op = 11 ∨ op = 12 ∨ op = 13 ∨ op = 14 := by
    dsimp only at hop
    omega
  rcases hc with rfl | rfl | rfl | rfl | rfl | rfl | rfl | rfl | rfl | rfl | rfl | rfl | rfl | rfl
  · exact ⟨hf, none_ints w, lf, zl, z0, hn, hu, zu, e0, e0⟩
  · exact ⟨none_ints w, none_ints w, zl, zl, hh, z0, zu, zu, hk, e0⟩
  · exact ⟨none_ints w, none_ints w, zl, zl, hh, z0, zu, zu, hk, he⟩
  · exact ⟨none_ints w, none_ints w, zl, zl, hh, z0, zu, zu, hk, e0⟩
  · exact ⟨none_ints w, none_ints w, zl, zl, hh, z0, zu, zu, e0, e0⟩
  · exact ⟨none_ints w, none_ints w, zl, zl, hh, z0, hu, zu, e0, e0⟩
  · exact ⟨none_ints w, none_ints w, zl, zl, hh, z0, zu, zu, e0, e0⟩
  · exact ⟨none_ints w, none_ints w, zl, zl, hh, z0, hu, hv2, e0, e0⟩
  · exact ⟨none_ints w, none_ints w, zl, zl, hh, z0, zu, zu, e0, e0⟩
  · exact ⟨none_ints w, hs, zl, ls, z0, z0, zu, zu, e0, e0⟩
  · exact ⟨none_ints w, none_ints w, zl, zl, z0, z0, zu, zu, e0, e0⟩
  · exact ⟨none_ints w, none_ints w, zl, zl, hh, z0, zu, zu, hk, e0⟩
  · exact ⟨none_ints w, none_ints w, zl, zl, hh, z0, zu, zu, e0, e0⟩
  · exact ⟨none_ints w, none_ints w, zl, zl, z0, z0, zu, zu, e0, e0⟩
theorem tell_cost (c : CmdD) (hop : 1 ≤ c.op ∧ c.op ≤ 14) : costC (tellI (c.op.toNat + 1) c) ≤ costC c := by
  obtain ⟨op, h0, u, v, n, key, elem, fl, hl⟩ := c
  have hc : op = 1 ∨ op = 2 ∨ op = 3 ∨ op = 4 ∨ op = 5 ∨ op = 6 ∨ op = 7 ∨ op = 8 ∨ op = 9 ∨ op = 10 ∨ op = 11 ∨ op = 12 ∨ op = 13 ∨ op = 14 := by
    dsimp only at hop
    omega
  unfold costC
  have e0 : (⟨#[]⟩ : ByteArray).size = 0 := rfl
  rcases hc with rfl | rfl | rfl | rfl | rfl | rfl | rfl | rfl | rfl | rfl | rfl | rfl | rfl | rfl
  · show fl.length + 0 + 0 + 0 + 1 ≤ fl.length + hl.length + key.size + elem.size + 1; omega
  · show 0 + 0 + key.size + 0 + 1 ≤ fl.length + hl.length + key.size + elem.size + 1; omega
  · show 0 + 0 + key.size + elem.size + 1 ≤ fl.length + hl.length + key.size + elem.size + 1; omega
  · show 0 + 0 + key.size + 0 + 1 ≤ fl.length + hl.length + key.size + elem.size + 1; omega
  · show 0 + 0 + 0 + 0 + 1 ≤ fl.length + hl.length + key.size + elem.size + 1; omega
  · show 0 + 0 + 0 + 0 + 1 ≤ fl.length + hl.length + key.size + elem.size + 1; omega
  · show 0 + 0 + 0 + 0 + 1 ≤ fl.length + hl.length + key.size + elem.size + 1; omega
  · show 0 + 0 + 0 + 0 + 1 ≤ fl.length + hl.length + key.size + elem.size + 1; omega
  · show 0 + 0 + 0 + 0 + 1 ≤ fl.length + hl.length + key.size + elem.size + 1; omega
  · show 0 + hl.length + 0 + 0 + 1 ≤ fl.length + hl.length + key.size + elem.size + 1; omega
  · show 0 + 0 + 0 + 0 + 1 ≤ fl.length + hl.length + key.size + elem.size + 1; omega
  · show 0 + 0 + key.size + 0 + 1 ≤ fl.length + hl.length + key.size + elem.size + 1; omega
  · show 0 + 0 + 0 + 0 + 1 ≤ fl.length + hl.length + key.size + elem.size + 1; omega
  · show 0 + 0 + 0 + 0 + 1 ≤ fl.length + hl.length + key.size + elem.size + 1; omega
theorem tells_cost : ∀ cs : List CmdD, costs (cs.filterMap tellC) ≤ costs cs
  | [] => Nat.le_refl _
  | c :: t => by
    have ih := tells_cost t
    unfold costs at ih ⊢
    rw [List.filterMap_cons, List.map_cons, List.sum_cons]
    by_cases hop : 1 ≤ c.op ∧ c.op ≤ 14
    · have e : tellC c = some (tellI (c.op.toNat + 1) c) := by unfold tellC; rw [if_pos hop]
      have := tell_cost c hop
      rw [e]
      simp only [List.map_cons, List.sum_cons]
      omega
    · have e : tellC c = none := by unfold tellC; rw [if_neg hop]
      rw [e]
      simp only
      omega
/-- A cleaning under way. -/
structure ClS (w : World) (n : Int) (vo vc v2 : Value) (L2 : List CmV) (W : World) : Prop where
  box : W.heap[w.heap.size]? = some (.cells #[.int .i64 n, vo, vc] 25)
  res : W.heap[w.heap.size + 1]? = some (.cells z3 25)
  t : W.heap[w.heap.size + 1 + 1]? = some (.cells #[.int .i64 n, vo, v2] 25)
  row : W.ownsRow w.heap.size 33 9 v2 L2.length (cmCells L2)
  keeps : Keeps w W (fun _ => False)
theorem ClS.stay {w W W' : World} {n : Int} {vo vc v2 : Value} {L2 : List CmV} (h : ClS w n vo vc v2 L2 W) (k : Keeps W W' (fun _ => False)) : ClS w n vo vc v2 L2 W' := ⟨k.blk8 h.box, k.blk8 h.res, k.blk8 h.t, ownsRow_keeps h.row k (fun _ _ e => e), h.keeps.trans k (fun _ _ e => e)⟩
theorem ClS.more {w W : World} {n : Int} {vo vc v2 : Value} {L2 : List CmV} (h : ClS w n vo vc v2 L2 W) (hn : L2.length ≤ 4194304) (x : CmV) (s1 s2 : Option Addr) (n1 c1 n2 c2 : Nat) (e1 : x.fs = .slice s1 n1 c1) (e2 : x.hs = .slice s2 n2 c2) :
    ∃ g c W', (∀ ty, (Builtin.append_ #[23, 23] ty #[v2, .slice (some ⟨W.heap.size, 0, none⟩) 1 1]).run Tryd.prog (W.alloc (.cells x.cells.toArray 33)) = .ok (.slice (some ⟨g, 0, none⟩) (L2.length + 1) c) W') ∧ W'.cell? ⟨w.heap.size + 1 + 1, 2, none⟩ = some v2 ∧ W'.frozen? ⟨w.heap.size + 1 + 1, 2, none⟩ = false ∧ ClS w n vo vc (.slice (some ⟨g, 0, none⟩) (L2.length + 1) c) (L2 ++ [x]) (W'.setCell ⟨w.heap.size + 1 + 1, 2, none⟩ (.slice (some ⟨g, 0, none⟩) (L2.length + 1) c)) := by
  have kA : Keeps W (W.alloc (.cells x.cells.toArray 33)) (fun _ => False) := (Keeps.refl _ _).alloc _
  have hA := h.stay kA
  have one : ∀ u ∈ x.cells, u.oneCell' = true := by
    intro u hu
    unfold CmV.cells at hu
    rw [e1, e2] at hu
    simp only [List.mem_cons, List.not_mem_nil, or_false] at hu
    rcases hu with rfl | rfl | rfl | rfl | rfl | rfl | rfl | rfl | rfl <;> rfl
  obtain ⟨g2, c2', W', hr, ho, k⟩ := append_any 23 33 _ 9 120 Tryd.underlying23 Tryd.infoCm rfl (by omega) hA.row (p := W.heap.size) (us := x.cells) (heap_alloc_new W _) rfl one (by omega) (by omega) hA.keeps.size
  have b0 : W'.heap[w.heap.size]? = _ := (k.block _ (heap_lt hA.box) (own_box hA.row hA.box (by decide))).trans hA.box
  have b1 : W'.heap[w.heap.size + 1]? = _ := (k.block _ (heap_lt hA.res) (own_box hA.row hA.res (by decide))).trans hA.res
  have b2 : W'.heap[w.heap.size + 1 + 1]? = _ := (k.block _ (heap_lt hA.t) (own_box hA.row hA.t (by decide))).trans hA.t
  have kB := keepsB (W := W') (B := w.heap.size + 1 + 1) 2 (.slice (some ⟨g2, 0, none⟩) (L2.length + 1) c2')
  have kW : Keeps w W' (fun _ => False) := hA.keeps.trans k (fun q hq e => by
    have := (ownsRow_block hA.row e).1
    omega)
  refine ⟨g2, c2', W', hr, (three_cells9 b2).2.2, froB b2 2, (kB.block _ (heap_lt b0) (by omega)).trans b0, (kB.block _ (heap_lt b1) (by omega)).trans b1, setB b2 2 _, ?_, keeps_out kW (by omega) kB⟩
  have := ownsRow_keeps ho kB (own_ne2 ho b2 (by decide))
  rw [← cmCells_more] at this
  rw [List.length_append]
  exact this
/-- What cleaned answers. -/
def CdP (w : World) (n : Int) (vo : Value) (cs : List CmdD) (e : Ending) (w' : World) : Prop := ∃ v2 L2, e = .returned (.agg #[.int .i64 n, vo, v2]) ∧ CmIn w' v2 L2 ∧ L2.map (·.c) = cs ∧ Keeps w w' (fun _ => False)
theorem own_rowIn {w : World} {base : Nat} {e : TypeId} {size : Nat} {v : Value} {n : Nat} {xs : List Value} (h : w.ownsRow base e size v n xs) : RowIn w v n xs := by
  have h1 := h
  rcases h.2 with ⟨rfl, rfl⟩ | ⟨g, cap, cur, rfl, -, hg, -, -, -, ht⟩
  · exact Or.inl ⟨rfl, rfl⟩
  · refine Or.inr ⟨⟨g, 0, none⟩, cap, rfl, fun j u hu => ?_⟩
    have hj : j < n * size := by
      have := (List.getElem?_eq_some_iff.1 hu).1
      rw [h1.1] at this
      exact this
    rw [addr_add, Nat.zero_add, h1.cellAt j hj]
    exact hu
end Go.Proofs.YtfpiibccggjjpaaDoor
