import Derived.Test.YteokfhccfmeffaaL8
namespace Go.Proofs.Yteokfhccfmeffaa
open Go.RowKit

def WithPost (l : Lay) (x : Int) (w : World) (r : Ending) (w' : World) : Prop :=
  ∃ (m : Lay) (old : Int), r = .returned (.tuple #[.agg #[.int .i64 m.k, .int .i64 m.e, .int .i64 m.a, .int .i64 m.b, .int .i64 m.c, .int .i64 m.eo, .int .i64 m.bo, .int .i64 m.s, .int .i64 m.g], .int .i64 old]) ∧ (¬ old = x → validB l = true → validB m = false) ∧ Kp w w'

theorem turned_invalid {l m : Lay} (h1 : m.k = l.k) (h2 : m.e = l.e) (h3 : m.a = l.a) (h4 : m.b = l.b) (h5 : m.c = l.c) (hne : m ≠ l) (hl : validB l = true) : validB m = false := by
  refine decide_eq_false fun h => hne ?_
  obtain ⟨_, e1⟩ := of_decide_eq_true hl
  obtain ⟨_, e2⟩ := h
  rw [h1, h2, h3, h4, h5] at e2
  exact e2.trans e1.symm

theorem three_alloc {w : World} {o1 o2 o3 : Obj} {P : World → Prop} (h : ∀ W, W.heap[w.heap.size]? = some o1 → W.heap[w.heap.size + 1]? = some o2 → W.heap[w.heap.size + 1 + 1]? = some o3 → Kp w W → P W) : P (((w.alloc o1).alloc o2).alloc o3) := by
  refine h _ (heap_old (heap_old (heap_new _ _) _) _) (heap_old (heap_next _ _ _) _) ?_ ((((Kp.refl w).alloc _).alloc _).alloc _)
  have := heap_new ((w.alloc o1).alloc o2) o3
  simpa using this

set_option maxHeartbeats 4000000 in
theorem with_any (l : Lay) (P x : Int) (w : World) (h0 : 0 ≤ P) (h1 : P < 4) :
    Calls Try.prog 23 #[.agg #[.int .i64 l.k, .int .i64 l.e, .int .i64 l.a, .int .i64 l.b, .int .i64 l.c, .int .i64 l.eo, .int .i64 l.bo, .int .i64 l.s, .int .i64 l.g], .int .i64 P, .int .i64 x] w
      fun r w' => WithPost l x w r w' := by
  have : P = 0 ∨ P = 1 ∨ P = 2 ∨ P = 3 := by omega
  rcases this with rfl | rfl | rfl | rfl
  · go_enter Try.func23, Try.ntmps23
    go_wp2_with fail
    refine three_alloc (P := fun W => Code.wp _ _ _ _ W) fun W r1 r2 r3 kW => ?_
    have n23 : w.heap.size + 1 ≠ w.heap.size + 1 + 1 := by omega
    have n12 : w.heap.size + 1 ≠ w.heap.size := by omega
    have l2 : w.heap.size ≤ w.heap.size + 1 := by omega
    generalize w.heap.size + 1 + 1 = b3 at *
    generalize w.heap.size + 1 = b2 at *
    obtain ⟨a0, a1, a2, a3, a4, a5, a6, a7, a8, -⟩ := (Kp.refl W).nine r3
    obtain ⟨c0, c1, c2, c3, c4, c5, c6, c7, c8, -⟩ := (Kp.refl W).nine r1
    obtain ⟨d0, d1, d2, d3, d4, d5, d6, d7, d8, f0, f1, f2, f3, f4, f5, f6, f7, f8⟩ := (Kp.refl W).nine r2
    go_region_held3 (fun w' => w'.cell? ⟨b3, 0, none⟩ = some (.int .i64 l.k) ∧ w'.cell? ⟨b3, 1, none⟩ = some (.int .i64 l.e) ∧ w'.cell? ⟨b3, 2, none⟩ = some (.int .i64 l.a) ∧ w'.cell? ⟨b3, 3, none⟩ = some (.int .i64 l.b) ∧ w'.cell? ⟨b3, 4, none⟩ = some (.int .i64 l.c) ∧ w'.cell? ⟨b3, 5, none⟩ = some (.int .i64 x) ∧ w'.cell? ⟨b3, 6, none⟩ = some (.int .i64 l.bo) ∧ w'.cell? ⟨b3, 7, none⟩ = some (.int .i64 l.s) ∧ w'.cell? ⟨b3, 8, none⟩ = some (.int .i64 l.g) ∧ w'.cell? ⟨w.heap.size, 5, none⟩ = some (.int .i64 l.eo)) (go_keep) (fail)
    go_wp2_with fail
    refine nine_set (w := W) r2 kW l2 (P := fun w9 => bodyPost _ _ _ _ _ w9.drew) fun w9 h9 k9 => ?_
    obtain ⟨e0, e1, e2, e3, e4, e5, e6, e7, e8, -⟩ := (Kp.refl w9.drew).nine h9
    refine bodyPost_ret (v := .tuple #[.agg #[.int .i64 l.k, .int .i64 l.e, .int .i64 l.a, .int .i64 l.b, .int .i64 l.c, .int .i64 x, .int .i64 l.bo, .int .i64 l.s, .int .i64 l.g], .int .i64 l.eo]) (by simp [results, Try.results23, go_sem, e0, e1, e2, e3, e4, e5, e6, e7, e8]) rfl ⟨⟨l.k, l.e, l.a, l.b, l.c, x, l.bo, l.s, l.g⟩, l.eo, rfl, fun hne hl => turned_invalid (l := l) rfl rfl rfl rfl rfl (fun e => hne (congrArg Lay.eo e).symm) hl, k9.drew⟩
  · go_enter Try.func23, Try.ntmps23
    go_wp2_with fail
    refine three_alloc (P := fun W => Code.wp _ _ _ _ W) fun W r1 r2 r3 kW => ?_
    have n23 : w.heap.size + 1 ≠ w.heap.size + 1 + 1 := by omega
    have n12 : w.heap.size + 1 ≠ w.heap.size := by omega
    have l2 : w.heap.size ≤ w.heap.size + 1 := by omega
    generalize w.heap.size + 1 + 1 = b3 at *
    generalize w.heap.size + 1 = b2 at *
    obtain ⟨a0, a1, a2, a3, a4, a5, a6, a7, a8, -⟩ := (Kp.refl W).nine r3
    obtain ⟨c0, c1, c2, c3, c4, c5, c6, c7, c8, -⟩ := (Kp.refl W).nine r1
    obtain ⟨d0, d1, d2, d3, d4, d5, d6, d7, d8, f0, f1, f2, f3, f4, f5, f6, f7, f8⟩ := (Kp.refl W).nine r2
    go_region_held3 (fun w' => w'.cell? ⟨b3, 0, none⟩ = some (.int .i64 l.k) ∧ w'.cell? ⟨b3, 1, none⟩ = some (.int .i64 l.e) ∧ w'.cell? ⟨b3, 2, none⟩ = some (.int .i64 l.a) ∧ w'.cell? ⟨b3, 3, none⟩ = some (.int .i64 l.b) ∧ w'.cell? ⟨b3, 4, none⟩ = some (.int .i64 l.c) ∧ w'.cell? ⟨b3, 5, none⟩ = some (.int .i64 l.eo) ∧ w'.cell? ⟨b3, 6, none⟩ = some (.int .i64 x) ∧ w'.cell? ⟨b3, 7, none⟩ = some (.int .i64 l.s) ∧ w'.cell? ⟨b3, 8, none⟩ = some (.int .i64 l.g) ∧ w'.cell? ⟨w.heap.size, 6, none⟩ = some (.int .i64 l.bo)) (go_keep) (fail)
    go_wp2_with fail
    refine nine_set (w := W) r2 kW l2 (P := fun w9 => bodyPost _ _ _ _ _ w9.drew) fun w9 h9 k9 => ?_
    obtain ⟨e0, e1, e2, e3, e4, e5, e6, e7, e8, -⟩ := (Kp.refl w9.drew).nine h9
    refine bodyPost_ret (v := .tuple #[.agg #[.int .i64 l.k, .int .i64 l.e, .int .i64 l.a, .int .i64 l.b, .int .i64 l.c, .int .i64 l.eo, .int .i64 x, .int .i64 l.s, .int .i64 l.g], .int .i64 l.bo]) (by simp [results, Try.results23, go_sem, e0, e1, e2, e3, e4, e5, e6, e7, e8]) rfl ⟨⟨l.k, l.e, l.a, l.b, l.c, l.eo, x, l.s, l.g⟩, l.bo, rfl, fun hne hl => turned_invalid (l := l) rfl rfl rfl rfl rfl (fun e => hne (congrArg Lay.bo e).symm) hl, k9.drew⟩
  · go_enter Try.func23, Try.ntmps23
    go_wp2_with fail
    refine three_alloc (P := fun W => Code.wp _ _ _ _ W) fun W r1 r2 r3 kW => ?_
    have n23 : w.heap.size + 1 ≠ w.heap.size + 1 + 1 := by omega
    have n12 : w.heap.size + 1 ≠ w.heap.size := by omega
    have l2 : w.heap.size ≤ w.heap.size + 1 := by omega
    generalize w.heap.size + 1 + 1 = b3 at *
    generalize w.heap.size + 1 = b2 at *
    obtain ⟨a0, a1, a2, a3, a4, a5, a6, a7, a8, -⟩ := (Kp.refl W).nine r3
    obtain ⟨c0, c1, c2, c3, c4, c5, c6, c7, c8, -⟩ := (Kp.refl W).nine r1
    obtain ⟨d0, d1, d2, d3, d4, d5, d6, d7, d8, f0, f1, f2, f3, f4, f5, f6, f7, f8⟩ := (Kp.refl W).nine r2
    go_region_held3 (fun w' => w'.cell? ⟨b3, 0, none⟩ = some (.int .i64 l.k) ∧ w'.cell? ⟨b3, 1, none⟩ = some (.int .i64 l.e) ∧ w'.cell? ⟨b3, 2, none⟩ = some (.int .i64 l.a) ∧ w'.cell? ⟨b3, 3, none⟩ = some (.int .i64 l.b) ∧ w'.cell? ⟨b3, 4, none⟩ = some (.int .i64 l.c) ∧ w'.cell? ⟨b3, 5, none⟩ = some (.int .i64 l.eo) ∧ w'.cell? ⟨b3, 6, none⟩ = some (.int .i64 l.bo) ∧ w'.cell? ⟨b3, 7, none⟩ = some (.int .i64 x) ∧ w'.cell? ⟨b3, 8, none⟩ = some (.int .i64 l.g) ∧ w'.cell? ⟨w.heap.size, 7, none⟩ = some (.int .i64 l.s)) (go_keep) (fail)
    go_wp2_with fail
    refine nine_set (w := W) r2 kW l2 (P := fun w9 => bodyPost _ _ _ _ _ w9.drew) fun w9 h9 k9 => ?_
    obtain ⟨e0, e1, e2, e3, e4, e5, e6, e7, e8, -⟩ := (Kp.refl w9.drew).nine h9
    refine bodyPost_ret (v := .tuple #[.agg #[.int .i64 l.k, .int .i64 l.e, .int .i64 l.a, .int .i64 l.b, .int .i64 l.c, .int .i64 l.eo, .int .i64 l.bo, .int .i64 x, .int .i64 l.g], .int .i64 l.s]) (by simp [results, Try.results23, go_sem, e0, e1, e2, e3, e4, e5, e6, e7, e8]) rfl ⟨⟨l.k, l.e, l.a, l.b, l.c, l.eo, l.bo, x, l.g⟩, l.s, rfl, fun hne hl => turned_invalid (l := l) rfl rfl rfl rfl rfl (fun e => hne (congrArg Lay.s e).symm) hl, k9.drew⟩
  · go_enter Try.func23, Try.ntmps23
    go_wp2_with fail
    refine three_alloc (P := fun W => Code.wp _ _ _ _ W) fun W r1 r2 r3 kW => ?_
    have n23 : w.heap.size + 1 ≠ w.heap.size + 1 + 1 := by omega
    have n12 : w.heap.size + 1 ≠ w.heap.size := by omega
    have l2 : w.heap.size ≤ w.heap.size + 1 := by omega
    generalize w.heap.size + 1 + 1 = b3 at *
    generalize w.heap.size + 1 = b2 at *
    obtain ⟨a0, a1, a2, a3, a4, a5, a6, a7, a8, -⟩ := (Kp.refl W).nine r3
    obtain ⟨c0, c1, c2, c3, c4, c5, c6, c7, c8, -⟩ := (Kp.refl W).nine r1
    obtain ⟨d0, d1, d2, d3, d4, d5, d6, d7, d8, f0, f1, f2, f3, f4, f5, f6, f7, f8⟩ := (Kp.refl W).nine r2
    go_region_held3 (fun w' => w'.cell? ⟨b3, 0, none⟩ = some (.int .i64 l.k) ∧ w'.cell? ⟨b3, 1, none⟩ = some (.int .i64 l.e) ∧ w'.cell? ⟨b3, 2, none⟩ = some (.int .i64 l.a) ∧ w'.cell? ⟨b3, 3, none⟩ = some (.int .i64 l.b) ∧ w'.cell? ⟨b3, 4, none⟩ = some (.int .i64 l.c) ∧ w'.cell? ⟨b3, 5, none⟩ = some (.int .i64 l.eo) ∧ w'.cell? ⟨b3, 6, none⟩ = some (.int .i64 l.bo) ∧ w'.cell? ⟨b3, 7, none⟩ = some (.int .i64 l.s) ∧ w'.cell? ⟨b3, 8, none⟩ = some (.int .i64 x) ∧ w'.cell? ⟨w.heap.size, 8, none⟩ = some (.int .i64 l.g)) (go_keep) (fail)
    go_wp2_with fail
    refine nine_set (w := W) r2 kW l2 (P := fun w9 => bodyPost _ _ _ _ _ w9.drew) fun w9 h9 k9 => ?_
    obtain ⟨e0, e1, e2, e3, e4, e5, e6, e7, e8, -⟩ := (Kp.refl w9.drew).nine h9
    refine bodyPost_ret (v := .tuple #[.agg #[.int .i64 l.k, .int .i64 l.e, .int .i64 l.a, .int .i64 l.b, .int .i64 l.c, .int .i64 l.eo, .int .i64 l.bo, .int .i64 l.s, .int .i64 x], .int .i64 l.g]) (by simp [results, Try.results23, go_sem, e0, e1, e2, e3, e4, e5, e6, e7, e8]) rfl ⟨⟨l.k, l.e, l.a, l.b, l.c, l.eo, l.bo, l.s, x⟩, l.g, rfl, fun hne hl => turned_invalid (l := l) rfl rfl rfl rfl rfl (fun e => hne (congrArg Lay.g e).symm) hl, k9.drew⟩

def ValidIs (l : Lay) (v : Bool) : Prop := validB l = v
theorem valid_is {l : Lay} {v : Bool} (h : ValidIs l v) (w : World) :
    Calls Try.prog 11 #[.agg #[.int .i64 l.k, .int .i64 l.e, .int .i64 l.a, .int .i64 l.b, .int .i64 l.c, .int .i64 l.eo, .int .i64 l.bo, .int .i64 l.s, .int .i64 l.g]] w
      fun r w' => r = .returned (.bool v) ∧ Kp w w' := by
  have h : validB l = v := h
  subst h
  exact valid_any l w
section
variable {w W W1 : World} {b b' : Nat} {v0 v1 v2 v3 v4 v5 v6 v7 v8 p5 p6 : Value}
theorem sy_mk (h : W.cell? ⟨b, 0, none⟩ = some v0 ∧ W.cell? ⟨b, 1, none⟩ = some v1 ∧ W.cell? ⟨b, 2, none⟩ = some v2 ∧ W.cell? ⟨b, 3, none⟩ = some v3 ∧ W.cell? ⟨b, 4, none⟩ = some v4 ∧ W.cell? ⟨b, 5, none⟩ = some v5 ∧ W.cell? ⟨b, 6, none⟩ = some v6 ∧ W.cell? ⟨b, 7, none⟩ = some v7 ∧ W.cell? ⟨b, 8, none⟩ = some v8 ∧ Kp w W) (h5 : W.cell? ⟨b', 5, none⟩ = some p5) (h6 : W.cell? ⟨b', 6, none⟩ = some p6) : W.cell? ⟨b, 0, none⟩ = some v0 ∧ W.cell? ⟨b, 1, none⟩ = some v1 ∧ W.cell? ⟨b, 2, none⟩ = some v2 ∧ W.cell? ⟨b, 3, none⟩ = some v3 ∧ W.cell? ⟨b, 4, none⟩ = some v4 ∧ W.cell? ⟨b, 5, none⟩ = some v5 ∧ W.cell? ⟨b, 6, none⟩ = some v6 ∧ W.cell? ⟨b, 7, none⟩ = some v7 ∧ W.cell? ⟨b, 8, none⟩ = some v8 ∧ Kp w W ∧ W.cell? ⟨b', 5, none⟩ = some p5 ∧ W.cell? ⟨b', 6, none⟩ = some p6 := by
  obtain ⟨h0, h1, h2, h3, h4, h5', h6', h7, h8, k⟩ := h
  exact ⟨h0, h1, h2, h3, h4, h5', h6', h7, h8, k, h5, h6⟩
theorem sy_call (k : Kp W W1) (h : W.cell? ⟨b, 0, none⟩ = some v0 ∧ W.cell? ⟨b, 1, none⟩ = some v1 ∧ W.cell? ⟨b, 2, none⟩ = some v2 ∧ W.cell? ⟨b, 3, none⟩ = some v3 ∧ W.cell? ⟨b, 4, none⟩ = some v4 ∧ W.cell? ⟨b, 5, none⟩ = some v5 ∧ W.cell? ⟨b, 6, none⟩ = some v6 ∧ W.cell? ⟨b, 7, none⟩ = some v7 ∧ W.cell? ⟨b, 8, none⟩ = some v8 ∧ Kp w W ∧ W.cell? ⟨b', 5, none⟩ = some p5 ∧ W.cell? ⟨b', 6, none⟩ = some p6) : W1.cell? ⟨b, 0, none⟩ = some v0 ∧ W1.cell? ⟨b, 1, none⟩ = some v1 ∧ W1.cell? ⟨b, 2, none⟩ = some v2 ∧ W1.cell? ⟨b, 3, none⟩ = some v3 ∧ W1.cell? ⟨b, 4, none⟩ = some v4 ∧ W1.cell? ⟨b, 5, none⟩ = some v5 ∧ W1.cell? ⟨b, 6, none⟩ = some v6 ∧ W1.cell? ⟨b, 7, none⟩ = some v7 ∧ W1.cell? ⟨b, 8, none⟩ = some v8 ∧ Kp w W1 ∧ W1.cell? ⟨b', 5, none⟩ = some p5 ∧ W1.cell? ⟨b', 6, none⟩ = some p6 := by
  obtain ⟨h0, h1, h2, h3, h4, h5, h6, h7, h8, k0, h9, h10⟩ := h
  exact ⟨k.cell h0, k.cell h1, k.cell h2, k.cell h3, k.cell h4, k.cell h5, k.cell h6, k.cell h7, k.cell h8, k0.trans k, k.cell h9, k.cell h10⟩
theorem sy_drew (h : W.cell? ⟨b, 0, none⟩ = some v0 ∧ W.cell? ⟨b, 1, none⟩ = some v1 ∧ W.cell? ⟨b, 2, none⟩ = some v2 ∧ W.cell? ⟨b, 3, none⟩ = some v3 ∧ W.cell? ⟨b, 4, none⟩ = some v4 ∧ W.cell? ⟨b, 5, none⟩ = some v5 ∧ W.cell? ⟨b, 6, none⟩ = some v6 ∧ W.cell? ⟨b, 7, none⟩ = some v7 ∧ W.cell? ⟨b, 8, none⟩ = some v8 ∧ Kp w W ∧ W.cell? ⟨b', 5, none⟩ = some p5 ∧ W.cell? ⟨b', 6, none⟩ = some p6) : W.drew.cell? ⟨b, 0, none⟩ = some v0 ∧ W.drew.cell? ⟨b, 1, none⟩ = some v1 ∧ W.drew.cell? ⟨b, 2, none⟩ = some v2 ∧ W.drew.cell? ⟨b, 3, none⟩ = some v3 ∧ W.drew.cell? ⟨b, 4, none⟩ = some v4 ∧ W.drew.cell? ⟨b, 5, none⟩ = some v5 ∧ W.drew.cell? ⟨b, 6, none⟩ = some v6 ∧ W.drew.cell? ⟨b, 7, none⟩ = some v7 ∧ W.drew.cell? ⟨b, 8, none⟩ = some v8 ∧ Kp w W.drew ∧ W.drew.cell? ⟨b', 5, none⟩ = some p5 ∧ W.drew.cell? ⟨b', 6, none⟩ = some p6 := by
  obtain ⟨h0, h1, h2, h3, h4, h5, h6, h7, h8, k0, h9, h10⟩ := h
  exact ⟨h0, h1, h2, h3, h4, h5, h6, h7, h8, k0.drew, h9, h10⟩
end
theorem Kp.re {w W : World} {o o' : Obj} (hle : w.heap.size ≤ W.heap.size) (h : Kp w (W.alloc o)) : Kp w (W.alloc o') :=
  ⟨h.os, h.tape, h.output, by simp; omega, fun k hk => (Below.heap_alloc W o' k (by omega)).trans ((Below.heap_alloc W o k (by omega)).symm.trans (h.block k hk))⟩
theorem cell_lt {w : World} {b i : Nat} {v : Value} (h : w.cell? ⟨b, i, none⟩ = some v) : b < w.heap.size := by
  refine Nat.lt_of_not_le fun hn => ?_
  rw [World.cell?, Array.getElem?_eq_none hn] at h
  cases h
section
variable {w W W1 : World} {b b' n : Nat} {v0 v1 v2 v3 v4 v5 v6 v7 v8 p5 p6 : Value}
theorem sy_re {o o' : Obj} (h0 : w.cell? ⟨b, 0, none⟩ = some v0 ∧ w.cell? ⟨b, 1, none⟩ = some v1 ∧ w.cell? ⟨b, 2, none⟩ = some v2 ∧ w.cell? ⟨b, 3, none⟩ = some v3 ∧ w.cell? ⟨b, 4, none⟩ = some v4 ∧ w.cell? ⟨b, 5, none⟩ = some v5 ∧ w.cell? ⟨b, 6, none⟩ = some v6 ∧ w.cell? ⟨b, 7, none⟩ = some v7 ∧ w.cell? ⟨b, 8, none⟩ = some v8 ∧ Kp w w ∧ w.cell? ⟨b', 5, none⟩ = some p5 ∧ w.cell? ⟨b', 6, none⟩ = some p6) (hle : w.heap.size ≤ W.heap.size) (h : (W.alloc o).cell? ⟨b, 0, none⟩ = some v0 ∧ (W.alloc o).cell? ⟨b, 1, none⟩ = some v1 ∧ (W.alloc o).cell? ⟨b, 2, none⟩ = some v2 ∧ (W.alloc o).cell? ⟨b, 3, none⟩ = some v3 ∧ (W.alloc o).cell? ⟨b, 4, none⟩ = some v4 ∧ (W.alloc o).cell? ⟨b, 5, none⟩ = some v5 ∧ (W.alloc o).cell? ⟨b, 6, none⟩ = some v6 ∧ (W.alloc o).cell? ⟨b, 7, none⟩ = some v7 ∧ (W.alloc o).cell? ⟨b, 8, none⟩ = some v8 ∧ Kp w (W.alloc o) ∧ (W.alloc o).cell? ⟨b', 5, none⟩ = some p5 ∧ (W.alloc o).cell? ⟨b', 6, none⟩ = some p6) : (W.alloc o').cell? ⟨b, 0, none⟩ = some v0 ∧ (W.alloc o').cell? ⟨b, 1, none⟩ = some v1 ∧ (W.alloc o').cell? ⟨b, 2, none⟩ = some v2 ∧ (W.alloc o').cell? ⟨b, 3, none⟩ = some v3 ∧ (W.alloc o').cell? ⟨b, 4, none⟩ = some v4 ∧ (W.alloc o').cell? ⟨b, 5, none⟩ = some v5 ∧ (W.alloc o').cell? ⟨b, 6, none⟩ = some v6 ∧ (W.alloc o').cell? ⟨b, 7, none⟩ = some v7 ∧ (W.alloc o').cell? ⟨b, 8, none⟩ = some v8 ∧ Kp w (W.alloc o') ∧ (W.alloc o').cell? ⟨b', 5, none⟩ = some p5 ∧ (W.alloc o').cell? ⟨b', 6, none⟩ = some p6 :=
  sy_call (Kp.re hle h.2.2.2.2.2.2.2.2.2.1) h0
theorem sy_set {x0 x1 x2 x3 x4 x5 x6 x7 x8 : Value} (h0 : w.cell? ⟨b, 0, none⟩ = some v0 ∧ w.cell? ⟨b, 1, none⟩ = some v1 ∧ w.cell? ⟨b, 2, none⟩ = some v2 ∧ w.cell? ⟨b, 3, none⟩ = some v3 ∧ w.cell? ⟨b, 4, none⟩ = some v4 ∧ w.cell? ⟨b, 5, none⟩ = some v5 ∧ w.cell? ⟨b, 6, none⟩ = some v6 ∧ w.cell? ⟨b, 7, none⟩ = some v7 ∧ w.cell? ⟨b, 8, none⟩ = some v8 ∧ Kp w w ∧ w.cell? ⟨b', 5, none⟩ = some p5 ∧ w.cell? ⟨b', 6, none⟩ = some p6) (hn : w.heap.size ≤ n) (h : W.cell? ⟨b, 0, none⟩ = some v0 ∧ W.cell? ⟨b, 1, none⟩ = some v1 ∧ W.cell? ⟨b, 2, none⟩ = some v2 ∧ W.cell? ⟨b, 3, none⟩ = some v3 ∧ W.cell? ⟨b, 4, none⟩ = some v4 ∧ W.cell? ⟨b, 5, none⟩ = some v5 ∧ W.cell? ⟨b, 6, none⟩ = some v6 ∧ W.cell? ⟨b, 7, none⟩ = some v7 ∧ W.cell? ⟨b, 8, none⟩ = some v8 ∧ Kp w W ∧ W.cell? ⟨b', 5, none⟩ = some p5 ∧ W.cell? ⟨b', 6, none⟩ = some p6) : (((((((((W.setCell ⟨n, 0, none⟩ x0).setCell ⟨n, 1, none⟩ x1).setCell ⟨n, 2, none⟩ x2).setCell ⟨n, 3, none⟩ x3).setCell ⟨n, 4, none⟩ x4).setCell ⟨n, 5, none⟩ x5).setCell ⟨n, 6, none⟩ x6).setCell ⟨n, 7, none⟩ x7).setCell ⟨n, 8, none⟩ x8).cell? ⟨b, 0, none⟩ = some v0 ∧ (((((((((W.setCell ⟨n, 0, none⟩ x0).setCell ⟨n, 1, none⟩ x1).setCell ⟨n, 2, none⟩ x2).setCell ⟨n, 3, none⟩ x3).setCell ⟨n, 4, none⟩ x4).setCell ⟨n, 5, none⟩ x5).setCell ⟨n, 6, none⟩ x6).setCell ⟨n, 7, none⟩ x7).setCell ⟨n, 8, none⟩ x8).cell? ⟨b, 1, none⟩ = some v1 ∧ (((((((((W.setCell ⟨n, 0, none⟩ x0).setCell ⟨n, 1, none⟩ x1).setCell ⟨n, 2, none⟩ x2).setCell ⟨n, 3, none⟩ x3).setCell ⟨n, 4, none⟩ x4).setCell ⟨n, 5, none⟩ x5).setCell ⟨n, 6, none⟩ x6).setCell ⟨n, 7, none⟩ x7).setCell ⟨n, 8, none⟩ x8).cell? ⟨b, 2, none⟩ = some v2 ∧ (((((((((W.setCell ⟨n, 0, none⟩ x0).setCell ⟨n, 1, none⟩ x1).setCell ⟨n, 2, none⟩ x2).setCell ⟨n, 3, none⟩ x3).setCell ⟨n, 4, none⟩ x4).setCell ⟨n, 5, none⟩ x5).setCell ⟨n, 6, none⟩ x6).setCell ⟨n, 7, none⟩ x7).setCell ⟨n, 8, none⟩ x8).cell? ⟨b, 3, none⟩ = some v3 ∧ (((((((((W.setCell ⟨n, 0, none⟩ x0).setCell ⟨n, 1, none⟩ x1).setCell ⟨n, 2, none⟩ x2).setCell ⟨n, 3, none⟩ x3).setCell ⟨n, 4, none⟩ x4).setCell ⟨n, 5, none⟩ x5).setCell ⟨n, 6, none⟩ x6).setCell ⟨n, 7, none⟩ x7).setCell ⟨n, 8, none⟩ x8).cell? ⟨b, 4, none⟩ = some v4 ∧ (((((((((W.setCell ⟨n, 0, none⟩ x0).setCell ⟨n, 1, none⟩ x1).setCell ⟨n, 2, none⟩ x2).setCell ⟨n, 3, none⟩ x3).setCell ⟨n, 4, none⟩ x4).setCell ⟨n, 5, none⟩ x5).setCell ⟨n, 6, none⟩ x6).setCell ⟨n, 7, none⟩ x7).setCell ⟨n, 8, none⟩ x8).cell? ⟨b, 5, none⟩ = some v5 ∧ (((((((((W.setCell ⟨n, 0, none⟩ x0).setCell ⟨n, 1, none⟩ x1).setCell ⟨n, 2, none⟩ x2).setCell ⟨n, 3, none⟩ x3).setCell ⟨n, 4, none⟩ x4).setCell ⟨n, 5, none⟩ x5).setCell ⟨n, 6, none⟩ x6).setCell ⟨n, 7, none⟩ x7).setCell ⟨n, 8, none⟩ x8).cell? ⟨b, 6, none⟩ = some v6 ∧ (((((((((W.setCell ⟨n, 0, none⟩ x0).setCell ⟨n, 1, none⟩ x1).setCell ⟨n, 2, none⟩ x2).setCell ⟨n, 3, none⟩ x3).setCell ⟨n, 4, none⟩ x4).setCell ⟨n, 5, none⟩ x5).setCell ⟨n, 6, none⟩ x6).setCell ⟨n, 7, none⟩ x7).setCell ⟨n, 8, none⟩ x8).cell? ⟨b, 7, none⟩ = some v7 ∧ (((((((((W.setCell ⟨n, 0, none⟩ x0).setCell ⟨n, 1, none⟩ x1).setCell ⟨n, 2, none⟩ x2).setCell ⟨n, 3, none⟩ x3).setCell ⟨n, 4, none⟩ x4).setCell ⟨n, 5, none⟩ x5).setCell ⟨n, 6, none⟩ x6).setCell ⟨n, 7, none⟩ x7).setCell ⟨n, 8, none⟩ x8).cell? ⟨b, 8, none⟩ = some v8 ∧ Kp w (((((((((W.setCell ⟨n, 0, none⟩ x0).setCell ⟨n, 1, none⟩ x1).setCell ⟨n, 2, none⟩ x2).setCell ⟨n, 3, none⟩ x3).setCell ⟨n, 4, none⟩ x4).setCell ⟨n, 5, none⟩ x5).setCell ⟨n, 6, none⟩ x6).setCell ⟨n, 7, none⟩ x7).setCell ⟨n, 8, none⟩ x8) ∧ (((((((((W.setCell ⟨n, 0, none⟩ x0).setCell ⟨n, 1, none⟩ x1).setCell ⟨n, 2, none⟩ x2).setCell ⟨n, 3, none⟩ x3).setCell ⟨n, 4, none⟩ x4).setCell ⟨n, 5, none⟩ x5).setCell ⟨n, 6, none⟩ x6).setCell ⟨n, 7, none⟩ x7).setCell ⟨n, 8, none⟩ x8).cell? ⟨b', 5, none⟩ = some p5 ∧ (((((((((W.setCell ⟨n, 0, none⟩ x0).setCell ⟨n, 1, none⟩ x1).setCell ⟨n, 2, none⟩ x2).setCell ⟨n, 3, none⟩ x3).setCell ⟨n, 4, none⟩ x4).setCell ⟨n, 5, none⟩ x5).setCell ⟨n, 6, none⟩ x6).setCell ⟨n, 7, none⟩ x7).setCell ⟨n, 8, none⟩ x8).cell? ⟨b', 6, none⟩ = some p6 :=
  sy_call (Below.setCell (Below.setCell (Below.setCell (Below.setCell (Below.setCell (Below.setCell (Below.setCell (Below.setCell (Below.setCell h.2.2.2.2.2.2.2.2.2.1 hn _) hn _) hn _) hn _) hn _) hn _) hn _) hn _) hn _) h0
end
section
variable {w W W1 : World} {b n : Nat} {v0 v1 v2 v3 v4 : Value}
theorem sz_call (k : Kp W W1) (h : W.cell? ⟨b, 0, none⟩ = some v0 ∧ W.cell? ⟨b, 1, none⟩ = some v1 ∧ W.cell? ⟨b, 2, none⟩ = some v2 ∧ W.cell? ⟨b, 3, none⟩ = some v3 ∧ W.cell? ⟨b, 4, none⟩ = some v4 ∧ Kp w W) : W1.cell? ⟨b, 0, none⟩ = some v0 ∧ W1.cell? ⟨b, 1, none⟩ = some v1 ∧ W1.cell? ⟨b, 2, none⟩ = some v2 ∧ W1.cell? ⟨b, 3, none⟩ = some v3 ∧ W1.cell? ⟨b, 4, none⟩ = some v4 ∧ Kp w W1 := by
  obtain ⟨h0, h1, h2, h3, h4, k0⟩ := h
  exact ⟨k.cell h0, k.cell h1, k.cell h2, k.cell h3, k.cell h4, k0.trans k⟩
theorem sz_drew (h : W.cell? ⟨b, 0, none⟩ = some v0 ∧ W.cell? ⟨b, 1, none⟩ = some v1 ∧ W.cell? ⟨b, 2, none⟩ = some v2 ∧ W.cell? ⟨b, 3, none⟩ = some v3 ∧ W.cell? ⟨b, 4, none⟩ = some v4 ∧ Kp w W) : W.drew.cell? ⟨b, 0, none⟩ = some v0 ∧ W.drew.cell? ⟨b, 1, none⟩ = some v1 ∧ W.drew.cell? ⟨b, 2, none⟩ = some v2 ∧ W.drew.cell? ⟨b, 3, none⟩ = some v3 ∧ W.drew.cell? ⟨b, 4, none⟩ = some v4 ∧ Kp w W.drew := by
  obtain ⟨h0, h1, h2, h3, h4, k0⟩ := h
  exact ⟨h0, h1, h2, h3, h4, k0.drew⟩
theorem sz_re {o o' : Obj} (h0 : w.cell? ⟨b, 0, none⟩ = some v0 ∧ w.cell? ⟨b, 1, none⟩ = some v1 ∧ w.cell? ⟨b, 2, none⟩ = some v2 ∧ w.cell? ⟨b, 3, none⟩ = some v3 ∧ w.cell? ⟨b, 4, none⟩ = some v4 ∧ Kp w w) (hle : w.heap.size ≤ W.heap.size) (h : (W.alloc o).cell? ⟨b, 0, none⟩ = some v0 ∧ (W.alloc o).cell? ⟨b, 1, none⟩ = some v1 ∧ (W.alloc o).cell? ⟨b, 2, none⟩ = some v2 ∧ (W.alloc o).cell? ⟨b, 3, none⟩ = some v3 ∧ (W.alloc o).cell? ⟨b, 4, none⟩ = some v4 ∧ Kp w (W.alloc o)) : (W.alloc o').cell? ⟨b, 0, none⟩ = some v0 ∧ (W.alloc o').cell? ⟨b, 1, none⟩ = some v1 ∧ (W.alloc o').cell? ⟨b, 2, none⟩ = some v2 ∧ (W.alloc o').cell? ⟨b, 3, none⟩ = some v3 ∧ (W.alloc o').cell? ⟨b, 4, none⟩ = some v4 ∧ Kp w (W.alloc o') :=
  sz_call (Kp.re hle h.2.2.2.2.2) h0
theorem sz_set {x0 x1 x2 x3 x4 x5 x6 x7 x8 : Value} (h0 : w.cell? ⟨b, 0, none⟩ = some v0 ∧ w.cell? ⟨b, 1, none⟩ = some v1 ∧ w.cell? ⟨b, 2, none⟩ = some v2 ∧ w.cell? ⟨b, 3, none⟩ = some v3 ∧ w.cell? ⟨b, 4, none⟩ = some v4 ∧ Kp w w) (hn : w.heap.size ≤ n) (h : W.cell? ⟨b, 0, none⟩ = some v0 ∧ W.cell? ⟨b, 1, none⟩ = some v1 ∧ W.cell? ⟨b, 2, none⟩ = some v2 ∧ W.cell? ⟨b, 3, none⟩ = some v3 ∧ W.cell? ⟨b, 4, none⟩ = some v4 ∧ Kp w W) : (((((((((W.setCell ⟨n, 0, none⟩ x0).setCell ⟨n, 1, none⟩ x1).setCell ⟨n, 2, none⟩ x2).setCell ⟨n, 3, none⟩ x3).setCell ⟨n, 4, none⟩ x4).setCell ⟨n, 5, none⟩ x5).setCell ⟨n, 6, none⟩ x6).setCell ⟨n, 7, none⟩ x7).setCell ⟨n, 8, none⟩ x8).cell? ⟨b, 0, none⟩ = some v0 ∧ (((((((((W.setCell ⟨n, 0, none⟩ x0).setCell ⟨n, 1, none⟩ x1).setCell ⟨n, 2, none⟩ x2).setCell ⟨n, 3, none⟩ x3).setCell ⟨n, 4, none⟩ x4).setCell ⟨n, 5, none⟩ x5).setCell ⟨n, 6, none⟩ x6).setCell ⟨n, 7, none⟩ x7).setCell ⟨n, 8, none⟩ x8).cell? ⟨b, 1, none⟩ = some v1 ∧ (((((((((W.setCell ⟨n, 0, none⟩ x0).setCell ⟨n, 1, none⟩ x1).setCell ⟨n, 2, none⟩ x2).setCell ⟨n, 3, none⟩ x3).setCell ⟨n, 4, none⟩ x4).setCell ⟨n, 5, none⟩ x5).setCell ⟨n, 6, none⟩ x6).setCell ⟨n, 7, none⟩ x7).setCell ⟨n, 8, none⟩ x8).cell? ⟨b, 2, none⟩ = some v2 ∧ (((((((((W.setCell ⟨n, 0, none⟩ x0).setCell ⟨n, 1, none⟩ x1).setCell ⟨n, 2, none⟩ x2).setCell ⟨n, 3, none⟩ x3).setCell ⟨n, 4, none⟩ x4).setCell ⟨n, 5, none⟩ x5).setCell ⟨n, 6, none⟩ x6).setCell ⟨n, 7, none⟩ x7).setCell ⟨n, 8, none⟩ x8).cell? ⟨b, 3, none⟩ = some v3 ∧ (((((((((W.setCell ⟨n, 0, none⟩ x0).setCell ⟨n, 1, none⟩ x1).setCell ⟨n, 2, none⟩ x2).setCell ⟨n, 3, none⟩ x3).setCell ⟨n, 4, none⟩ x4).setCell ⟨n, 5, none⟩ x5).setCell ⟨n, 6, none⟩ x6).setCell ⟨n, 7, none⟩ x7).setCell ⟨n, 8, none⟩ x8).cell? ⟨b, 4, none⟩ = some v4 ∧ Kp w (((((((((W.setCell ⟨n, 0, none⟩ x0).setCell ⟨n, 1, none⟩ x1).setCell ⟨n, 2, none⟩ x2).setCell ⟨n, 3, none⟩ x3).setCell ⟨n, 4, none⟩ x4).setCell ⟨n, 5, none⟩ x5).setCell ⟨n, 6, none⟩ x6).setCell ⟨n, 7, none⟩ x7).setCell ⟨n, 8, none⟩ x8) :=
  sz_call (Below.setCell (Below.setCell (Below.setCell (Below.setCell (Below.setCell (Below.setCell (Below.setCell (Below.setCell (Below.setCell h.2.2.2.2.2 hn _) hn _) hn _) hn _) hn _) hn _) hn _) hn _) hn _) h0
end
theorem tail_alloc {w w5 : World} {o : Obj} (k : Kp w w5) {P : World → Prop} (h : ∀ W, W.heap[w5.heap.size]? = some o → Kp w W → P W) : P (w5.alloc o) := h _ (heap_new _ _) (k.alloc _)
end Go.Proofs.Yteokfhccfmeffaa
