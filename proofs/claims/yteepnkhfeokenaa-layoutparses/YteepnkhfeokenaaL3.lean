import Derived.Test.YteepnkhfeokenaaL2
import Derived.Deep.RegionHeld3
namespace Go.Proofs.Yteepnkhfeokenaa
open Go.RowKit

theorem Kp.nine {w w1 : World} (h : Kp w w1) {b : Nat} {v0 v1 v2 v3 v4 v5 v6 v7 v8 : Value} {t : TypeId} (hb : w.heap[b]? = some (.cells #[v0, v1, v2, v3, v4, v5, v6, v7, v8] t)) :
    w1.cell? ⟨b, 0, none⟩ = some v0 ∧ w1.cell? ⟨b, 1, none⟩ = some v1 ∧ w1.cell? ⟨b, 2, none⟩ = some v2 ∧ w1.cell? ⟨b, 3, none⟩ = some v3 ∧ w1.cell? ⟨b, 4, none⟩ = some v4 ∧ w1.cell? ⟨b, 5, none⟩ = some v5 ∧ w1.cell? ⟨b, 6, none⟩ = some v6 ∧ w1.cell? ⟨b, 7, none⟩ = some v7 ∧ w1.cell? ⟨b, 8, none⟩ = some v8 ∧
    w1.frozen? ⟨b, 0, none⟩ = false ∧ w1.frozen? ⟨b, 1, none⟩ = false ∧ w1.frozen? ⟨b, 2, none⟩ = false ∧ w1.frozen? ⟨b, 3, none⟩ = false ∧ w1.frozen? ⟨b, 4, none⟩ = false ∧ w1.frozen? ⟨b, 5, none⟩ = false ∧ w1.frozen? ⟨b, 6, none⟩ = false ∧ w1.frozen? ⟨b, 7, none⟩ = false ∧ w1.frozen? ⟨b, 8, none⟩ = false := by
  have hlt : b < w.heap.size := (Array.getElem?_eq_some_iff.1 hb).1
  have hb1 : w1.heap[b]? = some (.cells #[v0, v1, v2, v3, v4, v5, v6, v7, v8] t) := (h.block b hlt).trans hb
  simp [World.cell?, World.frozen?, hb1]

theorem Kp.blk {w w1 : World} (h : Kp w w1) {b : Nat} {x : Obj} (hb : w.heap[b]? = some x) : w1.heap[b]? = some x :=
  (h.block b (Array.getElem?_eq_some_iff.1 hb).1).trans hb
theorem set_one {w : World} {b : Nat} {cs : Array Value} {t : TypeId} (h : w.heap[b]? = some (.cells cs t)) (i : Nat) (v : Value) (hi : i < cs.size) :
    (w.setCell ⟨b, i, none⟩ v).heap[b]? = some (.cells (cs.set i v hi) t) := by
  have hlt := (Array.getElem?_eq_some_iff.1 h).1
  have hv := (Array.getElem?_eq_some_iff.1 h).2
  simp only [World.setCell, Array.getElem?_modify]
  simp [hlt, hv, hi, Array.setIfInBounds]
theorem nine_set {w0 w : World} {b : Nat} {u0 u1 u2 u3 u4 u5 u6 u7 u8 : Value} {t : TypeId} (h : w.heap[b]? = some (.cells #[u0, u1, u2, u3, u4, u5, u6, u7, u8] t)) (k : Kp w0 w) (hb : w0.heap.size ≤ b)
    {v0 v1 v2 v3 v4 v5 v6 v7 v8 : Value} {P : World → Prop} (hP : ∀ w9, w9.heap[b]? = some (.cells #[v0, v1, v2, v3, v4, v5, v6, v7, v8] t) → Kp w0 w9 → P w9) :
    P (((((((((w.setCell ⟨b, 0, none⟩ v0).setCell ⟨b, 1, none⟩ v1).setCell ⟨b, 2, none⟩ v2).setCell ⟨b, 3, none⟩ v3).setCell ⟨b, 4, none⟩ v4).setCell ⟨b, 5, none⟩ v5).setCell ⟨b, 6, none⟩ v6).setCell ⟨b, 7, none⟩ v7).setCell ⟨b, 8, none⟩ v8) := by
  refine hP _ ?_ ?_
  · have h0 := set_one h 0 v0 (by simp)
    have h1 := set_one h0 1 v1 (by simp)
    have h2 := set_one h1 2 v2 (by simp)
    have h3 := set_one h2 3 v3 (by simp)
    have h4 := set_one h3 4 v4 (by simp)
    have h5 := set_one h4 5 v5 (by simp)
    have h6 := set_one h5 6 v6 (by simp)
    have h7 := set_one h6 7 v7 (by simp)
    have h8 := set_one h7 8 v8 (by simp)
    exact h8
  · exact Below.setCell (Below.setCell (Below.setCell (Below.setCell (Below.setCell (Below.setCell (Below.setCell (Below.setCell (Below.setCell k hb _) hb _) hb _) hb _) hb _) hb _) hb _) hb _) hb _

theorem parse_wrong (v : Option Addr) (n cap : Nat) (w : World) (h : n ≠ 5) :
    Calls Try.prog 6 #[.slice v n cap] w fun r w' => r = .returned (.tuple #[Lay.zero.val, .int .i64 30]) ∧ Kp w w' := by
  have h' : ((n : Int) != 5) = true := by simp; omega
  go_enter Try.func6, Try.ntmps6
  go_wp2_with fail
  refine bodyPost_ret (v := .tuple #[Lay.zero.val, .int .i64 30]) (by simp [results, Try.results6, go_sem, Lay.val, Lay.zero]) rfl ⟨rfl, ?_⟩
  repeat first | exact Below.refl _ _ | refine Below.alloc ?_ (by simp <;> omega) _ | refine Below.setCell ?_ (by simp <;> omega) _

theorem Kp.frozen {w w1 : World} (h : Kp w w1) {b o : Nat} (hb : b < w.heap.size) (hf : w.frozen? ⟨b, o, none⟩ = false) : w1.frozen? ⟨b, o, none⟩ = false :=
  (Below.frozen h (p := ⟨b, o, none⟩) hb).trans hf
theorem heap_new (w : World) (o : Obj) : (w.alloc o).heap[w.heap.size]? = some o := by
  show (w.heap.push o)[w.heap.size]? = _
  simp
theorem heap_old {w : World} {b : Nat} {x : Obj} (h : w.heap[b]? = some x) (o : Obj) : (w.alloc o).heap[b]? = some x :=
  (Below.heap_alloc w o b (Array.getElem?_eq_some_iff.1 h).1).trans h
theorem heap_next (w : World) (o q : Obj) : ((w.alloc o).alloc q).heap[w.heap.size + 1]? = some q := by
  have := heap_new (w.alloc o) q
  simpa using this

set_option maxHeartbeats 2000000 in
theorem parse_ok (g o cap : Nat) (k e a b c : Int) (w : World) (h0 : w.cell? ⟨g, o, none⟩ = some (.int .i64 k)) (h1 : w.cell? ⟨g, o + 1, none⟩ = some (.int .i64 e))
    (h2 : w.cell? ⟨g, o + 2, none⟩ = some (.int .i64 a)) (h3 : w.cell? ⟨g, o + 3, none⟩ = some (.int .i64 b)) (h4 : w.cell? ⟨g, o + 4, none⟩ = some (.int .i64 c)) (hE : errN k e a b c = 0) :
    Calls Try.prog 6 #[.slice (some ⟨g, o, none⟩) 5 cap] w fun r w' => r = .returned (.tuple #[(laidD k e a b c).val, .int .i64 0]) ∧ Kp w w' := by
  go_enter Try.func6, Try.ntmps6
  go_wp2_with fail
  go_region_held3 (fun w' => w'.cell? ⟨g, o, none⟩ = some (.int .i64 k) ∧ w'.cell? ⟨g, o + 1, none⟩ = some (.int .i64 e) ∧ w'.cell? ⟨g, o + 2, none⟩ = some (.int .i64 a) ∧ w'.cell? ⟨g, o + 3, none⟩ = some (.int .i64 b) ∧ w'.cell? ⟨g, o + 4, none⟩ = some (.int .i64 c)) (go_keep) (fail)
  go_wp2_with fail
  refine (refused_any k e a b c 0 0 0 0 _).mono ?_
  rintro r w1 ⟨rfl, k1⟩
  clear h0 h1 h2 h3 h4
  obtain ⟨a0, a1, a2, a3, a4, a5, a6, a7, a8, f0, f1, f2, f3, f4, f5, f6, f7, f8⟩ := k1.nine (heap_next _ _ _)
  have hB := k1.blk (b := w.heap.size) (heap_old (heap_new _ _) _)
  obtain ⟨b0, b1, b2, b3, b4, b5, b6, b7, b8, g0, g1, g2, g3, g4, g5, g6, g7, g8⟩ := (Kp.refl w1).nine hB
  have k0 : Kp w w1 := Kp.trans (((Kp.refl w).alloc _).alloc _).drew k1
  clear k1
  have hL : ∀ W, Calls Try.prog 13 #[.agg #[.int .i64 k, .int .i64 e, .int .i64 a, .int .i64 b, .int .i64 c, .int .i64 0, .int .i64 0, .int .i64 0, .int .i64 0]] W
      fun r w' => r = .returned (.agg #[.int .i64 (laidD k e a b c).k, .int .i64 (laidD k e a b c).e, .int .i64 (laidD k e a b c).a, .int .i64 (laidD k e a b c).b, .int .i64 (laidD k e a b c).c, .int .i64 (laidD k e a b c).eo, .int .i64 (laidD k e a b c).bo, .int .i64 (laidD k e a b c).s, .int .i64 (laidD k e a b c).g]) ∧ Kp W w' := fun W => laid_any k e a b c 0 0 0 0 W hE
  rw [hE]
  generalize hl : laidD k e a b c = l at hL
  go_wp2_with fail
  refine (hL _).mono ?_
  rintro r w2 ⟨rfl, k2⟩
  have k3 : Kp w w2 := k0.trans k2
  clear hL a0 a1 a2 a3 a4 a5 a6 a7 a8 f0 f1 f2 f3 f4 f5 f6 f7 f8 b0 b1 b2 b3 b4 b5 b6 b7 b8 g0 g1 g2 g3 g4 g5 g6 g7 g8
  replace hB := k2.blk hB
  obtain ⟨b0, b1, b2, b3, b4, b5, b6, b7, b8, g0, g1, g2, g3, g4, g5, g6, g7, g8⟩ := (Kp.refl w2).nine hB
  go_wp2_with fail
  clear b0 b1 b2 b3 b4 b5 b6 b7 b8 g0 g1 g2 g3 g4 g5 g6 g7 g8
  refine nine_set hB k3 (Nat.le_refl _) (P := fun w9 => bodyPost _ _ _ _ _ w9) fun w9 h9 k9 => ?_
  obtain ⟨b0, b1, b2, b3, b4, b5, b6, b7, b8, -⟩ := (Kp.refl w9).nine h9
  refine bodyPost_ret (v := .tuple #[l.val, .int .i64 0]) (by simp [results, Try.results6, go_sem, Lay.val, b0, b1, b2, b3, b4, b5, b6, b7, b8]) rfl ⟨by rw [hl], k9⟩

set_option maxHeartbeats 2000000 in
theorem parse_err (g o cap : Nat) (k e a b c : Int) (w : World) (h0 : w.cell? ⟨g, o, none⟩ = some (.int .i64 k)) (h1 : w.cell? ⟨g, o + 1, none⟩ = some (.int .i64 e))
    (h2 : w.cell? ⟨g, o + 2, none⟩ = some (.int .i64 a)) (h3 : w.cell? ⟨g, o + 3, none⟩ = some (.int .i64 b)) (h4 : w.cell? ⟨g, o + 4, none⟩ = some (.int .i64 c)) (hE : ¬ errN k e a b c = 0) :
    Calls Try.prog 6 #[.slice (some ⟨g, o, none⟩) 5 cap] w fun r w' => r = .returned (.tuple #[Lay.zero.val, .int .i64 (errN k e a b c)]) ∧ Kp w w' := by
  go_enter Try.func6, Try.ntmps6
  go_wp2_with fail
  go_region_held3 (fun w' => w'.cell? ⟨g, o, none⟩ = some (.int .i64 k) ∧ w'.cell? ⟨g, o + 1, none⟩ = some (.int .i64 e) ∧ w'.cell? ⟨g, o + 2, none⟩ = some (.int .i64 a) ∧ w'.cell? ⟨g, o + 3, none⟩ = some (.int .i64 b) ∧ w'.cell? ⟨g, o + 4, none⟩ = some (.int .i64 c)) (go_keep) (fail)
  go_wp2_with fail
  refine (refused_any k e a b c 0 0 0 0 _).mono ?_
  rintro r w1 ⟨rfl, k1⟩
  clear h0 h1 h2 h3 h4
  obtain ⟨a0, a1, a2, a3, a4, a5, a6, a7, a8, f0, f1, f2, f3, f4, f5, f6, f7, f8⟩ := k1.nine (heap_next _ _ _)
  have hB := k1.blk (b := w.heap.size) (heap_old (heap_new _ _) _)
  obtain ⟨b0, b1, b2, b3, b4, b5, b6, b7, b8, g0, g1, g2, g3, g4, g5, g6, g7, g8⟩ := (Kp.refl w1).nine hB
  have k0 : Kp w w1 := Kp.trans (((Kp.refl w).alloc _).alloc _).drew k1
  clear k1
  have hE' : (errN k e a b c != 0) = true := by simpa using hE
  go_wp2_with fail
  clear b0 b1 b2 b3 b4 b5 b6 b7 b8 g0 g1 g2 g3 g4 g5 g6 g7 g8
  refine nine_set hB k0 (Nat.le_refl _) (P := fun w9 => bodyPost _ _ _ _ _ w9) fun w9 h9 k9 => ?_
  obtain ⟨b0, b1, b2, b3, b4, b5, b6, b7, b8, -⟩ := (Kp.refl w9).nine h9
  refine bodyPost_ret (v := .tuple #[Lay.zero.val, .int .i64 (errN k e a b c)]) (by simp [results, Try.results6, go_sem, Lay.val, Lay.zero, b0, b1, b2, b3, b4, b5, b6, b7, b8]) rfl ⟨rfl, k9⟩

theorem parse_five (g o cap : Nat) (k e a b c : Int) (w : World) (h0 : w.cell? ⟨g, o, none⟩ = some (.int .i64 k)) (h1 : w.cell? ⟨g, o + 1, none⟩ = some (.int .i64 e))
    (h2 : w.cell? ⟨g, o + 2, none⟩ = some (.int .i64 a)) (h3 : w.cell? ⟨g, o + 3, none⟩ = some (.int .i64 b)) (h4 : w.cell? ⟨g, o + 4, none⟩ = some (.int .i64 c)) :
    Calls Try.prog 6 #[.slice (some ⟨g, o, none⟩) 5 cap] w fun r w' => r = .returned (.tuple #[(parseD [k, e, a, b, c]).1.val, .int .i64 (parseD [k, e, a, b, c]).2]) ∧ Kp w w' := by
  by_cases hE : errN k e a b c = 0
  · have hP : parseD [k, e, a, b, c] = (laidD k e a b c, 0) := if_pos hE
    rw [hP]
    exact parse_ok g o cap k e a b c w h0 h1 h2 h3 h4 hE
  · have hP : parseD [k, e, a, b, c] = (Lay.zero, errN k e a b c) := if_neg hE
    rw [hP]
    exact parse_err g o cap k e a b c w h0 h1 h2 h3 h4 hE
end Go.Proofs.Yteepnkhfeokenaa
