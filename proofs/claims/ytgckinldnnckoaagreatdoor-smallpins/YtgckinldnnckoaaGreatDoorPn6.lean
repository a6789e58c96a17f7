import Derived.Deep.RegionHeld3
import Derived.Laws.BitsAllLaws
import Derived.Test.YtgckinldnnckoaaGreatDoorPn5
namespace Go.Proofs.YtgckinldnnckoaaGreatDoor.Ly
open Go.RowKit

theorem Kp.nine {w w1 : World} (h : Kp w w1) {b : Nat} {v0 v1 v2 v3 v4 v5 v6 v7 v8 : Value} {t : TypeId} (hb : w.heap[b]? = some (.cells #[v0, v1, v2, v3, v4, v5, v6, v7, v8] t)) :
    w1.cell? ⟨b, 0, none⟩ = some v0 ∧ w1.cell? ⟨b, 1, none⟩ = some v1 ∧ w1.cell? ⟨b, 2, none⟩ = some v2 ∧ w1.cell? ⟨b, 3, none⟩ = some v3 ∧ w1.cell? ⟨b, 4, none⟩ = some v4 ∧ w1.cell? ⟨b, 5, none⟩ = some v5 ∧ w1.cell? ⟨b, 6, none⟩ = some v6 ∧ w1.cell? ⟨b, 7, none⟩ = some v7 ∧ w1.cell? ⟨b, 8, none⟩ = some v8 ∧
    w1.frozen? ⟨b, 0, none⟩ = false ∧ w1.frozen? ⟨b, 1, none⟩ = false ∧ w1.frozen? ⟨b, 2, none⟩ = false ∧ w1.frozen? ⟨b, 3, none⟩ = false ∧ w1.frozen? ⟨b, 4, none⟩ = false ∧ w1.frozen? ⟨b, 5, none⟩ = false ∧ w1.frozen? ⟨b, 6, none⟩ = false ∧ w1.frozen? ⟨b, 7, none⟩ = false ∧ w1.frozen? ⟨b, 8, none⟩ = false := by
  have hlt : b < w.heap.size := (Array.getElem?_eq_some_iff.1 hb).1
  have hb1 : w1.heap[b]? = some (.cells #[v0, v1, v2, v3, v4, v5, v6, v7, v8] t) := (h.block b hlt).trans hb
  simp [World.cell?, World.frozen?, hb1]

theorem Kp.blk {w w1 : World} (h : Kp w w1) {b : Nat} {x : Obj} (hb : w.heap[b]? = some x) : w1.heap[b]? = some x :=
  (h.block b (Array.getElem?_eq_some_iff.1 hb).1).trans hb
theorem set_one {w : World} {b : Nat} {cs : Array Value} {t : TypeId} (h : w.heap[b]? = some (.cells cs t)) (i : Nat) (v : Value) (hi : i < cs.size) :
    (w.setCell ⟨b, i, none⟩ v).heap[b]? = some (.cells (cs.set i v hi) t) := by
  have hlt := (Array.getElem?_eq_some_iff.1 h).1
  have hv := (Array.getElem?_eq_some_iff.1 h).2
  simp only [World.setCell, Array.getElem?_modify]
  simp [hlt, hv, hi, Array.setIfInBounds]
theorem nine_set {w0 w : World} {b : Nat} {u0 u1 u2 u3 u4 u5 u6 u7 u8 : Value} {t : TypeId} (h : w.heap[b]? = some (.cells #[u0, u1, u2, u3, u4, u5, u6, u7, u8] t)) (k : Kp w0 w) (hb : w0.heap.size ≤ b)
    {v0 v1 v2 v3 v4 v5 v6 v7 v8 : Value} {P : World → Prop} (hP : ∀ w9, w9.heap[b]? = some (.cells #[v0, v1, v2, v3, v4, v5, v6, v7, v8] t) → Kp w0 w9 → P w9) :
    P (((((((((w.setCell ⟨b, 0, none⟩ v0).setCell ⟨b, 1, none⟩ v1).setCell ⟨b, 2, none⟩ v2).setCell ⟨b, 3, none⟩ v3).setCell ⟨b, 4, none⟩ v4).setCell ⟨b, 5, none⟩ v5).setCell ⟨b, 6, none⟩ v6).setCell ⟨b, 7, none⟩ v7).setCell ⟨b, 8, none⟩ v8) := by
  refine hP _ ?_ ?_
  · have h0 := set_one h 0 v0 (by simp)
    have h1 := set_one h0 1 v1 (by simp)
    have h2 := set_one h1 2 v2 (by simp)
    have h3 := set_one h2 3 v3 (by simp)
    have h4 := set_one h3 4 v4 (by simp)
    have h5 := set_one h4 5 v5 (by simp)
    have h6 := set_one h5 6 v6 (by simp)
    have h7 := set_one h6 7 v7 (by simp)
    have h8 := set_one h7 8 v8 (by simp)
    exact h8
  · exact Below.setCell (Below.setCell (Below.setCell (Below.setCell (Below.setCell (Below.setCell (Below.setCell (Below.setCell (Below.setCell k hb _) hb _) hb _) hb _) hb _) hb _) hb _) hb _) hb _

theorem parse_wrong (v : Option Addr) (n cap : Nat) (w : World) (h : n ≠ 5) :
    Calls Tryz.prog 141 #[.slice v n cap] w fun r w' => r = .returned (.tuple #[Lay.zero.val, .int .i64 30]) ∧ Kp w w' := by
  have h' : ((n : Int) != 5) = true := by simp; omega
  go_enter Tryz.func141, Tryz.ntmps141
  go_wp2_with fail
  refine bodyPost_ret (v := .tuple #[Lay.zero.val, .int .i64 30]) (by simp [results, Tryz.results141, go_sem, Lay.val, Lay.zero]) rfl ⟨rfl, ?_⟩
  repeat first | exact Below.refl _ _ | refine Below.alloc ?_ (by simp <;> omega) _ | refine Below.setCell ?_ (by simp <;> omega) _

theorem Kp.frozen {w w1 : World} (h : Kp w w1) {b o : Nat} (hb : b < w.heap.size) (hf : w.frozen? ⟨b, o, none⟩ = false) : w1.frozen? ⟨b, o, none⟩ = false :=
  (Below.frozen h (p := ⟨b, o, none⟩) hb).trans hf
theorem heap_new (w : World) (o : Obj) : (w.alloc o).heap[w.heap.size]? = some o := by
  show (w.heap.push o)[w.heap.size]? = _
  simp
theorem heap_old {w : World} {b : Nat} {x : Obj} (h : w.heap[b]? = some x) (o : Obj) : (w.alloc o).heap[b]? = some x :=
  (Below.heap_alloc w o b (Array.getElem?_eq_some_iff.1 h).1).trans h
theorem heap_next (w : World) (o q : Obj) : ((w.alloc o).alloc q).heap[w.heap.size + 1]? = some q := by
  have := heap_new (w.alloc o) q
  simpa using this

set_option maxHeartbeats 2000000 in
theorem parse_ok (g o cap : Nat) (k e a b c : Int) (w : World) (h0 : w.cell? ⟨g, o, none⟩ = some (.int .i64 k)) (h1 : w.cell? ⟨g, o + 1, none⟩ = some (.int .i64 e))
    (h2 : w.cell? ⟨g, o + 2, none⟩ = some (.int .i64 a)) (h3 : w.cell? ⟨g, o + 3, none⟩ = some (.int .i64 b)) (h4 : w.cell? ⟨g, o + 4, none⟩ = some (.int .i64 c)) (hE : errN k e a b c = 0) :
    Calls Tryz.prog 141 #[.slice (some ⟨g, o, none⟩) 5 cap] w fun r w' => r = .returned (.tuple #[(laidD k e a b c).val, .int .i64 0]) ∧ Kp w w' := by
  go_enter Tryz.func141, Tryz.ntmps141
  go_wp2_with fail
  go_region_held3 (fun w' => w'.cell? ⟨g, o, none⟩ = some (.int .i64 k) ∧ w'.cell? ⟨g, o + 1, none⟩ = some (.int .i64 e) ∧ w'.cell? ⟨g, o + 2, none⟩ = some (.int .i64 a) ∧ w'.cell? ⟨g, o + 3, none⟩ = some (.int .i64 b) ∧ w'.cell? ⟨g, o + 4, none⟩ = some (.int .i64 c)) (go_keep) (fail)
  go_wp2_with fail
  refine (refused_any k e a b c 0 0 0 0 _).mono ?_
  rintro r w1 ⟨rfl, k1⟩
  clear h0 h1 h2 h3 h4
  obtain ⟨a0, a1, a2, a3, a4, a5, a6, a7, a8, f0, f1, f2, f3, f4, f5, f6, f7, f8⟩ := k1.nine (heap_next _ _ _)
  have hB := k1.blk (b := w.heap.size) (heap_old (heap_new _ _) _)
  obtain ⟨b0, b1, b2, b3, b4, b5, b6, b7, b8, g0, g1, g2, g3, g4, g5, g6, g7, g8⟩ := (Kp.refl w1).nine hB
  have k0 : Kp w w1 := Kp.trans (((Kp.refl w).alloc _).alloc _).drew k1
  clear k1
  have hL : ∀ W, Calls Tryz.prog 173 #[.agg #[.int .i64 k, .int .i64 e, .int .i64 a, .int .i64 b, .int .i64 c, .int .i64 0, .int .i64 0, .int .i64 0, .int .i64 0]] W
      fun r w' => r = .returned (.agg #[.int .i64 (laidD k e a b c).k, .int .i64 (laidD k e a b c).e, .int .i64 (laidD k e a b c).a, .int .i64 (laidD k e a b c).b, .int .i64 (laidD k e a b c).c, .int .i64 (laidD k e a b c).eo, .int .i64 (laidD k e a b c).bo, .int .i64 (laidD k e a b c).s, .int .i64 (laidD k e a b c).g]) ∧ Kp W w' := fun W => laid_any k e a b c 0 0 0 0 W hE
  rw [hE]
  generalize hl : laidD k e a b c = l at hL
  go_wp2_with fail
  refine (hL _).mono ?_
  rintro r w2 ⟨rfl, k2⟩
  have k3 : Kp w w2 := k0.trans k2
  clear hL a0 a1 a2 a3 a4 a5 a6 a7 a8 f0 f1 f2 f3 f4 f5 f6 f7 f8 b0 b1 b2 b3 b4 b5 b6 b7 b8 g0 g1 g2 g3 g4 g5 g6 g7 g8
  replace hB := k2.blk hB
  obtain ⟨b0, b1, b2, b3, b4, b5, b6, b7, b8, g0, g1, g2, g3, g4, g5, g6, g7, g8⟩ := (Kp.refl w2).nine hB
  go_wp2_with fail
  clear b0 b1 b2 b3 b4 b5 b6 b7 b8 g0 g1 g2 g3 g4 g5 g6 g7 g8
  refine nine_set hB k3 (Nat.le_refl _) (P := fun w9 => bodyPost _ _ _ _ _ w9) fun w9 h9 k9 => ?_
  obtain ⟨b0, b1, b2, b3, b4, b5, b6, b7, b8, -⟩ := (Kp.refl w9).nine h9
  refine bodyPost_ret (v := .tuple #[l.val, .int .i64 0]) (by simp [results, Tryz.results141, go_sem, Lay.val, b0, b1, b2, b3, b4, b5, b6, b7, b8]) rfl ⟨by rw [hl], k9⟩

set_option maxHeartbeats 2000000 in
theorem parse_err (g o cap : Nat) (k e a b c : Int) (w : World) (h0 : w.cell? ⟨g, o, none⟩ = some (.int .i64 k)) (h1 : w.cell? ⟨g, o + 1, none⟩ = some (.int .i64 e))
    (h2 : w.cell? ⟨g, o + 2, none⟩ = some (.int .i64 a)) (h3 : w.cell? ⟨g, o + 3, none⟩ = some (.int .i64 b)) (h4 : w.cell? ⟨g, o + 4, none⟩ = some (.int .i64 c)) (hE : ¬ errN k e a b c = 0) :
    Calls Tryz.prog 141 #[.slice (some ⟨g, o, none⟩) 5 cap] w fun r w' => r = .returned (.tuple #[Lay.zero.val, .int .i64 (errN k e a b c)]) ∧ Kp w w' := by
  go_enter Tryz.func141, Tryz.ntmps141
  go_wp2_with fail
  go_region_held3 (fun w' => w'.cell? ⟨g, o, none⟩ = some (.int .i64 k) ∧ w'.cell? ⟨g, o + 1, none⟩ = some (.int .i64 e) ∧ w'.cell? ⟨g, o + 2, none⟩ = some (.int .i64 a) ∧ w'.cell? ⟨g, o + 3, none⟩ = some (.int .i64 b) ∧ w'.cell? ⟨g, o + 4, none⟩ = some (.int .i64 c)) (go_keep) (fail)
  go_wp2_with fail
  refine (refused_any k e a b c 0 0 0 0 _).mono ?_
  rintro r w1 ⟨rfl, k1⟩
  clear h0 h1 h2 h3 h4
  obtain ⟨a0, a1, a2, a3, a4, a5, a6, a7, a8, f0, f1, f2, f3, f4, f5, f6, f7, f8⟩ := k1.nine (heap_next _ _ _)
  have hB := k1.blk (b := w.heap.size) (heap_old (heap_new _ _) _)
  obtain ⟨b0, b1, b2, b3, b4, b5, b6, b7, b8, g0, g1, g2, g3, g4, g5, g6, g7, g8⟩ := (Kp.refl w1).nine hB
  have k0 : Kp w w1 := Kp.trans (((Kp.refl w).alloc _).alloc _).drew k1
  clear k1
  have hE' : (errN k e a b c != 0) = true := by simpa using hE
  go_wp2_with fail
  clear b0 b1 b2 b3 b4 b5 b6 b7 b8 g0 g1 g2 g3 g4 g5 g6 g7 g8
  refine nine_set hB k0 (Nat.le_refl _) (P := fun w9 => bodyPost _ _ _ _ _ w9) fun w9 h9 k9 => ?_
  obtain ⟨b0, b1, b2, b3, b4, b5, b6, b7, b8, -⟩ := (Kp.refl w9).nine h9
  refine bodyPost_ret (v := .tuple #[Lay.zero.val, .int .i64 (errN k e a b c)]) (by simp [results, Tryz.results141, go_sem, Lay.val, Lay.zero, b0, b1, b2, b3, b4, b5, b6, b7, b8]) rfl ⟨rfl, k9⟩

theorem parse_five (g o cap : Nat) (k e a b c : Int) (w : World) (h0 : w.cell? ⟨g, o, none⟩ = some (.int .i64 k)) (h1 : w.cell? ⟨g, o + 1, none⟩ = some (.int .i64 e))
    (h2 : w.cell? ⟨g, o + 2, none⟩ = some (.int .i64 a)) (h3 : w.cell? ⟨g, o + 3, none⟩ = some (.int .i64 b)) (h4 : w.cell? ⟨g, o + 4, none⟩ = some (.int .i64 c)) :
    Calls Tryz.prog 141 #[.slice (some ⟨g, o, none⟩) 5 cap] w fun r w' => r = .returned (.tuple #[(parseD [k, e, a, b, c]).1.val, .int .i64 (parseD [k, e, a, b, c]).2]) ∧ Kp w w' := by
  by_cases hE : errN k e a b c = 0
  · have hP : parseD [k, e, a, b, c] = (laidD k e a b c, 0) := if_pos hE
    rw [hP]
    exact parse_ok g o cap k e a b c w h0 h1 h2 h3 h4 hE
  · have hP : parseD [k, e, a, b, c] = (Lay.zero, errN k e a b c) := if_neg hE
    rw [hP]
    exact parse_err g o cap k e a b c w h0 h1 h2 h3 h4 hE
end Go.Proofs.YtgckinldnnckoaaGreatDoor.Ly
namespace Go.Proofs.YtgckinldnnckoaaGreatDoor.Ly
open Go.RowKit

theorem cell_blk {w : World} {b i : Nat} {cs : Array Value} {t : TypeId} {v : Value} (h : w.heap[b]? = some (.cells cs t)) (hv : cs[i]? = some v) : w.cell? ⟨b, i, none⟩ = some v := by
  simp [World.cell?, h, hv]

theorem parse_zero {k e a b c : Int} {m : Lay} (h : parseD [k, e, a, b, c] = (m, 0)) : errN k e a b c = 0 ∧ laidD k e a b c = m := by
  by_cases hE : errN k e a b c = 0
  · have hP : parseD [k, e, a, b, c] = (laidD k e a b c, 0) := if_pos hE
    rw [hP] at h
    exact ⟨hE, congrArg Prod.fst h⟩
  · have hP : parseD [k, e, a, b, c] = (Lay.zero, errN k e a b c) := if_neg hE
    rw [hP] at h
    exact absurd (congrArg Prod.snd h) hE

set_option maxHeartbeats 4000000 in
theorem valid_any (l : Lay) (w : World) :
    Calls Tryz.prog 107 #[.agg #[.int .i64 l.k, .int .i64 l.e, .int .i64 l.a, .int .i64 l.b, .int .i64 l.c, .int .i64 l.eo, .int .i64 l.bo, .int .i64 l.s, .int .i64 l.g]] w
      fun r w' => r = .returned (.bool (validB l)) ∧ Kp w w' := by
  generalize hv : validB l = V
  obtain ⟨k, e, a, b, c, eo, bo, s, g⟩ := l
  generalize hm : parseD [k, e, a, b, c] = M
  obtain ⟨m, er⟩ := M
  obtain ⟨m0, m1, m2, m3, m4, m5, m6, m7, m8⟩ := m
  have hP := fun (g' : Nat) W h0 h1 h2 h3 h4 => parse_five g' 0 5 k e a b c W h0 h1 h2 h3 h4
  rw [hm] at hP
  go_enter Tryz.func107, Tryz.ntmps107
  go_wp2_with fail
  refine (hP _ _ (cell_blk (heap_next _ _ _) rfl) (cell_blk (heap_next _ _ _) rfl) (cell_blk (heap_next _ _ _) rfl) (cell_blk (heap_next _ _ _) rfl) (cell_blk (heap_next _ _ _) rfl)).mono ?_
  rintro r w1 ⟨rfl, k1⟩
  clear hP
  have k0 : Kp w w1 := Kp.trans ((Kp.refl w).alloc _ |>.alloc _) k1
  obtain ⟨b0, b1, b2, b3, b4, b5, b6, b7, b8, -⟩ := k1.nine (b := w.heap.size) (heap_old (heap_new _ _) _)
  have hlt : w.heap.size < w1.heap.size := by
    have := k1.size
    simp at this
    omega
  clear k1
  unfold Lay.val
  by_cases hE : er = 0
  · subst hE
    have hV : Hid (V = decide (k = m0 ∧ e = m1 ∧ a = m2 ∧ b = m3 ∧ c = m4 ∧ eo = m5 ∧ bo = m6 ∧ s = m7 ∧ g = m8)) := by
      obtain ⟨h1, h2⟩ := parse_zero hm
      rw [← hv]
      show decide (errN k e a b c = 0 ∧ (⟨k, e, a, b, c, eo, bo, s, g⟩ : Lay) = laidD k e a b c) = _
      rw [h2]
      simp [h1]
    clear hv hm
    go_wp2_with fail
    all_goals
      go_ret
      refine ⟨?_, k0.alloc _⟩
      rw [hV.out]
      simp [*]
  · have hE' : (er == 0) = false := by simpa using hE
    have hV : V = false := by
      rw [← hv]
      show decide (errN k e a b c = 0 ∧ (⟨k, e, a, b, c, eo, bo, s, g⟩ : Lay) = laidD k e a b c) = _
      refine decide_eq_false fun h => ?_
      have : parseD [k, e, a, b, c] = (laidD k e a b c, 0) := if_pos h.1
      rw [hm] at this
      exact hE (congrArg Prod.snd this)
    subst hV
    clear hv hm
    go_wp2_with fail
    go_ret
    exact ⟨rfl, k0.alloc _⟩
end Go.Proofs.YtgckinldnnckoaaGreatDoor.Ly
namespace Go.Proofs.YtgckinldnnckoaaGreatDoor.Ly
open Go.RowKit

def placeD (l : Lay) (i x : Int) : Int := if 0 ≤ i ∧ i < 8 ∧ validB l = true then 8 + i * l.s + x else -1

theorem slot_bound {k e b : Int} (h0 : 1 ≤ k) (h1 : k ≤ 128) (h2 : 0 ≤ e) (h3 : e ≤ 128) (hb : b = 1 ∨ b = 2 ∨ b = 4 ∨ b = 8) :
    1 ≤ up k b ∧ up k b ≤ 135 ∧ 1 ≤ up (up k b + e) 8 ∧ up (up k b + e) 8 ≤ 270 ∧ 9 ≤ slotOf k e b ∧ slotOf k e b ≤ 278 := by
  have u1 := up_bound (x := k) hb
  have u2 := up_bound (x := up k b + e) (a := 8) (by omega)
  unfold slotOf
  omega
theorem valid_bound {l : Lay} (h : validB l = true) : errN l.k l.e l.a l.b l.c = 0 ∧ l = laidD l.k l.e l.a l.b l.c ∧ 1 ≤ l.eo ∧ l.eo ≤ 135 ∧ 1 ≤ l.bo ∧ l.bo ≤ 270 ∧ 9 ≤ l.s ∧ l.s ≤ 278 ∧ l.g = 8 + 8 * l.s := by
  obtain ⟨h1, h2⟩ := of_decide_eq_true h
  obtain ⟨e1, e2, e3, e4, e5, e6, e7⟩ := errN_zero h1
  have hb := (al_one e6).1
  have := slot_bound e1 e2 e3 e4 hb
  refine ⟨h1, h2, ?_⟩
  have f1 : l.eo = up l.k l.b := congrArg Lay.eo h2
  have f2 : l.bo = up (up l.k l.b + l.e) 8 := congrArg Lay.bo h2
  have f3 : l.s = slotOf l.k l.e l.b := congrArg Lay.s h2
  have f4 : l.g = 8 + 8 * slotOf l.k l.e l.b := congrArg Lay.g h2
  rw [f1, f2, f4, ← f3]
  rw [← f3] at this
  omega

set_option maxHeartbeats 4000000 in
theorem place_any (l : Lay) (i x : Int) (w : World) (hx : validB l = true → 0 ≤ x ∧ x ≤ 300) :
    Calls Tryz.prog 132 #[.agg #[.int .i64 l.k, .int .i64 l.e, .int .i64 l.a, .int .i64 l.b, .int .i64 l.c, .int .i64 l.eo, .int .i64 l.bo, .int .i64 l.s, .int .i64 l.g], .int .i64 i, .int .i64 x] w
      fun r w' => r = .returned (.int .i64 (placeD l i x)) ∧ Kp w w' := by
  by_cases h1 : i < 0
  · have e : placeD l i x = -1 := if_neg (fun h => by omega)
    rw [e]
    go_enter Tryz.func132, Tryz.ntmps132
    go_wp2_with fail
    go_ret
    exact ⟨rfl, (Kp.refl w).alloc _⟩
  by_cases h2 : 8 ≤ i
  · have e : placeD l i x = -1 := if_neg (fun h => by omega)
    rw [e]
    go_enter Tryz.func132, Tryz.ntmps132
    go_wp2_with fail
    go_ret
    exact ⟨rfl, (Kp.refl w).alloc _⟩
  have hV := fun W => valid_any l W
  cases hv : validB l
  · have e : placeD l i x = -1 := if_neg (fun h => by rw [hv] at h; exact absurd h.2.2 (by simp))
    rw [e]
    rw [hv] at hV
    go_enter Tryz.func132, Tryz.ntmps132
    go_wp2_with fail
    refine (hV _).mono ?_
    rintro r w1 ⟨rfl, k1⟩
    clear hV
    go_wp2_with fail
    go_ret
    exact ⟨rfl, ((Kp.refl w).alloc _).trans k1⟩
  · have e : placeD l i x = 8 + i * l.s + x := if_pos ⟨by omega, by omega, hv⟩
    have hx := hx hv
    have hb := valid_bound hv
    have hs0 : 0 ≤ i * l.s := Int.mul_nonneg (by omega) (by omega)
    have hs1 : i * l.s ≤ 8 * 278 := Int.mul_le_mul (by omega) (by omega) (by omega) (by omega)
    rw [e]
    rw [hv] at hV
    clear hb hv e
    go_enter Tryz.func132, Tryz.ntmps132
    go_wp2_with fail
    refine (hV _).mono ?_
    rintro r w1 ⟨rfl, k1⟩
    clear hV
    have k0 : Kp w w1 := ((Kp.refl w).alloc _).trans k1
    obtain ⟨b0, b1, b2, b3, b4, b5, b6, b7, b8, -⟩ := k1.nine (b := w.heap.size) (heap_new _ _)
    clear k1 b0 b1 b2 b3 b4 b5 b6 b8
    go_wp2_with fail
    go_ret
    exact ⟨rfl, k0⟩
end Go.Proofs.YtgckinldnnckoaaGreatDoor.Ly
namespace Go.Proofs.YtgckinldnnckoaaGreatDoor.Ly
open Go.RowKit

set_option maxHeartbeats 4000000 in
theorem keyAt_any (l : Lay) (i : Int) (w : World) :
    Calls Tryz.prog 133 #[.agg #[.int .i64 l.k, .int .i64 l.e, .int .i64 l.a, .int .i64 l.b, .int .i64 l.c, .int .i64 l.eo, .int .i64 l.bo, .int .i64 l.s, .int .i64 l.g], .int .i64 i] w
      fun r w' => r = .returned (.int .i64 (placeD l i 0)) ∧ Kp w w' := by
  have hP := fun W => place_any l i 0 W (fun _ => by omega)
  go_enter Tryz.func133, Tryz.ntmps133
  go_wp2_with fail
  refine (hP _).mono ?_
  rintro r w1 ⟨rfl, k1⟩
  clear hP
  go_wp2_with fail
  go_ret
  exact ⟨rfl, ((Kp.refl w).alloc _).trans k1⟩

set_option maxHeartbeats 4000000 in
theorem elemAt_any (l : Lay) (i : Int) (w : World) :
    Calls Tryz.prog 96 #[.agg #[.int .i64 l.k, .int .i64 l.e, .int .i64 l.a, .int .i64 l.b, .int .i64 l.c, .int .i64 l.eo, .int .i64 l.bo, .int .i64 l.s, .int .i64 l.g], .int .i64 i] w
      fun r w' => r = .returned (.int .i64 (placeD l i l.eo)) ∧ Kp w w' := by
  have hP := fun W => place_any l i l.eo W (fun h => by have := valid_bound h; omega)
  go_enter Tryz.func96, Tryz.ntmps96
  go_wp2_with fail
  refine (hP _).mono ?_
  rintro r w1 ⟨rfl, k1⟩
  clear hP
  go_wp2_with fail
  go_ret
  exact ⟨rfl, ((Kp.refl w).alloc _).trans k1⟩

set_option maxHeartbeats 4000000 in
theorem birthAt_any (l : Lay) (i : Int) (w : World) :
    Calls Tryz.prog 119 #[.agg #[.int .i64 l.k, .int .i64 l.e, .int .i64 l.a, .int .i64 l.b, .int .i64 l.c, .int .i64 l.eo, .int .i64 l.bo, .int .i64 l.s, .int .i64 l.g], .int .i64 i] w
      fun r w' => r = .returned (.int .i64 (placeD l i l.bo)) ∧ Kp w w' := by
  have hP := fun W => place_any l i l.bo W (fun h => by have := valid_bound h; omega)
  go_enter Tryz.func119, Tryz.ntmps119
  go_wp2_with fail
  refine (hP _).mono ?_
  rintro r w1 ⟨rfl, k1⟩
  clear hP
  go_wp2_with fail
  go_ret
  exact ⟨rfl, ((Kp.refl w).alloc _).trans k1⟩

def groupsD (l : Lay) (n : Int) : Int := if pw n 8 65536 = true ∧ validB l = true then n / 8 * l.g else -1

set_option maxHeartbeats 4000000 in
theorem groups_any (l : Lay) (n : Int) (w : World) :
    Calls Tryz.prog 68 #[.agg #[.int .i64 l.k, .int .i64 l.e, .int .i64 l.a, .int .i64 l.b, .int .i64 l.c, .int .i64 l.eo, .int .i64 l.bo, .int .i64 l.s, .int .i64 l.g], .int .i64 n] w
      fun r w' => r = .returned (.int .i64 (groupsD l n)) ∧ Kp w w' := by
  have hP := fun W => power_any n 8 65536 W (by omega) (by omega)
  have hV := fun W => valid_any l W
  cases hp : pw n 8 65536
  · have e : groupsD l n = -1 := if_neg (fun h => by rw [hp] at h; exact absurd h.1 (by simp))
    rw [e]
    rw [hp] at hP
    clear hp e hV
    go_enter Tryz.func68, Tryz.ntmps68
    go_wp2_with fail
    refine (hP _).mono ?_
    rintro r w1 ⟨rfl, rfl⟩
    clear hP
    go_wp2_with fail
    go_ret
    exact ⟨rfl, (Kp.refl w).alloc _⟩
  cases hv : validB l
  · have e : groupsD l n = -1 := if_neg (fun h => by rw [hv] at h; exact absurd h.2 (by simp))
    rw [e]
    rw [hp] at hP
    rw [hv] at hV
    clear hp hv e
    go_enter Tryz.func68, Tryz.ntmps68
    go_wp2_with fail
    refine (hP _).mono ?_
    rintro r w1 ⟨rfl, rfl⟩
    clear hP
    go_wp2_with fail
    refine (hV _).mono ?_
    rintro r w1 ⟨rfl, k1⟩
    clear hV
    go_wp2_with fail
    go_ret
    exact ⟨rfl, ((Kp.refl w).alloc _).trans k1⟩
  · have e : groupsD l n = n / 8 * l.g := if_pos ⟨hp, hv⟩
    rw [e]
    have hb := valid_bound hv
    have hn : 8 ≤ n ∧ n ≤ 65536 := by
      have := of_decide_eq_true hp
      omega
    have hn1 : 8 ≤ n := hn.1
    have hq0 : 0 ≤ n / 8 := by omega
    have hq1 : n / 8 ≤ 8192 := by omega
    have hg0 : 0 ≤ l.g := by omega
    have hg1 : l.g ≤ 3000 := by omega
    have hm0 : 0 ≤ n / 8 * l.g := Int.mul_nonneg hq0 hg0
    have hm1 : n / 8 * l.g ≤ 8192 * 3000 := Int.mul_le_mul hq1 hg1 hg0 (by omega)
    rw [hp] at hP
    rw [hv] at hV
    clear hp hv e hb hn
    go_enter Tryz.func68, Tryz.ntmps68
    go_wp2_with fail
    refine (hP _).mono ?_
    rintro r w1 ⟨rfl, rfl⟩
    clear hP
    go_wp2_with fail
    refine (hV _).mono ?_
    rintro r w1 ⟨rfl, k1⟩
    clear hV
    have k0 : Kp w w1 := ((Kp.refl w).alloc _).trans k1
    obtain ⟨b0, b1, b2, b3, b4, b5, b6, b7, b8, -⟩ := k1.nine (b := w.heap.size) (heap_new _ _)
    clear k1 b0 b1 b2 b3 b4 b5 b6 b7
    go_wp2_with fail
    go_ret
    exact ⟨rfl, k0⟩
end Go.Proofs.YtgckinldnnckoaaGreatDoor.Ly
/-
  A control word as eight bytes: what each call makes of it, as plain numbers.
-/
namespace Go.Proofs.YtgckinldnnckoaaGreatDoor.Ct

/-- The byte of slot i. -/
def byN (w i : Nat) : Nat := w / 256 ^ i % 256
theorem byN_lt (w i : Nat) : byN w i < 256 := Nat.mod_lt _ (by decide)
theorem pow_byte (i : Nat) : (256 : Nat) ^ i = 2 ^ (8 * i) := by rw [Nat.pow_mul]
theorem byN_xor (a b i : Nat) : byN (a ^^^ b) i = byN a i ^^^ byN b i := by
  unfold byN
  rw [pow_byte, ← Nat.shiftRight_eq_div_pow, ← Nat.shiftRight_eq_div_pow, ← Nat.shiftRight_eq_div_pow, Nat.shiftRight_xor_distrib]
  exact Nat.xor_mod_two_pow (n := 8)
theorem byN_and (a b i : Nat) : byN (a &&& b) i = byN a i &&& byN b i := by
  unfold byN
  rw [pow_byte, ← Nat.shiftRight_eq_div_pow, ← Nat.shiftRight_eq_div_pow, ← Nat.shiftRight_eq_div_pow, Nat.shiftRight_and_distrib]
  exact Nat.and_mod_two_pow (n := 8)
theorem byN_or (a b i : Nat) : byN (a ||| b) i = byN a i ||| byN b i := by
  unfold byN
  rw [pow_byte, ← Nat.shiftRight_eq_div_pow, ← Nat.shiftRight_eq_div_pow, ← Nat.shiftRight_eq_div_pow, Nat.shiftRight_or_distrib]
  exact Nat.or_mod_two_pow (n := 8)

/-- Eight bytes as a word. -/
def of8 (f : Nat → Nat) : Nat := f 0 + 256 * f 1 + 65536 * f 2 + 16777216 * f 3 + 4294967296 * f 4 + 1099511627776 * f 5 + 281474976710656 * f 6 + 72057594037927936 * f 7
theorem of8_lt {f : Nat → Nat} (h : ∀ i, i < 8 → f i < 256) : of8 f < 18446744073709551616 := by
  unfold of8
  have h0 := h 0 (by decide)
  have h1 := h 1 (by decide)
  have h2 := h 2 (by decide)
  have h3 := h 3 (by decide)
  have h4 := h 4 (by decide)
  have h5 := h 5 (by decide)
  have h6 := h 6 (by decide)
  have h7 := h 7 (by decide)
  omega
theorem lt8 {P : Nat → Prop} {i : Nat} (hi : i < 8) (h0 : P 0) (h1 : P 1) (h2 : P 2) (h3 : P 3) (h4 : P 4) (h5 : P 5) (h6 : P 6) (h7 : P 7) : P i := by
  rcases (by omega : i = 0 ∨ i = 1 ∨ i = 2 ∨ i = 3 ∨ i = 4 ∨ i = 5 ∨ i = 6 ∨ i = 7) with rfl | rfl | rfl | rfl | rfl | rfl | rfl | rfl <;> assumption
theorem byN_of8 {f : Nat → Nat} (h : ∀ i, i < 8 → f i < 256) {i : Nat} (hi : i < 8) : byN (of8 f) i = f i := by
  have h0 := h 0 (by decide)
  have h1 := h 1 (by decide)
  have h2 := h 2 (by decide)
  have h3 := h 3 (by decide)
  have h4 := h 4 (by decide)
  have h5 := h 5 (by decide)
  have h6 := h 6 (by decide)
  have h7 := h 7 (by decide)
  refine lt8 (P := fun i => byN (of8 f) i = f i) hi ?_ ?_ ?_ ?_ ?_ ?_ ?_ ?_ <;> simp only [byN, of8, Nat.reducePow] <;> omega
theorem of8_byN {w : Nat} (h : w < 18446744073709551616) : of8 (byN w) = w := by
  simp only [byN, of8, Nat.reducePow]
  omega
theorem ext8 {a b : Nat} (ha : a < 18446744073709551616) (hb : b < 18446744073709551616) (h : ∀ i, i < 8 → byN a i = byN b i) : a = b := by
  rw [← of8_byN ha, ← of8_byN hb]
  unfold of8
  rw [h 0 (by decide), h 1 (by decide), h 2 (by decide), h 3 (by decide), h 4 (by decide), h 5 (by decide), h 6 (by decide), h 7 (by decide)]
theorem byN_not {w i : Nat} (hw : w < 18446744073709551616) (hi : i < 8) : byN (18446744073709551615 - w) i = 255 - byN w i := by
  refine lt8 (P := fun i => byN (18446744073709551615 - w) i = 255 - byN w i) hi ?_ ?_ ?_ ?_ ?_ ?_ ?_ ?_ <;> simp only [byN, Nat.reducePow] <;> omega
theorem byN_add {a b : Nat} (ha : a < 18446744073709551616) (hb : b < 18446744073709551616) (h : ∀ i, i < 8 → byN a i + byN b i < 256) {i : Nat} (hi : i < 8) : byN (a + b) i = byN a i + byN b i := by
  have e : a + b = of8 (fun i => byN a i + byN b i) := by
    have e1 := of8_byN ha
    have e2 := of8_byN hb
    unfold of8 at e1 e2 ⊢
    dsimp only
    omega
  rw [e, byN_of8 (f := fun i => byN a i + byN b i) h hi]
theorem add_lt {a b : Nat} (ha : a < 18446744073709551616) (hb : b < 18446744073709551616) (h : ∀ i, i < 8 → byN a i + byN b i < 256) : a + b < 18446744073709551616 := by
  have e : a + b = of8 (fun i => byN a i + byN b i) := by
    have e1 := of8_byN ha
    have e2 := of8_byN hb
    unfold of8 at e1 e2 ⊢
    dsimp only
    omega
  rw [e]
  exact of8_lt (f := fun i => byN a i + byN b i) h
theorem byN_ones {c i : Nat} (hc : c < 256) (hi : i < 8) : byN (c * 72340172838076673) i = c := by
  have e : c * 72340172838076673 = of8 (fun _ => c) := by
    unfold of8
    dsimp only
    omega
  rw [e, byN_of8 (fun _ _ => hc) hi]

/-- The slots whose byte is so, as a number of eight bits. -/
def mk (p : Nat → Bool) (w : Nat) : Nat := (p (byN w 0)).toNat + 2 * (p (byN w 1)).toNat + 4 * (p (byN w 2)).toNat + 8 * (p (byN w 3)).toNat + 16 * (p (byN w 4)).toNat + 32 * (p (byN w 5)).toNat + 64 * (p (byN w 6)).toNat + 128 * (p (byN w 7)).toNat
/-- The slot i is in it. -/
def hasM (m i : Nat) : Bool := m / 2 ^ i % 2 == 1
theorem toNat_le (b : Bool) : b.toNat ≤ 1 := by cases b <;> decide
theorem mk_lt (p : Nat → Bool) (w : Nat) : mk p w < 256 := by
  unfold mk
  have h0 := toNat_le (p (byN w 0))
  have h1 := toNat_le (p (byN w 1))
  have h2 := toNat_le (p (byN w 2))
  have h3 := toNat_le (p (byN w 3))
  have h4 := toNat_le (p (byN w 4))
  have h5 := toNat_le (p (byN w 5))
  have h6 := toNat_le (p (byN w 6))
  have h7 := toNat_le (p (byN w 7))
  omega
theorem mk_bit (p : Nat → Bool) (w : Nat) {i : Nat} (hi : i < 8) : mk p w / 2 ^ i % 2 = (p (byN w i)).toNat := by
  have h0 := toNat_le (p (byN w 0))
  have h1 := toNat_le (p (byN w 1))
  have h2 := toNat_le (p (byN w 2))
  have h3 := toNat_le (p (byN w 3))
  have h4 := toNat_le (p (byN w 4))
  have h5 := toNat_le (p (byN w 5))
  have h6 := toNat_le (p (byN w 6))
  have h7 := toNat_le (p (byN w 7))
  refine lt8 (P := fun i => mk p w / 2 ^ i % 2 = (p (byN w i)).toNat) hi ?_ ?_ ?_ ?_ ?_ ?_ ?_ ?_ <;> simp only [mk, Nat.reducePow] <;> omega
theorem hasM_mk (p : Nat → Bool) (w : Nat) {i : Nat} (hi : i < 8) : hasM (mk p w) i = p (byN w i) := by
  unfold hasM
  rw [mk_bit p w hi]
  cases p (byN w i) <;> rfl
/-- The word that keeps such a set: the high bit of each slot's byte. -/
def spread (m : Nat) : Nat := of8 (fun i => m / 2 ^ i % 2 * 128)
theorem bit_lt (m i : Nat) : m / 2 ^ i % 2 < 2 := Nat.mod_lt _ (by decide)
theorem byN_spread (m : Nat) {i : Nat} (hi : i < 8) : byN (spread m) i = m / 2 ^ i % 2 * 128 := by
  unfold spread
  rw [byN_of8 (f := fun i => m / 2 ^ i % 2 * 128) (fun j _ => by have := bit_lt m j; show m / 2 ^ j % 2 * 128 < 256; omega) hi]
theorem spread_lt (m : Nat) : spread m < 18446744073709551616 := of8_lt (f := fun i => m / 2 ^ i % 2 * 128) (fun j _ => by have := bit_lt m j; show m / 2 ^ j % 2 * 128 < 256; omega)

theorem lt64_and {a b : Nat} (hb : b < 18446744073709551616) : a &&& b < 18446744073709551616 := Nat.lt_of_le_of_lt Nat.and_le_right hb
theorem lt64_or {a b : Nat} (ha : a < 18446744073709551616) (hb : b < 18446744073709551616) : a ||| b < 18446744073709551616 := Nat.or_lt_two_pow (n := 64) ha hb
theorem lt64_xor {a b : Nat} (ha : a < 18446744073709551616) (hb : b < 18446744073709551616) : a ^^^ b < 18446744073709551616 := Nat.xor_lt_two_pow (n := 64) ha hb

/-- The program's own way to find a byte. -/
def xN (w c : Nat) : Nat := w ^^^ c * 72340172838076673
def difN (w c : Nat) : Nat := xN w c ||| ((xN w c &&& 9187201950435737471) + 9187201950435737471)
def eqN (w c : Nat) : Nat := (18446744073709551615 - difN w c) &&& 9259542123273814144
theorem xN_lt {w c : Nat} (hw : w < 18446744073709551616) (hc : c < 256) : xN w c < 18446744073709551616 := lt64_xor hw (by omega)
theorem sevens_by {i : Nat} (hi : i < 8) : byN 9187201950435737471 i = 127 := by
  refine lt8 (P := fun i => byN 9187201950435737471 i = 127) hi ?_ ?_ ?_ ?_ ?_ ?_ ?_ ?_ <;> decide
theorem highs_by {i : Nat} (hi : i < 8) : byN 9259542123273814144 i = 128 := by
  refine lt8 (P := fun i => byN 9259542123273814144 i = 128) hi ?_ ?_ ?_ ?_ ?_ ?_ ?_ ?_ <;> decide
theorem sum_small (x : Nat) : ∀ i, i < 8 → byN (x &&& 9187201950435737471) i + byN 9187201950435737471 i < 256 := by
  intro i hi
  rw [byN_and, sevens_by hi]
  have : byN x i &&& 127 ≤ 127 := Nat.and_le_right
  omega
theorem sum_lt (x : Nat) : (x &&& 9187201950435737471) + 9187201950435737471 < 18446744073709551616 := add_lt (lt64_and (by decide)) (by decide) (sum_small x)
theorem difN_lt {w c : Nat} (hw : w < 18446744073709551616) (hc : c < 256) : difN w c < 18446744073709551616 := lt64_or (xN_lt hw hc) (sum_lt _)
theorem eqN_lt (w c : Nat) : eqN w c < 18446744073709551616 := lt64_and (by decide)
theorem byte_eq : ∀ x, x < 256 → (255 - (x ||| ((x &&& 127) + 127))) &&& 128 = if x = 0 then 128 else 0 := by decide +kernel
theorem xor_zero {a b : Nat} (h : a ^^^ b = 0) : a = b := by
  have := congrArg (· ^^^ b) h
  simpa [Nat.xor_assoc] using this
theorem byN_eqN {w c i : Nat} (hw : w < 18446744073709551616) (hc : c < 256) (hi : i < 8) : byN (eqN w c) i = if byN w i = c then 128 else 0 := by
  have e1 : byN (xN w c) i = byN w i ^^^ c := by unfold xN; rw [byN_xor, byN_ones hc hi]
  unfold eqN
  rw [byN_and, highs_by hi, byN_not (difN_lt hw hc) hi]
  unfold difN
  rw [byN_or, byN_add (lt64_and (by decide)) (by decide) (sum_small _) hi, byN_and, sevens_by hi, e1]
  have hx : byN w i ^^^ c < 256 := Nat.xor_lt_two_pow (n := 8) (byN_lt _ _) hc
  rw [byte_eq _ hx]
  by_cases h : byN w i = c
  · rw [if_pos h, if_pos (by rw [h, Nat.xor_self])]
  · rw [if_neg h, if_neg (fun e => h (xor_zero e))]
theorem eqN_spread {w c : Nat} (hw : w < 18446744073709551616) (hc : c < 256) : eqN w c = spread (mk (· == c) w) := by
  refine ext8 (eqN_lt _ _) (spread_lt _) fun i hi => ?_
  rw [byN_eqN hw hc hi, byN_spread _ hi, mk_bit _ _ hi]
  by_cases h : byN w i = c
  · rw [if_pos h, beq_iff_eq.2 h]; rfl
  · rw [if_neg h, beq_eq_false_iff_ne.2 h]; rfl
theorem byte_full : ∀ x, x < 256 → (255 - x) &&& 128 = (decide (x < 128)).toNat * 128 := by decide +kernel
theorem full_spread {w : Nat} (hw : w < 18446744073709551616) : (18446744073709551615 - w) &&& 9259542123273814144 = spread (mk (fun x => decide (x < 128)) w) := by
  refine ext8 (lt64_and (by decide)) (spread_lt _) fun i hi => ?_
  rw [byN_and, highs_by hi, byN_not hw hi, byN_spread _ hi, mk_bit _ _ hi, byte_full _ (byN_lt _ _)]
theorem bit_or : ∀ a b : Bool, a.toNat * 128 ||| b.toNat * 128 = (a || b).toNat * 128 := by decide
theorem or_spread (p q : Nat → Bool) (w : Nat) : spread (mk p w) ||| spread (mk q w) = spread (mk (fun x => p x || q x) w) := by
  refine ext8 (lt64_or (spread_lt _) (spread_lt _)) (spread_lt _) fun i hi => ?_
  rw [byN_or, byN_spread _ hi, byN_spread _ hi, byN_spread _ hi, mk_bit _ _ hi, mk_bit _ _ hi, mk_bit _ _ hi, bit_or]

/-- The deleted slots made empty. -/
def clB (x : Nat) : Nat := if x = 254 then 128 else x
def clN (w : Nat) : Nat := of8 (fun i => clB (byN w i))
theorem clB_lt {x : Nat} (h : x < 256) : clB x < 256 := by unfold clB; split <;> omega
theorem clN_lt (w : Nat) : clN w < 18446744073709551616 := of8_lt fun i _ => clB_lt (byN_lt w i)
theorem byN_clN (w : Nat) {i : Nat} (hi : i < 8) : byN (clN w) i = clB (byN w i) := byN_of8 (fun i _ => clB_lt (byN_lt w i)) hi
theorem byte_cl : ∀ x, x < 256 → x ^^^ (if x = 254 then 1 else 0) * 126 = clB x := by decide +kernel
theorem shift_spread (m : Nat) : spread m / 128 = of8 (fun i => m / 2 ^ i % 2) := by
  unfold spread of8
  dsimp only
  omega
theorem times_spread (m k : Nat) : of8 (fun i => m / 2 ^ i % 2) * k = of8 (fun i => m / 2 ^ i % 2 * k) := by
  unfold of8
  simp only [Nat.add_mul, Nat.mul_assoc]
theorem clear_cl {w : Nat} (hw : w < 18446744073709551616) : w ^^^ eqN w 254 / 128 * 126 = clN w := by
  rw [eqN_spread hw (by decide), shift_spread, times_spread]
  have hf : ∀ i, i < 8 → mk (· == 254) w / 2 ^ i % 2 * 126 < 256 := fun i _ => by have := bit_lt (mk (· == 254) w) i; omega
  refine ext8 (lt64_xor hw (of8_lt hf)) (clN_lt _) fun i hi => ?_
  rw [byN_xor, byN_of8 hf hi, byN_clN _ hi, mk_bit _ _ hi, ← byte_cl _ (byN_lt _ _)]
  by_cases h : byN w i = 254
  · rw [if_pos h, beq_iff_eq.2 h]; rfl
  · rw [if_neg h, beq_eq_false_iff_ne.2 h]; rfl

/-- The byte of slot k is c. -/
def setN (w k c : Nat) : Nat := of8 (fun i => if i = k then c else byN w i)
theorem setN_lt (w k c : Nat) (hc : c < 256) : setN w k c < 18446744073709551616 := of8_lt fun i _ => by show (if i = k then c else byN w i) < 256; split; exact hc; exact byN_lt _ _
theorem byN_setN (w k c : Nat) (hc : c < 256) {i : Nat} (hi : i < 8) : byN (setN w k c) i = if i = k then c else byN w i :=
  byN_of8 (f := fun i => if i = k then c else byN w i) (fun i _ => by show (if i = k then c else byN w i) < 256; split; exact hc; exact byN_lt _ _) hi
theorem byN_shl {c k i : Nat} (hc : c < 256) (hk : k < 8) (hi : i < 8) : byN (c * 2 ^ (8 * k)) i = if i = k then c else 0 := by
  refine lt8 (P := fun k => byN (c * 2 ^ (8 * k)) i = if i = k then c else 0) hk ?_ ?_ ?_ ?_ ?_ ?_ ?_ ?_ <;>
    (refine lt8 (P := fun i => byN (c * _) i = if i = _ then c else 0) hi ?_ ?_ ?_ ?_ ?_ ?_ ?_ ?_) <;> simp only [byN, Nat.reducePow, Nat.reduceMul, if_true] <;> first | omega | (rw [if_neg (by decide)]; omega)
theorem shl_lt {c k : Nat} (hc : c < 256) (hk : k < 8) : c * 2 ^ (8 * k) < 18446744073709551616 := by
  refine lt8 (P := fun k => c * 2 ^ (8 * k) < 18446744073709551616) hk ?_ ?_ ?_ ?_ ?_ ?_ ?_ ?_ <;> simp only [Nat.reducePow, Nat.reduceMul] <;> omega
theorem byte_not0 : ∀ x, x < 256 → x &&& (255 - 0) = x := by decide +kernel
theorem set_set {w k c : Nat} (hw : w < 18446744073709551616) (hk : k < 8) (hc : c < 256) : (w &&& (18446744073709551615 - 255 * 2 ^ (8 * k))) ||| c * 2 ^ (8 * k) = setN w k c := by
  have hs := shl_lt (c := 255) (by decide) hk
  refine ext8 (lt64_or (Nat.lt_of_le_of_lt Nat.and_le_left hw) (shl_lt hc hk)) (setN_lt _ _ _ hc) fun i hi => ?_
  rw [byN_or, byN_and, byN_not hs hi, byN_shl (by decide) hk hi, byN_shl hc hk hi, byN_setN _ _ _ hc hi]
  by_cases h : i = k
  · rw [if_pos h, if_pos h, if_pos h]
    simp
  · rw [if_neg h, if_neg h, if_neg h, byte_not0 _ (byN_lt _ _), Nat.or_zero]
theorem setN_twice {w i j c d : Nat} (hij : i ≠ j) (hc : c < 256) (hd : d < 256) : setN (setN w i c) j d = setN (setN w j d) i c := by
  refine ext8 (setN_lt _ _ _ hd) (setN_lt _ _ _ hc) fun k hk => ?_
  rw [byN_setN _ _ _ hd hk, byN_setN _ _ _ hc hk, byN_setN _ _ _ hc hk, byN_setN _ _ _ hd hk]
  by_cases h1 : k = j
  · rw [if_pos h1, if_neg (by omega), if_pos h1]
  · rw [if_neg h1, if_neg h1]
theorem setN_back {w i c : Nat} (hw : w < 18446744073709551616) (hc : c < 256) : setN (setN w i c) i (byN w i) = w := by
  refine ext8 (setN_lt _ _ _ (byN_lt _ _)) hw fun k hk => ?_
  rw [byN_setN _ _ _ (byN_lt _ _) hk, byN_setN _ _ _ hc hk]
  by_cases h1 : k = i
  · rw [if_pos h1, h1]
  · rw [if_neg h1, if_neg h1]
end Go.Proofs.YtgckinldnnckoaaGreatDoor.Ct
/-
  A group of eight cells in an arena's bytes, as data: what each call answers and leaves.
-/
namespace Go.Proofs.YtgckinldnnckoaaGreatDoor
open Go.RowKit Go.Shelf Ly Ct

/-- What a slot holds. -/
structure GC where
  kind : Int
  tag : Int
  key : ByteArray
  elem : ByteArray
  birth : Int
def GC.zero : GC := ⟨0, 0, ByteArray.empty, ByteArray.empty, 0⟩
def GC.gone : GC := ⟨1, 0, ByteArray.empty, ByteArray.empty, 0⟩
def GC.val (c : GC) : Value := .agg #[.int .i64 c.kind, .int .i64 c.tag, .string c.key, .string c.elem, .int .i64 c.birth]

def thereB (d : AD) (l : Lay) (off : Int) : Bool := validB l && d.goodB off l.g
def wordN (d : AD) (off : Int) : Nat := numOf (d.span off 8)
def wordV (d : AD) (l : Lay) (off : Int) : Int × Int := if thereB d l off then ((wordN d off : Nat), 0) else (0, 24)
/-- What is read in slot i. -/
def atC (d : AD) (l : Lay) (off i : Int) : GC :=
  if byN (wordN d off) i.toNat < 128 then ⟨2, (byN (wordN d off) i.toNat : Nat), strOf (d.span (off + (8 + i * l.s + 0)) l.k), strOf (d.span (off + (8 + i * l.s + l.eo)) l.e), wrap64 ((numOf (d.span (off + (8 + i * l.s + l.bo)) 8) : Nat) : Int)⟩
  else if byN (wordN d off) i.toNat = 254 then GC.gone else GC.zero
def cellV (d : AD) (l : Lay) (off i : Int) : GC × Int := if 0 ≤ i ∧ i < 8 then (if thereB d l off then (atC d l off i, 0) else (GC.zero, 24)) else (GC.zero, 60)
/-- A slot's bytes are x, and the control word W. -/
def laidG (d : AD) (l : Lay) (off i : Int) (x : List UInt8) (W : Nat) : AD := (d.bytes (splice d.bs (off + (8 + i * l.s + 0)).toNat x)).bytes (splice (splice d.bs (off + (8 + i * l.s + 0)).toNat x) off.toNat (leBytes W 8))
def slotB (l : Lay) (key elem : List UInt8) (birth : Nat) : List UInt8 := key ++ zeros (l.eo - l.k).toNat ++ elem ++ zeros (l.bo - l.eo - l.e).toNat ++ leBytes birth 8
def fillErr (l : Lay) (i tag ks es birth : Int) : Int := if ¬ (0 ≤ i ∧ i < 8) then 60 else if ¬ (0 ≤ tag ∧ tag ≤ 127) then 63 else if ks ≠ l.k then 61 else if es ≠ l.e then 62 else if birth < 0 then 64 else 0
def fillG (d : AD) (l : Lay) (off i tag : Int) (key elem : ByteArray) (birth : Int) : Int × AD :=
  if fillErr l i tag key.size elem.size birth = 0 then (if thereB d l off then (0, laidG d l off i (slotB l key.data.toList elem.data.toList birth.toNat) (setN (wordN d off) i.toNat tag.toNat)) else (24, d)) else (fillErr l i tag key.size elem.size birth, d)
def eraseG (d : AD) (l : Lay) (off i : Int) (t : Bool) : Int × AD :=
  if 0 ≤ i ∧ i < 8 then (if thereB d l off then (0, laidG d l off i (zeros l.s.toNat) (setN (wordN d off) i.toNat (if t then 254 else 128))) else (24, d)) else (60, d)
def setElemG (d : AD) (l : Lay) (off i : Int) (elem : ByteArray) : Int × AD :=
  if 0 ≤ i ∧ i < 8 then (if (elem.size : Int) = l.e then (if thereB d l off then (if byN (wordN d off) i.toNat < 128 then (0, d.bytes (splice d.bs (off + (8 + i * l.s + l.eo)).toNat elem.data.toList)) else (65, d)) else (24, d)) else (62, d)) else (60, d)
def wordG (d : AD) (off : Int) (W : Nat) : AD := d.bytes (splice d.bs off.toNat (leBytes W 8))
def resetG (d : AD) (l : Lay) (off : Int) : Int × AD := if thereB d l off then (0, wordG (d.bytes (splice d.bs off.toNat (zeros l.g.toNat))) off 9259542123273814144) else (24, d)
/-- How many slots are marked. -/
def goneN (W : Nat) : Nat := (List.range 8).countP (fun i => byN W i == 254)
def pruneG (d : AD) (l : Lay) (off : Int) : (Int × Int) × AD := if thereB d l off then (((goneN (wordN d off) : Nat), 0), wordG d off (clN (wordN d off))) else ((0, 24), d)

theorem valid_more {l : Lay} (h : validB l = true) : 1 ≤ l.k ∧ l.k ≤ 128 ∧ 0 ≤ l.e ∧ l.e ≤ 128 ∧ l.k ≤ l.eo ∧ l.eo + l.e ≤ l.bo ∧ l.bo ≤ 270 ∧ l.s = l.bo + 8 ∧ l.g = 8 + 8 * l.s := by
  obtain ⟨h1, h2, h3, h4, h5, h6, h7, h8, h9⟩ := valid_bound h
  obtain ⟨e1, e2, e3, e4, e5, e6, e7⟩ := errN_zero h1
  have hb := (al_one e6).1
  have u1 := up_bound (x := l.k) hb
  have u2 := up_bound (x := up l.k l.b + l.e) (a := 8) (by omega)
  have f1 : l.eo = up l.k l.b := congrArg Lay.eo h2
  have f2 : l.bo = up (up l.k l.b + l.e) 8 := congrArg Lay.bo h2
  have f3 : l.s = slotOf l.k l.e l.b := congrArg Lay.s h2
  have f4 : slotOf l.k l.e l.b = up (up l.k l.b + l.e) 8 + 8 := rfl
  omega

theorem span_out {bs x : List UInt8} {o a n : Nat} (h : o + x.length ≤ bs.length) (hd : a + n ≤ o ∨ o + x.length ≤ a) : ((splice bs o x).drop a).take n = (bs.drop a).take n := by
  apply List.ext_getElem?
  intro j
  simp only [List.getElem?_take, List.getElem?_drop]
  split
  · rw [splice_get h, if_neg (by omega)]
  · rfl
theorem span_in {bs x : List UInt8} {o n : Nat} (h : o + x.length ≤ bs.length) (hn : n = x.length) : ((splice bs o x).drop o).take n = x := by
  subst hn
  apply List.ext_getElem?
  intro j
  simp only [List.getElem?_take, List.getElem?_drop]
  split
  · rw [splice_get h, if_pos (by omega), Nat.add_sub_cancel_left]
  · rw [List.getElem?_eq_none (by omega)]
theorem span_part {bs : List UInt8} {a n j m : Nat} (h : j + m ≤ n) : (bs.drop (a + j)).take m = (((bs.drop a).take n).drop j).take m := by
  apply List.ext_getElem?
  intro q
  simp only [List.getElem?_take, List.getElem?_drop]
  split
  · rw [if_pos (by omega), Nat.add_assoc]
  · rfl
theorem splice_out {bs x : List UInt8} {o j : Nat} (h : o + x.length ≤ bs.length) (hd : j < o ∨ o + x.length ≤ j) : (splice bs o x)[j]? = bs[j]? := by
  rw [splice_get h, if_neg (by omega)]

theorem toNat_at {off i : Nat} {s x : Int} (hs : 0 ≤ s) (hx : 0 ≤ x) : ((off : Int) + (8 + (i : Int) * s + x)).toNat = off + 8 + i * s.toNat + x.toNat := by
  obtain ⟨n, rfl⟩ := Int.eq_ofNat_of_zero_le hs
  have e : (i : Int) * (n : Int) = ((i * n : Nat) : Int) := by simp
  rw [e, Int.toNat_natCast]
  omega
theorem mul_apart {i j s : Nat} (h : i < j) : i * s + s ≤ j * s := by
  have := Nat.mul_le_mul_right s (show i + 1 ≤ j by omega)
  rw [Nat.add_mul, Nat.one_mul] at this
  exact this
theorem good_sub {d : AD} {off n : Int} (h : d.goodB off n = true) {x m : Int} (hx : 0 ≤ x) (hm : 0 ≤ m) (hxm : x + m ≤ n) : d.goodB (off + x) m = true := by
  obtain ⟨b, hb, h1, h2, h3, h4⟩ := AD.goodB_true h
  exact AD.goodB_mk hb h1 hm (by omega) (by omega)

/-- A cell as it may be. -/
def GC.ok (l : Lay) (c : GC) : Prop := c = GC.zero ∨ c = GC.gone ∨ (c.kind = 2 ∧ 0 ≤ c.tag ∧ c.tag ≤ 127 ∧ (c.key.size : Int) = l.k ∧ (c.elem.size : Int) = l.e ∧ 0 ≤ c.birth ∧ c.birth ≤ 9223372036854775807)
def GC.mark (c : GC) : Nat := if c.kind = 2 then c.tag.toNat else if c.kind = 1 then 254 else 128
def GC.bytes (l : Lay) (c : GC) : List UInt8 := if c.kind = 2 then slotB l c.key.data.toList c.elem.data.toList c.birth.toNat else zeros l.s.toNat
def GC.full (t : Int) (k e : ByteArray) (b : Int) : GC := ⟨2, t, k, e, b⟩
/-- A group with the cells c at off. -/
structure GroupAt (d : AD) (l : Lay) (off : Nat) (c : Nat → GC) : Prop where
  valid : validB l = true
  good : d.goodB off l.g = true
  len : off + l.g.toNat ≤ d.bs.length
  word : ∀ i, i < 8 → byN (wordN d off) i = (c i).mark
  slot : ∀ i, i < 8 → d.span ((off + 8 + i * l.s.toNat : Nat) : Int) l.s = (c i).bytes l
  ok : ∀ i, i < 8 → (c i).ok l

theorem GroupAt.there {d : AD} {l : Lay} {off : Nat} {c : Nat → GC} (h : GroupAt d l off c) : thereB d l off = true := by
  unfold thereB
  rw [h.valid, h.good]
  rfl
theorem data_len (s : ByteArray) : s.data.toList.length = s.size := by
  rw [Array.length_toList]
  rfl
theorem slotB_len {l : Lay} (h : validB l = true) {k e : List UInt8} (b : Nat) (hk : (k.length : Int) = l.k) (he : (e.length : Int) = l.e) : (slotB l k e b).length = l.s.toNat := by
  have := valid_more h
  unfold slotB
  simp only [List.length_append, zeros_length, leBytes_length]
  omega
theorem GC.bytes_len {l : Lay} (h : validB l = true) {c : GC} (hc : c.ok l) : (c.bytes l).length = l.s.toNat := by
  unfold GC.bytes
  split
  · rename_i h2
    rcases hc with rfl | rfl | ⟨_, _, _, hk, he, _⟩
    · exact absurd h2 (by decide)
    · exact absurd h2 (by decide)
    · exact slotB_len h _ (by rw [data_len]; exact hk) (by rw [data_len]; exact he)
  · exact zeros_length _
theorem app3 {a b c d e : List UInt8} : a ++ b ++ c ++ d ++ e = (a ++ b) ++ (c ++ (d ++ e)) := by simp
theorem slotB_key {l : Lay} {k e : List UInt8} {b : Nat} (hk : (k.length : Int) = l.k) : ((slotB l k e b).drop 0).take l.k.toNat = k := by
  unfold slotB
  have : l.k.toNat = k.length := by omega
  rw [this]
  simp
theorem slotB_elem {l : Lay} (h : validB l = true) {k e : List UInt8} {b : Nat} (hk : (k.length : Int) = l.k) (he : (e.length : Int) = l.e) : ((slotB l k e b).drop l.eo.toNat).take l.e.toNat = e := by
  have := valid_more h
  have h1 : l.eo.toNat = (k ++ zeros (l.eo - l.k).toNat).length := by simp only [List.length_append, zeros_length]; omega
  have h2 : l.e.toNat = e.length := by omega
  unfold slotB
  rw [app3, h1, List.drop_left, h2, List.take_left]
theorem slotB_birth {l : Lay} (h : validB l = true) {k e : List UInt8} {b : Nat} (hk : (k.length : Int) = l.k) (he : (e.length : Int) = l.e) : ((slotB l k e b).drop l.bo.toNat).take 8 = leBytes b 8 := by
  have := valid_more h
  have h1 : l.bo.toNat = (k ++ zeros (l.eo - l.k).toNat ++ e ++ zeros (l.bo - l.eo - l.e).toNat).length := by simp only [List.length_append, zeros_length]; omega
  have h2 : 8 = (leBytes b 8).length := by rw [leBytes_length]
  unfold slotB
  rw [h1, List.drop_left]
  exact List.take_of_length_le (by rw [leBytes_length]; omega)
theorem span_nat (d : AD) (a n : Nat) : d.span (a : Int) (n : Int) = (d.bs.drop a).take n := by simp [AD.span]
theorem span_nat' (d : AD) (a : Nat) (n : Int) : d.span (a : Int) n = (d.bs.drop a).take n.toNat := by simp [AD.span]
theorem GC.mark_full {l : Lay} {c : GC} (hc : c.ok l) : (c.mark < 128 ↔ c.kind = 2) ∧ (c.mark = 254 ↔ c = GC.gone) := by
  rcases hc with rfl | rfl | ⟨h2, h3, h4, _⟩
  · exact ⟨by decide, fun e => absurd e (by decide), fun e => absurd (congrArg GC.kind e) (by decide)⟩
  · exact ⟨by decide, fun _ => rfl, fun _ => by decide⟩
  · have hm : c.mark = c.tag.toNat := if_pos h2
    refine ⟨⟨fun _ => h2, fun _ => by rw [hm]; omega⟩, fun e => by rw [hm] at e; omega, fun e => ?_⟩
    rw [e] at h2
    exact absurd h2 (by decide)
theorem GroupAt.at {d : AD} {l : Lay} {off : Nat} {c : Nat → GC} (h : GroupAt d l off c) {i : Nat} (hi : i < 8) : atC d l off i = c i := by
  have hv := valid_more h.valid
  have hw := h.word i hi
  have hs := h.slot i hi
  have ho := h.ok i hi
  have hm := GC.mark_full ho
  generalize c i = x at *
  unfold atC
  rw [Int.toNat_natCast, hw]
  by_cases h2 : x.kind = 2
  · rw [if_pos (hm.1.2 h2)]
    have hmk : x.mark = x.tag.toNat := if_pos h2
    rcases ho with rfl | rfl | ⟨_, q1, q2, hk, he, q3, q4⟩
    · exact absurd h2 (by decide)
    · exact absurd h2 (by decide)
    have hb : x.bytes l = slotB l x.key.data.toList x.elem.data.toList x.birth.toNat := if_pos h2
    rw [hb] at hs
    rw [span_nat'] at hs
    have hk' : (x.key.data.toList.length : Int) = l.k := by rw [data_len]; exact hk
    have he' : (x.elem.data.toList.length : Int) = l.e := by rw [data_len]; exact he
    have e1 : d.span ((off : Int) + (8 + (i : Int) * l.s + 0)) l.k = x.key.data.toList := by
      unfold AD.span
      rw [toNat_at (by omega) (by omega)]
      rw [span_part (n := l.s.toNat) (by simp; omega), hs]
      exact slotB_key hk'
    have e2 : d.span ((off : Int) + (8 + (i : Int) * l.s + l.eo)) l.e = x.elem.data.toList := by
      unfold AD.span
      rw [toNat_at (by omega) (by omega)]
      rw [span_part (n := l.s.toNat) (by omega), hs]
      exact slotB_elem h.valid hk' he'
    have e3 : d.span ((off : Int) + (8 + (i : Int) * l.s + l.bo)) 8 = leBytes x.birth.toNat 8 := by
      unfold AD.span
      rw [toNat_at (by omega) (by omega)]
      rw [span_part (n := l.s.toNat) (by simp; omega), hs]
      exact slotB_birth h.valid hk' he'
    rw [e1, e2, e3, numOf_le, hmk]
    have e4 : x.birth.toNat % 256 ^ 8 = x.birth.toNat := Nat.mod_eq_of_lt (by omega)
    rw [e4]
    have e5 : strOf x.key.data.toList = x.key := rfl
    have e6 : strOf x.elem.data.toList = x.elem := rfl
    have e7 : wrap64 ((x.birth.toNat : Nat) : Int) = x.birth := by unfold wrap64; omega
    rw [e5, e6, e7, Int.toNat_of_nonneg q1]
    cases x
    simp only at h2
    rw [h2]
  · rw [if_neg (fun e => h2 (hm.1.1 e))]
    rcases ho with rfl | rfl | ⟨q, _⟩
    · rfl
    · rfl
    · exact absurd q h2
theorem GroupAt.cell {d : AD} {l : Lay} {off : Nat} {c : Nat → GC} (h : GroupAt d l off c) {i : Nat} (hi : i < 8) : cellV d l off i = (c i, 0) := by
  unfold cellV
  rw [if_pos (by omega), h.there, h.at hi]
  rfl
end Go.Proofs.YtgckinldnnckoaaGreatDoor
