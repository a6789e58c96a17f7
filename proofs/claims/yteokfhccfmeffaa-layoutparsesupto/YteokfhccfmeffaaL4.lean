import Derived.Test.YteokfhccfmeffaaL3
namespace Go.Proofs.Yteokfhccfmeffaa
open Go.RowKit

theorem cell_blk {w : World} {b i : Nat} {cs : Array Value} {t : TypeId} {v : Value} (h : w.heap[b]? = some (.cells cs t)) (hv : cs[i]? = some v) : w.cell? ⟨b, i, none⟩ = some v := by
  simp [World.cell?, h, hv]

theorem parse_zero {k e a b c : Int} {m : Lay} (h : parseD [k, e, a, b, c] = (m, 0)) : errN k e a b c = 0 ∧ laidD k e a b c = m := by
  by_cases hE : errN k e a b c = 0
  · have hP : parseD [k, e, a, b, c] = (laidD k e a b c, 0) := if_pos hE
    rw [hP] at h
    exact ⟨hE, congrArg Prod.fst h⟩
  · have hP : parseD [k, e, a, b, c] = (Lay.zero, errN k e a b c) := if_neg hE
    rw [hP] at h
    exact absurd (congrArg Prod.snd h) hE

set_option maxHeartbeats 4000000 in
theorem valid_any (l : Lay) (w : World) :
    Calls Try.prog 11 #[.agg #[.int .i64 l.k, .int .i64 l.e, .int .i64 l.a, .int .i64 l.b, .int .i64 l.c, .int .i64 l.eo, .int .i64 l.bo, .int .i64 l.s, .int .i64 l.g]] w
      fun r w' => r = .returned (.bool (validB l)) ∧ Kp w w' := by
  generalize hv : validB l = V
  obtain ⟨k, e, a, b, c, eo, bo, s, g⟩ := l
  generalize hm : parseD [k, e, a, b, c] = M
  obtain ⟨m, er⟩ := M
  obtain ⟨m0, m1, m2, m3, m4, m5, m6, m7, m8⟩ := m
  have hP := fun (g' : Nat) W h0 h1 h2 h3 h4 => parse_five g' 0 5 k e a b c W h0 h1 h2 h3 h4
  rw [hm] at hP
  go_enter Try.func11, Try.ntmps11
  go_wp2_with fail
  refine (hP _ _ (cell_blk (heap_next _ _ _) rfl) (cell_blk (heap_next _ _ _) rfl) (cell_blk (heap_next _ _ _) rfl) (cell_blk (heap_next _ _ _) rfl) (cell_blk (heap_next _ _ _) rfl)).mono ?_
  rintro r w1 ⟨rfl, k1⟩
  clear hP
  have k0 : Kp w w1 := Kp.trans ((Kp.refl w).alloc _ |>.alloc _) k1
  obtain ⟨b0, b1, b2, b3, b4, b5, b6, b7, b8, -⟩ := k1.nine (b := w.heap.size) (heap_old (heap_new _ _) _)
  have hlt : w.heap.size < w1.heap.size := by
    have := k1.size
    simp at this
    omega
  clear k1
  unfold Lay.val
  by_cases hE : er = 0
  · subst hE
    have hV : Hid (V = decide (k = m0 ∧ e = m1 ∧ a = m2 ∧ b = m3 ∧ c = m4 ∧ eo = m5 ∧ bo = m6 ∧ s = m7 ∧ g = m8)) := by
      obtain ⟨h1, h2⟩ := parse_zero hm
      rw [← hv]
      show decide (errN k e a b c = 0 ∧ (⟨k, e, a, b, c, eo, bo, s, g⟩ : Lay) = laidD k e a b c) = _
      rw [h2]
      simp [h1]
    clear hv hm
    go_wp2_with fail
    all_goals
      go_ret
      refine ⟨?_, k0.alloc _⟩
      rw [hV.out]
      simp [*]
  · have hE' : (er == 0) = false := by simpa using hE
    have hV : V = false := by
      rw [← hv]
      show decide (errN k e a b c = 0 ∧ (⟨k, e, a, b, c, eo, bo, s, g⟩ : Lay) = laidD k e a b c) = _
      refine decide_eq_false fun h => ?_
      have : parseD [k, e, a, b, c] = (laidD k e a b c, 0) := if_pos h.1
      rw [hm] at this
      exact hE (congrArg Prod.snd this)
    subst hV
    clear hv hm
    go_wp2_with fail
    go_ret
    exact ⟨rfl, k0.alloc _⟩
end Go.Proofs.Yteokfhccfmeffaa
