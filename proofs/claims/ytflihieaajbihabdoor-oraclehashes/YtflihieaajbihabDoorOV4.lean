/-
  A row of overrides copied; what the map holds when none has a fault.
-/
import Derived.Test.YtflihieaajbihabDoorOV3
import Derived.Laws.AppendOwn
import Derived.Laws.AppendOwnNone
import Derived.Laws.OwnMore
namespace Go.Proofs.YtflihieaajbihabDoor
open Go.RowKit
set_option linter.unusedVariables false

def ovCells : List Ovr → List Value
  | [] => []
  | o :: t => .string o.1 :: .int .u64 (o.2 : Nat) :: ovCells t
theorem ovCells_length (os : List Ovr) : (ovCells os).length = os.length * 2 := by
  induction os with
  | nil => rfl
  | cons o t ih => simp [ovCells, ih]; omega
theorem ovCells_even (os : List Ovr) (j : Nat) (hj : j < os.length) : (ovCells os)[2 * j]? = some (.string os[j].1) ∧ (ovCells os)[2 * j + 1]? = some (.int .u64 (os[j].2 : Nat)) := by
  induction os generalizing j with
  | nil => simp at hj
  | cons o t ih =>
    cases j with
    | zero => exact ⟨rfl, rfl⟩
    | succ j =>
      have := ih j (by simpa using hj)
      rw [show 2 * (j + 1) = 2 * j + 2 by omega]
      exact this
theorem ovCells_one (os : List Ovr) : ∀ u ∈ ovCells os, u.oneCell' = true := by
  induction os with
  | nil => intro u hu; cases hu
  | cons o t ih =>
    intro u hu
    simp only [ovCells, List.mem_cons] at hu
    rcases hu with rfl | rfl | hu
    · rfl
    · rfl
    · exact ih u hu
theorem info_over : ∃ i z, Tryd.prog.info? 37 = some i ∧ i.zero = some z ∧ i.size = 2 ∧ i.bytes = 24 ∧ z.cells.size = 2 := by
  have hi : (Tryd.prog.info? 37).map (fun i => (i.zero, i.size, i.bytes)) = some (some (.agg #[.string ⟨#[]⟩, .int .u64 0]), 2, 24) := by kernel_rfl
  cases h : Tryd.prog.info? 37 with
  | none => rw [h] at hi; cases hi
  | some i =>
    rw [h] at hi
    simp at hi
    exact ⟨i, _, rfl, hi.1, hi.2.1, hi.2.2, rfl⟩

/-- append([]api.Over{}, over...) -/
theorem append_overs {v : Value} {os : List Ovr} (w : World) (h : RowO w v os) (hn : os.length * 24 ≤ 140737488355328) :
    ∃ a cap w2, (Builtin.append_ #[22, 22] 22 #[.slice (some ⟨w.heap.size, 0, none⟩) 0 0, v]).run Tryd.prog (w.alloc (.cells #[] 37)) = .ok (.slice a os.length cap) w2 ∧ RowO w2 (.slice a os.length cap) os ∧ Kp w w2 := by
  obtain ⟨i, z, h1, h2, h3, h4, h5⟩ := info_over
  have own0 : (w.alloc (.cells #[] 37)).ownsRow w.heap.size 37 2 (.slice (some ⟨w.heap.size, 0, none⟩) 0 0) 0 [] := World.ownsRow_made w #[] 0 (Nat.le_refl _) (by simp only [maxLen]; omega) (by simp)
  rcases h with ⟨rfl, rfl⟩ | ⟨a, cap, rfl, q1, q2, q3⟩
  · have r1 := run_append_owned_none (P := Tryd.prog) (w := w.alloc (.cells #[] 37)) w.heap.size 22 22 37 i 2 Tryd.underlying22 h1 _ 0 [] own0
    exact ⟨_, _, _, r1, Or.inr ⟨⟨w.heap.size, 0, none⟩, 0, rfl, Nat.le_refl _, by simp [maxLen], fun j hj => by simp at hj⟩, (Kp.refl w).alloc _⟩
  · obtain ⟨v', w2, hr, hown, hgr, hnil⟩ := run_append_own (P := Tryd.prog) (w.alloc (.cells #[] 37)) w.heap.size 22 22 37 i z 2 24 Tryd.underlying22 h1 h2 h3 h4 h5 (by decide) _ 0 [] own0 a os.length cap (ovCells os) (ovCells_length os)
      (fun t u hu => by
        have ht : t < os.length * 2 := by
          have := (List.getElem?_eq_some_iff.1 hu).1
          rwa [ovCells_length] at this
        have hj : t / 2 < os.length := by omega
        obtain ⟨e1, e2⟩ := ovCells_even os (t / 2) hj
        obtain ⟨c1, c2, _⟩ := q3 (t / 2) hj
        rcases Nat.mod_two_eq_zero_or_one t with hm | hm
        · rw [show 2 * (t / 2) = t by omega] at e1 c1
          rw [e1] at hu
          cases hu
          exact ((Kp.refl w).alloc _).cell c1
        · rw [show 2 * (t / 2) + 1 = t by omega] at e2 c2
          rw [e2] at hu
          cases hu
          exact ((Kp.refl w).alloc _).cell c2) (ovCells_one os) (by simp only [maxLen]; omega) (by omega) (by simp)
    have hk : Kp w w2 := Below.grown (Below.alloc (Below.refl _ _) (Nat.le_refl _) _) hgr (by simp) (fun k hk => by simp [Value.ownBlock] at hk; omega)
    rw [Nat.zero_add, List.nil_append] at hown
    obtain ⟨_, hh | ⟨g, cap', cur, g1, g2, g3, g4, g5, g6, g7⟩⟩ := hown
    · exact absurd (hnil.1 hh.1).1 (by simp)
    · subst g1
      refine ⟨_, _, w2, hr, Or.inr ⟨⟨g, 0, none⟩, cap', rfl, g4, g5, fun j hj => ?_⟩, hk⟩
      obtain ⟨e1, e2⟩ := ovCells_even os j hj
      rw [← g7, List.getElem?_take_of_lt (by omega)] at e1 e2
      rw [add_lit, add_lit, Nat.zero_add, Nat.zero_add]
      exact ⟨cell_blk g3 (by simpa using e1), cell_blk g3 (by simpa using e2), (q3 j hj).2.2⟩

theorem mapN_holds {os : List Ovr} {n : Nat} (hn : n ≤ os.length) (hs : scanN os n = 0) (j : Nat) (hj : j < os.length) (hjn : j < n) : mapN os n os[j].k = some os[j].2 := by
  induction n with
  | zero => omega
  | succ n ih =>
    have hs0 : scanN os n = 0 := scanN_zero hs (by omega)
    have hb : badN os n = 0 := by
      rw [scanN, if_pos hs0] at hs
      exact hs
    rw [mapN_succ os n (by omega)]
    by_cases e : j = n
    · subst e
      rw [updS_same]
    · have hne : os[j].k ≠ os[n].k := by
        intro ek
        have hsome : (mapN os n os[n].k).isSome = true := (mapN_some os n (by omega) _).2 ⟨j, hj, by omega, ek⟩
        unfold badN at hb
        rw [List.getElem?_eq_getElem (show n < os.length by omega)] at hb
        simp only [hsome, if_true] at hb
        split at hb <;> omega
      rw [updS_other _ _ _ _ hne]
      exact ih (by omega) hs0 (by omega)
theorem mapN_none {os : List Ovr} {k : List UInt8} (h : ∀ l (hl : l < os.length), l < os.length → os[l].k ≠ k) : mapN os os.length k = none := by
  cases hm : mapN os os.length k with
  | none => rfl
  | some a =>
    have hs : (mapN os os.length k).isSome = true := by rw [hm]; rfl
    obtain ⟨j, hj, h1, h2⟩ := (mapN_some os os.length (Nat.le_refl _) k).1 hs
    exact absurd h2 (h j hj h1)
end Go.Proofs.YtflihieaajbihabDoor
