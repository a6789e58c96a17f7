/-
  The list of the full slots: its entries, that they rise, how many they are.
-/
import Derived.Test.YtmdnknbolgedgaaGreatDoorHT21
import Derived.Test.YtmdnknbolgedgaaGreatDoorHT24
import Derived.Test.YtmdnknbolgedgaaGreatDoorHTT6
import Derived.Test.YtmdnknbolgedgaaGreatDoorHT27
namespace Go.Proofs.YtmdnknbolgedgaaGreatDoor
open Go.RowKit Go.Shelf Ly Ct
set_option linter.unusedVariables false

theorem fullL_cnt (c : Nat → GC) : ∀ n, (fullL c n).length = cntC isF c n
  | 0 => rfl
  | n + 1 => by
    have ih := fullL_cnt c n
    rw [cntC_succ, fullL]
    by_cases h : (c n).kind = 2
    · rw [if_pos h, show isF (c n) = true from decide_eq_true h, List.length_append, ih]
      rfl
    · rw [if_neg h, show isF (c n) = false from decide_eq_false h, ih]
      rfl
theorem fullL_mem (c : Nat → GC) : ∀ n x, x ∈ fullL c n → x.1 < n ∧ x.2 = c x.1 ∧ (c x.1).kind = 2
  | 0, x, h => by cases h
  | n + 1, x, h => by
    rw [fullL] at h
    by_cases e : (c n).kind = 2
    · rw [if_pos e, List.mem_append, List.mem_singleton] at h
      rcases h with h | rfl
      · obtain ⟨q1, q2⟩ := fullL_mem c n x h
        exact ⟨by omega, q2⟩
      · exact ⟨by show n < n + 1; omega, rfl, e⟩
    · rw [if_neg e] at h
      obtain ⟨q1, q2⟩ := fullL_mem c n x h
      exact ⟨by omega, q2⟩
theorem fullL_rise (c : Nat → GC) : ∀ n, (fullL c n).Pairwise (fun x y => x.1 < y.1)
  | 0 => List.Pairwise.nil
  | n + 1 => by
    have ih := fullL_rise c n
    rw [fullL]
    split
    · rw [List.pairwise_append]
      refine ⟨ih, List.pairwise_singleton _ _, fun x hx y hy => ?_⟩
      rw [List.mem_singleton] at hy
      subst hy
      exact (fullL_mem c n x hx).1
    · exact ih
/-- The slot that was seen last. -/
def lastOf (hs : List (Nat × GC)) (s : Nat) : Int := match s with
  | 0 => -1
  | k + 1 => match hs[k]? with
    | some x => (x.1 : Int)
    | none => -1
theorem lastOf_succ {hs : List (Nat × GC)} {s : Nat} {x : Nat × GC} (h : hs[s]? = some x) : lastOf hs (s + 1) = (x.1 : Int) := by
  simp only [lastOf, h]
theorem lastOf_lt {c : Nat → GC} {n s : Nat} {x : Nat × GC} (h : (fullL c n)[s]? = some x) : lastOf (fullL c n) s < (x.1 : Int) := by
  cases s with
  | zero =>
    show (-1 : Int) < _
    omega
  | succ k =>
    obtain ⟨h1, e1⟩ := List.getElem?_eq_some_iff.1 h
    have hk : k < (fullL c n).length := by omega
    rw [lastOf_succ (List.getElem?_eq_getElem hk)]
    have := List.pairwise_iff_getElem.1 (fullL_rise c n) k (k + 1) hk h1 (by omega)
    rw [e1] at this
    omega
theorem lastOf_fits {c : Nat → GC} {n s : Nat} (hn : n ≤ 100000) : -1 ≤ lastOf (fullL c n) s ∧ lastOf (fullL c n) s ≤ 100000 := by
  cases s with
  | zero => exact ⟨by show (-1 : Int) ≤ -1; omega, by show (-1 : Int) ≤ _; omega⟩
  | succ k =>
    by_cases hk : k < (fullL c n).length
    · rw [lastOf_succ (List.getElem?_eq_getElem hk)]
      have := (fullL_mem c n _ (List.getElem_mem hk)).1
      omega
    · simp only [lastOf, List.getElem?_eq_none (Nat.le_of_not_lt hk)]
      omega
/-- An entry is a life. -/
theorem fullL_life {c : Nat → GC} {G : Nat} {f : Nat → Int} {hs : ByteArray → Nat} {L : List LifeD} {ad s : Nat} {x : Nat × GC} (t : LTie c G f hs L ad) (h : (fullL c (8 * G))[s]? = some x) : ∃ y, y ∈ L ∧ y.slot = (x.1 : Int) ∧ y.key = x.2.key ∧ y.elem = x.2.elem ∧ y.birth = x.2.birth ∧ x.2.kind = 2 := by
  obtain ⟨h1, h2, h3⟩ := fullL_mem c _ x (List.mem_of_getElem? h)
  obtain ⟨y, hy, e⟩ := t.all x.1 h1 h3
  obtain ⟨p1, p2, p3, p4⟩ := t.life y hy
  rw [e] at p3
  have p3' : c x.1 = GC.full (((y.hash : Nat) : Int) % 128) y.key y.elem y.birth := by simpa using p3
  rw [h2, p3']
  exact ⟨y, hy, e, rfl, rfl, rfl, rfl⟩
end Go.Proofs.YtmdnknbolgedgaaGreatDoor
