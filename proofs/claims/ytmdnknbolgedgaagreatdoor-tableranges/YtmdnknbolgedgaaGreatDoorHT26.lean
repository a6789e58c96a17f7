/-
  A copy of the list of lives.
-/
import Derived.Test.YtmdnknbolgedgaaGreatDoorUn20
namespace Go.Proofs.YtmdnknbolgedgaaGreatDoor
open Go.RowKit Go.Shelf Ly Ct
set_option linter.unusedVariables false

theorem copy_lives {w wr : World} {lv : Value} {L : List LifeD} {base : Nat} (h : wr.ownsRow base 75 5 lv L.length (lifeC L)) (hL : L.length ≤ 1000000) :
    ∃ v' w', (∀ ty, (Builtin.append_ #[55, 55] ty #[.slice (some ⟨wr.heap.size, 0, none⟩) 0 0, lv]).run Tryz.prog (wr.alloc (.cells #[] 75)) = .ok v' w') ∧ w'.ownsRow wr.heap.size 75 5 v' L.length (lifeC L) ∧ Keeps wr w' (fun _ => False) := by
  have ka : Keeps wr (wr.alloc (.cells #[] 75)) (fun _ => False) := (Keeps.refl _ _).alloc _
  have hnew := heap_alloc_new wr (.cells #[] 75)
  have h0 : (wr.alloc (.cells #[] 75)).ownsRow wr.heap.size 75 5 (.slice (some ⟨wr.heap.size, 0, none⟩) ([] : List LifeD).length 0) ([] : List LifeD).length (lifeC []) := ⟨rfl, Or.inr ⟨wr.heap.size, 0, #[], rfl, Nat.le_refl _, hnew, Nat.le_refl _, by unfold maxLen; omega, rfl, rfl⟩⟩
  rcases h.2 with ⟨e, e0⟩ | ⟨g, cap, cur, e, hb, hg, hlc, _⟩
  · obtain ⟨i, h1, h2, h3, h4⟩ := info_parts info_life
    subst e
    have hz : L = [] := List.length_eq_zero_iff.1 e0
    subst hz
    refine ⟨_, _, fun ty => run_append_owned_none (P := Tryz.prog) (w := wr.alloc (.cells #[] 75)) wr.heap.size 55 ty 75 i 5 Tryz.underlying55 h1 _ 0 [] h0, h0, ka⟩
  · have hsrc : ∀ q u, (lifeC L)[q]? = some u → (wr.alloc (.cells #[] 75)).cell? ⟨g, q, none⟩ = some u := fun q u hq => by
      have := h.cells (g := g) (by rw [e]; rfl) _ _ hq
      rw [addr_add, Nat.zero_add] at this
      exact keeps_cell ka id this
    obtain ⟨v', w', hr, ho, k, hl⟩ := append_lives h0 ka.size (g := g) (j := 0) (m := L.length) (c := cap) (by omega) hL (by simp) hsrc
    refine ⟨v', w', fun ty => ?_, ?_, ka.trans k (fun q hq e' => ?_)⟩
    · have := hr ty
      rw [e]
      simpa using this
    · simpa using ho
    · have : wr.heap.size = q := by simpa [Value.ownBlock] using e'
      omega
end Go.Proofs.YtmdnknbolgedgaaGreatDoor
