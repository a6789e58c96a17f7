import Derived.Test.YtmfmiaiijepgdaaWalks3
import Derived.Great.BuildSlice
namespace Go.Proofs.Ytmfmiaiijepgdaa
open Go.RowKit

/-- One part alone. -/
theorem parts_one {w : World} {g pb h n c : Nat} {x y : List UInt8} {e t : TypeId} {fz : Nat × Nat} (hr : w.heap[h]? = some (.cells (rowOf (x ++ y)) e fz)) (hg : h ≠ g) (hn : n = x.length) (hx : x.length ≤ 140737488355328) (hpb : pb = w.heap.size) (hpg : pb ≠ g) :
    PartsAt (w.alloc (.cells #[.slice (some ⟨h, 0, none⟩) n c] t)) g pb [x] := by
  subst hpb
  subst hn
  refine ⟨by simp, hpg, fun j hj => ?_⟩
  have h0 : j = 0 := by simpa using hj
  subst h0
  refine ⟨.slice (some ⟨h, 0, none⟩) x.length c, ?_, part_of_row (y := y) (e := e) (fz := fz) ?_ hg hx⟩
  · simp only [World.cell?, heap_alloc_new]
    simp
  · rw [Below.heap_alloc _ _ _ (heap_lt hr)]
    exact hr
theorem write_one_yes {w : World} {b g pb h n c o : Nat} {bs sp x y : List UInt8} {fz : Nat × Nat} (m : MemAt 98 5 w b g bs sp) (hr : w.heap[h]? = some (.cells (rowOf (x ++ y)) 5 fz)) (hg : h ≠ g) (hn : n = x.length) (hx : x.length ≤ 140737488355328) (hpb : pb = w.heap.size) (hfit : o + x.length ≤ bs.length) :
    Calls Try.prog 38 #[.pointer (some ⟨b, 0, none⟩), .int .i64 (o : Int), .slice (some ⟨pb, 0, none⟩) 1 1] (w.alloc (.cells #[.slice (some ⟨h, 0, none⟩) n c] 91))
      fun e w' => WritePost (w.alloc (.cells #[.slice (some ⟨h, 0, none⟩) n c] 91)) b g (splice bs o x) sp e w' := by
  have hlt := heap_lt m.hg
  have := write_yes (w.alloc (.cells #[.slice (some ⟨h, 0, none⟩) n c] 91)) b g pb 1 bs sp [x] (m.keeps ((Keeps.refl _ (fun _ => False)).alloc _) id id) o (by simp) (parts_one hr hg hn hx hpb (by omega)) (by rw [catAll_one]; exact hfit)
  rw [catAll_one] at this
  exact this

def MadePost (w : World) (bs : List UInt8) (e : Ending) (w' : World) : Prop :=
  ∃ b g, w.heap.size ≤ b ∧ w.heap.size ≤ g ∧ e = .returned (.pointer (some ⟨b, 0, none⟩)) ∧ MemAt 98 5 w' b g bs [] ∧ Keeps w w' (fun _ => False)
end Go.Proofs.Ytmfmiaiijepgdaa
