import Derived.Test.YtmfmiaiijepgdaaAW17
import Derived.Test.YtmfmiaiijepgdaaShelf
namespace Go.Proofs.Ytmfmiaiijepgdaa
open Go.RowKit Go.Shelf

theorem Keeps.ofBelow {w w' : World} (h : Below w.heap.size w w') : Keeps w w' (fun _ => False) := ⟨h.os, h.tape, h.output, h.size, fun k hk _ => h.block k hk⟩
theorem joinOK : JoinOK := by
  intro a c ts w h hc hn hl
  have e0 : ByteArray.empty.data.toList = [] := rfl
  rcases h.two with rfl | ⟨b, o, rfl, hb, _, hcell⟩
  · refine (Try.strings_Join_none a c ByteArray.empty w).mono ?_
    rintro e w' ⟨rfl, rfl⟩
    exact ⟨rfl, Keeps.refl _ _⟩
  · refine (Try.strings_Join b o c ts ByteArray.empty w (fun j x hj => ?_) hb hn hc ?_).mono ?_
    · obtain ⟨hj', e⟩ := List.getElem?_eq_some_iff.1 hj
      rw [hcell j hj', e]
    · rw [e0]
      have := joined_length ts
      unfold joined at this
      omega
    · rintro e w' ⟨rfl, hbel⟩
      exact ⟨rfl, Keeps.ofBelow hbel⟩
end Go.Proofs.Ytmfmiaiijepgdaa
