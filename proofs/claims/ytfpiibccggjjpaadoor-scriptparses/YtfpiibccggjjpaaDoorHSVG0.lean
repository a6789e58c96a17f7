/-
  script: what the reference's command answers; a row's first two.
-/
import Derived.Test.YtfpiibccggjjpaaDoorHSVG
namespace Go.Proofs.YtfpiibccggjjpaaDoor
open Go.RowKit
set_option linter.unusedVariables false
/-- What command answers. -/
def CdQ (c : CmdD) (w : World) (e : Ending) (w' : World) : Prop := ∃ fs hs, e = .returned (.agg (CmV.cells ⟨c, fs, hs⟩).toArray) ∧ IntsB w' fs c.fl ∧ IntsB w' hs c.hl ∧ Keeps w w' (fun _ => False)
theorem own_first {w : World} {lo : Nat} {e : TypeId} {v : Value} {n : Nat} {x : Value} {xs : List Value} (h : w.ownsRow lo e 1 v n (x :: xs)) : ∃ g c, v = .slice (some ⟨g, 0, none⟩) n c ∧ w.cell? ⟨g, 0, none⟩ = some x := by
  have hl := h.1
  rcases h.2 with ⟨rfl, e⟩ | ⟨g, cap, cur, rfl, -, hg, hc, -, hs, hx⟩
  · subst e; simp at hl
  · refine ⟨g, cap, rfl, ?_⟩
    have e : (cur.toList.take (n * 1))[0]? = (x :: xs)[0]? := by rw [hx]
    simp at hl
    rw [List.getElem?_take_of_lt (by omega)] at e
    simp only [World.cell?, hg]
    simpa using e
theorem own_second {w : World} {lo : Nat} {e : TypeId} {v : Value} {n : Nat} {x y : Value} {xs : List Value} (h : w.ownsRow lo e 1 v n (x :: y :: xs)) : ∃ g c, v = .slice (some ⟨g, 0, none⟩) n c ∧ w.cell? ⟨g, 0, none⟩ = some x ∧ w.cell? ⟨g, 1, none⟩ = some y := by
  have hl := h.1
  rcases h.2 with ⟨rfl, e⟩ | ⟨g, cap, cur, rfl, -, hg, hc, -, hs, hx⟩
  · subst e; simp at hl
  · refine ⟨g, cap, rfl, ?_⟩
    have e : (cur.toList.take (n * 1))[0]? = (x :: y :: xs)[0]? := by rw [hx]
    have e' : (cur.toList.take (n * 1))[1]? = (x :: y :: xs)[1]? := by rw [hx]
    simp at hl
    rw [List.getElem?_take_of_lt (by omega)] at e e'
    simp only [World.cell?, hg]
    exact ⟨by simpa using e, by simpa using e'⟩
theorem cell_lt8 {w : World} {a : Addr} {v : Value} (h : w.cell? a = some v) : a.block < w.heap.size := by
  cases e : w.heap[a.block]? with
  | none => simp [World.cell?, e] at h
  | some o => exact heap_lt e
end Go.Proofs.YtfpiibccggjjpaaDoor
