/-
  A table beside blocks of the statement's own: all blocks that are new, and changes of own blocks.
-/
import Derived.Test.YtmdnknbolgedgaaGreatDoorUn20
import Derived.Test.YtmdnknbolgedgaaGreatDoorHTC12
namespace Go.Proofs.YtmdnknbolgedgaaGreatDoor
open Go.RowKit Go.Shelf Ly Ct
set_option linter.unusedVariables false

theorem keeps_putX {V : World} {l : Nat} {X : Nat → Prop} (hX : X l) (o : Obj) : Keeps V (V.putObj l o) X := by
  have g := grownBy_putObj' V l o
  exact ⟨g.os, g.tape, g.output, g.size, fun i hi hn => g.block i hi (fun e => hn (by cases e; exact hX))⟩
section
variable {w wr wr' : World} {p : Nat} {X : Nat → Prop} {l : Lay} {G : Nat} {d : AD} {f : Nat → Int} {c : Nat → GC}
/-- All new blocks are the statement's own. -/
theorem SW.news (h : SW w wr p X l G d f c) (k : Keeps wr wr' (fun _ => False)) : SW w wr' p (fun q => X q ∨ (wr.heap.size ≤ q ∧ q < wr'.heap.size)) l G d f c :=
  ⟨(⟨h.own.arena.mono (fun i hi e => ⟨e.1, fun x => x.elim e.2 (fun e' => by omega)⟩), h.own.keeps⟩ : Own w wr p (fun q => X q ∨ (wr.heap.size ≤ q ∧ q < wr'.heap.size)) d).stay k, h.fine, h.small, h.tab, h.f4, h.f7, fun q hq => hq.elim (fun e => Nat.lt_of_lt_of_le (h.lt q e) k.size) (fun e => e.2)⟩
/-- An own block is changed. -/
theorem SW.swap (h : SW w wr p X l G d f c) (k : Keeps wr wr' X) (hX : ∀ q, X q → w.heap.size ≤ q) : SW w wr' p X l G d f c :=
  ⟨h.own.swap8 k hX (fun i e => Or.inl e), h.fine, h.small, h.tab, h.f4, h.f7, fun q hq => Nat.lt_of_lt_of_le (h.lt q hq) k.size⟩
end
namespace Bx
variable [BoxNo]
theorem BM.sw {w wr : World} {b p : Nat} {l : Lay} {G : Nat} {fs ts hs lv : Value} {L : List LifeD} {ad : Nat} {d : AD} {f : Nat → Int} {c : Nat → GC} (h : BM w wr b p l G fs ts hs lv L ad d f c) : SW w wr p (fun q => q = b ∨ lv.ownBlock = some q ∨ q = BoxNo.no) l G d f c := ⟨h.own, h.fine, h.small, h.tab, h.f4, h.f7, h.lt⟩
end Bx
end Go.Proofs.YtmdnknbolgedgaaGreatDoor
