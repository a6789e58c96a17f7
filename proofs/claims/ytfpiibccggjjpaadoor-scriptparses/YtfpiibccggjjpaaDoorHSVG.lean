/-
  script: lists of numbers that lie in a block of numbers, at any place of it.
-/
import Derived.Test.YtfpiibccggjjpaaDoorHSVF
import Derived.Test.YtfpiibccggjjpaaDoorUn13
namespace Go.Proofs.YtfpiibccggjjpaaDoor
open Go.RowKit
set_option linter.unusedVariables false
/-- A list of numbers in a block of numbers. -/
def IntsB (w : World) (v : Value) (l : List Int) : Prop := (v = .slice none 0 0 ∧ l = []) ∨ ∃ g o c cs, v = .slice (some ⟨g, o, none⟩) l.length c ∧ l.length ≤ c ∧ w.heap[g]? = some (.cells cs 3) ∧ ∀ j (hj : j < l.length), cs[o + j]? = some (.int .i64 l[j])
theorem IntsB.nil (w : World) : IntsB w (.slice none 0 0) [] := Or.inl ⟨rfl, rfl⟩
theorem IntsB.form {w : World} {v : Value} {l : List Int} (h : IntsB w v l) : ∃ so c, v = .slice so l.length c := by
  rcases h with ⟨rfl, rfl⟩ | ⟨g, o, c, cs, rfl, -⟩
  · exact ⟨_, _, rfl⟩
  · exact ⟨_, _, rfl⟩
theorem IntsB.keep {w w' : World} {v : Value} {l : List Int} {S : Nat → Prop} (h : IntsB w v l) (k : Keeps w w' S) (hS : ∀ g cs, w.heap[g]? = some (.cells cs 3) → ¬ S g) : IntsB w' v l := by
  rcases h with h | ⟨g, o, c, cs, rfl, hc, hg, hw⟩
  · exact Or.inl h
  · exact Or.inr ⟨g, o, c, cs, rfl, hc, (k.block g (heap_lt hg) (hS g cs hg)).trans hg, hw⟩
theorem IntsB.keeps {w w' : World} {v : Value} {l : List Int} (h : IntsB w v l) (k : Keeps w w' (fun _ => False)) : IntsB w' v l := h.keep k (fun _ _ _ e => e)
theorem IntsB.ofO {w : World} {lo : Nat} {v : Value} {l : List Int} (h : w.ownsRow lo 3 1 v l.length (l.map cellI)) : IntsB w v l := by
  rcases h.2 with ⟨rfl, e⟩ | ⟨g, cap, cur, rfl, -, hg, hc, -, hs, hx⟩
  · exact Or.inl ⟨rfl, List.length_eq_zero_iff.1 e⟩
  · refine Or.inr ⟨g, 0, cap, cur, rfl, hc, hg, fun j hj => ?_⟩
    have e : (cur.toList.take (l.length * 1))[j]? = (l.map cellI)[j]? := by rw [hx]
    rw [List.getElem?_take_of_lt (by omega), List.getElem?_map, List.getElem?_eq_getElem hj] at e
    rw [Nat.zero_add]
    simpa [cellI] using e
/-- A cut behind the first. -/
theorem cut_ints {w : World} {v : Value} {x : Int} {l : List Int} (h : IntsB w v (x :: l)) :
    ∃ b o c v', v = .slice (some ⟨b, o, none⟩) (l.length + 1) c ∧ w.cell? ⟨b, o, none⟩ = some (.int .i64 x) ∧ (∀ W, (Instr.slice 30 v (some (.int .i64 1)) none none).run Tryd.prog W = .ok v' W) ∧ IntsB w v' l := by
  rcases h with ⟨-, e⟩ | ⟨b, o, c, cs, rfl, hc, hg, hw⟩
  · cases e
  · have ht' : Tryd.prog.underlying 30 = some (.slice (Tryd.prog.elem 30)) := by simp [Program.elem, Tryd.underlying30]
    have he : Tryd.prog.elem 30 = 3 := by simp [Program.elem, Tryd.underlying30]
    obtain ⟨i, h1, h2, h3, h4⟩ := info_parts Tryd.infoI
    have hsz : ∀ W, (Go.sizeOf 3).run Tryd.prog W = .ok 1 W := fun W => by simp [Go.sizeOf, typeInfo, h1, h3]
    have hc' : l.length + 1 ≤ c := hc
    have q0 : w.cell? ⟨b, o, none⟩ = some (.int .i64 x) := by
      have := hw 0 (by simp)
      rw [Nat.add_zero] at this
      simp only [World.cell?, hg]
      exact this
    by_cases hkc : c = 1
    · have e0 : l.length = 0 := by omega
      obtain rfl : l = [] := List.length_eq_zero_iff.1 e0
      refine ⟨b, o, c, .slice (some ⟨b, o, none⟩) 0 0, rfl, q0, fun W => ?_, Or.inr ⟨b, o, 0, cs, rfl, Nat.le_refl _, hg, fun j hj => by cases hj⟩⟩
      rw [run_slice_l W _ _ _ _ ht' .i64 _ (by omega) (by simp), he, hsz]
      simp [Result.andThen, sliced, hkc]
    · refine ⟨b, o, c, .slice (some ⟨b, o + 1, none⟩) l.length (c - 1), rfl, q0, fun W => ?_, Or.inr ⟨b, o + 1, c - 1, cs, rfl, by omega, hg, fun j hj => ?_⟩⟩
      · rw [run_slice_l W _ _ _ _ ht' .i64 _ (by omega) (by simp; omega), he, hsz]
        simp [Result.andThen, sliced, Addr.add, hkc]
      · have := hw (j + 1) (by simpa using hj)
        rw [show o + 1 + j = o + (j + 1) by omega, this]
        rfl
theorem Keeps.setHi {w W : World} {b j : Nat} (k : Keeps w W (fun _ => False)) (hb : w.heap.size ≤ b) (a : Value) : Keeps w (W.setCell ⟨b, j, none⟩ a) (fun _ => False) := k.trans ((Keeps.refl W (fun x => x = b)).setCell ⟨b, j, none⟩ (fun _ => rfl) a) (fun i hi e => by omega)
theorem blk_other {W : World} {q b j : Nat} {o : Obj} (h : W.heap[q]? = some o) (hne : q ≠ b) (a : Value) : (W.setCell ⟨b, j, none⟩ a).heap[q]? = some o := (Below.heap_setCell W ⟨b, j, none⟩ a q hne).trans h
end Go.Proofs.YtfpiibccggjjpaaDoor
