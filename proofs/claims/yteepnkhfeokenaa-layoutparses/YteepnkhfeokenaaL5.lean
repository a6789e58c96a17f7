import Derived.Test.YteepnkhfeokenaaL4
namespace Go.Proofs.Yteepnkhfeokenaa
open Go.RowKit

def placeD (l : Lay) (i x : Int) : Int := if 0 ≤ i ∧ i < 8 ∧ validB l = true then 8 + i * l.s + x else -1

theorem slot_bound {k e b : Int} (h0 : 1 ≤ k) (h1 : k ≤ 128) (h2 : 0 ≤ e) (h3 : e ≤ 128) (hb : b = 1 ∨ b = 2 ∨ b = 4 ∨ b = 8) :
    1 ≤ up k b ∧ up k b ≤ 135 ∧ 1 ≤ up (up k b + e) 8 ∧ up (up k b + e) 8 ≤ 270 ∧ 9 ≤ slotOf k e b ∧ slotOf k e b ≤ 278 := by
  have u1 := up_bound (x := k) hb
  have u2 := up_bound (x := up k b + e) (a := 8) (by omega)
  unfold slotOf
  omega
theorem valid_bound {l : Lay} (h : validB l = true) : errN l.k l.e l.a l.b l.c = 0 ∧ l = laidD l.k l.e l.a l.b l.c ∧ 1 ≤ l.eo ∧ l.eo ≤ 135 ∧ 1 ≤ l.bo ∧ l.bo ≤ 270 ∧ 9 ≤ l.s ∧ l.s ≤ 278 ∧ l.g = 8 + 8 * l.s := by
  obtain ⟨h1, h2⟩ := of_decide_eq_true h
  obtain ⟨e1, e2, e3, e4, e5, e6, e7⟩ := errN_zero h1
  have hb := (al_one e6).1
  have := slot_bound e1 e2 e3 e4 hb
  refine ⟨h1, h2, ?_⟩
  have f1 : l.eo = up l.k l.b := congrArg Lay.eo h2
  have f2 : l.bo = up (up l.k l.b + l.e) 8 := congrArg Lay.bo h2
  have f3 : l.s = slotOf l.k l.e l.b := congrArg Lay.s h2
  have f4 : l.g = 8 + 8 * slotOf l.k l.e l.b := congrArg Lay.g h2
  rw [f1, f2, f4, ← f3]
  rw [← f3] at this
  omega
end Go.Proofs.Yteepnkhfeokenaa
