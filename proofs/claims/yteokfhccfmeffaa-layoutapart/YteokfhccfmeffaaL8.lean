import Derived.Test.YteokfhccfmeffaaWLayoutTight
namespace Go.Proofs.Yteokfhccfmeffaa
open Go.RowKit

theorem valid_laid {K E A B C : Int} (h : errN K E A B C = 0) : validB (laidD K E A B C) = true := decide_eq_true ⟨h, rfl⟩
theorem place_laid {l : Lay} (h : validB l = true) (i x : Int) (h0 : 0 ≤ i) (h1 : i < 8) : placeD l i x = 8 + i * l.s + x := if_pos ⟨h0, h1, h⟩

section
variable {w W W1 : World} {b : Nat} {v0 v1 v2 v3 v4 v5 v6 v7 v8 : Value}
theorem held_drew (h : W.cell? ⟨b, 0, none⟩ = some v0 ∧ W.cell? ⟨b, 1, none⟩ = some v1 ∧ W.cell? ⟨b, 2, none⟩ = some v2 ∧ W.cell? ⟨b, 3, none⟩ = some v3 ∧ W.cell? ⟨b, 4, none⟩ = some v4 ∧ W.cell? ⟨b, 5, none⟩ = some v5 ∧ W.cell? ⟨b, 6, none⟩ = some v6 ∧ W.cell? ⟨b, 7, none⟩ = some v7 ∧ W.cell? ⟨b, 8, none⟩ = some v8 ∧ Kp w W) :
    W.drew.cell? ⟨b, 0, none⟩ = some v0 ∧ W.drew.cell? ⟨b, 1, none⟩ = some v1 ∧ W.drew.cell? ⟨b, 2, none⟩ = some v2 ∧ W.drew.cell? ⟨b, 3, none⟩ = some v3 ∧ W.drew.cell? ⟨b, 4, none⟩ = some v4 ∧ W.drew.cell? ⟨b, 5, none⟩ = some v5 ∧ W.drew.cell? ⟨b, 6, none⟩ = some v6 ∧ W.drew.cell? ⟨b, 7, none⟩ = some v7 ∧ W.drew.cell? ⟨b, 8, none⟩ = some v8 ∧ Kp w W.drew := by
  obtain ⟨h0, h1, h2, h3, h4, h5, h6, h7, h8, k⟩ := h
  exact ⟨h0, h1, h2, h3, h4, h5, h6, h7, h8, k.drew⟩
theorem held_call (k : Kp W W1) (h : W.cell? ⟨b, 0, none⟩ = some v0 ∧ W.cell? ⟨b, 1, none⟩ = some v1 ∧ W.cell? ⟨b, 2, none⟩ = some v2 ∧ W.cell? ⟨b, 3, none⟩ = some v3 ∧ W.cell? ⟨b, 4, none⟩ = some v4 ∧ W.cell? ⟨b, 5, none⟩ = some v5 ∧ W.cell? ⟨b, 6, none⟩ = some v6 ∧ W.cell? ⟨b, 7, none⟩ = some v7 ∧ W.cell? ⟨b, 8, none⟩ = some v8 ∧ Kp w W) :
    W1.cell? ⟨b, 0, none⟩ = some v0 ∧ W1.cell? ⟨b, 1, none⟩ = some v1 ∧ W1.cell? ⟨b, 2, none⟩ = some v2 ∧ W1.cell? ⟨b, 3, none⟩ = some v3 ∧ W1.cell? ⟨b, 4, none⟩ = some v4 ∧ W1.cell? ⟨b, 5, none⟩ = some v5 ∧ W1.cell? ⟨b, 6, none⟩ = some v6 ∧ W1.cell? ⟨b, 7, none⟩ = some v7 ∧ W1.cell? ⟨b, 8, none⟩ = some v8 ∧ Kp w W1 := by
  obtain ⟨h0, h1, h2, h3, h4, h5, h6, h7, h8, k0⟩ := h
  exact ⟨k.cell h0, k.cell h1, k.cell h2, k.cell h3, k.cell h4, k.cell h5, k.cell h6, k.cell h7, k.cell h8, k0.trans k⟩
end

abbrev Sx (w : World) (b : Nat) (l : Lay) (W : World) : Prop := W.cell? ⟨b, 0, none⟩ = some (.int .i64 l.k) ∧ W.cell? ⟨b, 1, none⟩ = some (.int .i64 l.e) ∧ W.cell? ⟨b, 2, none⟩ = some (.int .i64 l.a) ∧ W.cell? ⟨b, 3, none⟩ = some (.int .i64 l.b) ∧ W.cell? ⟨b, 4, none⟩ = some (.int .i64 l.c) ∧ W.cell? ⟨b, 5, none⟩ = some (.int .i64 l.eo) ∧ W.cell? ⟨b, 6, none⟩ = some (.int .i64 l.bo) ∧ W.cell? ⟨b, 7, none⟩ = some (.int .i64 l.s) ∧ W.cell? ⟨b, 8, none⟩ = some (.int .i64 l.g) ∧ Kp w W
theorem sx_mk {w w2 : World} (k : Kp w w2) (l : Lay) (t : TypeId) : Sx w w2.heap.size l (w2.alloc (.cells #[.int .i64 l.k, .int .i64 l.e, .int .i64 l.a, .int .i64 l.b, .int .i64 l.c, .int .i64 l.eo, .int .i64 l.bo, .int .i64 l.s, .int .i64 l.g] t)) := by
  obtain ⟨a0, a1, a2, a3, a4, a5, a6, a7, a8, -⟩ := (Kp.refl (w2.alloc (.cells #[.int .i64 l.k, .int .i64 l.e, .int .i64 l.a, .int .i64 l.b, .int .i64 l.c, .int .i64 l.eo, .int .i64 l.bo, .int .i64 l.s, .int .i64 l.g] t))).nine (b := w2.heap.size) (heap_new _ _)
  exact ⟨a0, a1, a2, a3, a4, a5, a6, a7, a8, k.alloc _⟩

/-- A contract by its answer: KeyAt and its fellows, Groups, Valid of a layout at hand. -/
def KeyIs (l : Lay) (i N : Int) : Prop := placeD l i 0 = N
def ElemIs (l : Lay) (i N : Int) : Prop := placeD l i l.eo = N
def BirthIs (l : Lay) (i N : Int) : Prop := placeD l i l.bo = N
def GroupsIs (l : Lay) (n N : Int) : Prop := groupsD l n = N
theorem key_is {l : Lay} {i N : Int} (h : KeyIs l i N) (w : World) :
    Calls Try.prog 17 #[.agg #[.int .i64 l.k, .int .i64 l.e, .int .i64 l.a, .int .i64 l.b, .int .i64 l.c, .int .i64 l.eo, .int .i64 l.bo, .int .i64 l.s, .int .i64 l.g], .int .i64 i] w
      fun r w' => r = .returned (.int .i64 N) ∧ Kp w w' := by
  have h : placeD l i 0 = N := h
  subst h
  exact keyAt_any l i w
theorem elem_is {l : Lay} {i N : Int} (h : ElemIs l i N) (w : World) :
    Calls Try.prog 19 #[.agg #[.int .i64 l.k, .int .i64 l.e, .int .i64 l.a, .int .i64 l.b, .int .i64 l.c, .int .i64 l.eo, .int .i64 l.bo, .int .i64 l.s, .int .i64 l.g], .int .i64 i] w
      fun r w' => r = .returned (.int .i64 N) ∧ Kp w w' := by
  have h : placeD l i l.eo = N := h
  subst h
  exact elemAt_any l i w
theorem birth_is {l : Lay} {i N : Int} (h : BirthIs l i N) (w : World) :
    Calls Try.prog 20 #[.agg #[.int .i64 l.k, .int .i64 l.e, .int .i64 l.a, .int .i64 l.b, .int .i64 l.c, .int .i64 l.eo, .int .i64 l.bo, .int .i64 l.s, .int .i64 l.g], .int .i64 i] w
      fun r w' => r = .returned (.int .i64 N) ∧ Kp w w' := by
  have h : placeD l i l.bo = N := h
  subst h
  exact birthAt_any l i w
theorem groups_is {l : Lay} {n N : Int} (h : GroupsIs l n N) (w : World) :
    Calls Try.prog 18 #[.agg #[.int .i64 l.k, .int .i64 l.e, .int .i64 l.a, .int .i64 l.b, .int .i64 l.c, .int .i64 l.eo, .int .i64 l.bo, .int .i64 l.s, .int .i64 l.g], .int .i64 n] w
      fun r w' => r = .returned (.int .i64 N) ∧ Kp w w' := by
  have h : groupsD l n = N := h
  subst h
  exact groups_any l n w
end Go.Proofs.Yteokfhccfmeffaa
