/-
  Plain laws on stores into a memory's bytes.
-/
import Derived.Test.YtnicbillhlhmmaaDoorBase2
namespace Go.Proofs.YtnicbillhlhmmaaDoor
open Go.RowKit

theorem splice_set {bs : List UInt8} {o k : Nat} {u : UInt8} {x : List UInt8} (hx : x.length = k) (h : o + k < bs.length) : (splice bs o x).set (o + k) u = splice bs o (x ++ [u]) := by
  subst hx
  apply List.ext_getElem?
  intro p
  have hl : (x ++ [u]).length = x.length + 1 := by simp
  have hA := splice_get (bs := bs) (o := o) (x := x ++ [u]) (by omega) p
  have hB := splice_get (bs := bs) (o := o) (x := x) (by omega) p
  rw [hl] at hA
  rw [List.getElem?_set, splice_length (by omega), hA]
  by_cases hp : o + x.length = p
  · subst hp
    rw [if_pos rfl, if_pos h, if_pos (by omega), show o + x.length - o = x.length from by omega, List.getElem?_append_right (Nat.le_refl _)]
    simp
  · rw [if_neg hp, hB]
    by_cases h1 : o ≤ p ∧ p < o + x.length
    · rw [if_pos h1, if_pos (by omega), List.getElem?_append_left (by omega)]
    · rw [if_neg h1, if_neg (by omega)]

theorem MemAt.gcell_any {T E : TypeId} {w : World} {b g : Nat} {bs sp : List UInt8} (m : MemAt T E w b g bs sp) (j : Nat) (h : j < bs.length) : ∃ v, w.cell? ⟨g, j, none⟩ = some v := ⟨_, m.gcell j h⟩

/-- One byte is stored. -/
theorem MemAt.store {T E : TypeId} {w : World} {b g : Nat} {bs sp : List UInt8} (m : MemAt T E w b g bs sp) (j : Nat) (h : j < bs.length) (u : UInt8) :
    MemAt T E (w.setCell ⟨g, j, none⟩ (.int .u8 (u.toNat : Int))) b g (bs.set j u) sp ∧ Keeps w (w.setCell ⟨g, j, none⟩ (.int .u8 (u.toNat : Int))) (fun i => i = g) := by
  refine ⟨⟨?_, ?_, by simpa using m.hmax, m.hne⟩, (Keeps.refl w (fun i => i = g)).setCell _ (fun _ => rfl) _⟩
  · rw [Below.heap_setCell _ _ _ _ m.hne, m.hb]
    simp
  · rw [setCell_eq_setRow w g j _ E (0, 0) _ m.hg, heap_setRow_same m.hg]
    congr 2
    apply Array.ext'
    rw [Array.toList_setIfInBounds, rowOf_toList, rowOf_toList]
    simp only [cellsOf, List.map_append, List.map_set]
    rw [List.set_append_left _ _ (by simpa using h)]
    rfl

section
variable {P : Program}
/-- clear of a span. -/
theorem mem_clear (t : TypeId) {T : TypeId} (E : TypeId) (hu : P.underlying t = some (.slice E)) (hi : (P.info? E).map (fun i => (i.zero, i.size, i.bytes)) = some (some (.int .u8 0), 1, 1))
    {w : World} {b g : Nat} {bs sp : List UInt8} (m : MemAt T E w b g bs sp) {l q n c : Nat} (hl : l + n ≤ bs.length) (hq : q = l ∨ (q = 0 ∧ bs.length + sp.length = l)) :
    ∃ w2, (∀ ty, (Builtin.clear_ #[t] ty #[.slice (some ⟨g, q, none⟩) n c]).run P w = .ok (.tuple #[]) w2) ∧ MemAt T E w2 b g (splice bs l (zeros n)) sp ∧ Keeps w w2 (fun i => i = g) := by
  by_cases hn : n = 0
  · subst hn
    refine ⟨w, fun ty => ?_, ?_, Keeps.refl _ _⟩
    · simp [Builtin.clear_, run_underlying hu]
    · rw [show zeros 0 = [] from rfl, splice_nil]
      exact m
  · have hq' : q = l := by
      rcases hq with hq | ⟨_, hz⟩
      · exact hq
      · omega
    subst hq'
    obtain ⟨i, h1, h2, h3, h4⟩ := info_parts hi
    have hv : ∀ w, (zeroValue E).run P w = .ok (.int .u8 0) w := fun w => by simp [zeroValue, typeInfo, h1, h2]
    have hzc : (Builtin.zeroCells (Value.int .u8 0).cells n).toList = cellsOf (zeros n) := by
      simp [Builtin.zeroCells, Value.cells, cellsOf, zeros, cellOf]
      apply List.ext_getElem
      · simp
      · intro i h1 h2
        simp [Nat.mod_one]
    have hst := run_storeCells_at P g q E (cellsOf (zeros n)) 0 (rowOf (bs ++ sp)) w m.hg (by simp only [cellsOf_length, zeros_length, rowOf_size, List.length_append]; omega) cellsOf_one
    obtain ⟨n', rfl⟩ : ∃ n', n = n' + 1 := ⟨n - 1, by omega⟩
    have hrow : ((rowOf (bs ++ sp)).toList.take (q + 0) ++ cellsOf (zeros (n' + 1)) ++ (rowOf (bs ++ sp)).toList.drop (q + 0 + (cellsOf (zeros (n' + 1))).length)).toArray = rowOf (splice bs q (zeros (n' + 1)) ++ sp) := by
      rw [rowOf_toList, Nat.add_zero, cellsOf_length, ← cellsOf_take, ← cellsOf_drop, ← cellsOf_append, ← cellsOf_append, rowOf]
      congr 2
      unfold splice
      rw [zeros_length, List.take_append_of_le_length (by omega), List.drop_append_of_le_length hl]
      simp
    rw [hrow] at hst
    have hz : (zeros (n' + 1)).length = n' + 1 := zeros_length _
    refine ⟨w.setRow g (rowOf (splice bs q (zeros (n' + 1)) ++ sp)), fun ty => ?_, ⟨?_, ?_, ?_, m.hne⟩, (Keeps.refl w (fun i => i = g)).setRow g (fun _ => rfl) _⟩
    · simp only [Builtin.clear_]
      simp [run_underlying hu, hv, hzc, hst]
    · rw [heap_setRow_other _ _ _ _ m.hne, m.hb, splice_length (by rw [hz]; exact hl)]
    · rw [heap_setRow_same m.hg]
    · rw [splice_length (by rw [hz]; exact hl)]; exact m.hmax
end
end Go.Proofs.YtnicbillhlhmmaaDoor
