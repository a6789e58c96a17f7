/-
  Plain laws on growing a memory.
-/
import Derived.Test.YtmfmiaiijepgdaaBase3
namespace Go.Proofs.Ytmfmiaiijepgdaa
open Go.RowKit

/-- The slice's length turns, within the room. -/
theorem MemAt.reslice {T E : TypeId} {w : World} {b g : Nat} {bs sp : List UInt8} (m : MemAt T E w b g bs sp) (s : Nat) (h1 : bs.length ≤ s) (h2 : s ≤ bs.length + sp.length) :
    MemAt T E (w.setCell ⟨b, 0, none⟩ (.slice (some ⟨g, 0, none⟩) s (bs.length + sp.length))) b g (bs ++ sp.take (s - bs.length)) (sp.drop (s - bs.length)) ∧
      Keeps w (w.setCell ⟨b, 0, none⟩ (.slice (some ⟨g, 0, none⟩) s (bs.length + sp.length))) (fun i => i = b) := by
  have e1 : (bs ++ sp.take (s - bs.length)).length = s := by simp; omega
  have e2 : s + (sp.drop (s - bs.length)).length = bs.length + sp.length := by simp; omega
  refine ⟨⟨?_, ?_, ?_, m.hne⟩, (Keeps.refl w (fun i => i = b)).setCell _ (fun _ => rfl) _⟩
  · rw [heap_setCell_zero m.hb, e1, e2]
  · rw [Below.heap_setCell _ _ _ _ (fun e => m.hne e.symm), m.hg, List.append_assoc, List.take_append_drop]
  · rw [e1, e2]; exact m.hmax

/-- The bytes lie in a new block g2 with more room; the struct is told. -/
theorem MemAt.moved {T E : TypeId} {w w2 : World} {b g g2 room : Nat} {bs sp : List UInt8} (m : MemAt T E w b g bs sp) (k : Keeps w w2 (fun _ => False)) (hg2 : w2.heap[g2]? = some (.cells (rowOf (bs ++ zeros (room - bs.length))) E)) (hlt : w.heap.size ≤ g2) (h1 : bs.length ≤ room) (h2 : room ≤ 134217728) :
    MemAt T E (w2.setCell ⟨b, 0, none⟩ (.slice (some ⟨g2, 0, none⟩) bs.length room)) b g2 bs (zeros (room - bs.length)) ∧
      Keeps w (w2.setCell ⟨b, 0, none⟩ (.slice (some ⟨g2, 0, none⟩) bs.length room)) (fun i => i = b) := by
  have hbl := heap_lt m.hb
  have hb2 := (k.block b hbl id).trans m.hb
  have e1 : bs.length + (zeros (room - bs.length)).length = room := by rw [zeros_length]; omega
  refine ⟨⟨?_, ?_, ?_, by omega⟩, (k.mono (S1 := fun i => i = b) (fun _ _ x => x.elim)).setCell _ (fun _ => rfl) _⟩
  · rw [heap_setCell_zero hb2, e1]
  · rw [Below.heap_setCell _ _ _ _ (by show g2 ≠ b; omega), hg2]
  · rw [e1]; exact h2

section
variable {P : Program}
theorem run_slice_head (w : World) (t e : TypeId) (ht : P.underlying t = some (.slice e)) (hi : (P.info? e).map (fun i => (i.zero, i.size, i.bytes)) = some (some (.int .u8 0), 1, 1)) (g len cap h : Nat) (hh : h ≤ cap) :
    (Instr.slice t (.slice (some ⟨g, 0, none⟩) len cap) none (some (.int .i64 (h : Int))) none).run P w = .ok (.slice (some ⟨g, 0, none⟩) h cap) w := by
  have ht' : P.underlying t = some (.slice (P.elem t)) := by simp [Program.elem, ht]
  have he : P.elem t = e := by simp [Program.elem, ht]
  rw [run_slice_h w t _ _ _ ht' .i64 _ (by omega) (by omega), he, run_sizeOf_byte w e hi]
  simp [Result.andThen, sliced, Addr.add]

/-- The copy of move. -/
theorem move_copy (t sT : TypeId) {T : TypeId} (E : TypeId) (hu : P.underlying t = some (.slice E)) (hi : (P.info? E).map (fun i => (i.zero, i.size, i.bytes)) = some (some (.int .u8 0), 1, 1))
    {w : World} {b g : Nat} {bs sp : List UInt8} (m : MemAt T E w b g bs sp) {room : Nat} (h1 : bs.length ≤ room) :
    ∃ w2, (∀ ty, (Builtin.copy_ #[t, sT] ty #[.slice (some ⟨w.heap.size, 0, none⟩) bs.length room, .slice (some ⟨g, 0, none⟩) bs.length (bs.length + sp.length)]).run P (w.alloc (.cells (rowOf (zeros room)) E)) = .ok (goInt bs.length) w2) ∧
      Keeps w w2 (fun _ => False) ∧ w2.heap[w.heap.size]? = some (.cells (rowOf (bs ++ zeros (room - bs.length))) E) := by
  have m1 : MemAt T E (w.alloc (.cells (rowOf (zeros room)) E)) b g bs sp := m.keeps ((Keeps.refl _ (fun _ => False)).alloc _) id id
  have hsrc : ∀ j (h : j < bs.length), (w.alloc (.cells (rowOf (zeros room)) E)).cell? ((⟨g, 0, none⟩ : Addr).add j) = some (.int .u8 (bs[j].toNat : Int)) := fun j h => by
    rw [addr_add, Nat.zero_add]
    exact m1.gcell j h
  have h := fun ty => run_copy_bytes (P := P) (w.alloc (.cells (rowOf (zeros room)) E)) t sT ty E hu hi w.heap.size 0 bs.length room ⟨g, 0, none⟩ bs.length (bs.length + sp.length) (zeros room) bs
    (heap_alloc_new _ _) (Nat.min_self _).symm hsrc (by rw [zeros_length]; omega)
  refine ⟨_, h, ((Keeps.refl _ _).alloc _).setRow _ (fun h => absurd h (Nat.lt_irrefl _)) _, ?_⟩
  rw [heap_setRow_same (heap_alloc_new w (.cells (rowOf (zeros room)) E))]
  have e : (zeros room).take 0 ++ bs ++ (zeros room).drop (0 + bs.length) = bs ++ zeros (room - bs.length) := by
    simp [zeros]
  rw [e]
end
/-- What move leaves. -/
def MovePost (T E : TypeId) (w : World) (b : Nat) (bs : List UInt8) (room : Nat) (e : Ending) (w' : World) : Prop :=
  ∃ g2, w.heap.size ≤ g2 ∧ e = .returned (.tuple #[]) ∧ MemAt T E w' b g2 bs (zeros (room - bs.length)) ∧ Keeps w w' (fun i => i = b)
theorem splice_grown (bs x : List UInt8) (n : Nat) (h : x.length = n) : splice (bs ++ x) bs.length (zeros n) = bs ++ zeros n := by
  unfold splice
  rw [List.take_left' rfl, List.drop_of_length_le (by rw [zeros_length, List.length_append]; omega), List.append_nil]
end Go.Proofs.Ytmfmiaiijepgdaa
