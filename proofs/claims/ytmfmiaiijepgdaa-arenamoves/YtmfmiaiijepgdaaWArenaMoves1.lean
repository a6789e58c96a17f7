import Derived.Test.YtmfmiaiijepgdaaWArenaMoves0
import Derived.Test.YtmfmiaiijepgdaaAW19
import Derived.Great.BuildSlice
import Derived.Deep.RegionHeld
namespace Go.Proofs.Ytmfmiaiijepgdaa
open Go.RowKit Go.Shelf

/-- .. beside a list of its offsets in block h. -/
structure OwnL (w w1 : World) (p h : Nat) (row : Array Value) (d : AD) : Prop where
  own : Own w w1 p (fun k => k = h) d
  row : w1.heap[h]? = some (.cells row 3)
theorem OwnL.turn {w w1 w2 : World} {p h : Nat} {row : Array Value} {d d' : AD} (o : OwnL w w1 p h row d) (ht : Turned w1 w2 p (fun k => (w.heap.size ≤ k ∧ ¬ k = h) ∧ k < w1.heap.size) d') : OwnL w w2 p h row d' :=
  ⟨o.own.turn ht (fun k e => by rw [e]; exact heap_lt o.row), (Own.rest ht (heap_lt o.row) (Or.inl rfl)).trans o.row⟩
theorem OwnL.stay {w w1 w2 : World} {p h : Nat} {row : Array Value} {d : AD} (o : OwnL w w1 p h row d) (k : Keeps w1 w2 (fun _ => False)) : OwnL w w2 p h row d :=
  ⟨o.own.stay k, (k.block h (heap_lt o.row) id).trans o.row⟩
theorem own_allocAll {T : AD → Nat → Nat × AD} {G : AD → Prop} (hT : TakeOK T G) {w w1 : World} {p : Nat} {d : AD} (h : Own w w1 p (fun _ => False) d) (hG : G d) (hF : d.Fine) (zs : List Int) (row : Array Value) (hrow : row = (zs.map cellI).toArray) (h0 : 0 < zs.length) (ha : allOne zs) (hf : fitsIn ((d.limit : Int) - (d.used : Int)) zs = true) (n : Nat) (hn : n = zs.length) :
    Calls Try.prog 17 #[.pointer (some ⟨p, 0, none⟩), .slice (some ⟨w1.heap.size, 0, none⟩) n n] (w1.alloc (.cells row 3)) fun e w' => ∃ hh, e = .returned (.tuple #[.slice (some ⟨hh, 0, none⟩) n n, .int .i64 0]) ∧ OwnL w w' p hh ((takeAll T d zs).1.map cellI).toArray (takeAll T d zs).2 := by
  subst hrow hn
  have k0 : Keeps w1 (w1.alloc (.cells (zs.map cellI).toArray 3)) (fun _ => False) := (Keeps.refl _ _).alloc _
  have hA := h.here.keeps k0 (fun _ _ _ e => e)
  refine (allocAll_some hT hA hG hF w1.heap.size 0 zs.length zs (fun j hj => ?_) (fun e => by omega) (by simp) h0 ha hf).mono ?_
  · simp only [World.cell?, heap_alloc_new]
    simp [cellI, hj]
  · rintro e w2 ⟨hh, a1, a2, a3, a4, a5⟩
    rw [takeAll_length] at a2
    refine ⟨hh, a2, ⟨⟨a4.mono (fun i _ hi => ⟨?_, hi.2⟩), (h.keeps.trans k0 (fun _ _ e => e)).trans a5 (fun i hi e => by omega)⟩, a3⟩⟩
    rcases hi.1 with hi | hi
    · exact hi.1.1
    · have := h.keeps.size
      simp at hi
      omega

/-- Write of three texts that lie in a new block. -/
theorem own_write3 {w w1 : World} {p h : Nat} {row : Array Value} {d : AD} (o : OwnL w w1 p h row d) (hF : d.Fine) (hS : d.small) (off : Int) (ho : fitsI off) (a b c : ByteArray) (ha : a.size ≤ 4096) (hb : b.size ≤ 4096) (hc : c.size ≤ 4096) (W : World) (V : Nat) (k0 : Keeps w1 W (fun _ => False)) (hV : W.heap[V]? = some (.cells #[.string a, .string b, .string c] 9)) :
    Calls Try.prog 18 #[.pointer (some ⟨p, 0, none⟩), .int .i64 off, .slice (some ⟨V, 0, none⟩) 3 3] W fun e w' => e = .returned (.int .i64 (writeR d off [a, b, c]).1) ∧ OwnL w w' p h row (writeR d off [a, b, c]).2 := by
  have o1 := o.stay k0
  have ht : TextsAt W (some ⟨V, 0, none⟩) [a, b, c] := by
    intro j hj
    refine ⟨V, 0, rfl, heap_lt hV, ?_⟩
    simp only [World.cell?, hV]
    have hj3 : j = 0 ∨ j = 1 ∨ j = 2 := by simp at hj; omega
    rcases hj3 with rfl | rfl | rfl <;> simp
  refine (awrite_any joinOK o1.own.here hF hS off (some ⟨V, 0, none⟩) 3 [a, b, c] ho (by simp) (by simp) (fun t ht => by simp at ht; rcases ht with rfl | rfl | rfl <;> omega) ht).mono ?_
  rintro e w2 ⟨rfl, ht⟩
  exact ⟨rfl, o1.turn ht⟩

theorem splice_text (t s : ByteArray) (o n : Nat) (x : List UInt8) (hx : x = s.data.toList) (hn : s.size = n) (h : o + n ≤ t.size) : splice t.data.toList o x = (t.extract 0 o ++ s ++ t.extract (o + n) t.size).data.toList := by
  subst hx
  subst hn
  have hl : t.data.toList.length = t.size := by simp
  have hsl : s.data.toList.length = s.size := by simp
  simp only [ByteArray.data_append, Array.toList_append, extract_list]
  unfold splice
  rw [hsl]
  simp only [List.drop_zero, Nat.sub_zero]
  congr 1
  rw [List.take_of_length_le (by simp)]
theorem strOf_splice (t s : ByteArray) (o n : Nat) (x T : List UInt8) (hT : t.data.toList = T) (hx : x = s.data.toList) (hn : s.size = n) (h : o + n ≤ t.size) : strOf (splice T o x) = t.extract 0 o ++ s ++ t.extract (o + n) t.size := by
  rw [← hT, splice_text t s o n x hx hn h, strOf_data]
namespace arenaMoves
theorem joined_three (s : ByteArray) (k : Nat) : joined [s.extract 0 k, ByteArray.empty, s.extract k s.size] = s.data.toList := by
  rw [joined_eq]
  simp only [List.map_cons, List.map_nil, List.flatten_cons, List.flatten_nil, extract_list]
  have e : ByteArray.empty.data.toList = [] := rfl
  rw [e, List.drop_zero, Nat.sub_zero, List.nil_append, List.append_nil, List.take_of_length_le (l := List.drop k s.data.toList) (by simp), List.take_append_drop]

end arenaMoves
end Go.Proofs.Ytmfmiaiijepgdaa
