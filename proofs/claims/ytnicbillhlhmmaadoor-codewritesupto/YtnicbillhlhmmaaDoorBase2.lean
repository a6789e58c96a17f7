/-
  Plain laws on parts that are laid one behind the other.
-/
import Derived.Test.YtnicbillhlhmmaaDoorBase
namespace Go.Proofs.YtnicbillhlhmmaaDoor
open Go.RowKit

def splice (bs : List UInt8) (o : Nat) (x : List UInt8) : List UInt8 := bs.take o ++ x ++ bs.drop (o + x.length)
theorem splice_length {bs : List UInt8} {o : Nat} {x : List UInt8} (h : o + x.length ≤ bs.length) : (splice bs o x).length = bs.length := by
  simp [splice]; omega
theorem splice_nil (bs : List UInt8) (o : Nat) : splice bs o [] = bs := by simp [splice]
theorem splice_splice {bs : List UInt8} {o : Nat} {a x : List UInt8} (h : o + a.length + x.length ≤ bs.length) : splice (splice bs o a) (o + a.length) x = splice bs o (a ++ x) := by
  unfold splice
  have h1 : (bs.take o ++ a).length = o + a.length := by simp; omega
  rw [List.take_append_of_le_length (by omega), List.take_of_length_le (by omega), List.drop_append]
  rw [List.drop_of_length_le (l := List.take o bs ++ a) (by omega), h1, List.nil_append, List.drop_drop]
  simp only [List.append_assoc, List.length_append]
  congr 4
  omega
theorem splice_get {bs : List UInt8} {o : Nat} {x : List UInt8} (h : o + x.length ≤ bs.length) (p : Nat) :
    (splice bs o x)[p]? = if o ≤ p ∧ p < o + x.length then x[p - o]? else bs[p]? := by
  unfold splice
  by_cases h1 : p < o
  · rw [if_neg (by omega), List.append_assoc, List.getElem?_append_left (by simp; omega), List.getElem?_take_of_lt h1]
  · by_cases h2 : p < o + x.length
    · rw [if_pos ⟨by omega, h2⟩, List.append_assoc, List.getElem?_append_right (by simp; omega), List.getElem?_append_left (by simp; omega)]
      congr 1
      simp
      omega
    · rw [if_neg (by omega), List.getElem?_append_right (by simp; omega), List.getElem?_drop]
      congr 1
      simp
      omega

/-- The value v is a slice that holds the bytes x, outside of block g. -/
def PartAt (w : World) (g : Nat) (v : Value) (x : List UInt8) : Prop :=
  ∃ h o c, v = .slice (some ⟨h, o, none⟩) x.length c ∧ h < w.heap.size ∧ h ≠ g ∧ x.length ≤ 140737488355328 ∧ ∀ j (hj : j < x.length), w.cell? ⟨h, o + j, none⟩ = some (.int .u8 (x[j].toNat : Int))
theorem PartAt.keeps {w w1 : World} {g : Nat} {v : Value} {x : List UInt8} (p : PartAt w g v x) (k : Keeps w w1 (fun i => i = g)) : PartAt w1 g v x := by
  obtain ⟨h, o, c, hv, hl, hg, hx, hc⟩ := p
  exact ⟨h, o, c, hv, Nat.lt_of_lt_of_le hl k.size, hg, hx, fun j hj => (World.cell?_of_block (w := w) (k.block h hl hg)).trans (hc j hj)⟩
/-- Block pb holds the parts xs, outside of block g. -/
structure PartsAt (w : World) (g pb : Nat) (xs : List (List UInt8)) : Prop where
  hpb : pb < w.heap.size
  hne : pb ≠ g
  part : ∀ j (hj : j < xs.length), ∃ v, w.cell? ⟨pb, j, none⟩ = some v ∧ PartAt w g v xs[j]
theorem PartsAt.keeps {w w1 : World} {g pb : Nat} {xs : List (List UInt8)} (p : PartsAt w g pb xs) (k : Keeps w w1 (fun i => i = g)) : PartsAt w1 g pb xs := by
  refine ⟨Nat.lt_of_lt_of_le p.hpb k.size, p.hne, fun j hj => ?_⟩
  obtain ⟨v, hv, hp⟩ := p.part j hj
  exact ⟨v, (World.cell?_of_block (w := w) (k.block pb p.hpb p.hne)).trans hv, hp.keeps k⟩

def catTo (xs : List (List UInt8)) (k : Nat) : List UInt8 := (xs.take k).flatten
theorem catTo_zero (xs : List (List UInt8)) : catTo xs 0 = [] := by simp [catTo]
theorem catTo_succ (xs : List (List UInt8)) (k : Nat) (h : k < xs.length) : catTo xs (k + 1) = catTo xs k ++ xs[k] := by
  unfold catTo
  rw [List.take_succ_eq_append_getElem h, List.flatten_append]
  simp
theorem catTo_all (xs : List (List UInt8)) : catTo xs xs.length = xs.flatten := by simp [catTo]
theorem catTo_le (xs : List (List UInt8)) (k : Nat) : (catTo xs k).length ≤ xs.flatten.length := by
  have h : xs.flatten.length = (xs.take k).flatten.length + (xs.drop k).flatten.length := by rw [← List.length_append, ← List.flatten_append, List.take_append_drop]
  unfold catTo
  omega

/-- All parts, one behind the other; do so many bytes from o on fit into s? (Plain names: the walk does not look into them.) -/
def catAll (xs : List (List UInt8)) : List UInt8 := xs.flatten
def fitsB (s o t : Nat) : Bool := decide (o + t ≤ s)
theorem catTo_all' (xs : List (List UInt8)) : catTo xs xs.length = catAll xs := catTo_all xs
theorem catTo_le' (xs : List (List UInt8)) (k : Nat) : (catTo xs k).length ≤ (catAll xs).length := catTo_le xs k
theorem fitsB_true {s o t : Nat} (h : o + t ≤ s) : fitsB s o t = true := decide_eq_true h
theorem fitsB_false {s o t : Nat} (h : s < o + t) : fitsB s o t = false := decide_eq_false (by omega)

section
variable {P : Program}

def tailVal (g len cap l : Nat) : Value := .slice (some ⟨g, if cap = l then 0 else l, none⟩) (len - l) (cap - l)
theorem tailVal_eq (g len cap l : Nat) : ∃ q, (q = l ∨ (q = 0 ∧ cap = l)) ∧ tailVal g len cap l = .slice (some ⟨g, q, none⟩) (len - l) (cap - l) := by
  unfold tailVal
  by_cases h : cap = l
  · exact ⟨0, Or.inr ⟨rfl, h⟩, by simp [h]⟩
  · exact ⟨l, Or.inl rfl, by simp [h]⟩
theorem run_slice_tail (w : World) (t e : TypeId) (ht : P.underlying t = some (.slice e)) (hi : (P.info? e).map (fun i => (i.zero, i.size, i.bytes)) = some (some (.int .u8 0), 1, 1)) (g len cap l : Nat) (hl : l ≤ len) :
    (Instr.slice t (.slice (some ⟨g, 0, none⟩) len cap) (some (.int .i64 (l : Int))) none none).run P w = .ok (tailVal g len cap l) w := by
  have ht' : P.underlying t = some (.slice (P.elem t)) := by simp [Program.elem, ht]
  have he : P.elem t = e := by simp [Program.elem, ht]
  rw [run_slice_l w t _ _ _ ht' .i64 _ (by omega) (by omega), he, run_sizeOf_byte w e hi]
  by_cases h : cap = l
  · simp [Result.andThen, sliced, tailVal, h]
  · by_cases h0 : l = 0
    · subst h0
      simp [Result.andThen, sliced, Addr.add, tailVal, h]
    · simp [Result.andThen, sliced, Addr.add, tailVal, h, h0]

/-- A copy into the memory's bytes from l on. -/
theorem mem_copy (t sT : TypeId) {T : TypeId} (E : TypeId) (hu : P.underlying t = some (.slice E)) (hi : (P.info? E).map (fun i => (i.zero, i.size, i.bytes)) = some (some (.int .u8 0), 1, 1))
    {w : World} {b g : Nat} {bs sp : List UInt8} (m : MemAt T E w b g bs sp) {l q dLen dCap sLen sCap : Nat} {a : Addr} (x : List UInt8) (hl : l + x.length ≤ bs.length) (hq : q = l ∨ (q = 0 ∧ bs.length + sp.length = l)) (hn : x.length = Nat.min sLen dLen)
    (hsrc : ∀ j (h : j < x.length), w.cell? (a.add j) = some (.int .u8 (x[j].toNat : Int))) :
    ∃ w2, (∀ ty, (Builtin.copy_ #[t, sT] ty #[.slice (some ⟨g, q, none⟩) dLen dCap, .slice (some a) sLen sCap]).run P w = .ok (goInt x.length) w2) ∧ MemAt T E w2 b g (splice bs l x) sp ∧ Keeps w w2 (fun i => i = g) := by
  have hfit : q + x.length ≤ (bs ++ sp).length := by
    rw [List.length_append]
    rcases hq with hq | ⟨hq, hz⟩ <;> omega
  have hr := fun ty => run_copy_bytes (P := P) w t sT ty E hu hi g q dLen dCap a sLen sCap (bs ++ sp) x m.hg hn hsrc hfit
  have hrow : (bs ++ sp).take q ++ x ++ (bs ++ sp).drop (q + x.length) = splice bs l x ++ sp := by
    rcases hq with hq | ⟨hq, hz⟩
    · subst hq
      unfold splice
      rw [List.take_append_of_le_length (by omega), List.drop_append_of_le_length hl]
      simp
    · have h0 : x = [] := List.eq_nil_of_length_eq_zero (by omega)
      subst h0
      simp [splice_nil]
  refine ⟨_, hr, ⟨?_, ?_, ?_, m.hne⟩, (Keeps.refl w (fun i => i = g)).setRow g (fun _ => rfl) _⟩
  · rw [heap_setRow_other _ _ _ _ m.hne, m.hb, splice_length hl]
  · rw [heap_setRow_same m.hg, hrow]
  · rw [splice_length hl]; exact m.hmax

/-- A text as a new list of bytes. -/
theorem bytes_of (w : World) (src dst e : TypeId) (s : ByteArray) (hs : P.underlying src = some .string) (hd : P.underlying dst = some (.slice e)) (he : P.underlying e = some (.int .u8)) :
    ∃ w2 c fz, (convert src dst (.string s)).run P w = .ok (.slice (some ⟨w.heap.size, 0, none⟩) s.size c) w2 ∧ Keeps w w2 (fun _ => False) ∧ w2.heap.size = w.heap.size + 1 ∧
      w2.heap[w.heap.size]? = some (.cells (rowOf (s.data.toList ++ zeros (c - s.size))) e fz) := by
  have h := run_bytes_of_string (P := P) w src dst e s hs hd he
  have hrow : ∀ c, bytesRow s c = rowOf (s.data.toList ++ zeros (c - s.size)) := fun c => by
    apply Array.ext'
    simp [bytesRow, rowOf, cellsOf, zeros, cellOf]
  refine ⟨_, _, ((bytesRow s (grownCap w s.size 0 e)).size, (bytesRow s (grownCap w s.size 0 e)).size + 1), h, ((Keeps.refl _ _).drew).alloc _, by simp, ?_⟩
  rw [← hrow]
  exact heap_alloc_new w.drew _
theorem part_of_row {w : World} {g h : Nat} {x y : List UInt8} {e : TypeId} {fz : Nat × Nat} {c : Nat} (hr : w.heap[h]? = some (.cells (rowOf (x ++ y)) e fz)) (hg : h ≠ g) (hx : x.length ≤ 140737488355328) :
    PartAt w g (.slice (some ⟨h, 0, none⟩) x.length c) x := by
  refine ⟨h, 0, c, rfl, heap_lt hr, hg, hx, fun j hj => ?_⟩
  have := rowOf_get (x ++ y) j (by simp; omega)
  simp only [World.cell?, hr]
  simpa [List.getElem_append_left hj] using this
theorem byte_get (s : ByteArray) (q : Nat) (h : q < s.size) (h' : q < s.data.toList.length) : s.data.toList[q] = s[q]'h := by
  simp only [Array.getElem_toList]
  rfl
theorem wrap_byte (x : UInt8) : IntKind.i64.wrap (x.toNat : Int) = (x.toNat : Int) := by
  have := x.toNat_lt
  rw [IntKind.wrap_i64]
  omega
theorem catAll_one (x : List UInt8) : catAll [x] = x := by simp [catAll]
theorem splice_zeros (x : List UInt8) (n : Nat) : splice (zeros n) 0 x = x ++ zeros (n - x.length) := by
  simp [splice, zeros]
end
end Go.Proofs.YtnicbillhlhmmaaDoor
