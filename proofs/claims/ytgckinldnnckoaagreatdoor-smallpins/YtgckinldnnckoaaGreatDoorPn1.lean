import Derived.WalkKit
import Derived.Below
import Derived.Laws.CopyRow
import Derived.Laws.IdiomStrings
import Derived.Laws.MakeOwn
import Derived.Laws.Slices
import Derived.Lib.SliceRun
import Derived.Deep.AppendLies
import Derived.Maps.OwnSet
/-
  Plain laws for a bounds-checked memory: a struct of one slice of bytes behind a pointer; worlds that keep all blocks but some. Nothing here names the program.
-/
namespace Go.Proofs.YtgckinldnnckoaaGreatDoor
open Go.RowKit

/-- The cell of a byte. -/
def cellOf (x : UInt8) : Value := .int .u8 (x.toNat : Int)
def cellsOf (bs : List UInt8) : List Value := bs.map cellOf
def rowOf (bs : List UInt8) : Array Value := (cellsOf bs).toArray
def zeros (n : Nat) : List UInt8 := List.replicate n 0

theorem cellsOf_length (bs : List UInt8) : (cellsOf bs).length = bs.length := by simp [cellsOf]
theorem rowOf_size (bs : List UInt8) : (rowOf bs).size = bs.length := by simp [rowOf, cellsOf]
theorem rowOf_toList (bs : List UInt8) : (rowOf bs).toList = cellsOf bs := by simp [rowOf]
theorem zeros_length (n : Nat) : (zeros n).length = n := by simp [zeros]
theorem cellsOf_append (a b : List UInt8) : cellsOf (a ++ b) = cellsOf a ++ cellsOf b := by simp [cellsOf]
theorem cellsOf_take (a : List UInt8) (n : Nat) : cellsOf (a.take n) = (cellsOf a).take n := by simp [cellsOf, List.map_take]
theorem cellsOf_drop (a : List UInt8) (n : Nat) : cellsOf (a.drop n) = (cellsOf a).drop n := by simp [cellsOf, List.map_drop]
theorem cellsOf_one {bs : List UInt8} : ∀ v ∈ cellsOf bs, v.oneCell' = true := by
  intro v hv
  simp only [cellsOf, List.mem_map] at hv
  obtain ⟨x, _, rfl⟩ := hv
  rfl
theorem rowOf_get (bs : List UInt8) (j : Nat) (h : j < bs.length) : (rowOf bs)[j]? = some (.int .u8 (bs[j].toNat : Int)) := by
  simp [rowOf, cellsOf, cellOf, h]

theorem addr_add (h o j : Nat) : (⟨h, o, none⟩ : Addr).add j = ⟨h, o + j, none⟩ := by unfold Addr.add; split <;> simp_all
theorem made_row (n : Nat) : madeCells (Value.int .u8 0).cells (n * 1) = rowOf (zeros n) := by
  apply Array.ext
  · simp [size_madeCells, rowOf_size, zeros_length]
  · intro i h1 h2
    simp [madeCells, Value.cells, rowOf, cellsOf, zeros, cellOf, Nat.mod_one]

/-- All blocks of w but those in S are in w' as they were; the streams stand. -/
structure Keeps (w w' : World) (S : Nat → Prop) : Prop where
  os : w'.os = w.os
  tape : w'.tape = w.tape
  output : w'.output = w.output
  size : w.heap.size ≤ w'.heap.size
  block : ∀ k, k < w.heap.size → ¬ S k → w'.heap[k]? = w.heap[k]?

theorem Keeps.refl (w : World) (S : Nat → Prop) : Keeps w w S := ⟨rfl, rfl, rfl, Nat.le_refl _, fun _ _ _ => rfl⟩
theorem Keeps.trans {w w1 w2 : World} {S S1 : Nat → Prop} (h : Keeps w w1 S) (k : Keeps w1 w2 S1) (hS : ∀ i, i < w.heap.size → S1 i → S i) : Keeps w w2 S :=
  ⟨k.os.trans h.os, k.tape.trans h.tape, k.output.trans h.output, Nat.le_trans h.size k.size,
    fun i hi hn => (k.block i (Nat.lt_of_lt_of_le hi h.size) (fun x => hn (hS i hi x))).trans (h.block i hi hn)⟩
theorem Keeps.mono {w w1 : World} {S S1 : Nat → Prop} (h : Keeps w w1 S) (hS : ∀ i, i < w.heap.size → S i → S1 i) : Keeps w w1 S1 :=
  ⟨h.os, h.tape, h.output, h.size, fun i hi hn => h.block i hi (fun x => hn (hS i hi x))⟩
theorem Keeps.drew {w w1 : World} {S : Nat → Prop} (h : Keeps w w1 S) : Keeps w w1.drew S := ⟨h.os, h.tape, h.output, h.size, h.block⟩
theorem Keeps.alloc {w w1 : World} {S : Nat → Prop} (h : Keeps w w1 S) (o : Obj) : Keeps w (w1.alloc o) S :=
  h.trans (S1 := fun _ => False) ⟨rfl, rfl, rfl, by simp, fun k hk _ => Below.heap_alloc _ _ _ hk⟩ (fun _ _ x => x.elim)
theorem heap_setRow_other (w : World) (g : Nat) (cs : Array Value) (k : Nat) (h : k ≠ g) : (w.setRow g cs).heap[k]? = w.heap[k]? := by
  simp only [World.setRow, Array.getElem?_modify]
  rw [if_neg (by omega)]
theorem setRow_size (w : World) (g : Nat) (cs : Array Value) : (w.setRow g cs).heap.size = w.heap.size := by simp [World.setRow]
theorem Keeps.setRow {w w1 : World} {S : Nat → Prop} (h : Keeps w w1 S) (g : Nat) (hg : g < w.heap.size → S g) (cs : Array Value) : Keeps w (w1.setRow g cs) S :=
  h.trans (S1 := fun k => k = g) ⟨rfl, rfl, rfl, by simp [World.setRow], fun k _ hn => heap_setRow_other _ _ _ _ hn⟩ (fun i hi e => by subst e; exact hg hi)
theorem Keeps.setCell {w w1 : World} {S : Nat → Prop} (h : Keeps w w1 S) (p : Addr) (hg : p.block < w.heap.size → S p.block) (u : Value) : Keeps w (w1.setCell p u) S :=
  h.trans (S1 := fun k => k = p.block) ⟨rfl, rfl, rfl, by simp [World.setCell], fun k _ hn => Below.heap_setCell _ _ _ _ hn⟩ (fun i hi e => by subst e; exact hg hi)
theorem Keeps.below {w w1 : World} {S : Nat → Prop} {B : Nat} (h : Keeps w w1 S) (hB : B ≤ w.heap.size) (hS : ∀ i, i < B → ¬ S i) : Below B w w1 :=
  ⟨h.os, h.tape, h.output, h.size, fun k hk => h.block k (by omega) (hS k hk)⟩

theorem heap_lt {w : World} {k : Nat} {o : Obj} (h : w.heap[k]? = some o) : k < w.heap.size := (Array.getElem?_eq_some_iff.1 h).1
theorem heap_alloc_new (w : World) (o : Obj) : (w.alloc o).heap[w.heap.size]? = some o := by
  show (w.heap.push o)[w.heap.size]? = _
  simp
theorem heap_setRow_same {w : World} {g : Nat} {old cs : Array Value} {t : TypeId} {fr : Nat × Nat} (hg : w.heap[g]? = some (.cells old t fr)) : (w.setRow g cs).heap[g]? = some (.cells cs t fr) :=
  setRow_heap w g old cs t fr hg
theorem heap_setCell_zero {w : World} {b : Nat} {u v : Value} {t : TypeId} (hb : w.heap[b]? = some (.cells #[u] t)) : (w.setCell ⟨b, 0, none⟩ v).heap[b]? = some (.cells #[v] t) := by
  have hlt := heap_lt hb
  have hv := (Array.getElem?_eq_some_iff.1 hb).2
  simp only [World.setCell, Array.getElem?_modify]
  simp [hlt, hv]

/-- A memory: block b holds the one slice, block g the bytes and the room behind them. T, E: the struct's type, the byte's. -/
structure MemAt (T E : TypeId) (w : World) (b g : Nat) (bs sp : List UInt8) : Prop where
  hb : w.heap[b]? = some (.cells #[.slice (some ⟨g, 0, none⟩) bs.length (bs.length + sp.length)] T)
  hg : w.heap[g]? = some (.cells (rowOf (bs ++ sp)) E)
  hmax : bs.length + sp.length ≤ 134217728
  hne : b ≠ g

theorem MemAt.keeps {T E : TypeId} {w w1 : World} {b g : Nat} {bs sp : List UInt8} {S : Nat → Prop} (m : MemAt T E w b g bs sp) (k : Keeps w w1 S) (h1 : ¬ S b) (h2 : ¬ S g) : MemAt T E w1 b g bs sp :=
  ⟨(k.block b (heap_lt m.hb) h1).trans m.hb, (k.block g (heap_lt m.hg) h2).trans m.hg, m.hmax, m.hne⟩
theorem MemAt.drew {T E : TypeId} {w : World} {b g : Nat} {bs sp : List UInt8} (m : MemAt T E w b g bs sp) : MemAt T E w.drew b g bs sp := ⟨m.hb, m.hg, m.hmax, m.hne⟩
theorem MemAt.cell {T E : TypeId} {w : World} {b g : Nat} {bs sp : List UInt8} (m : MemAt T E w b g bs sp) : w.cell? ⟨b, 0, none⟩ = some (.slice (some ⟨g, 0, none⟩) bs.length (bs.length + sp.length)) := by
  simp [World.cell?, m.hb]
theorem MemAt.frozen {T E : TypeId} {w : World} {b g : Nat} {bs sp : List UInt8} (m : MemAt T E w b g bs sp) : w.frozen? ⟨b, 0, none⟩ = false := by
  simp [World.frozen?, m.hb]
theorem MemAt.gcell {T E : TypeId} {w : World} {b g : Nat} {bs sp : List UInt8} (m : MemAt T E w b g bs sp) (j : Nat) (h : j < bs.length) : w.cell? ⟨g, j, none⟩ = some (.int .u8 (bs[j].toNat : Int)) := by
  have := rowOf_get (bs ++ sp) j (by simp; omega)
  simp only [World.cell?, m.hg]
  simpa [List.getElem_append_left h] using this
theorem MemAt.gfrozen {T E : TypeId} {w : World} {b g : Nat} {bs sp : List UInt8} (m : MemAt T E w b g bs sp) (j : Nat) : w.frozen? ⟨g, j, none⟩ = false := by
  simp [World.frozen?, m.hg]

/-- Does the span lie inside? -/
def insideB (s : Nat) (off n : Int) : Bool := decide (0 ≤ off ∧ 0 ≤ n ∧ n ≤ s ∧ off ≤ s - n)
theorem insideB_true {s : Nat} {off n : Int} (h : insideB s off n = true) : 0 ≤ off ∧ 0 ≤ n ∧ n ≤ s ∧ off ≤ s - n := of_decide_eq_true h
theorem insideB_false {s : Nat} {off n : Int} (h : insideB s off n = false) : ¬ (0 ≤ off ∧ 0 ≤ n ∧ n ≤ s ∧ off ≤ s - n) := of_decide_eq_false h
theorem insideB_nat {s : Nat} {off n : Int} (h : insideB s off n = true) : ∃ o k : Nat, off = o ∧ n = k ∧ o + k ≤ s := by
  have := insideB_true h
  exact ⟨off.toNat, n.toNat, by omega, by omega, by omega⟩
theorem insideB_mk {s o k : Nat} (h : o + k ≤ s) : insideB s (o : Int) (k : Int) = true := by
  unfold insideB
  exact decide_eq_true (by omega)

/-- What New leaves. -/
def NewPost (T E : TypeId) (w : World) (n : Nat) (e : Ending) (w' : World) : Prop :=
  ∃ b g, w.heap.size ≤ b ∧ w.heap.size ≤ g ∧ e = .returned (.tuple #[.pointer (some ⟨b, 0, none⟩), .int .i64 0]) ∧ MemAt T E w' b g (zeros n) [] ∧ Keeps w w' (fun _ => False)
theorem newPost_mk (T E : TypeId) (w : World) (n : Nat) (h : n ≤ 134217728) : NewPost T E w n (.returned (.tuple #[.pointer (some ⟨w.heap.size + 1, 0, none⟩), .int .i64 0]))
    ((w.alloc (.cells (rowOf (zeros n)) E)).alloc (.cells #[.slice (some ⟨w.heap.size, 0, none⟩) n n] T)) := by
  refine ⟨w.heap.size + 1, w.heap.size, by omega, by omega, rfl, ⟨?_, ?_, ?_, by omega⟩, ((Keeps.refl _ _).alloc _).alloc _⟩
  · have := heap_alloc_new (w.alloc (.cells (rowOf (zeros n)) E)) (.cells #[.slice (some ⟨w.heap.size, 0, none⟩) n n] T)
    simpa [zeros_length] using this
  · rw [Below.heap_alloc _ _ _ (by simp), heap_alloc_new, List.append_nil]
  · simpa [zeros_length] using h

section
variable {P : Program}

/-- make of n bytes. -/
theorem run_make_bytes (w : World) (t e : TypeId) (hu : P.underlying t = some (.slice e)) (hi : (P.info? e).map (fun i => (i.zero, i.size, i.bytes)) = some (some (.int .u8 0), 1, 1)) (n : Nat) (hn : n ≤ 134217728) :
    (Instr.makeSlice t (.int .i64 (n : Int)) (.int .i64 (n : Int))).run P w = .ok (.slice (some ⟨w.heap.size, 0, none⟩) n n) (w.alloc (.cells (rowOf (zeros n)) e)) := by
  obtain ⟨i, h1, h2, h3, h4⟩ := info_parts hi
  have h := run_make (P := P) w t e i (.int .u8 0) hu h1 h2 .i64 .i64 (n : Int) (n : Int) (by omega) (by omega) (by rw [h4]; omega) (by omega)
  rw [h, h3]
  simp only [Int.toNat_natCast, made_row]

/-- make of l bytes with room for n. -/
theorem run_make_room (w : World) (t e : TypeId) (hu : P.underlying t = some (.slice e)) (hi : (P.info? e).map (fun i => (i.zero, i.size, i.bytes)) = some (some (.int .u8 0), 1, 1)) (l n : Nat) (hl : l ≤ n) (hn : n ≤ 134217728) :
    (Instr.makeSlice t (.int .i64 (l : Int)) (.int .i64 (n : Int))).run P w = .ok (.slice (some ⟨w.heap.size, 0, none⟩) l n) (w.alloc (.cells (rowOf (zeros n)) e)) := by
  obtain ⟨i, h1, h2, h3, h4⟩ := info_parts hi
  have h := run_make (P := P) w t e i (.int .u8 0) hu h1 h2 .i64 .i64 (l : Int) (n : Int) (by omega) (by omega) (by rw [h4]; omega) (by omega)
  rw [h, h3]
  simp only [Int.toNat_natCast, made_row]

/-- copy of k bytes cs into the row of bytes at g, from q on. -/
theorem run_copy_bytes (w : World) (t sT ty e : TypeId) (hu : P.underlying t = some (.slice e)) (hi : (P.info? e).map (fun i => (i.zero, i.size, i.bytes)) = some (some (.int .u8 0), 1, 1))
    (g q dLen dCap : Nat) (a : Addr) (sLen sCap : Nat) (cur cs : List UInt8) (hg : w.heap[g]? = some (.cells (rowOf cur) e)) (hn : cs.length = Nat.min sLen dLen)
    (hsrc : ∀ j (h : j < cs.length), w.cell? (a.add j) = some (.int .u8 (cs[j].toNat : Int))) (hfit : q + cs.length ≤ cur.length) :
    (Builtin.copy_ #[t, sT] ty #[.slice (some ⟨g, q, none⟩) dLen dCap, .slice (some a) sLen sCap]).run P w =
      .ok (goInt cs.length) (w.setRow g (rowOf (cur.take q ++ cs ++ cur.drop (q + cs.length)))) := by
  obtain ⟨i, h1, h2, h3, h4⟩ := info_parts hi
  have h := run_copy_row (P := P) w t sT ty e g q dLen dCap a sLen sCap (rowOf cur) e (cellsOf cs) hu (by simp [h1, h3]) hg (by rw [cellsOf_length, hn])
    (fun j v hj => by
      have hj' : j < cs.length := by have := (List.getElem?_eq_some_iff.1 hj).1; rwa [cellsOf_length] at this
      rw [hsrc j hj']
      simp [cellsOf, cellOf, hj'] at hj
      rw [← hj]) (by rw [cellsOf_length, rowOf_size]; exact hfit) cellsOf_one
  rw [h, cellsOf_length]
  have e : (List.take q (rowOf cur).toList ++ cellsOf cs ++ List.drop (q + cs.length) (rowOf cur).toList).toArray = rowOf (cur.take q ++ cs ++ cur.drop (q + cs.length)) := by
    rw [rowOf_toList, ← cellsOf_take, ← cellsOf_drop, ← cellsOf_append, ← cellsOf_append, rowOf]
  rw [e]

/-- The value of row[o : o+n]. -/
def spanVal (g cap o n : Nat) : Value := .slice (some ⟨g, if cap = o then 0 else o, none⟩) n (cap - o)
theorem spanVal_eq (g cap o n : Nat) : ∃ q, (q = o ∨ (q = 0 ∧ cap = o)) ∧ spanVal g cap o n = .slice (some ⟨g, q, none⟩) n (cap - o) := by
  unfold spanVal
  by_cases h : cap = o
  · exact ⟨0, Or.inr ⟨rfl, h⟩, by simp [h]⟩
  · exact ⟨o, Or.inl rfl, by simp [h]⟩
theorem run_sizeOf_byte (w : World) (e : TypeId) (hi : (P.info? e).map (fun i => (i.zero, i.size, i.bytes)) = some (some (.int .u8 0), 1, 1)) : (Go.sizeOf e).run P w = .ok 1 w := by
  obtain ⟨i, h1, h2, h3, h4⟩ := info_parts hi
  simp [Go.sizeOf, typeInfo, h1, h3]
theorem run_slice_span (w : World) (t e : TypeId) (ht : P.underlying t = some (.slice e)) (hi : (P.info? e).map (fun i => (i.zero, i.size, i.bytes)) = some (some (.int .u8 0), 1, 1)) (g len cap o n : Nat) (hh : o + n ≤ cap) :
    (Instr.slice t (.slice (some ⟨g, 0, none⟩) len cap) (some (.int .i64 (o : Int))) (some (.int .i64 ((o : Int) + (n : Int)))) none).run P w = .ok (spanVal g cap o n) w := by
  have ht' : P.underlying t = some (.slice (P.elem t)) := by simp [Program.elem, ht]
  have he : P.elem t = e := by simp [Program.elem, ht]
  rw [run_slice_lh w t _ _ _ ht' .i64 .i64 _ _ (by omega) (by omega) (by omega), he, run_sizeOf_byte w e hi]
  have e1 : ((o : Int) + (n : Int)).toNat = o + n := by omega
  by_cases h : cap = o
  · have : n = 0 := by omega
    subst this
    simp [Result.andThen, sliced, spanVal, h]
  · by_cases h0 : o = 0
    · subst h0
      simp [Result.andThen, sliced, Addr.add, spanVal, h]
    · simp [Result.andThen, sliced, Addr.add, spanVal, h, h0, e1]

end

/-- What Read leaves where the span lies inside. -/
def ReadPost (E : TypeId) (w : World) (bs : List UInt8) (o n : Nat) (e : Ending) (w' : World) : Prop :=
  ∃ h, w.heap.size ≤ h ∧ e = .returned (.tuple #[.slice (some ⟨h, 0, none⟩) n n, .int .i64 0]) ∧ w'.heap[h]? = some (.cells (rowOf ((bs.drop o).take n)) E) ∧ Keeps w w' (fun _ => False)
theorem readPost_mk (E : TypeId) (w : World) (bs : List UInt8) (o n : Nat) (hn : o + n ≤ bs.length) : ReadPost E w bs o n (.returned (.tuple #[.slice (some ⟨w.heap.size, 0, none⟩) n n, .int .i64 0]))
    ((w.alloc (.cells (rowOf (zeros n)) E)).setRow w.heap.size (rowOf ((zeros n).take 0 ++ (bs.drop o).take n ++ (zeros n).drop (0 + ((bs.drop o).take n).length)))) := by
  refine ⟨w.heap.size, Nat.le_refl _, rfl, ?_, ((Keeps.refl _ _).alloc _).setRow _ (fun h => absurd h (Nat.lt_irrefl _)) _⟩
  rw [heap_setRow_same (heap_alloc_new w (.cells (rowOf (zeros n)) E))]
  have e : (zeros n).drop (0 + ((bs.drop o).take n).length) = [] := by
    apply List.drop_eq_nil_of_le
    simp [zeros_length]
    omega
  rw [e]
  simp
/-- The bytes of a span, as cells. -/
theorem MemAt.span {T E : TypeId} {w : World} {b g : Nat} {bs sp : List UInt8} (m : MemAt T E w b g bs sp) {o n q : Nat} (hn : o + n ≤ bs.length) (hq : q = o ∨ (q = 0 ∧ bs.length + sp.length = o)) :
    ∀ j (h : j < ((bs.drop o).take n).length), w.cell? ((⟨g, q, none⟩ : Addr).add j) = some (.int .u8 (((bs.drop o).take n)[j].toNat : Int)) := by
  intro j h
  have hj : j < n := by simp at h; omega
  have hq' : q = o := by
    rcases hq with hq | ⟨_, hq⟩
    · exact hq
    · omega
  subst hq'
  rw [addr_add, m.gcell (q + j) (by omega)]
  simp

theorem read_copy {P : Program} (t sT : TypeId) {T : TypeId} (E : TypeId) (hu : P.underlying t = some (.slice E)) (hi : (P.info? E).map (fun i => (i.zero, i.size, i.bytes)) = some (some (.int .u8 0), 1, 1))
    {w : World} {b g : Nat} {bs sp : List UInt8} (m : MemAt T E w b g bs sp) {o n q : Nat} (hn : o + n ≤ bs.length) (hq : q = o ∨ (q = 0 ∧ bs.length + sp.length = o)) :
    ∃ w2, (∀ ty, (Builtin.copy_ #[t, sT] ty #[.slice (some ⟨w.heap.size, 0, none⟩) n n, .slice (some ⟨g, q, none⟩) n (bs.length + sp.length - o)]).run P (w.alloc (.cells (rowOf (zeros n)) E)) = .ok (goInt n) w2) ∧
      ReadPost E w bs o n (.returned (.tuple #[.slice (some ⟨w.heap.size, 0, none⟩) n n, .int .i64 0])) w2 := by
  have m1 : MemAt T E (w.alloc (.cells (rowOf (zeros n)) E)) b g bs sp := m.keeps ((Keeps.refl _ (fun _ => False)).alloc _) id id
  have hlen : ((bs.drop o).take n).length = n := by simp; omega
  refine ⟨_, fun ty => ?_, readPost_mk E w bs o n hn⟩
  have h := run_copy_bytes (P := P) (w.alloc (.cells (rowOf (zeros n)) E)) t sT ty E hu hi w.heap.size 0 n n ⟨g, q, none⟩ n (bs.length + sp.length - o) (zeros n) ((bs.drop o).take n)
    (heap_alloc_new _ _) (by rw [hlen]; exact (Nat.min_self n).symm) (m1.span hn hq) (by rw [hlen, zeros_length]; omega)
  rw [h, hlen]
end Go.Proofs.YtgckinldnnckoaaGreatDoor
/-
  Plain laws on parts that are laid one behind the other.
-/
namespace Go.Proofs.YtgckinldnnckoaaGreatDoor
open Go.RowKit

def splice (bs : List UInt8) (o : Nat) (x : List UInt8) : List UInt8 := bs.take o ++ x ++ bs.drop (o + x.length)
theorem splice_length {bs : List UInt8} {o : Nat} {x : List UInt8} (h : o + x.length ≤ bs.length) : (splice bs o x).length = bs.length := by
  simp [splice]; omega
theorem splice_nil (bs : List UInt8) (o : Nat) : splice bs o [] = bs := by simp [splice]
theorem splice_splice {bs : List UInt8} {o : Nat} {a x : List UInt8} (h : o + a.length + x.length ≤ bs.length) : splice (splice bs o a) (o + a.length) x = splice bs o (a ++ x) := by
  unfold splice
  have h1 : (bs.take o ++ a).length = o + a.length := by simp; omega
  rw [List.take_append_of_le_length (by omega), List.take_of_length_le (by omega), List.drop_append]
  rw [List.drop_of_length_le (l := List.take o bs ++ a) (by omega), h1, List.nil_append, List.drop_drop]
  simp only [List.append_assoc, List.length_append]
  congr 4
  omega
theorem splice_get {bs : List UInt8} {o : Nat} {x : List UInt8} (h : o + x.length ≤ bs.length) (p : Nat) :
    (splice bs o x)[p]? = if o ≤ p ∧ p < o + x.length then x[p - o]? else bs[p]? := by
  unfold splice
  by_cases h1 : p < o
  · rw [if_neg (by omega), List.append_assoc, List.getElem?_append_left (by simp; omega), List.getElem?_take_of_lt h1]
  · by_cases h2 : p < o + x.length
    · rw [if_pos ⟨by omega, h2⟩, List.append_assoc, List.getElem?_append_right (by simp; omega), List.getElem?_append_left (by simp; omega)]
      congr 1
      simp
      omega
    · rw [if_neg (by omega), List.getElem?_append_right (by simp; omega), List.getElem?_drop]
      congr 1
      simp
      omega

/-- The value v is a slice that holds the bytes x, outside of block g. -/
def PartAt (w : World) (g : Nat) (v : Value) (x : List UInt8) : Prop :=
  ∃ h o c, v = .slice (some ⟨h, o, none⟩) x.length c ∧ h < w.heap.size ∧ h ≠ g ∧ x.length ≤ 140737488355328 ∧ ∀ j (hj : j < x.length), w.cell? ⟨h, o + j, none⟩ = some (.int .u8 (x[j].toNat : Int))
theorem PartAt.keeps {w w1 : World} {g : Nat} {v : Value} {x : List UInt8} (p : PartAt w g v x) (k : Keeps w w1 (fun i => i = g)) : PartAt w1 g v x := by
  obtain ⟨h, o, c, hv, hl, hg, hx, hc⟩ := p
  exact ⟨h, o, c, hv, Nat.lt_of_lt_of_le hl k.size, hg, hx, fun j hj => (World.cell?_of_block (w := w) (k.block h hl hg)).trans (hc j hj)⟩
/-- Block pb holds the parts xs, outside of block g. -/
structure PartsAt (w : World) (g pb : Nat) (xs : List (List UInt8)) : Prop where
  hpb : pb < w.heap.size
  hne : pb ≠ g
  part : ∀ j (hj : j < xs.length), ∃ v, w.cell? ⟨pb, j, none⟩ = some v ∧ PartAt w g v xs[j]
theorem PartsAt.keeps {w w1 : World} {g pb : Nat} {xs : List (List UInt8)} (p : PartsAt w g pb xs) (k : Keeps w w1 (fun i => i = g)) : PartsAt w1 g pb xs := by
  refine ⟨Nat.lt_of_lt_of_le p.hpb k.size, p.hne, fun j hj => ?_⟩
  obtain ⟨v, hv, hp⟩ := p.part j hj
  exact ⟨v, (World.cell?_of_block (w := w) (k.block pb p.hpb p.hne)).trans hv, hp.keeps k⟩

def catTo (xs : List (List UInt8)) (k : Nat) : List UInt8 := (xs.take k).flatten
theorem catTo_zero (xs : List (List UInt8)) : catTo xs 0 = [] := by simp [catTo]
theorem catTo_succ (xs : List (List UInt8)) (k : Nat) (h : k < xs.length) : catTo xs (k + 1) = catTo xs k ++ xs[k] := by
  unfold catTo
  rw [List.take_succ_eq_append_getElem h, List.flatten_append]
  simp
theorem catTo_all (xs : List (List UInt8)) : catTo xs xs.length = xs.flatten := by simp [catTo]
theorem catTo_le (xs : List (List UInt8)) (k : Nat) : (catTo xs k).length ≤ xs.flatten.length := by
  have h : xs.flatten.length = (xs.take k).flatten.length + (xs.drop k).flatten.length := by rw [← List.length_append, ← List.flatten_append, List.take_append_drop]
  unfold catTo
  omega

/-- All parts, one behind the other; do so many bytes from o on fit into s? (Plain names: the walk does not look into them.) -/
def catAll (xs : List (List UInt8)) : List UInt8 := xs.flatten
def fitsB (s o t : Nat) : Bool := decide (o + t ≤ s)
theorem catTo_all' (xs : List (List UInt8)) : catTo xs xs.length = catAll xs := catTo_all xs
theorem catTo_le' (xs : List (List UInt8)) (k : Nat) : (catTo xs k).length ≤ (catAll xs).length := catTo_le xs k
theorem fitsB_true {s o t : Nat} (h : o + t ≤ s) : fitsB s o t = true := decide_eq_true h
theorem fitsB_false {s o t : Nat} (h : s < o + t) : fitsB s o t = false := decide_eq_false (by omega)

section
variable {P : Program}

def tailVal (g len cap l : Nat) : Value := .slice (some ⟨g, if cap = l then 0 else l, none⟩) (len - l) (cap - l)
theorem tailVal_eq (g len cap l : Nat) : ∃ q, (q = l ∨ (q = 0 ∧ cap = l)) ∧ tailVal g len cap l = .slice (some ⟨g, q, none⟩) (len - l) (cap - l) := by
  unfold tailVal
  by_cases h : cap = l
  · exact ⟨0, Or.inr ⟨rfl, h⟩, by simp [h]⟩
  · exact ⟨l, Or.inl rfl, by simp [h]⟩
theorem run_slice_tail (w : World) (t e : TypeId) (ht : P.underlying t = some (.slice e)) (hi : (P.info? e).map (fun i => (i.zero, i.size, i.bytes)) = some (some (.int .u8 0), 1, 1)) (g len cap l : Nat) (hl : l ≤ len) :
    (Instr.slice t (.slice (some ⟨g, 0, none⟩) len cap) (some (.int .i64 (l : Int))) none none).run P w = .ok (tailVal g len cap l) w := by
  have ht' : P.underlying t = some (.slice (P.elem t)) := by simp [Program.elem, ht]
  have he : P.elem t = e := by simp [Program.elem, ht]
  rw [run_slice_l w t _ _ _ ht' .i64 _ (by omega) (by omega), he, run_sizeOf_byte w e hi]
  by_cases h : cap = l
  · simp [Result.andThen, sliced, tailVal, h]
  · by_cases h0 : l = 0
    · subst h0
      simp [Result.andThen, sliced, Addr.add, tailVal, h]
    · simp [Result.andThen, sliced, Addr.add, tailVal, h, h0]

/-- A copy into the memory's bytes from l on. -/
theorem mem_copy (t sT : TypeId) {T : TypeId} (E : TypeId) (hu : P.underlying t = some (.slice E)) (hi : (P.info? E).map (fun i => (i.zero, i.size, i.bytes)) = some (some (.int .u8 0), 1, 1))
    {w : World} {b g : Nat} {bs sp : List UInt8} (m : MemAt T E w b g bs sp) {l q dLen dCap sLen sCap : Nat} {a : Addr} (x : List UInt8) (hl : l + x.length ≤ bs.length) (hq : q = l ∨ (q = 0 ∧ bs.length + sp.length = l)) (hn : x.length = Nat.min sLen dLen)
    (hsrc : ∀ j (h : j < x.length), w.cell? (a.add j) = some (.int .u8 (x[j].toNat : Int))) :
    ∃ w2, (∀ ty, (Builtin.copy_ #[t, sT] ty #[.slice (some ⟨g, q, none⟩) dLen dCap, .slice (some a) sLen sCap]).run P w = .ok (goInt x.length) w2) ∧ MemAt T E w2 b g (splice bs l x) sp ∧ Keeps w w2 (fun i => i = g) := by
  have hfit : q + x.length ≤ (bs ++ sp).length := by
    rw [List.length_append]
    rcases hq with hq | ⟨hq, hz⟩ <;> omega
  have hr := fun ty => run_copy_bytes (P := P) w t sT ty E hu hi g q dLen dCap a sLen sCap (bs ++ sp) x m.hg hn hsrc hfit
  have hrow : (bs ++ sp).take q ++ x ++ (bs ++ sp).drop (q + x.length) = splice bs l x ++ sp := by
    rcases hq with hq | ⟨hq, hz⟩
    · subst hq
      unfold splice
      rw [List.take_append_of_le_length (by omega), List.drop_append_of_le_length hl]
      simp
    · have h0 : x = [] := List.eq_nil_of_length_eq_zero (by omega)
      subst h0
      simp [splice_nil]
  refine ⟨_, hr, ⟨?_, ?_, ?_, m.hne⟩, (Keeps.refl w (fun i => i = g)).setRow g (fun _ => rfl) _⟩
  · rw [heap_setRow_other _ _ _ _ m.hne, m.hb, splice_length hl]
  · rw [heap_setRow_same m.hg, hrow]
  · rw [splice_length hl]; exact m.hmax

/-- A text as a new list of bytes. -/
theorem bytes_of (w : World) (src dst e : TypeId) (s : ByteArray) (hs : P.underlying src = some .string) (hd : P.underlying dst = some (.slice e)) (he : P.underlying e = some (.int .u8)) :
    ∃ w2 c fz, (convert src dst (.string s)).run P w = .ok (.slice (some ⟨w.heap.size, 0, none⟩) s.size c) w2 ∧ Keeps w w2 (fun _ => False) ∧ w2.heap.size = w.heap.size + 1 ∧
      w2.heap[w.heap.size]? = some (.cells (rowOf (s.data.toList ++ zeros (c - s.size))) e fz) := by
  have h := run_bytes_of_string (P := P) w src dst e s hs hd he
  have hrow : ∀ c, bytesRow s c = rowOf (s.data.toList ++ zeros (c - s.size)) := fun c => by
    apply Array.ext'
    simp [bytesRow, rowOf, cellsOf, zeros, cellOf]
  refine ⟨_, _, ((bytesRow s (grownCap w s.size 0 e)).size, (bytesRow s (grownCap w s.size 0 e)).size + 1), h, ((Keeps.refl _ _).drew).alloc _, by simp, ?_⟩
  rw [← hrow]
  exact heap_alloc_new w.drew _
theorem part_of_row {w : World} {g h : Nat} {x y : List UInt8} {e : TypeId} {fz : Nat × Nat} {c : Nat} (hr : w.heap[h]? = some (.cells (rowOf (x ++ y)) e fz)) (hg : h ≠ g) (hx : x.length ≤ 140737488355328) :
    PartAt w g (.slice (some ⟨h, 0, none⟩) x.length c) x := by
  refine ⟨h, 0, c, rfl, heap_lt hr, hg, hx, fun j hj => ?_⟩
  have := rowOf_get (x ++ y) j (by simp; omega)
  simp only [World.cell?, hr]
  simpa [List.getElem_append_left hj] using this
theorem byte_get (s : ByteArray) (q : Nat) (h : q < s.size) (h' : q < s.data.toList.length) : s.data.toList[q] = s[q]'h := by
  simp only [Array.getElem_toList]
  rfl
theorem wrap_byte (x : UInt8) : IntKind.i64.wrap (x.toNat : Int) = (x.toNat : Int) := by
  have := x.toNat_lt
  rw [IntKind.wrap_i64]
  omega
theorem catAll_one (x : List UInt8) : catAll [x] = x := by simp [catAll]
theorem splice_zeros (x : List UInt8) (n : Nat) : splice (zeros n) 0 x = x ++ zeros (n - x.length) := by
  simp [splice, zeros]
end
end Go.Proofs.YtgckinldnnckoaaGreatDoor
/-
  Plain laws on stores into a memory's bytes.
-/
namespace Go.Proofs.YtgckinldnnckoaaGreatDoor
open Go.RowKit

theorem splice_set {bs : List UInt8} {o k : Nat} {u : UInt8} {x : List UInt8} (hx : x.length = k) (h : o + k < bs.length) : (splice bs o x).set (o + k) u = splice bs o (x ++ [u]) := by
  subst hx
  apply List.ext_getElem?
  intro p
  have hl : (x ++ [u]).length = x.length + 1 := by simp
  have hA := splice_get (bs := bs) (o := o) (x := x ++ [u]) (by omega) p
  have hB := splice_get (bs := bs) (o := o) (x := x) (by omega) p
  rw [hl] at hA
  rw [List.getElem?_set, splice_length (by omega), hA]
  by_cases hp : o + x.length = p
  · subst hp
    rw [if_pos rfl, if_pos h, if_pos (by omega), show o + x.length - o = x.length from by omega, List.getElem?_append_right (Nat.le_refl _)]
    simp
  · rw [if_neg hp, hB]
    by_cases h1 : o ≤ p ∧ p < o + x.length
    · rw [if_pos h1, if_pos (by omega), List.getElem?_append_left (by omega)]
    · rw [if_neg h1, if_neg (by omega)]

theorem MemAt.gcell_any {T E : TypeId} {w : World} {b g : Nat} {bs sp : List UInt8} (m : MemAt T E w b g bs sp) (j : Nat) (h : j < bs.length) : ∃ v, w.cell? ⟨g, j, none⟩ = some v := ⟨_, m.gcell j h⟩

/-- One byte is stored. -/
theorem MemAt.store {T E : TypeId} {w : World} {b g : Nat} {bs sp : List UInt8} (m : MemAt T E w b g bs sp) (j : Nat) (h : j < bs.length) (u : UInt8) :
    MemAt T E (w.setCell ⟨g, j, none⟩ (.int .u8 (u.toNat : Int))) b g (bs.set j u) sp ∧ Keeps w (w.setCell ⟨g, j, none⟩ (.int .u8 (u.toNat : Int))) (fun i => i = g) := by
  refine ⟨⟨?_, ?_, by simpa using m.hmax, m.hne⟩, (Keeps.refl w (fun i => i = g)).setCell _ (fun _ => rfl) _⟩
  · rw [Below.heap_setCell _ _ _ _ m.hne, m.hb]
    simp
  · rw [setCell_eq_setRow w g j _ E (0, 0) _ m.hg, heap_setRow_same m.hg]
    congr 2
    apply Array.ext'
    rw [Array.toList_setIfInBounds, rowOf_toList, rowOf_toList]
    simp only [cellsOf, List.map_append, List.map_set]
    rw [List.set_append_left _ _ (by simpa using h)]
    rfl

section
variable {P : Program}
/-- clear of a span. -/
theorem mem_clear (t : TypeId) {T : TypeId} (E : TypeId) (hu : P.underlying t = some (.slice E)) (hi : (P.info? E).map (fun i => (i.zero, i.size, i.bytes)) = some (some (.int .u8 0), 1, 1))
    {w : World} {b g : Nat} {bs sp : List UInt8} (m : MemAt T E w b g bs sp) {l q n c : Nat} (hl : l + n ≤ bs.length) (hq : q = l ∨ (q = 0 ∧ bs.length + sp.length = l)) :
    ∃ w2, (∀ ty, (Builtin.clear_ #[t] ty #[.slice (some ⟨g, q, none⟩) n c]).run P w = .ok (.tuple #[]) w2) ∧ MemAt T E w2 b g (splice bs l (zeros n)) sp ∧ Keeps w w2 (fun i => i = g) := by
  by_cases hn : n = 0
  · subst hn
    refine ⟨w, fun ty => ?_, ?_, Keeps.refl _ _⟩
    · simp [Builtin.clear_, run_underlying hu]
    · rw [show zeros 0 = [] from rfl, splice_nil]
      exact m
  · have hq' : q = l := by
      rcases hq with hq | ⟨_, hz⟩
      · exact hq
      · omega
    subst hq'
    obtain ⟨i, h1, h2, h3, h4⟩ := info_parts hi
    have hv : ∀ w, (zeroValue E).run P w = .ok (.int .u8 0) w := fun w => by simp [zeroValue, typeInfo, h1, h2]
    have hzc : (Builtin.zeroCells (Value.int .u8 0).cells n).toList = cellsOf (zeros n) := by
      simp [Builtin.zeroCells, Value.cells, cellsOf, zeros, cellOf]
      apply List.ext_getElem
      · simp
      · intro i h1 h2
        simp [Nat.mod_one]
    have hst := run_storeCells_at P g q E (cellsOf (zeros n)) 0 (rowOf (bs ++ sp)) w m.hg (by simp only [cellsOf_length, zeros_length, rowOf_size, List.length_append]; omega) cellsOf_one
    obtain ⟨n', rfl⟩ : ∃ n', n = n' + 1 := ⟨n - 1, by omega⟩
    have hrow : ((rowOf (bs ++ sp)).toList.take (q + 0) ++ cellsOf (zeros (n' + 1)) ++ (rowOf (bs ++ sp)).toList.drop (q + 0 + (cellsOf (zeros (n' + 1))).length)).toArray = rowOf (splice bs q (zeros (n' + 1)) ++ sp) := by
      rw [rowOf_toList, Nat.add_zero, cellsOf_length, ← cellsOf_take, ← cellsOf_drop, ← cellsOf_append, ← cellsOf_append, rowOf]
      congr 2
      unfold splice
      rw [zeros_length, List.take_append_of_le_length (by omega), List.drop_append_of_le_length hl]
      simp
    rw [hrow] at hst
    have hz : (zeros (n' + 1)).length = n' + 1 := zeros_length _
    refine ⟨w.setRow g (rowOf (splice bs q (zeros (n' + 1)) ++ sp)), fun ty => ?_, ⟨?_, ?_, ?_, m.hne⟩, (Keeps.refl w (fun i => i = g)).setRow g (fun _ => rfl) _⟩
    · simp only [Builtin.clear_]
      simp [run_underlying hu, hv, hzc, hst]
    · rw [heap_setRow_other _ _ _ _ m.hne, m.hb, splice_length (by rw [hz]; exact hl)]
    · rw [heap_setRow_same m.hg]
    · rw [splice_length (by rw [hz]; exact hl)]; exact m.hmax
end
end Go.Proofs.YtgckinldnnckoaaGreatDoor
/-
  Plain laws on lists that are appended to one by one: where each lies, and what stays.
-/
namespace Go.Proofs.YtgckinldnnckoaaGreatDoor
open Go.RowKit

theorem Keeps.ofGrown {w w' : World} {row : Option Nat} (h : w.grownBy w' row) : Keeps w w' (fun k => row = some k) :=
  ⟨h.os, h.tape, h.output, h.size, fun k hk hn => h.block k hk (fun e => hn e.symm)⟩
/-- An owned row stays owned where its block stays. -/
theorem ownsRow_keeps {w w' : World} {base : Nat} {e : TypeId} {size : Nat} {v : Value} {n : Nat} {xs : List Value} {S : Nat → Prop} (h : w.ownsRow base e size v n xs) (k : Keeps w w' S) (hS : ∀ g, v.ownBlock = some g → ¬ S g) : w'.ownsRow base e size v n xs := by
  obtain ⟨h1, h2⟩ := h
  refine ⟨h1, ?_⟩
  rcases h2 with h2 | ⟨g, cap, cur, hv, hb, hg, r⟩
  · exact Or.inl h2
  · refine Or.inr ⟨g, cap, cur, hv, hb, ?_, r⟩
    rw [k.block g (heap_lt hg) (hS g (by rw [hv]; rfl))]
    exact hg
theorem ownsRow_drew {w : World} {base : Nat} {e : TypeId} {size : Nat} {v : Value} {n : Nat} {xs : List Value} (h : w.ownsRow base e size v n xs) : w.drew.ownsRow base e size v n xs := h
/-- A row's block: its elements' type, that it is there. -/
theorem ownsRow_block {w : World} {base : Nat} {e : TypeId} {size : Nat} {v : Value} {n : Nat} {xs : List Value} (h : w.ownsRow base e size v n xs) {g : Nat} (hv : v.ownBlock = some g) : base ≤ g ∧ ∃ cur, w.heap[g]? = some (.cells cur e (0, 0)) := by
  rcases h.2 with ⟨h2, _⟩ | ⟨g', cap, cur, h2, hb, hg, _⟩
  · rw [h2] at hv; cases hv
  · rw [h2] at hv
    have : g' = g := by simpa [Value.ownBlock] using hv
    subst this
    exact ⟨hb, cur, hg⟩

section
variable {P : Program}
/-- One element is appended: the element's cell lies in block h. -/
theorem append_one (t e : TypeId) (z : Value) (bytes : Nat) (ht : P.underlying t = some (.slice e)) (hi : (P.info? e).map (fun i => (i.zero, i.size, i.bytes)) = some (some z, 1, bytes)) (hz1 : z.cells.size = 1)
    {w : World} {base : Nat} {v : Value} {n : Nat} {xs : List Value} (hown : w.ownsRow base e 1 v n xs) {h : Nat} {u : Value} {ut : TypeId} {fz : Nat × Nat} (hu : w.heap[h]? = some (.cells #[u] ut fz)) (h1 : u.oneCell' = true)
    (hbytes : (n + 1) * bytes ≤ 140737488355328) (hbn : n + 1 ≤ maxLen) (hbase : base ≤ w.heap.size) :
    ∃ g cap w', (∀ ty, (Builtin.append_ #[t, t] ty #[v, .slice (some ⟨h, 0, none⟩) 1 1]).run P w = .ok (.slice (some ⟨g, 0, none⟩) (n + 1) cap) w') ∧
      w'.ownsRow base e 1 (.slice (some ⟨g, 0, none⟩) (n + 1) cap) (n + 1) (xs ++ [u]) ∧ Keeps w w' (fun k => v.ownBlock = some k) ∧ (v.ownBlock = some g ∨ g = w.heap.size) := by
  obtain ⟨i, hi1, hi2, hi3, hi4⟩ := info_parts hi
  obtain ⟨g, cap, w', hr, h2, h3, h4, _⟩ := run_append_lies (P := P) w t 0 base e i z 1 bytes ht hi1 hi2 hi3 hi4 hz1 (by omega) v n xs hown ⟨h, 0, none⟩ 1 1 [u] rfl
    (fun j x hj => by
      match j, hj with
      | 0, hj =>
        simp at hj
        subst hj
        rw [addr_add]
        simp [World.cell?, hu]) (fun x hx => by simp at hx; subst hx; exact h1) (by omega) hbn hbytes hbase w.heap.size rfl
  exact ⟨g, cap, w', fun ty => hr, h2, Keeps.ofGrown h3, h4⟩

/-- A text as a new list of bytes: the room behind it may be written. -/
theorem bytes_of_room (w : World) (src dst e : TypeId) (s : ByteArray) (hs : P.underlying src = some .string) (hd : P.underlying dst = some (.slice e)) (he : P.underlying e = some (.int .u8)) :
    ∃ w2 c fz, (convert src dst (.string s)).run P w = .ok (.slice (some ⟨w.heap.size, 0, none⟩) s.size c) w2 ∧ Keeps w w2 (fun _ => False) ∧ w2.heap.size = w.heap.size + 1 ∧ s.size ≤ c ∧ c ≤ fz.1 ∧
      w2.heap[w.heap.size]? = some (.cells (rowOf (s.data.toList ++ zeros (c - s.size))) e fz) := by
  have h := run_bytes_of_string (P := P) w src dst e s hs hd he
  have hge := grownCap_ge w s.size 0 e
  have hrow : ∀ c, bytesRow s c = rowOf (s.data.toList ++ zeros (c - s.size)) := fun c => by
    apply Array.ext'
    simp [bytesRow, rowOf, cellsOf, zeros, cellOf]
  refine ⟨_, _, ((bytesRow s (grownCap w s.size 0 e)).size, (bytesRow s (grownCap w s.size 0 e)).size + 1), h, ((Keeps.refl _ _).drew).alloc _, by simp, hge, ?_, ?_⟩
  · rw [hrow, rowOf_size]
    simp [zeros_length]
    omega
  · rw [← hrow]
    exact heap_alloc_new w.drew _

/-- One byte behind a list of bytes. -/
theorem append_byte (t E : TypeId) (ht : P.underlying t = some (.slice E)) (hi : (P.info? E).map (fun i => (i.zero, i.size, i.bytes)) = some (some (.int .u8 0), 1, 1))
    {w : World} {h p n c : Nat} {x y : List UInt8} {fz fp : Nat × Nat} {ut : TypeId} {u : UInt8} (hr : w.heap[h]? = some (.cells (rowOf (x ++ y)) E fz)) (hn : n = x.length) (hy : x.length + y.length = c) (hfz : c ≤ fz.1) (hu : w.heap[p]? = some (.cells #[.int .u8 (u.toNat : Int)] ut fp))
    (hx : x.length ≤ 1099511627776) :
    ∃ g c2 w2 y2 f2, (∀ ty, (Builtin.append_ #[t, t] ty #[.slice (some ⟨h, 0, none⟩) n c, .slice (some ⟨p, 0, none⟩) 1 1]).run P w = .ok (.slice (some ⟨g, 0, none⟩) (n + 1) c2) w2) ∧
      w2.heap[g]? = some (.cells (rowOf (x ++ [u] ++ y2)) E f2) ∧ Keeps w w2 (fun k => k = h) ∧ (g = h ∨ g = w.heap.size) ∧ n + 1 ≤ c2 ∧ (f2 = (0, 0) ∨ n + 1 ≤ f2.1) := by
  subst hn
  obtain ⟨i, h1, h2, h3, h4⟩ := info_parts hi
  have hsrc : ∀ j v, [Value.int .u8 (u.toNat : Int)][j]? = some v → w.cell? ((⟨p, 0, none⟩ : Addr).add j) = some v := fun j v hj => by
    match j, hj with
    | 0, hj =>
      simp at hj
      subst hj
      rw [addr_add]
      simp [World.cell?, hu]
  by_cases hroom : x.length + 1 ≤ c
  · have hf := run_firstCells_some (P := P) w i.size 1 ⟨p, 0, none⟩ 1 1 [Value.int .u8 (u.toNat : Int)] (by rw [h3]; rfl) hsrc
    have hyl : 0 < y.length := by omega
    have hst := run_storeCells_cells (P := P) h (x.length * i.size) [Value.int .u8 (u.toNat : Int)] 0 w
      (fun j hj => by
        have hj0 : j = 0 := by simpa using hj
        subst hj0
        rw [h3]
        have := rowOf_get (x ++ y) (x.length * 1 + 0 + 0) (by simp; omega)
        simp only [World.cell?, hr]
        simp only [Option.isSome_none, Bool.false_eq_true, if_false]
        rw [this]
        rfl)
      (fun j hj => by
        have hj0 : j = 0 := by simpa using hj
        subst hj0
        simp only [World.frozen?, hr]
        rw [Bool.and_eq_false_iff]
        left
        rw [decide_eq_false_iff_not, h3]
        omega) (fun v hv => by simp at hv; subst hv; rfl)
    simp only [Nat.add_zero] at hst
    refine ⟨h, c, w.setCell ⟨h, x.length * i.size, none⟩ (.int .u8 (u.toNat : Int)), y.drop 1, fz, fun ty => ?_, ?_, ?_, Or.inl rfl, hroom, Or.inr (by omega)⟩
    · simp [Builtin.append_, run_underlying ht, sizeOf, typeInfo, h1, Builtin.lenOf, hroom, hf, Addr.add_lit, hst]
      rfl
    · rw [h3, Nat.mul_one, setCell_eq_setRow w h x.length _ E fz _ hr, heap_setRow_same hr]
      congr 2
      apply Array.ext'
      rw [Array.toList_setIfInBounds, rowOf_toList, rowOf_toList]
      obtain ⟨y0, yr, rfl⟩ : ∃ a b, y = a :: b := by
        cases y with
        | nil => simp at hyl
        | cons a b => exact ⟨a, b, rfl⟩
      simp [cellsOf, cellOf]
    · exact (Keeps.refl w (fun k => k = h)).setCell ⟨h, x.length * i.size, none⟩ (fun _ => rfl) _
  · have hcx : c = x.length := by omega
    have hy0 : y = [] := List.eq_nil_of_length_eq_zero (by omega)
    subst hy0
    have holds : ∀ j v, (cellsOf x)[j]? = some v → w.cell? ((⟨h, 0, none⟩ : Addr).add j) = some v := fun j v hj => by
      rw [addr_add, Nat.zero_add]
      simp only [World.cell?, hr]
      simpa [rowOf] using hj
    have hg := fun ty => run_append_grow (P := P) w t ty E i (.int .u8 0) ht h1 h2 ⟨h, 0, none⟩ x.length c (cellsOf x) (by rw [h3, cellsOf_length, Nat.mul_one]) holds ⟨p, 0, none⟩ 1 1 [Value.int .u8 (u.toNat : Int)] (by rw [h3]; rfl) hsrc (by omega) (by omega)
      (by have := nextslicecap_le (need := x.length + 1) (old := c) (by omega); rw [h4]; omega)
    refine ⟨w.heap.size, _, _, zeros (grownCap w (x.length + 1) c E - (x.length + 1)), (0, 0), hg, ?_, ((Keeps.refl _ _).drew).alloc _, Or.inr rfl, grownCap_ge w (x.length + 1) c E, Or.inl rfl⟩
    have hnew := heap_alloc_new w.drew (.cells ((cellsOf x).toArray ++ [Value.int .u8 (u.toNat : Int)].toArray ++ Builtin.zeroCells (Value.int .u8 0).cells (grownCap w (x.length + 1) c E - (x.length + 1))) E)
    refine Eq.trans hnew ?_
    congr 2
    apply Array.ext'
    rw [rowOf_toList]
    simp [cellsOf, cellOf, zeros, Builtin.zeroCells, Value.cells]
    apply List.ext_getElem
    · simp
    · intro j a b
      simp [Nat.mod_one]
end
end Go.Proofs.YtgckinldnnckoaaGreatDoor
/-
  Maps keyed by int whose elements are ints or pointers to a block's head, as partial functions. Nothing here names the program.
-/
namespace Go.Proofs.YtgckinldnnckoaaGreatDoor
open Go.RowKit Go.Maps

/-- How an element reads: an int, a nil pointer, a pointer to a block's head. -/
def rdr : Value → Option (DataW Unit × List MemPlace)
  | .int .i64 a => some (.lit (.int .i64 a), [])
  | .pointer none => some (.lit (.bool false), [])
  | .pointer (some ⟨b, 0, none⟩) => some (.lit (.int .u64 b), [])
  | _ => none
theorem rdr_int (a : Int) : rdr (.int .i64 a) = some (.lit (.int .i64 a), []) := rfl
theorem rdr_nil : rdr (.pointer none) = some (.lit (.bool false), []) := rfl
theorem rdr_ptr (b : Nat) : rdr (.pointer (some ⟨b, 0, none⟩)) = some (.lit (.int .u64 b), []) := rfl
theorem rdr_int_inv {v : Value} {a : Int} {ps : List MemPlace} (h : rdr v = some (.lit (.int .i64 a), ps)) : v = .int .i64 a := by
  unfold rdr at h
  split at h
  · simp at h
    rw [h.1]
  · simp at h
  · simp at h
  · cases h
theorem rdr_nil_inv {v : Value} {ps : List MemPlace} (h : rdr v = some (.lit (.bool false), ps)) : v = .pointer none := by
  unfold rdr at h
  split at h
  · simp at h
  · rfl
  · simp at h
  · cases h
theorem rdr_ptr_inv {v : Value} {b : Nat} {ps : List MemPlace} (h : rdr v = some (.lit (.int .u64 b), ps)) : v = .pointer (some ⟨b, 0, none⟩) := by
  unfold rdr at h
  split at h
  · simp at h
  · simp at h
  · simp at h
    have := Int.ofNat_inj.1 h.1
    subst this
    rfl
  · cases h

/-- A key: an int that fits. -/
def fitsI (x : Int) : Prop := (Lit.int .i64 x).wf = true
theorem fitsI_mk {x : Int} (h1 : -9223372036854775808 ≤ x) (h2 : x ≤ 9223372036854775807) : fitsI x := WalkArith.wf_i64 ⟨h1, h2⟩
theorem fitsI_bounds {x : Int} (h : fitsI x) : -9223372036854775808 ≤ x ∧ x ≤ 9223372036854775807 := by
  simp [fitsI, Lit.wf, IntKind.min, IntKind.max, IntKind.signed, IntKind.bits] at h
  omega
theorem lit_ne {x y : Int} (h : x ≠ y) : Lit.int .i64 x ≠ Lit.int .i64 y := fun e => h (by simpa using e)

/-- Block b is a map that holds c a at each key x with f x = some a, and nothing else. -/
def MapTo {α : Type} (P : Program) (c : α → DataW Unit) (w : World) (b n : Nat) (f : Int → Option α) : Prop :=
  ∃ D : DataW Unit, w.ownsMap P 3 rdr b n D ∧ ∀ x, fitsI x → has D (.int .i64 x) = (f x).isSome ∧ ∀ a, f x = some a → ∀ z, D.atKey (.int .i64 x) z = c a
def cInt (a : Int) : DataW Unit := .lit (.int .i64 a)
def cPtr (b : Nat) : DataW Unit := .lit (.int .u64 b)
def upd {α : Type} (f : Int → Option α) (x : Int) (a : Option α) : Int → Option α := fun y => if y = x then a else f y
theorem upd_same {α : Type} (f : Int → Option α) (x : Int) (a : Option α) : upd f x a x = a := by simp [upd]
theorem upd_other {α : Type} (f : Int → Option α) (x y : Int) (a : Option α) (h : y ≠ x) : upd f x a y = f y := by simp [upd, h]

section
variable {P : Program} {α : Type} {c : α → DataW Unit} {w : World} {b n : Nat} {f : Int → Option α}

theorem MapTo.lt (h : MapTo P c w b n f) : b < w.heap.size := by
  obtain ⟨D, ho, _⟩ := h
  exact ho.lt
theorem MapTo.keeps {w' : World} {S : Nat → Prop} (h : MapTo P c w b n f) (k : Keeps w w' S) (hS : ¬ S b) : MapTo P c w' b n f := by
  obtain ⟨D, ho, hd⟩ := h
  have hlt := ho.lt
  obtain ⟨es, clock, hb, r⟩ := ho
  exact ⟨D, ⟨es, clock, (k.block b hlt hS).trans hb, r⟩, hd⟩
theorem MapTo.drew (h : MapTo P c w b n f) : MapTo P c w.drew b n f := h
theorem MapTo.made (P : Program) (c : α → DataW Unit) (w : World) : MapTo P c (w.alloc (.map #[] 0)) w.heap.size 0 (fun _ => none) :=
  ⟨.map [], World.ownsMap_made w P 3 rdr, fun x _ => ⟨rfl, fun a h => by cases h⟩⟩

variable (hu3 : P.underlying 3 = some (.int .i64))
include hu3

theorem key_of {x : Int} (hx : fitsI x) : keyOf P 3 (.int .i64 x) = some (.int .i64 x) := keyOf_int_mk hu3 hx

/-- A store. -/
theorem MapTo.store {t e : TypeId} (ht : P.underlying t = some (.map 3 e)) (h : MapTo P c w b n f) (hn : n < maxLen) {x : Int} (hx : fitsI x) {v : Value} {a : α} {ps : List MemPlace} (hv : rdr v = some (c a, ps)) :
    ∃ w', (Instr.mapUpdate t (.map (some b)) (.int .i64 x) v).run P w = .ok () w' ∧ MapTo P c w' b (n + 1) (upd f x (some a)) ∧ Keeps w w' (fun k => k = b) := by
  obtain ⟨D, ho, hd⟩ := h
  obtain ⟨w', hrun, ho', ht'⟩ := ho.store (int_keyed hu3) ht hn (key_of hu3 hx) hv
  refine ⟨w', hrun, ⟨_, ho', fun y hy => ?_⟩, (Keeps.ofGrown ht'.grown).mono (fun i _ e => by simpa using e.symm)⟩
  by_cases hxy : y = x
  · subst hxy
    exact ⟨by rw [has_put_same (k := .int .i64 y) ho.isMap trivial, upd_same]; rfl, fun a' ha z => by rw [upd_same] at ha; cases ha; exact atKey_put_same (k := .int .i64 y) ho.isMap trivial _ _⟩
  · obtain ⟨h1, h2⟩ := hd y hy
    exact ⟨by rw [has_put_other (lit_ne hxy), h1, upd_other _ _ _ _ hxy], fun a' ha z => by rw [upd_other _ _ _ _ hxy] at ha; rw [atKey_put_other (lit_ne hxy)]; exact h2 a' ha z⟩
/-- A key is struck. -/
theorem MapTo.strike {t e : TypeId} (ht : P.underlying t = some (.map 3 e)) (h : MapTo P c w b n f) {x : Int} (hx : fitsI x) :
    ∃ w', (∀ ty, (Builtin.delete_ #[t, 3] ty #[.map (some b), .int .i64 x]).run P w = .ok (.tuple #[]) w') ∧ MapTo P c w' b n (upd f x none) ∧ Keeps w w' (fun k => k = b) := by
  obtain ⟨D, ho, hd⟩ := h
  obtain ⟨w', hrun, ho', ht'⟩ := ho.drop (int_keyed hu3) ht (key_of hu3 hx) 0
  refine ⟨w', fun ty => hrun, ⟨_, ho', fun y hy => ?_⟩, (Keeps.ofGrown ht'.grown).mono (fun i _ e => by simpa using e.symm)⟩
  by_cases hxy : y = x
  · subst hxy
    exact ⟨by rw [has_del_same, upd_same]; rfl, fun a' ha => by rw [upd_same] at ha; cases ha⟩
  · obtain ⟨h1, h2⟩ := hd y hy
    exact ⟨by rw [has_del_other (lit_ne hxy), h1, upd_other _ _ _ _ hxy], fun a' ha z => by rw [upd_other _ _ _ _ hxy] at ha; rw [atKey_del_other (lit_ne hxy)]; exact h2 a' ha z⟩
end

section
variable {P : Program} {w : World} {b n : Nat} (hu3 : P.underlying 3 = some (.int .i64))
include hu3

/-- A look into a map of ints: with ok. -/
theorem look_ok_int {f : Int → Option Int} {t : TypeId} (ht : P.underlying t = some (.map 3 3)) (hz : (zeroValue 3).run P w = .ok (.int .i64 0) w) (h : MapTo P cInt w b n f) {x : Int} (hx : fitsI x) :
    (Instr.lookup t (.map (some b)) (.int .i64 x) true).run P w = .ok (.tuple #[.int .i64 ((f x).getD 0), .bool (f x).isSome]) w := by
  obtain ⟨D, ho, hd⟩ := h
  obtain ⟨h1, h2⟩ := hd x hx
  obtain ⟨v, ps, hrun, hv⟩ := ho.look_ok (int_keyed hu3) ht hz (rdr_int 0) (key_of hu3 hx)
  rw [hrun, h1]
  cases hf : f x with
  | none =>
    rw [hf] at h1
    rw [atKey_of_not_has h1] at hv
    rw [rdr_int_inv hv]
    rfl
  | some a =>
    rw [h2 a hf] at hv
    rw [rdr_int_inv hv]
    rfl
/-- .. without ok. -/
theorem look_int {f : Int → Option Int} {t : TypeId} (ht : P.underlying t = some (.map 3 3)) (hz : (zeroValue 3).run P w = .ok (.int .i64 0) w) (h : MapTo P cInt w b n f) {x : Int} (hx : fitsI x) :
    (Instr.lookup t (.map (some b)) (.int .i64 x) false).run P w = .ok (.int .i64 ((f x).getD 0)) w := by
  obtain ⟨D, ho, hd⟩ := h
  obtain ⟨h1, h2⟩ := hd x hx
  obtain ⟨v, ps, hrun, hv⟩ := ho.lookup (int_keyed hu3) ht hz (rdr_int 0) (key_of hu3 hx)
  rw [hrun]
  cases hf : f x with
  | none =>
    rw [hf] at h1
    rw [atKey_of_not_has h1] at hv
    rw [rdr_int_inv hv]
    rfl
  | some a =>
    rw [h2 a hf] at hv
    rw [rdr_int_inv hv]
    rfl
/-- A look into a map of pointers. -/
theorem look_ptr {f : Int → Option Nat} {t e : TypeId} (ht : P.underlying t = some (.map 3 e)) (hz : (zeroValue e).run P w = .ok (.pointer none) w) (h : MapTo P cPtr w b n f) {x : Int} (hx : fitsI x) :
    (Instr.lookup t (.map (some b)) (.int .i64 x) false).run P w = .ok (.pointer ((f x).map (fun g => ⟨g, 0, none⟩))) w := by
  obtain ⟨D, ho, hd⟩ := h
  obtain ⟨h1, h2⟩ := hd x hx
  obtain ⟨v, ps, hrun, hv⟩ := ho.lookup (int_keyed hu3) ht hz rdr_nil (key_of hu3 hx)
  rw [hrun]
  cases hf : f x with
  | none =>
    rw [hf] at h1
    rw [atKey_of_not_has h1] at hv
    rw [rdr_nil_inv hv]
    rfl
  | some a =>
    rw [h2 a hf] at hv
    rw [rdr_ptr_inv hv]
    rfl
end
end Go.Proofs.YtgckinldnnckoaaGreatDoor
/-
  The classes of blocks, as plain numbers. Nothing here names the program.
-/
namespace Go.Proofs.YtgckinldnnckoaaGreatDoor

def least (n : Nat) : List Nat → Nat
  | [] => 0
  | c :: r => if n ≤ c then c else least n r
def classList : List Nat := [16, 32, 48, 64, 96, 128, 192, 256, 384, 512, 768, 1024, 1536, 2048, 3072, 4096, 6144, 8192, 12288, 16384, 24576, 32768, 49152, 65536, 98304, 131072, 196608, 262144, 393216, 524288, 786432, 1048576]
/-- The least class of n bytes or more. -/
def classN (n : Nat) : Nat := least n classList
/-- Each class and the one below it. -/
def classPairs : List (Nat × Nat) := classList.zip (0 :: classList)

theorem least_spec (n : Nat) : ∀ (l : List Nat) (b : Nat), b < n → (∃ c ∈ l, n ≤ c) → ∃ x ∈ l.zip (b :: l), least n l = x.1 ∧ x.2 < n ∧ n ≤ x.1
  | [], _, _, h => by obtain ⟨c, hc, _⟩ := h; cases hc
  | c :: r, b, hb, h => by
    by_cases hn : n ≤ c
    · exact ⟨(c, b), by simp, by simp [least, hn], hb, hn⟩
    · have h' : ∃ d ∈ r, n ≤ d := by
        obtain ⟨d, hd, hnd⟩ := h
        rcases List.mem_cons.1 hd with rfl | hd
        · exact absurd hnd hn
        · exact ⟨d, hd, hnd⟩
      obtain ⟨x, hx, h1, h2, h3⟩ := least_spec n r c (by omega) h'
      exact ⟨x, by simp [hx], by simp [least, hn, h1], h2, h3⟩
theorem class_spec (n : Nat) (h1 : 1 ≤ n) (h2 : n ≤ 1048576) : ∃ x ∈ classPairs, classN n = x.1 ∧ x.2 < n ∧ n ≤ x.1 :=
  least_spec n classList 0 (by omega) ⟨1048576, by decide, h2⟩

/-- The power that the loop ends at, and what is made of it. -/
def fromPow (n p : Nat) : Nat := if n ≤ p / 4 * 3 ∧ p / 4 * 3 % 16 = 0 then p / 4 * 3 else p
theorem pairs_pow : ∀ x ∈ classPairs, ∃ j, j < 17 ∧ x.2 < 16 * 2 ^ j ∧ x.1 ≤ 16 * 2 ^ j ∧ (j = 0 ∨ 8 * 2 ^ j ≤ x.2) ∧ ((x.1 = 16 * 2 ^ j / 4 * 3 ∧ 16 * 2 ^ j / 4 * 3 % 16 = 0) ∨ (x.1 = 16 * 2 ^ j ∧ (16 * 2 ^ j / 4 * 3 % 16 = 0 → 16 * 2 ^ j / 4 * 3 ≤ x.2))) := by decide
theorem pow_mono {i j : Nat} (h : i < j) : 2 * 2 ^ i ≤ 2 ^ j := by
  have : 2 ^ (i + 1) ≤ 2 ^ j := Nat.pow_le_pow_right (by omega) h
  rw [Nat.pow_succ] at this
  omega
theorem class_exit (n j : Nat) (h1 : 1 ≤ n) (h2 : n ≤ 1048576) (hn : n ≤ 16 * 2 ^ j) (hj : j = 0 ∨ 8 * 2 ^ j < n) : fromPow n (16 * 2 ^ j) = classN n := by
  obtain ⟨x, hx, hc, hb, hle⟩ := class_spec n h1 h2
  obtain ⟨i, _, p1, p2, p3, p4⟩ := pairs_pow x hx
  have hij : i = j := by
    rcases Nat.lt_trichotomy i j with h | h | h
    · have := pow_mono h
      omega
    · exact h
    · have := pow_mono h
      have : 1 ≤ 2 ^ i := Nat.one_le_two_pow
      omega
  subst hij
  rw [hc]
  unfold fromPow
  rcases p4 with ⟨e1, e2⟩ | ⟨e1, e2⟩
  · rw [if_pos ⟨by omega, e2⟩, e1]
  · rw [if_neg (fun h => by have := e2 h.2; omega), e1]

/-- What is left of m when it is halved while it is even. -/
def oddP : Nat → Nat → Nat
  | 0, m => m
  | f + 1, m => if m % 2 = 0 then oddP f (m / 2) else m
theorem oddP_end {f m : Nat} (h0 : 1 ≤ m) (h : m < 2 ^ f) (ho : m % 2 ≠ 0) : oddP f m = m := by
  cases f with
  | zero => simp at h; omega
  | succ f => simp [oddP, ho]
theorem oddP_step {f m : Nat} (h0 : 1 ≤ m) (h : m < 2 ^ f) (ho : m % 2 = 0) : ∃ f', 1 ≤ m / 2 ∧ m / 2 < 2 ^ f' ∧ oddP f' (m / 2) = oddP f m := by
  cases f with
  | zero => simp at h; omega
  | succ f =>
    refine ⟨f, by omega, ?_, by simp [oddP, ho]⟩
    rw [Nat.pow_succ] at h
    omega
/-- The class below c, as the statement reckons it. -/
def belowC (c : Nat) : Nat := if c = 16 then 0 else if c = 32 then 16 else if oddP 17 (c / 16) = 3 then c / 3 * 2 else c / 4 * 3
theorem pairs_facts : ∀ x ∈ classPairs, 16 ≤ x.1 ∧ x.1 ≤ 1048576 ∧ x.1 % 16 = 0 ∧ x.1 / 16 < 2 ^ 17 ∧ (oddP 17 (x.1 / 16) = 1 ∨ oddP 17 (x.1 / 16) = 3) ∧ belowC x.1 = x.2 ∧ classN x.1 = x.1 ∧ (x.2 = 0 ∨ (1 ≤ x.2 ∧ classN x.2 = x.2)) ∧ classN (x.2 + 1) = x.1 := by decide
theorem class_le (n : Nat) (h1 : 1 ≤ n) (h2 : n ≤ 1048576) : n ≤ classN n ∧ 16 ≤ classN n ∧ classN n ≤ 1048576 ∧ classN n % 16 = 0 := by
  obtain ⟨x, hx, hc, _, hle⟩ := class_spec n h1 h2
  obtain ⟨a, b, c, _⟩ := pairs_facts x hx
  rw [hc]
  exact ⟨hle, a, b, c⟩
theorem class_class (n : Nat) (h1 : 1 ≤ n) (h2 : n ≤ 1048576) : classN (classN n) = classN n := by
  obtain ⟨x, hx, hc, _, hle⟩ := class_spec n h1 h2
  obtain ⟨_, _, _, _, _, _, d, _⟩ := pairs_facts x hx
  rw [hc, d]
/-- Class at whatever number. -/
def classI (n : Int) : Int := if 1 ≤ n ∧ n ≤ 1048576 then (classN n.toNat : Int) else 0
end Go.Proofs.YtgckinldnnckoaaGreatDoor
