/-
  Plain laws for a bounds-checked memory: a struct of one slice of bytes behind a pointer; worlds that keep all blocks but some. Nothing here names the program.
-/
import Derived.WalkKit
import Derived.Below
import Derived.Laws.CopyRow
import Derived.Laws.IdiomStrings
import Derived.Laws.MakeOwn
import Derived.Laws.Slices
import Derived.Lib.SliceRun
namespace Go.Proofs.YtnicbillhlhmmaaDoor
open Go.RowKit

/-- The cell of a byte. -/
def cellOf (x : UInt8) : Value := .int .u8 (x.toNat : Int)
def cellsOf (bs : List UInt8) : List Value := bs.map cellOf
def rowOf (bs : List UInt8) : Array Value := (cellsOf bs).toArray
def zeros (n : Nat) : List UInt8 := List.replicate n 0

theorem cellsOf_length (bs : List UInt8) : (cellsOf bs).length = bs.length := by simp [cellsOf]
theorem rowOf_size (bs : List UInt8) : (rowOf bs).size = bs.length := by simp [rowOf, cellsOf]
theorem rowOf_toList (bs : List UInt8) : (rowOf bs).toList = cellsOf bs := by simp [rowOf]
theorem zeros_length (n : Nat) : (zeros n).length = n := by simp [zeros]
theorem cellsOf_append (a b : List UInt8) : cellsOf (a ++ b) = cellsOf a ++ cellsOf b := by simp [cellsOf]
theorem cellsOf_take (a : List UInt8) (n : Nat) : cellsOf (a.take n) = (cellsOf a).take n := by simp [cellsOf, List.map_take]
theorem cellsOf_drop (a : List UInt8) (n : Nat) : cellsOf (a.drop n) = (cellsOf a).drop n := by simp [cellsOf, List.map_drop]
theorem cellsOf_one {bs : List UInt8} : ∀ v ∈ cellsOf bs, v.oneCell' = true := by
  intro v hv
  simp only [cellsOf, List.mem_map] at hv
  obtain ⟨x, _, rfl⟩ := hv
  rfl
theorem rowOf_get (bs : List UInt8) (j : Nat) (h : j < bs.length) : (rowOf bs)[j]? = some (.int .u8 (bs[j].toNat : Int)) := by
  simp [rowOf, cellsOf, cellOf, h]

theorem addr_add (h o j : Nat) : (⟨h, o, none⟩ : Addr).add j = ⟨h, o + j, none⟩ := by unfold Addr.add; split <;> simp_all
theorem made_row (n : Nat) : madeCells (Value.int .u8 0).cells (n * 1) = rowOf (zeros n) := by
  apply Array.ext
  · simp [size_madeCells, rowOf_size, zeros_length]
  · intro i h1 h2
    simp [madeCells, Value.cells, rowOf, cellsOf, zeros, cellOf, Nat.mod_one]

/-- All blocks of w but those in S are in w' as they were; the streams stand. -/
structure Keeps (w w' : World) (S : Nat → Prop) : Prop where
  os : w'.os = w.os
  tape : w'.tape = w.tape
  output : w'.output = w.output
  size : w.heap.size ≤ w'.heap.size
  block : ∀ k, k < w.heap.size → ¬ S k → w'.heap[k]? = w.heap[k]?

theorem Keeps.refl (w : World) (S : Nat → Prop) : Keeps w w S := ⟨rfl, rfl, rfl, Nat.le_refl _, fun _ _ _ => rfl⟩
theorem Keeps.trans {w w1 w2 : World} {S S1 : Nat → Prop} (h : Keeps w w1 S) (k : Keeps w1 w2 S1) (hS : ∀ i, i < w.heap.size → S1 i → S i) : Keeps w w2 S :=
  ⟨k.os.trans h.os, k.tape.trans h.tape, k.output.trans h.output, Nat.le_trans h.size k.size,
    fun i hi hn => (k.block i (Nat.lt_of_lt_of_le hi h.size) (fun x => hn (hS i hi x))).trans (h.block i hi hn)⟩
theorem Keeps.mono {w w1 : World} {S S1 : Nat → Prop} (h : Keeps w w1 S) (hS : ∀ i, i < w.heap.size → S i → S1 i) : Keeps w w1 S1 :=
  ⟨h.os, h.tape, h.output, h.size, fun i hi hn => h.block i hi (fun x => hn (hS i hi x))⟩
theorem Keeps.drew {w w1 : World} {S : Nat → Prop} (h : Keeps w w1 S) : Keeps w w1.drew S := ⟨h.os, h.tape, h.output, h.size, h.block⟩
theorem Keeps.alloc {w w1 : World} {S : Nat → Prop} (h : Keeps w w1 S) (o : Obj) : Keeps w (w1.alloc o) S :=
  h.trans (S1 := fun _ => False) ⟨rfl, rfl, rfl, by simp, fun k hk _ => Below.heap_alloc _ _ _ hk⟩ (fun _ _ x => x.elim)
theorem heap_setRow_other (w : World) (g : Nat) (cs : Array Value) (k : Nat) (h : k ≠ g) : (w.setRow g cs).heap[k]? = w.heap[k]? := by
  simp only [World.setRow, Array.getElem?_modify]
  rw [if_neg (by omega)]
theorem setRow_size (w : World) (g : Nat) (cs : Array Value) : (w.setRow g cs).heap.size = w.heap.size := by simp [World.setRow]
theorem Keeps.setRow {w w1 : World} {S : Nat → Prop} (h : Keeps w w1 S) (g : Nat) (hg : g < w.heap.size → S g) (cs : Array Value) : Keeps w (w1.setRow g cs) S :=
  h.trans (S1 := fun k => k = g) ⟨rfl, rfl, rfl, by simp [World.setRow], fun k _ hn => heap_setRow_other _ _ _ _ hn⟩ (fun i hi e => by subst e; exact hg hi)
theorem Keeps.setCell {w w1 : World} {S : Nat → Prop} (h : Keeps w w1 S) (p : Addr) (hg : p.block < w.heap.size → S p.block) (u : Value) : Keeps w (w1.setCell p u) S :=
  h.trans (S1 := fun k => k = p.block) ⟨rfl, rfl, rfl, by simp [World.setCell], fun k _ hn => Below.heap_setCell _ _ _ _ hn⟩ (fun i hi e => by subst e; exact hg hi)
theorem Keeps.below {w w1 : World} {S : Nat → Prop} {B : Nat} (h : Keeps w w1 S) (hB : B ≤ w.heap.size) (hS : ∀ i, i < B → ¬ S i) : Below B w w1 :=
  ⟨h.os, h.tape, h.output, h.size, fun k hk => h.block k (by omega) (hS k hk)⟩

theorem heap_lt {w : World} {k : Nat} {o : Obj} (h : w.heap[k]? = some o) : k < w.heap.size := (Array.getElem?_eq_some_iff.1 h).1
theorem heap_alloc_new (w : World) (o : Obj) : (w.alloc o).heap[w.heap.size]? = some o := by
  show (w.heap.push o)[w.heap.size]? = _
  simp
theorem heap_setRow_same {w : World} {g : Nat} {old cs : Array Value} {t : TypeId} {fr : Nat × Nat} (hg : w.heap[g]? = some (.cells old t fr)) : (w.setRow g cs).heap[g]? = some (.cells cs t fr) :=
  setRow_heap w g old cs t fr hg
theorem heap_setCell_zero {w : World} {b : Nat} {u v : Value} {t : TypeId} (hb : w.heap[b]? = some (.cells #[u] t)) : (w.setCell ⟨b, 0, none⟩ v).heap[b]? = some (.cells #[v] t) := by
  have hlt := heap_lt hb
  have hv := (Array.getElem?_eq_some_iff.1 hb).2
  simp only [World.setCell, Array.getElem?_modify]
  simp [hlt, hv]

/-- A memory: block b holds the one slice, block g the bytes and the room behind them. T, E: the struct's type, the byte's. -/
structure MemAt (T E : TypeId) (w : World) (b g : Nat) (bs sp : List UInt8) : Prop where
  hb : w.heap[b]? = some (.cells #[.slice (some ⟨g, 0, none⟩) bs.length (bs.length + sp.length)] T)
  hg : w.heap[g]? = some (.cells (rowOf (bs ++ sp)) E)
  hmax : bs.length + sp.length ≤ 134217728
  hne : b ≠ g

theorem MemAt.keeps {T E : TypeId} {w w1 : World} {b g : Nat} {bs sp : List UInt8} {S : Nat → Prop} (m : MemAt T E w b g bs sp) (k : Keeps w w1 S) (h1 : ¬ S b) (h2 : ¬ S g) : MemAt T E w1 b g bs sp :=
  ⟨(k.block b (heap_lt m.hb) h1).trans m.hb, (k.block g (heap_lt m.hg) h2).trans m.hg, m.hmax, m.hne⟩
theorem MemAt.drew {T E : TypeId} {w : World} {b g : Nat} {bs sp : List UInt8} (m : MemAt T E w b g bs sp) : MemAt T E w.drew b g bs sp := ⟨m.hb, m.hg, m.hmax, m.hne⟩
theorem MemAt.cell {T E : TypeId} {w : World} {b g : Nat} {bs sp : List UInt8} (m : MemAt T E w b g bs sp) : w.cell? ⟨b, 0, none⟩ = some (.slice (some ⟨g, 0, none⟩) bs.length (bs.length + sp.length)) := by
  simp [World.cell?, m.hb]
theorem MemAt.frozen {T E : TypeId} {w : World} {b g : Nat} {bs sp : List UInt8} (m : MemAt T E w b g bs sp) : w.frozen? ⟨b, 0, none⟩ = false := by
  simp [World.frozen?, m.hb]
theorem MemAt.gcell {T E : TypeId} {w : World} {b g : Nat} {bs sp : List UInt8} (m : MemAt T E w b g bs sp) (j : Nat) (h : j < bs.length) : w.cell? ⟨g, j, none⟩ = some (.int .u8 (bs[j].toNat : Int)) := by
  have := rowOf_get (bs ++ sp) j (by simp; omega)
  simp only [World.cell?, m.hg]
  simpa [List.getElem_append_left h] using this
theorem MemAt.gfrozen {T E : TypeId} {w : World} {b g : Nat} {bs sp : List UInt8} (m : MemAt T E w b g bs sp) (j : Nat) : w.frozen? ⟨g, j, none⟩ = false := by
  simp [World.frozen?, m.hg]

/-- Does the span lie inside? -/
def insideB (s : Nat) (off n : Int) : Bool := decide (0 ≤ off ∧ 0 ≤ n ∧ n ≤ s ∧ off ≤ s - n)
theorem insideB_true {s : Nat} {off n : Int} (h : insideB s off n = true) : 0 ≤ off ∧ 0 ≤ n ∧ n ≤ s ∧ off ≤ s - n := of_decide_eq_true h
theorem insideB_false {s : Nat} {off n : Int} (h : insideB s off n = false) : ¬ (0 ≤ off ∧ 0 ≤ n ∧ n ≤ s ∧ off ≤ s - n) := of_decide_eq_false h
theorem insideB_nat {s : Nat} {off n : Int} (h : insideB s off n = true) : ∃ o k : Nat, off = o ∧ n = k ∧ o + k ≤ s := by
  have := insideB_true h
  exact ⟨off.toNat, n.toNat, by omega, by omega, by omega⟩
theorem insideB_mk {s o k : Nat} (h : o + k ≤ s) : insideB s (o : Int) (k : Int) = true := by
  unfold insideB
  exact decide_eq_true (by omega)

/-- What New leaves. -/
def NewPost (T E : TypeId) (w : World) (n : Nat) (e : Ending) (w' : World) : Prop :=
  ∃ b g, w.heap.size ≤ b ∧ w.heap.size ≤ g ∧ e = .returned (.tuple #[.pointer (some ⟨b, 0, none⟩), .int .i64 0]) ∧ MemAt T E w' b g (zeros n) [] ∧ Keeps w w' (fun _ => False)
theorem newPost_mk (T E : TypeId) (w : World) (n : Nat) (h : n ≤ 134217728) : NewPost T E w n (.returned (.tuple #[.pointer (some ⟨w.heap.size + 1, 0, none⟩), .int .i64 0]))
    ((w.alloc (.cells (rowOf (zeros n)) E)).alloc (.cells #[.slice (some ⟨w.heap.size, 0, none⟩) n n] T)) := by
  refine ⟨w.heap.size + 1, w.heap.size, by omega, by omega, rfl, ⟨?_, ?_, ?_, by omega⟩, ((Keeps.refl _ _).alloc _).alloc _⟩
  · have := heap_alloc_new (w.alloc (.cells (rowOf (zeros n)) E)) (.cells #[.slice (some ⟨w.heap.size, 0, none⟩) n n] T)
    simpa [zeros_length] using this
  · rw [Below.heap_alloc _ _ _ (by simp), heap_alloc_new, List.append_nil]
  · simpa [zeros_length] using h

section
variable {P : Program}

/-- make of n bytes. -/
theorem run_make_bytes (w : World) (t e : TypeId) (hu : P.underlying t = some (.slice e)) (hi : (P.info? e).map (fun i => (i.zero, i.size, i.bytes)) = some (some (.int .u8 0), 1, 1)) (n : Nat) (hn : n ≤ 134217728) :
    (Instr.makeSlice t (.int .i64 (n : Int)) (.int .i64 (n : Int))).run P w = .ok (.slice (some ⟨w.heap.size, 0, none⟩) n n) (w.alloc (.cells (rowOf (zeros n)) e)) := by
  obtain ⟨i, h1, h2, h3, h4⟩ := info_parts hi
  have h := run_make (P := P) w t e i (.int .u8 0) hu h1 h2 .i64 .i64 (n : Int) (n : Int) (by omega) (by omega) (by rw [h4]; omega) (by omega)
  rw [h, h3]
  simp only [Int.toNat_natCast, made_row]

/-- make of l bytes with room for n. -/
theorem run_make_room (w : World) (t e : TypeId) (hu : P.underlying t = some (.slice e)) (hi : (P.info? e).map (fun i => (i.zero, i.size, i.bytes)) = some (some (.int .u8 0), 1, 1)) (l n : Nat) (hl : l ≤ n) (hn : n ≤ 134217728) :
    (Instr.makeSlice t (.int .i64 (l : Int)) (.int .i64 (n : Int))).run P w = .ok (.slice (some ⟨w.heap.size, 0, none⟩) l n) (w.alloc (.cells (rowOf (zeros n)) e)) := by
  obtain ⟨i, h1, h2, h3, h4⟩ := info_parts hi
  have h := run_make (P := P) w t e i (.int .u8 0) hu h1 h2 .i64 .i64 (l : Int) (n : Int) (by omega) (by omega) (by rw [h4]; omega) (by omega)
  rw [h, h3]
  simp only [Int.toNat_natCast, made_row]

/-- copy of k bytes cs into the row of bytes at g, from q on. -/
theorem run_copy_bytes (w : World) (t sT ty e : TypeId) (hu : P.underlying t = some (.slice e)) (hi : (P.info? e).map (fun i => (i.zero, i.size, i.bytes)) = some (some (.int .u8 0), 1, 1))
    (g q dLen dCap : Nat) (a : Addr) (sLen sCap : Nat) (cur cs : List UInt8) (hg : w.heap[g]? = some (.cells (rowOf cur) e)) (hn : cs.length = Nat.min sLen dLen)
    (hsrc : ∀ j (h : j < cs.length), w.cell? (a.add j) = some (.int .u8 (cs[j].toNat : Int))) (hfit : q + cs.length ≤ cur.length) :
    (Builtin.copy_ #[t, sT] ty #[.slice (some ⟨g, q, none⟩) dLen dCap, .slice (some a) sLen sCap]).run P w =
      .ok (goInt cs.length) (w.setRow g (rowOf (cur.take q ++ cs ++ cur.drop (q + cs.length)))) := by
  obtain ⟨i, h1, h2, h3, h4⟩ := info_parts hi
  have h := run_copy_row (P := P) w t sT ty e g q dLen dCap a sLen sCap (rowOf cur) e (cellsOf cs) hu (by simp [h1, h3]) hg (by rw [cellsOf_length, hn])
    (fun j v hj => by
      have hj' : j < cs.length := by have := (List.getElem?_eq_some_iff.1 hj).1; rwa [cellsOf_length] at this
      rw [hsrc j hj']
      simp [cellsOf, cellOf, hj'] at hj
      rw [← hj]) (by rw [cellsOf_length, rowOf_size]; exact hfit) cellsOf_one
  rw [h, cellsOf_length]
  have e : (List.take q (rowOf cur).toList ++ cellsOf cs ++ List.drop (q + cs.length) (rowOf cur).toList).toArray = rowOf (cur.take q ++ cs ++ cur.drop (q + cs.length)) := by
    rw [rowOf_toList, ← cellsOf_take, ← cellsOf_drop, ← cellsOf_append, ← cellsOf_append, rowOf]
  rw [e]

/-- The value of row[o : o+n]. -/
def spanVal (g cap o n : Nat) : Value := .slice (some ⟨g, if cap = o then 0 else o, none⟩) n (cap - o)
theorem spanVal_eq (g cap o n : Nat) : ∃ q, (q = o ∨ (q = 0 ∧ cap = o)) ∧ spanVal g cap o n = .slice (some ⟨g, q, none⟩) n (cap - o) := by
  unfold spanVal
  by_cases h : cap = o
  · exact ⟨0, Or.inr ⟨rfl, h⟩, by simp [h]⟩
  · exact ⟨o, Or.inl rfl, by simp [h]⟩
theorem run_sizeOf_byte (w : World) (e : TypeId) (hi : (P.info? e).map (fun i => (i.zero, i.size, i.bytes)) = some (some (.int .u8 0), 1, 1)) : (Go.sizeOf e).run P w = .ok 1 w := by
  obtain ⟨i, h1, h2, h3, h4⟩ := info_parts hi
  simp [Go.sizeOf, typeInfo, h1, h3]
theorem run_slice_span (w : World) (t e : TypeId) (ht : P.underlying t = some (.slice e)) (hi : (P.info? e).map (fun i => (i.zero, i.size, i.bytes)) = some (some (.int .u8 0), 1, 1)) (g len cap o n : Nat) (hh : o + n ≤ cap) :
    (Instr.slice t (.slice (some ⟨g, 0, none⟩) len cap) (some (.int .i64 (o : Int))) (some (.int .i64 ((o : Int) + (n : Int)))) none).run P w = .ok (spanVal g cap o n) w := by
  have ht' : P.underlying t = some (.slice (P.elem t)) := by simp [Program.elem, ht]
  have he : P.elem t = e := by simp [Program.elem, ht]
  rw [run_slice_lh w t _ _ _ ht' .i64 .i64 _ _ (by omega) (by omega) (by omega), he, run_sizeOf_byte w e hi]
  have e1 : ((o : Int) + (n : Int)).toNat = o + n := by omega
  by_cases h : cap = o
  · have : n = 0 := by omega
    subst this
    simp [Result.andThen, sliced, spanVal, h]
  · by_cases h0 : o = 0
    · subst h0
      simp [Result.andThen, sliced, Addr.add, spanVal, h]
    · simp [Result.andThen, sliced, Addr.add, spanVal, h, h0, e1]

end

/-- What Read leaves where the span lies inside. -/
def ReadPost (E : TypeId) (w : World) (bs : List UInt8) (o n : Nat) (e : Ending) (w' : World) : Prop :=
  ∃ h, w.heap.size ≤ h ∧ e = .returned (.tuple #[.slice (some ⟨h, 0, none⟩) n n, .int .i64 0]) ∧ w'.heap[h]? = some (.cells (rowOf ((bs.drop o).take n)) E) ∧ Keeps w w' (fun _ => False)
theorem readPost_mk (E : TypeId) (w : World) (bs : List UInt8) (o n : Nat) (hn : o + n ≤ bs.length) : ReadPost E w bs o n (.returned (.tuple #[.slice (some ⟨w.heap.size, 0, none⟩) n n, .int .i64 0]))
    ((w.alloc (.cells (rowOf (zeros n)) E)).setRow w.heap.size (rowOf ((zeros n).take 0 ++ (bs.drop o).take n ++ (zeros n).drop (0 + ((bs.drop o).take n).length)))) := by
  refine ⟨w.heap.size, Nat.le_refl _, rfl, ?_, ((Keeps.refl _ _).alloc _).setRow _ (fun h => absurd h (Nat.lt_irrefl _)) _⟩
  rw [heap_setRow_same (heap_alloc_new w (.cells (rowOf (zeros n)) E))]
  have e : (zeros n).drop (0 + ((bs.drop o).take n).length) = [] := by
    apply List.drop_eq_nil_of_le
    simp [zeros_length]
    omega
  rw [e]
  simp
/-- The bytes of a span, as cells. -/
theorem MemAt.span {T E : TypeId} {w : World} {b g : Nat} {bs sp : List UInt8} (m : MemAt T E w b g bs sp) {o n q : Nat} (hn : o + n ≤ bs.length) (hq : q = o ∨ (q = 0 ∧ bs.length + sp.length = o)) :
    ∀ j (h : j < ((bs.drop o).take n).length), w.cell? ((⟨g, q, none⟩ : Addr).add j) = some (.int .u8 (((bs.drop o).take n)[j].toNat : Int)) := by
  intro j h
  have hj : j < n := by simp at h; omega
  have hq' : q = o := by
    rcases hq with hq | ⟨_, hq⟩
    · exact hq
    · omega
  subst hq'
  rw [addr_add, m.gcell (q + j) (by omega)]
  simp

theorem read_copy {P : Program} (t sT : TypeId) {T : TypeId} (E : TypeId) (hu : P.underlying t = some (.slice E)) (hi : (P.info? E).map (fun i => (i.zero, i.size, i.bytes)) = some (some (.int .u8 0), 1, 1))
    {w : World} {b g : Nat} {bs sp : List UInt8} (m : MemAt T E w b g bs sp) {o n q : Nat} (hn : o + n ≤ bs.length) (hq : q = o ∨ (q = 0 ∧ bs.length + sp.length = o)) :
    ∃ w2, (∀ ty, (Builtin.copy_ #[t, sT] ty #[.slice (some ⟨w.heap.size, 0, none⟩) n n, .slice (some ⟨g, q, none⟩) n (bs.length + sp.length - o)]).run P (w.alloc (.cells (rowOf (zeros n)) E)) = .ok (goInt n) w2) ∧
      ReadPost E w bs o n (.returned (.tuple #[.slice (some ⟨w.heap.size, 0, none⟩) n n, .int .i64 0])) w2 := by
  have m1 : MemAt T E (w.alloc (.cells (rowOf (zeros n)) E)) b g bs sp := m.keeps ((Keeps.refl _ (fun _ => False)).alloc _) id id
  have hlen : ((bs.drop o).take n).length = n := by simp; omega
  refine ⟨_, fun ty => ?_, readPost_mk E w bs o n hn⟩
  have h := run_copy_bytes (P := P) (w.alloc (.cells (rowOf (zeros n)) E)) t sT ty E hu hi w.heap.size 0 n n ⟨g, q, none⟩ n (bs.length + sp.length - o) (zeros n) ((bs.drop o).take n)
    (heap_alloc_new _ _) (by rw [hlen]; exact (Nat.min_self n).symm) (m1.span hn hq) (by rw [hlen, zeros_length]; omega)
  rw [h, hlen]
end Go.Proofs.YtnicbillhlhmmaaDoor
