import Derived.WalkKit
import Derived.Below
import Derived.Laws.CopyRow
import Derived.Laws.IdiomStrings
import Derived.Laws.MakeOwn
import Derived.Laws.Slices
import Derived.Lib.SliceRun
import Derived.Deep.AppendLies
import Derived.Test.YtfpiibccggjjpaaDoorRows
import Derived.Outline
import Derived.Lib.ItoaNum
import Derived.Lib.Join
import Derived.Deep.RegionHeld3
import Derived.Deep.RegionLaw
/-
  Plain laws for a bounds-checked memory: a struct of one slice of bytes behind a pointer; worlds that keep all blocks but some. Nothing here names the program.
-/
namespace Go.Proofs.YtfpiibccggjjpaaDoor
open Go.RowKit

/-- The cell of a byte. -/
def cellOf (x : UInt8) : Value := .int .u8 (x.toNat : Int)
def cellsOf (bs : List UInt8) : List Value := bs.map cellOf
def rowOf (bs : List UInt8) : Array Value := (cellsOf bs).toArray
def zeros (n : Nat) : List UInt8 := List.replicate n 0

theorem cellsOf_length (bs : List UInt8) : (cellsOf bs).length = bs.length := by simp [cellsOf]
theorem rowOf_size (bs : List UInt8) : (rowOf bs).size = bs.length := by simp [rowOf, cellsOf]
theorem rowOf_toList (bs : List UInt8) : (rowOf bs).toList = cellsOf bs := by simp [rowOf]
theorem zeros_length (n : Nat) : (zeros n).length = n := by simp [zeros]
theorem cellsOf_append (a b : List UInt8) : cellsOf (a ++ b) = cellsOf a ++ cellsOf b := by simp [cellsOf]
theorem cellsOf_take (a : List UInt8) (n : Nat) : cellsOf (a.take n) = (cellsOf a).take n := by simp [cellsOf, List.map_take]
theorem cellsOf_drop (a : List UInt8) (n : Nat) : cellsOf (a.drop n) = (cellsOf a).drop n := by simp [cellsOf, List.map_drop]
theorem cellsOf_one {bs : List UInt8} : ∀ v ∈ cellsOf bs, v.oneCell' = true := by
  intro v hv
  simp only [cellsOf, List.mem_map] at hv
  obtain ⟨x, _, rfl⟩ := hv
  rfl
theorem rowOf_get (bs : List UInt8) (j : Nat) (h : j < bs.length) : (rowOf bs)[j]? = some (.int .u8 (bs[j].toNat : Int)) := by
  simp [rowOf, cellsOf, cellOf, h]

theorem addr_add (h o j : Nat) : (⟨h, o, none⟩ : Addr).add j = ⟨h, o + j, none⟩ := by unfold Addr.add; split <;> simp_all
theorem made_row (n : Nat) : madeCells (Value.int .u8 0).cells (n * 1) = rowOf (zeros n) := by
  apply Array.ext
  · simp [size_madeCells, rowOf_size, zeros_length]
  · intro i h1 h2
    simp [madeCells, Value.cells, rowOf, cellsOf, zeros, cellOf, Nat.mod_one]

/-- All blocks of w but those in S are in w' as they were; the streams stand. -/
structure Keeps (w w' : World) (S : Nat → Prop) : Prop where
  os : w'.os = w.os
  tape : w'.tape = w.tape
  output : w'.output = w.output
  size : w.heap.size ≤ w'.heap.size
  block : ∀ k, k < w.heap.size → ¬ S k → w'.heap[k]? = w.heap[k]?

theorem Keeps.refl (w : World) (S : Nat → Prop) : Keeps w w S := ⟨rfl, rfl, rfl, Nat.le_refl _, fun _ _ _ => rfl⟩
theorem Keeps.trans {w w1 w2 : World} {S S1 : Nat → Prop} (h : Keeps w w1 S) (k : Keeps w1 w2 S1) (hS : ∀ i, i < w.heap.size → S1 i → S i) : Keeps w w2 S :=
  ⟨k.os.trans h.os, k.tape.trans h.tape, k.output.trans h.output, Nat.le_trans h.size k.size,
    fun i hi hn => (k.block i (Nat.lt_of_lt_of_le hi h.size) (fun x => hn (hS i hi x))).trans (h.block i hi hn)⟩
theorem Keeps.mono {w w1 : World} {S S1 : Nat → Prop} (h : Keeps w w1 S) (hS : ∀ i, i < w.heap.size → S i → S1 i) : Keeps w w1 S1 :=
  ⟨h.os, h.tape, h.output, h.size, fun i hi hn => h.block i hi (fun x => hn (hS i hi x))⟩
theorem Keeps.drew {w w1 : World} {S : Nat → Prop} (h : Keeps w w1 S) : Keeps w w1.drew S := ⟨h.os, h.tape, h.output, h.size, h.block⟩
theorem Keeps.alloc {w w1 : World} {S : Nat → Prop} (h : Keeps w w1 S) (o : Obj) : Keeps w (w1.alloc o) S :=
  h.trans (S1 := fun _ => False) ⟨rfl, rfl, rfl, by simp, fun k hk _ => Below.heap_alloc _ _ _ hk⟩ (fun _ _ x => x.elim)
theorem heap_setRow_other (w : World) (g : Nat) (cs : Array Value) (k : Nat) (h : k ≠ g) : (w.setRow g cs).heap[k]? = w.heap[k]? := by
  simp only [World.setRow, Array.getElem?_modify]
  rw [if_neg (by omega)]
theorem setRow_size (w : World) (g : Nat) (cs : Array Value) : (w.setRow g cs).heap.size = w.heap.size := by simp [World.setRow]
theorem Keeps.setRow {w w1 : World} {S : Nat → Prop} (h : Keeps w w1 S) (g : Nat) (hg : g < w.heap.size → S g) (cs : Array Value) : Keeps w (w1.setRow g cs) S :=
  h.trans (S1 := fun k => k = g) ⟨rfl, rfl, rfl, by simp [World.setRow], fun k _ hn => heap_setRow_other _ _ _ _ hn⟩ (fun i hi e => by subst e; exact hg hi)
theorem Keeps.setCell {w w1 : World} {S : Nat → Prop} (h : Keeps w w1 S) (p : Addr) (hg : p.block < w.heap.size → S p.block) (u : Value) : Keeps w (w1.setCell p u) S :=
  h.trans (S1 := fun k => k = p.block) ⟨rfl, rfl, rfl, by simp [World.setCell], fun k _ hn => Below.heap_setCell _ _ _ _ hn⟩ (fun i hi e => by subst e; exact hg hi)
theorem Keeps.below {w w1 : World} {S : Nat → Prop} {B : Nat} (h : Keeps w w1 S) (hB : B ≤ w.heap.size) (hS : ∀ i, i < B → ¬ S i) : Below B w w1 :=
  ⟨h.os, h.tape, h.output, h.size, fun k hk => h.block k (by omega) (hS k hk)⟩

theorem heap_lt {w : World} {k : Nat} {o : Obj} (h : w.heap[k]? = some o) : k < w.heap.size := (Array.getElem?_eq_some_iff.1 h).1
theorem heap_alloc_new (w : World) (o : Obj) : (w.alloc o).heap[w.heap.size]? = some o := by
  show (w.heap.push o)[w.heap.size]? = _
  simp
theorem heap_setRow_same {w : World} {g : Nat} {old cs : Array Value} {t : TypeId} {fr : Nat × Nat} (hg : w.heap[g]? = some (.cells old t fr)) : (w.setRow g cs).heap[g]? = some (.cells cs t fr) :=
  setRow_heap w g old cs t fr hg
theorem heap_setCell_zero {w : World} {b : Nat} {u v : Value} {t : TypeId} (hb : w.heap[b]? = some (.cells #[u] t)) : (w.setCell ⟨b, 0, none⟩ v).heap[b]? = some (.cells #[v] t) := by
  have hlt := heap_lt hb
  have hv := (Array.getElem?_eq_some_iff.1 hb).2
  simp only [World.setCell, Array.getElem?_modify]
  simp [hlt, hv]

/-- A memory: block b holds the one slice, block g the bytes and the room behind them. T, E: the struct's type, the byte's. -/
structure MemAt (T E : TypeId) (w : World) (b g : Nat) (bs sp : List UInt8) : Prop where
  hb : w.heap[b]? = some (.cells #[.slice (some ⟨g, 0, none⟩) bs.length (bs.length + sp.length)] T)
  hg : w.heap[g]? = some (.cells (rowOf (bs ++ sp)) E)
  hmax : bs.length + sp.length ≤ 134217728
  hne : b ≠ g

theorem MemAt.keeps {T E : TypeId} {w w1 : World} {b g : Nat} {bs sp : List UInt8} {S : Nat → Prop} (m : MemAt T E w b g bs sp) (k : Keeps w w1 S) (h1 : ¬ S b) (h2 : ¬ S g) : MemAt T E w1 b g bs sp :=
  ⟨(k.block b (heap_lt m.hb) h1).trans m.hb, (k.block g (heap_lt m.hg) h2).trans m.hg, m.hmax, m.hne⟩
theorem MemAt.drew {T E : TypeId} {w : World} {b g : Nat} {bs sp : List UInt8} (m : MemAt T E w b g bs sp) : MemAt T E w.drew b g bs sp := ⟨m.hb, m.hg, m.hmax, m.hne⟩
theorem MemAt.cell {T E : TypeId} {w : World} {b g : Nat} {bs sp : List UInt8} (m : MemAt T E w b g bs sp) : w.cell? ⟨b, 0, none⟩ = some (.slice (some ⟨g, 0, none⟩) bs.length (bs.length + sp.length)) := by
  simp [World.cell?, m.hb]
theorem MemAt.frozen {T E : TypeId} {w : World} {b g : Nat} {bs sp : List UInt8} (m : MemAt T E w b g bs sp) : w.frozen? ⟨b, 0, none⟩ = false := by
  simp [World.frozen?, m.hb]
theorem MemAt.gcell {T E : TypeId} {w : World} {b g : Nat} {bs sp : List UInt8} (m : MemAt T E w b g bs sp) (j : Nat) (h : j < bs.length) : w.cell? ⟨g, j, none⟩ = some (.int .u8 (bs[j].toNat : Int)) := by
  have := rowOf_get (bs ++ sp) j (by simp; omega)
  simp only [World.cell?, m.hg]
  simpa [List.getElem_append_left h] using this
theorem MemAt.gfrozen {T E : TypeId} {w : World} {b g : Nat} {bs sp : List UInt8} (m : MemAt T E w b g bs sp) (j : Nat) : w.frozen? ⟨g, j, none⟩ = false := by
  simp [World.frozen?, m.hg]

/-- Does the span lie inside? -/
def insideB (s : Nat) (off n : Int) : Bool := decide (0 ≤ off ∧ 0 ≤ n ∧ n ≤ s ∧ off ≤ s - n)
theorem insideB_true {s : Nat} {off n : Int} (h : insideB s off n = true) : 0 ≤ off ∧ 0 ≤ n ∧ n ≤ s ∧ off ≤ s - n := of_decide_eq_true h
theorem insideB_false {s : Nat} {off n : Int} (h : insideB s off n = false) : ¬ (0 ≤ off ∧ 0 ≤ n ∧ n ≤ s ∧ off ≤ s - n) := of_decide_eq_false h
theorem insideB_nat {s : Nat} {off n : Int} (h : insideB s off n = true) : ∃ o k : Nat, off = o ∧ n = k ∧ o + k ≤ s := by
  have := insideB_true h
  exact ⟨off.toNat, n.toNat, by omega, by omega, by omega⟩
theorem insideB_mk {s o k : Nat} (h : o + k ≤ s) : insideB s (o : Int) (k : Int) = true := by
  unfold insideB
  exact decide_eq_true (by omega)

/-- What New leaves. -/
def NewPost (T E : TypeId) (w : World) (n : Nat) (e : Ending) (w' : World) : Prop :=
  ∃ b g, w.heap.size ≤ b ∧ w.heap.size ≤ g ∧ e = .returned (.tuple #[.pointer (some ⟨b, 0, none⟩), .int .i64 0]) ∧ MemAt T E w' b g (zeros n) [] ∧ Keeps w w' (fun _ => False)
theorem newPost_mk (T E : TypeId) (w : World) (n : Nat) (h : n ≤ 134217728) : NewPost T E w n (.returned (.tuple #[.pointer (some ⟨w.heap.size + 1, 0, none⟩), .int .i64 0]))
    ((w.alloc (.cells (rowOf (zeros n)) E)).alloc (.cells #[.slice (some ⟨w.heap.size, 0, none⟩) n n] T)) := by
  refine ⟨w.heap.size + 1, w.heap.size, by omega, by omega, rfl, ⟨?_, ?_, ?_, by omega⟩, ((Keeps.refl _ _).alloc _).alloc _⟩
  · have := heap_alloc_new (w.alloc (.cells (rowOf (zeros n)) E)) (.cells #[.slice (some ⟨w.heap.size, 0, none⟩) n n] T)
    simpa [zeros_length] using this
  · rw [Below.heap_alloc _ _ _ (by simp), heap_alloc_new, List.append_nil]
  · simpa [zeros_length] using h

section
variable {P : Program}

/-- make of n bytes. -/
theorem run_make_bytes (w : World) (t e : TypeId) (hu : P.underlying t = some (.slice e)) (hi : (P.info? e).map (fun i => (i.zero, i.size, i.bytes)) = some (some (.int .u8 0), 1, 1)) (n : Nat) (hn : n ≤ 134217728) :
    (Instr.makeSlice t (.int .i64 (n : Int)) (.int .i64 (n : Int))).run P w = .ok (.slice (some ⟨w.heap.size, 0, none⟩) n n) (w.alloc (.cells (rowOf (zeros n)) e)) := by
  obtain ⟨i, h1, h2, h3, h4⟩ := info_parts hi
  have h := run_make (P := P) w t e i (.int .u8 0) hu h1 h2 .i64 .i64 (n : Int) (n : Int) (by omega) (by omega) (by rw [h4]; omega) (by omega)
  rw [h, h3]
  simp only [Int.toNat_natCast, made_row]

/-- make of l bytes with room for n. -/
theorem run_make_room (w : World) (t e : TypeId) (hu : P.underlying t = some (.slice e)) (hi : (P.info? e).map (fun i => (i.zero, i.size, i.bytes)) = some (some (.int .u8 0), 1, 1)) (l n : Nat) (hl : l ≤ n) (hn : n ≤ 134217728) :
    (Instr.makeSlice t (.int .i64 (l : Int)) (.int .i64 (n : Int))).run P w = .ok (.slice (some ⟨w.heap.size, 0, none⟩) l n) (w.alloc (.cells (rowOf (zeros n)) e)) := by
  obtain ⟨i, h1, h2, h3, h4⟩ := info_parts hi
  have h := run_make (P := P) w t e i (.int .u8 0) hu h1 h2 .i64 .i64 (l : Int) (n : Int) (by omega) (by omega) (by rw [h4]; omega) (by omega)
  rw [h, h3]
  simp only [Int.toNat_natCast, made_row]

/-- copy of k bytes cs into the row of bytes at g, from q on. -/
theorem run_copy_bytes (w : World) (t sT ty e : TypeId) (hu : P.underlying t = some (.slice e)) (hi : (P.info? e).map (fun i => (i.zero, i.size, i.bytes)) = some (some (.int .u8 0), 1, 1))
    (g q dLen dCap : Nat) (a : Addr) (sLen sCap : Nat) (cur cs : List UInt8) (hg : w.heap[g]? = some (.cells (rowOf cur) e)) (hn : cs.length = Nat.min sLen dLen)
    (hsrc : ∀ j (h : j < cs.length), w.cell? (a.add j) = some (.int .u8 (cs[j].toNat : Int))) (hfit : q + cs.length ≤ cur.length) :
    (Builtin.copy_ #[t, sT] ty #[.slice (some ⟨g, q, none⟩) dLen dCap, .slice (some a) sLen sCap]).run P w =
      .ok (goInt cs.length) (w.setRow g (rowOf (cur.take q ++ cs ++ cur.drop (q + cs.length)))) := by
  obtain ⟨i, h1, h2, h3, h4⟩ := info_parts hi
  have h := run_copy_row (P := P) w t sT ty e g q dLen dCap a sLen sCap (rowOf cur) e (cellsOf cs) hu (by simp [h1, h3]) hg (by rw [cellsOf_length, hn])
    (fun j v hj => by
      have hj' : j < cs.length := by have := (List.getElem?_eq_some_iff.1 hj).1; rwa [cellsOf_length] at this
      rw [hsrc j hj']
      simp [cellsOf, cellOf, hj'] at hj
      rw [← hj]) (by rw [cellsOf_length, rowOf_size]; exact hfit) cellsOf_one
  rw [h, cellsOf_length]
  have e : (List.take q (rowOf cur).toList ++ cellsOf cs ++ List.drop (q + cs.length) (rowOf cur).toList).toArray = rowOf (cur.take q ++ cs ++ cur.drop (q + cs.length)) := by
    rw [rowOf_toList, ← cellsOf_take, ← cellsOf_drop, ← cellsOf_append, ← cellsOf_append, rowOf]
  rw [e]

/-- The value of row[o : o+n]. -/
def spanVal (g cap o n : Nat) : Value := .slice (some ⟨g, if cap = o then 0 else o, none⟩) n (cap - o)
theorem spanVal_eq (g cap o n : Nat) : ∃ q, (q = o ∨ (q = 0 ∧ cap = o)) ∧ spanVal g cap o n = .slice (some ⟨g, q, none⟩) n (cap - o) := by
  unfold spanVal
  by_cases h : cap = o
  · exact ⟨0, Or.inr ⟨rfl, h⟩, by simp [h]⟩
  · exact ⟨o, Or.inl rfl, by simp [h]⟩
theorem run_sizeOf_byte (w : World) (e : TypeId) (hi : (P.info? e).map (fun i => (i.zero, i.size, i.bytes)) = some (some (.int .u8 0), 1, 1)) : (Go.sizeOf e).run P w = .ok 1 w := by
  obtain ⟨i, h1, h2, h3, h4⟩ := info_parts hi
  simp [Go.sizeOf, typeInfo, h1, h3]
theorem run_slice_span (w : World) (t e : TypeId) (ht : P.underlying t = some (.slice e)) (hi : (P.info? e).map (fun i => (i.zero, i.size, i.bytes)) = some (some (.int .u8 0), 1, 1)) (g len cap o n : Nat) (hh : o + n ≤ cap) :
    (Instr.slice t (.slice (some ⟨g, 0, none⟩) len cap) (some (.int .i64 (o : Int))) (some (.int .i64 ((o : Int) + (n : Int)))) none).run P w = .ok (spanVal g cap o n) w := by
  have ht' : P.underlying t = some (.slice (P.elem t)) := by simp [Program.elem, ht]
  have he : P.elem t = e := by simp [Program.elem, ht]
  rw [run_slice_lh w t _ _ _ ht' .i64 .i64 _ _ (by omega) (by omega) (by omega), he, run_sizeOf_byte w e hi]
  have e1 : ((o : Int) + (n : Int)).toNat = o + n := by omega
  by_cases h : cap = o
  · have : n = 0 := by omega
    subst this
    simp [Result.andThen, sliced, spanVal, h]
  · by_cases h0 : o = 0
    · subst h0
      simp [Result.andThen, sliced, Addr.add, spanVal, h]
    · simp [Result.andThen, sliced, Addr.add, spanVal, h, h0, e1]

end

/-- What Read leaves where the span lies inside. -/
def ReadPost (E : TypeId) (w : World) (bs : List UInt8) (o n : Nat) (e : Ending) (w' : World) : Prop :=
  ∃ h, w.heap.size ≤ h ∧ e = .returned (.tuple #[.slice (some ⟨h, 0, none⟩) n n, .int .i64 0]) ∧ w'.heap[h]? = some (.cells (rowOf ((bs.drop o).take n)) E) ∧ Keeps w w' (fun _ => False)
theorem readPost_mk (E : TypeId) (w : World) (bs : List UInt8) (o n : Nat) (hn : o + n ≤ bs.length) : ReadPost E w bs o n (.returned (.tuple #[.slice (some ⟨w.heap.size, 0, none⟩) n n, .int .i64 0]))
    ((w.alloc (.cells (rowOf (zeros n)) E)).setRow w.heap.size (rowOf ((zeros n).take 0 ++ (bs.drop o).take n ++ (zeros n).drop (0 + ((bs.drop o).take n).length)))) := by
  refine ⟨w.heap.size, Nat.le_refl _, rfl, ?_, ((Keeps.refl _ _).alloc _).setRow _ (fun h => absurd h (Nat.lt_irrefl _)) _⟩
  rw [heap_setRow_same (heap_alloc_new w (.cells (rowOf (zeros n)) E))]
  have e : (zeros n).drop (0 + ((bs.drop o).take n).length) = [] := by
    apply List.drop_eq_nil_of_le
    simp [zeros_length]
    omega
  rw [e]
  simp
/-- The bytes of a span, as cells. -/
theorem MemAt.span {T E : TypeId} {w : World} {b g : Nat} {bs sp : List UInt8} (m : MemAt T E w b g bs sp) {o n q : Nat} (hn : o + n ≤ bs.length) (hq : q = o ∨ (q = 0 ∧ bs.length + sp.length = o)) :
    ∀ j (h : j < ((bs.drop o).take n).length), w.cell? ((⟨g, q, none⟩ : Addr).add j) = some (.int .u8 (((bs.drop o).take n)[j].toNat : Int)) := by
  intro j h
  have hj : j < n := by simp at h; omega
  have hq' : q = o := by
    rcases hq with hq | ⟨_, hq⟩
    · exact hq
    · omega
  subst hq'
  rw [addr_add, m.gcell (q + j) (by omega)]
  simp

theorem read_copy {P : Program} (t sT : TypeId) {T : TypeId} (E : TypeId) (hu : P.underlying t = some (.slice E)) (hi : (P.info? E).map (fun i => (i.zero, i.size, i.bytes)) = some (some (.int .u8 0), 1, 1))
    {w : World} {b g : Nat} {bs sp : List UInt8} (m : MemAt T E w b g bs sp) {o n q : Nat} (hn : o + n ≤ bs.length) (hq : q = o ∨ (q = 0 ∧ bs.length + sp.length = o)) :
    ∃ w2, (∀ ty, (Builtin.copy_ #[t, sT] ty #[.slice (some ⟨w.heap.size, 0, none⟩) n n, .slice (some ⟨g, q, none⟩) n (bs.length + sp.length - o)]).run P (w.alloc (.cells (rowOf (zeros n)) E)) = .ok (goInt n) w2) ∧
      ReadPost E w bs o n (.returned (.tuple #[.slice (some ⟨w.heap.size, 0, none⟩) n n, .int .i64 0])) w2 := by
  have m1 : MemAt T E (w.alloc (.cells (rowOf (zeros n)) E)) b g bs sp := m.keeps ((Keeps.refl _ (fun _ => False)).alloc _) id id
  have hlen : ((bs.drop o).take n).length = n := by simp; omega
  refine ⟨_, fun ty => ?_, readPost_mk E w bs o n hn⟩
  have h := run_copy_bytes (P := P) (w.alloc (.cells (rowOf (zeros n)) E)) t sT ty E hu hi w.heap.size 0 n n ⟨g, q, none⟩ n (bs.length + sp.length - o) (zeros n) ((bs.drop o).take n)
    (heap_alloc_new _ _) (by rw [hlen]; exact (Nat.min_self n).symm) (m1.span hn hq) (by rw [hlen, zeros_length]; omega)
  rw [h, hlen]
end Go.Proofs.YtfpiibccggjjpaaDoor
/-
  Plain laws on parts that are laid one behind the other.
-/
namespace Go.Proofs.YtfpiibccggjjpaaDoor
open Go.RowKit

def splice (bs : List UInt8) (o : Nat) (x : List UInt8) : List UInt8 := bs.take o ++ x ++ bs.drop (o + x.length)
theorem splice_length {bs : List UInt8} {o : Nat} {x : List UInt8} (h : o + x.length ≤ bs.length) : (splice bs o x).length = bs.length := by
  simp [splice]; omega
theorem splice_nil (bs : List UInt8) (o : Nat) : splice bs o [] = bs := by simp [splice]
theorem splice_splice {bs : List UInt8} {o : Nat} {a x : List UInt8} (h : o + a.length + x.length ≤ bs.length) : splice (splice bs o a) (o + a.length) x = splice bs o (a ++ x) := by
  unfold splice
  have h1 : (bs.take o ++ a).length = o + a.length := by simp; omega
  rw [List.take_append_of_le_length (by omega), List.take_of_length_le (by omega), List.drop_append]
  rw [List.drop_of_length_le (l := List.take o bs ++ a) (by omega), h1, List.nil_append, List.drop_drop]
  simp only [List.append_assoc, List.length_append]
  congr 4
  omega
theorem splice_get {bs : List UInt8} {o : Nat} {x : List UInt8} (h : o + x.length ≤ bs.length) (p : Nat) :
    (splice bs o x)[p]? = if o ≤ p ∧ p < o + x.length then x[p - o]? else bs[p]? := by
  unfold splice
  by_cases h1 : p < o
  · rw [if_neg (by omega), List.append_assoc, List.getElem?_append_left (by simp; omega), List.getElem?_take_of_lt h1]
  · by_cases h2 : p < o + x.length
    · rw [if_pos ⟨by omega, h2⟩, List.append_assoc, List.getElem?_append_right (by simp; omega), List.getElem?_append_left (by simp; omega)]
      congr 1
      simp
      omega
    · rw [if_neg (by omega), List.getElem?_append_right (by simp; omega), List.getElem?_drop]
      congr 1
      simp
      omega

/-- The value v is a slice that holds the bytes x, outside of block g. -/
def PartAt (w : World) (g : Nat) (v : Value) (x : List UInt8) : Prop :=
  ∃ h o c, v = .slice (some ⟨h, o, none⟩) x.length c ∧ h < w.heap.size ∧ h ≠ g ∧ x.length ≤ 140737488355328 ∧ ∀ j (hj : j < x.length), w.cell? ⟨h, o + j, none⟩ = some (.int .u8 (x[j].toNat : Int))
theorem PartAt.keeps {w w1 : World} {g : Nat} {v : Value} {x : List UInt8} (p : PartAt w g v x) (k : Keeps w w1 (fun i => i = g)) : PartAt w1 g v x := by
  obtain ⟨h, o, c, hv, hl, hg, hx, hc⟩ := p
  exact ⟨h, o, c, hv, Nat.lt_of_lt_of_le hl k.size, hg, hx, fun j hj => (World.cell?_of_block (w := w) (k.block h hl hg)).trans (hc j hj)⟩
/-- Block pb holds the parts xs, outside of block g. -/
structure PartsAt (w : World) (g pb : Nat) (xs : List (List UInt8)) : Prop where
  hpb : pb < w.heap.size
  hne : pb ≠ g
  part : ∀ j (hj : j < xs.length), ∃ v, w.cell? ⟨pb, j, none⟩ = some v ∧ PartAt w g v xs[j]
theorem PartsAt.keeps {w w1 : World} {g pb : Nat} {xs : List (List UInt8)} (p : PartsAt w g pb xs) (k : Keeps w w1 (fun i => i = g)) : PartsAt w1 g pb xs := by
  refine ⟨Nat.lt_of_lt_of_le p.hpb k.size, p.hne, fun j hj => ?_⟩
  obtain ⟨v, hv, hp⟩ := p.part j hj
  exact ⟨v, (World.cell?_of_block (w := w) (k.block pb p.hpb p.hne)).trans hv, hp.keeps k⟩

def catTo (xs : List (List UInt8)) (k : Nat) : List UInt8 := (xs.take k).flatten
theorem catTo_zero (xs : List (List UInt8)) : catTo xs 0 = [] := by simp [catTo]
theorem catTo_succ (xs : List (List UInt8)) (k : Nat) (h : k < xs.length) : catTo xs (k + 1) = catTo xs k ++ xs[k] := by
  unfold catTo
  rw [List.take_succ_eq_append_getElem h, List.flatten_append]
  simp
theorem catTo_all (xs : List (List UInt8)) : catTo xs xs.length = xs.flatten := by simp [catTo]
theorem catTo_le (xs : List (List UInt8)) (k : Nat) : (catTo xs k).length ≤ xs.flatten.length := by
  have h : xs.flatten.length = (xs.take k).flatten.length + (xs.drop k).flatten.length := by rw [← List.length_append, ← List.flatten_append, List.take_append_drop]
  unfold catTo
  omega

/-- All parts, one behind the other; do so many bytes from o on fit into s? (Plain names: the walk does not look into them.) -/
def catAll (xs : List (List UInt8)) : List UInt8 := xs.flatten
def fitsB (s o t : Nat) : Bool := decide (o + t ≤ s)
theorem catTo_all' (xs : List (List UInt8)) : catTo xs xs.length = catAll xs := catTo_all xs
theorem catTo_le' (xs : List (List UInt8)) (k : Nat) : (catTo xs k).length ≤ (catAll xs).length := catTo_le xs k
theorem fitsB_true {s o t : Nat} (h : o + t ≤ s) : fitsB s o t = true := decide_eq_true h
theorem fitsB_false {s o t : Nat} (h : s < o + t) : fitsB s o t = false := decide_eq_false (by omega)

section
variable {P : Program}

def tailVal (g len cap l : Nat) : Value := .slice (some ⟨g, if cap = l then 0 else l, none⟩) (len - l) (cap - l)
theorem tailVal_eq (g len cap l : Nat) : ∃ q, (q = l ∨ (q = 0 ∧ cap = l)) ∧ tailVal g len cap l = .slice (some ⟨g, q, none⟩) (len - l) (cap - l) := by
  unfold tailVal
  by_cases h : cap = l
  · exact ⟨0, Or.inr ⟨rfl, h⟩, by simp [h]⟩
  · exact ⟨l, Or.inl rfl, by simp [h]⟩
theorem run_slice_tail (w : World) (t e : TypeId) (ht : P.underlying t = some (.slice e)) (hi : (P.info? e).map (fun i => (i.zero, i.size, i.bytes)) = some (some (.int .u8 0), 1, 1)) (g len cap l : Nat) (hl : l ≤ len) :
    (Instr.slice t (.slice (some ⟨g, 0, none⟩) len cap) (some (.int .i64 (l : Int))) none none).run P w = .ok (tailVal g len cap l) w := by
  have ht' : P.underlying t = some (.slice (P.elem t)) := by simp [Program.elem, ht]
  have he : P.elem t = e := by simp [Program.elem, ht]
  rw [run_slice_l w t _ _ _ ht' .i64 _ (by omega) (by omega), he, run_sizeOf_byte w e hi]
  by_cases h : cap = l
  · simp [Result.andThen, sliced, tailVal, h]
  · by_cases h0 : l = 0
    · subst h0
      simp [Result.andThen, sliced, Addr.add, tailVal, h]
    · simp [Result.andThen, sliced, Addr.add, tailVal, h, h0]

/-- A copy into the memory's bytes from l on. -/
theorem mem_copy (t sT : TypeId) {T : TypeId} (E : TypeId) (hu : P.underlying t = some (.slice E)) (hi : (P.info? E).map (fun i => (i.zero, i.size, i.bytes)) = some (some (.int .u8 0), 1, 1))
    {w : World} {b g : Nat} {bs sp : List UInt8} (m : MemAt T E w b g bs sp) {l q dLen dCap sLen sCap : Nat} {a : Addr} (x : List UInt8) (hl : l + x.length ≤ bs.length) (hq : q = l ∨ (q = 0 ∧ bs.length + sp.length = l)) (hn : x.length = Nat.min sLen dLen)
    (hsrc : ∀ j (h : j < x.length), w.cell? (a.add j) = some (.int .u8 (x[j].toNat : Int))) :
    ∃ w2, (∀ ty, (Builtin.copy_ #[t, sT] ty #[.slice (some ⟨g, q, none⟩) dLen dCap, .slice (some a) sLen sCap]).run P w = .ok (goInt x.length) w2) ∧ MemAt T E w2 b g (splice bs l x) sp ∧ Keeps w w2 (fun i => i = g) := by
  have hfit : q + x.length ≤ (bs ++ sp).length := by
    rw [List.length_append]
    rcases hq with hq | ⟨hq, hz⟩ <;> omega
  have hr := fun ty => run_copy_bytes (P := P) w t sT ty E hu hi g q dLen dCap a sLen sCap (bs ++ sp) x m.hg hn hsrc hfit
  have hrow : (bs ++ sp).take q ++ x ++ (bs ++ sp).drop (q + x.length) = splice bs l x ++ sp := by
    rcases hq with hq | ⟨hq, hz⟩
    · subst hq
      unfold splice
      rw [List.take_append_of_le_length (by omega), List.drop_append_of_le_length hl]
      simp
    · have h0 : x = [] := List.eq_nil_of_length_eq_zero (by omega)
      subst h0
      simp [splice_nil]
  refine ⟨_, hr, ⟨?_, ?_, ?_, m.hne⟩, (Keeps.refl w (fun i => i = g)).setRow g (fun _ => rfl) _⟩
  · rw [heap_setRow_other _ _ _ _ m.hne, m.hb, splice_length hl]
  · rw [heap_setRow_same m.hg, hrow]
  · rw [splice_length hl]; exact m.hmax

/-- A text as a new list of bytes. -/
theorem bytes_of (w : World) (src dst e : TypeId) (s : ByteArray) (hs : P.underlying src = some .string) (hd : P.underlying dst = some (.slice e)) (he : P.underlying e = some (.int .u8)) :
    ∃ w2 c fz, (convert src dst (.string s)).run P w = .ok (.slice (some ⟨w.heap.size, 0, none⟩) s.size c) w2 ∧ Keeps w w2 (fun _ => False) ∧ w2.heap.size = w.heap.size + 1 ∧
      w2.heap[w.heap.size]? = some (.cells (rowOf (s.data.toList ++ zeros (c - s.size))) e fz) := by
  have h := run_bytes_of_string (P := P) w src dst e s hs hd he
  have hrow : ∀ c, bytesRow s c = rowOf (s.data.toList ++ zeros (c - s.size)) := fun c => by
    apply Array.ext'
    simp [bytesRow, rowOf, cellsOf, zeros, cellOf]
  refine ⟨_, _, ((bytesRow s (grownCap w s.size 0 e)).size, (bytesRow s (grownCap w s.size 0 e)).size + 1), h, ((Keeps.refl _ _).drew).alloc _, by simp, ?_⟩
  rw [← hrow]
  exact heap_alloc_new w.drew _
theorem part_of_row {w : World} {g h : Nat} {x y : List UInt8} {e : TypeId} {fz : Nat × Nat} {c : Nat} (hr : w.heap[h]? = some (.cells (rowOf (x ++ y)) e fz)) (hg : h ≠ g) (hx : x.length ≤ 140737488355328) :
    PartAt w g (.slice (some ⟨h, 0, none⟩) x.length c) x := by
  refine ⟨h, 0, c, rfl, heap_lt hr, hg, hx, fun j hj => ?_⟩
  have := rowOf_get (x ++ y) j (by simp; omega)
  simp only [World.cell?, hr]
  simpa [List.getElem_append_left hj] using this
theorem byte_get (s : ByteArray) (q : Nat) (h : q < s.size) (h' : q < s.data.toList.length) : s.data.toList[q] = s[q]'h := by
  simp only [Array.getElem_toList]
  rfl
theorem wrap_byte (x : UInt8) : IntKind.i64.wrap (x.toNat : Int) = (x.toNat : Int) := by
  have := x.toNat_lt
  rw [IntKind.wrap_i64]
  omega
theorem catAll_one (x : List UInt8) : catAll [x] = x := by simp [catAll]
theorem splice_zeros (x : List UInt8) (n : Nat) : splice (zeros n) 0 x = x ++ zeros (n - x.length) := by
  simp [splice, zeros]
end
end Go.Proofs.YtfpiibccggjjpaaDoor
/-
  Plain laws on stores into a memory's bytes.
-/
namespace Go.Proofs.YtfpiibccggjjpaaDoor
open Go.RowKit

theorem splice_set {bs : List UInt8} {o k : Nat} {u : UInt8} {x : List UInt8} (hx : x.length = k) (h : o + k < bs.length) : (splice bs o x).set (o + k) u = splice bs o (x ++ [u]) := by
  subst hx
  apply List.ext_getElem?
  intro p
  have hl : (x ++ [u]).length = x.length + 1 := by simp
  have hA := splice_get (bs := bs) (o := o) (x := x ++ [u]) (by omega) p
  have hB := splice_get (bs := bs) (o := o) (x := x) (by omega) p
  rw [hl] at hA
  rw [List.getElem?_set, splice_length (by omega), hA]
  by_cases hp : o + x.length = p
  · subst hp
    rw [if_pos rfl, if_pos h, if_pos (by omega), show o + x.length - o = x.length from by omega, List.getElem?_append_right (Nat.le_refl _)]
    simp
  · rw [if_neg hp, hB]
    by_cases h1 : o ≤ p ∧ p < o + x.length
    · rw [if_pos h1, if_pos (by omega), List.getElem?_append_left (by omega)]
    · rw [if_neg h1, if_neg (by omega)]

theorem MemAt.gcell_any {T E : TypeId} {w : World} {b g : Nat} {bs sp : List UInt8} (m : MemAt T E w b g bs sp) (j : Nat) (h : j < bs.length) : ∃ v, w.cell? ⟨g, j, none⟩ = some v := ⟨_, m.gcell j h⟩

/-- One byte is stored. -/
theorem MemAt.store {T E : TypeId} {w : World} {b g : Nat} {bs sp : List UInt8} (m : MemAt T E w b g bs sp) (j : Nat) (h : j < bs.length) (u : UInt8) :
    MemAt T E (w.setCell ⟨g, j, none⟩ (.int .u8 (u.toNat : Int))) b g (bs.set j u) sp ∧ Keeps w (w.setCell ⟨g, j, none⟩ (.int .u8 (u.toNat : Int))) (fun i => i = g) := by
  refine ⟨⟨?_, ?_, by simpa using m.hmax, m.hne⟩, (Keeps.refl w (fun i => i = g)).setCell _ (fun _ => rfl) _⟩
  · rw [Below.heap_setCell _ _ _ _ m.hne, m.hb]
    simp
  · rw [setCell_eq_setRow w g j _ E (0, 0) _ m.hg, heap_setRow_same m.hg]
    congr 2
    apply Array.ext'
    rw [Array.toList_setIfInBounds, rowOf_toList, rowOf_toList]
    simp only [cellsOf, List.map_append, List.map_set]
    rw [List.set_append_left _ _ (by simpa using h)]
    rfl

section
variable {P : Program}
/-- clear of a span. -/
theorem mem_clear (t : TypeId) {T : TypeId} (E : TypeId) (hu : P.underlying t = some (.slice E)) (hi : (P.info? E).map (fun i => (i.zero, i.size, i.bytes)) = some (some (.int .u8 0), 1, 1))
    {w : World} {b g : Nat} {bs sp : List UInt8} (m : MemAt T E w b g bs sp) {l q n c : Nat} (hl : l + n ≤ bs.length) (hq : q = l ∨ (q = 0 ∧ bs.length + sp.length = l)) :
    ∃ w2, (∀ ty, (Builtin.clear_ #[t] ty #[.slice (some ⟨g, q, none⟩) n c]).run P w = .ok (.tuple #[]) w2) ∧ MemAt T E w2 b g (splice bs l (zeros n)) sp ∧ Keeps w w2 (fun i => i = g) := by
  by_cases hn : n = 0
  · subst hn
    refine ⟨w, fun ty => ?_, ?_, Keeps.refl _ _⟩
    · simp [Builtin.clear_, run_underlying hu]
    · rw [show zeros 0 = [] from rfl, splice_nil]
      exact m
  · have hq' : q = l := by
      rcases hq with hq | ⟨_, hz⟩
      · exact hq
      · omega
    subst hq'
    obtain ⟨i, h1, h2, h3, h4⟩ := info_parts hi
    have hv : ∀ w, (zeroValue E).run P w = .ok (.int .u8 0) w := fun w => by simp [zeroValue, typeInfo, h1, h2]
    have hzc : (Builtin.zeroCells (Value.int .u8 0).cells n).toList = cellsOf (zeros n) := by
      simp [Builtin.zeroCells, Value.cells, cellsOf, zeros, cellOf]
      apply List.ext_getElem
      · simp
      · intro i h1 h2
        simp [Nat.mod_one]
    have hst := run_storeCells_at P g q E (cellsOf (zeros n)) 0 (rowOf (bs ++ sp)) w m.hg (by simp only [cellsOf_length, zeros_length, rowOf_size, List.length_append]; omega) cellsOf_one
    obtain ⟨n', rfl⟩ : ∃ n', n = n' + 1 := ⟨n - 1, by omega⟩
    have hrow : ((rowOf (bs ++ sp)).toList.take (q + 0) ++ cellsOf (zeros (n' + 1)) ++ (rowOf (bs ++ sp)).toList.drop (q + 0 + (cellsOf (zeros (n' + 1))).length)).toArray = rowOf (splice bs q (zeros (n' + 1)) ++ sp) := by
      rw [rowOf_toList, Nat.add_zero, cellsOf_length, ← cellsOf_take, ← cellsOf_drop, ← cellsOf_append, ← cellsOf_append, rowOf]
      congr 2
      unfold splice
      rw [zeros_length, List.take_append_of_le_length (by omega), List.drop_append_of_le_length hl]
      simp
    rw [hrow] at hst
    have hz : (zeros (n' + 1)).length = n' + 1 := zeros_length _
    refine ⟨w.setRow g (rowOf (splice bs q (zeros (n' + 1)) ++ sp)), fun ty => ?_, ⟨?_, ?_, ?_, m.hne⟩, (Keeps.refl w (fun i => i = g)).setRow g (fun _ => rfl) _⟩
    · simp only [Builtin.clear_]
      simp [run_underlying hu, hv, hzc, hst]
    · rw [heap_setRow_other _ _ _ _ m.hne, m.hb, splice_length (by rw [hz]; exact hl)]
    · rw [heap_setRow_same m.hg]
    · rw [splice_length (by rw [hz]; exact hl)]; exact m.hmax
end
end Go.Proofs.YtfpiibccggjjpaaDoor
/-
  Plain laws on lists that are appended to one by one: where each lies, and what stays.
-/
namespace Go.Proofs.YtfpiibccggjjpaaDoor
open Go.RowKit

theorem Keeps.ofGrown {w w' : World} {row : Option Nat} (h : w.grownBy w' row) : Keeps w w' (fun k => row = some k) :=
  ⟨h.os, h.tape, h.output, h.size, fun k hk hn => h.block k hk (fun e => hn e.symm)⟩
/-- An owned row stays owned where its block stays. -/
theorem ownsRow_keeps {w w' : World} {base : Nat} {e : TypeId} {size : Nat} {v : Value} {n : Nat} {xs : List Value} {S : Nat → Prop} (h : w.ownsRow base e size v n xs) (k : Keeps w w' S) (hS : ∀ g, v.ownBlock = some g → ¬ S g) : w'.ownsRow base e size v n xs := by
  obtain ⟨h1, h2⟩ := h
  refine ⟨h1, ?_⟩
  rcases h2 with h2 | ⟨g, cap, cur, hv, hb, hg, r⟩
  · exact Or.inl h2
  · refine Or.inr ⟨g, cap, cur, hv, hb, ?_, r⟩
    rw [k.block g (heap_lt hg) (hS g (by rw [hv]; rfl))]
    exact hg
theorem ownsRow_drew {w : World} {base : Nat} {e : TypeId} {size : Nat} {v : Value} {n : Nat} {xs : List Value} (h : w.ownsRow base e size v n xs) : w.drew.ownsRow base e size v n xs := h
/-- A row's block: its elements' type, that it is there. -/
theorem ownsRow_block {w : World} {base : Nat} {e : TypeId} {size : Nat} {v : Value} {n : Nat} {xs : List Value} (h : w.ownsRow base e size v n xs) {g : Nat} (hv : v.ownBlock = some g) : base ≤ g ∧ ∃ cur, w.heap[g]? = some (.cells cur e (0, 0)) := by
  rcases h.2 with ⟨h2, _⟩ | ⟨g', cap, cur, h2, hb, hg, _⟩
  · rw [h2] at hv; cases hv
  · rw [h2] at hv
    have : g' = g := by simpa [Value.ownBlock] using hv
    subst this
    exact ⟨hb, cur, hg⟩

section
variable {P : Program}
/-- One element is appended: the element's cell lies in block h. -/
theorem append_one (t e : TypeId) (z : Value) (bytes : Nat) (ht : P.underlying t = some (.slice e)) (hi : (P.info? e).map (fun i => (i.zero, i.size, i.bytes)) = some (some z, 1, bytes)) (hz1 : z.cells.size = 1)
    {w : World} {base : Nat} {v : Value} {n : Nat} {xs : List Value} (hown : w.ownsRow base e 1 v n xs) {h : Nat} {u : Value} {ut : TypeId} {fz : Nat × Nat} (hu : w.heap[h]? = some (.cells #[u] ut fz)) (h1 : u.oneCell' = true)
    (hbytes : (n + 1) * bytes ≤ 140737488355328) (hbn : n + 1 ≤ maxLen) (hbase : base ≤ w.heap.size) :
    ∃ g cap w', (∀ ty, (Builtin.append_ #[t, t] ty #[v, .slice (some ⟨h, 0, none⟩) 1 1]).run P w = .ok (.slice (some ⟨g, 0, none⟩) (n + 1) cap) w') ∧
      w'.ownsRow base e 1 (.slice (some ⟨g, 0, none⟩) (n + 1) cap) (n + 1) (xs ++ [u]) ∧ Keeps w w' (fun k => v.ownBlock = some k) ∧ (v.ownBlock = some g ∨ g = w.heap.size) := by
  obtain ⟨i, hi1, hi2, hi3, hi4⟩ := info_parts hi
  obtain ⟨g, cap, w', hr, h2, h3, h4, _⟩ := run_append_lies (P := P) w t 0 base e i z 1 bytes ht hi1 hi2 hi3 hi4 hz1 (by omega) v n xs hown ⟨h, 0, none⟩ 1 1 [u] rfl
    (fun j x hj => by
      match j, hj with
      | 0, hj =>
        simp at hj
        subst hj
        rw [addr_add]
        simp [World.cell?, hu]) (fun x hx => by simp at hx; subst hx; exact h1) (by omega) hbn hbytes hbase w.heap.size rfl
  exact ⟨g, cap, w', fun ty => hr, h2, Keeps.ofGrown h3, h4⟩

/-- A text as a new list of bytes: the room behind it may be written. -/
theorem bytes_of_room (w : World) (src dst e : TypeId) (s : ByteArray) (hs : P.underlying src = some .string) (hd : P.underlying dst = some (.slice e)) (he : P.underlying e = some (.int .u8)) :
    ∃ w2 c fz, (convert src dst (.string s)).run P w = .ok (.slice (some ⟨w.heap.size, 0, none⟩) s.size c) w2 ∧ Keeps w w2 (fun _ => False) ∧ w2.heap.size = w.heap.size + 1 ∧ s.size ≤ c ∧ c ≤ fz.1 ∧
      w2.heap[w.heap.size]? = some (.cells (rowOf (s.data.toList ++ zeros (c - s.size))) e fz) := by
  have h := run_bytes_of_string (P := P) w src dst e s hs hd he
  have hge := grownCap_ge w s.size 0 e
  have hrow : ∀ c, bytesRow s c = rowOf (s.data.toList ++ zeros (c - s.size)) := fun c => by
    apply Array.ext'
    simp [bytesRow, rowOf, cellsOf, zeros, cellOf]
  refine ⟨_, _, ((bytesRow s (grownCap w s.size 0 e)).size, (bytesRow s (grownCap w s.size 0 e)).size + 1), h, ((Keeps.refl _ _).drew).alloc _, by simp, hge, ?_, ?_⟩
  · rw [hrow, rowOf_size]
    simp [zeros_length]
    omega
  · rw [← hrow]
    exact heap_alloc_new w.drew _

/-- One byte behind a list of bytes. -/
theorem append_byte (t E : TypeId) (ht : P.underlying t = some (.slice E)) (hi : (P.info? E).map (fun i => (i.zero, i.size, i.bytes)) = some (some (.int .u8 0), 1, 1))
    {w : World} {h p n c : Nat} {x y : List UInt8} {fz fp : Nat × Nat} {ut : TypeId} {u : UInt8} (hr : w.heap[h]? = some (.cells (rowOf (x ++ y)) E fz)) (hn : n = x.length) (hy : x.length + y.length = c) (hfz : c ≤ fz.1) (hu : w.heap[p]? = some (.cells #[.int .u8 (u.toNat : Int)] ut fp))
    (hx : x.length ≤ 1099511627776) :
    ∃ g c2 w2 y2 f2, (∀ ty, (Builtin.append_ #[t, t] ty #[.slice (some ⟨h, 0, none⟩) n c, .slice (some ⟨p, 0, none⟩) 1 1]).run P w = .ok (.slice (some ⟨g, 0, none⟩) (n + 1) c2) w2) ∧
      w2.heap[g]? = some (.cells (rowOf (x ++ [u] ++ y2)) E f2) ∧ Keeps w w2 (fun k => k = h) ∧ (g = h ∨ g = w.heap.size) ∧ n + 1 ≤ c2 ∧ (f2 = (0, 0) ∨ n + 1 ≤ f2.1) := by
  subst hn
  obtain ⟨i, h1, h2, h3, h4⟩ := info_parts hi
  have hsrc : ∀ j v, [Value.int .u8 (u.toNat : Int)][j]? = some v → w.cell? ((⟨p, 0, none⟩ : Addr).add j) = some v := fun j v hj => by
    match j, hj with
    | 0, hj =>
      simp at hj
      subst hj
      rw [addr_add]
      simp [World.cell?, hu]
  by_cases hroom : x.length + 1 ≤ c
  · have hf := run_firstCells_some (P := P) w i.size 1 ⟨p, 0, none⟩ 1 1 [Value.int .u8 (u.toNat : Int)] (by rw [h3]; rfl) hsrc
    have hyl : 0 < y.length := by omega
    have hst := run_storeCells_cells (P := P) h (x.length * i.size) [Value.int .u8 (u.toNat : Int)] 0 w
      (fun j hj => by
        have hj0 : j = 0 := by simpa using hj
        subst hj0
        rw [h3]
        have := rowOf_get (x ++ y) (x.length * 1 + 0 + 0) (by simp; omega)
        simp only [World.cell?, hr]
        simp only [Option.isSome_none, Bool.false_eq_true, if_false]
        rw [this]
        rfl)
      (fun j hj => by
        have hj0 : j = 0 := by simpa using hj
        subst hj0
        simp only [World.frozen?, hr]
        rw [Bool.and_eq_false_iff]
        left
        rw [decide_eq_false_iff_not, h3]
        omega) (fun v hv => by simp at hv; subst hv; rfl)
    simp only [Nat.add_zero] at hst
    refine ⟨h, c, w.setCell ⟨h, x.length * i.size, none⟩ (.int .u8 (u.toNat : Int)), y.drop 1, fz, fun ty => ?_, ?_, ?_, Or.inl rfl, hroom, Or.inr (by omega)⟩
    · simp [Builtin.append_, run_underlying ht, sizeOf, typeInfo, h1, Builtin.lenOf, hroom, hf, Addr.add_lit, hst]
      rfl
    · rw [h3, Nat.mul_one, setCell_eq_setRow w h x.length _ E fz _ hr, heap_setRow_same hr]
      congr 2
      apply Array.ext'
      rw [Array.toList_setIfInBounds, rowOf_toList, rowOf_toList]
      obtain ⟨y0, yr, rfl⟩ : ∃ a b, y = a :: b := by
        cases y with
        | nil => simp at hyl
        | cons a b => exact ⟨a, b, rfl⟩
      simp [cellsOf, cellOf]
    · exact (Keeps.refl w (fun k => k = h)).setCell ⟨h, x.length * i.size, none⟩ (fun _ => rfl) _
  · have hcx : c = x.length := by omega
    have hy0 : y = [] := List.eq_nil_of_length_eq_zero (by omega)
    subst hy0
    have holds : ∀ j v, (cellsOf x)[j]? = some v → w.cell? ((⟨h, 0, none⟩ : Addr).add j) = some v := fun j v hj => by
      rw [addr_add, Nat.zero_add]
      simp only [World.cell?, hr]
      simpa [rowOf] using hj
    have hg := fun ty => run_append_grow (P := P) w t ty E i (.int .u8 0) ht h1 h2 ⟨h, 0, none⟩ x.length c (cellsOf x) (by rw [h3, cellsOf_length, Nat.mul_one]) holds ⟨p, 0, none⟩ 1 1 [Value.int .u8 (u.toNat : Int)] (by rw [h3]; rfl) hsrc (by omega) (by omega)
      (by have := nextslicecap_le (need := x.length + 1) (old := c) (by omega); rw [h4]; omega)
    refine ⟨w.heap.size, _, _, zeros (grownCap w (x.length + 1) c E - (x.length + 1)), (0, 0), hg, ?_, ((Keeps.refl _ _).drew).alloc _, Or.inr rfl, grownCap_ge w (x.length + 1) c E, Or.inl rfl⟩
    have hnew := heap_alloc_new w.drew (.cells ((cellsOf x).toArray ++ [Value.int .u8 (u.toNat : Int)].toArray ++ Builtin.zeroCells (Value.int .u8 0).cells (grownCap w (x.length + 1) c E - (x.length + 1))) E)
    refine Eq.trans hnew ?_
    congr 2
    apply Array.ext'
    rw [rowOf_toList]
    simp [cellsOf, cellOf, zeros, Builtin.zeroCells, Value.cells]
    apply List.ext_getElem
    · simp
    · intro j a b
      simp [Nat.mod_one]
end
end Go.Proofs.YtfpiibccggjjpaaDoor
/-
  script: texts of bytes, numbers and answers, as data; plain laws.
-/
namespace Go.Proofs.YtfpiibccggjjpaaDoor
open Go.RowKit
set_option linter.unusedVariables false

/-- A fact that the walk does not look into. -/
def Hid (p : Prop) : Prop := p
theorem hide {p : Prop} (h : p) : Hid p := h
theorem Hid.out {p : Prop} (h : Hid p) : p := h

def strOf (x : List UInt8) : ByteArray := ⟨x.toArray⟩
theorem strOf_data (x : List UInt8) : (strOf x).data.toList = x := by simp [strOf]
theorem strOf_self (s : ByteArray) : strOf s.data.toList = s := by simp [strOf]
theorem strOf_append (x y : List UInt8) : strOf x ++ strOf y = strOf (x ++ y) := by
  apply ByteArray.ext
  simp [strOf]
theorem run_text (w : World) (a : Addr) (c n : Nat) (x : List UInt8) (hn : x.length = n) (h : ∀ j (hj : j < x.length), w.cell? (a.add j) = some (.int .u8 (x[j].toNat : Int))) :
    (convert 54 9 (.slice (some a) n c)).run Tryd.prog w = .ok (.string (strOf x)) w := by
  subst hn
  exact run_convert_bytes_back (P := Tryd.prog) w 54 9 5 a c x Tryd.underlying54 Tryd.underlying5 Tryd.underlying9 h
theorem app_run {P : Program} (w : World) {ops : Array Oper} {rest : List Oper} {o : Oper} {a : Act} {Q : Exit → Act → World → Prop}
    (hgd : o.guard = none) (s x : Operand) (t : TypeId) (hop : o.op = Op.call { callee := Callee.builtin Builtin.append, args := #[s, x], argTypes := #[t, t] }) {v u v' : Value} {w' : World} (hs : a.eval s = v) (hx : a.eval x = u)
    (hrun : ∀ ty, (Builtin.append_ #[t, t] ty #[v, u]).run P w = .ok v' w') (hK : wpList P ops Q rest (a.put o.dst v') w') : wpList P ops Q (o :: rest) a w := by
  refine wpList_plain hgd fun K hK' => ?_
  unfold Oper.wp
  simp [execOp, hop, resolve, invoke, builtin, hs, hx, hrun, Result.andThen]
  exact hK' _ _ hK

/-- One digit of sixteen. -/
def hexC (v : Nat) : UInt8 := if v < 10 then UInt8.ofNat (48 + v) else UInt8.ofNat (87 + v)
def hexD (x : UInt8) : List UInt8 := [hexC (x.toNat / 16), hexC (x.toNat % 16)]
def hexL (s : List UInt8) : List UInt8 := s.flatMap hexD
/-- Bytes as they are told. -/
def bytesD (s : ByteArray) : ByteArray := if s.data.toList = [] then ⟨#[45]⟩ else strOf (hexL s.data.toList)
theorem hexL_length (s : List UInt8) : (hexL s).length = 2 * s.length := by
  induction s with
  | nil => rfl
  | cons x r ih =>
    unfold hexL at ih ⊢
    rw [List.flatMap_cons, List.length_append, ih, List.length_cons]
    simp [hexD]
    omega
theorem hexL_take {s : List UInt8} {i : Nat} (h : i < s.length) : hexL (s.take (i + 1)) = hexL (s.take i) ++ hexD s[i] := by
  unfold hexL
  rw [List.take_succ_eq_append_getElem h, List.flatMap_append]
  simp
theorem hexC_val {v : Nat} (h : v < 16) : (hexC v).toNat = if v < 10 then 48 + v else 87 + v := by
  unfold hexC
  split <;> simp <;> omega
/-- A number as it is told. -/
def numD (n : Int) : ByteArray := strOf (Lib.itoa n)
theorem wr64 {n : Nat} (h : n ≤ 1099511627776) : wrap64 (n : Int) = (n : Int) ∧ IntKind.i64.wrap (n : Int) = (n : Int) := by
  constructor
  · unfold wrap64; omega
  · rw [IntKind.wrap_i64]; omega
theorem wr64s {n : Nat} (h : n ≤ 1099511627776) : wrap64 ((n : Int) + 1) = (n : Int) + 1 ∧ IntKind.i64.wrap ((n : Int) + 1) = (n : Int) + 1 := by
  constructor
  · unfold wrap64; omega
  · rw [IntKind.wrap_i64]; omega
end Go.Proofs.YtfpiibccggjjpaaDoor
/-
  script: the reference's hex and bytes.
-/
namespace Go.Proofs.YtfpiibccggjjpaaDoor
open Go.RowKit
set_option linter.unusedVariables false

theorem Tryd.infoE : (Tryd.prog.info? 5).map (fun i => (i.zero, i.size, i.bytes)) = some (some (.int .u8 0), 1, 1) := by kernel_rfl
end Go.Proofs.YtfpiibccggjjpaaDoor
/-
  script: the reference's bytes.
-/
namespace Go.Proofs.YtfpiibccggjjpaaDoor
open Go.RowKit
set_option linter.unusedVariables false
end Go.Proofs.YtfpiibccggjjpaaDoor
/-
  script: bytesText.
-/
namespace Go.Proofs.YtfpiibccggjjpaaDoor
open Go.RowKit
set_option linter.unusedVariables false

/-- Several elements are appended: their cells lie in block h. -/
theorem append_list {P : Program} (t e : TypeId) (z : Value) (bytes : Nat) (ht : P.underlying t = some (.slice e)) (hi : (P.info? e).map (fun i => (i.zero, i.size, i.bytes)) = some (some z, 1, bytes)) (hz1 : z.cells.size = 1)
    {w : World} {base : Nat} {v : Value} {n : Nat} {xs : List Value} (hown : w.ownsRow base e 1 v n xs) {h m : Nat} {us : List Value} {ut : TypeId} {fz : Nat × Nat} (hu : w.heap[h]? = some (.cells us.toArray ut fz)) (hm : us.length = m) (h0 : 0 < m) (h1 : ∀ u ∈ us, u.oneCell' = true) (c : Nat)
    (hbytes : (n + m) * bytes ≤ 140737488355328) (hbn : n + m ≤ maxLen) (hbase : base ≤ w.heap.size) :
    ∃ g cap w', (∀ ty, (Builtin.append_ #[t, t] ty #[v, .slice (some ⟨h, 0, none⟩) m c]).run P w = .ok (.slice (some ⟨g, 0, none⟩) (n + m) cap) w') ∧
      w'.ownsRow base e 1 (.slice (some ⟨g, 0, none⟩) (n + m) cap) (n + m) (xs ++ us) ∧ Keeps w w' (fun k => v.ownBlock = some k) ∧ (v.ownBlock = some g ∨ g = w.heap.size) := by
  obtain ⟨i, hi1, hi2, hi3, hi4⟩ := info_parts hi
  obtain ⟨g, cap, w', hr, h2, h3, h4, _⟩ := run_append_lies (P := P) w t 0 base e i z 1 bytes ht hi1 hi2 hi3 hi4 hz1 (by omega) v n xs hown ⟨h, 0, none⟩ m c us (by omega)
    (fun j x hj => by
      rw [addr_add, Nat.zero_add]
      simp only [World.cell?, hu]
      simpa using hj) h1 h0 hbn hbytes hbase w.heap.size rfl
  exact ⟨g, cap, w', fun ty => hr, h2, Keeps.ofGrown h3, h4⟩

theorem step_append_run {P : Program} {w : World} {ops : Array Oper} {o : Oper} {a : Act} {K : Act → World → Prop} {Q : Exit → Act → World → Prop} {E : Prop} (hgd : o.guard = none) (s x : Operand) (t : TypeId)
    (ho : o.op = .call { callee := .builtin .append, args := #[s, x], argTypes := #[t, t] }) {v u v' : Value} {w' : World} (hs : a.eval s = v) (hx : a.eval x = u)
    (hrun : ∀ ty, (Builtin.append_ #[t, t] ty #[v, u]).run P w = .ok v' w') (h : K (a.put o.dst v') w') :
    if Region.wanted o (yielded ops a.tmps) = true then Oper.wp P o a w K Q else E := by
  have hw : Region.wanted o (yielded ops a.tmps) = true := by simp [Region.wanted, hgd]
  rw [if_pos hw]
  unfold Oper.wp execOp
  simp only [ho, resolve, invoke, builtin, Sem.run_bind, Sem.run_pure, Result.andThen_ok, List.map_toArray, List.map_cons, List.map_nil, hs, hx, hrun]
  exact h

set_option maxRecDepth 100000 in
theorem and15 (x : UInt8) : bits BinOp.and IntKind.u8 (x.toNat : Int) 15 = (x.toNat : Int) % 16 := by
  have : ∀ n : Fin 256, bits BinOp.and IntKind.u8 ((n.1 : Nat) : Int) 15 = ((n.1 : Nat) : Int) % 16 := by decide
  exact this ⟨x.toNat, x.toNat_lt⟩

def dig : ByteArray := ⟨#[48, 49, 50, 51, 52, 53, 54, 55, 56, 57, 97, 98, 99, 100, 101, 102]⟩

theorem dig_get {q : Nat} (h : q < 16) (h2 : q < dig.size) : dig[q] = hexC q := by
  have : ∀ q : Fin 16, dig[q.1]'(by have := q.2; exact this) = hexC q.1 := by decide
  exact this ⟨q, h⟩

set_option maxRecDepth 100000 in
set_option maxHeartbeats 2000000 in
theorem btext_any (s : ByteArray) (hs : s.size ≤ 8388608) (w : World) : Calls Tryd.prog 51 #[.string s] w fun e w' => e = .returned (.string (bytesD s)) ∧ Keeps w w' (fun _ => False) := by
  by_cases h0 : s.data.toList = []
  · have hs0 : s = ⟨#[]⟩ := by
      apply ByteArray.ext
      exact Array.toList_inj.1 h0
    subst hs0
    go_enter Tryd.func51, Tryd.ntmps51
    go_wp2_with fail
    go_ret
    exact ⟨by simp [bytesD], Keeps.refl _ _⟩
  · obtain ⟨S, hS⟩ : ∃ S, bytesD s = S := ⟨_, rfl⟩
    have hb : Hid (strOf (hexL s.data.toList) = S) := (if_neg h0).symm.trans hS
    rw [hS]
    clear hS
    have hne : s.toList.isEmpty = false := by
      rw [ByteArray.toList_eq, List.isEmpty_eq_false_iff]
      exact h0
    have hsz : s.data.toList.length = s.size := rfl
    obtain ⟨i5, q1, q2, q3, q4⟩ := info_parts Tryd.infoE
    obtain ⟨c0, hc0⟩ : ∃ c0, 2 * s.size = c0 := ⟨_, rfl⟩
    obtain ⟨w0, hmk, hown0, hgr0⟩ := run_make_own (P := Tryd.prog) w w.heap.size 54 5 i5 (.int .u8 0) 1 Tryd.underlying54 q1 q2 q3 .i64 .i64 c0 (by rw [q4]; omega) (by simp only [maxLen]; omega) (Nat.le_refl _)
    have K0 : Keeps w w0 (fun _ => False) := (Keeps.ofGrown hgr0).mono (fun _ _ e => by cases e)
    have e2 : (2 * (s.size : Int)) = (c0 : Int) := by omega
    rw [← e2] at hmk
    have HO := hide hown0
    have HK0 := hide K0
    clear hown0 K0 hgr0 e2 q1 q2 q3 q4 hc0
    go_enter Tryd.func51, Tryd.ntmps51
    go_wp2_with fail
    clear hmk
    go_loopw [3, 13] (fun v3 v13 wr => ∃ i : Nat, v13 = .int .i64 (i : Int) ∧ i ≤ s.size ∧ wr.ownsRow w.heap.size 5 1 v3 (2 * i) (cellsOf (hexL (s.data.toList.take i))) ∧ Keeps w wr (fun _ => False)) (fun _ v13 _ => s.size - (intOf v13).toNat)
    case atStart => exact ⟨0, rfl, Nat.zero_le _, HO.out, HK0.out⟩
    case round =>
      obtain ⟨i, rfl, hi, hrow, K⟩ := hrel
      by_cases hlt : i < s.size
      · have hlt' : (i : Int) < (s.size : Int) := by omega
        obtain ⟨x, hx⟩ : ∃ x, s[i] = x := ⟨_, rfl⟩
        have hxl : s.data.toList[i]'(by omega) = x := hx
        have hx256 := x.toNat_lt
        have hd1 : x.toNat / 16 < 16 := by omega
        have hd2 : x.toNat % 16 < 16 := by omega
        have hz := K.size
        have hT := hide (hexL_take (s := s.data.toList) (i := i) (by omega))
        rw [hxl] at hT
        obtain ⟨g1, c1, w1, hr1, hown1, kk1, -⟩ := append_list (P := Tryd.prog) 54 5 (.int .u8 0) 1 Tryd.underlying54 Tryd.infoE rfl ((ownsRow_drew hrow).alloc (.cells #[.int .u8 ((hexC (x.toNat / 16)).toNat : Int), .int .u8 ((hexC (x.toNat % 16)).toNat : Int)] 5)) (us := [.int .u8 ((hexC (x.toNat / 16)).toNat : Int), .int .u8 ((hexC (x.toNat % 16)).toNat : Int)]) (heap_alloc_new wr.drew (.cells #[.int .u8 ((hexC (x.toNat / 16)).toNat : Int), .int .u8 ((hexC (x.toNat % 16)).toNat : Int)] 5)) (m := 2) rfl (by omega) (by simp [Value.oneCell']) 2 (by omega) (by simp only [maxLen]; omega) (by rw [World.size_alloc]; show w.heap.size ≤ wr.heap.size + 1; omega)
        have kW1 : Keeps w w1 (fun _ => False) := (K.drew.alloc _).trans kk1 (fun q hq e => by
          have := (ownsRow_block hrow e).1
          omega)
        have HN : Hid (w1.ownsRow w.heap.size 5 1 (.slice (some ⟨g1, 0, none⟩) (2 * i + 2) c1) (2 * (i + 1)) (cellsOf (hexL (s.data.toList.take (i + 1)))) ∧ Keeps w w1 (fun _ => False)) := by
          refine ⟨?_, kW1⟩
          rw [hT.out, show 2 * (i + 1) = 2 * i + 2 by omega]
          simpa [cellsOf, hexD, cellOf] using hown1
        have hc1 : (0 : Int) ≤ (x.toNat : Int) / 16 := by omega
        have hc2 : (x.toNat : Int) / 16 < 16 := by omega
        have e1 : ((x.toNat : Int) / 16).toNat = x.toNat / 16 := by omega
        have g1' : ∀ h, (⟨#[48, 49, 50, 51, 52, 53, 54, 55, 56, 57, 97, 98, 99, 100, 101, 102]⟩ : ByteArray)[((x.toNat : Int) / 16).toNat]'h = hexC (x.toNat / 16) := fun h => by
          have := dig_get hd1 hd1
          simp only [e1]
          exact this
        clear e1
        have h15 := and15 x
        have hc3 : (0 : Int) ≤ (x.toNat : Int) % 16 := by omega
        have hc4 : (x.toNat : Int) % 16 < 16 := by omega
        have e2 : ((x.toNat : Int) % 16).toNat = x.toNat % 16 := by omega
        have g2' : ∀ h, (⟨#[48, 49, 50, 51, 52, 53, 54, 55, 56, 57, 97, 98, 99, 100, 101, 102]⟩ : ByteArray)[((x.toNat : Int) % 16).toNat]'h = hexC (x.toNat % 16) := fun h => by
          have := dig_get hd2 hd2
          simp only [e2]
          exact this
        clear e2
        have b4 : i ≤ 1099511627776 := by omega
        have Hi : Hid (i + 1 ≤ s.size) := hlt
        have Hms : Hid (s.size - (i + 1) < s.size - i) := by show s.size - (i + 1) < s.size - i; omega
        obtain ⟨a6, a7⟩ := wr64s b4
        clear b4
        clear hrow K hown1 kk1 kW1 hT hxl hz hb h0 hsz
        go_wp2_with fail
        go_region_law (refine step_append_run (by rfl) _ _ 54 (by rfl) (by rfl) (by rfl) hr1 ?_)
        all_goals (
          go_wp2_with fail
          refine ⟨⟨i + 1, by go_num, Hi.out, HN.out.1, HN.out.2⟩, ?_⟩
          simp [intOf]
          exact Hms.out)
      · obtain rfl : i = s.size := by omega
        have hlt' : ¬ (s.size : Int) < (s.size : Int) := by omega
        have hL : (hexL s.data.toList).length = 2 * s.size := by rw [hexL_length]; omega
        rw [List.take_of_length_le (Nat.le_of_eq hsz)] at hrow
        rcases hrow.2 with ⟨rfl, e0⟩ | ⟨g, cap, cur, rfl, -, -, -⟩
        · exfalso
          apply h0
          apply List.eq_nil_of_length_eq_zero
          omega
        · have htx := run_text wr ⟨g, 0, none⟩ cap (2 * s.size) (hexL s.data.toList) hL (fun j hj => by
            rw [addr_add, Nat.zero_add]
            have := hrow.cellAt j (by omega)
            rw [this]
            simp only [cellsOf, List.getElem?_map, List.getElem?_eq_getElem hj, Option.map_some, cellOf])
          rw [hb.out] at htx
          have HK := hide K
          clear hrow K hb hL
          go_wp2_with fail
          go_ret
          exact ⟨rfl, HK.out⟩
end Go.Proofs.YtfpiibccggjjpaaDoor
/-
  script: the reference's decimal; numberText.
-/
namespace Go.Proofs.YtfpiibccggjjpaaDoor
open Go.RowKit
set_option linter.unusedVariables false

theorem decD_small {n : Nat} (h : n < 10) : Lib.decDigits n = [UInt8.ofNat (48 + n)] := by rw [Lib.decDigits, dif_pos h]

theorem decD_big {n : Nat} (h : ¬ n < 10) : Lib.decDigits n = Lib.decDigits (n / 10) ++ Lib.decDigits (n % 10) := by
  rw [Lib.decDigits, dif_neg h, decD_small (n := n % 10) (by omega)]

theorem dec_len (k : Nat) : ∀ n, n < 10 ^ (k + 1) → (Lib.decDigits n).length ≤ k + 1 := by
  induction k with
  | zero =>
    intro n h
    rw [decD_small (by simpa using h)]
    simp
  | succ k ih =>
    intro n h
    by_cases h10 : n < 10
    · rw [decD_small h10]
      simp
    · rw [decD_big h10, decD_small (n := n % 10) (by omega), List.length_append]
      have := ih (n / 10) (by rw [Nat.pow_succ] at h; omega)
      simp
      omega

theorem wr_big {k : Nat} (h : k < 9223372036854775808) : wrap64 (k : Int) = (k : Int) := by
  unfold wrap64
  omega

theorem strOf_size (x : List UInt8) : (strOf x).size = x.length := by simp [strOf, ByteArray.size]

theorem dec_size {n : Nat} (h : n < 9223372036854775808) : (strOf (Lib.decDigits n)).size ≤ 19 := by
  rw [strOf_size]
  exact dec_len 18 n (by omega)

theorem num_size (n : Int) (h0 : -9223372036854775808 ≤ n) (h1 : n ≤ 9223372036854775807) : (numD n).size ≤ 20 := by
  unfold numD Lib.itoa
  rw [strOf_size]
  split
  · rw [List.length_cons]
    have := dec_len 19 n.natAbs (by omega)
    have h2 : n.natAbs < 10 ^ 19 := by omega
    have := dec_len 18 n.natAbs h2
    omega
  · have := dec_len 18 n.toNat (by omega)
    omega
end Go.Proofs.YtfpiibccggjjpaaDoor
