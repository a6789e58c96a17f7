import Derived.Deep.AppendLies
import Derived.Maps.OwnSet
import Derived.Test.YtgmcpjklgacdpaaIn1
/-
  Plain laws on stores into a memory's bytes.
-/
namespace Go.Proofs.Ytgmcpjklgacdpaa
open Go.RowKit

theorem splice_set {bs : List UInt8} {o k : Nat} {u : UInt8} {x : List UInt8} (hx : x.length = k) (h : o + k < bs.length) : (splice bs o x).set (o + k) u = splice bs o (x ++ [u]) := by
  subst hx
  apply List.ext_getElem?
  intro p
  have hl : (x ++ [u]).length = x.length + 1 := by simp
  have hA := splice_get (bs := bs) (o := o) (x := x ++ [u]) (by omega) p
  have hB := splice_get (bs := bs) (o := o) (x := x) (by omega) p
  rw [hl] at hA
  rw [List.getElem?_set, splice_length (by omega), hA]
  by_cases hp : o + x.length = p
  · subst hp
    rw [if_pos rfl, if_pos h, if_pos (by omega), show o + x.length - o = x.length from by omega, List.getElem?_append_right (Nat.le_refl _)]
    simp
  · rw [if_neg hp, hB]
    by_cases h1 : o ≤ p ∧ p < o + x.length
    · rw [if_pos h1, if_pos (by omega), List.getElem?_append_left (by omega)]
    · rw [if_neg h1, if_neg (by omega)]

theorem MemAt.gcell_any {T E : TypeId} {w : World} {b g : Nat} {bs sp : List UInt8} (m : MemAt T E w b g bs sp) (j : Nat) (h : j < bs.length) : ∃ v, w.cell? ⟨g, j, none⟩ = some v := ⟨_, m.gcell j h⟩

/-- One byte is stored. -/
theorem MemAt.store {T E : TypeId} {w : World} {b g : Nat} {bs sp : List UInt8} (m : MemAt T E w b g bs sp) (j : Nat) (h : j < bs.length) (u : UInt8) :
    MemAt T E (w.setCell ⟨g, j, none⟩ (.int .u8 (u.toNat : Int))) b g (bs.set j u) sp ∧ Keeps w (w.setCell ⟨g, j, none⟩ (.int .u8 (u.toNat : Int))) (fun i => i = g) := by
  refine ⟨⟨?_, ?_, by simpa using m.hmax, m.hne⟩, (Keeps.refl w (fun i => i = g)).setCell _ (fun _ => rfl) _⟩
  · rw [Below.heap_setCell _ _ _ _ m.hne, m.hb]
    simp
  · rw [setCell_eq_setRow w g j _ E (0, 0) _ m.hg, heap_setRow_same m.hg]
    congr 2
    apply Array.ext'
    rw [Array.toList_setIfInBounds, rowOf_toList, rowOf_toList]
    simp only [cellsOf, List.map_append, List.map_set]
    rw [List.set_append_left _ _ (by simpa using h)]
    rfl

section
variable {P : Program}
/-- clear of a span. -/
theorem mem_clear (t : TypeId) {T : TypeId} (E : TypeId) (hu : P.underlying t = some (.slice E)) (hi : (P.info? E).map (fun i => (i.zero, i.size, i.bytes)) = some (some (.int .u8 0), 1, 1))
    {w : World} {b g : Nat} {bs sp : List UInt8} (m : MemAt T E w b g bs sp) {l q n c : Nat} (hl : l + n ≤ bs.length) (hq : q = l ∨ (q = 0 ∧ bs.length + sp.length = l)) :
    ∃ w2, (∀ ty, (Builtin.clear_ #[t] ty #[.slice (some ⟨g, q, none⟩) n c]).run P w = .ok (.tuple #[]) w2) ∧ MemAt T E w2 b g (splice bs l (zeros n)) sp ∧ Keeps w w2 (fun i => i = g) := by
  by_cases hn : n = 0
  · subst hn
    refine ⟨w, fun ty => ?_, ?_, Keeps.refl _ _⟩
    · simp [Builtin.clear_, run_underlying hu]
    · rw [show zeros 0 = [] from rfl, splice_nil]
      exact m
  · have hq' : q = l := by
      rcases hq with hq | ⟨_, hz⟩
      · exact hq
      · omega
    subst hq'
    obtain ⟨i, h1, h2, h3, h4⟩ := info_parts hi
    have hv : ∀ w, (zeroValue E).run P w = .ok (.int .u8 0) w := fun w => by simp [zeroValue, typeInfo, h1, h2]
    have hzc : (Builtin.zeroCells (Value.int .u8 0).cells n).toList = cellsOf (zeros n) := by
      simp [Builtin.zeroCells, Value.cells, cellsOf, zeros, cellOf]
      apply List.ext_getElem
      · simp
      · intro i h1 h2
        simp [Nat.mod_one]
    have hst := run_storeCells_at P g q E (cellsOf (zeros n)) 0 (rowOf (bs ++ sp)) w m.hg (by simp only [cellsOf_length, zeros_length, rowOf_size, List.length_append]; omega) cellsOf_one
    obtain ⟨n', rfl⟩ : ∃ n', n = n' + 1 := ⟨n - 1, by omega⟩
    have hrow : ((rowOf (bs ++ sp)).toList.take (q + 0) ++ cellsOf (zeros (n' + 1)) ++ (rowOf (bs ++ sp)).toList.drop (q + 0 + (cellsOf (zeros (n' + 1))).length)).toArray = rowOf (splice bs q (zeros (n' + 1)) ++ sp) := by
      rw [rowOf_toList, Nat.add_zero, cellsOf_length, ← cellsOf_take, ← cellsOf_drop, ← cellsOf_append, ← cellsOf_append, rowOf]
      congr 2
      unfold splice
      rw [zeros_length, List.take_append_of_le_length (by omega), List.drop_append_of_le_length hl]
      simp
    rw [hrow] at hst
    have hz : (zeros (n' + 1)).length = n' + 1 := zeros_length _
    refine ⟨w.setRow g (rowOf (splice bs q (zeros (n' + 1)) ++ sp)), fun ty => ?_, ⟨?_, ?_, ?_, m.hne⟩, (Keeps.refl w (fun i => i = g)).setRow g (fun _ => rfl) _⟩
    · simp only [Builtin.clear_]
      simp [run_underlying hu, hv, hzc, hst]
    · rw [heap_setRow_other _ _ _ _ m.hne, m.hb, splice_length (by rw [hz]; exact hl)]
    · rw [heap_setRow_same m.hg]
    · rw [splice_length (by rw [hz]; exact hl)]; exact m.hmax
end
end Go.Proofs.Ytgmcpjklgacdpaa
/-
  Plain laws on lists that are appended to one by one: where each lies, and what stays.
-/
namespace Go.Proofs.Ytgmcpjklgacdpaa
open Go.RowKit

theorem Keeps.ofGrown {w w' : World} {row : Option Nat} (h : w.grownBy w' row) : Keeps w w' (fun k => row = some k) :=
  ⟨h.os, h.tape, h.output, h.size, fun k hk hn => h.block k hk (fun e => hn e.symm)⟩
/-- An owned row stays owned where its block stays. -/
theorem ownsRow_keeps {w w' : World} {base : Nat} {e : TypeId} {size : Nat} {v : Value} {n : Nat} {xs : List Value} {S : Nat → Prop} (h : w.ownsRow base e size v n xs) (k : Keeps w w' S) (hS : ∀ g, v.ownBlock = some g → ¬ S g) : w'.ownsRow base e size v n xs := by
  obtain ⟨h1, h2⟩ := h
  refine ⟨h1, ?_⟩
  rcases h2 with h2 | ⟨g, cap, cur, hv, hb, hg, r⟩
  · exact Or.inl h2
  · refine Or.inr ⟨g, cap, cur, hv, hb, ?_, r⟩
    rw [k.block g (heap_lt hg) (hS g (by rw [hv]; rfl))]
    exact hg
theorem ownsRow_drew {w : World} {base : Nat} {e : TypeId} {size : Nat} {v : Value} {n : Nat} {xs : List Value} (h : w.ownsRow base e size v n xs) : w.drew.ownsRow base e size v n xs := h
/-- A row's block: its elements' type, that it is there. -/
theorem ownsRow_block {w : World} {base : Nat} {e : TypeId} {size : Nat} {v : Value} {n : Nat} {xs : List Value} (h : w.ownsRow base e size v n xs) {g : Nat} (hv : v.ownBlock = some g) : base ≤ g ∧ ∃ cur, w.heap[g]? = some (.cells cur e (0, 0)) := by
  rcases h.2 with ⟨h2, _⟩ | ⟨g', cap, cur, h2, hb, hg, _⟩
  · rw [h2] at hv; cases hv
  · rw [h2] at hv
    have : g' = g := by simpa [Value.ownBlock] using hv
    subst this
    exact ⟨hb, cur, hg⟩

section
variable {P : Program}
/-- One element is appended: the element's cell lies in block h. -/
theorem append_one (t e : TypeId) (z : Value) (bytes : Nat) (ht : P.underlying t = some (.slice e)) (hi : (P.info? e).map (fun i => (i.zero, i.size, i.bytes)) = some (some z, 1, bytes)) (hz1 : z.cells.size = 1)
    {w : World} {base : Nat} {v : Value} {n : Nat} {xs : List Value} (hown : w.ownsRow base e 1 v n xs) {h : Nat} {u : Value} {ut : TypeId} {fz : Nat × Nat} (hu : w.heap[h]? = some (.cells #[u] ut fz)) (h1 : u.oneCell' = true)
    (hbytes : (n + 1) * bytes ≤ 140737488355328) (hbn : n + 1 ≤ maxLen) (hbase : base ≤ w.heap.size) :
    ∃ g cap w', (∀ ty, (Builtin.append_ #[t, t] ty #[v, .slice (some ⟨h, 0, none⟩) 1 1]).run P w = .ok (.slice (some ⟨g, 0, none⟩) (n + 1) cap) w') ∧
      w'.ownsRow base e 1 (.slice (some ⟨g, 0, none⟩) (n + 1) cap) (n + 1) (xs ++ [u]) ∧ Keeps w w' (fun k => v.ownBlock = some k) ∧ (v.ownBlock = some g ∨ g = w.heap.size) := by
  obtain ⟨i, hi1, hi2, hi3, hi4⟩ := info_parts hi
  obtain ⟨g, cap, w', hr, h2, h3, h4, _⟩ := run_append_lies (P := P) w t 0 base e i z 1 bytes ht hi1 hi2 hi3 hi4 hz1 (by omega) v n xs hown ⟨h, 0, none⟩ 1 1 [u] rfl
    (fun j x hj => by
      match j, hj with
      | 0, hj =>
        simp at hj
        subst hj
        rw [addr_add]
        simp [World.cell?, hu]) (fun x hx => by simp at hx; subst hx; exact h1) (by omega) hbn hbytes hbase w.heap.size rfl
  exact ⟨g, cap, w', fun ty => hr, h2, Keeps.ofGrown h3, h4⟩

/-- A text as a new list of bytes: the room behind it may be written. -/
theorem bytes_of_room (w : World) (src dst e : TypeId) (s : ByteArray) (hs : P.underlying src = some .string) (hd : P.underlying dst = some (.slice e)) (he : P.underlying e = some (.int .u8)) :
    ∃ w2 c fz, (convert src dst (.string s)).run P w = .ok (.slice (some ⟨w.heap.size, 0, none⟩) s.size c) w2 ∧ Keeps w w2 (fun _ => False) ∧ w2.heap.size = w.heap.size + 1 ∧ s.size ≤ c ∧ c ≤ fz.1 ∧
      w2.heap[w.heap.size]? = some (.cells (rowOf (s.data.toList ++ zeros (c - s.size))) e fz) := by
  have h := run_bytes_of_string (P := P) w src dst e s hs hd he
  have hge := grownCap_ge w s.size 0 e
  have hrow : ∀ c, bytesRow s c = rowOf (s.data.toList ++ zeros (c - s.size)) := fun c => by
    apply Array.ext'
    simp [bytesRow, rowOf, cellsOf, zeros, cellOf]
  refine ⟨_, _, ((bytesRow s (grownCap w s.size 0 e)).size, (bytesRow s (grownCap w s.size 0 e)).size + 1), h, ((Keeps.refl _ _).drew).alloc _, by simp, hge, ?_, ?_⟩
  · rw [hrow, rowOf_size]
    simp [zeros_length]
    omega
  · rw [← hrow]
    exact heap_alloc_new w.drew _

/-- One byte behind a list of bytes. -/
theorem append_byte (t E : TypeId) (ht : P.underlying t = some (.slice E)) (hi : (P.info? E).map (fun i => (i.zero, i.size, i.bytes)) = some (some (.int .u8 0), 1, 1))
    {w : World} {h p n c : Nat} {x y : List UInt8} {fz fp : Nat × Nat} {ut : TypeId} {u : UInt8} (hr : w.heap[h]? = some (.cells (rowOf (x ++ y)) E fz)) (hn : n = x.length) (hy : x.length + y.length = c) (hfz : c ≤ fz.1) (hu : w.heap[p]? = some (.cells #[.int .u8 (u.toNat : Int)] ut fp))
    (hx : x.length ≤ 1099511627776) :
    ∃ g c2 w2 y2 f2, (∀ ty, (Builtin.append_ #[t, t] ty #[.slice (some ⟨h, 0, none⟩) n c, .slice (some ⟨p, 0, none⟩) 1 1]).run P w = .ok (.slice (some ⟨g, 0, none⟩) (n + 1) c2) w2) ∧
      w2.heap[g]? = some (.cells (rowOf (x ++ [u] ++ y2)) E f2) ∧ Keeps w w2 (fun k => k = h) ∧ (g = h ∨ g = w.heap.size) ∧ n + 1 ≤ c2 ∧ (f2 = (0, 0) ∨ n + 1 ≤ f2.1) := by
  subst hn
  obtain ⟨i, h1, h2, h3, h4⟩ := info_parts hi
  have hsrc : ∀ j v, [Value.int .u8 (u.toNat : Int)][j]? = some v → w.cell? ((⟨p, 0, none⟩ : Addr).add j) = some v := fun j v hj => by
    match j, hj with
    | 0, hj =>
      simp at hj
      subst hj
      rw [addr_add]
      simp [World.cell?, hu]
  by_cases hroom : x.length + 1 ≤ c
  · have hf := run_firstCells_some (P := P) w i.size 1 ⟨p, 0, none⟩ 1 1 [Value.int .u8 (u.toNat : Int)] (by rw [h3]; rfl) hsrc
    have hyl : 0 < y.length := by omega
    have hst := run_storeCells_cells (P := P) h (x.length * i.size) [Value.int .u8 (u.toNat : Int)] 0 w
      (fun j hj => by
        have hj0 : j = 0 := by simpa using hj
        subst hj0
        rw [h3]
        have := rowOf_get (x ++ y) (x.length * 1 + 0 + 0) (by simp; omega)
        simp only [World.cell?, hr]
        simp only [Option.isSome_none, Bool.false_eq_true, if_false]
        rw [this]
        rfl)
      (fun j hj => by
        have hj0 : j = 0 := by simpa using hj
        subst hj0
        simp only [World.frozen?, hr]
        rw [Bool.and_eq_false_iff]
        left
        rw [decide_eq_false_iff_not, h3]
        omega) (fun v hv => by simp at hv; subst hv; rfl)
    simp only [Nat.add_zero] at hst
    refine ⟨h, c, w.setCell ⟨h, x.length * i.size, none⟩ (.int .u8 (u.toNat : Int)), y.drop 1, fz, fun ty => ?_, ?_, ?_, Or.inl rfl, hroom, Or.inr (by omega)⟩
    · simp [Builtin.append_, run_underlying ht, sizeOf, typeInfo, h1, Builtin.lenOf, hroom, hf, Addr.add_lit, hst]
      rfl
    · rw [h3, Nat.mul_one, setCell_eq_setRow w h x.length _ E fz _ hr, heap_setRow_same hr]
      congr 2
      apply Array.ext'
      rw [Array.toList_setIfInBounds, rowOf_toList, rowOf_toList]
      obtain ⟨y0, yr, rfl⟩ : ∃ a b, y = a :: b := by
        cases y with
        | nil => simp at hyl
        | cons a b => exact ⟨a, b, rfl⟩
      simp [cellsOf, cellOf]
    · exact (Keeps.refl w (fun k => k = h)).setCell ⟨h, x.length * i.size, none⟩ (fun _ => rfl) _
  · have hcx : c = x.length := by omega
    have hy0 : y = [] := List.eq_nil_of_length_eq_zero (by omega)
    subst hy0
    have holds : ∀ j v, (cellsOf x)[j]? = some v → w.cell? ((⟨h, 0, none⟩ : Addr).add j) = some v := fun j v hj => by
      rw [addr_add, Nat.zero_add]
      simp only [World.cell?, hr]
      simpa [rowOf] using hj
    have hg := fun ty => run_append_grow (P := P) w t ty E i (.int .u8 0) ht h1 h2 ⟨h, 0, none⟩ x.length c (cellsOf x) (by rw [h3, cellsOf_length, Nat.mul_one]) holds ⟨p, 0, none⟩ 1 1 [Value.int .u8 (u.toNat : Int)] (by rw [h3]; rfl) hsrc (by omega) (by omega)
      (by have := nextslicecap_le (need := x.length + 1) (old := c) (by omega); rw [h4]; omega)
    refine ⟨w.heap.size, _, _, zeros (grownCap w (x.length + 1) c E - (x.length + 1)), (0, 0), hg, ?_, ((Keeps.refl _ _).drew).alloc _, Or.inr rfl, grownCap_ge w (x.length + 1) c E, Or.inl rfl⟩
    have hnew := heap_alloc_new w.drew (.cells ((cellsOf x).toArray ++ [Value.int .u8 (u.toNat : Int)].toArray ++ Builtin.zeroCells (Value.int .u8 0).cells (grownCap w (x.length + 1) c E - (x.length + 1))) E)
    refine Eq.trans hnew ?_
    congr 2
    apply Array.ext'
    rw [rowOf_toList]
    simp [cellsOf, cellOf, zeros, Builtin.zeroCells, Value.cells]
    apply List.ext_getElem
    · simp
    · intro j a b
      simp [Nat.mod_one]
end
end Go.Proofs.Ytgmcpjklgacdpaa
/-
  Maps keyed by int whose elements are ints or pointers to a block's head, as partial functions. Nothing here names the program.
-/
namespace Go.Proofs.Ytgmcpjklgacdpaa
open Go.RowKit Go.Maps

/-- How an element reads: an int, a nil pointer, a pointer to a block's head. -/
def rdr : Value → Option (DataW Unit × List MemPlace)
  | .int .i64 a => some (.lit (.int .i64 a), [])
  | .pointer none => some (.lit (.bool false), [])
  | .pointer (some ⟨b, 0, none⟩) => some (.lit (.int .u64 b), [])
  | _ => none
theorem rdr_int (a : Int) : rdr (.int .i64 a) = some (.lit (.int .i64 a), []) := rfl
theorem rdr_nil : rdr (.pointer none) = some (.lit (.bool false), []) := rfl
theorem rdr_ptr (b : Nat) : rdr (.pointer (some ⟨b, 0, none⟩)) = some (.lit (.int .u64 b), []) := rfl
theorem rdr_int_inv {v : Value} {a : Int} {ps : List MemPlace} (h : rdr v = some (.lit (.int .i64 a), ps)) : v = .int .i64 a := by
  unfold rdr at h
  split at h
  · simp at h
    rw [h.1]
  · simp at h
  · simp at h
  · cases h
theorem rdr_nil_inv {v : Value} {ps : List MemPlace} (h : rdr v = some (.lit (.bool false), ps)) : v = .pointer none := by
  unfold rdr at h
  split at h
  · simp at h
  · rfl
  · simp at h
  · cases h
theorem rdr_ptr_inv {v : Value} {b : Nat} {ps : List MemPlace} (h : rdr v = some (.lit (.int .u64 b), ps)) : v = .pointer (some ⟨b, 0, none⟩) := by
  unfold rdr at h
  split at h
  · simp at h
  · simp at h
  · simp at h
    have := Int.ofNat_inj.1 h.1
    subst this
    rfl
  · cases h

/-- A key: an int that fits. -/
def fitsI (x : Int) : Prop := (Lit.int .i64 x).wf = true
theorem fitsI_mk {x : Int} (h1 : -9223372036854775808 ≤ x) (h2 : x ≤ 9223372036854775807) : fitsI x := WalkArith.wf_i64 ⟨h1, h2⟩
theorem fitsI_bounds {x : Int} (h : fitsI x) : -9223372036854775808 ≤ x ∧ x ≤ 9223372036854775807 := by
  simp [fitsI, Lit.wf, IntKind.min, IntKind.max, IntKind.signed, IntKind.bits] at h
  omega
theorem lit_ne {x y : Int} (h : x ≠ y) : Lit.int .i64 x ≠ Lit.int .i64 y := fun e => h (by simpa using e)

/-- Block b is a map that holds c a at each key x with f x = some a, and nothing else. -/
def MapTo {α : Type} (P : Program) (c : α → DataW Unit) (w : World) (b n : Nat) (f : Int → Option α) : Prop :=
  ∃ D : DataW Unit, w.ownsMap P 3 rdr b n D ∧ ∀ x, fitsI x → has D (.int .i64 x) = (f x).isSome ∧ ∀ a, f x = some a → ∀ z, D.atKey (.int .i64 x) z = c a
def cInt (a : Int) : DataW Unit := .lit (.int .i64 a)
def cPtr (b : Nat) : DataW Unit := .lit (.int .u64 b)
def upd {α : Type} (f : Int → Option α) (x : Int) (a : Option α) : Int → Option α := fun y => if y = x then a else f y
theorem upd_same {α : Type} (f : Int → Option α) (x : Int) (a : Option α) : upd f x a x = a := by simp [upd]
theorem upd_other {α : Type} (f : Int → Option α) (x y : Int) (a : Option α) (h : y ≠ x) : upd f x a y = f y := by simp [upd, h]

section
variable {P : Program} {α : Type} {c : α → DataW Unit} {w : World} {b n : Nat} {f : Int → Option α}

theorem MapTo.lt (h : MapTo P c w b n f) : b < w.heap.size := by
  obtain ⟨D, ho, _⟩ := h
  exact ho.lt
theorem MapTo.keeps {w' : World} {S : Nat → Prop} (h : MapTo P c w b n f) (k : Keeps w w' S) (hS : ¬ S b) : MapTo P c w' b n f := by
  obtain ⟨D, ho, hd⟩ := h
  have hlt := ho.lt
  obtain ⟨es, clock, hb, r⟩ := ho
  exact ⟨D, ⟨es, clock, (k.block b hlt hS).trans hb, r⟩, hd⟩
theorem MapTo.drew (h : MapTo P c w b n f) : MapTo P c w.drew b n f := h
theorem MapTo.made (P : Program) (c : α → DataW Unit) (w : World) : MapTo P c (w.alloc (.map #[] 0)) w.heap.size 0 (fun _ => none) :=
  ⟨.map [], World.ownsMap_made w P 3 rdr, fun x _ => ⟨rfl, fun a h => by cases h⟩⟩

variable (hu3 : P.underlying 3 = some (.int .i64))
include hu3

theorem key_of {x : Int} (hx : fitsI x) : keyOf P 3 (.int .i64 x) = some (.int .i64 x) := keyOf_int_mk hu3 hx

/-- A store. -/
theorem MapTo.store {t e : TypeId} (ht : P.underlying t = some (.map 3 e)) (h : MapTo P c w b n f) (hn : n < maxLen) {x : Int} (hx : fitsI x) {v : Value} {a : α} {ps : List MemPlace} (hv : rdr v = some (c a, ps)) :
    ∃ w', (Instr.mapUpdate t (.map (some b)) (.int .i64 x) v).run P w = .ok () w' ∧ MapTo P c w' b (n + 1) (upd f x (some a)) ∧ Keeps w w' (fun k => k = b) := by
  obtain ⟨D, ho, hd⟩ := h
  obtain ⟨w', hrun, ho', ht'⟩ := ho.store (int_keyed hu3) ht hn (key_of hu3 hx) hv
  refine ⟨w', hrun, ⟨_, ho', fun y hy => ?_⟩, (Keeps.ofGrown ht'.grown).mono (fun i _ e => by simpa using e.symm)⟩
  by_cases hxy : y = x
  · subst hxy
    exact ⟨by rw [has_put_same (k := .int .i64 y) ho.isMap trivial, upd_same]; rfl, fun a' ha z => by rw [upd_same] at ha; cases ha; exact atKey_put_same (k := .int .i64 y) ho.isMap trivial _ _⟩
  · obtain ⟨h1, h2⟩ := hd y hy
    exact ⟨by rw [has_put_other (lit_ne hxy), h1, upd_other _ _ _ _ hxy], fun a' ha z => by rw [upd_other _ _ _ _ hxy] at ha; rw [atKey_put_other (lit_ne hxy)]; exact h2 a' ha z⟩
/-- A key is struck. -/
theorem MapTo.strike {t e : TypeId} (ht : P.underlying t = some (.map 3 e)) (h : MapTo P c w b n f) {x : Int} (hx : fitsI x) :
    ∃ w', (∀ ty, (Builtin.delete_ #[t, 3] ty #[.map (some b), .int .i64 x]).run P w = .ok (.tuple #[]) w') ∧ MapTo P c w' b n (upd f x none) ∧ Keeps w w' (fun k => k = b) := by
  obtain ⟨D, ho, hd⟩ := h
  obtain ⟨w', hrun, ho', ht'⟩ := ho.drop (int_keyed hu3) ht (key_of hu3 hx) 0
  refine ⟨w', fun ty => hrun, ⟨_, ho', fun y hy => ?_⟩, (Keeps.ofGrown ht'.grown).mono (fun i _ e => by simpa using e.symm)⟩
  by_cases hxy : y = x
  · subst hxy
    exact ⟨by rw [has_del_same, upd_same]; rfl, fun a' ha => by rw [upd_same] at ha; cases ha⟩
  · obtain ⟨h1, h2⟩ := hd y hy
    exact ⟨by rw [has_del_other (lit_ne hxy), h1, upd_other _ _ _ _ hxy], fun a' ha z => by rw [upd_other _ _ _ _ hxy] at ha; rw [atKey_del_other (lit_ne hxy)]; exact h2 a' ha z⟩
end

section
variable {P : Program} {w : World} {b n : Nat} (hu3 : P.underlying 3 = some (.int .i64))
include hu3

/-- A look into a map of ints: with ok. -/
theorem look_ok_int {f : Int → Option Int} {t : TypeId} (ht : P.underlying t = some (.map 3 3)) (hz : (zeroValue 3).run P w = .ok (.int .i64 0) w) (h : MapTo P cInt w b n f) {x : Int} (hx : fitsI x) :
    (Instr.lookup t (.map (some b)) (.int .i64 x) true).run P w = .ok (.tuple #[.int .i64 ((f x).getD 0), .bool (f x).isSome]) w := by
  obtain ⟨D, ho, hd⟩ := h
  obtain ⟨h1, h2⟩ := hd x hx
  obtain ⟨v, ps, hrun, hv⟩ := ho.look_ok (int_keyed hu3) ht hz (rdr_int 0) (key_of hu3 hx)
  rw [hrun, h1]
  cases hf : f x with
  | none =>
    rw [hf] at h1
    rw [atKey_of_not_has h1] at hv
    rw [rdr_int_inv hv]
    rfl
  | some a =>
    rw [h2 a hf] at hv
    rw [rdr_int_inv hv]
    rfl
/-- .. without ok. -/
theorem look_int {f : Int → Option Int} {t : TypeId} (ht : P.underlying t = some (.map 3 3)) (hz : (zeroValue 3).run P w = .ok (.int .i64 0) w) (h : MapTo P cInt w b n f) {x : Int} (hx : fitsI x) :
    (Instr.lookup t (.map (some b)) (.int .i64 x) false).run P w = .ok (.int .i64 ((f x).getD 0)) w := by
  obtain ⟨D, ho, hd⟩ := h
  obtain ⟨h1, h2⟩ := hd x hx
  obtain ⟨v, ps, hrun, hv⟩ := ho.lookup (int_keyed hu3) ht hz (rdr_int 0) (key_of hu3 hx)
  rw [hrun]
  cases hf : f x with
  | none =>
    rw [hf] at h1
    rw [atKey_of_not_has h1] at hv
    rw [rdr_int_inv hv]
    rfl
  | some a =>
    rw [h2 a hf] at hv
    rw [rdr_int_inv hv]
    rfl
/-- A look into a map of pointers. -/
theorem look_ptr {f : Int → Option Nat} {t e : TypeId} (ht : P.underlying t = some (.map 3 e)) (hz : (zeroValue e).run P w = .ok (.pointer none) w) (h : MapTo P cPtr w b n f) {x : Int} (hx : fitsI x) :
    (Instr.lookup t (.map (some b)) (.int .i64 x) false).run P w = .ok (.pointer ((f x).map (fun g => ⟨g, 0, none⟩))) w := by
  obtain ⟨D, ho, hd⟩ := h
  obtain ⟨h1, h2⟩ := hd x hx
  obtain ⟨v, ps, hrun, hv⟩ := ho.lookup (int_keyed hu3) ht hz rdr_nil (key_of hu3 hx)
  rw [hrun]
  cases hf : f x with
  | none =>
    rw [hf] at h1
    rw [atKey_of_not_has h1] at hv
    rw [rdr_nil_inv hv]
    rfl
  | some a =>
    rw [h2 a hf] at hv
    rw [rdr_ptr_inv hv]
    rfl
end
end Go.Proofs.Ytgmcpjklgacdpaa
/-
  An arena as plain data: its blocks in a row, which of them are live, its bytes. Nothing here names the program.
-/
namespace Go.Proofs.Ytgmcpjklgacdpaa
open Go.RowKit

/-- The blocks lie one behind the other from s to e. -/
def Tiles : Nat → List (Nat × Nat) → Nat → Prop
  | s, [], e => s = e
  | s, x :: r, e => x.1 = s ∧ 0 < x.2 ∧ Tiles (s + x.2) r e
theorem tiles_le : ∀ {s : Nat} {L : List (Nat × Nat)} {e : Nat}, Tiles s L e → s ≤ e
  | _, [], _, h => by rw [Tiles] at h; omega
  | _, _ :: _, _, h => by have := tiles_le h.2.2; omega
theorem tiles_mem : ∀ {s : Nat} {L : List (Nat × Nat)} {e : Nat} {x : Nat × Nat}, Tiles s L e → x ∈ L → s ≤ x.1 ∧ 0 < x.2 ∧ x.1 + x.2 ≤ e
  | _, [], _, _, _, hx => by cases hx
  | _, y :: r, _, x, h, hx => by
    obtain ⟨h1, h2, h3⟩ := h
    rcases List.mem_cons.1 hx with rfl | hx
    · have := tiles_le h3
      omega
    · have := tiles_mem h3 hx
      omega
theorem tiles_snoc : ∀ {s : Nat} {L : List (Nat × Nat)} {e : Nat}, Tiles s L e → ∀ n, 0 < n → Tiles s (L ++ [(e, n)]) (e + n)
  | _, [], _, h, n, hn => by rw [Tiles] at h; subst h; exact ⟨rfl, hn, rfl⟩
  | _, _ :: _, _, h, n, hn => ⟨h.1, h.2.1, tiles_snoc h.2.2 n hn⟩
theorem tiles_sorted : ∀ {s : Nat} {L : List (Nat × Nat)} {e : Nat}, Tiles s L e → (L.map Prod.fst).Pairwise (· < ·)
  | _, [], _, _ => List.Pairwise.nil
  | _, y :: r, _, h => by
    refine List.Pairwise.cons ?_ (tiles_sorted h.2.2)
    intro o ho
    obtain ⟨x, hx, rfl⟩ := List.mem_map.1 ho
    have := tiles_mem h.2.2 hx
    have := h.1
    have := h.2.1
    omega
theorem tiles_length : ∀ {s : Nat} {L : List (Nat × Nat)} {e : Nat}, Tiles s L e → s + L.length ≤ e
  | _, [], _, h => by rw [Tiles] at h; simp; omega
  | _, y :: r, _, h => by have := tiles_length h.2.2; have := h.2.1; simp; omega
/-- The two blocks at places i < j. -/
theorem tiles_get : ∀ {s : Nat} {L : List (Nat × Nat)} {e : Nat}, Tiles s L e → ∀ {i : Nat} (hi : i < L.length), (∀ (hj : i + 1 < L.length), L[i + 1].1 = L[i].1 + L[i].2) ∧ (i + 1 = L.length → e = L[i].1 + L[i].2)
  | _, [], _, _, i, hi => by simp at hi
  | s, y :: r, e, h, 0, _ => by
    refine ⟨fun hj => ?_, fun he => ?_⟩
    · cases r with
      | nil => simp at hj
      | cons z r => simp only [List.getElem_cons_succ, List.getElem_cons_zero]; rw [h.2.2.1, h.1]
    · cases r with
      | nil => have h3 := h.2.2; rw [Tiles] at h3; simp only [List.getElem_cons_zero]; rw [h.1]; omega
      | cons z r => simp at he
  | s, y :: r, e, h, i + 1, hi => by
    have := tiles_get h.2.2 (i := i) (by simpa using hi)
    refine ⟨fun hj => ?_, fun he => ?_⟩
    · have := this.1 (by simpa using hj)
      simpa using this
    · have := this.2 (by simpa using he)
      simpa using this
theorem tiles_unique : ∀ {s : Nat} {L : List (Nat × Nat)} {e : Nat} {x y : Nat × Nat}, Tiles s L e → x ∈ L → y ∈ L → x.1 = y.1 → x = y
  | _, [], _, _, _, _, hx, _, _ => by cases hx
  | _, z :: r, _, x, y, h, hx, hy, e => by
    rcases List.mem_cons.1 hx with h1 | h1 <;> rcases List.mem_cons.1 hy with h2 | h2
    · rw [h1, h2]
    · have := tiles_mem h.2.2 h2
      have := h.1
      have := h.2.1
      rw [h1] at e
      omega
    · have := tiles_mem h.2.2 h1
      have := h.1
      have := h.2.1
      rw [h2] at e
      omega
    · exact tiles_unique h.2.2 h1 h2 e

/-- An arena's data: lv tells each live block's bytes by its offset. -/
structure AD where
  limit : Nat
  used : Nat
  bs : List UInt8
  L : List (Nat × Nat)
  lv : Int → Option Int
  fm : Int → Option (List Int)
/-- The live blocks' bytes. -/
def liveSum (L : List (Nat × Nat)) (lv : Int → Option Int) : Nat := (L.map (fun x => if (lv (x.1 : Int)).isSome then x.2 else 0)).sum
theorem liveSum_congr {L : List (Nat × Nat)} {f g : Int → Option Int} (h : ∀ x ∈ L, (f (x.1 : Int)).isSome = (g (x.1 : Int)).isSome) : liveSum L f = liveSum L g := by
  unfold liveSum
  congr 1
  exact List.map_congr_left (fun x hx => by rw [h x hx])
theorem liveSum_append (L M : List (Nat × Nat)) (f : Int → Option Int) : liveSum (L ++ M) f = liveSum L f + liveSum M f := by simp [liveSum]
theorem liveSum_cons (x : Nat × Nat) (L : List (Nat × Nat)) (f : Int → Option Int) : liveSum (x :: L) f = (if (f (x.1 : Int)).isSome then x.2 else 0) + liveSum L f := by simp [liveSum]
/-- The free blocks: each list has blocks of its class that are not live, each once; and each block that is not live is in its list. -/
structure FreeOK (L : List (Nat × Nat)) (lv : Int → Option Int) (fm : Int → Option (List Int)) : Prop where
  nodup : ∀ x xs, fm x = some xs → xs.Nodup
  size : ∀ x xs, fm x = some xs → ∃ y ∈ L, x = (y.2 : Int)
  mem : ∀ x xs, fm x = some xs → ∀ z ∈ xs, lv z = none ∧ ∃ y ∈ L, z = (y.1 : Int) ∧ x = (y.2 : Int)
  all : ∀ y ∈ L, lv (y.1 : Int) = none → ∃ xs, fm (y.2 : Int) = some xs ∧ (y.1 : Int) ∈ xs
/-- What always holds of it. -/
structure AD.Fine (d : AD) : Prop where
  tiles : Tiles 16 d.L d.bs.length
  live : ∀ x s, d.lv x = some s → ∃ o n : Nat, x = o ∧ s = n ∧ (o, n) ∈ d.L
  most : d.bs.length ≤ 134217728
  lim : d.limit ≤ 2097152
  use : d.used ≤ d.limit
  sum : d.used = liveSum d.L d.lv
  free : FreeOK d.L d.lv d.fm

/-- Is the span inside the live block x? -/
def AD.inB (d : AD) (off n : Int) (x : Nat × Nat) : Bool := decide (d.lv x.1 = some (x.2 : Int)) && decide (0 ≤ n ∧ (x.1 : Int) ≤ off ∧ off - x.1 ≤ (x.2 : Int) - n)
/-- Is it inside some live block? -/
def AD.goodB (d : AD) (off n : Int) : Bool := d.L.any (d.inB off n)
theorem AD.goodB_true {d : AD} {off n : Int} (h : d.goodB off n = true) : ∃ x ∈ d.L, d.lv x.1 = some (x.2 : Int) ∧ 0 ≤ n ∧ (x.1 : Int) ≤ off ∧ off - x.1 ≤ (x.2 : Int) - n := by
  obtain ⟨x, hx, hi⟩ := List.any_eq_true.1 h
  simp only [AD.inB, Bool.and_eq_true, decide_eq_true_eq] at hi
  exact ⟨x, hx, hi.1, hi.2.1, hi.2.2.1, hi.2.2.2⟩
theorem AD.goodB_mk {d : AD} {off n : Int} {x : Nat × Nat} (hx : x ∈ d.L) (h1 : d.lv x.1 = some (x.2 : Int)) (h2 : 0 ≤ n) (h3 : (x.1 : Int) ≤ off) (h4 : off - x.1 ≤ (x.2 : Int) - n) : d.goodB off n = true :=
  List.any_eq_true.2 ⟨x, hx, by simp [AD.inB, h1, h2, h3, h4]⟩
/-- A good span lies in the memory. -/
theorem AD.Fine.span {d : AD} (F : d.Fine) {off n : Int} (h : d.goodB off n = true) : ∃ o k : Nat, off = o ∧ n = k ∧ 16 ≤ o ∧ o + k ≤ d.bs.length := by
  obtain ⟨x, hx, _, h0, h1, h2⟩ := AD.goodB_true h
  have := tiles_mem F.tiles hx
  exact ⟨off.toNat, n.toNat, by omega, by omega, by omega, by omega⟩
theorem AD.Fine.inside {d : AD} (F : d.Fine) {off n : Int} (h : d.goodB off n = true) : insideB d.bs.length off n = true := by
  obtain ⟨o, k, rfl, rfl, _, h⟩ := F.span h
  exact insideB_mk h

/-- What inside answers at the block of number k. -/
def AD.insideAt (d : AD) (k off n : Int) : Bool := if k < 0 ∨ n < 0 then false else match d.L[k.toNat]? with
  | some x => (d.lv x.1).isSome && decide (off - x.1 ≤ ((d.lv x.1).getD 0) - n)
  | none => false
def AD.begins (d : AD) : List Int := d.L.map (fun x => (x.1 : Int))
theorem AD.begins_length (d : AD) : d.begins.length = d.L.length := by simp [AD.begins]

theorem countP_lt_of_sorted : ∀ {l : List Int} {x : Int}, l.Pairwise (· < ·) → ∀ {i : Nat} (hi : i < l.length), (l[i] < x ↔ i < l.countP (fun y => decide (y < x)))
  | [], _, _, i, hi => by simp at hi
  | a :: r, x, h, 0, _ => by
    obtain ⟨h1, h2⟩ := List.pairwise_cons.1 h
    by_cases ha : a < x
    · simp [ha]
    · have hr : r.countP (fun y => decide (y < x)) = 0 := by
        rw [List.countP_eq_zero]
        intro y hy
        have := h1 y hy
        simp
        omega
      simp [ha, hr]
  | a :: r, x, h, i + 1, hi => by
    obtain ⟨h1, h2⟩ := List.pairwise_cons.1 h
    have hi' : i < r.length := by simpa using hi
    have := countP_lt_of_sorted (x := x) h2 hi'
    by_cases ha : a < x
    · simp only [List.getElem_cons_succ, List.countP_cons, ha, decide_true, if_true]
      omega
    · have hr : r.countP (fun y => decide (y < x)) = 0 := by
        rw [List.countP_eq_zero]
        intro y hy
        have := h1 y hy
        simp
        omega
      have hm : r[i] ∈ r := List.getElem_mem hi'
      have := h1 _ hm
      simp only [List.getElem_cons_succ, List.countP_cons, ha, hr]
      simp
      omega
theorem AD.Fine.begins_sorted {d : AD} (F : d.Fine) : d.begins.Pairwise (· < ·) := by
  have := tiles_sorted F.tiles
  unfold AD.begins
  rw [List.pairwise_map] at this ⊢
  exact this.imp (fun h => by omega)

/-- The two looks together tell whether the span is good. -/
theorem AD.Fine.good_eq {d : AD} (F : d.Fine) (off n : Int) :
    ((d.begins.contains off && d.insideAt (d.begins.countP (fun y => decide (y < off)) : Nat) off n) || d.insideAt ((d.begins.countP (fun y => decide (y < off)) : Nat) - 1) off n) = d.goodB off n := by
  have hS := F.begins_sorted
  have hC := fun {i : Nat} (hi : i < d.begins.length) => countP_lt_of_sorted (x := off) hS hi
  have hget : ∀ {i : Nat} (hi : i < d.L.length), d.begins[i]'(by rw [AD.begins_length]; exact hi) = (d.L[i].1 : Int) := fun hi => by simp [AD.begins]
  generalize hq : d.begins.countP (fun y => decide (y < off)) = q at *
  have hql : q ≤ d.L.length := by rw [← hq, ← AD.begins_length]; exact List.countP_le_length
  have hone : ∀ {k : Nat} (hk : k < d.L.length), (d.L[k].1 : Int) ≤ off → d.insideAt k off n = true → d.goodB off n = true := fun {k} hk hle h => by
    unfold AD.insideAt at h
    split at h
    · cases h
    · rename_i hn
      rw [Int.toNat_natCast, List.getElem?_eq_getElem hk] at h
      simp only [Bool.and_eq_true, decide_eq_true_eq, Option.isSome_iff_exists] at h
      obtain ⟨⟨s, hs⟩, h2⟩ := h
      obtain ⟨o, m, e1, e2, hm⟩ := F.live _ _ hs
      have hm2 : (d.L[k].1, d.L[k].2) ∈ d.L := List.getElem_mem hk
      have e3 := tiles_unique F.tiles hm hm2 (by simp; omega)
      rw [hs] at h2
      simp at e3 h2
      exact AD.goodB_mk hm2 (by rw [hs, e2, e3.2]) (by omega) hle (by rw [← e3.2]; omega)
  have hback : ∀ {k : Nat} (hk : k < d.L.length), d.lv d.L[k].1 = some (d.L[k].2 : Int) → 0 ≤ n → off - d.L[k].1 ≤ (d.L[k].2 : Int) - n → d.insideAt k off n = true := fun {k} hk h1 h2 h3 => by
    unfold AD.insideAt
    rw [if_neg (by omega), Int.toNat_natCast, List.getElem?_eq_getElem hk]
    simp [h1, h3]
  rw [Bool.eq_iff_iff]
  constructor
  · intro h
    rw [Bool.or_eq_true, Bool.and_eq_true] at h
    rcases h with ⟨h1, h2⟩ | h2
    · rw [List.contains_iff_mem] at h1
      obtain ⟨i, hi, e⟩ := List.getElem_of_mem h1
      have hi' : i < d.L.length := by rw [← AD.begins_length]; exact hi
      have e' := hget hi'
      have hiq : i = q := by
        have h3 := hC hi
        rw [e] at h3
        have h4 : ¬ i < q := fun h => by have := h3.2 h; omega
        rcases Nat.lt_or_ge q i with h5 | h5
        · have h6 := hC (i := q) (by omega)
          have h7 : d.begins[q]'(by omega) < d.begins[i] := (List.pairwise_iff_getElem.1 hS) q i (by omega) hi h5
          rw [e] at h7
          have := h6.1 h7
          omega
        · omega
      subst hiq
      exact hone hi' (by rw [← e', e]; omega) h2
    · by_cases h0 : q = 0
      · subst h0
        simp [AD.insideAt] at h2
      · have hq1 : ((q : Nat) : Int) - 1 = ((q - 1 : Nat) : Int) := by omega
        rw [hq1] at h2
        have hk : q - 1 < d.L.length := by omega
        have h3 := (hC (i := q - 1) (by rw [AD.begins_length]; exact hk)).2 (by omega)
        rw [hget hk] at h3
        exact hone hk (by omega) h2
  · intro h
    obtain ⟨x, hx, h1, h2, h3, h4⟩ := AD.goodB_true h
    obtain ⟨k, hk, e⟩ := List.getElem_of_mem hx
    subst e
    have hin := hback hk h1 h2 h4
    have hkb : k < d.begins.length := by rw [AD.begins_length]; exact hk
    have hck := hC hkb
    rw [hget hk] at hck
    rw [Bool.or_eq_true, Bool.and_eq_true]
    by_cases he : (d.L[k].1 : Int) = off
    · left
      refine ⟨?_, ?_⟩
      · rw [List.contains_iff_mem, ← he, ← hget hk]
        exact List.getElem_mem hkb
      · have : q = k := by
          have h5 : ¬ k < q := fun h => by have := hck.2 h; omega
          rcases Nat.lt_or_ge q k with h6 | h6
          · have h8 := hC (i := q) (by omega)
            have h7 : d.begins[q]'(by omega) < d.begins[k] := (List.pairwise_iff_getElem.1 hS) q k (by omega) hkb h6
            rw [hget hk, he] at h7
            have := h8.1 h7
            omega
          · omega
        rw [this]
        exact hin
    · right
      have h5 : k < q := hck.1 (by omega)
      have h6 : q ≤ k + 1 := by
        rcases Nat.lt_or_ge (k + 1) q with h7 | h7
        · have hk1 : k + 1 < d.L.length := by omega
          have h8 := (hC (i := k + 1) (by rw [AD.begins_length]; exact hk1)).2 h7
          rw [hget hk1, (tiles_get F.tiles hk).1 hk1] at h8
          omega
        · exact h7
      have : ((q : Nat) : Int) - 1 = (k : Int) := by omega
      rw [this]
      exact hin
end Go.Proofs.Ytgmcpjklgacdpaa
