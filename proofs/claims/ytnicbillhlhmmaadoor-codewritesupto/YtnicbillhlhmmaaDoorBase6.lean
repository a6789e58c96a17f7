/-
  Plain laws on lists that are appended to one by one: where each lies, and what stays.
-/
import Derived.Test.YtnicbillhlhmmaaDoorBase3
import Derived.Deep.AppendLies
namespace Go.Proofs.YtnicbillhlhmmaaDoor
open Go.RowKit

theorem Keeps.ofGrown {w w' : World} {row : Option Nat} (h : w.grownBy w' row) : Keeps w w' (fun k => row = some k) :=
  ⟨h.os, h.tape, h.output, h.size, fun k hk hn => h.block k hk (fun e => hn e.symm)⟩
/-- An owned row stays owned where its block stays. -/
theorem ownsRow_keeps {w w' : World} {base : Nat} {e : TypeId} {size : Nat} {v : Value} {n : Nat} {xs : List Value} {S : Nat → Prop} (h : w.ownsRow base e size v n xs) (k : Keeps w w' S) (hS : ∀ g, v.ownBlock = some g → ¬ S g) : w'.ownsRow base e size v n xs := by
  obtain ⟨h1, h2⟩ := h
  refine ⟨h1, ?_⟩
  rcases h2 with h2 | ⟨g, cap, cur, hv, hb, hg, r⟩
  · exact Or.inl h2
  · refine Or.inr ⟨g, cap, cur, hv, hb, ?_, r⟩
    rw [k.block g (heap_lt hg) (hS g (by rw [hv]; rfl))]
    exact hg
theorem ownsRow_drew {w : World} {base : Nat} {e : TypeId} {size : Nat} {v : Value} {n : Nat} {xs : List Value} (h : w.ownsRow base e size v n xs) : w.drew.ownsRow base e size v n xs := h
/-- A row's block: its elements' type, that it is there. -/
theorem ownsRow_block {w : World} {base : Nat} {e : TypeId} {size : Nat} {v : Value} {n : Nat} {xs : List Value} (h : w.ownsRow base e size v n xs) {g : Nat} (hv : v.ownBlock = some g) : base ≤ g ∧ ∃ cur, w.heap[g]? = some (.cells cur e (0, 0)) := by
  rcases h.2 with ⟨h2, _⟩ | ⟨g', cap, cur, h2, hb, hg, _⟩
  · rw [h2] at hv; cases hv
  · rw [h2] at hv
    have : g' = g := by simpa [Value.ownBlock] using hv
    subst this
    exact ⟨hb, cur, hg⟩

section
variable {P : Program}
/-- One element is appended: the element's cell lies in block h. -/
theorem append_one (t e : TypeId) (z : Value) (bytes : Nat) (ht : P.underlying t = some (.slice e)) (hi : (P.info? e).map (fun i => (i.zero, i.size, i.bytes)) = some (some z, 1, bytes)) (hz1 : z.cells.size = 1)
    {w : World} {base : Nat} {v : Value} {n : Nat} {xs : List Value} (hown : w.ownsRow base e 1 v n xs) {h : Nat} {u : Value} {ut : TypeId} {fz : Nat × Nat} (hu : w.heap[h]? = some (.cells #[u] ut fz)) (h1 : u.oneCell' = true)
    (hbytes : (n + 1) * bytes ≤ 140737488355328) (hbn : n + 1 ≤ maxLen) (hbase : base ≤ w.heap.size) :
    ∃ g cap w', (∀ ty, (Builtin.append_ #[t, t] ty #[v, .slice (some ⟨h, 0, none⟩) 1 1]).run P w = .ok (.slice (some ⟨g, 0, none⟩) (n + 1) cap) w') ∧
      w'.ownsRow base e 1 (.slice (some ⟨g, 0, none⟩) (n + 1) cap) (n + 1) (xs ++ [u]) ∧ Keeps w w' (fun k => v.ownBlock = some k) ∧ (v.ownBlock = some g ∨ g = w.heap.size) := by
  obtain ⟨i, hi1, hi2, hi3, hi4⟩ := info_parts hi
  obtain ⟨g, cap, w', hr, h2, h3, h4, _⟩ := run_append_lies (P := P) w t 0 base e i z 1 bytes ht hi1 hi2 hi3 hi4 hz1 (by omega) v n xs hown ⟨h, 0, none⟩ 1 1 [u] rfl
    (fun j x hj => by
      match j, hj with
      | 0, hj =>
        simp at hj
        subst hj
        rw [addr_add]
        simp [World.cell?, hu]) (fun x hx => by simp at hx; subst hx; exact h1) (by omega) hbn hbytes hbase w.heap.size rfl
  exact ⟨g, cap, w', fun ty => hr, h2, Keeps.ofGrown h3, h4⟩

/-- A text as a new list of bytes: the room behind it may be written. -/
theorem bytes_of_room (w : World) (src dst e : TypeId) (s : ByteArray) (hs : P.underlying src = some .string) (hd : P.underlying dst = some (.slice e)) (he : P.underlying e = some (.int .u8)) :
    ∃ w2 c fz, (convert src dst (.string s)).run P w = .ok (.slice (some ⟨w.heap.size, 0, none⟩) s.size c) w2 ∧ Keeps w w2 (fun _ => False) ∧ w2.heap.size = w.heap.size + 1 ∧ s.size ≤ c ∧ c ≤ fz.1 ∧
      w2.heap[w.heap.size]? = some (.cells (rowOf (s.data.toList ++ zeros (c - s.size))) e fz) := by
  have h := run_bytes_of_string (P := P) w src dst e s hs hd he
  have hge := grownCap_ge w s.size 0 e
  have hrow : ∀ c, bytesRow s c = rowOf (s.data.toList ++ zeros (c - s.size)) := fun c => by
    apply Array.ext'
    simp [bytesRow, rowOf, cellsOf, zeros, cellOf]
  refine ⟨_, _, ((bytesRow s (grownCap w s.size 0 e)).size, (bytesRow s (grownCap w s.size 0 e)).size + 1), h, ((Keeps.refl _ _).drew).alloc _, by simp, hge, ?_, ?_⟩
  · rw [hrow, rowOf_size]
    simp [zeros_length]
    omega
  · rw [← hrow]
    exact heap_alloc_new w.drew _

/-- One byte behind a list of bytes. -/
theorem append_byte (t E : TypeId) (ht : P.underlying t = some (.slice E)) (hi : (P.info? E).map (fun i => (i.zero, i.size, i.bytes)) = some (some (.int .u8 0), 1, 1))
    {w : World} {h p n c : Nat} {x y : List UInt8} {fz fp : Nat × Nat} {ut : TypeId} {u : UInt8} (hr : w.heap[h]? = some (.cells (rowOf (x ++ y)) E fz)) (hn : n = x.length) (hy : x.length + y.length = c) (hfz : c ≤ fz.1) (hu : w.heap[p]? = some (.cells #[.int .u8 (u.toNat : Int)] ut fp))
    (hx : x.length ≤ 1099511627776) :
    ∃ g c2 w2 y2 f2, (∀ ty, (Builtin.append_ #[t, t] ty #[.slice (some ⟨h, 0, none⟩) n c, .slice (some ⟨p, 0, none⟩) 1 1]).run P w = .ok (.slice (some ⟨g, 0, none⟩) (n + 1) c2) w2) ∧
      w2.heap[g]? = some (.cells (rowOf (x ++ [u] ++ y2)) E f2) ∧ Keeps w w2 (fun k => k = h) ∧ (g = h ∨ g = w.heap.size) ∧ n + 1 ≤ c2 ∧ (f2 = (0, 0) ∨ n + 1 ≤ f2.1) := by
  subst hn
  obtain ⟨i, h1, h2, h3, h4⟩ := info_parts hi
  have hsrc : ∀ j v, [Value.int .u8 (u.toNat : Int)][j]? = some v → w.cell? ((⟨p, 0, none⟩ : Addr).add j) = some v := fun j v hj => by
    match j, hj with
    | 0, hj =>
      simp at hj
      subst hj
      rw [addr_add]
      simp [World.cell?, hu]
  by_cases hroom : x.length + 1 ≤ c
  · have hf := run_firstCells_some (P := P) w i.size 1 ⟨p, 0, none⟩ 1 1 [Value.int .u8 (u.toNat : Int)] (by rw [h3]; rfl) hsrc
    have hyl : 0 < y.length := by omega
    have hst := run_storeCells_cells (P := P) h (x.length * i.size) [Value.int .u8 (u.toNat : Int)] 0 w
      (fun j hj => by
        have hj0 : j = 0 := by simpa using hj
        subst hj0
        rw [h3]
        have := rowOf_get (x ++ y) (x.length * 1 + 0 + 0) (by simp; omega)
        simp only [World.cell?, hr]
        simp only [Option.isSome_none, Bool.false_eq_true, if_false]
        rw [this]
        rfl)
      (fun j hj => by
        have hj0 : j = 0 := by simpa using hj
        subst hj0
        simp only [World.frozen?, hr]
        rw [Bool.and_eq_false_iff]
        left
        rw [decide_eq_false_iff_not, h3]
        omega) (fun v hv => by simp at hv; subst hv; rfl)
    simp only [Nat.add_zero] at hst
    refine ⟨h, c, w.setCell ⟨h, x.length * i.size, none⟩ (.int .u8 (u.toNat : Int)), y.drop 1, fz, fun ty => ?_, ?_, ?_, Or.inl rfl, hroom, Or.inr (by omega)⟩
    · simp [Builtin.append_, run_underlying ht, sizeOf, typeInfo, h1, Builtin.lenOf, hroom, hf, Addr.add_lit, hst]
      rfl
    · rw [h3, Nat.mul_one, setCell_eq_setRow w h x.length _ E fz _ hr, heap_setRow_same hr]
      congr 2
      apply Array.ext'
      rw [Array.toList_setIfInBounds, rowOf_toList, rowOf_toList]
      obtain ⟨y0, yr, rfl⟩ : ∃ a b, y = a :: b := by
        cases y with
        | nil => simp at hyl
        | cons a b => exact ⟨a, b, rfl⟩
      simp [cellsOf, cellOf]
    · exact (Keeps.refl w (fun k => k = h)).setCell ⟨h, x.length * i.size, none⟩ (fun _ => rfl) _
  · have hcx : c = x.length := by omega
    have hy0 : y = [] := List.eq_nil_of_length_eq_zero (by omega)
    subst hy0
    have holds : ∀ j v, (cellsOf x)[j]? = some v → w.cell? ((⟨h, 0, none⟩ : Addr).add j) = some v := fun j v hj => by
      rw [addr_add, Nat.zero_add]
      simp only [World.cell?, hr]
      simpa [rowOf] using hj
    have hg := fun ty => run_append_grow (P := P) w t ty E i (.int .u8 0) ht h1 h2 ⟨h, 0, none⟩ x.length c (cellsOf x) (by rw [h3, cellsOf_length, Nat.mul_one]) holds ⟨p, 0, none⟩ 1 1 [Value.int .u8 (u.toNat : Int)] (by rw [h3]; rfl) hsrc (by omega) (by omega)
      (by have := nextslicecap_le (need := x.length + 1) (old := c) (by omega); rw [h4]; omega)
    refine ⟨w.heap.size, _, _, zeros (grownCap w (x.length + 1) c E - (x.length + 1)), (0, 0), hg, ?_, ((Keeps.refl _ _).drew).alloc _, Or.inr rfl, grownCap_ge w (x.length + 1) c E, Or.inl rfl⟩
    have hnew := heap_alloc_new w.drew (.cells ((cellsOf x).toArray ++ [Value.int .u8 (u.toNat : Int)].toArray ++ Builtin.zeroCells (Value.int .u8 0).cells (grownCap w (x.length + 1) c E - (x.length + 1))) E)
    refine Eq.trans hnew ?_
    congr 2
    apply Array.ext'
    rw [rowOf_toList]
    simp [cellsOf, cellOf, zeros, Builtin.zeroCells, Value.cells]
    apply List.ext_getElem
    · simp
    · intro j a b
      simp [Nat.mod_one]
end
end Go.Proofs.YtnicbillhlhmmaaDoor
