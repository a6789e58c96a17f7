import Derived.Test.YtgckinldnnckoaaGreatDoorRows
import Derived.OneCell
import Derived.Lib.SmallJoins
import Derived.WalkKit
import Derived.Outline
import Derived.Shelf.Abstract
import Derived.Laws.IdiomStrings
import Derived.Lib.Strings
import Derived.Deep.QuietTactic
import Derived.BigQuiet
import Derived.Test.YtgckinldnnckoaaGreatDoorPn2
/-
  Heaps of integers: as lists, what container/heap keeps; in the memory; several of them.
-/
namespace Go.Proofs.YtgckinldnnckoaaGreatDoor
open Go.RowKit

def cellI (x : Int) : Value := .int .i64 x

theorem ne_of_obj {w : World} {x y : Nat} {o1 o2 : Obj} (h1 : w.heap[x]? = some o1) (h2 : w.heap[y]? = some o2) (h : o1 ≠ o2) : x ≠ y := fun e => by
  subst e
  rw [h1] at h2
  exact h (by cases h2; rfl)
theorem own_obj {w : World} {v : Value} {n : Nat} {xs : List Value} {k : Nat} (h : w.ownsRow 0 3 1 v n xs) (hv : v.ownBlock = some k) : ∃ cur, w.heap[k]? = some (.cells cur 3 (0, 0)) := (ownsRow_block h hv).2

def at0 (xs : List Int) (k : Nat) : Int := xs.getD k 0
def sw (xs : List Int) (i j : Nat) : List Int := (xs.set i (at0 xs j)).set j (at0 xs i)
theorem sw_length (xs : List Int) (i j : Nat) : (sw xs i j).length = xs.length := by simp [sw]
theorem at0_of_lt {xs : List Int} {k : Nat} (h : k < xs.length) : xs[k]? = some (at0 xs k) := by
  simp [at0, List.getElem?_eq_getElem h]
theorem sw_at {xs : List Int} {i j : Nat} (hi : i < xs.length) (hj : j < xs.length) (k : Nat) : at0 (sw xs i j) k = if k = j then at0 xs i else if k = i then at0 xs j else at0 xs k := by
  unfold sw
  simp only [at0, List.getD_eq_getElem?_getD, List.getElem?_set, List.length_set]
  by_cases h1 : k = j
  · subst h1
    simp [hj]
  · rw [if_neg (fun e => h1 e.symm), if_neg h1]
    by_cases h2 : k = i
    · subst h2
      simp [hi]
    · rw [if_neg (fun e => h2 e.symm), if_neg h2]
theorem sw_perm {xs : List Int} {i j : Nat} (hi : i < xs.length) (hj : j < xs.length) : (sw xs i j).Perm xs := by
  have h := Array.swap_perm (xs := xs.toArray) (i := i) (j := j) (by simpa using hi) (by simpa using hj)
  have e : (xs.toArray.swap i j (by simpa using hi) (by simpa using hj)).toList = sw xs i j := by
    simp [Array.swap, sw, at0, hi, hj]
  have h2 := Array.perm_iff_toList_perm.1 h
  rw [e] at h2
  simpa using h2

def Heapy (n : Nat) (xs : List Int) : Prop := ∀ k, 0 < k → k < n → at0 xs ((k - 1) / 2) ≤ at0 xs k
def UpInv (xs : List Int) (j : Nat) : Prop := (∀ k, 0 < k → k < xs.length → k ≠ j → at0 xs ((k - 1) / 2) ≤ at0 xs k) ∧ (∀ k, 0 < k → k < xs.length → (k - 1) / 2 = j → 0 < j → at0 xs ((j - 1) / 2) ≤ at0 xs k)
def DownInv (n : Nat) (xs : List Int) (i : Nat) : Prop := (∀ k, 0 < k → k < n → (k - 1) / 2 ≠ i → at0 xs ((k - 1) / 2) ≤ at0 xs k) ∧ (∀ k, 0 < k → k < n → (k - 1) / 2 = i → 0 < i → at0 xs ((i - 1) / 2) ≤ at0 xs k)

theorem Heapy.least {n : Nat} {xs : List Int} (h : Heapy n xs) : ∀ k, k < n → at0 xs 0 ≤ at0 xs k := by
  intro k
  induction k using Nat.strongRecOn with
  | _ k ih =>
    intro hk
    by_cases h0 : k = 0
    · subst h0
      exact Int.le_refl _
    · exact Int.le_trans (ih ((k - 1) / 2) (by omega) (by omega)) (h k (by omega) hk)
theorem UpInv.start {xs : List Int} {x : Int} (h : Heapy xs.length xs) : UpInv (xs ++ [x]) xs.length := by
  have ha : ∀ k, k < xs.length → at0 (xs ++ [x]) k = at0 xs k := fun k hk => by simp [at0, List.getElem?_append_left hk]
  refine ⟨fun k h0 hk hne => ?_, fun k h0 hk hp _ => ?_⟩
  · simp at hk
    rw [ha _ (by omega), ha _ (by omega)]
    exact h k h0 (by omega)
  · simp at hk
    omega
theorem UpInv.stop {xs : List Int} {j : Nat} (h : UpInv xs j) (hs : j = 0 ∨ at0 xs ((j - 1) / 2) ≤ at0 xs j) : Heapy xs.length xs := by
  intro k h0 hk
  by_cases e : k = j
  · subst e
    rcases hs with e | e
    · omega
    · exact e
  · exact h.1 k h0 hk e
theorem UpInv.step {xs : List Int} {j : Nat} (h : UpInv xs j) (hj : j < xs.length) (h0 : 0 < j) (hs : at0 xs j < at0 xs ((j - 1) / 2)) : UpInv (sw xs ((j - 1) / 2) j) ((j - 1) / 2) := by
  have hi : (j - 1) / 2 < xs.length := by omega
  have g := sw_at (xs := xs) hi hj
  have hij : (j - 1) / 2 ≠ j := by omega
  refine ⟨fun k hk0 hk hne => ?_, fun k hk0 hk hp hi0 => ?_⟩
  · rw [sw_length] at hk
    rw [g, g]
    by_cases e1 : k = j
    · subst e1
      rw [if_neg hij, if_pos rfl, if_pos rfl]
      omega
    · rw [if_neg e1, if_neg hne]
      by_cases e2 : (k - 1) / 2 = j
      · rw [if_pos e2]
        exact h.2 k hk0 hk e2 h0
      · rw [if_neg e2]
        by_cases e3 : (k - 1) / 2 = (j - 1) / 2
        · rw [if_pos e3]
          have := h.1 k hk0 hk e1
          rw [e3] at this
          omega
        · rw [if_neg e3]
          exact h.1 k hk0 hk e1
  · rw [sw_length] at hk
    have hpar := h.1 ((j - 1) / 2) hi0 hi hij
    rw [g, g, if_neg (by omega), if_neg (by omega)]
    by_cases e1 : k = j
    · subst e1
      rw [if_pos rfl]
      exact hpar
    · rw [if_neg e1, if_neg (by omega)]
      have := h.1 k hk0 hk e1
      rw [hp] at this
      exact Int.le_trans hpar this
theorem DownInv.start {n : Nat} {xs : List Int} (hn : n < xs.length) (h : Heapy xs.length xs) : DownInv n (sw xs 0 n) 0 := by
  have g := sw_at (xs := xs) (i := 0) (j := n) (by omega) hn
  refine ⟨fun k h0 hk hne => ?_, fun k h0 hk hp hi => by omega⟩
  rw [g, g, if_neg (by omega), if_neg (by omega), if_neg (by omega), if_neg (by omega)]
  exact h k h0 (by omega)
theorem DownInv.stop {n : Nat} {xs : List Int} {i : Nat} (h : DownInv n xs i) (hs : ∀ k, 0 < k → k < n → (k - 1) / 2 = i → at0 xs i ≤ at0 xs k) : Heapy n xs := by
  intro k h0 hk
  by_cases e : (k - 1) / 2 = i
  · rw [e]
    exact hs k h0 hk e
  · exact h.1 k h0 hk e
theorem DownInv.step {n : Nat} {xs : List Int} {i j : Nat} (h : DownInv n xs i) (hn : n ≤ xs.length) (hj0 : 0 < j) (hj : j < n) (hp : (j - 1) / 2 = i) (hs : at0 xs j < at0 xs i)
    (hm : ∀ k, 0 < k → k < n → (k - 1) / 2 = i → at0 xs j ≤ at0 xs k) : DownInv n (sw xs i j) j := by
  have hi : i < n := by omega
  have g := sw_at (xs := xs) (i := i) (j := j) (by omega) (by omega)
  refine ⟨fun k hk0 hk hne => ?_, fun k hk0 hk hpk _ => ?_⟩
  · rw [g, g, if_neg hne]
    by_cases e1 : k = j
    · subst e1
      rw [if_pos hp, if_pos rfl]
      omega
    · rw [if_neg e1]
      by_cases e2 : (k - 1) / 2 = i
      · rw [if_pos e2, if_neg (by omega)]
        exact hm k hk0 hk e2
      · rw [if_neg e2]
        by_cases e3 : k = i
        · rw [if_pos e3]
          subst e3
          exact h.2 j hj0 hj hp hk0
        · rw [if_neg e3]
          exact h.1 k hk0 hk e2
  · rw [g, g, hp, if_neg (by omega), if_pos rfl, if_neg (by omega), if_neg (by omega)]
    have := h.1 k hk0 hk (by omega)
    rw [hpk] at this
    exact this

structure HeapAt (w : World) (hb : Nat) (v : Value) (xs : List Int) : Prop where
  hp : w.heap[hb]? = some (.cells #[v] 213)
  row : w.ownsRow 0 3 1 v xs.length (xs.map cellI)

theorem row_set {w : World} {g n cap : Nat} {xs : List Value} (h : w.ownsRow 0 3 1 (.slice (some ⟨g, 0, none⟩) n cap) n xs) (i : Nat) (u : Value) : (w.setCell ⟨g, i, none⟩ u).ownsRow 0 3 1 (.slice (some ⟨g, 0, none⟩) n cap) n (xs.set i u) := by
  obtain ⟨h1, h2⟩ := h
  rcases h2 with ⟨e, _⟩ | ⟨g', cap', cur, hv, hg, hh, hn, hm, hs, ht⟩
  · cases e
  · cases hv
    have hlt := lt_of_block hh
    have hv' := (Array.getElem?_eq_some_iff.1 hh).2
    refine ⟨by simpa using h1, .inr ⟨g, cap, cur.setIfInBounds i u, rfl, hg, ?_, hn, hm, by simpa using hs, ?_⟩⟩
    · simp only [World.setCell, Array.getElem?_modify]
      simp [hlt, hv']
    · rw [← ht]
      simp [List.take_set]

section
variable {w : World} {hb : Nat} {v : Value} {xs : List Int} (h : HeapAt w hb v xs)
include h
theorem HeapAt.cell : w.cell? ⟨hb, 0, none⟩ = some v := cell_of_one h.hp
theorem HeapAt.frozen : w.frozen? ⟨hb, 0, none⟩ = false := free_of_one h.hp
theorem HeapAt.ne {k : Nat} (hk : v.ownBlock = some k) : hb ≠ k := by
  obtain ⟨cur, hh⟩ := own_obj h.row hk
  exact ne_of_obj h.hp hh (by simp)
theorem HeapAt.lt : hb < w.heap.size := heap_lt h.hp
theorem HeapAt.row_lt {k : Nat} (hk : v.ownBlock = some k) : k < w.heap.size := by
  obtain ⟨cur, hh⟩ := own_obj h.row hk
  exact heap_lt hh
theorem HeapAt.keeps {w' : World} {S : Nat → Prop} (k : Keeps w w' S) (h1 : ¬ S hb) (h2 : ∀ k, v.ownBlock = some k → ¬ S k) : HeapAt w' hb v xs :=
  ⟨(k.block hb (heap_lt h.hp) h1).trans h.hp, ownsRow_keeps h.row k h2⟩
theorem HeapAt.form (hx : 0 < xs.length) : ∃ g cap, v = .slice (some ⟨g, 0, none⟩) xs.length cap ∧ xs.length ≤ cap ∧ cap ≤ maxLen ∧ (∀ i, i < xs.length → w.cell? ⟨g, i, none⟩ = some (.int .i64 (at0 xs i))) ∧ ∀ i, w.frozen? ⟨g, i, none⟩ = false := by
  obtain ⟨_, h2⟩ := h.row
  rcases h2 with ⟨e, e2⟩ | ⟨g, cap, cur, hv, hg, hh, hn, hm, hs, ht⟩
  · omega
  · refine ⟨g, cap, hv, hn, hm, fun i hi => ?_, fun i => by simp [World.frozen?, hh]⟩
    have e1 : (cur.toList.take (xs.length * 1))[i]? = (xs.map cellI)[i]? := by rw [ht]
    rw [List.getElem?_take, if_pos (by omega), List.getElem?_map, at0_of_lt hi] at e1
    simp [World.cell?, hh]
    simpa [cellI] using e1
end

theorem HeapAt.swapped {w : World} {hb g cap : Nat} {xs : List Int} (h : HeapAt w hb (.slice (some ⟨g, 0, none⟩) xs.length cap) xs) (i j : Nat) :
    HeapAt ((w.setCell ⟨g, i, none⟩ (.int .i64 (at0 xs j))).setCell ⟨g, j, none⟩ (.int .i64 (at0 xs i))) hb (.slice (some ⟨g, 0, none⟩) xs.length cap) (sw xs i j) := by
  have hne : hb ≠ g := h.ne rfl
  refine ⟨?_, ?_⟩
  · rw [Below.heap_setCell _ _ _ _ (fun e => hne e), Below.heap_setCell _ _ _ _ (fun e => hne e)]
    exact h.hp
  · have := row_set (row_set h.row i (.int .i64 (at0 xs j))) j (.int .i64 (at0 xs i))
    simpa [sw, cellI, List.map_set] using this


/-- The heaps' blocks. -/
def heapsFoot (hb : Int → Option Nat) (fv : Int → Value) (k : Nat) : Prop := ∃ x b, hb x = some b ∧ (k = b ∨ (fv x).ownBlock = some k)
/-- A heap for each class that has one (its list is told in whatever order), apart from one another and from the row v. -/
structure HeapsAt (w : World) (hb : Int → Option Nat) (fv : Int → Value) (v : Value) (fm : Int → Option (List Int)) : Prop where
  dom : ∀ x, (hb x).isSome = (fm x).isSome
  heap : ∀ x b xs, hb x = some b → fm x = some xs → ∃ ys : List Int, ys.Perm xs ∧ HeapAt w b (fv x) ys ∧ Heapy ys.length ys
  row : ∀ x b k, hb x = some b → (fv x).ownBlock = some k → v.ownBlock ≠ some k
  apart : ∀ x y b b', x ≠ y → hb x = some b → hb y = some b' → b ≠ b' ∧ ∀ k, (fv x).ownBlock = some k → (fv y).ownBlock ≠ some k

section
variable {w : World} {hb : Int → Option Nat} {fv : Int → Value} {v : Value} {fm : Int → Option (List Int)} (h : HeapsAt w hb fv v fm)
include h
theorem HeapsAt.some_of {x : Int} {b : Nat} (hx : hb x = some b) : ∃ xs ys, fm x = some xs ∧ ys.Perm xs ∧ HeapAt w b (fv x) ys ∧ Heapy ys.length ys := by
  have := h.dom x
  rw [hx] at this
  obtain ⟨xs, hxs⟩ := Option.isSome_iff_exists.1 this.symm
  obtain ⟨ys, h1⟩ := h.heap x b xs hx hxs
  exact ⟨xs, ys, hxs, h1⟩
theorem HeapsAt.none_of {x : Int} (hx : fm x = none) : hb x = none := by
  have := h.dom x
  rw [hx] at this
  cases e : hb x with
  | none => rfl
  | some b => rw [e] at this; cases this
theorem HeapsAt.block_of {x : Int} {xs : List Int} (hx : fm x = some xs) : ∃ b ys, hb x = some b ∧ ys.Perm xs ∧ HeapAt w b (fv x) ys ∧ Heapy ys.length ys := by
  have := h.dom x
  rw [hx] at this
  obtain ⟨b, hb'⟩ := Option.isSome_iff_exists.1 this
  obtain ⟨ys, h1⟩ := h.heap x b xs hb' hx
  exact ⟨b, ys, hb', h1⟩
theorem HeapsAt.obj {k : Nat} (hk : heapsFoot hb fv k) : (∃ u, w.heap[k]? = some (.cells #[u] 213)) ∨ ((∃ cur, w.heap[k]? = some (.cells cur 3 (0, 0))) ∧ v.ownBlock ≠ some k) := by
  obtain ⟨x, b, hx, hk⟩ := hk
  obtain ⟨xs, ys, hxs, _, ha, _⟩ := h.some_of hx
  rcases hk with rfl | hk
  · exact Or.inl ⟨_, ha.hp⟩
  · exact Or.inr ⟨own_obj ha.row hk, h.row x b k hx hk⟩
theorem HeapsAt.keeps {w' : World} {S : Nat → Prop} (k : Keeps w w' S) (hS : ∀ i, heapsFoot hb fv i → ¬ S i) : HeapsAt w' hb fv v fm :=
  ⟨h.dom, fun x b xs hx hxs => by
    obtain ⟨ys, h1, h2, h3⟩ := h.heap x b xs hx hxs
    exact ⟨ys, h1, h2.keeps k (hS _ ⟨x, b, hx, Or.inl rfl⟩) (fun _ hk => hS _ ⟨x, b, hx, Or.inr hk⟩), h3⟩, h.row, h.apart⟩
/-- The row has moved. -/
theorem HeapsAt.other {v' : Value} (hv : ∀ k, heapsFoot hb fv k → v'.ownBlock ≠ some k) : HeapsAt w hb fv v' fm :=
  ⟨h.dom, h.heap, fun x b _ hx hk => hv _ ⟨x, b, hx, Or.inr hk⟩, h.apart⟩
end
end Go.Proofs.YtgckinldnnckoaaGreatDoor
/-
  An arena in the memory: the struct, its bytes, its two maps and its list of offsets.
-/
namespace Go.Proofs.YtgckinldnnckoaaGreatDoor
open Go.RowKit

theorem Tryz.infoI : (Tryz.prog.info? 3).map (fun i => (i.zero, i.size, i.bytes)) = some (some (.int .i64 0), 1, 8) := by kernel_rfl
/-- A builtin append whose run is known. -/
theorem append_run {P : Program} (w : World) {ops : Array Oper} {rest : List Oper} {o : Oper} {a : Act} {Q : Exit → Act → World → Prop}
    (hgd : o.guard = none) (s x : Operand) (t : TypeId) (hop : o.op = Op.call { callee := Callee.builtin Builtin.append, args := #[s, x], argTypes := #[t, t] }) {v u v' : Value} {w' : World} (hs : a.eval s = v) (hx : a.eval x = u)
    (hrun : ∀ ty, (Builtin.append_ #[t, t] ty #[v, u]).run P w = .ok v' w') (hK : wpList P ops Q rest (a.put o.dst v') w') : wpList P ops Q (o :: rest) a w := by
  refine wpList_plain hgd fun K hK' => ?_
  unfold Oper.wp
  simp [execOp, hop, resolve, invoke, builtin, hs, hx, hrun, Result.andThen]
  exact hK' _ _ hK

/-- Where it lies. -/
structure AR where
  b : Nat
  g : Nat
  bl : Nat
  bf : Nat
  v : Value
  sp : List UInt8
  nl : Nat
  nf : Nat
  hb : Int → Option Nat
  fv : Int → Value
def AR.foot (c : AR) (p k : Nat) : Prop := k = p ∨ k = c.b ∨ k = c.g ∨ k = c.bl ∨ k = c.bf ∨ c.v.ownBlock = some k ∨ heapsFoot c.hb c.fv k
structure ArenaAt (w : World) (p : Nat) (c : AR) (d : AD) : Prop where
  hp : w.heap[p]? = some (.cells #[.int .i64 (d.limit : Int), .int .i64 (d.used : Int), .pointer (some ⟨c.b, 0, none⟩), c.v, .map (some c.bl), .map (some c.bf)] 112)
  mem : MemAt 163 5 w c.b c.g d.bs c.sp
  beg : w.ownsRow 0 3 1 c.v d.L.length (d.begins.map cellI)
  live : MapTo Tryz.prog cInt w c.bl c.nl d.lv
  free : MapTo Tryz.prog cPtr w c.bf c.nf c.hb
  hlf : c.bl ≠ c.bf
  heaps : HeapsAt w c.hb c.fv c.v d.fm

theorem MapTo.obj {α : Type} {P : Program} {c : α → DataW Unit} {w : World} {b n : Nat} {f : Int → Option α} (h : MapTo P c w b n f) : ∃ es cl, w.heap[b]? = some (.map es cl) := by
  obtain ⟨D, ⟨es, clock, hb, _⟩, _⟩ := h
  exact ⟨es, clock, hb⟩

section
variable {w : World} {p : Nat} {c : AR} {d : AD} (h : ArenaAt w p c d)
include h
theorem ArenaAt.p_b : p ≠ c.b := ne_of_obj h.hp h.mem.hb (by simp)
theorem ArenaAt.p_g : p ≠ c.g := ne_of_obj h.hp h.mem.hg (by simp)
theorem ArenaAt.p_bl : p ≠ c.bl := by obtain ⟨es, cl, hb⟩ := h.live.obj; exact ne_of_obj h.hp hb (by simp)
theorem ArenaAt.p_bf : p ≠ c.bf := by obtain ⟨es, cl, hb⟩ := h.free.obj; exact ne_of_obj h.hp hb (by simp)
theorem ArenaAt.p_v {k : Nat} (hv : c.v.ownBlock = some k) : p ≠ k := by obtain ⟨cur, hb⟩ := own_obj h.beg hv; exact ne_of_obj h.hp hb (by simp)
theorem ArenaAt.bl_b : c.bl ≠ c.b := by obtain ⟨es, cl, hb⟩ := h.live.obj; exact ne_of_obj hb h.mem.hb (by simp)
theorem ArenaAt.bl_g : c.bl ≠ c.g := by obtain ⟨es, cl, hb⟩ := h.live.obj; exact ne_of_obj hb h.mem.hg (by simp)
theorem ArenaAt.bf_b : c.bf ≠ c.b := by obtain ⟨es, cl, hb⟩ := h.free.obj; exact ne_of_obj hb h.mem.hb (by simp)
theorem ArenaAt.bf_g : c.bf ≠ c.g := by obtain ⟨es, cl, hb⟩ := h.free.obj; exact ne_of_obj hb h.mem.hg (by simp)
theorem ArenaAt.bl_v {k : Nat} (hv : c.v.ownBlock = some k) : c.bl ≠ k := by obtain ⟨es, cl, hb⟩ := h.live.obj; obtain ⟨cur, hk⟩ := own_obj h.beg hv; exact ne_of_obj hb hk (by simp)
theorem ArenaAt.bf_v {k : Nat} (hv : c.v.ownBlock = some k) : c.bf ≠ k := by obtain ⟨es, cl, hb⟩ := h.free.obj; obtain ⟨cur, hk⟩ := own_obj h.beg hv; exact ne_of_obj hb hk (by simp)
theorem ArenaAt.b_v {k : Nat} (hv : c.v.ownBlock = some k) : c.b ≠ k := by obtain ⟨cur, hk⟩ := own_obj h.beg hv; exact ne_of_obj h.mem.hb hk (by simp)
theorem ArenaAt.g_v {k : Nat} (hv : c.v.ownBlock = some k) : c.g ≠ k := by obtain ⟨cur, hk⟩ := own_obj h.beg hv; exact ne_of_obj h.mem.hg hk (by simp)
/-- The heaps' blocks are none of the others. -/
theorem ArenaAt.heap_ne {k : Nat} (hk : heapsFoot c.hb c.fv k) : k ≠ p ∧ k ≠ c.b ∧ k ≠ c.g ∧ k ≠ c.bl ∧ k ≠ c.bf ∧ c.v.ownBlock ≠ some k := by
  obtain ⟨es, cl, hl⟩ := h.live.obj
  obtain ⟨es2, cl2, hf⟩ := h.free.obj
  rcases h.heaps.obj hk with ⟨u, hu⟩ | ⟨⟨cur, hu⟩, hv⟩
  · exact ⟨ne_of_obj hu h.hp (by simp), ne_of_obj hu h.mem.hb (by simp), ne_of_obj hu h.mem.hg (by simp), ne_of_obj hu hl (by simp), ne_of_obj hu hf (by simp), fun e => by
      obtain ⟨cur, hv⟩ := own_obj h.beg e
      exact ne_of_obj hu hv (by simp) rfl⟩
  · exact ⟨ne_of_obj hu h.hp (by simp), ne_of_obj hu h.mem.hb (by simp), ne_of_obj hu h.mem.hg (by simp), ne_of_obj hu hl (by simp), ne_of_obj hu hf (by simp), hv⟩
/-- It stays where its blocks stay. -/
theorem ArenaAt.keeps {w' : World} {S : Nat → Prop} (k : Keeps w w' S) (hS : ∀ i, c.foot p i → ¬ S i) : ArenaAt w' p c d :=
  ⟨(k.block p (heap_lt h.hp) (hS p (Or.inl rfl))).trans h.hp,
    h.mem.keeps k (hS _ (Or.inr (Or.inl rfl))) (hS _ (Or.inr (Or.inr (Or.inl rfl)))),
    ownsRow_keeps h.beg k (fun g hg => hS g (Or.inr (Or.inr (Or.inr (Or.inr (Or.inr (Or.inl hg))))))),
    h.live.keeps k (hS _ (Or.inr (Or.inr (Or.inr (Or.inl rfl))))),
    h.free.keeps k (hS _ (Or.inr (Or.inr (Or.inr (Or.inr (Or.inl rfl)))))), h.hlf, h.heaps.keeps k (fun i hi => hS i (Or.inr (Or.inr (Or.inr (Or.inr (Or.inr (Or.inr hi)))))))⟩
theorem ArenaAt.drew : ArenaAt w.drew p c d := ⟨h.hp, ⟨h.mem.hb, h.mem.hg, h.mem.hmax, h.mem.hne⟩, h.beg, h.live, h.free, h.hlf, h.heaps.keeps (Keeps.refl w (fun _ => False)).drew (fun _ _ => id)⟩
theorem ArenaAt.cell0 : w.cell? ⟨p, 0, none⟩ = some (.int .i64 (d.limit : Int)) := by simp [World.cell?, h.hp]
theorem ArenaAt.cell1 : w.cell? ⟨p, 1, none⟩ = some (.int .i64 (d.used : Int)) := by simp [World.cell?, h.hp]
theorem ArenaAt.cell2 : w.cell? ⟨p, 2, none⟩ = some (.pointer (some ⟨c.b, 0, none⟩)) := by simp [World.cell?, h.hp]
theorem ArenaAt.cell3 : w.cell? ⟨p, 3, none⟩ = some c.v := by simp [World.cell?, h.hp]
theorem ArenaAt.cell4 : w.cell? ⟨p, 4, none⟩ = some (.map (some c.bl)) := by simp [World.cell?, h.hp]
theorem ArenaAt.cell5 : w.cell? ⟨p, 5, none⟩ = some (.map (some c.bf)) := by simp [World.cell?, h.hp]
theorem ArenaAt.frozen (j : Nat) : w.frozen? ⟨p, j, none⟩ = false := by simp [World.frozen?, h.hp]
theorem ArenaAt.foot_lt {k : Nat} (hk : c.foot p k) : k < w.heap.size := by
  rcases hk with rfl | rfl | rfl | rfl | rfl | hk | hk
  · exact heap_lt h.hp
  · exact heap_lt h.mem.hb
  · exact heap_lt h.mem.hg
  · exact h.live.lt
  · exact h.free.lt
  · obtain ⟨cur, hb⟩ := own_obj h.beg hk
    exact heap_lt hb
  · rcases h.heaps.obj hk with ⟨u, hu⟩ | ⟨⟨cur, hu⟩, _⟩
    · exact heap_lt hu
    · exact heap_lt hu
end

/-- An arena with the data d behind the pointer to p; its blocks are among F. -/
def Arena (w : World) (p : Nat) (F : Nat → Prop) (d : AD) : Prop := ∃ c, ArenaAt w p c d ∧ ∀ k, c.foot p k → F k
/-- A call on it: the data has turned to d', all but its own blocks stand; its blocks are its own of before or new. -/
def Turned (w w' : World) (p : Nat) (F : Nat → Prop) (d' : AD) : Prop := Arena w' p (fun k => F k ∨ w.heap.size ≤ k) d' ∧ Keeps w w' F
theorem Arena.keeps {w w' : World} {p : Nat} {F S : Nat → Prop} {d : AD} (h : Arena w p F d) (k : Keeps w w' S) (hS : ∀ i, i < w.heap.size → F i → ¬ S i) : Arena w' p F d := by
  obtain ⟨c, hc, hF⟩ := h
  exact ⟨c, hc.keeps k (fun i hi => hS i (hc.foot_lt hi) (hF i hi)), hF⟩
theorem Arena.mono {w : World} {p : Nat} {F G : Nat → Prop} {d : AD} (h : Arena w p F d) (hG : ∀ i, i < w.heap.size → F i → G i) : Arena w p G d := by
  obtain ⟨c, hc, hF⟩ := h
  exact ⟨c, hc, fun k hk => hG k (hc.foot_lt hk) (hF k hk)⟩
end Go.Proofs.YtgckinldnnckoaaGreatDoor
namespace Go.Proofs.YtgckinldnnckoaaGreatDoor
open Go.RowKit

set_option maxHeartbeats 400000 in
theorem class_no (n : Int) (w : World) (h : n < 1 ∨ 1048576 < n) :
    Calls Tryz.prog 105 #[.int .i64 n] w fun e w' => e = .returned (.int .i64 0) ∧ w' = w := by
  rcases h with h | h
  · go_enter Tryz.func105, Tryz.ntmps105
    go_wp2
    go_ret
    exact ⟨rfl, rfl⟩
  · have h0 : ¬ n < 1 := by omega
    go_enter Tryz.func105, Tryz.ntmps105
    go_wp2
    go_ret
    exact ⟨rfl, rfl⟩

set_option maxHeartbeats 1000000 in
theorem class_core (n N M : Nat) (w : World) (h1 : 1 ≤ n) (hM : M ≤ 1048576) (h2 : n ≤ M) (hN : Hid (∀ j, n ≤ 16 * 2 ^ j → (j = 0 ∨ 8 * 2 ^ j < n) → fromPow n (16 * 2 ^ j) = N)) :
    Calls Tryz.prog 105 #[.int .i64 (n : Int)] w fun e w' => e = .returned (.int .i64 (N : Int)) ∧ w' = w := by
  have g1 : ¬ (n : Int) < 1 := by omega
  have g2 : ¬ (1048576 : Int) < (n : Int) := by omega
  go_enter Tryz.func105, Tryz.ntmps105
  go_wp2
  go_loop [3] (fun v => ∃ p : Nat, v = .int .i64 (p : Int) ∧ Hid (∃ j, p = 16 * 2 ^ j ∧ (j = 0 ∨ 8 * 2 ^ j < n)) ∧ p ≤ 2 * M + 16) (fun v => n - (intOf v).toNat)
  case atStart => exact ⟨16, rfl, ⟨0, rfl, Or.inl rfl⟩, by omega⟩
  case round =>
    obtain ⟨p, rfl, hj, hp⟩ := hrel
    by_cases hlt : p < n
    · have hlt' : (p : Int) < (n : Int) := by omega
      clear hN
      have hp0 : 0 < p := by
        obtain ⟨j, e, _⟩ := hj.out
        have : 0 < 2 ^ j := Nat.two_pow_pos j
        omega
      go_wp2
      go_round
      case rel => exact ⟨p * 2, by go_num, by
        obtain ⟨j, e, _⟩ := hj.out
        exact ⟨j + 1, by rw [e, Nat.pow_succ]; omega, Or.inr (by rw [Nat.pow_succ]; omega)⟩, by omega⟩
      case measure => simp [intOf]; omega
    · have hE : fromPow n p = N := by
        obtain ⟨j, e, hj'⟩ := hj.out
        rw [e] at hlt ⊢
        exact hN.out j (by omega) hj'
      have hlt' : ¬ (p : Int) < (n : Int) := by omega
      unfold fromPow at hE
      have HE : Hid ((if n ≤ p / 4 * 3 ∧ p / 4 * 3 % 16 = 0 then p / 4 * 3 else p) = N) := hE
      clear hE hj hN
      by_cases hb1 : n ≤ p / 4 * 3
      · have hb1' : (n : Int) ≤ (p : Int) / 4 * 3 := by omega
        by_cases hb2 : p / 4 * 3 % 16 = 0
        · have hb2' : (p : Int) / 4 * 3 % 16 = 0 := by omega
          go_wp2
          go_ret
          refine ⟨?_, rfl⟩
          rw [← HE.out, if_pos ⟨hb1, hb2⟩]
          rfl
        · have hb2' : ¬ (p : Int) / 4 * 3 % 16 = 0 := by omega
          go_wp2
          go_ret
          refine ⟨?_, rfl⟩
          rw [← HE.out, if_neg (fun h => hb2 h.2)]
          rfl
      · have hb1' : ¬ (n : Int) ≤ (p : Int) / 4 * 3 := by omega
        go_wp2
        go_ret
        refine ⟨?_, rfl⟩
        rw [← HE.out, if_neg (fun h => hb1 h.1)]
        rfl
theorem class_yes (n : Nat) (w : World) (h1 : 1 ≤ n) (h2 : n ≤ 1048576) :
    Calls Tryz.prog 105 #[.int .i64 (n : Int)] w fun e w' => e = .returned (.int .i64 (classN n : Int)) ∧ w' = w :=
  class_core n (classN n) 1048576 w h1 (Nat.le_refl _) h2 (fun j a b => class_exit n j h1 h2 a b)
end Go.Proofs.YtgckinldnnckoaaGreatDoor
namespace Go.Proofs.YtgckinldnnckoaaGreatDoor
open Go.RowKit

theorem Tryz.zeroI (w : World) : (zeroValue 3).run Tryz.prog w = .ok (.int .i64 0) w := Tryz.zeroValue3 w
theorem Tryz.zeroP (w : World) : (zeroValue 212).run Tryz.prog w = .ok (.pointer none) w := Tryz.zeroValue212 w

set_option maxHeartbeats 400000 in
theorem end_any {w : World} {p : Nat} {c : AR} {d : AD} (h : ArenaAt w p c d) :
    Calls Tryz.prog 170 #[.pointer (some ⟨p, 0, none⟩)] w fun e w' => e = .returned (.int .i64 (d.bs.length : Int)) ∧ w' = w := by
  have c2 := h.cell2
  have hl := len_any w c.b c.g _ _ h.mem
  clear h
  go_enter Tryz.func170, Tryz.ntmps170
  go_wp2_with fail
  refine hl.mono ?_
  rintro e w' ⟨rfl, rfl⟩
  go_wp2_with fail
  go_ret
  exact ⟨rfl, rfl⟩

set_option maxHeartbeats 400000 in
theorem live_any {w : World} {p : Nat} {c : AR} {d : AD} (h : ArenaAt w p c d) :
    Calls Tryz.prog 16 #[.pointer (some ⟨p, 0, none⟩)] w fun e w' => e = .returned (.int .i64 (d.used : Int)) ∧ w' = w := by
  have c2 := h.cell1
  clear h
  go_enter Tryz.func16, Tryz.ntmps16
  go_wp2
  go_ret
  exact ⟨rfl, rfl⟩

/-- The block is among the live ones. -/
def AD.entered (d : AD) (off n : Nat) : AD := { d with used := d.used + n, lv := upd d.lv off (some (n : Int)) }
def EnterPost (w : World) (p : Nat) (c : AR) (d : AD) (off n : Nat) (e : Ending) (w' : World) : Prop :=
  e = .returned (.tuple #[]) ∧ (d.L.length + 0 = d.L.length → True) ∧ Keeps w w' (fun k => k = p ∨ k = c.bl) ∧
    w'.heap[p]? = some (.cells #[.int .i64 (d.limit : Int), .int .i64 ((d.used + n : Nat) : Int), .pointer (some ⟨c.b, 0, none⟩), c.v, .map (some c.bl), .map (some c.bf)] 112) ∧ MapTo Tryz.prog cInt w' c.bl (c.nl + 1) (upd d.lv off (some (n : Int)))

set_option maxHeartbeats 1000000 in
theorem enter_any {w : World} {p : Nat} {c : AR} {d : AD} (h : ArenaAt w p c d) (off n : Nat) (ho : off ≤ 134217728) (hn : n ≤ 134217728) (hu : d.used ≤ 134217728) (hm : c.nl < 4294967296) :
    Calls Tryz.prog 140 #[.pointer (some ⟨p, 0, none⟩), .int .i64 (off : Int), .int .i64 (n : Int)] w fun e w' => EnterPost w p c d off n e w' := by
  have c4 := h.cell4
  obtain ⟨w1, hst, hl1, k1⟩ := h.live.store (v := .int .i64 (n : Int)) (a := (n : Int)) Tryz.underlying3 Tryz.underlying109 (by unfold maxLen; omega) (x := (off : Int)) (fitsI_mk (by omega) (by omega)) (rdr_int _)
  have h1 : w1.heap[p]? = w.heap[p]? := k1.block p (heap_lt h.hp) h.p_bl
  have hp1 := h1.trans h.hp
  have c1 : w1.cell? ⟨p, 1, none⟩ = some (.int .i64 (d.used : Int)) := by simp [World.cell?, hp1]
  have f1 : w1.frozen? ⟨p, 1, none⟩ = false := by simp [World.frozen?, hp1]
  have hfin : EnterPost w p c d off n (.returned (.tuple #[])) (w1.setCell ⟨p, 1, none⟩ (.int .i64 ((d.used : Int) + (n : Int)))) := by
    refine ⟨rfl, fun _ => trivial, ?_, ?_, ?_⟩
    · exact (k1.mono (S1 := fun k => k = p ∨ k = c.bl) (fun _ _ e => Or.inr e)).setCell _ (fun _ => Or.inl rfl) _
    · have hlt := heap_lt hp1
      have hv := (Array.getElem?_eq_some_iff.1 hp1).2
      simp only [World.setCell, Array.getElem?_modify]
      simp [hlt, hv]
    · exact hl1.keeps ((Keeps.refl _ (fun k => k = p)).setCell _ (fun _ => rfl) _) h.p_bl.symm
  clear hl1 k1 h1 hp1 h
  generalize EnterPost w p c d off n = Q at *
  go_enter Tryz.func140, Tryz.ntmps140
  go_wp2
  go_end0
  exact hfin
end Go.Proofs.YtgckinldnnckoaaGreatDoor
namespace Go.Proofs.YtgckinldnnckoaaGreatDoor
open Go.RowKit

set_option maxHeartbeats 400000 in
theorem again_none {w : World} {p : Nat} {c : AR} {d : AD} (h : ArenaAt w p c d) (n : Nat) (hn : n ≤ 134217728) (hf : d.fm (n : Int) = none) :
    Calls Tryz.prog 138 #[.pointer (some ⟨p, 0, none⟩), .int .i64 (n : Int)] w fun e w' => e = .returned (.tuple #[.int .i64 0, .bool false]) ∧ w' = w := by
  have c5 := h.cell5
  have hl := look_ptr (w := w) Tryz.underlying3 Tryz.underlying110 (Tryz.zeroP w) h.free (x := (n : Int)) (fitsI_mk (by omega) (by omega))
  rw [h.heaps.none_of hf] at hl
  simp only [Option.map_none] at hl
  clear h
  go_enter Tryz.func138, Tryz.ntmps138
  go_wp2
  go_ret2
  exact ⟨rfl, rfl⟩

/-- A block more at the end. -/
def AD.added (d : AD) (n : Nat) : AD := { d with bs := d.bs ++ zeros n, L := d.L ++ [(d.bs.length, n)] }
def AddPost (w : World) (p : Nat) (c : AR) (d : AD) (n : Nat) (e : Ending) (w' : World) : Prop :=
  ∃ g v sp, e = .returned (.int .i64 (d.bs.length : Int)) ∧ ArenaAt w' p { c with g := g, v := v, sp := sp } (d.added n) ∧ Keeps w w' (c.foot p) ∧ (g = c.g ∨ w.heap.size ≤ g) ∧ (v.ownBlock = c.v.ownBlock ∨ ∃ k, v.ownBlock = some k ∧ w.heap.size ≤ k)

theorem AD.begins_added (d : AD) (n : Nat) : (d.added n).begins = d.begins ++ [(d.bs.length : Int)] := by simp [AD.begins, AD.added]

set_option maxHeartbeats 1000000 in
theorem add_any {w : World} {p : Nat} {c : AR} {d : AD} (h : ArenaAt w p c d) (n : Nat) (hn : d.bs.length + n ≤ 134217728) (hL : d.L.length ≤ 134217728) :
    Calls Tryz.prog 139 #[.pointer (some ⟨p, 0, none⟩), .int .i64 (n : Int)] w fun e w' => AddPost w p c d n e w' := by
  have hE := end_any h
  have c2 := h.cell2
  have hG := grow_yes w c.b c.g d.bs c.sp h.mem (d.bs.length + n) (by omega) hn
  rw [Nat.add_sub_cancel_left] at hG
  go_enter Tryz.func139, Tryz.ntmps139
  go_wp2_with fail
  refine hE.mono ?_
  rintro e w1 ⟨rfl, rfl⟩
  clear hE
  go_wp2_with fail
  refine hG.mono ?_
  rintro e w2 ⟨g2, sp2, rfl, hg2, m2, k2⟩
  clear hG c2
  have hlt2 : ∀ k, c.foot p k → k < w2.heap.size := fun k hk => Nat.lt_of_lt_of_le (h.foot_lt hk) k2.size
  have hp2 : w2.heap[p]? = w1.heap[p]? := k2.block p (heap_lt h.hp) (fun e => by rcases e with e | e; exact h.p_b e; exact h.p_g e)
  have beg2 : w2.ownsRow 0 3 1 c.v d.L.length (d.begins.map cellI) := ownsRow_keeps h.beg k2 (fun g hg e => by rcases e with e | e; exact h.b_v (e ▸ hg) rfl; exact h.g_v (e ▸ hg) rfl)
  have k3 : Keeps w2 (w2.alloc (.cells #[cellI (d.bs.length : Int)] 3)) (fun _ => False) := (Keeps.refl _ _).alloc _
  have beg3 := ownsRow_keeps beg2 k3 (fun _ _ e => e)
  obtain ⟨g4, cap4, w4, hap, beg4, k4, hloc⟩ := append_one (P := Tryz.prog) 22 3 (.int .i64 0) 8 Tryz.underlying22 Tryz.infoI rfl beg3 (heap_alloc_new w2 (.cells #[cellI (d.bs.length : Int)] 3)) rfl (by omega) (by unfold maxLen; omega) (Nat.zero_le _)
  have hp4 : w4.heap[p]? = w1.heap[p]? := by
    rw [k4.block p (by have := hlt2 p (Or.inl rfl); simp; omega) (fun e => h.p_v e rfl), k3.block p (hlt2 p (Or.inl rfl)) id, hp2]
  have c2 : w2.cell? ⟨p, 3, none⟩ = some c.v := (World.cell?_of_block (w := w1) hp2).trans h.cell3
  have hp4' := hp4.trans h.hp
  have f4 : w4.frozen? ⟨p, 3, none⟩ = false := by simp [World.frozen?, hp4']
  have c4 : w4.cell? ⟨p, 3, none⟩ = some c.v := by simp [World.cell?, hp4']
  have hfin : AddPost w1 p c d n (.returned (.int .i64 (d.bs.length : Int))) (w4.setCell ⟨p, 3, none⟩ (.slice (some ⟨g4, 0, none⟩) (d.L.length + 1) cap4)) := by
    have hlt4 := heap_lt hp4'
    have hv4 := (Array.getElem?_eq_some_iff.1 hp4').2
    have kS : Keeps w4 (w4.setCell ⟨p, 3, none⟩ (.slice (some ⟨g4, 0, none⟩) (d.L.length + 1) cap4)) (fun k => k = p) := (Keeps.refl w4 (fun k => k = p)).setCell ⟨p, 3, none⟩ (fun _ => rfl) _
    have hgv : ∀ k, c.v.ownBlock = some k → k ≠ g2 := fun k hk e => by
      subst e
      rcases hg2 with e | e
      · exact h.g_v hk e.symm
      · have := h.foot_lt (k := k) (Or.inr (Or.inr (Or.inr (Or.inr (Or.inr (Or.inl hk))))))
        omega
    have hg4p : g4 ≠ p := fun e => by
      subst e
      rcases hloc with e | e
      · exact h.p_v e rfl
      · have := hlt2 g4 (Or.inl rfl)
        simp at e
        omega
    refine ⟨g2, .slice (some ⟨g4, 0, none⟩) (d.L.length + 1) cap4, sp2, rfl, ⟨?_, ?_, ?_, ?_, ?_, h.hlf, ?_⟩, ?_, hg2, ?_⟩
    · simp only [World.setCell, Array.getElem?_modify]
      simp [hlt4, hv4, AD.added]
    · refine (((m2.keeps k3 id id).keeps k4 (fun e => h.b_v e rfl) (fun e => hgv _ e rfl)).keeps kS h.p_b.symm ?_)
      intro e
      rcases hg2 with e2 | e2
      · exact h.p_g (e.symm.trans e2)
      · have := heap_lt h.hp
        omega
    · rw [AD.begins_added, List.map_append]
      have := ownsRow_keeps beg4 kS (fun k hk e => by
        simp [Value.ownBlock] at hk
        exact hg4p (hk.trans e))
      simpa [AD.added] using this
    · refine (((h.live.keeps k2 (fun e => ?_)).keeps k3 id).keeps k4 (fun e => h.bl_v e rfl)).keeps kS h.p_bl.symm
      rcases e with e | e
      · exact h.bl_b e
      · exact h.bl_g e
    · refine (((h.free.keeps k2 (fun e => ?_)).keeps k3 id).keeps k4 (fun e => h.bf_v e rfl)).keeps kS h.p_bf.symm
      rcases e with e | e
      · exact h.bf_b e
      · exact h.bf_g e
    · have hx : ∀ i, heapsFoot c.hb c.fv i → i < w1.heap.size ∧ i ≠ g2 ∧ i ≠ g4 := fun i hi => by
        have h1 := h.foot_lt (k := i) (Or.inr (Or.inr (Or.inr (Or.inr (Or.inr (Or.inr hi))))))
        have h2 := h.heap_ne hi
        refine ⟨h1, fun e => ?_, fun e => ?_⟩
        · rcases hg2 with e2 | e2
          · exact h2.2.2.1 (e.trans e2)
          · omega
        · rcases hloc with e2 | e2
          · exact h2.2.2.2.2.2 (e ▸ e2)
          · have := k2.size
            simp at e2
            omega
      refine HeapsAt.other ((((h.heaps.keeps k2 (fun i hi e => ?_)).keeps k3 (fun _ _ e => e)).keeps k4 (fun i hi e => (h.heap_ne hi).2.2.2.2.2 e)).keeps kS (fun i hi e => (h.heap_ne hi).1 e)) (fun i hi e => ?_)
      · rcases e with e | e
        · exact (h.heap_ne hi).2.1 e
        · exact (h.heap_ne hi).2.2.1 e
      · simp [Value.ownBlock] at e
        exact (hx i hi).2.2 e.symm
    · exact (((k2.mono (S1 := c.foot p) (fun i _ e => by rcases e with e | e; exact Or.inr (Or.inl e); exact Or.inr (Or.inr (Or.inl e)))).trans k3 (fun _ _ e => e.elim)).trans k4 (fun i _ e => Or.inr (Or.inr (Or.inr (Or.inr (Or.inr (Or.inl e))))))).trans kS (fun i _ e => Or.inl e)
    · rcases hloc with e | e
      · exact Or.inl (by rw [e]; rfl)
      · refine Or.inr ⟨g4, rfl, ?_⟩
        have := k2.size
        simp at e
        omega
  have hbl : d.bs.length ≤ 134217728 := by omega
  clear h m2 k2 k3 k4 hp2 hp4 hp4' beg2 beg3 beg4 hlt2 hloc hg2 hn
  unfold cellI at hap
  go_wp2_with (first | (at_builtin; have _t := hap; refine append_run _ rfl (.tmp 20) (.tmp 22) 22 rfl rfl rfl hap ?_; clear hap))
  go_ret
  exact hfin
end Go.Proofs.YtgckinldnnckoaaGreatDoor
/-
  A map keyed by int has no more entries than there are numbers that may be its keys. Nothing here names the program.
-/
namespace Go.Proofs.YtgckinldnnckoaaGreatDoor
open Go.RowKit Go.Maps Go.WideElems

theorem length_le_of_subset {α : Type} [DecidableEq α] : ∀ {xs l : List α}, xs.Nodup → (∀ x ∈ xs, x ∈ l) → xs.length ≤ l.length
  | [], _, _, _ => Nat.zero_le _
  | a :: r, l, hn, hs => by
    obtain ⟨h1, h2⟩ := List.nodup_cons.1 hn
    have ha := hs a (by simp)
    have := length_le_of_subset (xs := r) (l := l.erase a) h2 (fun x hx => (List.mem_erase_of_ne (show x ≠ a from fun e => h1 (by rw [← e]; exact hx))).2 (hs x (by simp [hx])))
    rw [List.length_erase_of_mem ha] at this
    have := List.length_pos_of_mem ha
    simp
    omega
theorem key_int {P : Program} (hu3 : P.underlying 3 = some (.int .i64)) {v : Value} {l : Lit} (h : keyOf P 3 v = some l) : ∃ a, l = .int .i64 a ∧ fitsI a := by
  cases v <;> simp [keyOf, hu3, mapKey] at h
  obtain ⟨h1, rfl⟩ := h
  exact ⟨_, rfl, h1.2⟩
theorem MapTo.tight {P : Program} {α : Type} {c : α → DataW Unit} {w : World} {b n : Nat} {f : Int → Option α} (hu3 : P.underlying 3 = some (.int .i64)) (h : MapTo P c w b n f) (l : List Int) (hl : ∀ x, fitsI x → (f x).isSome = true → x ∈ l) : MapTo P c w b l.length f := by
  obtain ⟨D, ⟨es, clock, hb, F, hn, hD⟩, hd⟩ := h
  refine ⟨D, ⟨es, clock, hb, F, ?_, hD⟩, hd⟩
  have ha := fit_apart (int_keyed hu3) F
  have hk : ∀ p ∈ es.toList.map (rg P 3 rdr), ∃ a, p.1 = .int .i64 a ∧ fitsI a ∧ a ∈ l := fun p hp => by
    obtain ⟨x, hx, rfl⟩ := List.mem_map.1 hp
    obtain ⟨y, hy⟩ := F.reads x hx
    obtain ⟨a, ha, hf⟩ := key_int hu3 (rd_key hy)
    have he : (rg P 3 rdr x).1 = .int .i64 a := by rw [rg_of hy]; exact ha
    refine ⟨a, he, hf, hl a hf ?_⟩
    rw [← (hd a hf).1, hD, has_eq, List.any_eq_true]
    exact ⟨rg P 3 rdr x, (WideShapes.sorted_perm _).mem_iff.2 hp, by rw [he]; exact WideAt.sameKey_self trivial⟩
  have hm : ((es.toList.map (rg P 3 rdr)).map (fun p => match p.1 with | .int _ a => a | _ => 0)).Nodup := by
    rw [List.nodup_iff_pairwise_ne, List.pairwise_map]
    refine (List.Pairwise.imp_of_mem ?_ ha)
    intro p q hp hq hne e
    obtain ⟨a, e1, _⟩ := hk p hp
    obtain ⟨a', e2, _⟩ := hk q hq
    rw [e1, e2] at e
    simp at e
    exact hne (by rw [e1, e2, e])
  have := length_le_of_subset hm (l := l) (fun x hx => by
    obtain ⟨p, hp, rfl⟩ := List.mem_map.1 hx
    obtain ⟨a, e1, _, e2⟩ := hk p hp
    rw [e1]
    exact e2)
  simpa using this
end Go.Proofs.YtgckinldnnckoaaGreatDoor
namespace Go.Proofs.YtgckinldnnckoaaGreatDoor
open Go.RowKit

/-- A new block of n bytes is live. -/
def AD.took (d : AD) (n : Nat) : AD := (d.added n).entered d.bs.length n
theorem AD.took_bs (d : AD) (n : Nat) : (d.took n).bs = d.bs ++ zeros n := rfl
theorem AD.took_L (d : AD) (n : Nat) : (d.took n).L = d.L ++ [(d.bs.length, n)] := rfl
theorem AD.took_used (d : AD) (n : Nat) : (d.took n).used = d.used + n := rfl
theorem AD.took_lv (d : AD) (n : Nat) : (d.took n).lv = upd d.lv (d.bs.length : Nat) (some (n : Int)) := rfl
theorem AD.took_fm (d : AD) (n : Nat) : (d.took n).fm = d.fm := rfl
theorem AD.took_limit (d : AD) (n : Nat) : (d.took n).limit = d.limit := rfl
theorem AD.Fine.took {d : AD} (F : d.Fine) {n : Nat} (h0 : 0 < n) (h1 : d.bs.length + n ≤ 134217728) (h2 : d.used + n ≤ d.limit) : (d.took n).Fine := by
  refine ⟨?_, ?_, ?_, F.lim, h2, ?_, ?_⟩
  · rw [AD.took_bs, AD.took_L, List.length_append, zeros_length]
    exact tiles_snoc F.tiles n h0
  · intro x s hs
    rw [AD.took_lv] at hs
    by_cases hx : x = (d.bs.length : Nat)
    · subst hx
      rw [upd_same] at hs
      cases hs
      exact ⟨d.bs.length, n, rfl, rfl, by rw [AD.took_L]; simp⟩
    · rw [upd_other _ _ _ _ hx] at hs
      obtain ⟨o, m, e1, e2, hm⟩ := F.live x s hs
      exact ⟨o, m, e1, e2, by rw [AD.took_L]; exact List.mem_append_left _ hm⟩
  · rw [AD.took_bs, List.length_append, zeros_length]
    exact h1
  · rw [AD.took_used, AD.took_L, AD.took_lv, liveSum_append, liveSum_cons]
    have e1 : liveSum d.L (upd d.lv (d.bs.length : Nat) (some (n : Int))) = liveSum d.L d.lv := liveSum_congr (fun x hx => by
      have := tiles_mem F.tiles hx
      rw [upd_other _ _ _ _ (by omega)])
    rw [e1, upd_same, ← F.sum]
    simp [liveSum]
  · rw [AD.took_L, AD.took_lv, AD.took_fm]
    have hne : ∀ y ∈ d.L, ((y.1 : Nat) : Int) ≠ (d.bs.length : Nat) := fun y hy => by
      have := tiles_mem F.tiles hy
      omega
    refine ⟨F.free.nodup, fun x xs hx => ?_, fun x xs hx z hz => ?_, fun y hy hl => ?_⟩
    · obtain ⟨y, hy, e⟩ := F.free.size x xs hx
      exact ⟨y, List.mem_append_left _ hy, e⟩
    · obtain ⟨h3, y, hy, e1, e2⟩ := F.free.mem x xs hx z hz
      refine ⟨?_, y, List.mem_append_left _ hy, e1, e2⟩
      rw [upd_other _ _ _ _ (by rw [e1]; exact hne y hy)]
      exact h3
    · rcases List.mem_append.1 hy with hy | hy
      · rw [upd_other _ _ _ _ (hne y hy)] at hl
        exact F.free.all y hy hl
      · rw [List.mem_singleton.1 hy] at hl
        rw [upd_same] at hl
        cases hl

theorem AD.Fine.keys_begins {d : AD} (F : d.Fine) (x : Int) (_ : fitsI x) (h : (d.lv x).isSome = true) : x ∈ d.begins := by
  obtain ⟨s, hs⟩ := Option.isSome_iff_exists.1 h
  obtain ⟨o, n, rfl, _, hm⟩ := F.live x s hs
  exact List.mem_map.2 ⟨(o, n), hm, rfl⟩

def TakePost (w : World) (p : Nat) (F : Nat → Prop) (o : Nat) (d' : AD) (e : Ending) (w' : World) : Prop := e = .returned (.int .i64 (o : Int)) ∧ Turned w w' p F d'

set_option maxHeartbeats 1000000 in
theorem take_new {w : World} {p : Nat} {F : Nat → Prop} {d : AD} (h : Arena w p F d) (hF : d.Fine) (n : Nat) (hn : d.bs.length + n ≤ 134217728) (hf : d.fm (n : Int) = none) :
    Calls Tryz.prog 104 #[.pointer (some ⟨p, 0, none⟩), .int .i64 (n : Int)] w fun e w' => TakePost w p F d.bs.length (d.took n) e w' := by
  obtain ⟨c, h, hfo⟩ := h
  have hL : d.L.length ≤ 134217728 := by have := tiles_length hF.tiles; have := hF.most; omega
  have hu : d.used ≤ 134217728 := by have := hF.use; have := hF.lim; omega
  have hA := again_none h n (by omega) hf
  have hadd := add_any h n hn hL
  go_enter Tryz.func104, Tryz.ntmps104
  go_wp2_with fail
  refine hA.mono ?_
  rintro e w1 ⟨rfl, rfl⟩
  clear hA
  go_wp2_with fail
  refine hadd.mono ?_
  rintro e w2 ⟨g, v, sp, rfl, h2, k2, hg, hv⟩
  clear hadd
  have h2 : ArenaAt w2 p { c with g := g, v := v, sp := sp, nl := d.begins.length } (d.added n) := { h2 with live := h2.live.tight Tryz.underlying3 d.begins (hF.keys_begins) }
  have hE := enter_any h2 d.bs.length n (by omega) (by omega) (by simpa [AD.added] using hu) (by simp [AD.begins_length]; omega)
  go_wp2_with fail
  refine hE.mono ?_
  rintro e w3 ⟨rfl, _, k3, hp3, hl3⟩
  clear hE
  have hfin : TakePost w1 p F d.bs.length (d.took n) (.returned (.int .i64 (d.bs.length : Int))) w3 := by
    have kF : Keeps w1 w3 F := (k2.mono (fun i _ e => hfo i e)).trans k3 (fun i hi e => by
      rcases e with rfl | rfl
      · exact hfo _ (Or.inl rfl)
      · exact hfo _ (Or.inr (Or.inr (Or.inr (Or.inl rfl)))))
    refine ⟨rfl, ⟨{ c with g := g, v := v, sp := sp, nl := d.begins.length + 1 }, ⟨?_, ?_, ?_, hl3, ?_, h.hlf, ?_⟩, ?_⟩, kF⟩
    · exact hp3
    · exact h2.mem.keeps k3 (fun e => by rcases e with e | e; exact h2.p_b e.symm; exact h2.bl_b e.symm) (fun e => by rcases e with e | e; exact h2.p_g e.symm; exact h2.bl_g e.symm)
    · exact ownsRow_keeps h2.beg k3 (fun k hk e => by rcases e with e | e; exact h2.p_v hk e.symm; exact h2.bl_v hk e.symm)
    · exact h2.free.keeps k3 (fun e => by rcases e with e | e; exact h2.p_bf e.symm; exact h2.hlf e.symm)
    · exact h2.heaps.keeps k3 (fun i hi e => by rcases e with e | e; exact (h2.heap_ne hi).1 e; exact (h2.heap_ne hi).2.2.2.1 e)
    · intro k hk
      rcases hk with e | e | e | e | e | e | e
      · exact Or.inl (hfo k (Or.inl e))
      · exact Or.inl (hfo k (Or.inr (Or.inl e)))
      · have e' : k = g := e
        rcases hg with hg | hg
        · exact Or.inl (hfo k (Or.inr (Or.inr (Or.inl (e'.trans hg)))))
        · exact Or.inr (by omega)
      · exact Or.inl (hfo k (Or.inr (Or.inr (Or.inr (Or.inl e)))))
      · exact Or.inl (hfo k (Or.inr (Or.inr (Or.inr (Or.inr (Or.inl e))))))
      · have e' : v.ownBlock = some k := e
        rcases hv with hv | ⟨k', hv, hk'⟩
        · exact Or.inl (hfo k (Or.inr (Or.inr (Or.inr (Or.inr (Or.inr (Or.inl (hv ▸ e'))))))))
        · rw [hv] at e'
          cases e'
          exact Or.inr hk'
      · exact Or.inl (hfo k (Or.inr (Or.inr (Or.inr (Or.inr (Or.inr (Or.inr e)))))))
  clear h h2 k2 k3 hp3 hl3 hg hv hfo hF hf
  go_wp2_with fail
  go_ret
  exact hfin
end Go.Proofs.YtgckinldnnckoaaGreatDoor
namespace Go.Proofs.YtgckinldnnckoaaGreatDoor
open Go.RowKit Go.Shelf

theorem lit_any (n : Int) (w : World) : Calls Tryz.prog 137 #[.int .i64 n] w fun e w' => e = .returned (.bool (decide (n < 1))) ∧ w' = w := by
  go_enter Tryz.func137, Tryz.ntmps137
  go_wp2
  go_ret
  exact ⟨rfl, rfl⟩

/-- All of them at least 1. -/
def allOne (zs : List Int) : Prop := ∀ z ∈ zs, 1 ≤ z
def IdxPost (w : World) (zs : List Int) (e : Ending) (w' : World) : Prop := ∃ i : Int, e = .returned (.int .i64 i) ∧ w' = w ∧ -1 ≤ i ∧ i ≤ 9223372036854775807 ∧ (0 ≤ i → ¬ allOne zs) ∧ (i < 0 → allOne zs)

set_option maxHeartbeats 1000000 in
theorem index_nil (a : Option Addr) (cap : Nat) (w : World) : Calls Tryz.prog 167 #[.slice a 0 cap, .func (.func 137) #[] #[]] w fun e w' => IdxPost w [] e w' := by
  go_enter Tryz.func167, Tryz.ntmps167
  go_wp2_with fail
  go_loop [8] (fun i => i = .int .i64 0) (fun _ => 0)
  case atStart => rfl
  case round =>
    subst hrel
    go_wp2_with fail
    go_ret
    exact ⟨-1, rfl, rfl, by omega, by omega, by omega, fun _ z hz => by cases hz⟩

set_option maxHeartbeats 1000000 in
theorem index_some (b o cap : Nat) (zs : List Int) (w : World) (hbig : zs.length ≤ 140737488355328) (hc : ∀ j (h : j < zs.length), w.cell? ⟨b, o + j, none⟩ = some (.int .i64 zs[j])) :
    Calls Tryz.prog 167 #[.slice (some ⟨b, o, none⟩) zs.length cap, .func (.func 137) #[] #[]] w fun e w' => IdxPost w zs e w' := by
  have eg : ∀ args w, (callFunc 137 args).run Tryz.prog w = .ok (.enter 137 args) w := enters_of Tryz.func137 (by kernel_rfl) rfl
  go_enter Tryz.func167, Tryz.ntmps167
  go_wp2_with fail
  go_loop [8] (fun i => ∃ k : Nat, i = .int .i64 (k : Int) ∧ k ≤ zs.length ∧ Hid (∀ j (h : j < zs.length), j < k → 1 ≤ zs[j])) (fun i => zs.length - (intOf i).toNat)
  case atStart => exact ⟨0, rfl, Nat.zero_le _, fun j _ h => by omega⟩
  case round =>
    obtain ⟨k, rfl, hk, hall⟩ := hrel
    by_cases hlt : k < zs.length
    · have hlt' : (k : Int) < (zs.length : Int) := by omega
      have hck := hc k (by omega)
      have hkl : k < zs.length := by omega
      generalize hz : zs[k]'hkl = z at hck
      have HZ : Hid (zs[k]'hkl = z) := hz
      clear hz hc
      have hlit := lit_any z w
      by_cases hz1 : z < 1
      · rw [decide_eq_true hz1] at hlit
        go_wp2_with fail
        refine hlit.mono ?_
        rintro e w1 ⟨rfl, rfl⟩
        go_wp2_with fail
        go_ret
        exact ⟨k, rfl, rfl, by omega, by omega, fun _ h => by have := h _ (List.getElem_mem hkl); rw [HZ.out] at this; omega, by omega⟩
      · rw [decide_eq_false hz1] at hlit
        go_wp2_with fail
        refine hlit.mono ?_
        rintro e w1 ⟨rfl, rfl⟩
        clear hlit
        go_wp2_with fail
        go_round
        case rel => exact ⟨k + 1, by go_num, by omega, fun j hj hjk => by
          rcases Nat.lt_or_ge j k with h | h
          · exact hall.out j hj h
          · have : j = k := by omega
            subst this
            rw [HZ.out]
            omega⟩
        case measure => simp [intOf]; omega
    · have hk' : ¬ (k : Int) < (zs.length : Int) := by omega
      go_wp2_with fail
      go_ret
      exact ⟨-1, rfl, rfl, by omega, by omega, by omega, fun _ z hz => by
        obtain ⟨j, hj, rfl⟩ := List.getElem_of_mem hz
        exact hall.out j hj (by omega)⟩
end Go.Proofs.YtgckinldnnckoaaGreatDoor
namespace Go.Proofs.YtgckinldnnckoaaGreatDoor
open Go.RowKit

theorem Keeps.drewN {w w1 : World} {S : Nat → Prop} (h : Keeps w w1 S) (n : Nat) : Keeps w (w1.drewN n) S :=
  ⟨h.os, h.tape, h.output, h.size, h.block⟩
def strOf (x : List UInt8) : ByteArray := ⟨x.toArray⟩
def eqS (t1 t2 : ByteArray) : Bool := t1.toList == t2.toList

theorem run_text (w : World) (a : Addr) (c n : Nat) (x : List UInt8) (hn : x.length = n) (h : ∀ j (hj : j < x.length), w.cell? (a.add j) = some (.int .u8 (x[j].toNat : Int))) :
    (convert 134 9 (.slice (some a) n c)).run Tryz.prog w = .ok (.string (strOf x)) w := by
  subst hn
  exact run_convert_bytes_back (P := Tryz.prog) w 134 9 5 a c x Tryz.underlying134 Tryz.underlying5 Tryz.underlying9 h

theorem run_cut (w : World) (s : ByteArray) (a n : Nat) (h : a + n ≤ s.size) :
    (Instr.slice 9 (.string s) (some (.int .i64 (a : Int))) (some (.int .i64 ((a : Int) + (n : Int)))) none).run Tryz.prog w = .ok (.string (s.extract a (a + n))) w := by
  have e1 : ((a : Int) + (n : Int)).toNat = a + n := by omega
  simp [Instr.slice, run_underlying Tryz.underlying9, Instr.sliceBounds, run_sliceBound, e1, (by omega : (0 : Int) ≤ (a : Int) + (n : Int)), (by omega : (a : Int) + (n : Int) ≤ (s.size : Int)), (by omega : (a : Int) ≤ (a : Int) + (n : Int))]

theorem extract_eq (s : ByteArray) (a n : Nat) : strOf ((s.data.toList.drop a).take n) = s.extract a (a + n) := by
  apply ByteArray.ext
  apply Array.toList_inj.1
  rw [Lib.extract_data]
  simp [strOf]

set_option maxHeartbeats 400000 in
theorem bytesEqual_any (w : World) (a1 a2 : Addr) (c1 c2 n : Nat) (x1 x2 : List UInt8) (hn1 : x1.length = n) (hn2 : x2.length = n)
    (h1 : ∀ j (hj : j < x1.length), w.cell? (a1.add j) = some (.int .u8 (x1[j].toNat : Int))) (h2 : ∀ j (hj : j < x2.length), w.cell? (a2.add j) = some (.int .u8 (x2[j].toNat : Int))) :
    Calls Tryz.prog 181 #[.slice (some a1) n c1, .slice (some a2) n c2] w fun e w' => e = .returned (.bool (eqS (strOf x1) (strOf x2))) ∧ w' = w := by
  have e1 := run_text w a1 c1 n x1 hn1 h1
  have e2 := run_text w a2 c2 n x2 hn2 h2
  generalize strOf x1 = t1 at *
  generalize strOf x2 = t2 at *
  clear h1 h2 hn1 hn2
  go_enter Tryz.func181, Tryz.ntmps181
  go_wp2
  go_ret
  exact ⟨rfl, rfl⟩

set_option maxHeartbeats 400000 in
theorem equal_no (w : World) (b g : Nat) (bs sp : List UInt8) (m : MemAt 163 5 w b g bs sp) (d s n : Int) (h : (insideB bs.length d n && insideB bs.length s n) = false) :
    Calls Tryz.prog 159 #[.pointer (some ⟨b, 0, none⟩), .int .i64 d, .int .i64 s, .int .i64 n] w fun e w' => e = .returned (.tuple #[.bool false, .int .i64 11]) ∧ w' = w := by
  cases h1 : insideB bs.length d n
  · have hc := inside_no w b g bs sp m d n h1
    clear h h1
    go_enter Tryz.func159, Tryz.ntmps159
    go_wp2_with fail
    refine hc.mono ?_
    rintro e w' ⟨rfl, rfl⟩
    go_wp2_with fail
    go_ret2
    exact ⟨rfl, rfl⟩
  · rw [h1, Bool.true_and] at h
    have hc := inside_yes w b g bs sp m d n h1
    have hc2 := inside_no w b g bs sp m s n h
    clear h h1
    go_enter Tryz.func159, Tryz.ntmps159
    go_wp2_with fail
    refine hc.mono ?_
    rintro e w' ⟨rfl, rfl⟩
    go_wp2_with fail
    refine hc2.mono ?_
    rintro e w' ⟨rfl, rfl⟩
    go_wp2_with fail
    go_ret2
    exact ⟨rfl, rfl⟩

set_option maxHeartbeats 400000 in
theorem equal_yes (w : World) (b g : Nat) (bs sp : List UInt8) (m : MemAt 163 5 w b g bs sp) (d s n : Nat) (h1 : d + n ≤ bs.length) (h2 : s + n ≤ bs.length) :
    Calls Tryz.prog 159 #[.pointer (some ⟨b, 0, none⟩), .int .i64 (d : Int), .int .i64 (s : Int), .int .i64 (n : Int)] w
      fun e w' => e = .returned (.tuple #[.bool (eqS (strOf ((bs.drop d).take n)) (strOf ((bs.drop s).take n))), .int .i64 0]) ∧ w' = w := by
  have hc := inside_yes w b g bs sp m d n (insideB_mk h1)
  have hc2 := inside_yes w b g bs sp m s n (insideB_mk h2)
  have hs1 := span_any w b g bs sp m d n h1
  have hs2 := span_any w b g bs sp m s n h2
  obtain ⟨q, hq, hv⟩ := spanVal_eq g (bs.length + sp.length) d n
  obtain ⟨q2, hq2, hv2⟩ := spanVal_eq g (bs.length + sp.length) s n
  rw [hv] at hs1
  rw [hv2] at hs2
  have hbe := bytesEqual_any w ⟨g, q, none⟩ ⟨g, q2, none⟩ (bs.length + sp.length - d) (bs.length + sp.length - s) n ((bs.drop d).take n) ((bs.drop s).take n) (by simp; omega) (by simp; omega) (m.span h1 hq) (m.span h2 hq2)
  generalize eqS (strOf ((bs.drop d).take n)) (strOf ((bs.drop s).take n)) = B at *
  clear m hv hv2 hq hq2
  go_enter Tryz.func159, Tryz.ntmps159
  go_wp2_with fail
  refine hc.mono ?_
  rintro e w' ⟨rfl, rfl⟩
  go_wp2_with fail
  refine hc2.mono ?_
  rintro e w' ⟨rfl, rfl⟩
  clear hc hc2
  go_wp2_with fail
  refine hs1.mono ?_
  rintro e w' ⟨rfl, rfl⟩
  go_wp2_with fail
  refine hs2.mono ?_
  rintro e w' ⟨rfl, rfl⟩
  clear hs1 hs2
  go_wp2_with fail
  refine hbe.mono ?_
  rintro e w' ⟨rfl, rfl⟩
  clear hbe
  go_wp2_with fail
  go_ret2
  exact ⟨rfl, rfl⟩
end Go.Proofs.YtgckinldnnckoaaGreatDoor
