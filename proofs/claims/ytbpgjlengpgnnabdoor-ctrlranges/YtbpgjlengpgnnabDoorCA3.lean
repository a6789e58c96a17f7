/-
  All blocks stand but one; the list of a set's slots.
-/
import Derived.Test.YtbpgjlengpgnnabDoorCA2
namespace Go.Proofs.YtbpgjlengpgnnabDoor
open Go.RowKit Go.Shelf
set_option linter.unusedVariables false

/-- All blocks of w stand, but g. -/
structure But (g : Nat) (w w' : World) : Prop where
  os : w'.os = w.os
  tape : w'.tape = w.tape
  output : w'.output = w.output
  size : w.heap.size ≤ w'.heap.size
  block : ∀ k, k < w.heap.size → k ≠ g → w'.heap[k]? = w.heap[k]?
theorem But.refl (g : Nat) (w : World) : But g w w := ⟨rfl, rfl, rfl, Nat.le_refl _, fun _ _ _ => rfl⟩
theorem But.blk {g : Nat} {w w' : World} (h : But g w w') {k : Nat} {o : Obj} (hk : w.heap[k]? = some o) (hne : k ≠ g) : w'.heap[k]? = some o := (h.block k (Array.getElem?_eq_some_iff.1 hk).1 hne).trans hk
theorem But.cell {g : Nat} {w w' : World} (h : But g w w') {p : Addr} {v : Value} (hp : w.cell? p = some v) (hne : p.block ≠ g) : w'.cell? p = some v := by
  have : p.block < w.heap.size := by
    refine Nat.lt_of_not_le fun hn => ?_
    rw [World.cell?, Array.getElem?_eq_none hn] at hp
    cases hp
  exact (World.cell?_of_block (w := w) (h.block p.block this hne)).trans hp
theorem But.kp {g : Nat} {w w1 w' : World} (h : But g w w1) (k : Kp w1 w') : But g w w' := ⟨k.os.trans h.os, k.tape.trans h.tape, k.output.trans h.output, Nat.le_trans h.size k.size, fun i hi hne => (k.block i (Nat.lt_of_lt_of_le hi h.size)).trans (h.block i hi hne)⟩
theorem But.setCell {g : Nat} {w w' : World} (h : But g w w') (o : Nat) (v : Value) : But g w (w'.setCell ⟨g, o, none⟩ v) := ⟨h.os, h.tape, h.output, by rw [show (w'.setCell ⟨g, o, none⟩ v).heap.size = w'.heap.size by simp [World.setCell]]; exact h.size, fun i hi hne => (Below.heap_setCell w' ⟨g, o, none⟩ v i hne).trans (h.block i hi hne)⟩
theorem But.to_kp {g : Nat} {w2 w w' : World} (h : But g w w') (k : Kp w2 w) (hg : w2.heap.size ≤ g) : Kp w2 w' := ⟨h.os.trans k.os, h.tape.trans k.tape, h.output.trans k.output, Nat.le_trans k.size h.size, fun i hi => (h.block i (Nat.lt_of_lt_of_le hi k.size) (by omega)).trans (k.block i hi)⟩
theorem But.own {g : Nat} {w : World} {β : Type} {B : Nat} (hB : w.heap.size ≤ B) : OwnFrom B (fun (_ : β) W => But g w W) := fun _ X Y row hs hg hr =>
  ⟨hg.os.trans hs.os, hg.tape.trans hs.tape, hg.output.trans hs.output, Nat.le_trans hs.size hg.size, fun k hk hne => (hg.block k (Nat.lt_of_lt_of_le hk hs.size) (fun e => by have := (hr k e.symm).1; omega)).trans (hs.block k hk hne)⟩

/-- The list of the slots, in a variable's block. -/
def AllAt (N : Nat) (W : World) (B m : Nat) : Prop := B < N ∧ ∃ a cap, W.cell? ⟨B, 0, none⟩ = some (.slice a (slM m).length cap) ∧ ∀ k (h : k < (slM m).length), ∃ g, g < N ∧ a = some ⟨g, 0, none⟩ ∧ W.cell? ⟨g, k, none⟩ = some (.int .i64 (((slM m)[k] : Nat) : Int))
theorem AllAt.of_row {W : World} {B m : Nat} {v : Value} (hv : Boxed W B 33 v) (h : W.ownsRow B 3 1 v (slM m).length ((slM m).map fun n : Nat => Value.int .i64 (n : Int))) : AllAt W.heap.size W B m := by
  refine ⟨hv.lt, ?_⟩
  rcases h.2 with ⟨rfl, h0⟩ | ⟨g, cap, cur, rfl, hb, hg, h1, h2, h3, h4⟩
  · exact ⟨none, 0, by rw [h0]; exact hv.cell, fun k hk => by omega⟩
  · refine ⟨some ⟨g, 0, none⟩, cap, hv.cell, fun k hk => ⟨g, (Array.getElem?_eq_some_iff.1 hg).1, rfl, ?_⟩⟩
    have := h.cellAt k (by omega)
    rw [this]
    simp [hk]
theorem AllAt.but {N : Nat} {W W' : World} {B m g : Nat} (h : AllAt N W B m) (hb : But g W W') (hg : N ≤ g) : AllAt N W' B m := by
  obtain ⟨h1, a, cap, h2, h3⟩ := h
  exact ⟨h1, a, cap, hb.cell h2 (by show B ≠ g; omega), fun k hk => by
    obtain ⟨gb, h4, h5, h6⟩ := h3 k hk
    exact ⟨gb, h4, h5, hb.cell h6 (by show gb ≠ g; omega)⟩⟩
theorem AllAt.kp {N : Nat} {W W' : World} {B m : Nat} (h : AllAt N W B m) (k : Kp W W') : AllAt N W' B m := by
  obtain ⟨h1, a, cap, h2, h3⟩ := h
  exact ⟨h1, a, cap, k.cell h2, fun j hj => by
    obtain ⟨gb, h4, h5, h6⟩ := h3 j hj
    exact ⟨gb, h4, h5, k.cell h6⟩⟩
theorem AllAt.read {N : Nat} {W : World} {B m : Nat} (h : AllAt N W B m) {k : Nat} (hk : k < (slM m).length) : ∃ g cap, W.cell? ⟨B, 0, none⟩ = some (.slice (some ⟨g, 0, none⟩) (slM m).length cap) ∧ W.cell? ⟨g, k, none⟩ = some (.int .i64 (((slM m)[k] : Nat) : Int)) := by
  obtain ⟨h1, a, cap, h2, h3⟩ := h
  obtain ⟨gb, h4, rfl, h6⟩ := h3 k hk
  exact ⟨gb, cap, h2, h6⟩
theorem AllAt.len {N : Nat} {W : World} {B m : Nat} (h : AllAt N W B m) : ∃ a cap, W.cell? ⟨B, 0, none⟩ = some (.slice a (slM m).length cap) := by
  obtain ⟨h1, a, cap, h2, h3⟩ := h
  exact ⟨a, cap, h2⟩

theorem prefix_snoc {pre l : List Nat} (h : pre <+: l) (hl : pre.length < l.length) : pre ++ [l[pre.length]] <+: l := by
  obtain ⟨t, rfl⟩ := h
  cases t with
  | nil => simp at hl
  | cons x t => exact ⟨t, by simp⟩
theorem prefix_last {pre l : List Nat} {x : Nat} (h : pre ++ [x] <+: l) (hl : pre.length < l.length) : x = l[pre.length] := by
  obtain ⟨t, rfl⟩ := h
  simp
theorem keepsFrom_kp {B : Nat} {W W' : World} (k : Kp W W') : KeepsFrom B W W' := ⟨k.size, fun q o _ hq _ => k.blk hq⟩
theorem stay_set {W : World} {q o : Nat} {v : Value} {cs : Array Value} {t : TypeId} (h : W.heap[q]? = some (.cells cs t)) (ht : t ≠ 26) (h0 : 0 < q) : Stay W (W.setCell ⟨q, o, none⟩ v) := by
  refine ⟨fun j cs' e => ?_, fun T k hk => ?_⟩
  · refine (Below.heap_setCell W ⟨q, o, none⟩ v j (fun e' => ?_)).trans e
    have e' : j = q := e'
    subst e'
    rw [h] at e
    injection e with e
    injection e with _ e2
    exact ht e2
  · rw [World.cell?_of_block (w := W) (Below.heap_setCell W ⟨q, o, none⟩ v 0 (by show 0 ≠ q; omega))]
    exact T k hk
theorem keepsFrom_set {B : Nat} {W : World} {q o : Nat} (v : Value) : KeepsFrom B W (W.setCell ⟨q, o, none⟩ v) := (KeepsOthers.setCell _ _ _).from _
theorem keepsFrom_but {B g : Nat} {W W' : World} {cs : Array Value} {t : TypeId} (h : But g W W') (hg : W.heap[g]? = some (.cells cs t)) : KeepsFrom B W W' := ⟨h.size, fun q o _ hq ho => h.blk hq (fun e => by
  subst e
  rw [hg] at hq
  cases hq
  cases ho)⟩
theorem stay_but {g : Nat} {W W' : World} {cs : Array Value} {t : TypeId} (h : But g W W') (hg : W.heap[g]? = some (.cells cs t)) (ht : t ≠ 26) (h0 : 0 < g) : Stay W W' := by
  refine ⟨fun j cs' e => h.blk e (fun e' => ?_), fun T k hk => h.cell (T k hk) (by show 0 ≠ g; omega)⟩
  subst e'
  rw [hg] at e
  injection e with e
  injection e with _ e2
  exact ht e2
theorem But.trans2 {g b : Nat} {A B C : World} (h : But g A B) (k : But b B C) (hb : A.heap.size ≤ b) : But g A C := ⟨k.os.trans h.os, k.tape.trans h.tape, k.output.trans h.output, Nat.le_trans h.size k.size, fun i hi hne => (k.block i (Nat.lt_of_lt_of_le hi h.size) (by omega)).trans (h.block i hi hne)⟩
theorem But.tab {g : Nat} {W W' : World} (h : But g W W') (h0 : 0 < g) (T : TabAt W) : TabAt W' := fun k hk => h.cell (T k hk) (by show 0 ≠ g; omega)
end Go.Proofs.YtbpgjlengpgnnabDoor
