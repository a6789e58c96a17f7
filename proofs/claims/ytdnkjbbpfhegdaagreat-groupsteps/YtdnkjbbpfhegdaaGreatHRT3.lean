/-
  What a range over Cells keeps, whose body takes steps: the desk and the statement's own variables.
-/
import Derived.Test.YtdnkjbbpfhegdaaGreatHRT2
namespace Go.Proofs.YtdnkjbbpfhegdaaGreat
open Go.RowKit Go.Shelf Ly Ct
set_option linter.unusedVariables false

section
variable {V W W' : World} {p Bd Bgr Bg Bl Bt Bf Bn lo hi : Nat} {X : Nat → Prop} {l : Lay} {off : Nat} {en : Int} {d d' : AD} {c c' f : Nat → GC}
theorem AtX.grow (h : AtX V W p Bd X l off en d c) (k : Keeps W W' (fun _ => False)) : AtX V W' p Bd (fun i => X i ∨ (W.heap.size ≤ i ∧ i < W'.heap.size)) l off en d c := by
  have h3 : Own V W p (fun i => X i ∨ (W.heap.size ≤ i ∧ i < W'.heap.size)) d := ⟨h.own.arena.mono (fun i hi e => ⟨e.1, fun x => x.elim e.2 (fun e' => by omega)⟩), h.own.keeps⟩
  exact ⟨h3.stay k, h.desk, k.blk h.blk, Or.inl h.mem, fun j hj => hj.elim (fun q => Nat.lt_of_lt_of_le (h.lt j q) k.size) (fun q => q.2)⟩
theorem AtX.mine {S : Nat → Prop} (h : AtX V W p Bd X l off en d c) (k : Keeps W W' S) (hS : ∀ i, S i → X i ∧ V.heap.size ≤ i ∧ i ≠ Bd) : AtX V W' p Bd X l off en d c :=
  ⟨⟨h.own.arena.keeps k (fun i _ q e => q.2 (hS i e).1), h.own.keeps.trans k (fun i q e => by have := (hS i e).2.1; omega)⟩, h.desk,
    (k.block Bd (h.lt _ h.mem) (fun e => (hS _ e).2.2 rfl)).trans h.blk, h.mem, fun j hj => Nat.lt_of_lt_of_le (h.lt j hj) k.size⟩

/-- The statement's own blocks, in the order in which they were made. -/
structure BxOk (V : World) (Bd Bl Bt Bf Bn Bg lo hi : Nat) : Prop where
  v : V.heap.size ≤ lo
  d : Bd < lo
  l : lo ≤ Bl
  t : Bl < Bt
  f : Bt < Bf
  n : Bf < Bn
  g : Bn < Bg
  h : Bg + 2 < hi
/-- The desk with the cells c, and the variables: last is la, turn is t, fine is v, now is f. -/
structure AtL (V W : World) (p Bd Bgr Bl Bt Bf Bn Bg lo hi : Nat) (l : Lay) (off : Nat) (en la t : Int) (v : Bool) (c f : Nat → GC) : Prop where
  ax : ∃ d, AtX V W p Bd (fun i => (i = Bd ∨ i = Bgr) ∨ (lo ≤ i ∧ i < hi)) l off en d c
  gb : W.heap[Bg]? = some (.cells #[.pointer (some ⟨p, 0, none⟩), .int .i64 l.k, .int .i64 l.e, .int .i64 l.a, .int .i64 l.b, .int .i64 l.c, .int .i64 l.eo, .int .i64 l.bo, .int .i64 l.s, .int .i64 l.g, .int .i64 (off : Int)] 46)
  la : Boxed W Bl 3 (.int .i64 la)
  tu : Boxed W Bt 3 (.int .i64 t)
  fi : Boxed W Bf 4 (.bool v)
  nw : RowG W Bn 36 f
variable {la t la' t' : Int} {v v' : Bool}
theorem AtL.stay (h : AtL V W p Bd Bgr Bl Bt Bf Bn Bg lo hi l off en la t v c f) (k : Keeps W W' (fun _ => False)) : AtL V W' p Bd Bgr Bl Bt Bf Bn Bg lo hi l off en la t v c f := by
  obtain ⟨⟨d, ax⟩, gb, la, tu, fi, nw⟩ := h
  exact ⟨⟨d, ax.stay k⟩, k.blk gb, k.blk la, k.blk tu, k.blk fi, nw.keeps k id⟩
theorem AtL.put (B : BxOk V Bd Bl Bt Bf Bn Bg lo hi) (h : AtL V W p Bd Bgr Bl Bt Bf Bn Bg lo hi l off en la t v c f) {L : Nat} (hL : Bg < L ∧ L < hi) (o : Obj) : AtL V (W.putObj L o) p Bd Bgr Bl Bt Bf Bn Bg lo hi l off en la t v c f := by
  obtain ⟨⟨d, ax⟩, gb, la, tu, fi, nw⟩ := h
  obtain ⟨b1, b2, b3, b4, b5, b6, b7, b8⟩ := B
  have k : Keeps W (W.putObj L o) (fun i => i = L) := (Keeps.ofGrown (grownBy_putObj' W L o)).mono (fun i _ e => by cases e; rfl)
  have q : ∀ {b : Nat} {x : Obj}, W.heap[b]? = some x → b ≠ L → (W.putObj L o).heap[b]? = some x := fun h1 h2 => (k.block _ (heap_lt h1) h2).trans h1
  exact ⟨⟨d, ax.mine k (fun i e => by subst e; exact ⟨Or.inr ⟨by omega, hL.2⟩, by omega, by omega⟩)⟩, q gb (by omega), q la (by omega), q tu (by omega), q fi (by omega), nw.keeps k (fun e => by omega)⟩
theorem boxSet {b : Nat} {x : Value} {ty : TypeId} (h : Boxed W b ty x) (y : Value) : Keeps W (W.setCell ⟨b, 0, none⟩ y) (fun i => i = b) := Keeps.setCell (S := fun i => i = b) (Keeps.refl W _) ⟨b, 0, none⟩ (fun _ => rfl) y
theorem AtL.setLa (B : BxOk V Bd Bl Bt Bf Bn Bg lo hi) (h : AtL V W p Bd Bgr Bl Bt Bf Bn Bg lo hi l off en la t v c f) (y : Int) : AtL V (W.setCell ⟨Bl, 0, none⟩ (.int .i64 y)) p Bd Bgr Bl Bt Bf Bn Bg lo hi l off en y t v c f := by
  obtain ⟨⟨d, ax⟩, gb, la, tu, fi, nw⟩ := h
  obtain ⟨b1, b2, b3, b4, b5, b6, b7, b8⟩ := B
  have k := boxSet la (.int .i64 y)
  have q : ∀ {b : Nat} {x : Obj}, W.heap[b]? = some x → b ≠ Bl → (W.setCell ⟨Bl, 0, none⟩ (.int .i64 y)).heap[b]? = some x := fun h1 h2 => (k.block _ (heap_lt h1) h2).trans h1
  exact ⟨⟨d, ax.mine k (fun i e => by subst e; exact ⟨Or.inr ⟨by omega, by omega⟩, by omega, by omega⟩)⟩, q gb (by omega), la.set _, q tu (by omega), q fi (by omega), nw.keeps k (fun e => by omega)⟩
theorem AtL.setTu (B : BxOk V Bd Bl Bt Bf Bn Bg lo hi) (h : AtL V W p Bd Bgr Bl Bt Bf Bn Bg lo hi l off en la t v c f) (y : Int) : AtL V (W.setCell ⟨Bt, 0, none⟩ (.int .i64 y)) p Bd Bgr Bl Bt Bf Bn Bg lo hi l off en la y v c f := by
  obtain ⟨⟨d, ax⟩, gb, la, tu, fi, nw⟩ := h
  obtain ⟨b1, b2, b3, b4, b5, b6, b7, b8⟩ := B
  have k := boxSet tu (.int .i64 y)
  have q : ∀ {b : Nat} {x : Obj}, W.heap[b]? = some x → b ≠ Bt → (W.setCell ⟨Bt, 0, none⟩ (.int .i64 y)).heap[b]? = some x := fun h1 h2 => (k.block _ (heap_lt h1) h2).trans h1
  exact ⟨⟨d, ax.mine k (fun i e => by subst e; exact ⟨Or.inr ⟨by omega, by omega⟩, by omega, by omega⟩)⟩, q gb (by omega), q la (by omega), tu.set _, q fi (by omega), nw.keeps k (fun e => by omega)⟩
theorem AtL.setFi (B : BxOk V Bd Bl Bt Bf Bn Bg lo hi) (h : AtL V W p Bd Bgr Bl Bt Bf Bn Bg lo hi l off en la t v c f) (y : Bool) : AtL V (W.setCell ⟨Bf, 0, none⟩ (.bool y)) p Bd Bgr Bl Bt Bf Bn Bg lo hi l off en la t y c f := by
  obtain ⟨⟨d, ax⟩, gb, la, tu, fi, nw⟩ := h
  obtain ⟨b1, b2, b3, b4, b5, b6, b7, b8⟩ := B
  have k := boxSet fi (.bool y)
  have q : ∀ {b : Nat} {x : Obj}, W.heap[b]? = some x → b ≠ Bf → (W.setCell ⟨Bf, 0, none⟩ (.bool y)).heap[b]? = some x := fun h1 h2 => (k.block _ (heap_lt h1) h2).trans h1
  exact ⟨⟨d, ax.mine k (fun i e => by subst e; exact ⟨Or.inr ⟨by omega, by omega⟩, by omega, by omega⟩)⟩, q gb (by omega), q la (by omega), q tu (by omega), fi.set _, nw.keeps k (fun e => by omega)⟩
theorem AtL.setNw (B : BxOk V Bd Bl Bt Bf Bn Bg lo hi) (h : AtL V W p Bd Bgr Bl Bt Bf Bn Bg lo hi l off en la t v c f) (y : Nat → GC) : AtL V (W.setRow Bn (cs8 y).toArray) p Bd Bgr Bl Bt Bf Bn Bg lo hi l off en la t v c y := by
  obtain ⟨⟨d, ax⟩, gb, la, tu, fi, nw⟩ := h
  obtain ⟨b1, b2, b3, b4, b5, b6, b7, b8⟩ := B
  have k : Keeps W (W.setRow Bn (cs8 y).toArray) (fun i => i = Bn) := Keeps.setRow (S := fun i => i = Bn) (Keeps.refl W _) Bn (fun _ => rfl) _
  have q : ∀ {b : Nat} {x : Obj}, W.heap[b]? = some x → b ≠ Bn → (W.setRow Bn (cs8 y).toArray).heap[b]? = some x := fun h1 h2 => (k.block _ (heap_lt h1) h2).trans h1
  obtain ⟨arr, h1, h2, h3⟩ := nw
  exact ⟨⟨d, ax.mine k (fun i e => by subst e; exact ⟨Or.inr ⟨by omega, by omega⟩, by omega, by omega⟩)⟩, q gb (by omega), q la (by omega), q tu (by omega), q fi (by omega), rowG_of (heap_setRow_same h1)⟩
/-- A call that turns the desk. -/
theorem AtL.take (B : BxOk V Bd Bl Bt Bf Bn Bg lo hi) (h : AtL V W p Bd Bgr Bl Bt Bf Bn Bg lo hi l off en la t v c f) (ht : Turned W W' p (fun k => (V.heap.size ≤ k ∧ ¬ ((k = Bd ∨ k = Bgr) ∨ (lo ≤ k ∧ k < hi))) ∧ k < W.heap.size) d') (hd : DeskD d' l off c') : AtL V W' p Bd Bgr Bl Bt Bf Bn Bg lo hi l off en la t v c' f := by
  obtain ⟨⟨d, ax⟩, gb, la, tu, fi, nw⟩ := h
  obtain ⟨b1, b2, b3, b4, b5, b6, b7, b8⟩ := B
  have q : ∀ {b : Nat} {x : Obj}, W.heap[b]? = some x → lo ≤ b → b < hi → W'.heap[b]? = some x := fun h1 h2 h3 => (ht.2.block _ (heap_lt h1) (fun e => e.1.2 (Or.inr ⟨h2, h3⟩))).trans h1
  exact ⟨⟨d', ax.turn ht hd⟩, q gb (by omega) (by omega), q la (by omega) (by omega), q tu (by omega) (by omega), q fi (by omega) (by omega), nw.keeps ht.2 (fun e => e.1.2 (Or.inr ⟨by omega, by omega⟩))⟩
end
end Go.Proofs.YtdnkjbbpfhegdaaGreat
