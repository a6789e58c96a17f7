/-
  For DirTables: the statement's variables around a range over Tables (made by gendt2.py).
-/
import Derived.Test.YtiacmlcoadcefaaDoorHDT1
namespace Go.Proofs.YtiacmlcoadcefaaDoor
open Go.RowKit Go.Shelf
set_option linter.unusedVariables false

/-- The variables: the directory, the list l, last, n, told, stopped, the iterator's own directory; all that was there ahead of them stands. -/
structure TB (W0 W : World) (M p off D : Nat) (v : Value) (ys : List Int) (la n tl : Int) (st : Bool) : Prop where
  d : DirB W M p off D
  l : Boxed W (M + 1) 22 v
  la : Boxed W (M + 2) 3 (.int .i64 la)
  n : Boxed W (M + 3) 3 (.int .i64 n)
  tl : Boxed W (M + 4) 3 (.int .i64 tl)
  st : Boxed W (M + 5) 4 (.bool st)
  q : DirB W (M + 6) p off D
  row : W.ownsRow (M + 9) 3 1 v ys.length (ys.map cellI)
  keep : Keeps W0 W (fun _ => False)
  size : W0.heap.size = M
  big : M + 9 ≤ W.heap.size
def Kd (D : Nat) (W U : World) : Prop := ∀ k, k = D ∨ k = D + 1 → U.heap[k]? = W.heap[k]?
structure TK (Wb W0 W : World) (M p off D : Nat) (v : Value) (ys : List Int) (la n tl : Int) (st : Bool) : Prop where
  tb : TB W0 W M p off D v ys la n tl st
  kd : Kd (M + 7) Wb W
section
variable {Wb W0 W W' : World} {M p off D : Nat} {v : Value} {ys : List Int} {la n tl : Int} {st : Bool}
theorem TB.stay (h : TB W0 W M p off D v ys la n tl st) (k : Keeps W W' (fun _ => False)) : TB W0 W' M p off D v ys la n tl st :=
  ⟨k.blk h.d, k.blk h.l, k.blk h.la, k.blk h.n, k.blk h.tl, k.blk h.st, k.blk h.q, row_kept h.row (fun b hb => k.block b (h.row.lt b hb).2 id), h.keep.trans k (fun _ _ e => e), h.size, Nat.le_trans h.big k.size⟩
theorem TK.stay (h : TK Wb W0 W M p off D v ys la n tl st) (k : Keeps W W' (fun _ => False)) : TK Wb W0 W' M p off D v ys la n tl st := by
  have hb := h.tb.big
  refine ⟨h.tb.stay k, fun j hj => (k.block j ?_ id).trans (h.kd j hj)⟩
  rcases hj with e | e <;> omega
theorem TB.put (h : TB W0 W M p off D v ys la n tl st) (r : Loop) (hr : W.heap[M + 7 + 1]? = some (.loop r)) (o : Obj) : TB W0 (W.putObj (M + 7 + 1) o) M p off D v ys la n tl st := by
  have k : Keeps W (W.putObj (M + 7 + 1) o) (fun i => i = M + 7 + 1) := (Keeps.ofGrown (grownBy_putObj' W (M + 7 + 1) o)).mono (fun i _ e => by cases e; rfl)
  have hs := h.size
  have q : ∀ {b : Nat} {x : Obj}, W.heap[b]? = some x → b ≠ M + 7 + 1 → (W.putObj (M + 7 + 1) o).heap[b]? = some x := fun h1 h2 => (k.block _ (heap_lt h1) h2).trans h1
  exact ⟨q h.d (by omega), q h.l (by omega), q h.la (by omega), q h.n (by omega), q h.tl (by omega), q h.st (by omega), q h.q (by omega), row_kept h.row (fun b hb => k.block b (h.row.lt b hb).2 (fun e => by have := (h.row.lt b hb).1; omega)), h.keep.trans k (fun i hi e => by omega), h.size, Nat.le_trans h.big k.size⟩
theorem boxSet {b : Nat} (W : World) (y : Value) : Keeps W (W.setCell ⟨b, 0, none⟩ y) (fun i => i = b) := Keeps.setCell (S := fun i => i = b) (Keeps.refl W _) ⟨b, 0, none⟩ (fun _ => rfl) y
theorem TB.set_la (h : TB W0 W M p off D v ys la n tl st) (y : Int) : TB W0 (W.setCell ⟨M + 2, 0, none⟩ (.int .i64 y)) M p off D v ys y n tl st := by
  have k := boxSet (b := M + 2) W (.int .i64 y)
  have hs := h.size
  have q : ∀ {b : Nat} {x : Obj}, W.heap[b]? = some x → b ≠ M + 2 → (W.setCell ⟨M + 2, 0, none⟩ (.int .i64 y)).heap[b]? = some x := fun h1 h2 => (k.block _ (heap_lt h1) h2).trans h1
  exact ⟨q h.d (by omega), q h.l (by omega), h.la.set _, q h.n (by omega), q h.tl (by omega), q h.st (by omega), q h.q (by omega), row_kept h.row (fun b hb => k.block b (h.row.lt b hb).2 (fun e => by have := (h.row.lt b hb).1; omega)), h.keep.trans k (fun i hi e => by omega), h.size, Nat.le_trans h.big k.size⟩
theorem TK.set_la (h : TK Wb W0 W M p off D v ys la n tl st) (y : Int) : TK Wb W0 (W.setCell ⟨M + 2, 0, none⟩ (.int .i64 y)) M p off D v ys y n tl st := by
  have k := boxSet (b := M + 2) W (.int .i64 y)
  have hb := h.tb.big
  refine ⟨h.tb.set_la y, fun j hj => (k.block j ?_ ?_).trans (h.kd j hj)⟩
  · rcases hj with e | e <;> omega
  · rcases hj with e | e <;> omega
theorem TB.set_n (h : TB W0 W M p off D v ys la n tl st) (y : Int) : TB W0 (W.setCell ⟨M + 3, 0, none⟩ (.int .i64 y)) M p off D v ys la y tl st := by
  have k := boxSet (b := M + 3) W (.int .i64 y)
  have hs := h.size
  have q : ∀ {b : Nat} {x : Obj}, W.heap[b]? = some x → b ≠ M + 3 → (W.setCell ⟨M + 3, 0, none⟩ (.int .i64 y)).heap[b]? = some x := fun h1 h2 => (k.block _ (heap_lt h1) h2).trans h1
  exact ⟨q h.d (by omega), q h.l (by omega), q h.la (by omega), h.n.set _, q h.tl (by omega), q h.st (by omega), q h.q (by omega), row_kept h.row (fun b hb => k.block b (h.row.lt b hb).2 (fun e => by have := (h.row.lt b hb).1; omega)), h.keep.trans k (fun i hi e => by omega), h.size, Nat.le_trans h.big k.size⟩
theorem TK.set_n (h : TK Wb W0 W M p off D v ys la n tl st) (y : Int) : TK Wb W0 (W.setCell ⟨M + 3, 0, none⟩ (.int .i64 y)) M p off D v ys la y tl st := by
  have k := boxSet (b := M + 3) W (.int .i64 y)
  have hb := h.tb.big
  refine ⟨h.tb.set_n y, fun j hj => (k.block j ?_ ?_).trans (h.kd j hj)⟩
  · rcases hj with e | e <;> omega
  · rcases hj with e | e <;> omega
theorem TB.set_tl (h : TB W0 W M p off D v ys la n tl st) (y : Int) : TB W0 (W.setCell ⟨M + 4, 0, none⟩ (.int .i64 y)) M p off D v ys la n y st := by
  have k := boxSet (b := M + 4) W (.int .i64 y)
  have hs := h.size
  have q : ∀ {b : Nat} {x : Obj}, W.heap[b]? = some x → b ≠ M + 4 → (W.setCell ⟨M + 4, 0, none⟩ (.int .i64 y)).heap[b]? = some x := fun h1 h2 => (k.block _ (heap_lt h1) h2).trans h1
  exact ⟨q h.d (by omega), q h.l (by omega), q h.la (by omega), q h.n (by omega), h.tl.set _, q h.st (by omega), q h.q (by omega), row_kept h.row (fun b hb => k.block b (h.row.lt b hb).2 (fun e => by have := (h.row.lt b hb).1; omega)), h.keep.trans k (fun i hi e => by omega), h.size, Nat.le_trans h.big k.size⟩
theorem TK.set_tl (h : TK Wb W0 W M p off D v ys la n tl st) (y : Int) : TK Wb W0 (W.setCell ⟨M + 4, 0, none⟩ (.int .i64 y)) M p off D v ys la n y st := by
  have k := boxSet (b := M + 4) W (.int .i64 y)
  have hb := h.tb.big
  refine ⟨h.tb.set_tl y, fun j hj => (k.block j ?_ ?_).trans (h.kd j hj)⟩
  · rcases hj with e | e <;> omega
  · rcases hj with e | e <;> omega
theorem TB.set_st (h : TB W0 W M p off D v ys la n tl st) (y : Bool) : TB W0 (W.setCell ⟨M + 5, 0, none⟩ (.bool y)) M p off D v ys la n tl y := by
  have k := boxSet (b := M + 5) W (.bool y)
  have hs := h.size
  have q : ∀ {b : Nat} {x : Obj}, W.heap[b]? = some x → b ≠ M + 5 → (W.setCell ⟨M + 5, 0, none⟩ (.bool y)).heap[b]? = some x := fun h1 h2 => (k.block _ (heap_lt h1) h2).trans h1
  exact ⟨q h.d (by omega), q h.l (by omega), q h.la (by omega), q h.n (by omega), q h.tl (by omega), h.st.set _, q h.q (by omega), row_kept h.row (fun b hb => k.block b (h.row.lt b hb).2 (fun e => by have := (h.row.lt b hb).1; omega)), h.keep.trans k (fun i hi e => by omega), h.size, Nat.le_trans h.big k.size⟩
theorem TK.set_st (h : TK Wb W0 W M p off D v ys la n tl st) (y : Bool) : TK Wb W0 (W.setCell ⟨M + 5, 0, none⟩ (.bool y)) M p off D v ys la n tl y := by
  have k := boxSet (b := M + 5) W (.bool y)
  have hb := h.tb.big
  refine ⟨h.tb.set_st y, fun j hj => (k.block j ?_ ?_).trans (h.kd j hj)⟩
  · rcases hj with e | e <;> omega
  · rcases hj with e | e <;> omega
theorem TK.push (h : TK Wb W0 W M p off D v ys la n tl st) (z : Int) (hn : ys.length ≤ 1000) :
    ∃ g cap w8, (∀ ty, (Builtin.append_ #[22, 22] ty #[v, .slice (some ⟨W.heap.size, 0, none⟩) 1 1]).run Tryd.prog (W.alloc (.cells #[.int .i64 z] 3)) = .ok (.slice (some ⟨g, 0, none⟩) (ys.length + 1) cap) w8) ∧ w8.cell? ⟨M + 1, 0, none⟩ = some v ∧ w8.frozen? ⟨M + 1, 0, none⟩ = false ∧
      TK Wb W0 (w8.setCell ⟨M + 1, 0, none⟩ (.slice (some ⟨g, 0, none⟩) (ys.length + 1) cap)) M p off D (.slice (some ⟨g, 0, none⟩) (ys.length + 1) cap) (ys ++ [z]) la n tl st := by
  have hs := h.tb.size
  have hb := h.tb.big
  obtain ⟨g, cap, w8, hr, hown, kk, hloc⟩ := append_one (P := Tryd.prog) 22 3 (.int .i64 0) 8 Tryd.underlying22 (by kernel_rfl) rfl (h.tb.row.alloc (.cells #[.int .i64 z] 3)) (heap_alloc_new W (.cells #[.int .i64 z] 3)) rfl (by omega) (by simp only [maxLen]; omega) (by simp; omega)
  have k1 : Keeps W w8 (fun k => v.ownBlock = some k) := ((Keeps.refl W _).alloc _).trans kk (fun _ _ e => e)
  have hg9 : M + 9 ≤ g := by
    rcases hloc with e1 | e1
    · exact (h.tb.row.lt g e1).1
    · rw [e1]; simp; omega
  have low : ∀ i, i < M + 9 → ¬ v.ownBlock = some i := fun i hi e => by have := (h.tb.row.lt i e).1; omega
  have l8 : Boxed w8 (M + 1) 22 v := k1.blkF h.tb.l (low _ (by omega))
  refine ⟨g, cap, w8, hr, l8.cell, l8.frozen, ?_⟩
  have k2 := boxSet (b := M + 1) w8 (.slice (some ⟨g, 0, none⟩) (ys.length + 1) cap)
  have k3 : Keeps W (w8.setCell ⟨M + 1, 0, none⟩ (.slice (some ⟨g, 0, none⟩) (ys.length + 1) cap)) (fun i => v.ownBlock = some i ∨ i = M + 1) := (k1.mono (fun _ _ e => Or.inl e)).trans k2 (fun _ _ e => Or.inr e)
  have q : ∀ {b : Nat} {x : Obj}, W.heap[b]? = some x → b < M + 9 → b ≠ M + 1 → (w8.setCell ⟨M + 1, 0, none⟩ (.slice (some ⟨g, 0, none⟩) (ys.length + 1) cap)).heap[b]? = some x := fun h1 h2 h3 => k3.blkF h1 (fun e => e.elim (low _ h2) h3)
  refine ⟨⟨q h.tb.d (by omega) (by omega), l8.set _, q h.tb.la (by omega) (by omega), q h.tb.n (by omega) (by omega), q h.tb.tl (by omega) (by omega), q h.tb.st (by omega) (by omega), q h.tb.q (by omega) (by omega), ?_, h.tb.keep.trans k3 (fun i hi e => e.elim (fun e => low i (by omega) e) (fun e => by omega)), hs, Nat.le_trans hb k3.size⟩, fun j hj => ?_⟩
  · have hr2 : w8.ownsRow (M + 9) 3 1 (.slice (some ⟨g, 0, none⟩) (ys.length + 1) cap) (ys ++ [z]).length ((ys ++ [z]).map cellI) := by simpa [cellI] using hown
    refine row_kept hr2 (fun b hb => k2.block b (hr2.lt b hb).2 (fun e => ?_))
    have := (hr2.lt b hb).1
    omega
  · refine (k3.block j ?_ (fun e => ?_)).trans (h.kd j hj)
    · rcases hj with e | e <;> omega
    · rcases hj with rfl | rfl <;> rcases e with e | e
      · exact low _ (by omega) e
      · omega
      · exact low _ (by omega) e
      · omega
end
theorem norun_eq {ts : List Int} {s i : Nat} (h : ∀ j, s ≤ j → j < i → ¬ run1 ts j) (hs : 1 ≤ s) : ∀ j, s - 1 ≤ j → j < i → ts.getD j 0 = ts.getD (s - 1) 0 := by
  intro j
  induction j with
  | zero => intro h1 _; rw [show s - 1 = 0 by omega]
  | succ j ih =>
    intro h1 h2
    by_cases e : s - 1 = j + 1
    · rw [e]
    · have := h (j + 1) (by omega) h2
      have e2 : ts.getD (j + 1) 0 = ts.getD j 0 := Classical.byContradiction fun q => this (Or.inr q)
      rw [e2]
      exact ih (by omega) (by omega)

section
variable {σ α : Type}
/-- range_tied, with what follows told once. -/
theorem range_tiedT {n : Nat} {op : Operand} {ps : Array Tmp} {assign body : Code} {Q : Exit → Act → World → Prop} {a : Act} {w : World} (h1 : 2 ≤ n) {gf : Nat} {lb : Array Value}
    (hop : a.eval op = .func (.func gf) #[] lb) (eg : ∀ args w, (callFunc gf args).run Tryd.prog w = .ok (.enter gf args) w)
    {encs : α → Array Value} {Gx : α → σ → Prop} {Nx : α → σ → σ → Prop} {Ex : σ → Prop} {Rx : σ → World → Prop} {s0 : σ} (hseq : SeqTied (n - 1) gf lb encs Gx Nx Ex Rx s0)
    (hps : ∀ x, (encs x).size = ps.size) (Ax : Act → α → Act → World → Prop) (hAx : ∀ x a' V r o, Ax a x a' V → V.heap[w.heap.size + 1]? = some (.loop r) → Ax a x a' (V.putObj (w.heap.size + 1) o)) (I : σ → World → Prop) (Ix : Code → World → Prop) (hR : ∀ s V, I s V → Rx s V)
    (hI : ∀ s V V', I s V → Keeps V V' (fun _ => False) → I s V')
    (hIp : ∀ s V r o, I s V → V.heap[w.heap.size + 1]? = some (.loop r) → I s (V.putObj (w.heap.size + 1) o))
    (hXp : ∀ c V r o, Ix c V → V.heap[w.heap.size + 1]? = some (.loop r) → Ix c (V.putObj (w.heap.size + 1) o))
    (h0 : ∀ r, I s0 ((w.alloc (.deferred (some []))).alloc (.loop r)))
    (T : World → Prop) (tail : ∀ W, T W → W.heap[w.heap.size]? = some (.deferred (some [])) → Q .normal { a with defers := { target := .collected w.heap.size, args := #[] } :: a.defers } W)
    (hassign : ∀ x s W (K : Act → World → Prop), I s W → (∀ a' W', Keeps W W' (fun _ => False) → Ax a x a' W' → K a' W') →
      assign.wpIn (Fence.wide.inRound (w.heap.size + 1)) (n - 1 - 1) Tryd.prog (Exit.then K (fun _ _ _ => False)) { tmps := (ps.zip (encs x)).foldl (fun t (p, v) => t.setIfInBounds p v) a.tmps, defers := [] } W)
    (hbody : ∀ x s a' W, I s W → Ax a x a' W → Gx x s → body.wpIn (Fence.wide.inRound (w.heap.size + 1)) (n - 1 - 1) Tryd.prog (TiedPost w.heap.size I Ix (Nx x s) W) a' W)
    (hdone : ∀ s W, Ex s → I s W → T W)
    (hstop : ∀ c W, Ix c W → T W ∧ ∀ a' W', Q .normal a' W' → c.wpIn Fence.wide n Tryd.prog Q a' W') :
    (Code.rangeFunc op ps assign body).wp Tryd.prog Q a w := by
  rw [← wpIn_wide (n := n)]
  exact range_tied h1 hop eg hseq hps Ax hAx I Ix hR hI hIp hXp h0 hassign hbody (fun s W hE hi hd => tail W (hdone s W hE hi) hd) (fun c W hx hd => (hstop c W hx).2 _ _ (tail W (hstop c W hx).1 hd))
end
end Go.Proofs.YtiacmlcoadcefaaDoor
