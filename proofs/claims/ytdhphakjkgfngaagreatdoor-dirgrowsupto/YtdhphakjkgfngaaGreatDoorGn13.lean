import Derived.BigQuiet
import Derived.Test.YtdhphakjkgfngaaGreatDoorGn12
/-
  For DirTables: the statement's variables around a range over Tables (made by gendt2.py).
-/
namespace Go.Proofs.YtdhphakjkgfngaaGreatDoor
open Go.RowKit Go.Shelf
set_option linter.unusedVariables false

/-- The variables: the directory, the list l, last, n, told, stopped, the iterator's own directory; all that was there ahead of them stands. -/
structure TB (W0 W : World) (M p off D : Nat) (v : Value) (ys : List Int) (la n tl : Int) (st : Bool) : Prop where
  d : DirB W M p off D
  l : Boxed W (M + 1) 29 v
  la : Boxed W (M + 2) 3 (.int .i64 la)
  n : Boxed W (M + 3) 3 (.int .i64 n)
  tl : Boxed W (M + 4) 3 (.int .i64 tl)
  st : Boxed W (M + 5) 4 (.bool st)
  q : DirB W (M + 6) p off D
  row : W.ownsRow (M + 9) 3 1 v ys.length (ys.map cellI)
  keep : Keeps W0 W (fun _ => False)
  size : W0.heap.size = M
  big : M + 9 ≤ W.heap.size
def Kd (D : Nat) (W U : World) : Prop := ∀ k, k = D ∨ k = D + 1 → U.heap[k]? = W.heap[k]?
structure TK (Wb W0 W : World) (M p off D : Nat) (v : Value) (ys : List Int) (la n tl : Int) (st : Bool) : Prop where
  tb : TB W0 W M p off D v ys la n tl st
  kd : Kd (M + 7) Wb W
section
variable {Wb W0 W W' : World} {M p off D : Nat} {v : Value} {ys : List Int} {la n tl : Int} {st : Bool}
theorem TB.stay (h : TB W0 W M p off D v ys la n tl st) (k : Keeps W W' (fun _ => False)) : TB W0 W' M p off D v ys la n tl st :=
  ⟨k.blk h.d, k.blk h.l, k.blk h.la, k.blk h.n, k.blk h.tl, k.blk h.st, k.blk h.q, row_kept h.row (fun b hb => k.block b (h.row.lt b hb).2 id), h.keep.trans k (fun _ _ e => e), h.size, Nat.le_trans h.big k.size⟩
theorem TK.stay (h : TK Wb W0 W M p off D v ys la n tl st) (k : Keeps W W' (fun _ => False)) : TK Wb W0 W' M p off D v ys la n tl st := by
  have hb := h.tb.big
  refine ⟨h.tb.stay k, fun j hj => (k.block j ?_ id).trans (h.kd j hj)⟩
  rcases hj with e | e <;> omega
theorem TB.put (h : TB W0 W M p off D v ys la n tl st) (r : Loop) (hr : W.heap[M + 7 + 1]? = some (.loop r)) (o : Obj) : TB W0 (W.putObj (M + 7 + 1) o) M p off D v ys la n tl st := by
  have k : Keeps W (W.putObj (M + 7 + 1) o) (fun i => i = M + 7 + 1) := (Keeps.ofGrown (grownBy_putObj' W (M + 7 + 1) o)).mono (fun i _ e => by cases e; rfl)
  have hs := h.size
  have q : ∀ {b : Nat} {x : Obj}, W.heap[b]? = some x → b ≠ M + 7 + 1 → (W.putObj (M + 7 + 1) o).heap[b]? = some x := fun h1 h2 => (k.block _ (heap_lt h1) h2).trans h1
  exact ⟨q h.d (by omega), q h.l (by omega), q h.la (by omega), q h.n (by omega), q h.tl (by omega), q h.st (by omega), q h.q (by omega), row_kept h.row (fun b hb => k.block b (h.row.lt b hb).2 (fun e => by have := (h.row.lt b hb).1; omega)), h.keep.trans k (fun i hi e => by omega), h.size, Nat.le_trans h.big k.size⟩
theorem boxSet {b : Nat} (W : World) (y : Value) : Keeps W (W.setCell ⟨b, 0, none⟩ y) (fun i => i = b) := Keeps.setCell (S := fun i => i = b) (Keeps.refl W _) ⟨b, 0, none⟩ (fun _ => rfl) y
theorem TB.set_la (h : TB W0 W M p off D v ys la n tl st) (y : Int) : TB W0 (W.setCell ⟨M + 2, 0, none⟩ (.int .i64 y)) M p off D v ys y n tl st := by
  have k := boxSet (b := M + 2) W (.int .i64 y)
  have hs := h.size
  have q : ∀ {b : Nat} {x : Obj}, W.heap[b]? = some x → b ≠ M + 2 → (W.setCell ⟨M + 2, 0, none⟩ (.int .i64 y)).heap[b]? = some x := fun h1 h2 => (k.block _ (heap_lt h1) h2).trans h1
  exact ⟨q h.d (by omega), q h.l (by omega), h.la.set _, q h.n (by omega), q h.tl (by omega), q h.st (by omega), q h.q (by omega), row_kept h.row (fun b hb => k.block b (h.row.lt b hb).2 (fun e => by have := (h.row.lt b hb).1; omega)), h.keep.trans k (fun i hi e => by omega), h.size, Nat.le_trans h.big k.size⟩
theorem TK.set_la (h : TK Wb W0 W M p off D v ys la n tl st) (y : Int) : TK Wb W0 (W.setCell ⟨M + 2, 0, none⟩ (.int .i64 y)) M p off D v ys y n tl st := by
  have k := boxSet (b := M + 2) W (.int .i64 y)
  have hb := h.tb.big
  refine ⟨h.tb.set_la y, fun j hj => (k.block j ?_ ?_).trans (h.kd j hj)⟩
  · rcases hj with e | e <;> omega
  · rcases hj with e | e <;> omega
theorem TB.set_n (h : TB W0 W M p off D v ys la n tl st) (y : Int) : TB W0 (W.setCell ⟨M + 3, 0, none⟩ (.int .i64 y)) M p off D v ys la y tl st := by
  have k := boxSet (b := M + 3) W (.int .i64 y)
  have hs := h.size
  have q : ∀ {b : Nat} {x : Obj}, W.heap[b]? = some x → b ≠ M + 3 → (W.setCell ⟨M + 3, 0, none⟩ (.int .i64 y)).heap[b]? = some x := fun h1 h2 => (k.block _ (heap_lt h1) h2).trans h1
  exact ⟨q h.d (by omega), q h.l (by omega), q h.la (by omega), h.n.set _, q h.tl (by omega), q h.st (by omega), q h.q (by omega), row_kept h.row (fun b hb => k.block b (h.row.lt b hb).2 (fun e => by have := (h.row.lt b hb).1; omega)), h.keep.trans k (fun i hi e => by omega), h.size, Nat.le_trans h.big k.size⟩
theorem TK.set_n (h : TK Wb W0 W M p off D v ys la n tl st) (y : Int) : TK Wb W0 (W.setCell ⟨M + 3, 0, none⟩ (.int .i64 y)) M p off D v ys la y tl st := by
  have k := boxSet (b := M + 3) W (.int .i64 y)
  have hb := h.tb.big
  refine ⟨h.tb.set_n y, fun j hj => (k.block j ?_ ?_).trans (h.kd j hj)⟩
  · rcases hj with e | e <;> omega
  · rcases hj with e | e <;> omega
theorem TB.set_tl (h : TB W0 W M p off D v ys la n tl st) (y : Int) : TB W0 (W.setCell ⟨M + 4, 0, none⟩ (.int .i64 y)) M p off D v ys la n y st := by
  have k := boxSet (b := M + 4) W (.int .i64 y)
  have hs := h.size
  have q : ∀ {b : Nat} {x : Obj}, W.heap[b]? = some x → b ≠ M + 4 → (W.setCell ⟨M + 4, 0, none⟩ (.int .i64 y)).heap[b]? = some x := fun h1 h2 => (k.block _ (heap_lt h1) h2).trans h1
  exact ⟨q h.d (by omega), q h.l (by omega), q h.la (by omega), q h.n (by omega), h.tl.set _, q h.st (by omega), q h.q (by omega), row_kept h.row (fun b hb => k.block b (h.row.lt b hb).2 (fun e => by have := (h.row.lt b hb).1; omega)), h.keep.trans k (fun i hi e => by omega), h.size, Nat.le_trans h.big k.size⟩
theorem TK.set_tl (h : TK Wb W0 W M p off D v ys la n tl st) (y : Int) : TK Wb W0 (W.setCell ⟨M + 4, 0, none⟩ (.int .i64 y)) M p off D v ys la n y st := by
  have k := boxSet (b := M + 4) W (.int .i64 y)
  have hb := h.tb.big
  refine ⟨h.tb.set_tl y, fun j hj => (k.block j ?_ ?_).trans (h.kd j hj)⟩
  · rcases hj with e | e <;> omega
  · rcases hj with e | e <;> omega
theorem TB.set_st (h : TB W0 W M p off D v ys la n tl st) (y : Bool) : TB W0 (W.setCell ⟨M + 5, 0, none⟩ (.bool y)) M p off D v ys la n tl y := by
  have k := boxSet (b := M + 5) W (.bool y)
  have hs := h.size
  have q : ∀ {b : Nat} {x : Obj}, W.heap[b]? = some x → b ≠ M + 5 → (W.setCell ⟨M + 5, 0, none⟩ (.bool y)).heap[b]? = some x := fun h1 h2 => (k.block _ (heap_lt h1) h2).trans h1
  exact ⟨q h.d (by omega), q h.l (by omega), q h.la (by omega), q h.n (by omega), q h.tl (by omega), h.st.set _, q h.q (by omega), row_kept h.row (fun b hb => k.block b (h.row.lt b hb).2 (fun e => by have := (h.row.lt b hb).1; omega)), h.keep.trans k (fun i hi e => by omega), h.size, Nat.le_trans h.big k.size⟩
theorem TK.set_st (h : TK Wb W0 W M p off D v ys la n tl st) (y : Bool) : TK Wb W0 (W.setCell ⟨M + 5, 0, none⟩ (.bool y)) M p off D v ys la n tl y := by
  have k := boxSet (b := M + 5) W (.bool y)
  have hb := h.tb.big
  refine ⟨h.tb.set_st y, fun j hj => (k.block j ?_ ?_).trans (h.kd j hj)⟩
  · rcases hj with e | e <;> omega
  · rcases hj with e | e <;> omega
theorem TK.push (h : TK Wb W0 W M p off D v ys la n tl st) (z : Int) (hn : ys.length ≤ 1000) :
    ∃ g cap w8, (∀ ty, (Builtin.append_ #[29, 29] ty #[v, .slice (some ⟨W.heap.size, 0, none⟩) 1 1]).run Tryz.prog (W.alloc (.cells #[.int .i64 z] 3)) = .ok (.slice (some ⟨g, 0, none⟩) (ys.length + 1) cap) w8) ∧ w8.cell? ⟨M + 1, 0, none⟩ = some v ∧ w8.frozen? ⟨M + 1, 0, none⟩ = false ∧
      TK Wb W0 (w8.setCell ⟨M + 1, 0, none⟩ (.slice (some ⟨g, 0, none⟩) (ys.length + 1) cap)) M p off D (.slice (some ⟨g, 0, none⟩) (ys.length + 1) cap) (ys ++ [z]) la n tl st := by
  have hs := h.tb.size
  have hb := h.tb.big
  obtain ⟨g, cap, w8, hr, hown, kk, hloc⟩ := append_one (P := Tryz.prog) 29 3 (.int .i64 0) 8 Tryz.underlying29 (by kernel_rfl) rfl (h.tb.row.alloc (.cells #[.int .i64 z] 3)) (heap_alloc_new W (.cells #[.int .i64 z] 3)) rfl (by omega) (by simp only [maxLen]; omega) (by simp; omega)
  have k1 : Keeps W w8 (fun k => v.ownBlock = some k) := ((Keeps.refl W _).alloc _).trans kk (fun _ _ e => e)
  have hg9 : M + 9 ≤ g := by
    rcases hloc with e1 | e1
    · exact (h.tb.row.lt g e1).1
    · rw [e1]; simp; omega
  have low : ∀ i, i < M + 9 → ¬ v.ownBlock = some i := fun i hi e => by have := (h.tb.row.lt i e).1; omega
  have l8 : Boxed w8 (M + 1) 29 v := k1.blkF h.tb.l (low _ (by omega))
  refine ⟨g, cap, w8, hr, l8.cell, l8.frozen, ?_⟩
  have k2 := boxSet (b := M + 1) w8 (.slice (some ⟨g, 0, none⟩) (ys.length + 1) cap)
  have k3 : Keeps W (w8.setCell ⟨M + 1, 0, none⟩ (.slice (some ⟨g, 0, none⟩) (ys.length + 1) cap)) (fun i => v.ownBlock = some i ∨ i = M + 1) := (k1.mono (fun _ _ e => Or.inl e)).trans k2 (fun _ _ e => Or.inr e)
  have q : ∀ {b : Nat} {x : Obj}, W.heap[b]? = some x → b < M + 9 → b ≠ M + 1 → (w8.setCell ⟨M + 1, 0, none⟩ (.slice (some ⟨g, 0, none⟩) (ys.length + 1) cap)).heap[b]? = some x := fun h1 h2 h3 => k3.blkF h1 (fun e => e.elim (low _ h2) h3)
  refine ⟨⟨q h.tb.d (by omega) (by omega), l8.set _, q h.tb.la (by omega) (by omega), q h.tb.n (by omega) (by omega), q h.tb.tl (by omega) (by omega), q h.tb.st (by omega) (by omega), q h.tb.q (by omega) (by omega), ?_, h.tb.keep.trans k3 (fun i hi e => e.elim (fun e => low i (by omega) e) (fun e => by omega)), hs, Nat.le_trans hb k3.size⟩, fun j hj => ?_⟩
  · have hr2 : w8.ownsRow (M + 9) 3 1 (.slice (some ⟨g, 0, none⟩) (ys.length + 1) cap) (ys ++ [z]).length ((ys ++ [z]).map cellI) := by simpa [cellI] using hown
    refine row_kept hr2 (fun b hb => k2.block b (hr2.lt b hb).2 (fun e => ?_))
    have := (hr2.lt b hb).1
    omega
  · refine (k3.block j ?_ (fun e => ?_)).trans (h.kd j hj)
    · rcases hj with e | e <;> omega
    · rcases hj with rfl | rfl <;> rcases e with e | e
      · exact low _ (by omega) e
      · omega
      · exact low _ (by omega) e
      · omega
end
theorem norun_eq {ts : List Int} {s i : Nat} (h : ∀ j, s ≤ j → j < i → ¬ run1 ts j) (hs : 1 ≤ s) : ∀ j, s - 1 ≤ j → j < i → ts.getD j 0 = ts.getD (s - 1) 0 := by
  intro j
  induction j with
  | zero => intro h1 _; rw [show s - 1 = 0 by omega]
  | succ j ih =>
    intro h1 h2
    by_cases e : s - 1 = j + 1
    · rw [e]
    · have := h (j + 1) (by omega) h2
      have e2 : ts.getD (j + 1) 0 = ts.getD j 0 := Classical.byContradiction fun q => this (Or.inr q)
      rw [e2]
      exact ih (by omega) (by omega)

section
variable {σ α : Type}
/-- range_tied, with what follows told once. -/
theorem range_tiedT {n : Nat} {op : Operand} {ps : Array Tmp} {assign body : Code} {Q : Exit → Act → World → Prop} {a : Act} {w : World} (h1 : 2 ≤ n) {gf : Nat} {lb : Array Value}
    (hop : a.eval op = .func (.func gf) #[] lb) (eg : ∀ args w, (callFunc gf args).run Tryz.prog w = .ok (.enter gf args) w)
    {encs : α → Array Value} {Gx : α → σ → Prop} {Nx : α → σ → σ → Prop} {Ex : σ → Prop} {Rx : σ → World → Prop} {s0 : σ} (hseq : SeqTied (n - 1) gf lb encs Gx Nx Ex Rx s0)
    (hps : ∀ x, (encs x).size = ps.size) (Ax : Act → α → Act → World → Prop) (hAx : ∀ x a' V r o, Ax a x a' V → V.heap[w.heap.size + 1]? = some (.loop r) → Ax a x a' (V.putObj (w.heap.size + 1) o)) (I : σ → World → Prop) (Ix : Code → World → Prop) (hR : ∀ s V, I s V → Rx s V)
    (hI : ∀ s V V', I s V → Keeps V V' (fun _ => False) → I s V')
    (hIp : ∀ s V r o, I s V → V.heap[w.heap.size + 1]? = some (.loop r) → I s (V.putObj (w.heap.size + 1) o))
    (hXp : ∀ c V r o, Ix c V → V.heap[w.heap.size + 1]? = some (.loop r) → Ix c (V.putObj (w.heap.size + 1) o))
    (h0 : ∀ r, I s0 ((w.alloc (.deferred (some []))).alloc (.loop r)))
    (T : World → Prop) (tail : ∀ W, T W → W.heap[w.heap.size]? = some (.deferred (some [])) → Q .normal { a with defers := { target := .collected w.heap.size, args := #[] } :: a.defers } W)
    (hassign : ∀ x s W (K : Act → World → Prop), I s W → (∀ a' W', Keeps W W' (fun _ => False) → Ax a x a' W' → K a' W') →
      assign.wpIn (Fence.wide.inRound (w.heap.size + 1)) (n - 1 - 1) Tryz.prog (Exit.then K (fun _ _ _ => False)) { tmps := (ps.zip (encs x)).foldl (fun t (p, v) => t.setIfInBounds p v) a.tmps, defers := [] } W)
    (hbody : ∀ x s a' W, I s W → Ax a x a' W → Gx x s → body.wpIn (Fence.wide.inRound (w.heap.size + 1)) (n - 1 - 1) Tryz.prog (TiedPost w.heap.size I Ix (Nx x s) W) a' W)
    (hdone : ∀ s W, Ex s → I s W → T W)
    (hstop : ∀ c W, Ix c W → T W ∧ ∀ a' W', Q .normal a' W' → c.wpIn Fence.wide n Tryz.prog Q a' W') :
    (Code.rangeFunc op ps assign body).wp Tryz.prog Q a w := by
  rw [← wpIn_wide (n := n)]
  exact range_tied h1 hop eg hseq hps Ax hAx I Ix hR hI hIp hXp h0 hassign hbody (fun s W hE hi hd => tail W (hdone s W hE hi) hd) (fun c W hx hd => (hstop c W hx).2 _ _ (tail W (hstop c W hx).1 hd))
end
end Go.Proofs.YtdhphakjkgfngaaGreatDoor
/-
  DirGrows' model as data: tables that tile the hashes, a directory beside them.
-/
namespace Go.Proofs.YtdhphakjkgfngaaGreatDoor
set_option linter.unusedVariables false

/-- A table of the model: it has all hashes whose highest e bits are b. -/
structure PD where
  t : Int
  e : Nat
  b : Nat
instance : Inhabited PD := ⟨⟨0, 0, 0⟩⟩
/-- The tables in a row have all of [k, 64) among the highest six bits, each once. -/
def Tile : Nat → List PD → Prop
  | k, [] => k = 64
  | k, m :: r => m.e ≤ 6 ∧ m.b * 2 ^ (6 - m.e) = k ∧ Tile (k + 2 ^ (6 - m.e)) r
theorem tile_le : ∀ {k : Nat} {ms : List PD}, Tile k ms → k + ms.length ≤ 64
  | k, [], h => by simp [Tile] at h; simp; omega
  | k, m :: r, ⟨h1, h2, h3⟩ => by
    have := tile_le h3
    have := pow_pos' (6 - m.e)
    simp
    omega
theorem tile_mem : ∀ {k : Nat} {ms : List PD}, Tile k ms → ∀ i (h : i < ms.length), ms[i].e ≤ 6 ∧ k ≤ ms[i].b * 2 ^ (6 - ms[i].e) ∧ ms[i].b * 2 ^ (6 - ms[i].e) + 2 ^ (6 - ms[i].e) ≤ 64 ∧ Tile (ms[i].b * 2 ^ (6 - ms[i].e) + 2 ^ (6 - ms[i].e)) (ms.drop (i + 1))
  | k, m :: r, ⟨h1, h2, h3⟩, 0, _ => by
    have := tile_le h3
    refine ⟨h1, by simp; omega, by simp; omega, ?_⟩
    simp
    rw [h2]
    exact h3
  | k, m :: r, ⟨h1, h2, h3⟩, i + 1, h => by
    obtain ⟨a, b, c, d⟩ := tile_mem h3 i (by simpa using h)
    exact ⟨by simpa using a, Nat.le_trans (Nat.le_add_right k _) (by simpa using b), by simpa using c, by simpa using d⟩
theorem head_div {h e : Nat} (he : e ≤ 6) : headN h e = headN h 6 / 2 ^ (6 - e) := by
  unfold headN
  rw [Nat.div_div_eq_div_mul, ← Nat.pow_add, show 64 - 6 + (6 - e) = 64 - e by omega]
def hasN (m : PD) (h : Nat) : Prop := headN h m.e = m.b
theorem hasN_iff {m : PD} {h : Nat} (he : m.e ≤ 6) : hasN m h ↔ m.b * 2 ^ (6 - m.e) ≤ headN h 6 ∧ headN h 6 < m.b * 2 ^ (6 - m.e) + 2 ^ (6 - m.e) := by
  unfold hasN
  rw [head_div he]
  have hp := pow_pos' (6 - m.e)
  generalize 2 ^ (6 - m.e) = q at *
  constructor
  · intro e
    rw [← e]
    have h1 := Nat.div_mul_le_self (headN h 6) q
    have h2 := Nat.lt_div_mul_add (a := headN h 6) (b := q) (by omega)
    exact ⟨h1, h2⟩
  · rintro ⟨h1, h2⟩
    refine Nat.div_eq_of_lt_le h1 ?_
    rw [Nat.succ_mul]
    exact h2
/-- Which one has the hash. -/
theorem tile_has : ∀ {k : Nat} {ms : List PD}, Tile k ms → ∀ x, k ≤ x → x < 64 → ∃ i, ∃ (h : i < ms.length), ms[i].b * 2 ^ (6 - ms[i].e) ≤ x ∧ x < ms[i].b * 2 ^ (6 - ms[i].e) + 2 ^ (6 - ms[i].e)
  | k, [], h, x, h1, h2 => by simp [Tile] at h; omega
  | k, m :: r, ⟨a, b, c⟩, x, h1, h2 => by
    by_cases hx : x < k + 2 ^ (6 - m.e)
    · exact ⟨0, by simp, by simp; omega⟩
    · obtain ⟨i, hi, h3⟩ := tile_has c x (by omega) h2
      exact ⟨i + 1, by simpa using hi, by simpa using h3⟩
theorem tile_lt {k : Nat} {ms : List PD} (h : Tile k ms) {i j : Nat} (hij : i < j) (hj : j < ms.length) : ms[i].b * 2 ^ (6 - ms[i].e) + 2 ^ (6 - ms[i].e) ≤ ms[j].b * 2 ^ (6 - ms[j].e) := by
  have h1 := (tile_mem h i (by omega)).2.2.2
  have h2 := (tile_mem h1 (j - (i + 1)) (by simp; omega)).2.1
  have e : i + 1 + (j - (i + 1)) = j := by omega
  simp only [List.getElem_drop, e] at h2
  exact h2
theorem tile_one {k : Nat} {ms : List PD} (h : Tile k ms) {i j x : Nat} (hi : i < ms.length) (hj : j < ms.length) (h1 : ms[i].b * 2 ^ (6 - ms[i].e) ≤ x ∧ x < ms[i].b * 2 ^ (6 - ms[i].e) + 2 ^ (6 - ms[i].e)) (h2 : ms[j].b * 2 ^ (6 - ms[j].e) ≤ x ∧ x < ms[j].b * 2 ^ (6 - ms[j].e) + 2 ^ (6 - ms[j].e)) : i = j := by
  rcases Nat.lt_trichotomy i j with q | q | q
  · have := tile_lt h q hj
    omega
  · exact q
  · have := tile_lt h q hi
    omega
theorem tile_split : ∀ {k : Nat} {ms : List PD}, Tile k ms → ∀ i (h : i < ms.length), ms[i].e < 6 → ∀ t1 t2, Tile k (ms.take i ++ [⟨t1, ms[i].e + 1, 2 * ms[i].b⟩, ⟨t2, ms[i].e + 1, 2 * ms[i].b + 1⟩] ++ ms.drop (i + 1))
  | k, m :: r, ⟨h1, h2, h3⟩, 0, _, he, t1, t2 => by
    simp at he
    have e1 : 2 ^ (6 - m.e) = 2 * 2 ^ (6 - (m.e + 1)) := by
      rw [show 6 - m.e = (6 - (m.e + 1)) + 1 by omega, Nat.pow_succ]
      omega
    simp only [List.take_zero, List.nil_append, List.getElem_cons_zero, List.drop_succ_cons, List.drop_zero, List.cons_append]
    generalize hq : 2 ^ (6 - (m.e + 1)) = q at *
    refine ⟨by simp; omega, ?_, ?_, ?_, ?_⟩
    · simp only [hq]
      rw [← h2, e1]
      rw [Nat.mul_comm 2 m.b, Nat.mul_assoc]
    · simp; omega
    · simp only [hq]
      rw [← h2, e1, Nat.add_mul, Nat.mul_comm 2 m.b, Nat.mul_assoc, Nat.one_mul]
    · simp only [hq]
      rw [show k + q + q = k + 2 ^ (6 - m.e) by omega]
      exact h3
  | k, m :: r, ⟨h1, h2, h3⟩, i + 1, h, he, t1, t2 => by
    have := tile_split h3 i (by simpa using h) (by simpa using he) t1 t2
    simp only [List.take_succ_cons, List.cons_append, List.getElem_cons_succ, List.drop_succ_cons]
    exact ⟨h1, h2, by simpa using this⟩
end Go.Proofs.YtdhphakjkgfngaaGreatDoor
/-
  A directory beside the model: what each entry is; widening, splitting, picking, runs.
-/
namespace Go.Proofs.YtdhphakjkgfngaaGreatDoor
set_option linter.unusedVariables false

theorem head_divD {h e D : Nat} (he : e ≤ D) (hD : D ≤ 64) : headN h e = headN h D / 2 ^ (D - e) := by
  unfold headN
  rw [Nat.div_div_eq_div_mul, ← Nat.pow_add, show 64 - D + (D - e) = 64 - e by omega]
theorem cov {j D e b : Nat} (he : e ≤ D) (hD : D ≤ 6) : j / 2 ^ (D - e) = b ↔ b * 2 ^ (6 - e) ≤ j * 2 ^ (6 - D) ∧ j * 2 ^ (6 - D) < b * 2 ^ (6 - e) + 2 ^ (6 - e) := by
  have e1 : 2 ^ (6 - e) = 2 ^ (D - e) * 2 ^ (6 - D) := by rw [← Nat.pow_add, show D - e + (6 - D) = 6 - e by omega]
  have p1 := pow_pos' (D - e)
  have p2 := pow_pos' (6 - D)
  rw [e1, ← Nat.mul_assoc, ← Nat.add_mul]
  generalize 2 ^ (D - e) = q at *
  generalize 2 ^ (6 - D) = r at *
  rw [Nat.mul_le_mul_right_iff (by omega), Nat.mul_lt_mul_right (by omega)]
  constructor
  · intro h
    rw [← h]
    exact ⟨Nat.div_mul_le_self j q, Nat.lt_div_mul_add (by omega)⟩
  · rintro ⟨h1, h2⟩
    refine Nat.div_eq_of_lt_le h1 ?_
    rw [Nat.succ_mul]
    exact h2
/-- The entries are the model's tables. -/
structure Coh (D : Nat) (ts : List Int) (ms : List PD) : Prop where
  tile : Tile 0 ms
  dep : D ≤ 6
  len : ts.length = 2 ^ D
  ent : ∀ m ∈ ms, m.e ≤ D ∧ ∀ j, j < ts.length → j / 2 ^ (D - m.e) = m.b → ts.getD j 0 = m.t
theorem Coh.pick {D : Nat} {ts : List Int} {ms : List PD} (c : Coh D ts ms) {h : Nat} (hh : h < 18446744073709551616) {m : PD} (hm : m ∈ ms) (ho : hasN m h) : ts.getD (headN h D) 0 = m.t := by
  obtain ⟨h1, h2⟩ := c.ent m hm
  have hD := c.dep
  refine h2 _ (by rw [c.len]; exact headN_lt h D hh (by omega)) ?_
  rw [← head_divD h1 (by omega)]
  exact ho
theorem Coh.widen {D : Nat} {ts : List Int} {ms : List PD} (c : Coh D ts ms) (hD : D < 6) : Coh (D + 1) (dbl ts) ms := by
  refine ⟨c.tile, by omega, by rw [dbl_length, c.len, Nat.pow_succ]; omega, fun m hm => ?_⟩
  obtain ⟨h1, h2⟩ := c.ent m hm
  refine ⟨by omega, fun j hj hq => ?_⟩
  have hj2 : j / 2 < ts.length := by rw [dbl_length] at hj; omega
  rw [List.getD_eq_getElem?_getD, List.getElem?_eq_getElem hj, Option.getD_some, dbl_get hj]
  have := h2 (j / 2) hj2 (by
    rw [Nat.div_div_eq_div_mul, show 2 * 2 ^ (D - m.e) = 2 ^ (D + 1 - m.e) by rw [show D + 1 - m.e = (D - m.e) + 1 by omega, Nat.pow_succ]; omega]
    exact hq)
  rw [← this, List.getD_eq_getElem?_getD, List.getElem?_eq_getElem hj2]
  rfl
theorem putR_getD {ts : List Int} {f n : Nat} {t : Int} {j : Nat} (h : j < ts.length) : (putR ts f n t).getD j 0 = if f ≤ j ∧ j < f + n then t else ts.getD j 0 := by
  rw [List.getD_eq_getElem?_getD, List.getElem?_eq_getElem (by rw [putR_length]; exact h), Option.getD_some, putR_get, List.getD_eq_getElem?_getD, List.getElem?_eq_getElem h]
  rfl
def splitL (ms : List PD) (i : Nat) (t1 t2 : Int) : List PD := ms.take i ++ [⟨t1, ms[i]!.e + 1, 2 * ms[i]!.b⟩, ⟨t2, ms[i]!.e + 1, 2 * ms[i]!.b + 1⟩] ++ ms.drop (i + 1)
theorem mem_rest {ms : List PD} {i : Nat} {m : PD} (h : m ∈ ms.take i ∨ m ∈ ms.drop (i + 1)) : ∃ k, ∃ hk : k < ms.length, k ≠ i ∧ m = ms[k] := by
  rcases h with h | h
  · obtain ⟨k, hk, rfl⟩ := List.getElem_of_mem h
    rw [List.length_take] at hk
    exact ⟨k, by omega, by omega, by rw [List.getElem_take]⟩
  · obtain ⟨k, hk, rfl⟩ := List.getElem_of_mem h
    rw [List.length_drop] at hk
    exact ⟨i + 1 + k, by omega, by omega, by rw [List.getElem_drop]⟩
theorem Coh.split {D : Nat} {ts : List Int} {ms : List PD} (c : Coh D ts ms) {i : Nat} (hi : i < ms.length) (he : ms[i].e < D) (t1 t2 : Int) :
    Coh D (putR (putR ts (ms[i].b * 2 ^ (D - ms[i].e)) (2 ^ (D - (ms[i].e + 1))) t1) (ms[i].b * 2 ^ (D - ms[i].e) + 2 ^ (D - (ms[i].e + 1))) (2 ^ (D - (ms[i].e + 1))) t2) (splitL ms i t1 t2) := by
  have hD := c.dep
  have hb : ms[i]! = ms[i] := getElem!_pos ms i hi
  have e1 : 2 ^ (D - ms[i].e) = 2 * 2 ^ (D - (ms[i].e + 1)) := by rw [show D - ms[i].e = (D - (ms[i].e + 1)) + 1 by omega, Nat.pow_succ]; omega
  refine ⟨?_, hD, by rw [putR_length, putR_length]; exact c.len, fun m hm => ?_⟩
  · unfold splitL
    rw [hb]
    exact tile_split c.tile i hi (by omega) t1 t2
  · unfold splitL at hm
    rw [hb] at hm
    have hp := pow_pos' (D - (ms[i].e + 1))
    have key : ∀ j, j < ts.length → (putR (putR ts (ms[i].b * 2 ^ (D - ms[i].e)) (2 ^ (D - (ms[i].e + 1))) t1) (ms[i].b * 2 ^ (D - ms[i].e) + 2 ^ (D - (ms[i].e + 1))) (2 ^ (D - (ms[i].e + 1))) t2).getD j 0 = if ms[i].b * 2 ^ (D - ms[i].e) + 2 ^ (D - (ms[i].e + 1)) ≤ j ∧ j < ms[i].b * 2 ^ (D - ms[i].e) + 2 ^ (D - (ms[i].e + 1)) + 2 ^ (D - (ms[i].e + 1)) then t2 else if ms[i].b * 2 ^ (D - ms[i].e) ≤ j ∧ j < ms[i].b * 2 ^ (D - ms[i].e) + 2 ^ (D - (ms[i].e + 1)) then t1 else ts.getD j 0 := fun j hj => by
      rw [putR_getD (by rw [putR_length]; exact hj), putR_getD hj]
    simp only [List.mem_append, List.mem_cons, List.not_mem_nil, or_false] at hm
    rcases hm with (hm | hm | hm) | hm
    · obtain ⟨k, hk, hne, rfl⟩ := mem_rest (Or.inl hm)
      obtain ⟨h1, h2⟩ := c.ent ms[k] (List.getElem_mem hk)
      refine ⟨h1, fun j hj hq => ?_⟩
      rw [putR_length, putR_length] at hj
      have hno : ¬ j / 2 ^ (D - ms[i].e) = ms[i].b := fun q => hne (tile_one c.tile hk hi ((cov h1 hD).1 hq) ((cov (by omega) hD).1 q))
      have hno2 : ¬ (ms[i].b * 2 ^ (D - ms[i].e) ≤ j ∧ j < ms[i].b * 2 ^ (D - ms[i].e) + 2 ^ (D - ms[i].e)) := fun q => hno (Nat.div_eq_of_lt_le q.1 (by rw [Nat.succ_mul]; exact q.2))
      rw [key j hj, if_neg (by omega), if_neg (by omega)]
      exact h2 j hj hq
    · subst hm
      refine ⟨he, fun j hj hq => ?_⟩
      rw [putR_length, putR_length] at hj
      dsimp only at hq ⊢
      have q1 := Nat.div_mul_le_self j (2 ^ (D - (ms[i].e + 1)))
      have q2 := Nat.lt_div_mul_add (a := j) (b := 2 ^ (D - (ms[i].e + 1))) (by omega)
      rw [hq, Nat.mul_comm 2 ms[i].b, Nat.mul_assoc, ← e1] at q1 q2
      rw [key j hj, if_neg (by omega), if_pos (by omega)]
    · subst hm
      refine ⟨he, fun j hj hq => ?_⟩
      rw [putR_length, putR_length] at hj
      dsimp only at hq ⊢
      have q1 := Nat.div_mul_le_self j (2 ^ (D - (ms[i].e + 1)))
      have q2 := Nat.lt_div_mul_add (a := j) (b := 2 ^ (D - (ms[i].e + 1))) (by omega)
      rw [hq, Nat.add_mul, Nat.mul_comm 2 ms[i].b, Nat.mul_assoc, ← e1, Nat.one_mul] at q1 q2
      rw [key j hj, if_pos (by omega)]
    · obtain ⟨k, hk, hne, rfl⟩ := mem_rest (Or.inr hm)
      obtain ⟨h1, h2⟩ := c.ent ms[k] (List.getElem_mem hk)
      refine ⟨h1, fun j hj hq => ?_⟩
      rw [putR_length, putR_length] at hj
      have hno : ¬ j / 2 ^ (D - ms[i].e) = ms[i].b := fun q => hne (tile_one c.tile hk hi ((cov h1 hD).1 hq) ((cov (by omega) hD).1 q))
      have hno2 : ¬ (ms[i].b * 2 ^ (D - ms[i].e) ≤ j ∧ j < ms[i].b * 2 ^ (D - ms[i].e) + 2 ^ (D - ms[i].e)) := fun q => hno (Nat.div_eq_of_lt_le q.1 (by rw [Nat.succ_mul]; exact q.2))
      rw [key j hj, if_neg (by omega), if_neg (by omega)]
      exact h2 j hj hq
/-- Tables are all different, and below n. -/
def Diff (n : Int) (ms : List PD) : Prop := (ms.map PD.t).Nodup ∧ ∀ m ∈ ms, m.t < n
theorem Diff.split {n : Int} {ms : List PD} (h : Diff n ms) (i : Nat) : Diff (n + 2) (splitL ms i n (n + 1)) := by
  obtain ⟨h1, h2⟩ := h
  have hlt : ∀ m, m ∈ ms.take i ∨ m ∈ ms.drop (i + 1) → m.t < n := fun m hm => by
    obtain ⟨k, hk, -, rfl⟩ := mem_rest hm
    exact h2 _ (List.getElem_mem hk)
  have hsub : ((ms.take i ++ ms.drop (i + 1)).map PD.t).Nodup := by
    refine (List.Sublist.map PD.t ?_).nodup h1
    have : (ms.take i ++ ms.drop (i + 1)).Sublist (ms.take i ++ ms.drop i) := List.Sublist.append (List.Sublist.refl _) (by rw [← List.drop_drop]; exact List.drop_sublist _ _)
    rwa [List.take_append_drop] at this
  unfold splitL
  refine ⟨?_, fun m hm => ?_⟩
  · simp only [List.map_append, List.map_cons, List.map_nil] at hsub ⊢
    rw [List.nodup_append] at hsub
    obtain ⟨a1, a2, a3⟩ := hsub
    rw [List.append_assoc, List.nodup_append]
    refine ⟨a1, ?_, fun a ha b hb => ?_⟩
    · simp only [List.cons_append, List.nil_append, List.nodup_cons, List.mem_cons, List.mem_map, not_or]
      refine ⟨⟨by omega, fun ⟨m, hm, e⟩ => ?_⟩, fun ⟨m, hm, e⟩ => ?_, a2⟩
      · have := hlt m (Or.inr hm); omega
      · have := hlt m (Or.inr hm); omega
    · simp only [List.cons_append, List.nil_append, List.mem_cons] at hb
      obtain ⟨m, hm, rfl⟩ := List.mem_map.1 ha
      have := hlt m (Or.inl hm)
      rcases hb with rfl | rfl | hb
      · omega
      · omega
      · exact a3 _ ha _ hb
  · simp only [List.mem_append, List.mem_cons, List.not_mem_nil, or_false] at hm
    rcases hm with (hm | hm | hm) | hm
    · have := hlt m (Or.inl hm); omega
    · subst hm; show n < n + 2; omega
    · subst hm; show n + 1 < n + 2; omega
    · have := hlt m (Or.inr hm); omega
/-- Where the run of a table begins. -/
def startN (D : Nat) (m : PD) : Nat := m.b * 2 ^ (D - m.e)
theorem Coh.part {D : Nat} {ts : List Int} {ms : List PD} (c : Coh D ts ms) {j : Nat} (hj : j < ts.length) : ∃ i, ∃ h : i < ms.length, j / 2 ^ (D - ms[i].e) = ms[i].b := by
  have hD := c.dep
  have hx : j * 2 ^ (6 - D) < 64 := by
    have e : (64 : Nat) = 2 ^ D * 2 ^ (6 - D) := by rw [← Nat.pow_add, show D + (6 - D) = 6 by omega]
    rw [e]
    exact Nat.mul_lt_mul_of_lt_of_le (by rw [← c.len]; exact hj) (Nat.le_refl _) (pow_pos' _)
  obtain ⟨i, hi, h3⟩ := tile_has c.tile (j * 2 ^ (6 - D)) (Nat.zero_le _) hx
  exact ⟨i, hi, (cov (c.ent _ (List.getElem_mem hi)).1 hD).2 h3⟩
theorem Coh.start_lt {D : Nat} {ts : List Int} {ms : List PD} (c : Coh D ts ms) {i : Nat} (hi : i < ms.length) : startN D ms[i] < ts.length ∧ startN D ms[i] / 2 ^ (D - ms[i].e) = ms[i].b := by
  have hD := c.dep
  have he := (c.ent _ (List.getElem_mem hi)).1
  have h1 := (tile_mem c.tile i hi).2.2.1
  have e1 : 2 ^ (6 - ms[i].e) = 2 ^ (D - ms[i].e) * 2 ^ (6 - D) := by rw [← Nat.pow_add, show D - ms[i].e + (6 - D) = 6 - ms[i].e by omega]
  have e2 : (64 : Nat) = 2 ^ D * 2 ^ (6 - D) := by rw [← Nat.pow_add, show D + (6 - D) = 6 by omega]
  have p1 := pow_pos' (D - ms[i].e)
  have p2 := pow_pos' (6 - D)
  unfold startN
  rw [c.len]
  rw [e1, e2, ← Nat.mul_assoc, ← Nat.add_mul, Nat.mul_le_mul_right_iff (by omega)] at h1
  refine ⟨by omega, Nat.mul_div_cancel _ (by omega)⟩
theorem Coh.start_mono {D : Nat} {ts : List Int} {ms : List PD} (c : Coh D ts ms) {i j : Nat} (hij : i < j) (hj : j < ms.length) : startN D ms[i] + 2 ^ (D - ms[i].e) ≤ startN D ms[j] := by
  have hD := c.dep
  have hei := (c.ent _ (List.getElem_mem (show i < ms.length by omega))).1
  have hej := (c.ent _ (List.getElem_mem hj)).1
  have h1 := tile_lt c.tile hij hj
  have e1 : 2 ^ (6 - ms[i].e) = 2 ^ (D - ms[i].e) * 2 ^ (6 - D) := by rw [← Nat.pow_add, show D - ms[i].e + (6 - D) = 6 - ms[i].e by omega]
  have e2 : 2 ^ (6 - ms[j].e) = 2 ^ (D - ms[j].e) * 2 ^ (6 - D) := by rw [← Nat.pow_add, show D - ms[j].e + (6 - D) = 6 - ms[j].e by omega]
  have p2 := pow_pos' (6 - D)
  unfold startN
  rw [e1, e2, ← Nat.mul_assoc, ← Nat.mul_assoc, ← Nat.add_mul, Nat.mul_le_mul_right_iff (by omega)] at h1
  exact h1
/-- The runs begin where the tables do. -/
theorem Coh.run1_iff {D : Nat} {ts : List Int} {ms : List PD} {n : Int} (c : Coh D ts ms) (hd : Diff n ms) {j : Nat} (hj : j < ts.length) : run1 ts j ↔ ∃ i, ∃ h : i < ms.length, j = startN D ms[i] := by
  have hD := c.dep
  obtain ⟨i, hi, hq⟩ := c.part hj
  have ht := (c.ent _ (List.getElem_mem hi)).2 j hj hq
  have q1 := Nat.div_mul_le_self j (2 ^ (D - ms[i].e))
  have hpp := pow_pos' (D - ms[i].e)
  have q2 := Nat.lt_div_mul_add (a := j) (b := 2 ^ (D - ms[i].e)) (by omega)
  rw [hq] at q1 q2
  constructor
  · intro hr
    refine ⟨i, hi, ?_⟩
    refine Classical.byContradiction fun hne => ?_
    have hlt : startN D ms[i] < j := by unfold startN at hne ⊢; omega
    rcases hr with h0 | hr
    · omega
    · refine hr ?_
      rw [ht]
      refine ((c.ent _ (List.getElem_mem hi)).2 (j - 1) (by omega) ?_).symm
      unfold startN at hlt
      exact Nat.div_eq_of_lt_le (by omega) (by rw [Nat.succ_mul]; omega)
  · rintro ⟨k, hk, rfl⟩
    by_cases h0 : startN D ms[k] = 0
    · exact Or.inl h0
    · refine Or.inr fun e => ?_
      have hk2 := (c.start_lt hk).2
      rw [(c.ent _ (List.getElem_mem hk)).2 _ hj hk2] at e
      obtain ⟨i', hi', hq'⟩ := c.part (show startN D ms[k] - 1 < ts.length by omega)
      rw [(c.ent _ (List.getElem_mem hi')).2 _ (by omega) hq'] at e
      have hik : i' = k := by
        have h1 := hd.1
        rw [List.nodup_iff_pairwise_ne, List.pairwise_iff_getElem] at h1
        rcases Nat.lt_trichotomy i' k with q | q | q
        · have q' := h1 i' k (by simpa using hi') (by simpa using hk) q
          rw [List.getElem_map, List.getElem_map] at q'
          exact absurd e.symm q'
        · exact q
        · have q' := h1 k i' (by simpa using hk) (by simpa using hi') q
          rw [List.getElem_map, List.getElem_map] at q'
          exact absurd e q'
      subst hik
      have q3 := Nat.div_mul_le_self (startN D ms[i'] - 1) (2 ^ (D - ms[i'].e))
      rw [hq'] at q3
      unfold startN at q3 h0
      omega
end Go.Proofs.YtdhphakjkgfngaaGreatDoor
/-
  The law's has and owner.
-/
namespace Go.Proofs.YtdhphakjkgfngaaGreatDoor
open Go.RowKit Go.Shelf
set_option linter.unusedVariables false

instance (m : PD) (h : Nat) : Decidable (hasN m h) := inferInstanceAs (Decidable (headN h m.e = m.b))
abbrev PV (m : PD) : Value := .agg #[.int .i64 m.t, .int .i64 (m.e : Int), .int .u64 (m.b : Int)]
def cellsP (ms : List PD) : List Value := (ms.map fun m => [Value.int .i64 m.t, .int .i64 (m.e : Int), .int .u64 (m.b : Int)]).flatten
theorem cellsP_append (a b : List PD) : cellsP (a ++ b) = cellsP a ++ cellsP b := by simp [cellsP]
theorem cellsP_length (ms : List PD) : (cellsP ms).length = ms.length * 3 := by
  induction ms with
  | nil => rfl
  | cons x r ih =>
    have : cellsP (x :: r) = [.int .i64 x.t, .int .i64 (x.e : Int), .int .u64 (x.b : Int)] ++ cellsP r := by simp [cellsP]
    rw [this, List.length_append, ih]
    simp
    omega
theorem cellsP_one' {ms : List PD} : ∀ u ∈ cellsP ms, u.oneCell' = true := by
  intro u hu
  simp only [cellsP, List.mem_flatten, List.mem_map] at hu
  obtain ⟨l, ⟨m, -, rfl⟩, hu⟩ := hu
  simp at hu
  rcases hu with rfl | rfl | rfl <;> rfl
theorem cellsP_get : ∀ (ms : List PD) (i : Nat) (h : i < ms.length), (cellsP ms)[i * 3]? = some (.int .i64 ms[i].t) ∧ (cellsP ms)[i * 3 + 1]? = some (.int .i64 (ms[i].e : Int)) ∧ (cellsP ms)[i * 3 + 2]? = some (.int .u64 (ms[i].b : Int))
  | x :: r, 0, _ => by simp [cellsP]
  | x :: r, i + 1, h => by
    have ih := cellsP_get r i (by simpa using h)
    have e : cellsP (x :: r) = [.int .i64 x.t, .int .i64 (x.e : Int), .int .u64 (x.b : Int)] ++ cellsP r := by simp [cellsP]
    have e1 : (i + 1) * 3 = 3 + i * 3 := by omega
    rw [e, e1]
    refine ⟨?_, ?_, ?_⟩
    · rw [List.getElem?_append_right (by simp)]
      simpa using ih.1
    · rw [List.getElem?_append_right (by simp; omega)]
      have : 3 + i * 3 + 1 - 3 = i * 3 + 1 := by omega
      simpa [this] using ih.2.1
    · rw [List.getElem?_append_right (by simp; omega)]
      have : 3 + i * 3 + 2 - 3 = i * 3 + 2 := by omega
      simpa [this] using ih.2.2
/-- A row of the model's tables that can be read. -/
def RowP (W : World) (v : Value) (ms : List PD) : Prop := ∃ g cap, v = .slice (some ⟨g, 0, none⟩) ms.length cap ∧ ∀ q u, (cellsP ms)[q]? = some u → W.cell? ⟨g, q, none⟩ = some u
theorem RowP.keeps {W W' : World} {v : Value} {ms : List PD} (h : RowP W v ms) (k : Keeps W W' (fun _ => False)) : RowP W' v ms := by
  obtain ⟨g, cap, e, hc⟩ := h
  exact ⟨g, cap, e, fun q u hq => k.cellK (hc q u hq)⟩
theorem RowP.of {W : World} {B : Nat} {v : Value} {ms : List PD} (h : W.ownsRow B 32 3 v ms.length (cellsP ms)) (h0 : 0 < ms.length) : RowP W v ms := by
  rcases id h.2 with ⟨e, e0⟩ | ⟨g, cap, cur, e, -⟩
  · omega
  · refine ⟨g, cap, e, fun q u hq => ?_⟩
    have := h.cells (g := g) (by rw [e]; rfl) _ _ hq
    rw [addr_add, Nat.zero_add] at this
    exact this

set_option maxRecDepth 100000 in
set_option maxHeartbeats 2000000 in
theorem has_zero (t : Int) (b h : Nat) (w : World) :
    Calls Tryz.prog 13 #[.agg #[.int .i64 t, .int .i64 0, .int .u64 (b : Int)], .int .u64 (h : Int)] w fun r w' => r = .returned (.bool true) ∧ Keeps w w' (fun _ => False) := by
  go_enter Tryz.func13, Tryz.ntmps13
  go_wp2_with fail
  refine alloc1 (P := fun W => Code.wp _ _ _ _ W) fun W0 hb hz K0 => ?_
  obtain ⟨⟨c0, c1, c2⟩, -⟩ := three_cells hb
  obtain ⟨⟨d0, d1, d2⟩, -⟩ := three_cells (show W0.drew.heap[w.heap.size]? = _ from hb)
  go_big_quiet (fail)
  go_wp2_with fail
  go_ret
  exact ⟨rfl, ⟨K0.os, K0.tape, K0.output, K0.size, K0.block⟩⟩

set_option maxRecDepth 100000 in
set_option maxHeartbeats 2000000 in
theorem has_more (t : Int) (e b h : Nat) (he : 1 ≤ e ∧ e ≤ 6) (hh : h < 18446744073709551616) (w : World) :
    Calls Tryz.prog 13 #[.agg #[.int .i64 t, .int .i64 (e : Int), .int .u64 (b : Int)], .int .u64 (h : Int)] w fun r w' => r = .returned (.bool (((headN h e : Nat) : Int) == (b : Int))) ∧ Keeps w w' (fun _ => False) := by
  have e0 : ((e : Int) == 0) = false := by simp; omega
  have hw : IntKind.i64.wrap (64 - (e : Int)) = 64 - (e : Int) := by rw [IntKind.wrap_i64]; omega
  have ew : (64 - (e : Int)) = ((64 - e : Nat) : Int) := by omega
  have hS : 64 - e ≤ 63 := by omega
  have e2 : (h : Int) / 2 ^ (64 - e) = ((headN h e : Nat) : Int) := by unfold headN; rw [Int.natCast_ediv, Int.natCast_pow]; rfl
  rw [ew] at hw
  go_enter Tryz.func13, Tryz.ntmps13
  go_wp2_with fail
  refine alloc1 (P := fun W => Code.wp _ _ _ _ W) fun W0 hb hz K0 => ?_
  have S0 := (three_cells (show W0.drew.heap[w.heap.size]? = _ from hb)).1
  have S1 := (three_cells hb).1
  go_region_held3 (fun w' => w'.cell? ⟨w.heap.size, 0, none⟩ = some (.int .i64 t) ∧ w'.cell? ⟨w.heap.size, 1, none⟩ = some (.int .i64 (e : Int)) ∧ w'.cell? ⟨w.heap.size, 2, none⟩ = some (.int .u64 (b : Int))) (first | with_reducible assumption | with_reducible exact S0) (fail)
  go_wp2_with fail
  go_ret
  exact ⟨rfl, K0.drew⟩
theorem has_any (m : PD) (h : Nat) (he : m.e ≤ 6) (hb : m.b < 2 ^ m.e) (hh : h < 18446744073709551616) (w : World) :
    Calls Tryz.prog 13 #[PV m, .int .u64 (h : Int)] w fun r w' => r = .returned (.bool (decide (hasN m h))) ∧ Keeps w w' (fun _ => False) := by
  obtain ⟨t, e, b⟩ := m
  dsimp only at he hb
  show Calls _ _ #[.agg #[.int .i64 t, .int .i64 (e : Int), .int .u64 (b : Int)], _] _ fun r w' => r = .returned (.bool (decide (headN h e = b))) ∧ _
  by_cases h0 : e = 0
  · subst h0
    have : decide (headN h 0 = b) = true := decide_eq_true (by rw [headN_zero hh]; simp at hb; omega)
    rw [this]
    exact has_zero t b h w
  · have e1 : decide (headN h e = b) = (((headN h e : Nat) : Int) == (b : Int)) := by
      by_cases q : headN h e = b
      · simp [q]
      · rw [decide_eq_false q]
        symm
        simp
        omega
    rw [e1]
    exact has_more t e b h ⟨by omega, he⟩ hh w
theorem tile_bits {ms : List PD} (h : Tile 0 ms) {i : Nat} (hi : i < ms.length) : ms[i].e ≤ 6 ∧ ms[i].b < 2 ^ ms[i].e := by
  obtain ⟨h1, -, h3, -⟩ := tile_mem h i hi
  refine ⟨h1, ?_⟩
  have e : (64 : Nat) = 2 ^ ms[i].e * 2 ^ (6 - ms[i].e) := by rw [← Nat.pow_add, show ms[i].e + (6 - ms[i].e) = 6 by omega]
  have p := pow_pos' (6 - ms[i].e)
  rw [e, show ms[i].b * 2 ^ (6 - ms[i].e) + 2 ^ (6 - ms[i].e) = (ms[i].b + 1) * 2 ^ (6 - ms[i].e) by rw [Nat.add_mul, Nat.one_mul], Nat.mul_le_mul_right_iff (by omega)] at h3
  omega
def OwnerPost (w : World) (ms : List PD) (h : Nat) (r : Ending) (w' : World) : Prop := ∃ i, ∃ hi : i < ms.length, hasN ms[i] h ∧ r = .returned (.int .i64 (i : Int)) ∧ Keeps w w' (fun _ => False)

set_option maxRecDepth 100000 in
set_option maxHeartbeats 2000000 in
theorem owner_any {w : World} {v : Value} {ms : List PD} (hR : RowP w v ms) (ht : Tile 0 ms) (h : Nat) (hh : h < 18446744073709551616) :
    Calls Tryz.prog 5 #[v, .int .u64 (h : Int)] w fun r w' => OwnerPost w ms h r w' := by
  obtain ⟨g, cap, rfl, hc⟩ := hR
  have hl := tile_le ht
  have HC := hide hc
  have HT := hide ht
  have HE : Hid (∃ i, ∃ hi : i < ms.length, hasN ms[i] h) := by
    obtain ⟨i, hi, h3⟩ := tile_has ht (headN h 6) (Nat.zero_le _) (headN_lt h 6 hh (by omega))
    exact ⟨i, hi, (hasN_iff (tile_bits ht hi).1).2 h3⟩
  clear hc ht
  go_enter Tryz.func5, Tryz.ntmps5
  go_wp2_with fail
  go_loopw [9] (fun v9 wr => ∃ k : Nat, v9 = .int .i64 (k : Int) ∧ k ≤ ms.length ∧ (∀ j (hj : j < ms.length), j < k → ¬ hasN ms[j] h) ∧ Keeps w wr (fun _ => False)) (fun v9 _ => ms.length - (intOf v9).toNat)
  case atStart => exact ⟨0, rfl, Nat.zero_le _, fun j _ hj => by omega, Keeps.refl _ _⟩
  case round =>
    obtain ⟨k, rfl, hk, hno, kr⟩ := hrel
    have HN := hide hno
    clear hno
    by_cases hlt : k < ms.length
    · have hlt' : (k : Int) < (ms.length : Int) := by omega
      obtain ⟨g0, g1, g2⟩ := cellsP_get ms k hlt
      have x0 := kr.cellK (HC.out _ _ g0)
      have x1 := kr.cellK (HC.out _ _ g1)
      have x2 := kr.cellK (HC.out _ _ g2)
      have hH := fun W => has_any ms[k] h (tile_bits HT.out hlt).1 (tile_bits HT.out hlt).2 hh W
      unfold PV at hH
      clear g0 g1 g2
      by_cases hq : hasN ms[k] h
      · rw [decide_eq_true hq] at hH
        have HQ : Hid (∀ w', Keeps w w' (fun _ => False) → OwnerPost w ms h (.returned (.int .i64 (k : Int))) w') := fun w' k' => ⟨k, hlt, hq, rfl, k'⟩
        clear hq
        generalize ms[k] = m at *
        obtain ⟨mt, me, mb⟩ := m
        dsimp only at x0 x1 x2 hH
        go_wp2_with fail
        (with_reducible refine (hH _).mono ?_)
        rintro r w3 ⟨rfl, k3⟩
        have K3 := hide (kr.trans ((Keeps.refl wr (fun _ => False)).alloc (.cells #[.int .i64 mt, .int .i64 (me : Int), .int .u64 (mb : Int)] 32) |>.trans k3 (fun _ _ e => e)) (fun _ _ e => e))
        clear hH x0 x1 x2 k3 kr
        go_wp2_with fail
        go_ret
        exact HQ.out _ K3.out
      · rw [decide_eq_false hq] at hH
        have HQ := hide hq
        clear hq
        have HN2 : Hid (∀ j (hj : j < ms.length), j < k + 1 → ¬ hasN ms[j] h) := fun j hj hjk => by
          by_cases e : j = k
          · subst e; exact HQ.out
          · exact HN.out j hj (by omega)
        clear HQ
        generalize ms[k] = m at *
        obtain ⟨mt, me, mb⟩ := m
        dsimp only at x0 x1 x2 hH
        go_wp2_with fail
        (with_reducible refine (hH _).mono ?_)
        rintro r w3 ⟨rfl, k3⟩
        have K3 := hide (kr.trans ((Keeps.refl wr (fun _ => False)).alloc (.cells #[.int .i64 mt, .int .i64 (me : Int), .int .u64 (mb : Int)] 32) |>.trans k3 (fun _ _ e => e)) (fun _ _ e => e))
        clear hH x0 x1 x2 k3 kr
        go_wp2_with fail
        go_roundw
        case rel => exact ⟨k + 1, by go_num, by omega, HN2.out, K3.out⟩
        case measure => simp [intOf]; omega
    · obtain ⟨i, hi, hq⟩ := HE.out
      exact absurd hq (HN.out i hi (by omega))
end Go.Proofs.YtdhphakjkgfngaaGreatDoor
/-
  A directory whose block alone is live; the law's splits.
-/
namespace Go.Proofs.YtdhphakjkgfngaaGreatDoor
open Go.RowKit Go.Shelf
set_option linter.unusedVariables false

structure Dio (w W : World) (p : Nat) (X : Nat → Prop) (d : AD) (off D : Nat) (ts : List Int) : Prop where
  dir : DirO w W p X d off D ts
  used : d.used = classN (8 * ts.length)
  limit : d.limit = 65536
  lv : d.lv (off : Int) = some (classN (8 * ts.length) : Int)
section
variable {w w1 w2 : World} {p : Nat} {X Y : Nat → Prop} {d : AD} {off D : Nat} {ts : List Int}
theorem Dio.stay (h : Dio w w1 p X d off D ts) (k : Keeps w1 w2 (fun _ => False)) : Dio w w2 p X d off D ts := ⟨h.dir.stay k, h.used, h.limit, h.lv⟩
theorem Dio.less (h : Dio w w1 p X d off D ts) (hY : ∀ k, Y k → X k) : Dio w w1 p Y d off D ts := ⟨h.dir.less hY, h.used, h.limit, h.lv⟩
theorem Dio.grow (h : Dio w w1 p X d off D ts) (k : Keeps w1 w2 (fun _ => False)) : Dio w w2 p (fun i => X i ∨ (w1.heap.size ≤ i ∧ i < w2.heap.size)) d off D ts := ⟨h.dir.grow k, h.used, h.limit, h.lv⟩
theorem Dio.kept {S : Nat → Prop} (h : Dio w w1 p X d off D ts) (k : Keeps w1 w2 S) (hS : ∀ i, S i → X i) (hw : ∀ i, S i → w.heap.size ≤ i) : Dio w w2 p X d off D ts := ⟨h.dir.kept k hS hw, h.used, h.limit, h.lv⟩
theorem Dio.widen (h : Dio w w1 p X d off D ts) (hX : ∀ k, X k → k < w1.heap.size) (hT : TabAt w) (hD : D < 6) :
    Calls Tryz.prog 14 #[.agg #[.pointer (some ⟨p, 0, none⟩), .int .i64 (off : Int), .int .i64 (D : Int)]] w1 fun e w' => ∃ (o2 : Nat) (d3 : AD), e = .returned (.tuple #[.agg #[.pointer (some ⟨p, 0, none⟩), .int .i64 (o2 : Int), .int .i64 (((D + 1 : Nat)) : Int)], .int .i64 0]) ∧ Dio w w' p X d3 o2 (D + 1) (dbl ts) ∧ Keeps w1 w' (fun k => (w.heap.size ≤ k ∧ ¬ X k) ∧ k < w1.heap.size) := by
  have h64 := h.dir.low.2.1
  have hlen := h.dir.len
  have c1 : classN (8 * ts.length) ≤ 1024 := by rw [hlen]; exact class_pow D (by omega)
  have e16 : 16 * ts.length = 8 * 2 ^ (D + 1) := by rw [hlen, Nat.pow_succ]; omega
  have c2 : classN (16 * ts.length) ≤ 1024 := by rw [e16]; exact class_pow (D + 1) (by omega)
  refine (dwiden_yes h.dir hX hT hD (by rw [h.used, h.limit]; omega)).mono ?_
  rintro e w' ⟨o2, d1, d2, d3, rfl, hB, hWr, hg, hD3, k⟩
  obtain ⟨u1, u2, u3⟩ := widen_used h.dir.fine hB hWr hg h.lv h.used
  have hne := widen_ne h.dir.dir h.dir.fine hB
  have e8 : 8 * (dbl ts).length = 16 * ts.length := by rw [dbl_length]; omega
  refine ⟨o2, d3, rfl, ⟨hD3, by rw [e8]; exact u1, u2.trans h.limit, ?_⟩, k⟩
  rw [u3, if_neg (by omega), e8]
theorem Dio.place (h : Dio w w1 p X d off D ts) (hX : ∀ k, X k → k < w1.heap.size) (i e : Nat) (hi : i < 2 ^ D) (he : e ≤ D) (hr : runF D e i = i) (t : Int) (ht : fitsI t) :
    Calls Tryz.prog 16 #[.agg #[.pointer (some ⟨p, 0, none⟩), .int .i64 (off : Int), .int .i64 (D : Int)], .int .i64 (i : Int), .int .i64 (e : Int), .int .i64 t] w1 fun r w' => r = .returned (.int .i64 0) ∧ ∃ d', Dio w w' p X d' off D (putR ts i (2 ^ (D - e)) t) ∧ Keeps w1 w' (fun k => (w.heap.size ≤ k ∧ ¬ X k) ∧ k < w1.heap.size) := by
  refine (dplace_yes h.dir hX i e hi he t ht).mono ?_
  rintro r w' ⟨rfl, d', hD, hWr, k⟩
  rw [hr] at hD
  obtain ⟨s1, s2, s3, s4, s5⟩ := hWr.same
  exact ⟨rfl, d', ⟨hD, by rw [putR_length, s3]; exact h.used, by rw [s4]; exact h.limit, by rw [putR_length, s2]; exact h.lv⟩, k⟩
end
theorem runF_mul (D e b q : Nat) (hq : q * 2 ^ (D - e) = b) : runF D e b = b := by
  unfold runF
  rw [← hq, Nat.mul_div_cancel _ (Nat.two_pow_pos _)]

def SplitsPost (w w1 : World) (p : Nat) (X : Nat → Prop) (ms : List PD) (r : Ending) (w' : World) : Prop :=
  ∃ (off' D' : Nat) (d' : AD) (ts' : List Int), r = .returned (.tuple #[.agg #[.pointer (some ⟨p, 0, none⟩), .int .i64 (off' : Int), .int .i64 (D' : Int)], .bool true]) ∧ Dio w w' p X d' off' D' ts' ∧ Coh D' ts' ms ∧ Keeps w1 w' (fun k => (w.heap.size ≤ k ∧ ¬ X k) ∧ k < w1.heap.size)
end Go.Proofs.YtdhphakjkgfngaaGreatDoor
