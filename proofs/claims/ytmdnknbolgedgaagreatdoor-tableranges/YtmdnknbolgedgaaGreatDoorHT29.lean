/-
  TableRanges: what holds ahead of each round of its first range.
-/
import Derived.Test.YtmdnknbolgedgaaGreatDoorHT28
namespace Go.Proofs.YtmdnknbolgedgaaGreatDoor
open Go.RowKit Go.Shelf Ly Ct
set_option linter.unusedVariables false

/-- The statement's own blocks: the Bench, its list, its pointer's box, all that is new since the turns (w8: where the range begins; the loop's two blocks). -/
def OwnR (wr w8 : World) (b B5 : Nat) (lv : Value) (q : Nat) : Prop := (q = b ∨ lv.ownBlock = some q ∨ q = B5) ∨ (wr.heap.size ≤ q ∧ q < w8.heap.size + 2)
/-- Where the range's boxes lie. -/
structure At1 (W0 wr w8 : World) (b B5 N : Nat) (lv : Value) : Prop where
  low : ∀ q, q = b ∨ lv.ownBlock = some q ∨ q = B5 → W0.heap.size ≤ q ∧ q < wr.heap.size
  base : W0.heap.size ≤ wr.heap.size
  n : wr.heap.size ≤ N
  w : w8.heap.size = N + 5
structure R1 (W0 wr w8 V : World) (p b B5 N : Nat) (l : Lay) (G : Nat) (lv : Value) (c0 : Nat → GC) (o : Option Nat) (s : Nat) (sv lt : Int) : Prop where
  tab : ∃ d f c', SW W0 V p (fun q => OwnR wr w8 b B5 lv q ∨ o = some q) l G d f c' ∧ WT c' G f ∧ (s = 0 → c' = c0)
  seen : V.heap[N + 1]? = some (.cells #[.int .i64 sv] 3)
  last : V.heap[N + 1 + 1]? = some (.cells #[.int .i64 lt] 3)
  rest : ∀ q, OwnR wr w8 b B5 lv q → q < w8.heap.size → q ≠ N + 1 → q ≠ N + 1 + 1 → V.heap[q]? = w8.heap[q]?
  df : V.heap[w8.heap.size]? = some (.deferred (some []))
  ob : ∀ q, o = some q → w8.heap.size + 2 ≤ q ∧ q < V.heap.size
section
variable {W0 wr w8 V V' : World} {p b B5 N B : Nat} {l : Lay} {G : Nat} {lv : Value} {c0 : Nat → GC} {o : Option Nat} {s : Nat} {sv lt : Int}
theorem At1.all (A : At1 W0 wr w8 b B5 N lv) {q : Nat} (h : OwnR wr w8 b B5 lv q) : W0.heap.size ≤ q ∧ q < w8.heap.size + 2 := by
  have := A.base
  have := A.n
  have := A.w
  rcases h with h | h
  · have := A.low q h
    omega
  · omega
theorem R1.lows (h : R1 W0 wr w8 V p b B5 N l G lv c0 o s sv lt) (A : At1 W0 wr w8 b B5 N lv) : ∀ q, OwnR wr w8 b B5 lv q ∨ o = some q → W0.heap.size ≤ q := fun q hq => by
  have := A.base
  have := A.n
  have := A.w
  rcases hq with hq | hq
  · exact (A.all hq).1
  · have := (h.ob q hq).1
    omega
theorem R1.ins (h : R1 W0 wr w8 V p b B5 N l G lv c0 o s sv lt) : ∀ q, OwnR wr w8 b B5 lv q ∨ o = some q → q < V.heap.size := by
  obtain ⟨d, f, c', hS, -⟩ := h.tab
  exact hS.lt
theorem R1.keep (h : R1 W0 wr w8 V p b B5 N l G lv c0 o s sv lt) : Keeps W0 V (fun _ => False) := by
  obtain ⟨d, f, c', hS, -⟩ := h.tab
  exact hS.keep
theorem R1.stay (h : R1 W0 wr w8 V p b B5 N l G lv c0 o s sv lt) (k : Keeps V V' (fun _ => False)) : R1 W0 wr w8 V' p b B5 N l G lv c0 o s sv lt := by
  obtain ⟨d, f, c', hS, hW, hc⟩ := h.tab
  exact ⟨⟨d, f, c', hS.stay k, hW, hc⟩, k.blk h.seen, k.blk h.last, fun q q1 q2 q3 q4 => (k.block q (h.ins q (Or.inl q1)) id).trans (h.rest q q1 q2 q3 q4), k.blk h.df, fun q e => ⟨(h.ob q e).1, Nat.lt_of_lt_of_le (h.ob q e).2 k.size⟩⟩
theorem R1.put (h : R1 W0 wr w8 V p b B5 N l G lv c0 o s sv lt) (A : At1 W0 wr w8 b B5 N lv) (x : Obj) : R1 W0 wr w8 (V.putObj (w8.heap.size + 1) x) p b B5 N l G lv c0 o s sv lt := by
  have a1 := A.base
  have a2 := A.n
  have a3 := A.w
  obtain ⟨d, f, c', hS, hW, hc⟩ := h.tab
  have hz := (grownBy_putObj' V (w8.heap.size + 1) x).size
  exact ⟨⟨d, f, c', hS.swap (keeps_putX (Or.inl (Or.inr ⟨by omega, by omega⟩)) x) (h.lows A), hW, hc⟩, putBlk h.seen (by omega), putBlk h.last (by omega), fun q q1 q2 q3 q4 => (World.putObj_heap_other (by omega)).trans (h.rest q q1 q2 q3 q4), putBlk h.df (by omega), fun q e => ⟨(h.ob q e).1, Nat.lt_of_lt_of_le (h.ob q e).2 hz⟩⟩
theorem R1.setSeen (h : R1 W0 wr w8 V p b B5 N l G lv c0 o s sv lt) (A : At1 W0 wr w8 b B5 N lv) (x : Int) : R1 W0 wr w8 (V.setCell ⟨N + 1, 0, none⟩ (.int .i64 x)) p b B5 N l G lv c0 o s x lt := by
  have a1 := A.base
  have a2 := A.n
  have a3 := A.w
  have ks : Keeps V (V.setCell ⟨N + 1, 0, none⟩ (.int .i64 x)) (fun q => q = N + 1) := Keeps.setCell (S := fun q => q = N + 1) (Keeps.refl V _) ⟨N + 1, 0, none⟩ (fun _ => rfl) _
  obtain ⟨d, f, c', hS, hW, hc⟩ := h.tab
  exact ⟨⟨d, f, c', hS.swap (ks.mono (fun q _ e => Or.inl (Or.inr ⟨by omega, by omega⟩))) (h.lows A), hW, hc⟩, set_one' h.seen 0 _ (by simp), ks.blkS h.last (by omega), fun q q1 q2 q3 q4 => (ks.block q (h.ins q (Or.inl q1)) q3).trans (h.rest q q1 q2 q3 q4), ks.blkS h.df (by omega), fun q e => ⟨(h.ob q e).1, Nat.lt_of_lt_of_le (h.ob q e).2 ks.size⟩⟩
theorem R1.setLast (h : R1 W0 wr w8 V p b B5 N l G lv c0 o s sv lt) (A : At1 W0 wr w8 b B5 N lv) (x : Int) : R1 W0 wr w8 (V.setCell ⟨N + 1 + 1, 0, none⟩ (.int .i64 x)) p b B5 N l G lv c0 o s sv x := by
  have a1 := A.base
  have a2 := A.n
  have a3 := A.w
  have ks : Keeps V (V.setCell ⟨N + 1 + 1, 0, none⟩ (.int .i64 x)) (fun q => q = N + 1 + 1) := Keeps.setCell (S := fun q => q = N + 1 + 1) (Keeps.refl V _) ⟨N + 1 + 1, 0, none⟩ (fun _ => rfl) _
  obtain ⟨d, f, c', hS, hW, hc⟩ := h.tab
  exact ⟨⟨d, f, c', hS.swap (ks.mono (fun q _ e => Or.inl (Or.inr ⟨by omega, by omega⟩))) (h.lows A), hW, hc⟩, ks.blkS h.seen (by omega), set_one' h.last 0 _ (by simp), fun q q1 q2 q3 q4 => (ks.block q (h.ins q (Or.inl q1)) q4).trans (h.rest q q1 q2 q3 q4), ks.blkS h.df (by omega), fun q e => ⟨(h.ob q e).1, Nat.lt_of_lt_of_le (h.ob q e).2 ks.size⟩⟩
/-- Behind a call on the table. -/
theorem R1.turn (h : R1 W0 wr w8 V p b B5 N l G lv c0 o s sv lt) (A : At1 W0 wr w8 b B5 N lv) (ht : ∃ d' f' c', SW W0 V' p (fun q => OwnR wr w8 b B5 lv q ∨ o = some q) l G d' f' c' ∧ WT c' G f') (hq : ∀ q, OwnR wr w8 b B5 lv q ∨ o = some q → V'.heap[q]? = V.heap[q]?) : R1 W0 wr w8 V' p b B5 N l G lv c0 o (s + 1) sv lt := by
  have a1 := A.base
  have a2 := A.n
  have a3 := A.w
  obtain ⟨d', f', c', hS, hW⟩ := ht
  exact ⟨⟨d', f', c', hS, hW, fun e => by omega⟩, (hq _ (Or.inl (Or.inr ⟨by omega, by omega⟩))).trans h.seen, (hq _ (Or.inl (Or.inr ⟨by omega, by omega⟩))).trans h.last, fun q q1 q2 q3 q4 => (hq q (Or.inl q1)).trans (h.rest q q1 q2 q3 q4), (hq _ (Or.inl (Or.inr ⟨by omega, by omega⟩))).trans h.df, fun q e => ⟨(h.ob q e).1, hS.lt q (Or.inr e)⟩⟩
theorem R1.later (h : R1 W0 wr w8 V p b B5 N l G lv c0 o s sv lt) (t : Nat) : R1 W0 wr w8 V p b B5 N l G lv c0 o (t + 1) sv lt := by
  obtain ⟨d, f, c', hS, hW, hc⟩ := h.tab
  exact ⟨⟨d, f, c', hS, hW, fun e => by omega⟩, h.seen, h.last, h.rest, h.df, h.ob⟩
theorem R1.fits (h : R1 W0 wr w8 V p b B5 N l G lv c0 o s sv lt) (A : At1 W0 wr w8 b B5 N lv) (hq : ∀ q, OwnR wr w8 b B5 lv q ∨ o = some q → V'.heap[q]? = V.heap[q]?) : StayO o V V' := fun q e => hq q (Or.inr e)
/-- At the start. -/
theorem r1_new [I0 : Bx.BoxNo] {fs ts hs : Value} {L : List LifeD} {ad : Nat} {d : AD} {f : Nat → Int} {g : ByteArray → Nat} (hB : Bx.BM W0 wr b p l G fs ts hs lv L ad d f c0) (hT : LTie c0 G f g L ad) (e5 : B5 = Bx.BoxNo.no) (A : At1 W0 wr w8 b B5 N lv) (k8 : Keeps wr w8 (fun _ => False)) (h1 : w8.heap[N + 1]? = some (.cells #[.int .i64 0] 3)) (h2 : w8.heap[N + 1 + 1]? = some (.cells #[.int .i64 (-1)] 3)) (k : Keeps w8 V (fun _ => False)) {r : Loop} (hl : V.heap[w8.heap.size + 1]? = some (.loop r)) (hd : V.heap[w8.heap.size]? = some (.deferred (some []))) (hb : Btw (w8.heap.size + 1 + 1) V.heap.size o) :
    R1 W0 wr w8 V p b B5 N l G lv c0 o 0 0 (-1) := by
  have hlt := heap_lt hl
  have hS := hB.sw.news (k8.trans k (fun _ _ e => e))
  refine ⟨⟨d, f, c0, hS.less (fun q hq => ?_), hT.wt, fun _ => rfl⟩, k.blk h1, k.blk h2, fun q q1 q2 _ _ => k.block q q2 id, hd, fun q e => ⟨(hb q e).1, (hb q e).2⟩⟩
  have := k8.size
  rcases hq with (hq | hq) | hq
  · left
    rw [← e5]
    exact hq
  · exact Or.inr ⟨hq.1, by omega⟩
  · have := hb q hq
    exact Or.inr ⟨by omega, this.2⟩
/-- The table beside one block more: a round's own. -/
structure RB (W0 wr w8 V : World) (p b B5 : Nat) (l : Lay) (G : Nat) (lv : Value) (o : Option Nat) (B : Nat) : Prop where
  tab : ∃ d f c', SW W0 V p (fun q => (OwnR wr w8 b B5 lv q ∨ o = some q) ∨ q = B) l G d f c' ∧ WT c' G f
  ob : ∀ q, o = some q → w8.heap.size + 2 ≤ q
  bb : w8.heap.size + 2 ≤ B
theorem RB.lows (h : RB W0 wr w8 V p b B5 l G lv o B) (A : At1 W0 wr w8 b B5 N lv) : ∀ q, (OwnR wr w8 b B5 lv q ∨ o = some q) ∨ q = B → W0.heap.size ≤ q := fun q hq => by
  have := A.base
  have := A.n
  have := A.w
  have := h.bb
  rcases hq with (hq | hq) | hq
  · exact (A.all hq).1
  · have := h.ob q hq
    omega
  · omega
theorem RB.put (h : RB W0 wr w8 V p b B5 l G lv o B) (A : At1 W0 wr w8 b B5 N lv) {q : Nat} (hq : OwnR wr w8 b B5 lv q) (x : Obj) : RB W0 wr w8 (V.putObj q x) p b B5 l G lv o B := by
  obtain ⟨d, f, c', hS, hW⟩ := h.tab
  exact ⟨⟨d, f, c', hS.swap (keeps_putX (Or.inl (Or.inl hq)) x) (h.lows A), hW⟩, h.ob, h.bb⟩
theorem RB.set (h : RB W0 wr w8 V p b B5 l G lv o B) (A : At1 W0 wr w8 b B5 N lv) {q : Nat} (hq : OwnR wr w8 b B5 lv q) (x : Value) : RB W0 wr w8 (V.setCell ⟨q, 0, none⟩ x) p b B5 l G lv o B := by
  have ks : Keeps V (V.setCell ⟨q, 0, none⟩ x) (fun k => k = q) := Keeps.setCell (S := fun k => k = q) (Keeps.refl V _) ⟨q, 0, none⟩ (fun _ => rfl) _
  obtain ⟨d, f, c', hS, hW⟩ := h.tab
  exact ⟨⟨d, f, c', hS.swap (ks.mono (fun k _ e => by subst e; exact Or.inl (Or.inl hq))) (h.lows A), hW⟩, h.ob, h.bb⟩
theorem RB.stay (h : RB W0 wr w8 V p b B5 l G lv o B) (k : Keeps V V' (fun _ => False)) : RB W0 wr w8 V' p b B5 l G lv o B := by
  obtain ⟨d, f, c', hS, hW⟩ := h.tab
  exact ⟨⟨d, f, c', hS.stay k, hW⟩, h.ob, h.bb⟩
theorem R1.rb (h : R1 W0 wr w8 V p b B5 N l G lv c0 o s sv lt) (k : Keeps V V' (fun _ => False)) (hB : V.heap.size ≤ B) (hl : B < V'.heap.size) (hw : w8.heap.size + 2 ≤ V.heap.size) : RB W0 wr w8 V' p b B5 l G lv o B := by
  obtain ⟨d, f, c', hS, hW, -⟩ := h.tab
  exact ⟨⟨d, f, c', hS.box hB k hl, hW⟩, fun q e => (h.ob q e).1, by omega⟩
end
end Go.Proofs.YtmdnknbolgedgaaGreatDoor
