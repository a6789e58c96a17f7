/-
  script: the reference's Parse under way (gensvj.py out of SQ7, SQ9).
-/
import Derived.Test.YtfpiibccggjjpaaDoorHSVI
import Derived.Test.YtfpiibccggjjpaaDoorUn13
namespace Go.Proofs.YtfpiibccggjjpaaDoor
open Go.RowKit
set_option linter.unusedVariables false
theorem own_not3 {W : World} {b : Nat} {e : TypeId} {s : Nat} {v : Value} {n : Nat} {xs : List Value} (h : W.ownsRow b e s v n xs) (hne : e ≠ 3) : ∀ g cs, W.heap[g]? = some (.cells cs 3) → ¬ v.ownBlock = some g := fun g cs hg e1 => by
  obtain ⟨-, c1, q1⟩ := ownsRow_block h e1
  rw [q1] at hg
  injection hg with hg
  injection hg with _ q3 _
  exact hne q3
theorem box_not3 {W : World} {bs : Nat} {cs0 : Array Value} {t : TypeId} (h : W.heap[bs]? = some (.cells cs0 t)) (hne : t ≠ 3) : ∀ g cs, W.heap[g]? = some (.cells cs 3) → ¬ g = bs := fun g cs hg e1 => by
  subst e1
  rw [h] at hg
  injection hg with hg
  injection hg with _ q3 _
  exact hne q3
/-- A script under way, in the memory. -/
structure ScQ (lo bs : Nat) (st : PSt) (vo vc : Value) (L : List CmV) (W : World) : Prop where
  box : W.heap[bs]? = some (.cells #[.int .i64 st.lim, vo, vc] 25)
  os : W.ownsRow lo 49 2 vo st.os.length (ovCells st.os)
  cs : W.ownsRow lo 33 9 vc L.length (cmCells L)
  eq : L.map (·.c) = st.cs
  each : ∀ x, x ∈ L → IntsB W x.fs x.c.fl ∧ IntsB W x.hs x.c.hl
theorem ScQ.keeps {lo bs : Nat} {st : PSt} {vo vc : Value} {L : List CmV} {W W' : World} (h : ScQ lo bs st vo vc L W) (k : Keeps W W' (fun _ => False)) : ScQ lo bs st vo vc L W' := ⟨k.blk8 h.box, ownsRow_keeps h.os k (fun _ _ e => e), ownsRow_keeps h.cs k (fun _ _ e => e), h.eq, fun x hx => ⟨(h.each x hx).1.keeps k, (h.each x hx).2.keeps k⟩⟩
/-- One cell of the script's box is set, the rest stands. -/
theorem ScQ.box0 {lo bs : Nat} {st : PSt} {vo vc : Value} {L : List CmV} {W : World} (h : ScQ lo bs st vo vc L W) (n : Int) : ScQ lo bs ⟨1, n, st.os, st.cs⟩ vo vc L (W.setCell ⟨bs, 0, none⟩ (.int .i64 n)) := by
  have k := keepsB (W := W) (B := bs) 0 (.int .i64 n)
  refine ⟨setB h.box 0 _, ownsRow_keeps h.os k (own_ne2 h.os h.box (by decide)), ownsRow_keeps h.cs k (own_ne2 h.cs h.box (by decide)), h.eq, fun x hx => ⟨(h.each x hx).1.keep k (box_not3 h.box (by decide)), (h.each x hx).2.keep k (box_not3 h.box (by decide))⟩⟩
/-- One override more. -/
theorem ScQ.more {lo bs : Nat} {st : PSt} {vo vc : Value} {L : List CmV} {W : World} (h : ScQ lo bs st vo vc L W) (hlo : lo ≤ W.heap.size) (hn : st.os.length ≤ 1048576) (o : Ovr) :
    ∃ g2 c2 W', (∀ ty, (Builtin.append_ #[22, 22] ty #[vo, .slice (some ⟨W.heap.size, 0, none⟩) 1 1]).run Tryd.prog (W.alloc (.cells #[.string o.1, .int .u64 (o.2 : Int)] 49)).drew = .ok (.slice (some ⟨g2, 0, none⟩) (st.os.length + 1) c2) W') ∧ W'.cell? ⟨bs, 1, none⟩ = some vo ∧ W'.frozen? ⟨bs, 1, none⟩ = false ∧ ScQ lo bs ⟨2, st.lim, st.os ++ [o], st.cs⟩ (.slice (some ⟨g2, 0, none⟩) (st.os.length + 1) c2) vc L (W'.setCell ⟨bs, 1, none⟩ (.slice (some ⟨g2, 0, none⟩) (st.os.length + 1) c2)) ∧ Keeps W (W'.setCell ⟨bs, 1, none⟩ (.slice (some ⟨g2, 0, none⟩) (st.os.length + 1) c2)) (fun x => x = bs ∨ vo.ownBlock = some x) := by
  have kA : Keeps W (W.alloc (.cells #[.string o.1, .int .u64 (o.2 : Int)] 49)).drew (fun _ => False) := ((Keeps.refl _ _).alloc _).drew
  have hA := h.keeps kA
  obtain ⟨g2, c2, W', hr, ho, k⟩ := append_any 22 49 _ 2 24 Tryd.underlying22 Tryd.infoOv rfl (by omega) hA.os (p := W.heap.size) (us := [.string o.1, .int .u64 (o.2 : Int)]) (heap_alloc_new W _) rfl (by simp [Value.oneCell']) (by omega) (by omega) (Nat.le_trans hlo kA.size)
  have hbox : W'.heap[bs]? = _ := (k.block bs (heap_lt hA.box) (own_box hA.os hA.box (by decide))).trans hA.box
  have hcs := ownsRow_keeps hA.cs k (own_two hA.os hA.cs (by decide))
  have hea : ∀ x, x ∈ L → IntsB W' x.fs x.c.fl ∧ IntsB W' x.hs x.c.hl := fun x hx => ⟨(hA.each x hx).1.keep k (own_not3 hA.os (by decide)), (hA.each x hx).2.keep k (own_not3 hA.os (by decide))⟩
  have kB := keepsB (W := W') (B := bs) 1 (.slice (some ⟨g2, 0, none⟩) (st.os.length + 1) c2)
  refine ⟨g2, c2, W', hr, (three_cells9 hbox).2.1, froB hbox 1, ⟨setB hbox 1 _, ?_, ownsRow_keeps hcs kB (own_ne2 hcs hbox (by decide)), h.eq, fun x hx => ⟨(hea x hx).1.keep kB (box_not3 hbox (by decide)), (hea x hx).2.keep kB (box_not3 hbox (by decide))⟩⟩, ?_⟩
  · have := ownsRow_keeps ho kB (own_ne2 ho hbox (by decide))
    rw [← ovCells_more] at this
    show World.ownsRow _ lo _ 2 _ (st.os ++ [o]).length (ovCells (st.os ++ [o]))
    rw [List.length_append]
    exact this
  · exact ((kA.mono (S1 := fun x => x = bs ∨ vo.ownBlock = some x) (fun _ _ e => e.elim)).trans k (fun q hq e => Or.inr e)).setCell ⟨bs, 1, none⟩ (fun _ => Or.inl rfl) _
/-- One command more. -/
theorem ScQ.moreC {lo bs : Nat} {st : PSt} {vo vc : Value} {L : List CmV} {W : World} (h : ScQ lo bs st vo vc L W) (hlo : lo ≤ W.heap.size) (hn : L.length ≤ 1048576) (x : CmV) (hf : IntsB W x.fs x.c.fl) (hs : IntsB W x.hs x.c.hl) :
    ∃ g2 c2 W', (∀ ty, (Builtin.append_ #[23, 23] ty #[vc, .slice (some ⟨W.heap.size, 0, none⟩) 1 1]).run Tryd.prog (W.alloc (.cells x.cells.toArray 33)).drew = .ok (.slice (some ⟨g2, 0, none⟩) (L.length + 1) c2) W') ∧ W'.cell? ⟨bs, 2, none⟩ = some vc ∧ W'.frozen? ⟨bs, 2, none⟩ = false ∧ ScQ lo bs ⟨3, st.lim, st.os, st.cs ++ [x.c]⟩ vo (.slice (some ⟨g2, 0, none⟩) (L.length + 1) c2) (L ++ [x]) (W'.setCell ⟨bs, 2, none⟩ (.slice (some ⟨g2, 0, none⟩) (L.length + 1) c2)) ∧ Keeps W (W'.setCell ⟨bs, 2, none⟩ (.slice (some ⟨g2, 0, none⟩) (L.length + 1) c2)) (fun x => x = bs ∨ vc.ownBlock = some x) := by
  have kA : Keeps W (W.alloc (.cells x.cells.toArray 33)).drew (fun _ => False) := ((Keeps.refl _ _).alloc _).drew
  have hA := h.keeps kA
  have one : ∀ u ∈ x.cells, u.oneCell' = true := by
    obtain ⟨s1, c1, e1⟩ := hf.form
    obtain ⟨s2, c2, e2⟩ := hs.form
    intro u hu
    unfold CmV.cells at hu
    rw [e1, e2] at hu
    simp only [List.mem_cons, List.not_mem_nil, or_false] at hu
    rcases hu with rfl | rfl | rfl | rfl | rfl | rfl | rfl | rfl | rfl <;> rfl
  obtain ⟨g2, c2, W', hr, ho, k⟩ := append_any 23 33 _ 9 120 Tryd.underlying23 Tryd.infoCm rfl (by omega) hA.cs (p := W.heap.size) (us := x.cells) (heap_alloc_new W _) rfl one (by omega) (by omega) (Nat.le_trans hlo kA.size)
  have hbox : W'.heap[bs]? = _ := (k.block bs (heap_lt hA.box) (own_box hA.cs hA.box (by decide))).trans hA.box
  have hos := ownsRow_keeps hA.os k (own_two hA.cs hA.os (by decide))
  have hea0 : ∀ y, y ∈ L ++ [x] → IntsB (W.alloc (.cells x.cells.toArray 33)).drew y.fs y.c.fl ∧ IntsB (W.alloc (.cells x.cells.toArray 33)).drew y.hs y.c.hl := fun y hy => by
    rcases List.mem_append.1 hy with q | q
    · exact hA.each y q
    · obtain rfl : y = x := by simpa using q
      exact ⟨hf.keeps kA, hs.keeps kA⟩
  have hea : ∀ y, y ∈ L ++ [x] → IntsB W' y.fs y.c.fl ∧ IntsB W' y.hs y.c.hl := fun y hy => ⟨(hea0 y hy).1.keep k (own_not3 hA.cs (by decide)), (hea0 y hy).2.keep k (own_not3 hA.cs (by decide))⟩
  have kB := keepsB (W := W') (B := bs) 2 (.slice (some ⟨g2, 0, none⟩) (L.length + 1) c2)
  refine ⟨g2, c2, W', hr, (three_cells9 hbox).2.2, froB hbox 2, ⟨setB hbox 2 _, ownsRow_keeps hos kB (own_ne2 hos hbox (by decide)), ?_, by rw [List.map_append, h.eq]; rfl, fun y hy => ⟨(hea y hy).1.keep kB (box_not3 hbox (by decide)), (hea y hy).2.keep kB (box_not3 hbox (by decide))⟩⟩, ?_⟩
  · have := ownsRow_keeps ho kB (own_ne2 ho hbox (by decide))
    rw [← cmCells_more] at this
    rw [List.length_append]
    exact this
  · exact ((kA.mono (S1 := fun x => x = bs ∨ vc.ownBlock = some x) (fun _ _ e => e.elim)).trans k (fun q hq e => Or.inr e)).setCell ⟨bs, 2, none⟩ (fun _ => Or.inl rfl) _
/-- One command more, nothing drawn ahead. -/
theorem ScQ.moreD {lo bs : Nat} {st : PSt} {vo vc : Value} {L : List CmV} {W : World} (h : ScQ lo bs st vo vc L W) (hlo : lo ≤ W.heap.size) (hn : L.length ≤ 1048576) (x : CmV) (hf : IntsB W x.fs x.c.fl) (hs : IntsB W x.hs x.c.hl) :
    ∃ g2 c2 W', (∀ ty, (Builtin.append_ #[23, 23] ty #[vc, .slice (some ⟨W.heap.size, 0, none⟩) 1 1]).run Tryd.prog (W.alloc (.cells x.cells.toArray 33)) = .ok (.slice (some ⟨g2, 0, none⟩) (L.length + 1) c2) W') ∧ W'.cell? ⟨bs, 2, none⟩ = some vc ∧ W'.frozen? ⟨bs, 2, none⟩ = false ∧ ScQ lo bs ⟨3, st.lim, st.os, st.cs ++ [x.c]⟩ vo (.slice (some ⟨g2, 0, none⟩) (L.length + 1) c2) (L ++ [x]) (W'.setCell ⟨bs, 2, none⟩ (.slice (some ⟨g2, 0, none⟩) (L.length + 1) c2)) ∧ Keeps W (W'.setCell ⟨bs, 2, none⟩ (.slice (some ⟨g2, 0, none⟩) (L.length + 1) c2)) (fun x => x = bs ∨ vc.ownBlock = some x) := by
  have kA : Keeps W (W.alloc (.cells x.cells.toArray 33)) (fun _ => False) := ((Keeps.refl _ _).alloc _)
  have hA := h.keeps kA
  have one : ∀ u ∈ x.cells, u.oneCell' = true := by
    obtain ⟨s1, c1, e1⟩ := hf.form
    obtain ⟨s2, c2, e2⟩ := hs.form
    intro u hu
    unfold CmV.cells at hu
    rw [e1, e2] at hu
    simp only [List.mem_cons, List.not_mem_nil, or_false] at hu
    rcases hu with rfl | rfl | rfl | rfl | rfl | rfl | rfl | rfl | rfl <;> rfl
  obtain ⟨g2, c2, W', hr, ho, k⟩ := append_any 23 33 _ 9 120 Tryd.underlying23 Tryd.infoCm rfl (by omega) hA.cs (p := W.heap.size) (us := x.cells) (heap_alloc_new W _) rfl one (by omega) (by omega) (Nat.le_trans hlo kA.size)
  have hbox : W'.heap[bs]? = _ := (k.block bs (heap_lt hA.box) (own_box hA.cs hA.box (by decide))).trans hA.box
  have hos := ownsRow_keeps hA.os k (own_two hA.cs hA.os (by decide))
  have hea0 : ∀ y, y ∈ L ++ [x] → IntsB (W.alloc (.cells x.cells.toArray 33)) y.fs y.c.fl ∧ IntsB (W.alloc (.cells x.cells.toArray 33)) y.hs y.c.hl := fun y hy => by
    rcases List.mem_append.1 hy with q | q
    · exact hA.each y q
    · obtain rfl : y = x := by simpa using q
      exact ⟨hf.keeps kA, hs.keeps kA⟩
  have hea : ∀ y, y ∈ L ++ [x] → IntsB W' y.fs y.c.fl ∧ IntsB W' y.hs y.c.hl := fun y hy => ⟨(hea0 y hy).1.keep k (own_not3 hA.cs (by decide)), (hea0 y hy).2.keep k (own_not3 hA.cs (by decide))⟩
  have kB := keepsB (W := W') (B := bs) 2 (.slice (some ⟨g2, 0, none⟩) (L.length + 1) c2)
  refine ⟨g2, c2, W', hr, (three_cells9 hbox).2.2, froB hbox 2, ⟨setB hbox 2 _, ownsRow_keeps hos kB (own_ne2 hos hbox (by decide)), ?_, by rw [List.map_append, h.eq]; rfl, fun y hy => ⟨(hea y hy).1.keep kB (box_not3 hbox (by decide)), (hea y hy).2.keep kB (box_not3 hbox (by decide))⟩⟩, ?_⟩
  · have := ownsRow_keeps ho kB (own_ne2 ho hbox (by decide))
    rw [← cmCells_more] at this
    rw [List.length_append]
    exact this
  · exact ((kA.mono (S1 := fun x => x = bs ∨ vc.ownBlock = some x) (fun _ _ e => e.elim)).trans k (fun q hq e => Or.inr e)).setCell ⟨bs, 2, none⟩ (fun _ => Or.inl rfl) _
/-- A Parse under way. -/
structure PaQ (w : World) (bs : Nat) (ls : List (List UInt8)) (rl : Value) (st : PSt) (vo vc : Value) (L : List CmV) (W : World) : Prop where
  res : W.heap[w.heap.size]? = some (.cells z3 25)
  sc : ScQ w.heap.size bs st vo vc L W
  ln : TextsO w.heap.size W rl ls
  keeps : Keeps w W (fun _ => False)
  lt : w.heap.size < bs
theorem PaQ.stay {w W W' : World} {bs : Nat} {ls : List (List UInt8)} {rl : Value} {st : PSt} {vo vc : Value} {L : List CmV} (h : PaQ w bs ls rl st vo vc L W) (k : Keeps W W' (fun _ => False)) : PaQ w bs ls rl st vo vc L W' := ⟨k.blk8 h.res, h.sc.keeps k, h.ln.keeps k, h.keeps.trans k (fun _ _ e => e), h.lt⟩
theorem PaQ.lay {w W W' : World} {bs : Nat} {ls : List (List UInt8)} {rl : Value} {st st2 : PSt} {vo vc vo2 vc2 : Value} {L L2 : List CmV} (h : PaQ w bs ls rl st vo vc L W) (h2 : ScQ w.heap.size bs st2 vo2 vc2 L2 W') (k : Keeps W W' (fun x => x = bs ∨ vo.ownBlock = some x ∨ vc.ownBlock = some x)) : PaQ w bs ls rl st2 vo2 vc2 L2 W' := by
  have hl := h.lt
  refine ⟨(k.block _ (heap_lt h.res) (fun e => ?_)).trans h.res, h2, ownsRow_keeps h.ln k (fun g hg e => ?_), h.keeps.trans k (fun q hq e => ?_), hl⟩
  · rcases e with e | e | e
    · omega
    · exact own_box h.sc.os h.res (by decide) e
    · exact own_box h.sc.cs h.res (by decide) e
  · rcases e with e | e | e
    · exact own_ne2 h.ln h.sc.box (by decide) g hg e
    · exact own_two h.sc.os h.ln (by decide) g hg e
    · exact own_two h.sc.cs h.ln (by decide) g hg e
  · rcases e with e | e | e
    · omega
    · have := (ownsRow_block h.sc.os e).1
      omega
    · have := (ownsRow_block h.sc.cs e).1
      omega
/-- What the reference's Parse answers. -/
structure ScT (lo : Nat) (st : PSt) (vo vc : Value) (L : List CmV) (W : World) : Prop where
  os : W.ownsRow lo 49 2 vo st.os.length (ovCells st.os)
  cs : W.ownsRow lo 33 9 vc L.length (cmCells L)
  eq : L.map (·.c) = st.cs
  each : ∀ x, x ∈ L → IntsB W x.fs x.c.fl ∧ IntsB W x.hs x.c.hl
def PaT (R : PSt ⊕ (Nat × Int)) (w : World) (e : Ending) (w' : World) : Prop := Keeps w w' (fun _ => False) ∧ match R with
  | .inl st => ∃ vo vc L, e = .returned (.tuple #[.agg #[.int .i64 st.lim, vo, vc], .int .i64 0, .int .i64 0]) ∧ ScT w.heap.size st vo vc L w'
  | .inr x => e = .returned (.tuple #[.agg #[.int .i64 0, .slice none 0 0, .slice none 0 0], .int .i64 (x.1 : Int), .int .i64 x.2])
end Go.Proofs.YtfpiibccggjjpaaDoor
