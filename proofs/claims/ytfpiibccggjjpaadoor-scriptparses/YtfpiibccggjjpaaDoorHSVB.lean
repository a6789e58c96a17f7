/-
  script: the reference's fields in the memory.
-/
import Derived.Test.YtfpiibccggjjpaaDoorHSVA
import Derived.Test.YtfpiibccggjjpaaDoorUn13
namespace Go.Proofs.YtfpiibccggjjpaaDoor
open Go.RowKit
set_option linter.unusedVariables false
def cellW (n : Nat) : Value := .int .u64 (n : Int)
theorem Tryd.infoU : (Tryd.prog.info? 31).map (fun i => (i.zero, i.size, i.bytes)) = some (some (.int .u64 0), 1, 8) := by kernel_rfl
/-- The fields under way. -/
structure FlB (lo bs : Nat) (f : FlD) (vn vw vb : Value) (W : World) : Prop where
  box : W.heap[bs]? = some (.cells #[vn, vw, vb] 86)
  n : W.ownsRow lo 3 1 vn f.n.length (f.n.map cellI)
  w : W.ownsRow lo 31 1 vw f.w.length (f.w.map cellW)
  b : W.ownsRow lo 9 1 vb f.b.length (f.b.map Value.string)
theorem FlB.keeps {lo bs : Nat} {f : FlD} {vn vw vb : Value} {W W' : World} (h : FlB lo bs f vn vw vb W) (k : Keeps W W' (fun _ => False)) : FlB lo bs f vn vw vb W' := ⟨k.blk8 h.box, ownsRow_keeps h.n k (fun _ _ e => e), ownsRow_keeps h.w k (fun _ _ e => e), ownsRow_keeps h.b k (fun _ _ e => e)⟩
theorem FlB.moreN {lo bs : Nat} {f : FlD} {vn vw vb : Value} {W : World} (h : FlB lo bs f vn vw vb W) (hlo : lo ≤ W.heap.size) (hn : f.n.length ≤ 8388608) (x : Int) :
    ∃ g2 c2 W', (∀ ty, (Builtin.append_ #[30, 30] ty #[vn, .slice (some ⟨W.heap.size, 0, none⟩) 1 1]).run Tryd.prog (W.alloc (.cells #[cellI x] 3)) = .ok (.slice (some ⟨g2, 0, none⟩) (f.n.length + 1) c2) W') ∧ W'.cell? ⟨bs, 0, none⟩ = some vn ∧ W'.frozen? ⟨bs, 0, none⟩ = false ∧ FlB lo bs ⟨f.n ++ [x], f.w, f.b⟩ (.slice (some ⟨g2, 0, none⟩) (f.n.length + 1) c2) vw vb (W'.setCell ⟨bs, 0, none⟩ (.slice (some ⟨g2, 0, none⟩) (f.n.length + 1) c2)) ∧ Keeps W (W'.setCell ⟨bs, 0, none⟩ (.slice (some ⟨g2, 0, none⟩) (f.n.length + 1) c2)) (fun x => x = bs ∨ vn.ownBlock = some x) := by
  have kA : Keeps W (W.alloc (.cells #[cellI x] 3)) (fun _ => False) := (Keeps.refl _ _).alloc _
  have hA := h.keeps kA
  obtain ⟨g2, c2, W', hr, ho, k⟩ := append_any 30 3 _ 1 8 Tryd.underlying30 Tryd.infoI rfl (by omega) hA.n (p := W.heap.size) (us := [cellI x]) (heap_alloc_new W _) rfl (by simp [Value.oneCell', cellI]) (by omega) (by omega) (Nat.le_trans hlo kA.size)
  have hbox : W'.heap[bs]? = _ := (k.block bs (heap_lt hA.box) (own_box hA.n hA.box (by decide))).trans hA.box
  have hw := ownsRow_keeps hA.w k (own_two hA.n hA.w (by decide))
  have hb := ownsRow_keeps hA.b k (own_two hA.n hA.b (by decide))
  have kB := keepsB (W := W') (B := bs) 0 (.slice (some ⟨g2, 0, none⟩) (f.n.length + 1) c2)
  refine ⟨g2, c2, W', hr, (three_cells9 hbox).1, froB hbox 0, ⟨setB hbox 0 _, ?_, ownsRow_keeps hw kB (own_ne2 hw hbox (by decide)), ownsRow_keeps hb kB (own_ne2 hb hbox (by decide))⟩, ?_⟩
  · have := ownsRow_keeps ho kB (own_ne2 ho hbox (by decide))
    show World.ownsRow _ lo _ 1 _ (f.n ++ [x]).length ((f.n ++ [x]).map cellI)
    rw [List.length_append, List.map_append]
    exact this
  · exact ((kA.mono (S1 := fun x => x = bs ∨ vn.ownBlock = some x) (fun _ _ e => e.elim)).trans k (fun q hq e => Or.inr e)).setCell ⟨bs, 0, none⟩ (fun _ => Or.inl rfl) _
theorem FlB.moreW {lo bs : Nat} {f : FlD} {vn vw vb : Value} {W : World} (h : FlB lo bs f vn vw vb W) (hlo : lo ≤ W.heap.size) (hn : f.w.length ≤ 8388608) (x : Nat) :
    ∃ g2 c2 W', (∀ ty, (Builtin.append_ #[84, 84] ty #[vw, .slice (some ⟨W.heap.size, 0, none⟩) 1 1]).run Tryd.prog (W.alloc (.cells #[cellW x] 31)) = .ok (.slice (some ⟨g2, 0, none⟩) (f.w.length + 1) c2) W') ∧ W'.cell? ⟨bs, 1, none⟩ = some vw ∧ W'.frozen? ⟨bs, 1, none⟩ = false ∧ FlB lo bs ⟨f.n, f.w ++ [x], f.b⟩ vn (.slice (some ⟨g2, 0, none⟩) (f.w.length + 1) c2) vb (W'.setCell ⟨bs, 1, none⟩ (.slice (some ⟨g2, 0, none⟩) (f.w.length + 1) c2)) ∧ Keeps W (W'.setCell ⟨bs, 1, none⟩ (.slice (some ⟨g2, 0, none⟩) (f.w.length + 1) c2)) (fun x => x = bs ∨ vw.ownBlock = some x) := by
  have kA : Keeps W (W.alloc (.cells #[cellW x] 31)) (fun _ => False) := (Keeps.refl _ _).alloc _
  have hA := h.keeps kA
  obtain ⟨g2, c2, W', hr, ho, k⟩ := append_any 84 31 _ 1 8 Tryd.underlying84 Tryd.infoU rfl (by omega) hA.w (p := W.heap.size) (us := [cellW x]) (heap_alloc_new W _) rfl (by simp [Value.oneCell', cellW]) (by omega) (by omega) (Nat.le_trans hlo kA.size)
  have hbox : W'.heap[bs]? = _ := (k.block bs (heap_lt hA.box) (own_box hA.w hA.box (by decide))).trans hA.box
  have hn := ownsRow_keeps hA.n k (own_two hA.w hA.n (by decide))
  have hb := ownsRow_keeps hA.b k (own_two hA.w hA.b (by decide))
  have kB := keepsB (W := W') (B := bs) 1 (.slice (some ⟨g2, 0, none⟩) (f.w.length + 1) c2)
  refine ⟨g2, c2, W', hr, (three_cells9 hbox).2.1, froB hbox 1, ⟨setB hbox 1 _, ownsRow_keeps hn kB (own_ne2 hn hbox (by decide)), ?_, ownsRow_keeps hb kB (own_ne2 hb hbox (by decide))⟩, ?_⟩
  · have := ownsRow_keeps ho kB (own_ne2 ho hbox (by decide))
    show World.ownsRow _ lo _ 1 _ (f.w ++ [x]).length ((f.w ++ [x]).map cellW)
    rw [List.length_append, List.map_append]
    exact this
  · exact ((kA.mono (S1 := fun x => x = bs ∨ vw.ownBlock = some x) (fun _ _ e => e.elim)).trans k (fun q hq e => Or.inr e)).setCell ⟨bs, 1, none⟩ (fun _ => Or.inl rfl) _
theorem FlB.moreB {lo bs : Nat} {f : FlD} {vn vw vb : Value} {W : World} (h : FlB lo bs f vn vw vb W) (hlo : lo ≤ W.heap.size) (hn : f.b.length ≤ 8388608) (x : ByteArray) :
    ∃ g2 c2 W', (∀ ty, (Builtin.append_ #[42, 42] ty #[vb, .slice (some ⟨W.heap.size, 0, none⟩) 1 1]).run Tryd.prog (W.alloc (.cells #[.string x] 9)) = .ok (.slice (some ⟨g2, 0, none⟩) (f.b.length + 1) c2) W') ∧ W'.cell? ⟨bs, 2, none⟩ = some vb ∧ W'.frozen? ⟨bs, 2, none⟩ = false ∧ FlB lo bs ⟨f.n, f.w, f.b ++ [x]⟩ vn vw (.slice (some ⟨g2, 0, none⟩) (f.b.length + 1) c2) (W'.setCell ⟨bs, 2, none⟩ (.slice (some ⟨g2, 0, none⟩) (f.b.length + 1) c2)) ∧ Keeps W (W'.setCell ⟨bs, 2, none⟩ (.slice (some ⟨g2, 0, none⟩) (f.b.length + 1) c2)) (fun x => x = bs ∨ vb.ownBlock = some x) := by
  have kA : Keeps W (W.alloc (.cells #[.string x] 9)) (fun _ => False) := (Keeps.refl _ _).alloc _
  have hA := h.keeps kA
  obtain ⟨g2, c2, W', hr, ho, k⟩ := append_any 42 9 _ 1 16 Tryd.underlying42 Tryd.infoT rfl (by omega) hA.b (p := W.heap.size) (us := [.string x]) (heap_alloc_new W _) rfl (by simp [Value.oneCell']) (by omega) (by omega) (Nat.le_trans hlo kA.size)
  have hbox : W'.heap[bs]? = _ := (k.block bs (heap_lt hA.box) (own_box hA.b hA.box (by decide))).trans hA.box
  have hn := ownsRow_keeps hA.n k (own_two hA.b hA.n (by decide))
  have hw := ownsRow_keeps hA.w k (own_two hA.b hA.w (by decide))
  have kB := keepsB (W := W') (B := bs) 2 (.slice (some ⟨g2, 0, none⟩) (f.b.length + 1) c2)
  refine ⟨g2, c2, W', hr, (three_cells9 hbox).2.2, froB hbox 2, ⟨setB hbox 2 _, ownsRow_keeps hn kB (own_ne2 hn hbox (by decide)), ownsRow_keeps hw kB (own_ne2 hw hbox (by decide)), ?_⟩, ?_⟩
  · have := ownsRow_keeps ho kB (own_ne2 ho hbox (by decide))
    show World.ownsRow _ lo _ 1 _ (f.b ++ [x]).length ((f.b ++ [x]).map Value.string)
    rw [List.length_append, List.map_append]
    exact this
  · exact ((kA.mono (S1 := fun x => x = bs ∨ vb.ownBlock = some x) (fun _ _ e => e.elim)).trans k (fun q hq e => Or.inr e)).setCell ⟨bs, 2, none⟩ (fun _ => Or.inl rfl) _
end Go.Proofs.YtfpiibccggjjpaaDoor
