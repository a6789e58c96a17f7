/-
  script: the reference's read under way.
-/
import Derived.Test.YtfpiibccggjjpaaDoorHSVC
namespace Go.Proofs.YtfpiibccggjjpaaDoor
open Go.RowKit
set_option linter.unusedVariables false
/-- read under way: its row, its result, its fields. -/
structure RdS (w : World) (nm F : ByteArray) (op : Int) (m : Bool) (f : FlD) (vn vw vb : Value) (W : World) : Prop where
  fl : FlB w.heap.size (w.heap.size + 1 + 1) f vn vw vb W
  row : W.heap[w.heap.size]? = some (.cells #[.string nm, .int .i64 op, .string F, .bool m] 81)
  res : W.heap[w.heap.size + 1]? = some (.cells #[.slice none 0 0, .slice none 0 0, .slice none 0 0] 86)
  keep : Keeps w W (fun _ => False)
theorem RdS.keeps {w : World} {nm F : ByteArray} {op : Int} {m : Bool} {f : FlD} {vn vw vb : Value} {W W' : World} (h : RdS w nm F op m f vn vw vb W) (k : Keeps W W' (fun _ => False)) : RdS w nm F op m f vn vw vb W' := ⟨h.fl.keeps k, k.blk8 h.row, k.blk8 h.res, h.keep.trans k (fun _ _ e => e)⟩
/-- One round, as data. -/
theorem flF_step {F : List UInt8} {fs : List (List UInt8)} {i : Nat} (h : i < fs.length) (f : FlD) : flF (F.drop i) f (fs.drop i) = if (flS (F.getD i 110) f fs[i]).2 = 0 then flF (F.drop (i + 1)) (flS (F.getD i 110) f fs[i]).1 (fs.drop (i + 1)) else (FlD.zero, (flS (F.getD i 110) f fs[i]).2) := by
  have e1 : fs.drop i = fs[i] :: fs.drop (i + 1) := List.drop_eq_getElem_cons h
  have e2 : (F.drop i).headD 110 = F.getD i 110 := by
    rw [List.headD_eq_head?_getD, List.head?_drop, List.getD_eq_getElem?_getD]
  have e3 : (F.drop i).drop 1 = F.drop (i + 1) := by rw [List.drop_drop]
  rw [e1, flF, e2, e3]
theorem flS_len (p : UInt8) (f : FlD) (x : List UInt8) {i : Nat} (h : f.n.length ≤ i ∧ f.w.length ≤ i ∧ f.b.length ≤ i) : (flS p f x).1.n.length ≤ i + 1 ∧ (flS p f x).1.w.length ≤ i + 1 ∧ (flS p f x).1.b.length ≤ i + 1 := by
  obtain ⟨h1, h2, h3⟩ := h
  unfold flS
  split
  · simp only [List.length_append, List.length_cons, List.length_nil]; omega
  · split
    · simp only [List.length_append, List.length_cons, List.length_nil]; omega
    · simp only [List.length_append, List.length_cons, List.length_nil]; omega
theorem RdS.moreN {w : World} {nm F : ByteArray} {op : Int} {m : Bool} {f : FlD} {vn vw vb : Value} {W : World} (h : RdS w nm F op m f vn vw vb W) (hn : f.n.length ≤ 8388608) (x : Int) :
    ∃ g2 c2 W', (∀ ty, (Builtin.append_ #[30, 30] ty #[vn, .slice (some ⟨W.heap.size, 0, none⟩) 1 1]).run Tryd.prog (W.alloc (.cells #[cellI x] 3)) = .ok (.slice (some ⟨g2, 0, none⟩) (f.n.length + 1) c2) W') ∧ W'.cell? ⟨w.heap.size + 1 + 1, 0, none⟩ = some vn ∧ W'.frozen? ⟨w.heap.size + 1 + 1, 0, none⟩ = false ∧ RdS w nm F op m ⟨f.n ++ [x], f.w, f.b⟩ (.slice (some ⟨g2, 0, none⟩) (f.n.length + 1) c2) vw vb (W'.setCell ⟨w.heap.size + 1 + 1, 0, none⟩ (.slice (some ⟨g2, 0, none⟩) (f.n.length + 1) c2)) := by
  obtain ⟨g2, c2, W', hr, y1, y2, hS, k⟩ := h.fl.moreN h.keep.size hn x
  refine ⟨g2, c2, W', hr, y1, y2, hS, ?_, ?_, h.keep.trans k ?_⟩
  · refine (k.block w.heap.size (heap_lt h.row) ?_).trans h.row
    rintro (e | e)
    · omega
    · exact own_box h.fl.n h.row (by decide) e
  · refine (k.block (w.heap.size + 1) (heap_lt h.res) ?_).trans h.res
    rintro (e | e)
    · omega
    · exact own_box h.fl.n h.res (by decide) e
  · rintro i hi (e | e)
    · omega
    · have := (ownsRow_block h.fl.n e).1
      omega
theorem RdS.moreW {w : World} {nm F : ByteArray} {op : Int} {m : Bool} {f : FlD} {vn vw vb : Value} {W : World} (h : RdS w nm F op m f vn vw vb W) (hn : f.w.length ≤ 8388608) (x : Nat) :
    ∃ g2 c2 W', (∀ ty, (Builtin.append_ #[84, 84] ty #[vw, .slice (some ⟨W.heap.size, 0, none⟩) 1 1]).run Tryd.prog (W.alloc (.cells #[cellW x] 31)) = .ok (.slice (some ⟨g2, 0, none⟩) (f.w.length + 1) c2) W') ∧ W'.cell? ⟨w.heap.size + 1 + 1, 1, none⟩ = some vw ∧ W'.frozen? ⟨w.heap.size + 1 + 1, 1, none⟩ = false ∧ RdS w nm F op m ⟨f.n, f.w ++ [x], f.b⟩ vn (.slice (some ⟨g2, 0, none⟩) (f.w.length + 1) c2) vb (W'.setCell ⟨w.heap.size + 1 + 1, 1, none⟩ (.slice (some ⟨g2, 0, none⟩) (f.w.length + 1) c2)) := by
  obtain ⟨g2, c2, W', hr, y1, y2, hS, k⟩ := h.fl.moreW h.keep.size hn x
  refine ⟨g2, c2, W', hr, y1, y2, hS, ?_, ?_, h.keep.trans k ?_⟩
  · refine (k.block w.heap.size (heap_lt h.row) ?_).trans h.row
    rintro (e | e)
    · omega
    · exact own_box h.fl.w h.row (by decide) e
  · refine (k.block (w.heap.size + 1) (heap_lt h.res) ?_).trans h.res
    rintro (e | e)
    · omega
    · exact own_box h.fl.w h.res (by decide) e
  · rintro i hi (e | e)
    · omega
    · have := (ownsRow_block h.fl.w e).1
      omega
theorem RdS.moreB {w : World} {nm F : ByteArray} {op : Int} {m : Bool} {f : FlD} {vn vw vb : Value} {W : World} (h : RdS w nm F op m f vn vw vb W) (hn : f.b.length ≤ 8388608) (x : ByteArray) :
    ∃ g2 c2 W', (∀ ty, (Builtin.append_ #[42, 42] ty #[vb, .slice (some ⟨W.heap.size, 0, none⟩) 1 1]).run Tryd.prog (W.alloc (.cells #[.string x] 9)) = .ok (.slice (some ⟨g2, 0, none⟩) (f.b.length + 1) c2) W') ∧ W'.cell? ⟨w.heap.size + 1 + 1, 2, none⟩ = some vb ∧ W'.frozen? ⟨w.heap.size + 1 + 1, 2, none⟩ = false ∧ RdS w nm F op m ⟨f.n, f.w, f.b ++ [x]⟩ vn vw (.slice (some ⟨g2, 0, none⟩) (f.b.length + 1) c2) (W'.setCell ⟨w.heap.size + 1 + 1, 2, none⟩ (.slice (some ⟨g2, 0, none⟩) (f.b.length + 1) c2)) := by
  obtain ⟨g2, c2, W', hr, y1, y2, hS, k⟩ := h.fl.moreB h.keep.size hn x
  refine ⟨g2, c2, W', hr, y1, y2, hS, ?_, ?_, h.keep.trans k ?_⟩
  · refine (k.block w.heap.size (heap_lt h.row) ?_).trans h.row
    rintro (e | e)
    · omega
    · exact own_box h.fl.b h.row (by decide) e
  · refine (k.block (w.heap.size + 1) (heap_lt h.res) ?_).trans h.res
    rintro (e | e)
    · omega
    · exact own_box h.fl.b h.res (by decide) e
  · rintro i hi (e | e)
    · omega
    · have := (ownsRow_block h.fl.b e).1
      omega
end Go.Proofs.YtfpiibccggjjpaaDoor
