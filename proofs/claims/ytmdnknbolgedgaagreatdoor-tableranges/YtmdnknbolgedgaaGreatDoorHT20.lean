/-
  The table's list of what its full slots hold.
-/
import Derived.Test.YtmdnknbolgedgaaGreatDoorHTB15
import Derived.Test.YtmdnknbolgedgaaGreatDoorUn20
namespace Go.Proofs.YtmdnknbolgedgaaGreatDoor
open Go.RowKit Go.Shelf Ly Ct
set_option linter.unusedVariables false

def held6 (x : Nat × GC) : List Value := .int .i64 (x.1 : Int) :: cell5 x.2
def heldL : List (Nat × GC) → List Value
  | [] => []
  | x :: r => held6 x ++ heldL r
theorem heldL_append (a b : List (Nat × GC)) : heldL (a ++ b) = heldL a ++ heldL b := by
  induction a with
  | nil => rfl
  | cons x r ih => simp only [List.cons_append, heldL, ih, List.append_assoc]
theorem heldL_at : ∀ (hs : List (Nat × GC)) (i j : Nat) (h : i < hs.length), j < 6 → (heldL hs)[i * 6 + j]? = (held6 hs[i])[j]?
  | [], i, j, h, hj => absurd h (Nat.not_lt_zero _)
  | x :: r, 0, j, h, hj => by
    simp only [heldL, Nat.zero_mul, Nat.zero_add, List.getElem_cons_zero]
    exact List.getElem?_append_left (by simp [held6, cell5]; omega)
  | x :: r, i + 1, j, h, hj => by
    have e : (held6 x).length = 6 := rfl
    simp only [heldL, List.getElem_cons_succ]
    rw [List.getElem?_append_right (by omega), e, show (i + 1) * 6 + j - 6 = i * 6 + j by omega]
    exact heldL_at r i j (by simpa using h) hj
theorem info_held : (Tryz.prog.info? 130).map (fun i => (i.zero, i.size, i.bytes)) = some (some (.agg #[.int .i64 0, .int .i64 0, .int .i64 0, .string ByteArray.empty, .string ByteArray.empty, .int .i64 0]), 6, 64) := by kernel_rfl
theorem six_cells {w : World} {b : Nat} {v0 v1 v2 v3 v4 v5 : Value} {t : TypeId} (h : w.heap[b]? = some (.cells #[v0, v1, v2, v3, v4, v5] t)) : ∀ j u, [v0, v1, v2, v3, v4, v5][j]? = some u → w.cell? ⟨b, j, none⟩ = some u := fun j u hu => by
  simp only [World.cell?, h]
  simpa using hu
/-- The list in its box. -/
structure HB (w0 V : World) (Bl : Nat) (v : Value) (hs : List (Nat × GC)) : Prop where
  box : V.heap[Bl]? = some (.cells #[v] 127)
  row : V.ownsRow w0.heap.size 130 6 v hs.length (heldL hs)
  k : Keeps w0 V (fun _ => False)
  lb : w0.heap.size ≤ Bl
section
variable {w0 V V' : World} {Bl : Nat} {v : Value} {hs : List (Nat × GC)}
theorem HB.apart (h : HB w0 V Bl v hs) : v.ownBlock ≠ some Bl := fun e => by
  rcases h.row.2 with ⟨rfl, -⟩ | ⟨g, cap, cur, rfl, -, hg, -⟩
  · cases e
  · have eg : g = Bl := by simpa [Value.ownBlock] using e
    subst eg
    rw [h.box] at hg
    injection Option.some.inj hg with _ h2 _
    exact absurd h2 (by decide)
theorem HB.stay (h : HB w0 V Bl v hs) (k : Keeps V V' (fun _ => False)) : HB w0 V' Bl v hs :=
  ⟨k.blk h.box, row_kept8 h.row (fun q hq => k.block q (h.row.lt q hq).2 id), h.k.trans k (fun _ _ e => e), h.lb⟩
/-- A loop's own block is put: it is no block of cells. -/
theorem HB.put (h : HB w0 V Bl v hs) {l : Nat} {r : Loop} (hl : V.heap[l]? = some (.loop r)) (hw : w0.heap.size ≤ l) (o : Obj) : HB w0 (V.putObj l o) Bl v hs := by
  have ne : Bl ≠ l := fun e => by
    have := h.box
    rw [e, hl] at this
    cases this
  refine ⟨(World.putObj_heap_other ne).trans h.box, row_kept8 h.row (fun q hq => World.putObj_heap_other (fun e => ?_)), h.k.put hw o, h.lb⟩
  rcases h.row.2 with ⟨rfl, -⟩ | ⟨g, cap, cur, rfl, -, hg, -⟩
  · cases hq
  · have eg : g = q := by simpa [Value.ownBlock] using hq
    rw [eg, e, hl] at hg
    cases hg
theorem HB.more (h : HB w0 V Bl v hs) (hn : hs.length ≤ 1000000) (m : Nat) (x : GC) :
    ∃ g cap V2, (∀ ty, (Builtin.append_ #[127, 127] ty #[v, .slice (some ⟨V.heap.size, 0, none⟩) 1 1]).run Tryz.prog (V.alloc (.cells #[.int .i64 (m : Int), .int .i64 x.kind, .int .i64 x.tag, .string x.key, .string x.elem, .int .i64 x.birth] 130)) = .ok (.slice (some ⟨g, 0, none⟩) (hs.length + 1) cap) V2) ∧
      V2.heap[Bl]? = some (.cells #[v] 127) ∧ HB w0 (V2.setCell ⟨Bl, 0, none⟩ (.slice (some ⟨g, 0, none⟩) (hs.length + 1) cap)) Bl (.slice (some ⟨g, 0, none⟩) (hs.length + 1) cap) (hs ++ [(m, x)]) ∧ Keeps V V2 (fun k => v.ownBlock = some k) := by
  obtain ⟨i, h1, h2, h3, h4⟩ := info_parts info_held
  have hsz := h.k.size
  have hrow := h.row.alloc (.cells #[.int .i64 (m : Int), .int .i64 x.kind, .int .i64 x.tag, .string x.key, .string x.elem, .int .i64 x.birth] 130)
  have hnew := heap_alloc_new V (.cells #[.int .i64 (m : Int), .int .i64 x.kind, .int .i64 x.tag, .string x.key, .string x.elem, .int .i64 x.birth] 130)
  obtain ⟨g, cap, V2, hr, hown, hgr, hloc, hlt⟩ := run_append_lies (P := Tryz.prog) (V.alloc (.cells #[.int .i64 (m : Int), .int .i64 x.kind, .int .i64 x.tag, .string x.key, .string x.elem, .int .i64 x.birth] 130)) 127 0 w0.heap.size 130 i _ 6 64 Tryz.underlying127 h1 h2 h3 h4 rfl (by decide) v hs.length (heldL hs) hrow ⟨V.heap.size, 0, none⟩ 1 1 (held6 (m, x)) rfl
    (fun j u hu => by
      rw [addr_add, Nat.zero_add]
      exact six_cells hnew j u hu) (fun u hu => by
      unfold held6 cell5 at hu
      simp at hu
      rcases hu with rfl | rfl | rfl | rfl | rfl | rfl <;> rfl) (by omega) (by simp only [maxLen]; omega) (by omega) (by simp; omega) (V.heap.size + 1) (by simp)
  have k1 : Keeps V V2 (fun k => v.ownBlock = some k) := ((Keeps.refl V _).alloc _).trans (Keeps.ofGrown hgr) (fun _ _ e => e)
  have hb2 : V2.heap[Bl]? = some (.cells #[v] 127) := (k1.block _ (heap_lt h.box) h.apart).trans h.box
  have ks : Keeps V2 (V2.setCell ⟨Bl, 0, none⟩ (.slice (some ⟨g, 0, none⟩) (hs.length + 1) cap)) (fun i => i = Bl) := Keeps.setCell (S := fun i => i = Bl) (Keeps.refl V2 _) ⟨Bl, 0, none⟩ (fun _ => rfl) _
  have ng : g ≠ Bl := by
    rcases hloc with e | e
    · exact fun z => h.apart (by rw [e, z])
    · have := heap_lt h.box
      omega
  refine ⟨g, cap, V2, fun ty => hr, hb2, ⟨set_one' hb2 0 _ (by simp), ?_, ?_, h.lb⟩, k1⟩
  · rw [heldL_append, List.length_append]
    show World.ownsRow _ _ _ _ _ (hs.length + 1) (heldL hs ++ (held6 (m, x) ++ []))
    rw [List.append_nil]
    exact row_kept8 hown (fun q hq => ks.block q (hown.lt q hq).2 (fun e => ng (by
      have : g = q := by simpa [Value.ownBlock] using hq
      omega)))
  · exact (h.k.trans k1 (fun q hq e => by have := (h.row.lt q e).1; omega)).trans ks (fun q hq e => by have := h.lb; omega)
end
end Go.Proofs.YtmdnknbolgedgaaGreatDoor
