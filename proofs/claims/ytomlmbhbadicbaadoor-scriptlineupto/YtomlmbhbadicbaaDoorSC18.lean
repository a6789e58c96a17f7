/-
  script: guess, its memory.
-/
import Derived.Test.YtomlmbhbadicbaaDoorSC17
import Derived.ArgAppend
namespace Go.Proofs.YtomlmbhbadicbaaDoor
open Go.RowKit
set_option linter.unusedVariables false

theorem set_cell7 {w : World} {q : Nat} {cs : Array Value} {t : TypeId} (h : w.heap[q]? = some (.cells cs t)) (i : Nat) (v : Value) : (w.setCell ⟨q, i, none⟩ v).heap[q]? = some (.cells (cs.setIfInBounds i v) t) := by
  have hlt := (Array.getElem?_eq_some_iff.1 h).1
  have hv := (Array.getElem?_eq_some_iff.1 h).2
  simp only [World.setCell, Array.getElem?_modify]
  simp [hlt, hv]
/-- guess under way: its answer in block A + 1, its result in block A, its words in block g. -/
structure GS (w wr : World) (g : Nat) (x0 x1 x2 : ByteArray) (cs : Array Value) : Prop where
  keep : Keeps w wr (fun _ => False)
  rb : wr.heap[w.heap.size]? = some (.cells #[.int .i64 0, .int .i64 0, .int .i64 0, .int .i64 0, .bool false, .string ⟨#[]⟩, .string ⟨#[]⟩] 24)
  ab : wr.heap[w.heap.size + 1]? = some (.cells cs 24)
  w0 : wr.cell? ⟨g, 0, none⟩ = some (.string x0)
  w1 : wr.cell? ⟨g, 1, none⟩ = some (.string x1)
  w2 : wr.cell? ⟨g, 2, none⟩ = some (.string x2)
  ne : g ≠ w.heap.size ∧ g ≠ w.heap.size + 1
theorem GS.stay {w wr w2 : World} {g : Nat} {x0 x1 x2 : ByteArray} {cs : Array Value} (h : GS w wr g x0 x1 x2 cs) (k : Keeps wr w2 (fun _ => False)) : GS w w2 g x0 x1 x2 cs :=
  ⟨h.keep.trans k (fun _ _ e => e), k.blk h.rb, k.blk h.ab, keeps_cell k h.w0, keeps_cell k h.w1, keeps_cell k h.w2, h.ne⟩
theorem cell_set_ne {w : World} {q i g j : Nat} (v : Value) (h : g ≠ q) : (w.setCell ⟨q, i, none⟩ v).cell? ⟨g, j, none⟩ = w.cell? ⟨g, j, none⟩ := by
  simp only [World.cell?, World.setCell, Array.getElem?_modify]
  rw [if_neg (fun e => h e.symm)]
theorem GS.set {w wr : World} {g : Nat} {x0 x1 x2 : ByteArray} {cs : Array Value} (h : GS w wr g x0 x1 x2 cs) (i : Nat) (v : Value) : GS w (wr.setCell ⟨w.heap.size + 1, i, none⟩ v) g x0 x1 x2 (cs.setIfInBounds i v) := by
  refine ⟨h.keep.setCell _ (fun e => ?_) _, ?_, set_cell7 h.ab i v, ?_, ?_, ?_, h.ne⟩
  · simp at e
    omega
  · simp only [World.setCell, Array.getElem?_modify]
    rw [if_neg (by omega)]
    exact h.rb
  · rw [cell_set_ne _ h.ne.2]
    exact h.w0
  · rw [cell_set_ne _ h.ne.2]
    exact h.w1
  · rw [cell_set_ne _ h.ne.2]
    exact h.w2
theorem ans_open {wr : World} {q : Nat} {v0 v1 v2 v3 v4 v5 v6 : Value} {t : TypeId} (h : wr.heap[q]? = some (.cells #[v0, v1, v2, v3, v4, v5, v6] t)) :
    (wr.cell? ⟨q, 0, none⟩ = some v0 ∧ wr.cell? ⟨q, 1, none⟩ = some v1 ∧ wr.cell? ⟨q, 2, none⟩ = some v2 ∧ wr.cell? ⟨q, 3, none⟩ = some v3 ∧ wr.cell? ⟨q, 4, none⟩ = some v4 ∧ wr.cell? ⟨q, 5, none⟩ = some v5 ∧ wr.cell? ⟨q, 6, none⟩ = some v6) ∧
    wr.frozen? ⟨q, 0, none⟩ = false ∧ wr.frozen? ⟨q, 1, none⟩ = false ∧ wr.frozen? ⟨q, 2, none⟩ = false ∧ wr.frozen? ⟨q, 3, none⟩ = false ∧ wr.frozen? ⟨q, 4, none⟩ = false ∧ wr.frozen? ⟨q, 5, none⟩ = false ∧ wr.frozen? ⟨q, 6, none⟩ = false := by
  simp [World.cell?, World.frozen?, h]
/-- Seven cells are put into a block that is new since w. -/
theorem ans_set {w0 w : World} {b : Nat} {u0 u1 u2 u3 u4 u5 u6 : Value} {t : TypeId} (h : w.heap[b]? = some (.cells #[u0, u1, u2, u3, u4, u5, u6] t)) (k : Keeps w0 w (fun _ => False)) (hb : w0.heap.size ≤ b)
    {v0 v1 v2 v3 v4 v5 v6 : Value} {P : World → Prop} (hP : ∀ w9, w9.heap[b]? = some (.cells #[v0, v1, v2, v3, v4, v5, v6] t) → Keeps w0 w9 (fun _ => False) → P w9) :
    P (((((((w.setCell ⟨b, 0, none⟩ v0).setCell ⟨b, 1, none⟩ v1).setCell ⟨b, 2, none⟩ v2).setCell ⟨b, 3, none⟩ v3).setCell ⟨b, 4, none⟩ v4).setCell ⟨b, 5, none⟩ v5).setCell ⟨b, 6, none⟩ v6) := by
  have hn : ∀ i : Nat, (⟨b, i, none⟩ : Addr).block < w0.heap.size → False := fun i e => by simp at e; omega
  refine hP _ ?_ ?_
  · have := set_cell7 (set_cell7 (set_cell7 (set_cell7 (set_cell7 (set_cell7 (set_cell7 h 0 v0) 1 v1) 2 v2) 3 v3) 4 v4) 5 v5) 6 v6
    simpa using this
  · exact ((((((k.setCell _ (hn 0) _).setCell _ (hn 1) _).setCell _ (hn 2) _).setCell _ (hn 3) _).setCell _ (hn 4) _).setCell _ (hn 5) _).setCell _ (hn 6) _
/-- The words with three empty ones behind them. -/
theorem words_more (b : Addr) (n : Nat) (ws : List ByteArray) (hl : ws.length = n) (w W : World) (hc : ∀ j u, (ws.map Value.string)[j]? = some u → W.cell? (b.add j) = some u) (h : Nat) (hu : W.heap[h]? = some (.cells #[.string ⟨#[]⟩, .string ⟨#[]⟩, .string ⟨#[]⟩] 9)) (hn : n ≤ 8388608) :
    ∃ g cap w', (∀ ty, (Builtin.append_ #[34, 34] ty #[.slice (some b) n n, .slice (some ⟨h, 0, none⟩) 3 3]).run Tryd.prog W = .ok (.slice (some ⟨g, 0, none⟩) (n + 3) cap) w') ∧ W.heap.size ≤ g ∧ Keeps W w' (fun _ => False) ∧
      ∀ j u, ((ws ++ [(⟨#[]⟩ : ByteArray), ⟨#[]⟩, ⟨#[]⟩]).map Value.string)[j]? = some u → w'.cell? ⟨g, j, none⟩ = some u := by
  obtain ⟨i, hi1, hi2, hi3, hi4⟩ := info_parts Tryd.infoS
  obtain ⟨v', w', hr, hown, hgr⟩ := run_append_arg_grows (P := Tryd.prog) W 34 0 9 i (.string ⟨#[]⟩) 1 16 Tryd.underlying34 hi1 hi2 hi3 hi4 rfl (by omega) b n n (ws.map Value.string) (by simp [hl]) hc ⟨h, 0, none⟩ 3 3 [.string ⟨#[]⟩, .string ⟨#[]⟩, .string ⟨#[]⟩] (by simp) (fun j u hj => by
    rw [addr_add, Nat.zero_add]
    simp only [World.cell?, hu]
    simpa using hj) (by omega) (by simp only [maxLen]; omega) (by omega)
  rcases hown.2 with h2 | ⟨g, cap, cur, e1, e2, e3, r⟩
  · exfalso
    obtain ⟨-, h2⟩ := h2
    omega
  · refine ⟨g, cap, w', fun ty => by rw [← e1]; exact hr, e2, (Keeps.ofGrown hgr).mono (fun _ _ e => by cases e), fun j u hj => ?_⟩
    subst e1
    have hj2 : j < n + 3 := by
      have := (List.getElem?_eq_some_iff.1 hj).1
      simpa [hl] using this
    have h9 := hown.cellAt j (by omega)
    rw [h9]
    simpa using hj
end Go.Proofs.YtomlmbhbadicbaaDoor
