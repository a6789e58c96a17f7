/-
  TB8 beside the pointer's box. (made by gentc.py)
-/
import Derived.Test.YtmdnknbolgedgaaGreatDoorHTC6
import Derived.Maps.AppendAt
namespace Go.Proofs.YtmdnknbolgedgaaGreatDoor
open Go.RowKit Go.Shelf Ly Ct
set_option linter.unusedVariables false
set_option linter.unusedSectionVars false
namespace Bx
variable [BoxNo]
section
variable {w wr wr' : World} {b p : Nat} {l : Lay} {G : Nat} {fs ts hs lv : Value} {L : List LifeD} {ad : Nat} {d : AD} {f : Nat → Int} {c : Nat → GC}
/-- The two parts joined: the list without its i-th. -/
theorem BM.without (h : BM w wr b p l G fs ts hs lv L ad d f c) {a : Option Addr} {cap : Nat} (hv : lv = .slice a L.length cap) {i : Nat} (hi : i < L.length) (hL : L.length ≤ 1000000) (c1 c2 : Nat) :
    ∃ g v1 w2, a = some ⟨g, 0, none⟩ ∧ (∀ ty, (Builtin.append_ #[55, 55] ty #[.slice none 0 0, .slice (some ⟨g, 0, none⟩) i c1]).run Tryz.prog wr = .ok v1 w2) ∧ Keeps wr w2 (fun _ => False) ∧
      ∃ v2 w3, (∀ ty, (Builtin.append_ #[55, 55] ty #[v1, .slice (if cap = i + 1 then some ⟨g, 0, none⟩ else some ⟨g, (i + 1) * 5, none⟩) (L.length - (i + 1)) c2]).run Tryz.prog w2 = .ok v2 w3) ∧ Keeps wr w3 (fun _ => False) ∧ BM w (w3.setCell ⟨b, 25, none⟩ v2) b p l G fs ts hs v2 (L.take i ++ L.drop (i + 1)) ad d f c := by
  have hsz := h.own.keeps.size
  rcases h.row.2 with ⟨e, e0⟩ | ⟨g, cap', cur, e, hb, hg, hlc, _⟩
  · omega
  rw [e] at hv
  cases hv
  have hsrc : ∀ q u, (lifeC L)[q]? = some u → wr.cell? ⟨g, q, none⟩ = some u := fun q u hq => by
    have := h.row.cells (g := g) (by rw [e]; rfl) _ _ hq
    rw [addr_add, Nat.zero_add] at this
    exact this
  have hnil : wr.ownsRow w.heap.size 75 5 (.slice none 0 0) ([] : List LifeD).length (lifeC []) := ⟨rfl, Or.inl ⟨rfl, rfl⟩⟩
  obtain ⟨v1, w2, hr1, ho1, k1, hl1⟩ := append_lives hnil hsz (g := g) (j := 0) (m := i) (c := c1) (by omega) (by omega) (by simp) hsrc
  have k1' : Keeps wr w2 (fun _ => False) := k1.mono (fun _ _ e => by cases e)
  have hsrc2 : ∀ q u, (lifeC L)[q]? = some u → w2.cell? ⟨g, q, none⟩ = some u := fun q u hq => keeps_cell k1' id (hsrc q u hq)
  have e1 : [] ++ (L.drop 0).take i = L.take i := by simp
  rw [e1] at ho1
  have hti : (L.take i).length = i := by rw [List.length_take]; omega
  have ho1' : w2.ownsRow w.heap.size 75 5 v1 (L.take i).length (lifeC (L.take i)) := by
    rw [hti]
    simpa using ho1
  have hx : ∃ v2 w3, (∀ ty, (Builtin.append_ #[55, 55] ty #[v1, .slice (if cap = i + 1 then some ⟨g, 0, none⟩ else some ⟨g, (i + 1) * 5, none⟩) (L.length - (i + 1)) c2]).run Tryz.prog w2 = .ok v2 w3) ∧ w3.ownsRow w.heap.size 75 5 v2 (i + (L.length - (i + 1))) (lifeC (L.take i ++ L.drop (i + 1))) ∧ Keeps w2 w3 (fun k => v1.ownBlock = some k) ∧ (v2.ownBlock = v1.ownBlock ∨ v2.ownBlock = some w2.heap.size) := by
    by_cases hcap : cap = i + 1
    · rw [if_pos hcap]
      have hz : L.length - (i + 1) = 0 := by omega
      rw [hz]
      obtain ⟨v2, w3, hr2, ho2, k2, hl2⟩ := append_lives ho1' (Nat.le_trans hsz k1'.size) (g := g) (j := 0) (m := 0) (c := c2) (by omega) (by omega) (by omega) hsrc2
      refine ⟨v2, w3, fun ty => by simpa using hr2 ty, ?_, k2, hl2⟩
      have e2 : L.take i ++ (L.drop 0).take 0 = L.take i ++ L.drop (i + 1) := by
        have hd : L.drop (i + 1) = [] := List.drop_eq_nil_of_le (by omega)
        rw [hd]
        simp
      rw [e2, hti] at ho2
      exact ho2
    · rw [if_neg hcap]
      obtain ⟨v2, w3, hr2, ho2, k2, hl2⟩ := append_lives ho1' (Nat.le_trans hsz k1'.size) (g := g) (j := i + 1) (m := L.length - (i + 1)) (c := c2) (by omega) (by omega) (by omega) hsrc2
      refine ⟨v2, w3, hr2, ?_, k2, hl2⟩
      have e2 : L.take i ++ (L.drop (i + 1)).take (L.length - (i + 1)) = L.take i ++ L.drop (i + 1) := by
        rw [List.take_of_length_le (l := L.drop (i + 1)) (by rw [List.length_drop]; omega)]
      rw [e2, hti] at ho2
      exact ho2
  obtain ⟨v2, w3, hr2, ho2, k2, hl2⟩ := hx
  have hn1 : ∀ k, v1.ownBlock = some k → wr.heap.size ≤ k := fun k hk => by
    rcases hl1 with q | q
    · rw [q] at hk
      cases hk
    · rw [q] at hk
      cases hk
      exact Nat.le_refl _
  have hn2 : ∀ k, v2.ownBlock = some k → wr.heap.size ≤ k := fun k hk => by
    rcases hl2 with q | q
    · rw [q] at hk
      exact hn1 k hk
    · rw [q] at hk
      cases hk
      exact k1'.size
  have k3 : Keeps wr w3 (fun _ => False) := k1'.trans k2 (fun i hi e => by have := hn1 i e; omega)
  refine ⟨g, v1, w2, rfl, fun ty => by simpa using hr1 ty, k1', v2, w3, hr2, k3, h.put25 (k3.mono (fun _ _ e => e.elim)) ?_ (fun q hq => Or.inr (hn2 q hq))⟩
  have hlen : (L.take i ++ L.drop (i + 1)).length = i + (L.length - (i + 1)) := by rw [List.length_append, hti, List.length_drop]
  rw [hlen]
  exact ho2
/-- One life more. -/
theorem BM.more (h : BM w wr b p l G fs ts hs lv L ad d f c) (x : LifeD) (hL : L.length ≤ 1000000) :
    ∃ g cap w2, (∀ ty, (Builtin.append_ #[55, 55] ty #[lv, .slice (some ⟨wr.heap.size, 0, none⟩) 1 1]).run Tryz.prog (wr.alloc (.cells #[.string x.key, .string x.elem, .int .u64 (x.hash : Int), .int .i64 x.birth, .int .i64 x.slot] 75)) = .ok (.slice (some ⟨g, 0, none⟩) (L.length + 1) cap) w2) ∧
      w2.heap[b]? = some (.cells (benC p l 16 fs ((8 * G : Nat) : Int) hs ts lv (ad : Int)) 57) ∧ BM w (w2.setCell ⟨b, 25, none⟩ (.slice (some ⟨g, 0, none⟩) (L.length + 1) cap)) b p l G fs ts hs (.slice (some ⟨g, 0, none⟩) (L.length + 1) cap) (L ++ [x]) ad d f c := by
  have hsz := h.own.keeps.size
  obtain ⟨i, h1, h2, h3, h4⟩ := info_parts info_life
  have hrow := h.row.alloc (.cells #[.string x.key, .string x.elem, .int .u64 (x.hash : Int), .int .i64 x.birth, .int .i64 x.slot] 75)
  have hnew := heap_alloc_new wr (.cells #[.string x.key, .string x.elem, .int .u64 (x.hash : Int), .int .i64 x.birth, .int .i64 x.slot] 75)
  obtain ⟨f0, f1, f2, f3, f4, -⟩ := five_cells hnew
  obtain ⟨g, cap, w2, hr, hown, hgr, hloc, hlt⟩ := run_append_lies (P := Tryz.prog) (wr.alloc (.cells #[.string x.key, .string x.elem, .int .u64 (x.hash : Int), .int .i64 x.birth, .int .i64 x.slot] 75)) 55 0 w.heap.size 75 i _ 5 56 Tryz.underlying55 h1 h2 h3 h4 rfl (by decide) lv L.length (lifeC L) hrow ⟨wr.heap.size, 0, none⟩ 1 1 (lifeC [x]) rfl
    (fun j u hu => by
      rw [lifeC_one] at hu
      rw [addr_add, Nat.zero_add]
      match j, hu with
      | 0, hu => simp at hu; subst hu; exact f0
      | 1, hu => simp at hu; subst hu; exact f1
      | 2, hu => simp at hu; subst hu; exact f2
      | 3, hu => simp at hu; subst hu; exact f3
      | 4, hu => simp at hu; subst hu; exact f4
      | j + 5, hu => simp at hu) lifeC_one' (by omega) (by simp only [maxLen]; omega) (by omega) (by simp; omega) (wr.heap.size + 1) (by simp)
  have k1 : Keeps wr w2 (fun k => lv.ownBlock = some k) := ((Keeps.refl wr _).alloc _).trans (Keeps.ofGrown hgr) (fun _ _ e => e)
  refine ⟨g, cap, w2, fun ty => hr, k1.blkS h.blk h.ne, h.put25 k1 ?_ (fun q hq => ?_)⟩
  · rw [List.length_append, List.length_singleton, lifeC_append]
    exact hown
  · have e' : g = q := by simpa [Value.ownBlock] using hq
    subst e'
    rcases hloc with e1 | e1
    · exact Or.inl e1
    · exact Or.inr (by omega)
end
end Bx
end Go.Proofs.YtmdnknbolgedgaaGreatDoor
