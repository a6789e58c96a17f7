/-
  TB6 beside the pointer's box. (made by gentc.py)
-/
import Derived.Test.YtmdnknbolgedgaaGreatDoorUn20
namespace Go.Proofs.YtmdnknbolgedgaaGreatDoor
open Go.RowKit Go.Shelf Ly Ct
set_option linter.unusedVariables false
set_option linter.unusedSectionVars false
namespace Bx
class BoxNo where
  no : Nat
variable [BoxNo]
/-- The Bench at b, its table (f: the header's words, c: its cells), its list of lives in a row of its own. -/
structure BM (w wr : World) (b p : Nat) (l : Lay) (G : Nat) (fs ts hs lv : Value) (L : List LifeD) (ad : Nat) (d : AD) (f : Nat → Int) (c : Nat → GC) : Prop where
  blk : wr.heap[b]? = some (.cells (benC p l 16 fs ((8 * G : Nat) : Int) hs ts lv (ad : Int)) 57)
  row : wr.ownsRow w.heap.size 75 5 lv L.length (lifeC L)
  base : w.heap.size ≤ b
  own : Own w wr p (fun q => q = b ∨ lv.ownBlock = some q ∨ q = BoxNo.no) d
  fine : d.Fine
  small : d.small
  tab : TabD d l 16 80 G f c
  f4 : f 4 = ((8 * G : Nat) : Int)
  f7 : f 7 = ((80 : Nat) : Int)
  bx : wr.heap[BoxNo.no]? = some (.cells #[.pointer (some ⟨b, 0, none⟩)] 46)
  bl : w.heap.size ≤ BoxNo.no
section
variable {w wr wr' : World} {b p : Nat} {l : Lay} {G : Nat} {fs ts hs lv : Value} {L : List LifeD} {ad : Nat} {d : AD} {f : Nat → Int} {c : Nat → GC}
theorem BM.lt (h : BM w wr b p l G fs ts hs lv L ad d f c) : ∀ q, q = b ∨ lv.ownBlock = some q ∨ q = BoxNo.no → q < wr.heap.size := fun q hq => hq.elim (fun e => by rw [e]; exact heap_lt h.blk) (fun e => e.elim (fun e => (h.row.lt q e).2) (fun e => by rw [e]; exact heap_lt h.bx))
theorem BM.low (h : BM w wr b p l G fs ts hs lv L ad d f c) : ∀ q, q = b ∨ lv.ownBlock = some q ∨ q = BoxNo.no → w.heap.size ≤ q := fun q hq => hq.elim (fun e => by rw [e]; exact h.base) (fun e => e.elim (fun e => (h.row.lt q e).1) (fun e => by rw [e]; exact h.bl))
theorem BM.ne (h : BM w wr b p l G fs ts hs lv L ad d f c) : lv.ownBlock ≠ some b := row_ne8 h.blk h.row
theorem row_nx {base n : Nat} {v u : Value} {xs : List Value} (hb : wr.heap[BoxNo.no]? = some (.cells #[u] 46)) (h : wr.ownsRow base 75 5 v n xs) : v.ownBlock ≠ some BoxNo.no := fun e => by
  rcases h.2 with ⟨rfl, -⟩ | ⟨g, cap, cur, rfl, -, hg, -⟩
  · cases e
  · have eg : g = BoxNo.no := by simpa [Value.ownBlock] using e
    rw [eg, hb] at hg
    injection Option.some.inj hg with _ h2 _
    exact absurd h2 (by decide)
theorem BM.nx (h : BM w wr b p l G fs ts hs lv L ad d f c) : lv.ownBlock ≠ some BoxNo.no := row_nx h.bx h.row
theorem BM.bne (h : BM w wr b p l G fs ts hs lv L ad d f c) : BoxNo.no ≠ b := fun e => by
  have h1 := h.bx
  rw [e, h.blk] at h1
  injection Option.some.inj h1 with _ h2 _
  exact absurd h2 (by decide)
theorem BM.keep (h : BM w wr b p l G fs ts hs lv L ad d f c) : Keeps w wr (fun _ => False) := h.own.keeps
theorem BM.stay (h : BM w wr b p l G fs ts hs lv L ad d f c) (k : Keeps wr wr' (fun _ => False)) : BM w wr' b p l G fs ts hs lv L ad d f c :=
  ⟨k.blk h.blk, row_kept8 h.row (fun q hq => k.block q (h.lt q (Or.inr (Or.inl hq))) id), h.base, h.own.stay k, h.fine, h.small, h.tab, h.f4, h.f7, k.blk h.bx, h.bl⟩
/-- Behind a call on the table. -/
theorem BM.turn (h : BM w wr b p l G fs ts hs lv L ad d f c) {f' : Nat → Int} {c' : Nat → GC} (ht : TabT wr wr' p (fun k => (w.heap.size ≤ k ∧ ¬ (k = b ∨ lv.ownBlock = some k ∨ k = BoxNo.no)) ∧ k < wr.heap.size) d l 16 80 G f' c') (h4 : f' 4 = ((8 * G : Nat) : Int)) (h7 : f' 7 = ((80 : Nat) : Int)) : ∃ d', BM w wr' b p l G fs ts hs lv L ad d' f' c' := by
  obtain ⟨d', hTu, hAl, hD'⟩ := ht
  exact ⟨d', hTu.2.blkS h.blk (fun e => e.1.2 (Or.inl rfl)), row_kept8 h.row (fun q hq => hTu.2.block q (h.lt q (Or.inr (Or.inl hq))) (fun e => e.1.2 (Or.inr (Or.inl hq)))), h.base, h.own.turn hTu h.lt, hAl.fine h.fine, hAl.small h.small, hD', h4, h7, hTu.2.blkS h.bx (fun e => e.1.2 (Or.inr (Or.inr rfl))), h.bl⟩
theorem BM.lives (h : BM w wr b p l G fs ts hs lv L ad d f c) : ∃ a cap, lv = .slice a L.length cap ∧ LivesAt wr a L ∧ L.length ≤ cap := row_lives h.row
/-- The list is another row: v' lies in blocks of the list's own or new ones. -/
theorem BM.put25 (h : BM w wr b p l G fs ts hs lv L ad d f c) (k : Keeps wr wr' (fun q => lv.ownBlock = some q)) {v' : Value} {M : List LifeD} (hr : wr'.ownsRow w.heap.size 75 5 v' M.length (lifeC M)) (hn : ∀ q, v'.ownBlock = some q → lv.ownBlock = some q ∨ wr.heap.size ≤ q) :
    BM w (wr'.setCell ⟨b, 25, none⟩ v') b p l G fs ts hs v' M ad d f c := by
  have hb' : wr'.heap[b]? = some (.cells (benC p l 16 fs ((8 * G : Nat) : Int) hs ts lv (ad : Int)) 57) := k.blkS h.blk h.ne
  have hne : v'.ownBlock ≠ some b := row_ne8 hb' hr
  have ks : Keeps wr' (wr'.setCell ⟨b, 25, none⟩ v') (fun q => q = b) := Keeps.setCell (S := fun q => q = b) (Keeps.refl wr' _) ⟨b, 25, none⟩ (fun _ => rfl) v'
  have kk : Keeps wr (wr'.setCell ⟨b, 25, none⟩ v') (fun q => q = b ∨ lv.ownBlock = some q ∨ q = BoxNo.no) := (k.mono (fun _ _ e => Or.inr (Or.inl e))).trans ks (fun _ _ e => Or.inl e)
  refine ⟨set_one' hb' 25 v' (by simp [benC]), row_kept8 hr (fun q hq => ks.block q (hr.lt q hq).2 (fun e => hne (by rw [← e]; exact hq))), h.base, h.own.swap8 kk h.low (fun i e => ?_), h.fine, h.small, h.tab, h.f4, h.f7, ks.blkS (k.blkS h.bx h.nx) (fun e => h.bne e), h.bl⟩
  rcases e with e | e | e
  · exact Or.inl (Or.inl e)
  · exact (hn i e).imp (fun z => Or.inr (Or.inl z)) id
  · exact Or.inl (Or.inr (Or.inr e))
theorem BM.put26 (h : BM w wr b p l G fs ts hs lv L ad d f c) (x : Nat) : BM w (wr.setCell ⟨b, 26, none⟩ (.int .i64 (x : Int))) b p l G fs ts hs lv L x d f c := by
  have ks : Keeps wr (wr.setCell ⟨b, 26, none⟩ (.int .i64 (x : Int))) (fun q => q = b) := Keeps.setCell (S := fun q => q = b) (Keeps.refl wr _) ⟨b, 26, none⟩ (fun _ => rfl) _
  exact ⟨set_one' h.blk 26 (.int .i64 (x : Int)) (by simp [benC]), row_kept8 h.row (fun q hq => ks.block q (h.lt q (Or.inr (Or.inl hq))) (fun e => h.ne (by rw [← e]; exact hq))), h.base, h.own.swap8 (ks.mono (fun _ _ e => Or.inl e)) h.low (fun i e => Or.inl e), h.fine, h.small, h.tab, h.f4, h.f7, ks.blkS h.bx (fun e => h.bne e), h.bl⟩
/-- The elem of a life is replaced. -/
theorem BM.putE (h : BM w wr b p l G fs ts hs lv L ad d f c) {g o cap i : Nat} (hv : lv = .slice (some ⟨g, o, none⟩) L.length cap) (hi : i < L.length) (e : ByteArray) : o = 0 ∧ BM w (wr.setCell ⟨g, i * 5 + 1, none⟩ (.string e)) b p l G fs ts hs lv (L.set i { L[i] with elem := e }) ad d f c := by
  have ho : o = 0 := by
    rcases h.row.2 with ⟨q, -⟩ | ⟨g', cap', cur, q, -⟩
    · rw [hv] at q; cases q
    · rw [hv] at q; cases q; rfl
  subst ho
  refine ⟨rfl, ?_⟩
  subst hv
  obtain ⟨q1, q2⟩ := h.row.stored (i * 5 + 1) (.string e)
  have ks := Keeps.ofGrown q2
  refine ⟨ks.blkS h.blk (fun x => h.ne (by simpa [Value.ownBlock] using x)), ?_, h.base, h.own.swap8 (ks.mono (fun q _ x => Or.inr (Or.inl (by simpa [Value.ownBlock] using x)))) h.low (fun i e => Or.inl e), h.fine, h.small, h.tab, h.f4, h.f7, ks.blkS h.bx (fun x => h.nx (by simpa [Value.ownBlock] using x)), h.bl⟩
  rw [List.length_set, lifeC_set L i hi e]
  exact q1
end
end Bx
end Go.Proofs.YtmdnknbolgedgaaGreatDoor
