import Derived.Test.YtmfmiaiijepgdaaAW2
namespace Go.Proofs.Ytmfmiaiijepgdaa
open Go.RowKit

set_option maxHeartbeats 400000 in
theorem again_none {w : World} {p : Nat} {c : AR} {d : AD} (h : ArenaAt w p c d) (n : Nat) (hn : n ≤ 134217728) (hf : d.fm (n : Int) = none) :
    Calls Try.prog 53 #[.pointer (some ⟨p, 0, none⟩), .int .i64 (n : Int)] w fun e w' => e = .returned (.tuple #[.int .i64 0, .bool false]) ∧ w' = w := by
  have c5 := h.cell5
  have hl := look_ptr (w := w) Try.underlying3 Try.underlying78 (Try.zeroP w) h.free (x := (n : Int)) (fitsI_mk (by omega) (by omega))
  rw [hf] at hl
  simp only [Option.map_none] at hl
  clear h
  go_enter Try.func53, Try.ntmps53
  go_wp2
  go_ret2
  exact ⟨rfl, rfl⟩

/-- A block more at the end. -/
def AD.added (d : AD) (n : Nat) : AD := { d with bs := d.bs ++ zeros n, L := d.L ++ [(d.bs.length, n)] }
def AddPost (w : World) (p : Nat) (c : AR) (d : AD) (n : Nat) (e : Ending) (w' : World) : Prop :=
  ∃ g v sp, e = .returned (.int .i64 (d.bs.length : Int)) ∧ ArenaAt w' p { c with g := g, v := v, sp := sp } (d.added n) ∧ Keeps w w' (c.foot p) ∧ (g = c.g ∨ w.heap.size ≤ g) ∧ (v.ownBlock = c.v.ownBlock ∨ ∃ k, v.ownBlock = some k ∧ w.heap.size ≤ k)

theorem AD.begins_added (d : AD) (n : Nat) : (d.added n).begins = d.begins ++ [(d.bs.length : Int)] := by simp [AD.begins, AD.added]

set_option maxHeartbeats 1000000 in
theorem add_any {w : World} {p : Nat} {c : AR} {d : AD} (h : ArenaAt w p c d) (n : Nat) (hn : d.bs.length + n ≤ 134217728) (hL : d.L.length ≤ 134217728) :
    Calls Try.prog 54 #[.pointer (some ⟨p, 0, none⟩), .int .i64 (n : Int)] w fun e w' => AddPost w p c d n e w' := by
  have hE := end_any h
  have c2 := h.cell2
  have hG := grow_yes w c.b c.g d.bs c.sp h.mem (d.bs.length + n) (by omega) hn
  rw [Nat.add_sub_cancel_left] at hG
  go_enter Try.func54, Try.ntmps54
  go_wp2_with fail
  refine hE.mono ?_
  rintro e w1 ⟨rfl, rfl⟩
  clear hE
  go_wp2_with fail
  refine hG.mono ?_
  rintro e w2 ⟨g2, sp2, rfl, hg2, m2, k2⟩
  clear hG c2
  have hlt2 : ∀ k, c.foot p k → k < w2.heap.size := fun k hk => Nat.lt_of_lt_of_le (h.foot_lt hk) k2.size
  have hp2 : w2.heap[p]? = w1.heap[p]? := k2.block p (heap_lt h.hp) (fun e => by rcases e with e | e; exact h.p_b e; exact h.p_g e)
  have beg2 : w2.ownsRow 0 3 1 c.v d.L.length (d.begins.map cellI) := ownsRow_keeps h.beg k2 (fun g hg e => by rcases e with e | e; exact h.b_v (e ▸ hg) rfl; exact h.g_v (e ▸ hg) rfl)
  have k3 : Keeps w2 (w2.alloc (.cells #[cellI (d.bs.length : Int)] 3)) (fun _ => False) := (Keeps.refl _ _).alloc _
  have beg3 := ownsRow_keeps beg2 k3 (fun _ _ e => e)
  obtain ⟨g4, cap4, w4, hap, beg4, k4, hloc⟩ := append_one (P := Try.prog) 34 3 (.int .i64 0) 8 Try.underlying34 Try.infoI rfl beg3 (heap_alloc_new w2 (.cells #[cellI (d.bs.length : Int)] 3)) rfl (by omega) (by unfold maxLen; omega) (Nat.zero_le _)
  have hp4 : w4.heap[p]? = w1.heap[p]? := by
    rw [k4.block p (by have := hlt2 p (Or.inl rfl); simp; omega) (fun e => h.p_v e rfl), k3.block p (hlt2 p (Or.inl rfl)) id, hp2]
  have c2 : w2.cell? ⟨p, 3, none⟩ = some c.v := (World.cell?_of_block (w := w1) hp2).trans h.cell3
  have hp4' := hp4.trans h.hp
  have f4 : w4.frozen? ⟨p, 3, none⟩ = false := by simp [World.frozen?, hp4']
  have c4 : w4.cell? ⟨p, 3, none⟩ = some c.v := by simp [World.cell?, hp4']
  have hfin : AddPost w1 p c d n (.returned (.int .i64 (d.bs.length : Int))) (w4.setCell ⟨p, 3, none⟩ (.slice (some ⟨g4, 0, none⟩) (d.L.length + 1) cap4)) := by
    have hlt4 := heap_lt hp4'
    have hv4 := (Array.getElem?_eq_some_iff.1 hp4').2
    have kS : Keeps w4 (w4.setCell ⟨p, 3, none⟩ (.slice (some ⟨g4, 0, none⟩) (d.L.length + 1) cap4)) (fun k => k = p) := (Keeps.refl w4 (fun k => k = p)).setCell ⟨p, 3, none⟩ (fun _ => rfl) _
    have hgv : ∀ k, c.v.ownBlock = some k → k ≠ g2 := fun k hk e => by
      subst e
      rcases hg2 with e | e
      · exact h.g_v hk e.symm
      · have := h.foot_lt (k := k) (Or.inr (Or.inr (Or.inr (Or.inr (Or.inr hk)))))
        omega
    have hg4p : g4 ≠ p := fun e => by
      subst e
      rcases hloc with e | e
      · exact h.p_v e rfl
      · have := hlt2 g4 (Or.inl rfl)
        simp at e
        omega
    refine ⟨g2, .slice (some ⟨g4, 0, none⟩) (d.L.length + 1) cap4, sp2, rfl, ⟨?_, ?_, ?_, ?_, ?_, h.hlf, by have := h.hnl; simp [AD.added]; omega⟩, ?_, hg2, ?_⟩
    · simp only [World.setCell, Array.getElem?_modify]
      simp [hlt4, hv4, AD.added]
    · refine (((m2.keeps k3 id id).keeps k4 (fun e => h.b_v e rfl) (fun e => hgv _ e rfl)).keeps kS h.p_b.symm ?_)
      intro e
      rcases hg2 with e2 | e2
      · exact h.p_g (e.symm.trans e2)
      · have := heap_lt h.hp
        omega
    · rw [AD.begins_added, List.map_append]
      have := ownsRow_keeps beg4 kS (fun k hk e => by
        simp [Value.ownBlock] at hk
        exact hg4p (hk.trans e))
      simpa [AD.added] using this
    · refine (((h.live.keeps k2 (fun e => ?_)).keeps k3 id).keeps k4 (fun e => h.bl_v e rfl)).keeps kS h.p_bl.symm
      rcases e with e | e
      · exact h.bl_b e
      · exact h.bl_g e
    · refine (((h.free.keeps k2 (fun e => ?_)).keeps k3 id).keeps k4 (fun e => h.bf_v e rfl)).keeps kS h.p_bf.symm
      rcases e with e | e
      · exact h.bf_b e
      · exact h.bf_g e
    · exact (((k2.mono (S1 := c.foot p) (fun i _ e => by rcases e with e | e; exact Or.inr (Or.inl e); exact Or.inr (Or.inr (Or.inl e)))).trans k3 (fun _ _ e => e.elim)).trans k4 (fun i _ e => Or.inr (Or.inr (Or.inr (Or.inr (Or.inr e)))))).trans kS (fun i _ e => Or.inl e)
    · rcases hloc with e | e
      · exact Or.inl (by rw [e]; rfl)
      · refine Or.inr ⟨g4, rfl, ?_⟩
        have := k2.size
        simp at e
        omega
  have hbl : d.bs.length ≤ 134217728 := by omega
  clear h m2 k2 k3 k4 hp2 hp4 hp4' beg2 beg3 beg4 hlt2 hloc hg2 hn
  unfold cellI at hap
  go_wp2_with (first | (at_builtin; have _t := hap; refine append_run _ rfl (.tmp 20) (.tmp 22) 34 rfl rfl rfl hap ?_; clear hap))
  go_ret
  exact hfin
end Go.Proofs.Ytmfmiaiijepgdaa
