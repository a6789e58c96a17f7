import Derived.Test.YtmfmiaiijepgdaaAW3
namespace Go.Proofs.Ytmfmiaiijepgdaa
open Go.RowKit

/-- A new block of n bytes is live. -/
def AD.took (d : AD) (n : Nat) : AD := (d.added n).entered d.bs.length n
theorem AD.took_bs (d : AD) (n : Nat) : (d.took n).bs = d.bs ++ zeros n := rfl
theorem AD.took_L (d : AD) (n : Nat) : (d.took n).L = d.L ++ [(d.bs.length, n)] := rfl
theorem AD.took_used (d : AD) (n : Nat) : (d.took n).used = d.used + n := rfl
theorem AD.took_lv (d : AD) (n : Nat) : (d.took n).lv = upd d.lv (d.bs.length : Nat) (some (n : Int)) := rfl
theorem AD.took_fm (d : AD) (n : Nat) : (d.took n).fm = d.fm := rfl
theorem AD.took_limit (d : AD) (n : Nat) : (d.took n).limit = d.limit := rfl
theorem AD.Fine.took {d : AD} (F : d.Fine) {n : Nat} (h0 : 0 < n) (h1 : d.bs.length + n ≤ 134217728) (h2 : d.used + n ≤ d.limit) : (d.took n).Fine := by
  refine ⟨?_, ?_, ?_, F.lim, h2⟩
  · rw [AD.took_bs, AD.took_L, List.length_append, zeros_length]
    exact tiles_snoc F.tiles n h0
  · intro x s hs
    rw [AD.took_lv] at hs
    by_cases hx : x = (d.bs.length : Nat)
    · subst hx
      rw [upd_same] at hs
      cases hs
      exact ⟨d.bs.length, n, rfl, rfl, by rw [AD.took_L]; simp⟩
    · rw [upd_other _ _ _ _ hx] at hs
      obtain ⟨o, m, e1, e2, hm⟩ := F.live x s hs
      exact ⟨o, m, e1, e2, by rw [AD.took_L]; exact List.mem_append_left _ hm⟩
  · rw [AD.took_bs, List.length_append, zeros_length]
    exact h1

def TakePost (w : World) (p : Nat) (F : Nat → Prop) (o : Nat) (d' : AD) (e : Ending) (w' : World) : Prop := e = .returned (.int .i64 (o : Int)) ∧ Turned w w' p F d'

set_option maxHeartbeats 1000000 in
theorem take_new {w : World} {p : Nat} {F : Nat → Prop} {d : AD} (h : Arena w p F d) (hF : d.Fine) (n : Nat) (hn : d.bs.length + n ≤ 134217728) (hf : d.fm (n : Int) = none) :
    Calls Try.prog 35 #[.pointer (some ⟨p, 0, none⟩), .int .i64 (n : Int)] w fun e w' => TakePost w p F d.bs.length (d.took n) e w' := by
  obtain ⟨c, h, hfo⟩ := h
  have hL : d.L.length ≤ 134217728 := by have := tiles_length hF.tiles; have := hF.most; omega
  have hu : d.used ≤ 134217728 := by have := hF.use; have := hF.lim; omega
  have hA := again_none h n (by omega) hf
  have hadd := add_any h n hn hL
  go_enter Try.func35, Try.ntmps35
  go_wp2_with fail
  refine hA.mono ?_
  rintro e w1 ⟨rfl, rfl⟩
  clear hA
  go_wp2_with fail
  refine hadd.mono ?_
  rintro e w2 ⟨g, v, sp, rfl, h2, k2, hg, hv⟩
  clear hadd
  have hE := enter_any h2 d.bs.length n (by omega) (by omega) (by simpa [AD.added] using hu) (by have := h.hnl; simp; omega)
  go_wp2_with fail
  refine hE.mono ?_
  rintro e w3 ⟨rfl, _, k3, hp3, hl3⟩
  clear hE
  have hfin : TakePost w1 p F d.bs.length (d.took n) (.returned (.int .i64 (d.bs.length : Int))) w3 := by
    have kF : Keeps w1 w3 F := (k2.mono (fun i _ e => hfo i e)).trans k3 (fun i hi e => by
      rcases e with rfl | rfl
      · exact hfo _ (Or.inl rfl)
      · exact hfo _ (Or.inr (Or.inr (Or.inr (Or.inl rfl)))))
    refine ⟨rfl, ⟨{ c with g := g, v := v, sp := sp, nl := c.nl + 1 }, ⟨?_, ?_, ?_, hl3, ?_, h.hlf, ?_⟩, ?_⟩, kF⟩
    · exact hp3
    · exact h2.mem.keeps k3 (fun e => by rcases e with e | e; exact h2.p_b e.symm; exact h2.bl_b e.symm) (fun e => by rcases e with e | e; exact h2.p_g e.symm; exact h2.bl_g e.symm)
    · exact ownsRow_keeps h2.beg k3 (fun k hk e => by rcases e with e | e; exact h2.p_v hk e.symm; exact h2.bl_v hk e.symm)
    · exact h2.free.keeps k3 (fun e => by rcases e with e | e; exact h2.p_bf e.symm; exact h2.hlf e.symm)
    · have := h.hnl
      simp [AD.took, AD.entered, AD.added]
      omega
    · intro k hk
      rcases hk with e | e | e | e | e | e
      · exact Or.inl (hfo k (Or.inl e))
      · exact Or.inl (hfo k (Or.inr (Or.inl e)))
      · have e' : k = g := e
        rcases hg with hg | hg
        · exact Or.inl (hfo k (Or.inr (Or.inr (Or.inl (e'.trans hg)))))
        · exact Or.inr (by omega)
      · exact Or.inl (hfo k (Or.inr (Or.inr (Or.inr (Or.inl e)))))
      · exact Or.inl (hfo k (Or.inr (Or.inr (Or.inr (Or.inr (Or.inl e))))))
      · have e' : v.ownBlock = some k := e
        rcases hv with hv | ⟨k', hv, hk'⟩
        · exact Or.inl (hfo k (Or.inr (Or.inr (Or.inr (Or.inr (Or.inr (hv ▸ e')))))))
        · rw [hv] at e'
          cases e'
          exact Or.inr hk'
  clear h h2 k2 k3 hp3 hl3 hg hv hfo hF hf
  go_wp2_with fail
  go_ret
  exact hfin
end Go.Proofs.Ytmfmiaiijepgdaa
