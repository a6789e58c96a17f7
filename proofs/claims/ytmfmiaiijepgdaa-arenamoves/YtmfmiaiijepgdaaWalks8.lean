import Derived.Test.YtmfmiaiijepgdaaWalks7
import Derived.Test.YtmfmiaiijepgdaaBase4
namespace Go.Proofs.Ytmfmiaiijepgdaa
open Go.RowKit

def roomOf (s o : Nat) : Nat := min (max s (2 * o)) 134217728
theorem roomOf_ge {s o : Nat} (h : s ≤ 134217728) : s ≤ roomOf s o ∧ roomOf s o ≤ 134217728 := by unfold roomOf; omega

set_option maxHeartbeats 400000 in
theorem room_any (w : World) (s o : Nat) (h1 : s ≤ 134217728) (h2 : o ≤ 134217728) :
    Calls Try.prog 90 #[.int .i64 (s : Int), .int .i64 (o : Int)] w fun e w' => e = .returned (.int .i64 (roomOf s o : Int)) ∧ w' = w := by
  go_enter Try.func90, Try.ntmps90
  go_wp2
  all_goals go_ret
  all_goals refine ⟨congrArg (fun z => Ending.returned (Value.int .i64 z)) ?_, rfl⟩
  all_goals unfold roomOf
  all_goals omega

set_option maxHeartbeats 400000 in
theorem move_any (w : World) (b g : Nat) (bs sp : List UInt8) (m : MemAt 98 5 w b g bs sp) (room : Nat) (h1 : bs.length ≤ room) (h2 : room ≤ 134217728) :
    Calls Try.prog 89 #[.pointer (some ⟨b, 0, none⟩), .int .i64 (room : Int)] w fun e w' => MovePost 98 5 w b bs room e w' := by
  have hc := m.cell
  have hmk := run_make_room (P := Try.prog) w 91 5 Try.underlying91 Try.infoE bs.length room h1 h2
  have m1 : MemAt 98 5 (w.alloc (.cells (rowOf (zeros room)) 5)) b g bs sp := m.keeps ((Keeps.refl _ (fun _ => False)).alloc _) id id
  have hc1 := m1.cell
  obtain ⟨w2, hcp, k2, hg2⟩ := move_copy (P := Try.prog) 91 91 5 Try.underlying91 Try.infoE m h1
  have m2 := m.keeps k2 id id
  have hc2 := m2.cell
  have hf2 := m2.frozen
  have hmv := m.moved k2 hg2 (Nat.le_refl _) h1 h2
  clear m m1 m2 k2 hg2
  go_enter Try.func89, Try.ntmps89
  go_wp2
  go_end0
  exact ⟨_, Nat.le_refl _, rfl, hmv.1, hmv.2⟩

def GrowPost (w : World) (b g : Nat) (bs : List UInt8) (e : Ending) (w' : World) : Prop :=
  ∃ g' sp', e = .returned (.int .i64 0) ∧ (g' = g ∨ w.heap.size ≤ g') ∧ MemAt 98 5 w' b g' bs sp' ∧ Keeps w w' (fun i => i = b ∨ i = g)

set_option maxHeartbeats 400000 in
theorem grow_no (w : World) (b g : Nat) (bs sp : List UInt8) (m : MemAt 98 5 w b g bs sp) (s : Int) (h : s < bs.length ∨ 134217728 < s) :
    Calls Try.prog 73 #[.pointer (some ⟨b, 0, none⟩), .int .i64 s] w fun e w' => e = .returned (.int .i64 12) ∧ w' = w := by
  have hc := m.cell
  have hl : bs.length + sp.length ≤ 134217728 := m.hmax
  clear m
  rcases h with h | h
  · go_enter Try.func73, Try.ntmps73
    go_wp2
    go_ret
    exact ⟨rfl, rfl⟩
  · have h0 : ¬ s < (bs.length : Int) := by omega
    go_enter Try.func73, Try.ntmps73
    go_wp2
    go_ret
    exact ⟨rfl, rfl⟩

set_option maxHeartbeats 1000000 in
theorem grow_fit (w : World) (b g : Nat) (bs sp : List UInt8) (m : MemAt 98 5 w b g bs sp) (s : Nat) (h1 : bs.length ≤ s) (h2 : s ≤ bs.length + sp.length) :
    Calls Try.prog 73 #[.pointer (some ⟨b, 0, none⟩), .int .i64 (s : Int)] w fun e w' => GrowPost w b g (bs ++ zeros (s - bs.length)) e w' := by
  have hc := m.cell
  have hf := m.frozen
  have hl : bs.length + sp.length ≤ 134217728 := m.hmax
  have hhd := run_slice_head (P := Try.prog) w 91 5 Try.underlying91 Try.infoE g bs.length (bs.length + sp.length) s h2
  obtain ⟨m1, k1⟩ := m.reslice s h1 h2
  have e1 : (bs ++ sp.take (s - bs.length)).length = s := by simp; omega
  have e2 : s + (sp.drop (s - bs.length)).length = bs.length + sp.length := by simp; omega
  obtain ⟨q, hq, hv⟩ := tailVal_eq g s (bs.length + sp.length) bs.length
  have htl := run_slice_tail (P := Try.prog) (w.setCell ⟨b, 0, none⟩ (.slice (some ⟨g, 0, none⟩) s (bs.length + sp.length))) 91 5 Try.underlying91 Try.infoE g s (bs.length + sp.length) bs.length h1
  rw [hv, Nat.add_sub_cancel_left] at htl
  obtain ⟨w2, hcl, m2, k2⟩ := mem_clear (P := Try.prog) 91 5 Try.underlying91 Try.infoE m1 (l := bs.length) (q := q) (n := s - bs.length) (c := sp.length) (by rw [e1]; omega) (by rw [e1, e2]; exact hq)
  rw [splice_grown _ _ _ (by simp; omega)] at m2
  have K := (k1.mono (S1 := fun i => i = b ∨ i = g) (fun _ _ x => Or.inl x)).trans k2 (fun _ _ x => Or.inr x)
  have h3 : ¬ (s : Int) < (bs.length : Int) := by omega
  have h4 : ¬ (134217728 : Int) < (s : Int) := by omega
  have h5 : ¬ ((bs.length : Int) + (sp.length : Int)) < (s : Int) := by omega
  clear m m1 k1 k2 e1 e2 hq hv
  go_enter Try.func73, Try.ntmps73
  go_wp2
  go_ret
  exact ⟨g, _, rfl, Or.inl rfl, m2, K⟩

set_option maxHeartbeats 1000000 in
theorem grow_more (w : World) (b g : Nat) (bs sp : List UInt8) (m : MemAt 98 5 w b g bs sp) (s : Nat) (h1 : bs.length + sp.length < s) (h2 : s ≤ 134217728) :
    Calls Try.prog 73 #[.pointer (some ⟨b, 0, none⟩), .int .i64 (s : Int)] w fun e w' => GrowPost w b g (bs ++ zeros (s - bs.length)) e w' := by
  have hc := m.cell
  have hl : bs.length + sp.length ≤ 134217728 := m.hmax
  have hroom := room_any w s bs.length h2 (by omega)
  have hge := roomOf_ge (o := bs.length) h2
  have hmv := move_any w b g bs sp m (roomOf s bs.length) (by omega) (by omega)
  generalize roomOf s bs.length = R at *
  have h3 : ¬ (s : Int) < (bs.length : Int) := by omega
  have h4 : ¬ (134217728 : Int) < (s : Int) := by omega
  have h5 : ((bs.length : Int) + (sp.length : Int)) < (s : Int) := by omega
  clear m
  go_enter Try.func73, Try.ntmps73
  go_wp2_with fail
  refine hroom.mono ?_
  rintro e w' ⟨rfl, rfl⟩
  clear hroom
  go_wp2_with fail
  refine hmv.mono ?_
  rintro e w1 ⟨g2, hg2, rfl, m, k⟩
  clear hmv hc
  have hb1 : w'.heap.size ≤ w1.heap.size := k.size
  have hc := m.cell
  have hf := m.frozen
  have hz : (zeros (R - bs.length)).length = R - bs.length := zeros_length _
  have hR : bs.length + (R - bs.length) = R := by omega
  rw [hz, hR] at hc
  have hhd := run_slice_head (P := Try.prog) w1 91 5 Try.underlying91 Try.infoE g2 bs.length R s hge.1
  obtain ⟨m1, k1⟩ := m.reslice s (by omega) (by omega)
  rw [hz, hR] at m1 k1
  have e1 : (bs ++ (zeros (R - bs.length)).take (s - bs.length)).length = s := by simp [zeros]; omega
  have e2 : s + ((zeros (R - bs.length)).drop (s - bs.length)).length = R := by simp [zeros]; omega
  obtain ⟨q, hq, hv⟩ := tailVal_eq g2 s R bs.length
  have htl := run_slice_tail (P := Try.prog) (w1.setCell ⟨b, 0, none⟩ (.slice (some ⟨g2, 0, none⟩) s R)) 91 5 Try.underlying91 Try.infoE g2 s R bs.length (by omega)
  rw [hv] at htl
  obtain ⟨w2, hcl, m2, k2⟩ := mem_clear (P := Try.prog) 91 5 Try.underlying91 Try.infoE m1 (l := bs.length) (q := q) (n := s - bs.length) (c := R - bs.length) (by rw [e1]; omega) (by rw [e1, e2]; exact hq)
  rw [splice_grown _ _ _ (by simp [zeros]; omega)] at m2
  have K := ((k.mono (S1 := fun i => i = b ∨ i = g) (fun _ _ x => Or.inl x)).trans k1 (fun _ _ x => Or.inl x)).trans k2 (fun i hi x => by omega)
  clear m m1 k k1 k2 e1 e2 hq hv hz hR hb1 hge
  go_wp2
  go_ret
  exact ⟨g2, _, rfl, Or.inr hg2, m2, K⟩

theorem grow_yes (w : World) (b g : Nat) (bs sp : List UInt8) (m : MemAt 98 5 w b g bs sp) (s : Nat) (h1 : bs.length ≤ s) (h2 : s ≤ 134217728) :
    Calls Try.prog 73 #[.pointer (some ⟨b, 0, none⟩), .int .i64 (s : Int)] w fun e w' => GrowPost w b g (bs ++ zeros (s - bs.length)) e w' := by
  by_cases h : s ≤ bs.length + sp.length
  · exact grow_fit w b g bs sp m s h1 h
  · exact grow_more w b g bs sp m s (by omega) h2
end Go.Proofs.Ytmfmiaiijepgdaa
