/-
  The reference's oracle made: New's walk.
-/
import Derived.Test.YtflihieaajbihabDoorOR2
namespace Go.Proofs.YtflihieaajbihabDoor
open Go.RowKit
set_option linter.unusedVariables false

theorem Making.drewN {w wr : World} {p i : Nat} {os : List Ovr} (h : Making w p i os wr) (n : Nat) : Making w p i os (wr.drewN n) := by
  obtain ⟨v, h1, h2, h3, h4⟩ := h
  exact ⟨v, h1, h2, h3.drewN n, h4⟩
theorem Making.drew {w wr : World} {p i : Nat} {os : List Ovr} (h : Making w p i os wr) : Making w p i os wr.drew := h.drewN 1
theorem Making.has {w wr : World} {p i : Nat} {os : List Ovr} (h : Making w p i os wr) : ∃ v, wr.cell? ⟨p, 0, none⟩ = some v := by
  obtain ⟨v, h1, _⟩ := h
  exact ⟨v, cell_blk h1 rfl⟩
theorem Making.kp {w wr : World} {p i : Nat} {os : List Ovr} (h : Making w p i os wr) : Kp w wr := h.choose_spec.2.2.1
theorem Making.first (w : World) (os : List Ovr) : Making w w.heap.size 0 os (w.alloc (.cells #[.slice none 0 0] 41)) :=
  ⟨.slice none 0 0, heap_new w _, ⟨rfl, Or.inl ⟨rfl, rfl⟩⟩, (Kp.refl w).alloc _, Nat.le_refl _⟩
theorem size_toList_ne {K : ByteArray} (h : ¬ K.size < 1) : (1 : Int) ≤ (K.size : Int) := by omega

set_option maxRecDepth 100000 in
set_option maxHeartbeats 1000000 in
theorem rnew_any (a : Option Addr) (cap : Nat) (os : List Ovr) (w : World) (h : RowO w (.slice a os.length cap) os) :
    Calls Tryd.prog 5 #[.slice a os.length cap] w (RNewPost w os) := by
  have hm9 := RowO.max h
  by_cases hm : 64 < os.length
  · have hm' : (64 : Int) < (os.length : Int) := by omega
    have hs : scanN os os.length = 40 := by
      have h0 : scanN os 0 = 40 := by rw [scanN, if_pos hm]
      rw [scanN_stays (i := 0) (by rw [h0]; decide) (Nat.zero_le _), h0]
    have hP : Hid (RNewPost w os (.returned (.tuple #[.pointer none, .int .i64 40])) w) := ⟨Kp.refl _, Or.inl ⟨by rw [hs]; decide, by rw [hs]; rfl⟩⟩
    clear h hs
    go_enter Tryd.func5, Tryd.ntmps5
    go_wp2_with fail
    go_ret2
    exact hP.out
  · have hm' : ¬ (64 : Int) < (os.length : Int) := by omega
    have s0 : scanN os 0 = 0 := by rw [scanN, if_neg hm]
    go_enter Tryd.func5, Tryd.ntmps5
    go_wp2_with fail
    go_loopw [5] (fun vi wr => ∃ i : Nat, vi = .int .i64 (i : Int) ∧ i ≤ os.length ∧ scanN os i = 0 ∧ Making w w.heap.size i os wr) (fun vi _ => os.length - (intOf vi).toNat)
    case atStart => exact ⟨0, rfl, Nat.zero_le _, s0, Making.first w os⟩
    case round =>
      obtain ⟨i, rfl, hi, hsc, hO⟩ := hrel
      have kr := hO.kp
      by_cases hlt : i < os.length
      · have hlt' : (i : Int) < (os.length : Int) := by omega
        obtain ⟨b, o, rfl, hc⟩ := RowO.some h (by omega)
        have hc' : ∀ j (hj : j < os.length), w.cell? ⟨b, o + j * 2, none⟩ = some (.string os[j].1) := fun j hj => by rw [Nat.mul_comm j 2]; exact (hc j hj).1
        have q2 : w.cell? ⟨b, o + i * 2 + 1, none⟩ = some (.int .u64 (os[i].2 : Nat)) := by rw [Nat.mul_comm i 2, Nat.add_assoc]; exact (hc i hlt).2.1
        have q1 := hc' i hlt
        have q1' := kr.cell q1
        have hbad : badN os i = if os[i].1.size < 1 ∨ 128 < os[i].1.size then 41 else if (mapN os i os[i].k).isSome then 42 else 0 := by
          unfold badN
          rw [List.getElem?_eq_getElem hlt]
        have hnext : scanN os (i + 1) = badN os i := by rw [scanN, if_pos hsc]
        have HB := hide hbad
        have HN := hide hnext
        have HC := hide hc'
        have HI := hide (mapN_some os i (by omega) os[i].k)
        have HO := hide hO
        have HH := hide h
        clear hbad hnext hc hc' s0 hsc h hO
        obtain ⟨K, hK⟩ : ∃ K, os[i].1 = K := ⟨_, rfl⟩
        have HK := hide hK
        rw [hK] at q1 q1' HB
        clear hK
        by_cases hb : K.size < 1 ∨ 128 < K.size
        · have hs1 : scanN os (i + 1) = 41 := by rw [HN.out, HB.out, if_pos hb]
          have hs2 : scanN os os.length = 41 := by rw [scanN_stays (i := i + 1) (by rw [hs1]; decide) (by omega), hs1]
          have hP : Hid (RNewPost w os (.returned (.tuple #[.pointer none, .int .i64 41])) wr) := ⟨kr, Or.inl ⟨by rw [hs2]; decide, by rw [hs2]; rfl⟩⟩
          clear hs1 hs2 HB HN HI HO HH HC
          by_cases h0 : K.size < 1
          · have h0' : (K.size : Int) < 1 := by omega
            go_wp2_with fail
            go_ret2
            exact hP.out
          · have h0' : ¬ (K.size : Int) < 1 := by omega
            have h1' : (128 : Int) < (K.size : Int) := by omega
            go_wp2_with fail
            go_ret2
            exact hP.out
        · have h0' : ¬ (K.size : Int) < 1 := by omega
          have h1' : ¬ (128 : Int) < (K.size : Int) := by omega
          go_wp2_with fail
          clear q1' kr
          go_loopw [6] (fun vj wj => ∃ j : Nat, vj = .int .i64 (j : Int) ∧ j ≤ i ∧ (∀ l (hl : l < os.length), l < j → os[l].k ≠ os[i].k) ∧ Making w w.heap.size i os wj) (fun vj _ => i - (intOf vj).toNat)
          case atStart => exact ⟨0, rfl, Nat.zero_le _, fun l _ hl => by omega, HO.out⟩
          case round =>
            clear HO
            obtain ⟨j, rfl, hj, hno, hO⟩ := hrel
            have kr := hO.kp
            have HNO := hide hno
            have HO := hide hO
            have p2 := kr.cell q1
            clear hno hO
            by_cases hlj : j < i
            · have hlj' : (j : Int) < (i : Int) := by omega
              have hjl : (j : Int) < (os.length : Int) := by omega
              have p1 := kr.cell (HC.out j (by omega))
              by_cases he : os[j].k = os[i].k
              · have e2 : os[j].1 = K := (k_inj he).trans HK.out
                rw [e2] at p1
                have hs1 : scanN os (i + 1) = 42 := by rw [HN.out, HB.out, if_neg hb, if_pos (HI.out.2 ⟨j, by omega, hlj, he⟩)]
                have hs2 : scanN os os.length = 42 := by rw [scanN_stays (i := i + 1) (by rw [hs1]; decide) (by omega), hs1]
                have HS := hide hs2
                clear hs1 hs2 HB HN HI HO HH HC
                go_wp2_with fail
                go_quiet (fail)
                go_wp2_with fail
                go_ret2
                exact ⟨kr.drewN _, Or.inl ⟨by rw [HS.out]; decide, by rw [HS.out]; rfl⟩⟩
              · have e2 : (os[j].1.toList == K.toList) = false := by
                  rw [beq_eq_false_iff_ne, toList_data, toList_data]
                  intro e
                  rw [← HK.out] at e
                  exact he e
                generalize os[j].1 = L at *
                go_wp2_with fail
                go_quiet (fail)
                go_wp2_with fail
                refine ⟨⟨j + 1, by simp, by omega, fun l hl hlj => ?_, HO.out.drewN _⟩, by simp [intOf]; omega⟩
                by_cases el : l = j
                · subst el
                  exact he
                · exact HNO.out l hl (by omega)
            · have hlj' : ¬ (j : Int) < (i : Int) := by omega
              obtain rfl : j = i := by omega
              have hs1 : scanN os (j + 1) = 0 := by
                rw [HN.out, HB.out, if_neg hb, if_neg]
                intro hs
                obtain ⟨l, hl, h1, h2⟩ := HI.out.1 hs
                exact HNO.out l hl h1 h2
              obtain ⟨v, hv⟩ := HO.out.has
              obtain ⟨v', w4, hap, c4, f4, hM4, a9, n9, c9, rfl⟩ := Making.more HO.out.drew hlt (by omega) (v := v) hv
              have p3 := kr.cell q2
              rw [HK.out] at hap
              have HE := hide (And.intro hs1 hM4)
              have hv2 : (wr.alloc (.cells #[.string K, .int .u64 (os[j].2 : Nat)] 37)).cell? ⟨w.heap.size, 0, none⟩ = some v := ((Kp.refl wr).alloc _).cell hv
              generalize os[j].2 = Y at *
              clear HN HB HI HC HO HH HNO hM4 hs1
              go_wp2_with fail
              go_region_law (refine step_append_run (by rfl) _ _ 22 (by rfl) (by rfl) (by rfl) hap ?_)
              all_goals (try go_wp2_with fail)
              all_goals exact ⟨⟨j + 1, by simp, by omega, HE.out⟩, by simp [intOf]; omega⟩
      · have hlt' : ¬ (i : Int) < (os.length : Int) := by omega
        obtain rfl : i = os.length := by omega
        have hsz : ∀ j (hj : j < os.length), os[j].1.size ≤ maxLen := by
          rcases h with ⟨_, rfl⟩ | ⟨a', c, e, _, _, h3⟩
          · intro j hj
            simp at hj
          · exact fun j hj => (h3 j hj).2.2
        have hP : Hid (RNewPost w os (.returned (.tuple #[.pointer (some ⟨w.heap.size, 0, none⟩), .int .i64 0])) wr) := ⟨kr, Or.inr ⟨hsc, _, rfl, hO.done hsz⟩⟩
        clear h hsc s0 hO hsz
        go_wp2_with fail
        go_ret2
        exact hP.out
end Go.Proofs.YtflihieaajbihabDoor
