/-
  The statement's own fault.
-/
import Derived.Test.YtflihieaajbihaaDoorOV2
namespace Go.Proofs.YtflihieaajbihaaDoor
open Go.RowKit
set_option linter.unusedVariables false

theorem mapN_some (os : List Ovr) (i : Nat) (hi : i ≤ os.length) (k : List UInt8) : (mapN os i k).isSome = true ↔ ∃ j, ∃ hj : j < os.length, j < i ∧ os[j].k = k := by
  induction i with
  | zero =>
    constructor
    · intro h
      rw [mapN] at h
      cases h
    · rintro ⟨j, _, h, _⟩
      omega
  | succ i ih =>
    rw [mapN_succ os i (by omega)]
    by_cases e : k = os[i].k
    · constructor
      · intro _
        exact ⟨i, by omega, by omega, e.symm⟩
      · intro _
        rw [e, updS_same]
        rfl
    · rw [updS_other _ _ _ _ e, ih (by omega)]
      constructor
      · rintro ⟨j, hj, h1, h2⟩
        exact ⟨j, hj, by omega, h2⟩
      · rintro ⟨j, hj, h1, h2⟩
        by_cases ej : j = i
        · subst ej
          exact absurd h2.symm e
        · exact ⟨j, hj, by omega, h2⟩
theorem toList_data (s : ByteArray) : s.toList = s.data.toList := ByteArray.toList_eq s
theorem RowO.max {w : World} {a : Option Addr} {n cap : Nat} {os : List Ovr} (h : RowO w (.slice a n cap) os) : (os.length : Int) ≤ 9223372036854775807 := by
  rcases h with ⟨_, rfl⟩ | ⟨a', c, e, q1, q2, h3⟩
  · simp
  · unfold maxLen at q2
    omega
theorem k_inj {a b : Ovr} (h : a.k = b.k) : a.1 = b.1 := by
  apply ByteArray.ext
  exact Array.toList_inj.1 h

set_option maxHeartbeats 1000000 in
theorem fault_any (a : Option Addr) (cap : Nat) (os : List Ovr) (i : Nat) (w : World) (h : RowO w (.slice a os.length cap) os) (hi : i < os.length) :
    Calls Tryd.prog 9 #[.slice a os.length cap, .int .i64 (i : Int)] w fun e w' => e = .returned (.int .i64 (badN os i : Nat)) ∧ Kp w w' := by
  have hi' : (i : Int) < (os.length : Int) := by omega
  have hm9 := RowO.max h
  obtain ⟨b, o, rfl, hc⟩ := RowO.some h (by omega)
  obtain ⟨q1, q2, q3⟩ := hc i hi
  have q1' : w.cell? ⟨b, o + i * 2, none⟩ = some (.string os[i].1) := by rw [Nat.mul_comm i 2]; exact q1
  have hbad : badN os i = if os[i].1.size < 1 ∨ 128 < os[i].1.size then 41 else if (mapN os i os[i].k).isSome then 42 else 0 := by
    unfold badN
    rw [List.getElem?_eq_getElem hi]
  generalize hK : os[i].1 = K at *
  have HB := hide hbad
  clear hbad
  by_cases h0 : K.size < 1
  · have hK0 : K = ⟨#[]⟩ := by
      apply ByteArray.ext
      exact Array.size_eq_zero_iff.1 (show K.data.size = 0 by have : K.size = K.data.size := rfl; omega)
    have hR : Hid (badN os i = 41) := by show _ = _; rw [HB.out, if_pos (Or.inl h0)]
    generalize badN os i = R at *
    subst hK0
    clear h hc HB hK
    go_enter Tryd.func9, Tryd.ntmps9
    go_wp2_with fail
    go_ret
    exact ⟨by rw [hR.out]; rfl, Kp.refl _⟩
  · have e1 : K.toList.isEmpty = false := by
      rw [toList_data]
      have : K.data.toList.length = K.size := rfl
      cases hd : K.data.toList with
      | nil => rw [hd] at this; simp at this; omega
      | cons a t => rfl
    by_cases h1 : 128 < K.size
    · have h1' : (128 : Int) < (K.size : Int) := by omega
      have hR : Hid (badN os i = 41) := by show _ = _; rw [HB.out, if_pos (Or.inr h1)]
      generalize badN os i = R at *
      clear h hc HB hK
      go_enter Tryd.func9, Tryd.ntmps9
      go_wp2_with fail
      go_ret
      exact ⟨by rw [hR.out]; rfl, Kp.refl _⟩
    · have h1' : ¬ (128 : Int) < (K.size : Int) := by omega
      have hnb : ¬ (K.size < 1 ∨ 128 < K.size) := by omega
      have HB2 : Hid (badN os i = if (mapN os i os[i].k).isSome then 42 else 0) := by show _ = _; rw [HB.out, if_neg hnb]
      have HK := hide hK
      have HI := hide (mapN_some os i (by omega) os[i].k)
      generalize badN os i = R at *
      have hc' : ∀ j (hj : j < os.length), w.cell? ⟨b, o + j * 2, none⟩ = some (.string os[j].1) := fun j hj => by rw [Nat.mul_comm j 2]; exact (hc j hj).1
      have HC := hide hc'
      clear h hc HB hK hnb hc' q1 q2
      go_enter Tryd.func9, Tryd.ntmps9
      go_wp2_with fail
      go_loopw [5] (fun vj wr => ∃ j : Nat, vj = .int .i64 (j : Int) ∧ j ≤ i ∧ (∀ l (hl : l < os.length), l < j → os[l].k ≠ os[i].k) ∧ Kp w wr) (fun vj _ => i - (intOf vj).toNat)
      case atStart => exact ⟨0, rfl, Nat.zero_le _, fun l _ hl => by omega, Kp.refl _⟩
      case round =>
        obtain ⟨j, rfl, hj, hno, kr⟩ := hrel
        have HNO := hide hno
        clear hno
        by_cases hlt : j < i
        · have hlt' : (j : Int) < (i : Int) := by omega
          have hjl : (j : Int) < (os.length : Int) := by omega
          have p1 := kr.cell (HC.out j (by omega))
          have p2 := kr.cell q1'
          by_cases he : os[j].k = os[i].k
          · have e2 : os[j].1 = K := (k_inj he).trans HK.out
            rw [e2] at p1
            have hR2 : Hid (R = 42) := by
              show _ = _
              rw [HB2.out, if_pos (HI.out.2 ⟨j, by omega, hlt, he⟩)]
            go_wp2_with fail
            go_quiet (fail)
            go_wp2_with fail
            go_ret
            exact ⟨by rw [hR2.out]; rfl, kr.drewN _⟩
          · have e2 : (os[j].1.toList == K.toList) = false := by
              rw [beq_eq_false_iff_ne, toList_data, toList_data]
              intro e
              rw [← HK.out] at e
              exact he e
            generalize os[j].1 = L at *
            go_wp2_with fail
            go_quiet (fail)
            go_wp2_with fail
            refine ⟨⟨j + 1, by simp, by omega, fun l hl hlj => ?_, kr.drewN _⟩, by simp [intOf]; omega⟩
            by_cases el : l = j
            · subst el
              exact he
            · exact HNO.out l hl (by omega)
        · have hlt' : ¬ (j : Int) < (i : Int) := by omega
          obtain rfl : j = i := by omega
          have hR2 : Hid (R = 0) := by
            show _ = _
            rw [HB2.out, if_neg]
            intro hs
            obtain ⟨l, hl, h1, h2⟩ := HI.out.1 hs
            exact HNO.out l hl h1 h2
          go_wp2_with fail
          go_ret
          exact ⟨by rw [hR2.out]; rfl, kr⟩
end Go.Proofs.YtflihieaajbihaaDoor
