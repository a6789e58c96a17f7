/-
  script: the reference's Number, exactly: its walk.
-/
import Derived.Test.YtfpiibccggjjpaaDoorHSV2
namespace Go.Proofs.YtfpiibccggjjpaaDoor
open Go.RowKit
set_option linter.unusedVariables false
set_option maxRecDepth 100000 in
set_option maxHeartbeats 2000000 in
theorem rnumX_minus (s : ByteArray) (hs : s.size ≤ 8388608) (t : List UInt8) (hst : s.data.toList = 45 :: t) (w : World) : Calls Tryd.prog 55 #[.string s] w fun e w' => (∃ n er, e = .returned (.tuple #[.int .i64 n, .int .i64 er]) ∧ numE s.data.toList = (n, er)) ∧ w' = w := by
  have HQ := hide (fun n er (h : DigX true t n er) => numX_minus hst h)
  have HV := hide (fun (T : ByteArray) (hT : T.size ≤ 8388608) (W : World) => value_any T hT W)
  have hsz : s.data.toList.length = s.size := rfl
  have h1 : 1 ≤ s.size := by rw [← hsz, hst]; simp
  have h1' : (0 : Int) < (s.size : Int) := by omega
  have h1'' : (1 : Int) ≤ (s.size : Int) := by omega
  have hne : (s.toList == []) = false := by
    rw [ByteArray.toList_eq, hst]
    rfl
  have h45 : s[0] = 45 := by
    have h2 : s.data.toList[0]? = some s[0] := by
      rw [List.getElem?_eq_getElem (by omega)]
      rfl
    rw [hst] at h2
    exact (Option.some.inj h2).symm
  have hB := fun W => bare_any (s.extract 1 s.size) (by rw [ByteArray.size_extract]; omega) W
  rw [show (s.extract 1 s.size).data.toList = t by rw [ext_one, hst]; rfl] at hB
  clear hst hsz
  go_enter Tryd.func55, Tryd.ntmps55
  go_wp2_with fail
  (with_reducible refine (hB _).mono ?_)
  rintro e w1 ⟨hb, rfl⟩
  clear hB
  rcases hb with ⟨hal, rfl⟩ | ⟨hal, rfl⟩
  rotate_left
  · have HZ := hide (digx_bad (neg := true) hal)
    clear hal HV
    go_wp2_with fail
    refine bodyPost_ret (v := .tuple #[.int .i64 0, .int .i64 160]) (by simp [results, Tryd.results55, go_sem]) rfl ?_
    exact ⟨⟨_, _, rfl, HQ.out _ _ HZ.out⟩, rfl⟩
  · obtain ⟨R, hR⟩ : ∃ R, strOf (strip t) = R := ⟨_, rfl⟩
    have hRl : R.data.toList = strip t := by rw [← hR, strOf_data]
    have hRs : R.size = (strip t).length := by rw [← hR, strOf_size]
    rw [hR]
    clear hR
    by_cases h19 : 19 < R.size
    · have h19' : (19 : Int) < (R.size : Int) := by omega
      have HZ := hide (digx_long (neg := true) (t := t) hal (by omega))
      clear h19 hRl hRs HV hal
      go_wp2_with fail
      refine bodyPost_ret (v := .tuple #[.int .i64 0, .int .i64 161]) (by simp [results, Tryd.results55, go_sem]) rfl ?_
      exact ⟨⟨_, _, rfl, HQ.out _ _ HZ.out⟩, rfl⟩
    · have h19' : ¬ (19 : Int) < (R.size : Int) := by omega
      have HA := hide hal
      have HL := hide (show ¬ 19 < (strip t).length by omega)
      clear hal
      have hV := HV.out R (by omega)
      rw [hRl] at hV
      obtain ⟨V, hVe⟩ : ∃ V, valD (strip t) = V := ⟨_, rfl⟩
      rw [hVe] at hV
      have hb64 := valD_u64 (strip t)
      rw [hVe] at hb64
      clear h19 hRl hRs HV
      go_wp2_with fail
      (with_reducible refine (hV _).mono ?_)
      rintro e w1 ⟨rfl, rfl⟩
      clear hV
      by_cases hg : 9223372036854775808 < V
      · have HZ := hide (digx_over (t := t) HA.out HL.out (by omega))
        clear hVe hb64
        go_wp2_with fail
        refine bodyPost_ret (v := .tuple #[.int .i64 0, .int .i64 161]) (by simp [results, Tryd.results55, go_sem]) rfl ?_
        exact ⟨⟨_, _, rfl, HQ.out _ _ HZ.out⟩, rfl⟩
      · by_cases hq : V = 9223372036854775808
        · have HZ := hide (digx_least (t := t) HA.out HL.out (by omega))
          subst hq
          clear hVe hb64
          go_wp2_with fail
          refine bodyPost_ret (v := .tuple #[.int .i64 (-9223372036854775808), .int .i64 0]) (by simp [results, Tryd.results55, go_sem]) rfl ?_
          exact ⟨⟨_, _, rfl, HQ.out _ _ HZ.out⟩, rfl⟩
        · have HZ := hide (digx_neg (t := t) HA.out HL.out (by omega))
          rw [hVe] at HZ
          have y1 : (V == 9223372036854775808) = false := by simp [hq]
          have e1 : IntKind.i64.wrap V = V := by rw [IntKind.wrap_i64]; omega
          have e1' : wrap64 V = V := by unfold wrap64; omega
          have e2 : IntKind.i64.wrap (-V) = -V := by rw [IntKind.wrap_i64]; omega
          have e2' : wrap64 (-V) = -V := by unfold wrap64; omega
          clear hVe hb64 hq
          go_wp2_with fail
          refine bodyPost_ret (v := .tuple #[.int .i64 (-V), .int .i64 0]) (by simp [results, Tryd.results55, go_sem]) rfl ?_
          exact ⟨⟨_, _, rfl, HQ.out _ _ HZ.out⟩, rfl⟩
set_option maxRecDepth 100000 in
set_option maxHeartbeats 2000000 in
theorem rnumX_plain (s : ByteArray) (hs : s.size ≤ 8388608) (hst : ∀ r, s.data.toList ≠ 45 :: r) (h1 : 1 ≤ s.size) (w : World) : Calls Tryd.prog 55 #[.string s] w fun e w' => (∃ n er, e = .returned (.tuple #[.int .i64 n, .int .i64 er]) ∧ numE s.data.toList = (n, er)) ∧ w' = w := by
  obtain ⟨t, ht⟩ : ∃ t, s.data.toList = t := ⟨_, rfl⟩
  have HQ := hide (fun n er (h : DigX false s.data.toList n er) => numX_plain hst h)
  have HV := hide (fun (T : ByteArray) (hT : T.size ≤ 8388608) (W : World) => value_any T hT W)
  have hsz : s.data.toList.length = s.size := rfl
  have h1' : (0 : Int) < (s.size : Int) := by omega
  have hne : (s.toList == []) = false := by
    rw [ByteArray.toList_eq, beq_eq_false_iff_ne]
    intro e
    rw [e] at hsz
    simp at hsz
    omega
  have h45 : (s[0] == 45) = false := by
    rw [beq_eq_false_iff_ne]
    intro e
    have h2 : s.data.toList[0]? = some s[0] := by
      rw [List.getElem?_eq_getElem (by omega)]
      rfl
    rw [e] at h2
    cases hl : s.data.toList with
    | nil => rw [hl] at h2; cases h2
    | cons a r =>
      rw [hl] at h2
      refine hst r ?_
      rw [hl, Option.some.inj h2]
  have h45' : ((s[0].toNat : Int) == 45) = false := by
    rw [beq_eq_false_iff_ne]
    intro e
    have e2 : s[0].toNat = 45 := by omega
    have e3 : s[0] = 45 := UInt8.toNat_inj.1 e2
    rw [e3] at h45
    cases h45
  obtain ⟨y, hy⟩ : ∃ y, s[0] = y := ⟨_, rfl⟩
  rw [hy] at h45 h45'
  have hB := fun W => bare_any s hs W
  rw [ht] at hB HQ ⊢
  clear hst hsz ht
  go_enter Tryd.func55, Tryd.ntmps55
  go_wp2_with fail
  (with_reducible refine (hB _).mono ?_)
  rintro e w1 ⟨hb, rfl⟩
  clear hB
  rcases hb with ⟨hal, rfl⟩ | ⟨hal, rfl⟩
  rotate_left
  · have HZ := hide (digx_bad (neg := false) hal)
    clear hal HV
    go_wp2_with fail
    refine bodyPost_ret (v := .tuple #[.int .i64 0, .int .i64 160]) (by simp [results, Tryd.results55, go_sem]) rfl ?_
    exact ⟨⟨_, _, rfl, HQ.out _ _ HZ.out⟩, rfl⟩
  · obtain ⟨R, hR⟩ : ∃ R, strOf (strip t) = R := ⟨_, rfl⟩
    have hRl : R.data.toList = strip t := by rw [← hR, strOf_data]
    have hRs : R.size = (strip t).length := by rw [← hR, strOf_size]
    rw [hR]
    clear hR
    by_cases h19 : 19 < R.size
    · have h19' : (19 : Int) < (R.size : Int) := by omega
      have HZ := hide (digx_long (neg := false) (t := t) hal (by omega))
      clear h19 hRl hRs HV hal
      go_wp2_with fail
      refine bodyPost_ret (v := .tuple #[.int .i64 0, .int .i64 161]) (by simp [results, Tryd.results55, go_sem]) rfl ?_
      exact ⟨⟨_, _, rfl, HQ.out _ _ HZ.out⟩, rfl⟩
    · have h19' : ¬ (19 : Int) < (R.size : Int) := by omega
      have HA := hide hal
      have HL := hide (show ¬ 19 < (strip t).length by omega)
      clear hal
      have hV := HV.out R (by omega)
      rw [hRl] at hV
      obtain ⟨V, hVe⟩ : ∃ V, valD (strip t) = V := ⟨_, rfl⟩
      rw [hVe] at hV
      have hb64 := valD_u64 (strip t)
      rw [hVe] at hb64
      clear h19 hRl hRs HV
      go_wp2_with fail
      (with_reducible refine (hV _).mono ?_)
      rintro e w1 ⟨rfl, rfl⟩
      clear hV
      by_cases hg : 9223372036854775807 < V
      · have HZ := hide (digx_big (t := t) HA.out HL.out (by omega))
        clear hVe hb64
        go_wp2_with fail
        refine bodyPost_ret (v := .tuple #[.int .i64 0, .int .i64 161]) (by simp [results, Tryd.results55, go_sem]) rfl ?_
        exact ⟨⟨_, _, rfl, HQ.out _ _ HZ.out⟩, rfl⟩
      · have HZ := hide (digx_pos (t := t) HA.out HL.out (by omega))
        rw [hVe] at HZ
        have e1 : IntKind.i64.wrap V = V := by rw [IntKind.wrap_i64]; omega
        have e1' : wrap64 V = V := by unfold wrap64; omega
        clear hVe hb64
        go_wp2_with fail
        refine bodyPost_ret (v := .tuple #[.int .i64 V, .int .i64 0]) (by simp [results, Tryd.results55, go_sem]) rfl ?_
        exact ⟨⟨_, _, rfl, HQ.out _ _ HZ.out⟩, rfl⟩
set_option maxRecDepth 100000 in
theorem rnumX_empty (w : World) : Calls Tryd.prog 55 #[.string ⟨#[]⟩] w fun e w' => (∃ n er, e = .returned (.tuple #[.int .i64 n, .int .i64 er]) ∧ numE ((⟨#[]⟩ : ByteArray).data.toList) = (n, er)) ∧ w' = w := by
  have hB := fun W => bare_any ⟨#[]⟩ (by decide) W
  have HZ : Hid (numE ((⟨#[]⟩ : ByteArray).data.toList) = (0, 160)) := hide rfl
  go_enter Tryd.func55, Tryd.ntmps55
  go_wp2_with fail
  (with_reducible refine (hB _).mono ?_)
  rintro e w1 ⟨hb, rfl⟩
  clear hB
  rcases hb with ⟨hal, rfl⟩ | ⟨hal, rfl⟩
  · exact absurd hal (by decide)
  · clear hal
    go_wp2_with fail
    refine bodyPost_ret (v := .tuple #[.int .i64 0, .int .i64 160]) (by simp [results, Tryd.results55, go_sem]) rfl ?_
    exact ⟨⟨_, _, rfl, HZ.out⟩, rfl⟩
theorem rnumX_any (s : ByteArray) (hs : s.size ≤ 8388608) (w : World) : Calls Tryd.prog 55 #[.string s] w fun e w' => (∃ n er, e = .returned (.tuple #[.int .i64 n, .int .i64 er]) ∧ numE s.data.toList = (n, er)) ∧ w' = w := by
  by_cases h : ∃ t, s.data.toList = 45 :: t
  · obtain ⟨t, ht⟩ := h
    exact rnumX_minus s hs t ht w
  · by_cases h1 : 1 ≤ s.size
    · exact rnumX_plain s hs (fun r e => h ⟨r, e⟩) h1 w
    · have : s = ⟨#[]⟩ := by
        apply ByteArray.ext
        apply Array.toList_inj.1
        apply List.eq_nil_of_length_eq_zero
        show s.size = 0
        omega
      subst this
      exact rnumX_empty w
end Go.Proofs.YtfpiibccggjjpaaDoor

