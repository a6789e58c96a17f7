/-
  script: the reference's Number, its walk.
-/
import Derived.Test.YteimjilngabebaaDoorSE5
namespace Go.Proofs.YteimjilngabebaaDoor
open Go.RowKit
set_option linter.unusedVariables false
theorem digV {t : List UInt8} {u : Nat} (hu : u ≤ 9223372036854775808) (e : t = Lib.decDigits u) : allD 10 t = true ∧ (strip t).length ≤ 19 ∧ valD (strip t) = (u : Int) := by
  obtain ⟨h1, h2, h3, h4⟩ := digits_of hu
  rw [e, h2]
  exact ⟨h1, h3, h4⟩
theorem digs_bad {neg : Bool} {t : List UInt8} (h : allD 10 t = false) : Digs neg t 0 := digs_zero neg fun u hu e => by
  rw [(digV hu e).1] at h
  cases h
theorem digs_long {neg : Bool} {t : List UInt8} (h : 19 < (strip t).length) : Digs neg t 0 := digs_zero neg fun u hu e => by
  have := (digV hu e).2.1
  omega
theorem digs_over {t : List UInt8} (h : 9223372036854775808 < valD (strip t)) : Digs true t 0 := digs_zero true fun u hu e => by
  have := (digV hu e).2.2
  omega
theorem digs_least {t : List UInt8} (h : valD (strip t) = 9223372036854775808) : Digs true t (-9223372036854775808) :=
  ⟨⟨by omega, by omega⟩, fun u e => ⟨fun _ hu => by have := (digV hu e).2.2; omega, fun q => by cases q⟩⟩
theorem digs_neg {t : List UInt8} (h : valD (strip t) < 9223372036854775808) : Digs true t (-valD (strip t)) := by
  have := valD_u64 (strip t)
  exact ⟨⟨by omega, by omega⟩, fun u e => ⟨fun _ hu => by have := (digV hu e).2.2; omega, fun q => by cases q⟩⟩
theorem digs_big {t : List UInt8} (h : 9223372036854775807 < valD (strip t)) : Digs false t 0 :=
  ⟨⟨by omega, by omega⟩, fun u e => ⟨fun q => (by cases q), fun _ hu => by have := (digV (by omega) e).2.2; omega⟩⟩
theorem digs_pos {t : List UInt8} (h : valD (strip t) ≤ 9223372036854775807) : Digs false t (valD (strip t)) := by
  have := valD_u64 (strip t)
  exact ⟨⟨by omega, by omega⟩, fun u e => ⟨fun q => (by cases q), fun _ hu => (digV (by omega) e).2.2⟩⟩
set_option maxRecDepth 100000 in
set_option maxHeartbeats 2000000 in
theorem rnum_minus (s : ByteArray) (hs : s.size ≤ 8388608) (t : List UInt8) (hst : s.data.toList = 45 :: t) (w : World) : Calls Tryd.prog 28 #[.string s] w fun e w' => (∃ n er, e = .returned (.tuple #[.int .i64 n, .int .i64 er]) ∧ NumR s n) ∧ w' = w := by
  have HQ := hide (fun n (h : Digs true t n) => numR_minus hst h)
  have HV := hide (fun (T : ByteArray) (hT : T.size ≤ 8388608) (W : World) => value_any T hT W)
  have hsz : s.data.toList.length = s.size := rfl
  have h1 : 1 ≤ s.size := by rw [← hsz, hst]; simp
  have h1' : (0 : Int) < (s.size : Int) := by omega
  have h1'' : (1 : Int) ≤ (s.size : Int) := by omega
  have hne : (s.toList == []) = false := by
    rw [ByteArray.toList_eq, hst]
    rfl
  have h45 : s[0] = 45 := by
    have h2 : s.data.toList[0]? = some s[0] := by
      rw [List.getElem?_eq_getElem (by omega)]
      rfl
    rw [hst] at h2
    exact (Option.some.inj h2).symm
  have hB := fun W => bare_any (s.extract 1 s.size) (by rw [ByteArray.size_extract]; omega) W
  rw [show (s.extract 1 s.size).data.toList = t by rw [ext_one, hst]; rfl] at hB
  clear hst hsz
  go_enter Tryd.func28, Tryd.ntmps28
  go_wp2_with fail
  (with_reducible refine (hB _).mono ?_)
  rintro e w1 ⟨hb, rfl⟩
  clear hB
  rcases hb with ⟨hal, rfl⟩ | ⟨hal, rfl⟩
  rotate_left
  · have HZ := hide (digs_bad (neg := true) hal)
    clear hal HV
    go_wp2_with fail
    refine bodyPost_ret (v := .tuple #[.int .i64 0, .int .i64 160]) (by simp [results, Tryd.results28, go_sem]) rfl ?_
    exact ⟨⟨_, _, rfl, HQ.out _ HZ.out⟩, rfl⟩
  · obtain ⟨R, hR⟩ : ∃ R, strOf (strip t) = R := ⟨_, rfl⟩
    have hRl : R.data.toList = strip t := by rw [← hR, strOf_data]
    have hRs : R.size = (strip t).length := by rw [← hR, strOf_size]
    rw [hR]
    clear hR hal
    by_cases h19 : 19 < R.size
    · have h19' : (19 : Int) < (R.size : Int) := by omega
      have HZ := hide (digs_long (neg := true) (t := t) (by omega))
      clear h19 hRl hRs HV
      go_wp2_with fail
      refine bodyPost_ret (v := .tuple #[.int .i64 0, .int .i64 161]) (by simp [results, Tryd.results28, go_sem]) rfl ?_
      exact ⟨⟨_, _, rfl, HQ.out _ HZ.out⟩, rfl⟩
    · have h19' : ¬ (19 : Int) < (R.size : Int) := by omega
      have hV := HV.out R (by omega)
      rw [hRl] at hV
      obtain ⟨V, hVe⟩ : ∃ V, valD (strip t) = V := ⟨_, rfl⟩
      rw [hVe] at hV
      have hb64 := valD_u64 (strip t)
      rw [hVe] at hb64
      clear h19 hRl hRs HV
      go_wp2_with fail
      (with_reducible refine (hV _).mono ?_)
      rintro e w1 ⟨rfl, rfl⟩
      clear hV
      by_cases hg : 9223372036854775808 < V
      · have HZ := hide (digs_over (t := t) (by omega))
        clear hVe hb64
        go_wp2_with fail
        refine bodyPost_ret (v := .tuple #[.int .i64 0, .int .i64 161]) (by simp [results, Tryd.results28, go_sem]) rfl ?_
        exact ⟨⟨_, _, rfl, HQ.out _ HZ.out⟩, rfl⟩
      · by_cases hq : V = 9223372036854775808
        · have HZ := hide (digs_least (t := t) (by omega))
          subst hq
          clear hVe hb64
          go_wp2_with fail
          refine bodyPost_ret (v := .tuple #[.int .i64 (-9223372036854775808), .int .i64 0]) (by simp [results, Tryd.results28, go_sem]) rfl ?_
          exact ⟨⟨_, _, rfl, HQ.out _ HZ.out⟩, rfl⟩
        · have HZ := hide (digs_neg (t := t) (by omega))
          rw [hVe] at HZ
          have y1 : (V == 9223372036854775808) = false := by simp [hq]
          have e1 : IntKind.i64.wrap V = V := by rw [IntKind.wrap_i64]; omega
          have e1' : wrap64 V = V := by unfold wrap64; omega
          have e2 : IntKind.i64.wrap (-V) = -V := by rw [IntKind.wrap_i64]; omega
          have e2' : wrap64 (-V) = -V := by unfold wrap64; omega
          clear hVe hb64 hq
          go_wp2_with fail
          refine bodyPost_ret (v := .tuple #[.int .i64 (-V), .int .i64 0]) (by simp [results, Tryd.results28, go_sem]) rfl ?_
          exact ⟨⟨_, _, rfl, HQ.out _ HZ.out⟩, rfl⟩
set_option maxRecDepth 100000 in
set_option maxHeartbeats 2000000 in
theorem rnum_plain (s : ByteArray) (hs : s.size ≤ 8388608) (hst : ∀ r, s.data.toList ≠ 45 :: r) (h1 : 1 ≤ s.size) (w : World) : Calls Tryd.prog 28 #[.string s] w fun e w' => (∃ n er, e = .returned (.tuple #[.int .i64 n, .int .i64 er]) ∧ NumR s n) ∧ w' = w := by
  obtain ⟨t, ht⟩ : ∃ t, s.data.toList = t := ⟨_, rfl⟩
  have HQ := hide (fun n (h : Digs false s.data.toList n) => numR_plain hst h (fun e => by rw [e] at h1; exact absurd h1 (by decide)))
  have HV := hide (fun (T : ByteArray) (hT : T.size ≤ 8388608) (W : World) => value_any T hT W)
  have hsz : s.data.toList.length = s.size := rfl
  have h1' : (0 : Int) < (s.size : Int) := by omega
  have hne : (s.toList == []) = false := by
    rw [ByteArray.toList_eq, beq_eq_false_iff_ne]
    intro e
    rw [e] at hsz
    simp at hsz
    omega
  have h45 : (s[0] == 45) = false := by
    rw [beq_eq_false_iff_ne]
    intro e
    have h2 : s.data.toList[0]? = some s[0] := by
      rw [List.getElem?_eq_getElem (by omega)]
      rfl
    rw [e] at h2
    cases hl : s.data.toList with
    | nil => rw [hl] at h2; cases h2
    | cons a r =>
      rw [hl] at h2
      refine hst r ?_
      rw [hl, Option.some.inj h2]
  have h45' : ((s[0].toNat : Int) == 45) = false := by
    rw [beq_eq_false_iff_ne]
    intro e
    have e2 : s[0].toNat = 45 := by omega
    have e3 : s[0] = 45 := UInt8.toNat_inj.1 e2
    rw [e3] at h45
    cases h45
  obtain ⟨y, hy⟩ : ∃ y, s[0] = y := ⟨_, rfl⟩
  rw [hy] at h45 h45'
  have hB := fun W => bare_any s hs W
  rw [ht] at hB HQ
  clear hst hsz ht
  go_enter Tryd.func28, Tryd.ntmps28
  go_wp2_with fail
  (with_reducible refine (hB _).mono ?_)
  rintro e w1 ⟨hb, rfl⟩
  clear hB
  rcases hb with ⟨hal, rfl⟩ | ⟨hal, rfl⟩
  rotate_left
  · have HZ := hide (digs_bad (neg := false) hal)
    clear hal HV
    go_wp2_with fail
    refine bodyPost_ret (v := .tuple #[.int .i64 0, .int .i64 160]) (by simp [results, Tryd.results28, go_sem]) rfl ?_
    exact ⟨⟨_, _, rfl, HQ.out _ HZ.out⟩, rfl⟩
  · obtain ⟨R, hR⟩ : ∃ R, strOf (strip t) = R := ⟨_, rfl⟩
    have hRl : R.data.toList = strip t := by rw [← hR, strOf_data]
    have hRs : R.size = (strip t).length := by rw [← hR, strOf_size]
    rw [hR]
    clear hR hal
    by_cases h19 : 19 < R.size
    · have h19' : (19 : Int) < (R.size : Int) := by omega
      have HZ := hide (digs_long (neg := false) (t := t) (by omega))
      clear h19 hRl hRs HV
      go_wp2_with fail
      refine bodyPost_ret (v := .tuple #[.int .i64 0, .int .i64 161]) (by simp [results, Tryd.results28, go_sem]) rfl ?_
      exact ⟨⟨_, _, rfl, HQ.out _ HZ.out⟩, rfl⟩
    · have h19' : ¬ (19 : Int) < (R.size : Int) := by omega
      have hV := HV.out R (by omega)
      rw [hRl] at hV
      obtain ⟨V, hVe⟩ : ∃ V, valD (strip t) = V := ⟨_, rfl⟩
      rw [hVe] at hV
      have hb64 := valD_u64 (strip t)
      rw [hVe] at hb64
      clear h19 hRl hRs HV
      go_wp2_with fail
      (with_reducible refine (hV _).mono ?_)
      rintro e w1 ⟨rfl, rfl⟩
      clear hV
      by_cases hg : 9223372036854775807 < V
      · have HZ := hide (digs_big (t := t) (by omega))
        clear hVe hb64
        go_wp2_with fail
        refine bodyPost_ret (v := .tuple #[.int .i64 0, .int .i64 161]) (by simp [results, Tryd.results28, go_sem]) rfl ?_
        exact ⟨⟨_, _, rfl, HQ.out _ HZ.out⟩, rfl⟩
      · have HZ := hide (digs_pos (t := t) (by omega))
        rw [hVe] at HZ
        have e1 : IntKind.i64.wrap V = V := by rw [IntKind.wrap_i64]; omega
        have e1' : wrap64 V = V := by unfold wrap64; omega
        clear hVe hb64
        go_wp2_with fail
        refine bodyPost_ret (v := .tuple #[.int .i64 V, .int .i64 0]) (by simp [results, Tryd.results28, go_sem]) rfl ?_
        exact ⟨⟨_, _, rfl, HQ.out _ HZ.out⟩, rfl⟩
set_option maxRecDepth 100000 in
theorem rnum_empty (w : World) : Calls Tryd.prog 28 #[.string ⟨#[]⟩] w fun e w' => (∃ n er, e = .returned (.tuple #[.int .i64 n, .int .i64 er]) ∧ NumR ⟨#[]⟩ n) ∧ w' = w := by
  have hB := fun W => bare_any ⟨#[]⟩ (by decide) W
  have HZ : Hid (NumR ⟨#[]⟩ 0) := by
    refine ⟨⟨by omega, by omega⟩, fun m hm e => ?_, fun _ => rfl⟩
    have h := all_itoa m
    have : Lib.itoa m = [] := by
      have := congrArg (fun z => z.data.toList) e
      simp only [numD, strOf_data] at this
      exact this.symm
    rw [this] at h
    exact absurd h (by decide)
  go_enter Tryd.func28, Tryd.ntmps28
  go_wp2_with fail
  (with_reducible refine (hB _).mono ?_)
  rintro e w1 ⟨hb, rfl⟩
  clear hB
  rcases hb with ⟨hal, rfl⟩ | ⟨hal, rfl⟩
  · exact absurd hal (by decide)
  · clear hal
    go_wp2_with fail
    refine bodyPost_ret (v := .tuple #[.int .i64 0, .int .i64 160]) (by simp [results, Tryd.results28, go_sem]) rfl ?_
    exact ⟨⟨_, _, rfl, HZ.out⟩, rfl⟩
theorem rnum_any (s : ByteArray) (hs : s.size ≤ 8388608) (w : World) : Calls Tryd.prog 28 #[.string s] w fun e w' => (∃ n er, e = .returned (.tuple #[.int .i64 n, .int .i64 er]) ∧ NumR s n) ∧ w' = w := by
  by_cases h : ∃ t, s.data.toList = 45 :: t
  · obtain ⟨t, ht⟩ := h
    exact rnum_minus s hs t ht w
  · by_cases h1 : 1 ≤ s.size
    · exact rnum_plain s hs (fun r e => h ⟨r, e⟩) h1 w
    · have : s = ⟨#[]⟩ := by
        apply ByteArray.ext
        apply Array.toList_inj.1
        apply List.eq_nil_of_length_eq_zero
        show s.size = 0
        omega
      subst this
      exact rnum_empty w
end Go.Proofs.YteimjilngabebaaDoor

