/-
  script: the reference's Word, exactly.
-/
import Derived.Test.YtfpiibccggjjpaaDoorHSV6
namespace Go.Proofs.YtfpiibccggjjpaaDoor
open Go.RowKit
set_option linter.unusedVariables false
/-- How a text is none that begins with 0x and goes on. -/
def NoHex (s : ByteArray) : Prop := ¬ 2 < s.size ∨ (∃ h : 2 < s.size, s[0] ≠ 48) ∨ (∃ h : 2 < s.size, s[0] = 48 ∧ s[1] ≠ 120)
theorem ne_forms {x : UInt8} {c : UInt8} (h : x ≠ c) : (x == c) = false ∧ ((x.toNat : Int) == (c.toNat : Int)) = false := by
  refine ⟨by simpa using h, ?_⟩
  rw [beq_eq_false_iff_ne]
  intro e
  exact h (UInt8.toNat_inj.1 (by omega))
theorem run_gtr_most (ty : TypeId) (a : ByteArray) (b : Bool) (h : (Op.bytesLess a.toList most20 || a.toList == most20) = b) (w : World) : Sem.run Tryd.prog (binOp .gtr ty (.string a) (.string ⟨#[49, 56, 52, 52, 54, 55, 52, 52, 48, 55, 51, 55, 48, 57, 53, 53, 49, 54, 49, 53]⟩)) w = .ok (.bool (!b)) w := by
  have e : (⟨#[49, 56, 52, 52, 54, 55, 52, 52, 48, 55, 51, 55, 48, 57, 53, 53, 49, 54, 49, 53]⟩ : ByteArray).toList = most20 := by
    rw [ByteArray.toList_eq]
    rfl
  rw [← h, ← e]
  rfl
set_option maxRecDepth 100000 in
set_option maxHeartbeats 4000000 in
theorem rword_dec (s : ByteArray) (hs : s.size ≤ 8388608) (hn : NoHex s) (hR : wrdE s.data.toList = if allD 10 s.data.toList = true then (if decF 0 s.data.toList ≤ 18446744073709551615 then (decF 0 s.data.toList, 0) else (0, 161)) else (0, 160)) (w : World) : Calls Tryd.prog 56 #[.string s] w fun e w' => e = .returned (.tuple #[.int .u64 ((wrdE s.data.toList).1 : Int), .int .i64 (wrdE s.data.toList).2]) ∧ w' = w := by
  obtain ⟨R, hR2⟩ : ∃ R, wrdE s.data.toList = R := ⟨_, rfl⟩
  rw [hR2] at hR ⊢
  clear hR2
  obtain ⟨t, ht⟩ : ∃ t, s.data.toList = t := ⟨_, rfl⟩
  have hB := fun W => bare_any s hs W
  rw [ht] at hB hR
  clear ht
  have HB := hide hB
  have HR := hide hR.symm
  have HV := hide (fun (T : ByteArray) (hT : T.size ≤ 8388608) (W : World) => value_any T hT W)
  clear hB hR
  rcases hn with hn | ⟨hn, hn0⟩ | ⟨hn, hn0, hn1⟩
  · have hn' : ¬ (2 : Int) < (s.size : Int) := by omega
    clear hn
    go_enter Tryd.func56, Tryd.ntmps56
    go_wp2_with fail
    (with_reducible refine (HB.out _).mono ?_)
    rintro e w1 ⟨hb, rfl⟩
    rcases hb with ⟨hal, rfl⟩ | ⟨hal, rfl⟩
    rotate_left
    · obtain rfl : (0, 160) = R := by rw [← HR.out, hal]; rfl
      clear hal
      go_wp2_with fail
      refine bodyPost_ret (v := .tuple #[.int .u64 0, .int .i64 160]) (by simp [results, Tryd.results56, go_sem]) rfl ?_
      exact ⟨rfl, rfl⟩
    · obtain ⟨T, hT⟩ : ∃ T, strOf (strip t) = T := ⟨_, rfl⟩
      have hTl : T.data.toList = strip t := by rw [← hT, strOf_data]
      have hTs : T.size = (strip t).length := by rw [← hT, strOf_size]
      rw [hT]
      clear hT
      by_cases h20 : 20 < T.size
      · have h20' : (20 : Int) < (T.size : Int) := by omega
        obtain rfl : (0, 161) = R := by rw [← HR.out, if_pos hal, if_neg (dec_long hal (by omega))]
        clear h20 hTl hTs hal
        go_wp2_with fail
        refine bodyPost_ret (v := .tuple #[.int .u64 0, .int .i64 161]) (by simp [results, Tryd.results56, go_sem]) rfl ?_
        exact ⟨rfl, rfl⟩
      · have h20' : ¬ (20 : Int) < (T.size : Int) := by omega
        by_cases h21 : T.size = 20
        · have hg := gtr_dec (k := T.toList) (by rw [ByteArray.toList_eq, ← h21]; rfl) (by rw [ByteArray.toList_eq, hTl]; exact fun x hx => (allD_iff.1 hal).2 x (strip_mem _ x hx))
          rw [ByteArray.toList_eq, hTl, strip_keep, ← hTl, ← ByteArray.toList_eq] at hg
          by_cases hv : decF 0 t ≤ 18446744073709551615
          · rw [decide_eq_true hv] at hg
            have HG := hide (fun ty W => run_gtr_most ty T _ hg W)
            clear hg
            obtain rfl : (decF 0 t, 0) = R := by rw [← HR.out, if_pos hal, if_pos hv]
            have hV := HV.out T (by omega)
            rw [hTl, dec_val hal hv] at hV
            obtain ⟨V, hVV⟩ : ∃ V, decF 0 t = V := ⟨_, rfl⟩
            rw [hVV] at hV
            have HVV := hide hVV
            have h21' : (T.size : Int) = 20 := by omega
            clear h20 hTl hTs hal hv HR hVV h21
            go_wp2_with fail
            rw [HG.out]
            go_wp2_with fail
            (with_reducible refine (hV _).mono ?_)
            rintro e w1 ⟨rfl, rfl⟩
            clear hV
            go_wp2_with fail
            refine bodyPost_ret (v := .tuple #[.int .u64 (V : Int), .int .i64 0]) (by simp [results, Tryd.results56, go_sem]) rfl ?_
            exact ⟨by rw [HVV.out], rfl⟩
          · rw [decide_eq_false hv] at hg
            have HG := hide (fun ty W => run_gtr_most ty T _ hg W)
            clear hg
            obtain rfl : (0, 161) = R := by rw [← HR.out, if_pos hal, if_neg hv]
            have h21' : (T.size : Int) = 20 := by omega
            clear h20 hTl hTs hal hv h21
            go_wp2_with fail
            rw [HG.out]
            go_wp2_with fail
            refine bodyPost_ret (v := .tuple #[.int .u64 0, .int .i64 161]) (by simp [results, Tryd.results56, go_sem]) rfl ?_
            exact ⟨rfl, rfl⟩
        · have h21' : ((T.size : Int) == 20) = false := by
            rw [beq_eq_false_iff_ne]
            omega
          have h21'' : ¬ (T.size : Int) = 20 := by omega
          have hv : decF 0 t ≤ 18446744073709551615 := by
            obtain ⟨q1, -⟩ := strip_short hal (by omega)
            omega
          obtain rfl : (decF 0 t, 0) = R := by rw [← HR.out, if_pos hal, if_pos hv]
          have hV := HV.out T (by omega)
          rw [hTl, dec_val hal hv] at hV
          obtain ⟨V, hVV⟩ : ∃ V, decF 0 t = V := ⟨_, rfl⟩
          rw [hVV] at hV
          have HVV := hide hVV
          clear h20 hTl hTs hal hv HR hVV h21
          go_wp2_with fail
          (with_reducible refine (hV _).mono ?_)
          rintro e w1 ⟨rfl, rfl⟩
          clear hV
          go_wp2_with fail
          refine bodyPost_ret (v := .tuple #[.int .u64 (V : Int), .int .i64 0]) (by simp [results, Tryd.results56, go_sem]) rfl ?_
          exact ⟨by rw [HVV.out], rfl⟩
  · have hn' : (2 : Int) < (s.size : Int) := by omega
    have hn2 : (0 : Int) < (s.size : Int) := by omega
    obtain ⟨f1, f2⟩ := ne_forms hn0
    rw [show ((48 : UInt8).toNat : Int) = 48 from rfl] at f2
    obtain ⟨y, hy⟩ : ∃ y, s[0] = y := ⟨_, rfl⟩
    rw [hy] at f1 f2
    clear hn0
    go_enter Tryd.func56, Tryd.ntmps56
    go_wp2_with fail
    (with_reducible refine (HB.out _).mono ?_)
    rintro e w1 ⟨hb, rfl⟩
    rcases hb with ⟨hal, rfl⟩ | ⟨hal, rfl⟩
    rotate_left
    · obtain rfl : (0, 160) = R := by rw [← HR.out, hal]; rfl
      clear hal
      go_wp2_with fail
      refine bodyPost_ret (v := .tuple #[.int .u64 0, .int .i64 160]) (by simp [results, Tryd.results56, go_sem]) rfl ?_
      exact ⟨rfl, rfl⟩
    · obtain ⟨T, hT⟩ : ∃ T, strOf (strip t) = T := ⟨_, rfl⟩
      have hTl : T.data.toList = strip t := by rw [← hT, strOf_data]
      have hTs : T.size = (strip t).length := by rw [← hT, strOf_size]
      rw [hT]
      clear hT
      by_cases h20 : 20 < T.size
      · have h20' : (20 : Int) < (T.size : Int) := by omega
        obtain rfl : (0, 161) = R := by rw [← HR.out, if_pos hal, if_neg (dec_long hal (by omega))]
        clear h20 hTl hTs hal
        go_wp2_with fail
        refine bodyPost_ret (v := .tuple #[.int .u64 0, .int .i64 161]) (by simp [results, Tryd.results56, go_sem]) rfl ?_
        exact ⟨rfl, rfl⟩
      · have h20' : ¬ (20 : Int) < (T.size : Int) := by omega
        by_cases h21 : T.size = 20
        · have hg := gtr_dec (k := T.toList) (by rw [ByteArray.toList_eq, ← h21]; rfl) (by rw [ByteArray.toList_eq, hTl]; exact fun x hx => (allD_iff.1 hal).2 x (strip_mem _ x hx))
          rw [ByteArray.toList_eq, hTl, strip_keep, ← hTl, ← ByteArray.toList_eq] at hg
          by_cases hv : decF 0 t ≤ 18446744073709551615
          · rw [decide_eq_true hv] at hg
            have HG := hide (fun ty W => run_gtr_most ty T _ hg W)
            clear hg
            obtain rfl : (decF 0 t, 0) = R := by rw [← HR.out, if_pos hal, if_pos hv]
            have hV := HV.out T (by omega)
            rw [hTl, dec_val hal hv] at hV
            obtain ⟨V, hVV⟩ : ∃ V, decF 0 t = V := ⟨_, rfl⟩
            rw [hVV] at hV
            have HVV := hide hVV
            have h21' : (T.size : Int) = 20 := by omega
            clear h20 hTl hTs hal hv HR hVV h21
            go_wp2_with fail
            rw [HG.out]
            go_wp2_with fail
            (with_reducible refine (hV _).mono ?_)
            rintro e w1 ⟨rfl, rfl⟩
            clear hV
            go_wp2_with fail
            refine bodyPost_ret (v := .tuple #[.int .u64 (V : Int), .int .i64 0]) (by simp [results, Tryd.results56, go_sem]) rfl ?_
            exact ⟨by rw [HVV.out], rfl⟩
          · rw [decide_eq_false hv] at hg
            have HG := hide (fun ty W => run_gtr_most ty T _ hg W)
            clear hg
            obtain rfl : (0, 161) = R := by rw [← HR.out, if_pos hal, if_neg hv]
            have h21' : (T.size : Int) = 20 := by omega
            clear h20 hTl hTs hal hv h21
            go_wp2_with fail
            rw [HG.out]
            go_wp2_with fail
            refine bodyPost_ret (v := .tuple #[.int .u64 0, .int .i64 161]) (by simp [results, Tryd.results56, go_sem]) rfl ?_
            exact ⟨rfl, rfl⟩
        · have h21' : ((T.size : Int) == 20) = false := by
            rw [beq_eq_false_iff_ne]
            omega
          have h21'' : ¬ (T.size : Int) = 20 := by omega
          have hv : decF 0 t ≤ 18446744073709551615 := by
            obtain ⟨q1, -⟩ := strip_short hal (by omega)
            omega
          obtain rfl : (decF 0 t, 0) = R := by rw [← HR.out, if_pos hal, if_pos hv]
          have hV := HV.out T (by omega)
          rw [hTl, dec_val hal hv] at hV
          obtain ⟨V, hVV⟩ : ∃ V, decF 0 t = V := ⟨_, rfl⟩
          rw [hVV] at hV
          have HVV := hide hVV
          clear h20 hTl hTs hal hv HR hVV h21
          go_wp2_with fail
          (with_reducible refine (hV _).mono ?_)
          rintro e w1 ⟨rfl, rfl⟩
          clear hV
          go_wp2_with fail
          refine bodyPost_ret (v := .tuple #[.int .u64 (V : Int), .int .i64 0]) (by simp [results, Tryd.results56, go_sem]) rfl ?_
          exact ⟨by rw [HVV.out], rfl⟩
  · have hn' : (2 : Int) < (s.size : Int) := by omega
    have hn2 : (0 : Int) < (s.size : Int) := by omega
    have hn3 : (1 : Int) < (s.size : Int) := by omega
    obtain ⟨f1, f2⟩ := ne_forms hn1
    rw [show ((120 : UInt8).toNat : Int) = 120 from rfl] at f2
    obtain ⟨y, hy⟩ : ∃ y, s[1] = y := ⟨_, rfl⟩
    rw [hy] at f1 f2
    clear hn1
    go_enter Tryd.func56, Tryd.ntmps56
    go_wp2_with fail
    (with_reducible refine (HB.out _).mono ?_)
    rintro e w1 ⟨hb, rfl⟩
    rcases hb with ⟨hal, rfl⟩ | ⟨hal, rfl⟩
    rotate_left
    · obtain rfl : (0, 160) = R := by rw [← HR.out, hal]; rfl
      clear hal
      go_wp2_with fail
      refine bodyPost_ret (v := .tuple #[.int .u64 0, .int .i64 160]) (by simp [results, Tryd.results56, go_sem]) rfl ?_
      exact ⟨rfl, rfl⟩
    · obtain ⟨T, hT⟩ : ∃ T, strOf (strip t) = T := ⟨_, rfl⟩
      have hTl : T.data.toList = strip t := by rw [← hT, strOf_data]
      have hTs : T.size = (strip t).length := by rw [← hT, strOf_size]
      rw [hT]
      clear hT
      by_cases h20 : 20 < T.size
      · have h20' : (20 : Int) < (T.size : Int) := by omega
        obtain rfl : (0, 161) = R := by rw [← HR.out, if_pos hal, if_neg (dec_long hal (by omega))]
        clear h20 hTl hTs hal
        go_wp2_with fail
        refine bodyPost_ret (v := .tuple #[.int .u64 0, .int .i64 161]) (by simp [results, Tryd.results56, go_sem]) rfl ?_
        exact ⟨rfl, rfl⟩
      · have h20' : ¬ (20 : Int) < (T.size : Int) := by omega
        by_cases h21 : T.size = 20
        · have hg := gtr_dec (k := T.toList) (by rw [ByteArray.toList_eq, ← h21]; rfl) (by rw [ByteArray.toList_eq, hTl]; exact fun x hx => (allD_iff.1 hal).2 x (strip_mem _ x hx))
          rw [ByteArray.toList_eq, hTl, strip_keep, ← hTl, ← ByteArray.toList_eq] at hg
          by_cases hv : decF 0 t ≤ 18446744073709551615
          · rw [decide_eq_true hv] at hg
            have HG := hide (fun ty W => run_gtr_most ty T _ hg W)
            clear hg
            obtain rfl : (decF 0 t, 0) = R := by rw [← HR.out, if_pos hal, if_pos hv]
            have hV := HV.out T (by omega)
            rw [hTl, dec_val hal hv] at hV
            obtain ⟨V, hVV⟩ : ∃ V, decF 0 t = V := ⟨_, rfl⟩
            rw [hVV] at hV
            have HVV := hide hVV
            have h21' : (T.size : Int) = 20 := by omega
            clear h20 hTl hTs hal hv HR hVV h21
            go_wp2_with fail
            rw [HG.out]
            go_wp2_with fail
            (with_reducible refine (hV _).mono ?_)
            rintro e w1 ⟨rfl, rfl⟩
            clear hV
            go_wp2_with fail
            refine bodyPost_ret (v := .tuple #[.int .u64 (V : Int), .int .i64 0]) (by simp [results, Tryd.results56, go_sem]) rfl ?_
            exact ⟨by rw [HVV.out], rfl⟩
          · rw [decide_eq_false hv] at hg
            have HG := hide (fun ty W => run_gtr_most ty T _ hg W)
            clear hg
            obtain rfl : (0, 161) = R := by rw [← HR.out, if_pos hal, if_neg hv]
            have h21' : (T.size : Int) = 20 := by omega
            clear h20 hTl hTs hal hv h21
            go_wp2_with fail
            rw [HG.out]
            go_wp2_with fail
            refine bodyPost_ret (v := .tuple #[.int .u64 0, .int .i64 161]) (by simp [results, Tryd.results56, go_sem]) rfl ?_
            exact ⟨rfl, rfl⟩
        · have h21' : ((T.size : Int) == 20) = false := by
            rw [beq_eq_false_iff_ne]
            omega
          have h21'' : ¬ (T.size : Int) = 20 := by omega
          have hv : decF 0 t ≤ 18446744073709551615 := by
            obtain ⟨q1, -⟩ := strip_short hal (by omega)
            omega
          obtain rfl : (decF 0 t, 0) = R := by rw [← HR.out, if_pos hal, if_pos hv]
          have hV := HV.out T (by omega)
          rw [hTl, dec_val hal hv] at hV
          obtain ⟨V, hVV⟩ : ∃ V, decF 0 t = V := ⟨_, rfl⟩
          rw [hVV] at hV
          have HVV := hide hVV
          clear h20 hTl hTs hal hv HR hVV h21
          go_wp2_with fail
          (with_reducible refine (hV _).mono ?_)
          rintro e w1 ⟨rfl, rfl⟩
          clear hV
          go_wp2_with fail
          refine bodyPost_ret (v := .tuple #[.int .u64 (V : Int), .int .i64 0]) (by simp [results, Tryd.results56, go_sem]) rfl ?_
          exact ⟨by rw [HVV.out], rfl⟩
theorem rword_any (s : ByteArray) (hs : s.size ≤ 8388608) (w : World) : Calls Tryd.prog 56 #[.string s] w fun e w' => e = .returned (.tuple #[.int .u64 ((wrdE s.data.toList).1 : Int), .int .i64 (wrdE s.data.toList).2]) ∧ w' = w := by
  have hsz : s.data.toList.length = s.size := rfl
  have hN : ∀ i (hi : i < s.size), s.data.toList[i]'hi = s[i] := fun i hi => rfl
  by_cases h2 : s.data.toList.take 2 = [48, 120]
  · by_cases h3 : 2 < s.size
    · exact rword_hex s hs h2 h3 w
    · refine rword_dec s hs (Or.inl h3) ?_ w
      have e : s.data.toList = [48, 120] := by rw [← h2, List.take_of_length_le (by omega)]
      rw [e]
      decide
  · refine rword_dec s hs ?_ (wrdE_dec h2) w
    by_cases h3 : 2 < s.size
    · by_cases h4 : s[0] = 48
      · refine Or.inr (Or.inr ⟨h3, h4, fun h5 => h2 ?_⟩)
        cases hl : s.data.toList with
        | nil => rw [hl] at hsz; simp at hsz; omega
        | cons a r =>
          cases r with
          | nil => rw [hl] at hsz; simp at hsz; omega
          | cons b r =>
            have q0 := hN 0 (by omega)
            have q1 := hN 1 (by omega)
            simp only [hl] at q0 q1
            rw [h4] at q0
            rw [h5] at q1
            simp at q0 q1
            rw [q0, q1]
            rfl
      · exact Or.inr (Or.inl ⟨h3, h4⟩)
    · exact Or.inl h3
end Go.Proofs.YtfpiibccggjjpaaDoor
