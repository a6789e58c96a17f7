/-
  script: the reference's Words.
-/
import Derived.Test.YtfpiibccggjjpaaDoorUn13
namespace Go.Proofs.YtfpiibccggjjpaaDoor
open Go.RowKit
set_option linter.unusedVariables false

/-- Between two words of a line. -/
def WdO (l : List UInt8) (i : Nat) : Prop := (wdF (l.take i)).rem = false ∧ ((wdF (l.take i)).cur ≠ [] → ∀ (h : i < l.length), blank l[i] = true)
set_option maxRecDepth 100000 in
set_option maxHeartbeats 8000000 in
theorem rwords_any (s : ByteArray) (hs : s.size ≤ 8388608) (w : World) : Calls Tryd.prog 39 #[.string s] w fun e w' => TextsP (wdsD s.data.toList) w e w' := by
  have hsz : s.data.toList.length = s.size := rfl
  go_enter Tryd.func39, Tryd.ntmps39
  go_wp2_with fail
  go_loopw [3, 4] (fun v3 v4 wr => ∃ i : Nat, v4 = .int .i64 (i : Int) ∧ i ≤ s.size ∧ Hid (WdO s.data.toList i) ∧ (∃ so m c, v3 = .slice so m c) ∧ TextsO w.heap.size wr v3 (wdE (wdF (s.data.toList.take i))) ∧ Keeps w wr (fun _ => False)) (fun _ v4 _ => s.size - (intOf v4).toNat)
  case atStart => exact ⟨0, rfl, Nat.zero_le _, ⟨rfl, fun h => absurd rfl h⟩, ⟨none, 0, 0, rfl⟩, ⟨rfl, Or.inl ⟨rfl, rfl⟩⟩, Keeps.refl _ _⟩
  case round =>
    obtain ⟨i, rfl, hi, HW, ⟨so, m, c, rfl⟩, hrow, K⟩ := hrel
    by_cases hlt : i < s.size
    · have hlt' : (i : Int) < (s.size : Int) := by omega
      have hi0 : (0 : Int) ≤ (i : Int) := by omega
      obtain ⟨x, hx⟩ : ∃ x, s[i] = x := ⟨_, rfl⟩
      have hltl : i < s.data.toList.length := hlt
      have hxl : s.data.toList[i]'hltl = x := hx
      obtain ⟨hrem, hcur⟩ := HW.out
      have hcur' := fun h => hcur h hltl
      rw [hxl] at hcur'
      have hst := wdF_take hltl
      rw [hxl] at hst
      cases hb : blank x with
      | true =>
        have hb2 := (blank_iff x).1 hb
        have HN : Hid (WdO s.data.toList (i + 1) ∧ TextsO w.heap.size wr (.slice so m c) (wdE (wdF (s.data.toList.take (i + 1))))) := by
          unfold WdO
          rw [hst]
          by_cases hc : (wdF (s.data.toList.take i)).cur = []
          · rw [wdS_out_blank hrem hc hb]
            exact ⟨⟨hrem, fun h => absurd hc h⟩, hrow⟩
          · rw [wdS_in_blank hrem hc hb]
            refine ⟨⟨rfl, fun h => absurd rfl h⟩, ?_⟩
            have e : wdE ⟨(wdF (s.data.toList.take i)).ws ++ [(wdF (s.data.toList.take i)).cur], [], false⟩ = wdE (wdF (s.data.toList.take i)) := by
              unfold wdE
              rw [if_pos rfl, if_neg hc]
            rw [e]
            exact hrow
        have Hms : Hid (s.size - (i + 1) < s.size - i) := by show s.size - (i + 1) < s.size - i; omega
        have hwr := hide (wr64s (n := i) (by omega))
        have HK := hide K
        clear HW hrem hcur hcur' hst hrow K hxl hb hsz hltl
        have hx2 : x = 32 ∨ x = 9 := by
          rcases hb2 with e | e
          · exact Or.inl (UInt8.toNat_inj.1 e)
          · exact Or.inr (UInt8.toNat_inj.1 e)
        clear hb2
        rcases hx2 with rfl | rfl
        all_goals (
          obtain ⟨a6, a7⟩ := hwr.out
          go_wp2_with fail
          go_roundw
          case rel => exact ⟨i + 1, by go_num, hlt, HN.out.1, ⟨_, _, _, rfl⟩, HN.out.2, HK.out⟩
          case measure => simp [intOf]; exact Hms.out)
      | false =>
        have hc : (wdF (s.data.toList.take i)).cur = [] := by
          by_cases h : (wdF (s.data.toList.take i)).cur = []
          · exact h
          · have := hcur' h
            rw [hb] at this
            cases this
        have n32 : ¬ x.toNat = 32 := fun e => by
          have := (blank_iff x).2 (Or.inl e)
          rw [hb] at this
          cases this
        have n9 : ¬ x.toNat = 9 := fun e => by
          have := (blank_iff x).2 (Or.inr e)
          rw [hb] at this
          cases this
        have y32 : ((x.toNat : Int) == 32) = false := by rw [beq_eq_false_iff_ne]; omega
        have y9 : ((x.toNat : Int) == 9) = false := by rw [beq_eq_false_iff_ne]; omega
        have z32 : (x == 32) = false := by rw [beq_eq_false_iff_ne]; intro e; exact n32 (by rw [e]; rfl)
        have z9 : (x == 9) = false := by rw [beq_eq_false_iff_ne]; intro e; exact n9 (by rw [e]; rfl)
        by_cases h35 : x = 35
        · have hE : wdF (s.data.toList.take (i + 1)) = ⟨(wdF (s.data.toList.take i)).ws, [], true⟩ := by rw [hst, h35, wdS_out_hash hrem hc]
          have hF := wdF_rem (l := s.data.toList) (i := i + 1) (by rw [hE])
          have HN : Hid (TextsP (wdsD s.data.toList) w (.returned (.slice so m c)) wr) := ⟨_, rfl, by
            rw [wds_eq, hF, hE]
            unfold wdE at hrow ⊢
            rw [if_pos hc] at hrow
            exact hrow, K⟩
          subst h35
          clear HW hrem hcur hcur' hst hrow K hxl hb hsz hltl hc hE hF n32 n9
          go_wp2_with fail
          refine bodyPost_ret (v := .slice so m c) (by simp [results, Tryd.results39, go_sem]) rfl ?_
          exact HN.out
        · have y35 : ((x.toNat : Int) == 35) = false := by
            rw [beq_eq_false_iff_ne]
            intro e
            exact h35 (UInt8.toNat_inj.1 (show x.toNat = 35 by omega))
          have z35 : (x == 35) = false := by simpa using h35
          have HP := hide (And.intro hrem (And.intro hc hrow))
          have HK := hide K
          have Hxb := hide (And.intro hxl (And.intro hb h35))
          clear HW hrem hcur hcur' hst hrow K hxl hb hsz hc n32 n9 h35
          go_wp2_with fail
          go_loopw [4] (fun v4 wx => ∃ j : Nat, v4 = .int .i64 (j : Int) ∧ i ≤ j ∧ j ≤ s.size ∧ wx = wr ∧ Hid (∀ q (h : q < s.data.toList.length), i ≤ q → q < j → blank (s.data.toList[q]) = false)) (fun v4 _ => s.size - (intOf v4).toNat)
          case atStart => exact ⟨i, rfl, Nat.le_refl _, Nat.le_of_lt hlt, rfl, fun q h h1 h2 => by omega⟩
          case round =>
            obtain ⟨j, rfl, hij, hjs, rfl, HQ⟩ := hrel
            by_cases hjl : j < s.size
            · have hjl' : (j : Int) < (s.size : Int) := by omega
              have hj0 : (0 : Int) ≤ (j : Int) := by omega
              obtain ⟨y, hy⟩ : ∃ y, s[j] = y := ⟨_, rfl⟩
              have hyl : s.data.toList[j]'hjl = y := hy
              cases hyb : blank y with
              | true =>
                have HLt : Hid (i < j) := by
                  show i < j
                  rcases Nat.lt_or_ge i j with q | q
                  · exact q
                  · obtain rfl : j = i := by omega
                    have h1 := Hxb.out.2.1
                    rw [← Hxb.out.1, hyl, hyb] at h1
                    cases h1
                have HBl : Hid (∀ (h : j < s.data.toList.length), blank (s.data.toList[j]) = true) := fun h => by rw [hyl]; exact hyb
                have hy2 : y = 32 ∨ y = 9 := by
                  rcases (blank_iff y).1 hyb with e | e
                  · exact Or.inl (UInt8.toNat_inj.1 e)
                  · exact Or.inr (UInt8.toNat_inj.1 e)
                clear hyb hyl
                rcases hy2 with rfl | rfl
                all_goals (
                  have hij2 : i < j := HLt.out
                  have hE := wdF_skip (l := s.data.toList) (i := i) HP.out.1 (Or.inr (fun h => by
                    have := Hxb.out.1
                    rw [this]
                    exact Hxb.out.2.2)) (j - i) (by show i + (j - i) ≤ s.size; omega) (fun q h h1 h2 => HQ.out q h h1 (by omega))
                  rw [show i + (j - i) = j by omega, HP.out.2.1, List.nil_append] at hE
                  have hrow := HP.out.2.2
                  unfold wdE at hrow
                  rw [if_pos HP.out.2.1] at hrow
                  have hfew := (wdF_cur s.data.toList i (by show i ≤ s.size; omega)).2.1
                  obtain ⟨g1, c1, w1, hap, hT, kk⟩ := hrow.more ((s.data.toList.drop i).take (j - i)) (by omega) HK.out.size
                  have e3 : strV ((s.data.toList.drop i).take (j - i)) = .string (s.extract i j) := by
                    rw [extract_eq, List.drop_take]
                    rfl
                  rw [e3] at hap
                  have HN : Hid (WdO s.data.toList j ∧ TextsO w.heap.size w1 (.slice (some ⟨g1, 0, none⟩) ((wdF (s.data.toList.take i)).ws.length + 1) c1) (wdE (wdF (s.data.toList.take j))) ∧ Keeps w w1 (fun _ => False)) := by
                    refine ⟨?_, ?_, HK.out.trans kk (fun q hq e => by
                      have := (ownsRow_block hrow e).1
                      omega)⟩
                    · unfold WdO
                      rw [hE]
                      exact ⟨rfl, fun _ h => HBl.out h⟩
                    · rw [hE]
                      unfold wdE
                      rw [if_neg (fun e => by
                        have := congrArg List.length e
                        rw [List.length_take, List.length_drop] at this
                        have z : s.data.toList.length = s.size := rfl
                        simp at this
                        omega)]
                      exact hT
                  have Hms : Hid (s.size - j < s.size - i) := by show s.size - j < s.size - i; omega
                  have hij3 : (i : Int) ≤ (j : Int) := by omega
                  have hjs3 : (j : Int) ≤ (s.size : Int) := by omega
                  clear hE hrow hfew hT kk e3 HP HQ Hxb HK
                  generalize (wdF (s.data.toList.take i)).ws.length = mm at *
                  go_wp2_with (first | (at_builtin; have _t := hap; refine app_run _ rfl (.tmp 46) (.tmp 51) 42 rfl rfl rfl hap ?_; clear hap))
                  go_roundw
                  case rel => exact ⟨j, rfl, hjs, HN.out.1, ⟨_, _, _, rfl⟩, HN.out.2.1, HN.out.2.2⟩
                  case measure => simp [intOf]; exact Hms.out)
              | false =>
                have n32 : ¬ y.toNat = 32 := fun e => by
                  have := (blank_iff y).2 (Or.inl e)
                  rw [hyb] at this
                  cases this
                have n9 : ¬ y.toNat = 9 := fun e => by
                  have := (blank_iff y).2 (Or.inr e)
                  rw [hyb] at this
                  cases this
                have u32 : ((y.toNat : Int) != 32) = true := by simp; omega
                have u9 : ((y.toNat : Int) != 9) = true := by simp; omega
                have v32 : (y != 32) = true := by simp; intro e; exact n32 (by rw [e]; rfl)
                have v9 : (y != 9) = true := by simp; intro e; exact n9 (by rw [e]; rfl)
                have HQ2 : Hid (∀ q (h : q < s.data.toList.length), i ≤ q → q < j + 1 → blank (s.data.toList[q]) = false) := fun q h h1 h2 => by
                  by_cases e : q = j
                  · subst e
                    rw [hyl]
                    exact hyb
                  · exact HQ.out q h h1 (by omega)
                have Hms : Hid (s.size - (j + 1) < s.size - j) := by show s.size - (j + 1) < s.size - j; omega
                have hwr := hide (wr64s (n := j) (by omega))
                clear hyb hyl n32 n9 HQ
                obtain ⟨a6, a7⟩ := hwr.out
                go_wp2_with fail
                go_roundw
                case rel => exact ⟨j + 1, by go_num, Nat.le_succ_of_le hij, hjl, by first | rfl | trivial, HQ2.out⟩
                case measure => simp [intOf]; exact Hms.out
            · obtain rfl : j = s.size := by omega
              have hjl' : ¬ (s.size : Int) < (s.size : Int) := by omega
              have HLt : Hid (i < s.size) := hlt
              have HBl : Hid (∀ (h : s.size < s.data.toList.length), blank (s.data.toList[s.size]) = true) := fun h => absurd h (Nat.lt_irrefl _)
              have hij2 : i < s.size := HLt.out
              have hE := wdF_skip (l := s.data.toList) (i := i) HP.out.1 (Or.inr (fun h => by
                have := Hxb.out.1
                rw [this]
                exact Hxb.out.2.2)) (s.size - i) (by show i + (s.size - i) ≤ s.size; omega) (fun q h h1 h2 => HQ.out q h h1 (by omega))
              rw [show i + (s.size - i) = s.size by omega, HP.out.2.1, List.nil_append] at hE
              have hrow := HP.out.2.2
              unfold wdE at hrow
              rw [if_pos HP.out.2.1] at hrow
              have hfew := (wdF_cur s.data.toList i (by show i ≤ s.size; omega)).2.1
              obtain ⟨g1, c1, w1, hap, hT, kk⟩ := hrow.more ((s.data.toList.drop i).take (s.size - i)) (by omega) HK.out.size
              have e3 : strV ((s.data.toList.drop i).take (s.size - i)) = .string (s.extract i s.size) := by
                rw [extract_eq, List.drop_take]
                rfl
              rw [e3] at hap
              have HN : Hid (WdO s.data.toList s.size ∧ TextsO w.heap.size w1 (.slice (some ⟨g1, 0, none⟩) ((wdF (s.data.toList.take i)).ws.length + 1) c1) (wdE (wdF (s.data.toList.take s.size))) ∧ Keeps w w1 (fun _ => False)) := by
                refine ⟨?_, ?_, HK.out.trans kk (fun q hq e => by
                  have := (ownsRow_block hrow e).1
                  omega)⟩
                · unfold WdO
                  rw [hE]
                  exact ⟨rfl, fun _ h => HBl.out h⟩
                · rw [hE]
                  unfold wdE
                  rw [if_neg (fun e => by
                    have := congrArg List.length e
                    rw [List.length_take, List.length_drop] at this
                    have z : s.data.toList.length = s.size := rfl
                    simp at this
                    omega)]
                  exact hT
              have Hms : Hid (0 < s.size - i) := by show 0 < s.size - i; omega
              have hij3 : (i : Int) ≤ (s.size : Int) := by omega
              have hjs3 : (s.size : Int) ≤ (s.size : Int) := by omega
              clear hE hrow hfew hT kk e3 HP HQ Hxb HK
              generalize (wdF (s.data.toList.take i)).ws.length = mm at *
              go_wp2_with (first | (at_builtin; have _t := hap; refine app_run _ rfl (.tmp 46) (.tmp 51) 42 rfl rfl rfl hap ?_; clear hap))
              go_roundw
              case rel => exact ⟨s.size, rfl, hjs, HN.out.1, ⟨_, _, _, rfl⟩, HN.out.2.1, HN.out.2.2⟩
              case measure => simp [intOf]; exact Hms.out
    · obtain rfl : i = s.size := by omega
      have hlt' : ¬ (s.size : Int) < (s.size : Int) := by omega
      rw [List.take_of_length_le (Nat.le_of_eq hsz)] at hrow
      have HN : Hid (TextsP (wdsD s.data.toList) w (.returned (.slice so m c)) wr) := ⟨_, rfl, hrow, K⟩
      clear HW hrow K hsz
      go_wp2_with fail
      refine bodyPost_ret (v := .slice so m c) (by simp [results, Tryd.results39, go_sem]) rfl ?_
      exact HN.out
end Go.Proofs.YtfpiibccggjjpaaDoor
