/-
  script: the reference's bare.
-/
import Derived.Test.YtfpiibccggjjpaaDoorHSE3
namespace Go.Proofs.YtfpiibccggjjpaaDoor
open Go.RowKit
set_option linter.unusedVariables false
/-- Without the zeros in front. -/
def strip : List UInt8 → List UInt8
  | a :: b :: r => if a = 48 then strip (b :: r) else a :: b :: r
  | l => l
theorem strip_len : ∀ l : List UInt8, (strip l).length ≤ l.length
  | [] => Nat.le_refl _
  | [a] => Nat.le_refl _
  | a :: b :: r => by
    unfold strip
    split
    · have := strip_len (b :: r)
      simp at this ⊢
      omega
    · exact Nat.le_refl _
theorem rdD_neg {x : UInt8} : rdD (x.toNat : Int) 10 < 0 ↔ ¬ digD (x.toNat : Int) < 10 := by
  have := digD_pos (x.toNat : Int) (by omega)
  unfold rdD
  split
  · omega
  · omega
theorem list_two {T : ByteArray} (h : 1 < T.size) : ∃ a b r, T.data.toList = a :: b :: r ∧ T[0] = a := by
  have hl : T.data.toList.length = T.size := rfl
  match hT : T.data.toList, hl with
  | a :: b :: r, _ =>
    refine ⟨a, b, r, rfl, ?_⟩
    have : T.data.toList[0]? = some a := by rw [hT]; rfl
    have h2 : T.data.toList[0]? = some T[0] := by
      rw [List.getElem?_eq_getElem (by rw [hT]; simp)]
      rfl
    rw [h2] at this
    exact Option.some.inj this
  | [a], e => simp at e; omega
  | [], e => simp at e; omega
theorem ext_one {T : ByteArray} : (T.extract 1 T.size).data.toList = T.data.toList.drop 1 := by
  rw [ByteArray.data_extract]
  simp
  apply List.take_of_length_le
  rw [List.length_tail]
  have : T.data.toList.length = T.size := rfl
  omega
theorem strip_same {T : ByteArray} (h : ¬ 1 < T.size) : strip T.data.toList = T.data.toList := by
  have hl : T.data.toList.length = T.size := rfl
  match hT : T.data.toList, hl with
  | a :: b :: r, e => simp at e; omega
  | [a], e => rfl
  | [], e => rfl
set_option maxRecDepth 100000 in
set_option maxHeartbeats 2000000 in
theorem bare_any (s : ByteArray) (hs : s.size ≤ 8388608) (w : World) : Calls Tryd.prog 69 #[.string s, .int .i64 10] w fun e w' => ((allD 10 s.data.toList = true ∧ e = .returned (.tuple #[.string (strOf (strip s.data.toList)), .bool true])) ∨ (allD 10 s.data.toList = false ∧ e = .returned (.tuple #[.string ⟨#[]⟩, .bool false]))) ∧ w' = w := by
  have HY : Hid (s.data.toList ≠ [] → allB 10 s.data.toList → allD 10 s.data.toList = true) := fun a c => allD_iff.2 ⟨a, c⟩
  have HN : Hid (¬ (s.data.toList ≠ [] ∧ allB 10 s.data.toList) → allD 10 s.data.toList = false) := fun a => by
    cases h : allD 10 s.data.toList with
    | true => exact absurd (allD_iff.1 h) a
    | false => rfl
  have hsz : s.data.toList.length = s.size := rfl
  by_cases h0 : s.data.toList = []
  · have hs0 : s = ⟨#[]⟩ := ByteArray.ext (Array.toList_inj.1 h0)
    subst hs0
    go_enter Tryd.func69, Tryd.ntmps69
    go_wp2_with fail
    refine bodyPost_ret (v := .tuple #[.string ⟨#[]⟩, .bool false]) (by simp [results, Tryd.results69, go_sem]) rfl ?_
    exact ⟨Or.inr ⟨HN.out (fun q => q.1 rfl), rfl⟩, rfl⟩
  have hne : s.toList.isEmpty = false := by
    rw [ByteArray.toList_eq, List.isEmpty_eq_false_iff]
    exact h0
  have hne2 : (s.toList == []) = false := by
    rw [ByteArray.toList_eq]
    simpa using h0
  have HD := hide (fun (c : Int) (W : World) => rdigit_any c 10 ⟨by omega, by omega⟩ W)
  have H0 := hide h0
  clear h0
  go_enter Tryd.func69, Tryd.ntmps69
  go_wp2_with fail
  go_loopw [6] (fun v6 wr => ∃ i : Nat, v6 = .int .i64 (i : Int) ∧ i ≤ s.size ∧ Hid (allB 10 (s.data.toList.take i)) ∧ wr = w) (fun v6 _ => s.size - (intOf v6).toNat)
  case atStart => exact ⟨0, rfl, Nat.zero_le _, fun x hx => by simp at hx, rfl⟩
  case round =>
    obtain ⟨i, rfl, hi, hal, rfl⟩ := hrel
    by_cases hlt : i < s.size
    · have hlt' : (i : Int) < (s.size : Int) := by omega
      obtain ⟨x, hx⟩ : ∃ x, s[i] = x := ⟨_, rfl⟩
      have hxl : s.data.toList[i]'(by omega) = x := hx
      have b4 : i ≤ 1099511627776 := by omega
      have Hi : Hid (i + 1 ≤ s.size) := hlt
      have Hms : Hid (s.size - (i + 1) < s.size - i) := by show s.size - (i + 1) < s.size - i; omega
      obtain ⟨a6, a7⟩ := wr64s b4
      by_cases hd : digD (x.toNat : Int) < 10
      · have hd' : ¬ rdD (x.toNat : Int) 10 < 0 := fun e => rdD_neg.1 e hd
        have HX : Hid (allB 10 (s.data.toList.take (i + 1))) := fun y hy => by
          rw [List.take_succ_eq_append_getElem (by omega), List.mem_append] at hy
          rcases hy with hy | hy
          · exact hal.out y hy
          · rw [List.mem_singleton.1 hy, hxl]; exact hd
        clear b4 hxl hsz hd hal
        go_wp2_with fail
        (with_reducible refine (HD.out _ _).mono ?_)
        rintro e w1 ⟨rfl, rfl⟩
        generalize rdD (x.toNat : Int) 10 = R at *
        go_wp2_with fail
        go_roundw
        case rel => exact ⟨i + 1, by go_num, Hi.out, HX, by first | rfl | trivial⟩
        case measure => simp [intOf]; exact Hms.out
      · have hd' : rdD (x.toNat : Int) 10 < 0 := rdD_neg.2 hd
        have HF : Hid (allD 10 s.data.toList = false) := HN.out (fun q => hd (q.2 x (by rw [← hxl]; exact List.getElem_mem _)))
        clear b4 hxl hsz hd hal HY HN
        go_wp2_with fail
        (with_reducible refine (HD.out _ _).mono ?_)
        rintro e w1 ⟨rfl, rfl⟩
        generalize rdD (x.toNat : Int) 10 = R at *
        go_wp2_with fail
        refine bodyPost_ret (v := .tuple #[.string ⟨#[]⟩, .bool false]) (by simp [results, Tryd.results69, go_sem]) rfl ?_
        exact ⟨Or.inr ⟨HF.out, rfl⟩, rfl⟩
    · obtain rfl : i = s.size := by omega
      have hlt' : ¬ (s.size : Int) < (s.size : Int) := by omega
      rw [List.take_of_length_le (Nat.le_of_eq hsz)] at hal
      have HT : Hid (allD 10 s.data.toList = true) := HY.out H0.out hal.out
      clear hal HY HN hne hne2
      go_wp2_with fail
      go_loopw [0] (fun v0 wr2 => ∃ T : ByteArray, v0 = .string T ∧ T.size ≤ s.size ∧ Hid (strip T.data.toList = strip s.data.toList) ∧ wr2 = wr) (fun v0 _ => match v0 with | .string T => T.size | _ => 0)
      case atStart => exact ⟨s, rfl, Nat.le_refl _, rfl, rfl⟩
      case round =>
        obtain ⟨T, rfl, hTs, hst, rfl⟩ := hrel
        clear hi hlt hlt' HD H0
        have hfin : strip T.data.toList = T.data.toList → strOf (strip s.data.toList) = T := fun e => by
          rw [← hst.out, e, strOf_self]
        have HF := hide hfin
        clear hfin
        by_cases h1 : 1 < T.size
        · have h1' : (1 : Int) < (T.size : Int) := by omega
          have h1'' : (1 : Int) ≤ (T.size : Int) := by omega
          have h1z : (0 : Int) < (T.size : Int) := by omega
          obtain ⟨a, b, r, hl, ha⟩ := list_two h1
          by_cases hx : a = 48
          · have hx0 : T[0] = 48 := ha.trans hx
            have HN : Hid ((T.extract 1 T.size).size ≤ s.size ∧ Hid (strip (T.extract 1 T.size).data.toList = strip s.data.toList)) := by
              refine ⟨?_, ?_⟩
              · rw [ByteArray.size_extract]
                omega
              · show strip _ = _
                rw [ext_one, ← hst.out, hl]
                conv => rhs; unfold strip
                rw [if_pos hx]
                rfl
            have Hms : Hid ((T.extract 1 T.size).size < T.size) := by
              show (T.extract 1 T.size).size < T.size
              rw [ByteArray.size_extract]
              omega
            clear hst hl ha hx HF hTs
            go_wp2_with fail
            go_roundw
            case rel => exact ⟨_, rfl, HN.out.1, HN.out.2, by first | rfl | trivial⟩
            case measure => exact Hms.out
          · have HE := hide (HF.out (by rw [hl]; unfold strip; rw [if_neg hx]))
            have hx0 : (T[0] == 48) = false := by rw [ha]; simpa using hx
            have hx1 : ((T[0].toNat : Int) == 48) = false := by
              rw [ha, beq_eq_false_iff_ne]
              intro e
              apply hx
              have e2 : a.toNat = 48 := by omega
              exact UInt8.toNat_inj.1 e2
            obtain ⟨y, hy⟩ : ∃ y, T[0] = y := ⟨_, rfl⟩
            rw [hy] at hx0 hx1
            clear hst hl ha hx HF
            go_wp2_with fail
            refine bodyPost_ret (v := .tuple #[.string T, .bool true]) (by simp [results, Tryd.results69, go_sem]) rfl ?_
            exact ⟨Or.inl ⟨HT.out, by rw [HE.out]⟩, rfl⟩
        · have h1' : ¬ (1 : Int) < (T.size : Int) := by omega
          have HE := hide (HF.out (strip_same h1))
          clear HF hst
          go_wp2_with fail
          refine bodyPost_ret (v := .tuple #[.string T, .bool true]) (by simp [results, Tryd.results69, go_sem]) rfl ?_
          exact ⟨Or.inl ⟨HT.out, by rw [HE.out]⟩, rfl⟩
end Go.Proofs.YtfpiibccggjjpaaDoor
