/-
  script: bytesOf.
-/
import Derived.Test.YtomlmbhbadicbaaDoorSC16
namespace Go.Proofs.YtomlmbhbadicbaaDoor
open Go.RowKit
set_option linter.unusedVariables false

set_option maxRecDepth 100000 in
set_option maxHeartbeats 2000000 in
theorem clone_any (s : ByteArray) (hs : s.size ≤ 8388608) (w : World) : Calls Tryd.prog 37 #[.string s] w fun e w' => e = .returned (.string s) ∧ Keeps w w' (fun _ => False) := by
  have hC := Tryd.stringslite_Clone s w (by omega)
  go_enter Tryd.func37, Tryd.ntmps37
  go_wp2_with fail
  refine hC.mono ?_
  rintro e w1 ⟨rfl, hb⟩
  go_wp2_with fail
  go_ret
  exact ⟨rfl, keeps_of_below hb⟩

def bytD (s : ByteArray) : ByteArray × Int :=
  if s = ⟨#[45]⟩ then (⟨#[]⟩, 0)
  else if 1 < s.size ∧ s.data.toList[0]? = some 39 then (s.extract 1 s.size, 0)
  else if s.size % 2 = 0 ∧ allD 16 s.data.toList = true then (strOf (pairsD s.data.toList), 0)
  else (⟨#[]⟩, 160)
set_option maxRecDepth 100000 in
set_option maxHeartbeats 2000000 in
theorem bytes_any (s : ByteArray) (hs : s.size ≤ 8388608) (w : World) : Calls Tryd.prog 27 #[.string s] w fun e w' => e = .returned (.tuple #[.string (bytD s).1, .int .i64 (bytD s).2]) ∧ Keeps w w' (fun _ => False) := by
  by_cases h0 : s = ⟨#[45]⟩
  · subst h0
    have e1 : bytD ⟨#[45]⟩ = (⟨#[]⟩, 0) := by simp [bytD]
    rw [e1]
    go_enter Tryd.func27, Tryd.ntmps27
    go_wp2_with fail
    refine bodyPost_ret (v := .tuple #[.string ⟨#[]⟩, .int .i64 0]) (by simp [results, Tryd.results27, go_sem]) rfl ?_
    exact ⟨rfl, Keeps.refl _ _⟩
  · have n0 : (s.toList == [45]) = false := by
      have h := str_no h0
      rw [show (⟨#[45]⟩ : ByteArray).toList = [45] from by simp [ByteArray.toList_eq]] at h
      exact h
    by_cases h1 : 1 < s.size ∧ s.data.toList[0]? = some 39
    · have e1 : bytD s = (s.extract 1 s.size, 0) := by rw [bytD, if_neg h0, if_pos h1]
      rw [e1]
      obtain ⟨h1, h2⟩ := h1
      have hC := fun W => clone_any (s.extract 1 s.size) (by rw [ByteArray.size_extract]; omega) W
      have hp : 0 < s.size := by omega
      have e2 : (((s[0]'hp).toNat : Int) == 39) = true := by
        have hl : s.data.toList[0]? = some (s[0]'hp) := by
          rw [List.getElem?_eq_getElem (show 0 < s.data.toList.length from hp)]
          rfl
        rw [hl] at h2
        injection h2 with h2
        rw [h2]
        decide
      clear h2 e1
      go_enter Tryd.func27, Tryd.ntmps27
      go_wp2_with fail
      refine (hC _).mono ?_
      rintro e w1 ⟨rfl, k1⟩
      have K1 := hide k1
      clear k1
      go_wp2_with fail
      refine bodyPost_ret (v := .tuple #[.string (s.extract 1 s.size), .int .i64 0]) (by simp [results, Tryd.results27, go_sem]) rfl ?_
      exact ⟨rfl, K1.out⟩
    · obtain ⟨T, hT⟩ : ∃ T, bytD s = T := ⟨_, rfl⟩
      have hA := fun W => allDigits_any s 16 (by omega) W
      have hP := fun (h : allD 16 s.data.toList = true) W => pairs_any s hs (allD_iff.1 h).2 W
      have hq : (1 < s.size ∧ ∃ hp : 0 < s.size, (((s[0]'hp).toNat : Int) == 39) = false) ∨ s.size ≤ 1 := by
        rcases Nat.lt_or_ge 1 s.size with q | q
        · have hp : 0 < s.size := by omega
          refine Or.inl ⟨q, hp, ?_⟩
          have hl : s.data.toList[0]? = some (s[0]'hp) := by
            rw [List.getElem?_eq_getElem (show 0 < s.data.toList.length from hp)]
            rfl
          have h3 : (s[0]'hp) ≠ 39 := fun e => h1 ⟨q, by rw [hl, e]⟩
          simp only [beq_eq_false_iff_ne, ne_eq]
          exact fun e => h3 (UInt8.toNat_inj.1 (by rw [show (39 : UInt8).toNat = 39 from rfl]; omega))
        · exact Or.inr q
      have hD : bytD s = if s.size % 2 = 0 ∧ allD 16 s.data.toList = true then (strOf (pairsD s.data.toList), 0) else (⟨#[]⟩, 160) := by rw [bytD, if_neg h0, if_neg h1]
      rw [hD]
      clear hD hT h1 h0
      generalize strOf (pairsD s.data.toList) = S at *
      generalize allD 16 s.data.toList = A at *
      have HP := hide hP
      clear hP
      rcases hq with ⟨q, hp, e2⟩ | q
      all_goals
        rcases Nat.mod_two_eq_zero_or_one s.size with hm | hm
        · have e3 : ((s.size : Int) % 2 == 0) = true := by
            have : (s.size : Int) % 2 = 0 := by omega
            simp [this]
          cases A with
          | true =>
            rw [if_pos ⟨hm, rfl⟩]
            go_enter Tryd.func27, Tryd.ntmps27
            go_wp2_with fail
            refine (hA _).mono ?_
            rintro e w1 ⟨rfl, k1⟩
            have K1 := hide k1
            clear k1
            go_wp2_with fail
            refine (HP.out (by first | trivial | rfl) _).mono ?_
            rintro e w2 ⟨rfl, k2⟩
            have K2 := hide (K1.out.trans k2 (fun _ _ e => e))
            clear k2
            go_wp2_with fail
            refine bodyPost_ret (v := .tuple #[.string S, .int .i64 0]) (by simp [results, Tryd.results27, go_sem]) rfl ?_
            exact ⟨rfl, K2.out⟩
          | false =>
            rw [if_neg (fun h => by cases h.2)]
            go_enter Tryd.func27, Tryd.ntmps27
            go_wp2_with fail
            refine (hA _).mono ?_
            rintro e w1 ⟨rfl, k1⟩
            have K1 := hide k1
            clear k1
            go_wp2_with fail
            refine bodyPost_ret (v := .tuple #[.string ⟨#[]⟩, .int .i64 160]) (by simp [results, Tryd.results27, go_sem]) rfl ?_
            exact ⟨rfl, K1.out⟩
        · have e3 : ((s.size : Int) % 2 == 0) = false := by
            have : (s.size : Int) % 2 = 1 := by omega
            simp [this]
          rw [if_neg (fun h => by omega)]
          go_enter Tryd.func27, Tryd.ntmps27
          go_wp2_with fail
          refine bodyPost_ret (v := .tuple #[.string ⟨#[]⟩, .int .i64 160]) (by simp [results, Tryd.results27, go_sem]) rfl ?_
          exact ⟨rfl, Keeps.refl _ _⟩
theorem bytD_small (s : ByteArray) : (bytD s).1.size ≤ s.size := by
  unfold bytD
  split
  · exact Nat.zero_le _
  · split
    · show (s.extract 1 s.size).size ≤ s.size
      rw [ByteArray.size_extract]
      omega
    · split
      · show (pairsD s.data.toList).toArray.size ≤ s.size
        rw [List.size_toArray, pairs_len]
        have : s.data.toList.length = s.size := rfl
        omega
      · exact Nat.zero_le _
theorem bytD_dash : bytD ⟨#[45]⟩ = (⟨#[]⟩, 0) := by decide
theorem bytD_61 : bytD ⟨#[54, 49]⟩ = (⟨#[97]⟩, 0) := by decide
end Go.Proofs.YtomlmbhbadicbaaDoor
