/-
  script: the reference's value and bare.
-/
import Derived.Test.YtfpiibccggjjpaaDoorHSE1
namespace Go.Proofs.YtfpiibccggjjpaaDoor
open Go.RowKit
set_option linter.unusedVariables false
def vstep (v : Int) (x : UInt8) : Int := IntKind.u64.wrap (IntKind.u64.wrap (v * 10) + IntKind.u64.wrap (rdD (x.toNat : Int) 10))
def valD (l : List UInt8) : Int := l.foldl vstep 0
theorem valD_take {l : List UInt8} {i : Nat} (h : i < l.length) : valD (l.take (i + 1)) = vstep (valD (l.take i)) l[i] := by
  unfold valD
  rw [List.take_succ_eq_append_getElem h, List.foldl_append]
  rfl
theorem vstep_u64 (v : Int) (x : UInt8) : 0 ≤ vstep v x ∧ vstep v x ≤ 18446744073709551615 := by
  unfold vstep
  rw [IntKind.wrap_u64]
  omega
theorem valD_u64 (l : List UInt8) : 0 ≤ valD l ∧ valD l ≤ 18446744073709551615 := by
  rcases List.eq_nil_or_concat l with rfl | ⟨l', x, rfl⟩
  · exact ⟨by decide, by decide⟩
  · unfold valD
    rw [List.concat_eq_append, List.foldl_append]
    exact vstep_u64 _ x
theorem rdD_dec {d : Nat} (h : d < 10) : rdD ((UInt8.ofNat (48 + d)).toNat : Int) 10 = (d : Int) := by
  rw [dig_val h]
  have hd : digD ((48 + d : Nat) : Int) = (d : Int) := by
    unfold digD
    rw [if_neg (by omega), if_pos (by omega)]
    omega
  unfold rdD
  rw [hd, if_pos (by omega)]
theorem vstep_dec {v d : Nat} (hd : d < 10) (hv : v * 10 + d ≤ 18446744073709551615) : vstep (v : Int) (UInt8.ofNat (48 + d)) = ((v * 10 + d : Nat) : Int) := by
  unfold vstep
  rw [rdD_dec hd, IntKind.wrap_u64, IntKind.wrap_u64, IntKind.wrap_u64]
  omega
theorem valD_dec : ∀ (k u : Nat), u ≤ k → u ≤ 18446744073709551615 → valD (Lib.decDigits u) = (u : Int)
  | 0, u, hk, hu => by
    rw [dec_unfold, if_pos (by omega)]
    have := vstep_dec (v := 0) (d := u) (by omega) (by omega)
    simpa [valD] using this
  | k + 1, u, hk, hu => by
    rw [dec_unfold]
    split
    · rename_i h
      have := vstep_dec (v := 0) (d := u) h (by omega)
      simpa [valD] using this
    · rename_i h
      have ih := valD_dec k (u / 10) (by omega) (by omega)
      have hm := Nat.mod_lt u (show 0 < 10 by decide)
      unfold valD at ih ⊢
      rw [List.foldl_append, ih]
      show vstep _ _ = _
      rw [vstep_dec hm (by omega)]
      omega
theorem dec_len19 : ∀ (k u : Nat), u < 10 ^ (k + 1) → (Lib.decDigits u).length ≤ k + 1
  | 0, u, h => by
    rw [dec_unfold, if_pos (by omega)]
    simp
  | k + 1, u, h => by
    rw [dec_unfold]
    split
    · simp
    · have ih := dec_len19 k (u / 10) (by rw [Nat.pow_succ] at h; omega)
      rw [List.length_append]
      simp
      omega
set_option maxRecDepth 100000 in
set_option maxHeartbeats 2000000 in
theorem value_any (s : ByteArray) (hs : s.size ≤ 8388608) (w : World) : Calls Tryd.prog 70 #[.string s, .int .i64 10] w fun e w' => e = .returned (.int .u64 (valD s.data.toList)) ∧ w' = w := by
  have hsz : s.data.toList.length = s.size := rfl
  have HD := hide (fun (c : Int) (W : World) => rdigit_any c 10 ⟨by omega, by omega⟩ W)
  go_enter Tryd.func70, Tryd.ntmps70
  go_wp2_with fail
  go_loopw [5, 6] (fun v5 v6 wr => ∃ i : Nat, v6 = .int .i64 (i : Int) ∧ i ≤ s.size ∧ v5 = .int .u64 (valD (s.data.toList.take i)) ∧ wr = w) (fun _ v6 _ => s.size - (intOf v6).toNat)
  case atStart => exact ⟨0, rfl, Nat.zero_le _, rfl, rfl⟩
  case round =>
    obtain ⟨i, rfl, hi, rfl, rfl⟩ := hrel
    by_cases hlt : i < s.size
    · have hlt' : (i : Int) < (s.size : Int) := by omega
      obtain ⟨x, hx⟩ : ∃ x, s[i] = x := ⟨_, rfl⟩
      have hxl : s.data.toList[i]'(by omega) = x := hx
      have HT := hide (valD_take (l := s.data.toList) (i := i) (by omega))
      rw [hxl] at HT
      have b4 : i ≤ 1099511627776 := by omega
      have Hi : Hid (i + 1 ≤ s.size) := hlt
      have Hms : Hid (s.size - (i + 1) < s.size - i) := by show s.size - (i + 1) < s.size - i; omega
      obtain ⟨a6, a7⟩ := wr64s b4
      obtain ⟨V, hV⟩ : ∃ V, valD (s.data.toList.take i) = V := ⟨_, rfl⟩
      rw [hV] at HT ⊢
      clear b4 hxl hsz hV
      go_wp2_with fail
      (with_reducible refine (HD.out _ _).mono ?_)
      rintro e w1 ⟨rfl, rfl⟩
      go_wp2_with fail
      go_roundw
      case rel => exact ⟨i + 1, by go_num, Hi.out, by rw [HT.out]; rfl, by first | rfl | trivial⟩
      case measure => simp [intOf]; exact Hms.out
    · obtain rfl : i = s.size := by omega
      have hlt' : ¬ (s.size : Int) < (s.size : Int) := by omega
      rw [List.take_of_length_le (Nat.le_of_eq hsz)]
      obtain ⟨V, hV⟩ : ∃ V, valD s.data.toList = V := ⟨_, rfl⟩
      rw [hV]
      have HV := hide hV
      clear hV
      go_wp2_with fail
      go_ret
      exact ⟨congrArg (fun z => Ending.returned (Value.int .u64 z)) HV.out.symm, rfl⟩
end Go.Proofs.YtfpiibccggjjpaaDoor
