/-
  typed: the codecs of whole numbers and of truth; the reference's PackInt, UnpackInt, PackBool, UnpackBool.
-/
import Derived.Test.YtgbeacfiaegehaaY1
namespace Go.Proofs.Ytgbeacfiaegehaa
open Go.RowKit
set_option linter.unusedVariables false
/-- A whole number's bits, turned so that they rise. -/
def iB (v : Int) : Nat := (v + 9223372036854775808).toNat
/-- The whole number of eight bytes (0 of others). -/
def iU (l : List UInt8) : Int := if l.length = 8 then (bnA 0 l : Int) - 9223372036854775808 else 0
def I64 (v : Int) : Prop := -9223372036854775808 ≤ v ∧ v < 9223372036854775808
theorem iB_lt {v : Int} (h : I64 v) : iB v < 18446744073709551616 := by
  unfold I64 at h; unfold iB; omega
theorem iB_lt_iff {v u : Int} (h : I64 v) (k : I64 u) : iB v < iB u ↔ v < u := by
  unfold I64 at h k; unfold iB; omega
theorem iB_inj {v u : Int} (h : I64 v) (k : I64 u) : iB v = iB u ↔ v = u := by
  unfold I64 at h k; unfold iB; omega
theorem iU_iB {v : Int} (h : I64 v) : iU (be 8 (iB v)) = v := by
  have h1 := iB_lt h
  unfold iU
  rw [if_pos (be_length _ _), bn_be8 h1]
  unfold I64 at h; unfold iB; omega

theorem tyi_Pack (v : Int) (h : I64 v) (w : World) : Calls Try.prog 8 #[.agg #[], .int .i64 v] w fun e w' => e = .returned (.tuple #[.string (strOf (be 8 (iB v))), .bool true]) ∧ Keeps w w' (fun _ => False) := by
  have hb := bytesOf_any (iB v) (iB_lt h)
  obtain ⟨h1, h2⟩ := h
  have e1 : IntKind.u64.wrap (IntKind.u64.wrap v + 9223372036854775808) = (iB v : Int) := by simp only [IntKind.wrap_u64]; unfold iB; omega
  generalize iB v = B at *
  go_enter Try.func8, Try.ntmps8
  go_wp2_with fail
  (with_reducible refine (hb _).mono ?_)
  rintro e w1 ⟨rfl, K⟩
  go_wp2_with fail
  go_ret2
  exact ⟨rfl, ((Keeps.refl _ _).alloc _).trans K (fun _ _ x => x)⟩

theorem tyu_Pack (v : Nat) (h : v < 18446744073709551616) (w : World) : Calls Try.prog 9 #[.agg #[], .int .u64 (v : Int)] w fun e w' => e = .returned (.tuple #[.string (strOf (be 8 v)), .bool true]) ∧ Keeps w w' (fun _ => False) := by
  have hb := bytesOf_any v h
  go_enter Try.func9, Try.ntmps9
  go_wp2_with fail
  (with_reducible refine (hb _).mono ?_)
  rintro e w1 ⟨rfl, K⟩
  go_wp2_with fail
  go_ret2
  exact ⟨rfl, ((Keeps.refl _ _).alloc _).trans K (fun _ _ x => x)⟩

theorem tyu_Unpack (s : ByteArray) (w : World) : Calls Try.prog 19 #[.agg #[], .string s] w fun e w' => e = .returned (.int .u64 (num8 s.data.toList : Int)) ∧ Keeps w w' (fun _ => False) := by
  by_cases h : s.size = 8
  · rw [num8_yes h]
    have hb := numberOf_yes s h
    go_enter Try.func19, Try.ntmps19
    go_wp2_with fail
    (with_reducible refine (hb _).mono ?_)
    rintro e w1 ⟨rfl, rfl⟩
    go_wp2_with fail
    go_ret
    exact ⟨rfl, (Keeps.refl _ _).alloc _⟩
  · rw [num8_no h]
    have hb := numberOf_no s h
    go_enter Try.func19, Try.ntmps19
    go_wp2_with fail
    (with_reducible refine (hb _).mono ?_)
    rintro e w1 ⟨rfl, rfl⟩
    go_wp2_with fail
    go_ret
    exact ⟨rfl, (Keeps.refl _ _).alloc _⟩

theorem tyi_Unpack (s : ByteArray) (w : World) : Calls Try.prog 18 #[.agg #[], .string s] w fun e w' => e = .returned (.int .i64 (iU s.data.toList)) ∧ Keeps w w' (fun _ => False) := by
  by_cases h : s.size = 8
  · have hb := numberOf_yes s h
    have hlt := bn8_lt (l := s.data.toList) h
    have e0 : iU s.data.toList = (bnA 0 s.data.toList : Int) - 9223372036854775808 := if_pos h
    have e2 : wrap64 (IntKind.u64.wrap ((bnA 0 s.data.toList : Int) - 9223372036854775808)) = (bnA 0 s.data.toList : Int) - 9223372036854775808 := by
      rw [IntKind.wrap_u64]; unfold wrap64; omega
    replace e2 := e2.trans e0.symm
    generalize iU s.data.toList = R at *
    generalize bnA 0 s.data.toList = B at *
    have E2 := hide e2
    clear e2 e0
    go_enter Try.func18, Try.ntmps18
    go_wp2_with fail
    (with_reducible refine (hb _).mono ?_)
    rintro e w1 ⟨rfl, rfl⟩
    go_wp2_with fail
    go_ret
    exact ⟨congrArg (fun z => Ending.returned (.int .i64 z)) E2.out, (Keeps.refl _ _).alloc _⟩
  · have e0 : iU s.data.toList = 0 := if_neg h
    rw [e0]
    have hb := numberOf_no s h
    go_enter Try.func18, Try.ntmps18
    go_wp2_with fail
    (with_reducible refine (hb _).mono ?_)
    rintro e w1 ⟨rfl, rfl⟩
    go_wp2_with fail
    go_ret
    exact ⟨rfl, (Keeps.refl _ _).alloc _⟩

/-- A truth as a byte; a byte as a truth. -/
def bB (b : Bool) : List UInt8 := if b then [1] else [0]
def bU (l : List UInt8) : Bool := decide (l.length = 1) && decide (l ≠ [0])
theorem tyb_Pack (v : Bool) (w : World) : Calls Try.prog 11 #[.agg #[], .bool v] w fun e w' => e = .returned (.tuple #[.string (strOf (bB v)), .bool true]) ∧ Keeps w w' (fun _ => False) := by
  cases v
  all_goals
    go_enter Try.func11, Try.ntmps11
    go_wp2_with fail
    go_ret2
    exact ⟨rfl, (Keeps.refl _ _).alloc _⟩

theorem rPackBool (v : Bool) (w : World) : Calls Try.prog 53 #[.bool v] w fun e w' => e = .returned (.string (strOf (bB v))) ∧ w' = w := by
  cases v
  all_goals
    go_enter Try.func53, Try.ntmps53
    go_wp2_with fail
    go_ret
    exact ⟨rfl, rfl⟩

theorem tyb_Unpack (s : ByteArray) (w : World) : Calls Try.prog 20 #[.agg #[], .string s] w fun e w' => e = .returned (.bool (bU s.data.toList)) ∧ Keeps w w' (fun _ => False) := by
  by_cases h : s.size = 1
  · have h1 : ((s.size : Int) == 1) = true := by rw [beq_iff_eq]; omega
    have h2 : (0 : Int) < (s.size : Int) := by omega
    obtain ⟨x, hx⟩ : ∃ x, s.data.toList = [x] := List.length_eq_one_iff.1 h
    have hx0 : s[0]'(by omega) = x := by
      have : s.data.toList[0]'(by rw [hx]; simp) = x := by simp [hx]
      exact this
    have e0 : bU s.data.toList = decide (x ≠ 0) := by rw [hx]; unfold bU; simp
    have e3 : ((x.toNat : Int) != 0) = decide (x ≠ 0) := by
      by_cases h0 : x = 0
      · subst h0; rfl
      · rw [decide_eq_true h0, bne_iff_ne]
        intro q
        exact h0 (UInt8.toNat_inj.1 (by simpa using q))
    rw [e0]
    generalize decide (x ≠ 0) = b at *
    go_enter Try.func20, Try.ntmps20
    go_wp2_with fail
    go_ret
    exact ⟨rfl, (Keeps.refl _ _).alloc _⟩
  · have h1 : ((s.size : Int) == 1) = false := by rw [beq_eq_false_iff_ne]; omega
    have e0 : bU s.data.toList = false := by
      have h' : ¬ s.data.toList.length = 1 := h
      unfold bU
      rw [decide_eq_false h']
      rfl
    rw [e0]
    go_enter Try.func20, Try.ntmps20
    go_wp2_with fail
    go_ret
    exact ⟨rfl, (Keeps.refl _ _).alloc _⟩

theorem rUnpackBool (s : ByteArray) (w : World) : Calls Try.prog 56 #[.string s] w fun e w' => e = .returned (.bool (bU s.data.toList)) ∧ w' = w := by
  by_cases h : s.size = 1
  · have h1 : ((s.size : Int) == 1) = true := by rw [beq_iff_eq]; omega
    have e0 : (!s.toList == [0]) = bU s.data.toList := by
      have h' : s.data.toList.length = 1 := h
      unfold bU
      rw [ByteArray.toList_eq, decide_eq_true h', Bool.true_and]
      by_cases q : s.data.toList = [0]
      · rw [q]; rfl
      · rw [decide_eq_true q, show (s.data.toList == [0]) = false by simpa using q]; rfl
    generalize bU s.data.toList = b at *
    go_enter Try.func56, Try.ntmps56
    go_wp2_with fail
    go_ret
    exact ⟨rfl, rfl⟩
  · have h1 : ((s.size : Int) == 1) = false := by rw [beq_eq_false_iff_ne]; omega
    have e0 : bU s.data.toList = false := by
      have h' : ¬ s.data.toList.length = 1 := h
      unfold bU
      rw [decide_eq_false h']
      rfl
    rw [e0]
    go_enter Try.func56, Try.ntmps56
    go_wp2_with fail
    go_ret
    exact ⟨rfl, rfl⟩

theorem rPackInt (v : Int) (h : I64 v) (w : World) : Calls Try.prog 33 #[.int .i64 v] w fun e w' => e = .returned (.string (strOf (be 8 (iB v)))) ∧ Keeps w w' (fun _ => False) := by
  have hb := rBytes_any (iB v) (iB_lt h)
  obtain ⟨h1, h2⟩ := h
  by_cases h0 : v < 0
  · have e1 : (9223372036854775808 + (v + 1) - 1 : Int) = (iB v : Int) := by unfold iB; omega
    generalize iB v = B at *
    go_enter Try.func33, Try.ntmps33
    go_wp2_with fail
    (with_reducible refine (hb _).mono ?_)
    rintro e w1 ⟨rfl, K⟩
    go_wp2_with fail
    go_ret
    exact ⟨rfl, K⟩
  · have e1 : (9223372036854775808 + v : Int) = (iB v : Int) := by unfold iB; omega
    generalize iB v = B at *
    go_enter Try.func33, Try.ntmps33
    go_wp2_with fail
    (with_reducible refine (hb _).mono ?_)
    rintro e w1 ⟨rfl, K⟩
    go_wp2_with fail
    go_ret
    exact ⟨rfl, K⟩

set_option maxRecDepth 100000 in
theorem rUnpackInt (s : ByteArray) (w : World) : Calls Try.prog 39 #[.string s] w fun e w' => e = .returned (.int .i64 (iU s.data.toList)) ∧ w' = w := by
  have hb := rNumber_any s
  by_cases h : s.size = 8
  · have h1 : ((s.size : Int) != 8) = false := by rw [h]; rfl
    have hlt := num8_lt s.data.toList
    have e0 : iU s.data.toList = (num8 s.data.toList : Int) - 9223372036854775808 := by
      rw [num8_yes h]
      exact if_pos h
    generalize iU s.data.toList = R at *
    generalize num8 s.data.toList = B at *
    by_cases hB : 9223372036854775808 ≤ B
    · have hB' : (9223372036854775808 : Int) ≤ (B : Int) := by omega
      subst e0
      go_enter Try.func39, Try.ntmps39
      go_wp2_with fail
      (with_reducible refine (hb _).mono ?_)
      rintro e w1 ⟨rfl, rfl⟩
      go_wp2_with fail
      go_ret
      exact ⟨rfl, rfl⟩
    · have hB' : ¬ (9223372036854775808 : Int) ≤ (B : Int) := by omega
      obtain ⟨C, hC, hC2⟩ : ∃ C : Int, (9223372036854775807 : Int) - (B : Int) = C ∧ -C - 1 = R := ⟨_, rfl, by omega⟩
      have hC0 : 0 ≤ C := by omega
      have hC1 : C < 9223372036854775808 := by omega
      have w1 : IntKind.u64.wrap C = C := by rw [IntKind.wrap_u64]; omega
      have w2 : wrap64 C = C := by unfold wrap64; omega
      have HR := hide hC2
      clear hC2 e0 hC1 hlt hB
      have hB'' : decide ((9223372036854775808 : Int) ≤ (B : Int)) = false := decide_eq_false hB'
      go_enter Try.func39, Try.ntmps39
      go_wp2_with fail
      (with_reducible refine (hb _).mono ?_)
      rintro e w1 ⟨rfl, rfl⟩
      go_wp2_with fail
      go_ret
      exact ⟨congrArg (fun z => Ending.returned (.int .i64 z)) HR.out, rfl⟩
  · have h1 : ((s.size : Int) != 8) = true := by rw [bne_iff_ne]; omega
    have e0 : iU s.data.toList = 0 := if_neg h
    rw [e0]
    go_enter Try.func39, Try.ntmps39
    go_wp2_with fail
    go_ret
    exact ⟨rfl, rfl⟩
end Go.Proofs.Ytgbeacfiaegehaa
