/-
  The reference's words: pow, Empty, Get, Put, Clear.
-/
import Derived.Test.YtbpgjlengpgnnabDoorC3
import Derived.Deep.LoopGhost
namespace Go.Proofs.YtbpgjlengpgnnabDoor
open Go.RowKit
set_option linter.unusedVariables false

theorem pow256 (i : Nat) : ((256 ^ i : Nat) : Int) = (256 : Int) ^ i := by rw [Int.natCast_pow]; rfl
theorem pow_le : ∀ i, i < 8 → 256 ^ i ≤ 72057594037927936 ∧ 0 < 256 ^ i := by decide

set_option maxHeartbeats 1000000 in
theorem rpow_any (i R : Nat) (hi : i < 8) (hR : Hid (R = 256 ^ i)) (w : World) :
    Calls Tryd.prog 31 #[.int .i64 (i : Int)] w fun e w' => e = .returned (.int .u64 (R : Int)) ∧ w' = w := by
  have hi' : (i : Int) < 8 := by omega
  go_enter Tryd.func31, Tryd.ntmps31
  go_wp2_with fail
  go_loopg [3, 4] i (fun g vp vk wx => w = wx ∧ ∃ k : Nat, g = i - k ∧ k ≤ i ∧ vk = .int .i64 (k : Int) ∧ vp = .int .u64 ((256 ^ k : Nat) : Int))
  case atStart => exact ⟨rfl, 0, rfl, Nat.zero_le _, rfl, rfl⟩
  case round =>
    obtain ⟨rfl, k, rfl, hk, rfl, rfl⟩ := hrel
    by_cases hlt : k < i
    · have hlt' : (k : Int) < (i : Int) := by omega
      have hp := (pow_le (k + 1) (by omega)).1
      have hA : Aside (256 ^ (k + 1) = 256 ^ k * 256) := Nat.pow_succ 256 k
      rw [hA.out] at hp
      generalize 256 ^ k = P at *
      go_wp2_with fail
      go_roundg (i - (k + 1))
      case measure => omega
      case rel => exact ⟨rfl, k + 1, rfl, by omega, by simp, by rw [hA.out]; simp⟩
    · have hlt' : ¬ (k : Int) < (i : Int) := by omega
      obtain rfl : k = i := by omega
      have hR2 : Hid (256 ^ k = R) := hR.symm
      clear hR
      generalize 256 ^ k = P at *
      obtain rfl : P = R := hR2
      go_wp2_with fail
      go_ret
      exact ⟨rfl, rfl⟩

def emN : Nat → Nat
  | 0 => 0
  | k + 1 => emN k * 256 + 128
theorem emN_le : ∀ k, k < 8 → emN k * 256 + 128 < 18446744073709551616 := by decide

set_option maxHeartbeats 1000000 in
theorem rempty_any (w : World) :
    Calls Tryd.prog 18 #[] w fun e w' => e = .returned (.int .u64 9259542123273814144) ∧ w' = w := by
  go_enter Tryd.func18, Tryd.ntmps18
  go_wp2_with fail
  go_loopg [1, 2] 8 (fun g vp vk wx => w = wx ∧ ∃ k : Nat, g = 8 - k ∧ k ≤ 8 ∧ vk = .int .i64 (k : Int) ∧ vp = .int .u64 ((emN k : Nat) : Int))
  case atStart => exact ⟨rfl, 0, rfl, Nat.zero_le _, rfl, rfl⟩
  case round =>
    obtain ⟨rfl, k, rfl, hk, rfl, rfl⟩ := hrel
    by_cases hlt : k < 8
    · have hlt' : (k : Int) < 8 := by omega
      have hp := emN_le k hlt
      have hA : Aside (emN (k + 1) = emN k * 256 + 128) := rfl
      generalize emN k = P at *
      go_wp2_with fail
      go_roundg (8 - (k + 1))
      case measure => omega
      case rel => exact ⟨rfl, k + 1, rfl, by omega, by simp, by rw [hA.out]; simp⟩
    · have hlt' : ¬ (k : Int) < 8 := by omega
      obtain rfl : k = 8 := by omega
      have e8 : ((emN 8 : Nat) : Int) = 9259542123273814144 := rfl
      rw [e8]
      go_wp2_with fail
      go_ret
      exact ⟨rfl, rfl⟩

theorem rget_val (W i : Nat) (hw : W < 18446744073709551616) (hi : i < 8) : wrap64 ((IntKind.u64.wrap ((W : Int) / ((256 ^ i : Nat) : Int))).tmod 256) = ((byN W i : Nat) : Int) := by
  have e : (W : Int) / ((256 ^ i : Nat) : Int) = ((W / 256 ^ i : Nat) : Int) := by rw [Int.natCast_ediv]
  have hle : W / 256 ^ i ≤ W := Nat.div_le_self _ _
  rw [e]
  unfold byN
  generalize W / 256 ^ i = X at *
  rw [IntKind.wrap_u64, Int.emod_eq_of_lt (by omega) (by omega), Int.tmod_eq_emod_of_nonneg (by omega)]
  unfold wrap64
  omega

set_option maxHeartbeats 1000000 in
theorem rget_in (W i : Nat) (hw : W < 18446744073709551616) (hi : i < 8) (w : World) :
    Calls Tryd.prog 16 #[.int .u64 (W : Int), .int .i64 (i : Int)] w fun e w' => e = .returned (.int .i64 ((byN W i : Nat) : Int)) ∧ w' = w := by
  have t1 := rpow_any i _ hi (hide rfl) w
  have hi' : (i : Int) < 8 := by omega
  obtain ⟨hp, hp0⟩ := pow_le i hi
  have hx := rget_val W i hw hi
  generalize byN W i = B at *
  have hP0 : (((256 ^ i : Nat) : Int) == 0) = false := beq_eq_false_iff_ne.2 (by omega)
  generalize 256 ^ i = P at *
  go_enter Tryd.func16, Tryd.ntmps16
  go_wp2_with fail
  refine t1.mono ?_
  rintro e w' ⟨rfl, rfl⟩
  go_wp2_with fail
  go_ret
  exact ⟨by rw [← hx]; rfl, rfl⟩

set_option maxHeartbeats 1000000 in
theorem rget_out (W : Nat) (i : Int) (h : ¬ (0 ≤ i ∧ i < 8)) (w : World) :
    Calls Tryd.prog 16 #[.int .u64 (W : Int), .int .i64 i] w fun e w' => e = .returned (.int .i64 (-1)) ∧ w' = w := by
  by_cases h0 : i < 0
  · clear h
    go_enter Tryd.func16, Tryd.ntmps16
    go_wp2_with fail
    go_ret
    exact ⟨rfl, rfl⟩
  · have h8 : 8 ≤ i := by omega
    clear h
    go_enter Tryd.func16, Tryd.ntmps16
    go_wp2_with fail
    go_ret
    exact ⟨rfl, rfl⟩
theorem rget_is {W i R : Int} (q : GetIs W i R) (w : World) :
    Calls Tryd.prog 16 #[.int .u64 W, .int .i64 i] w fun e w' => e = .returned (.int .i64 R) ∧ w' = w := by
  obtain ⟨V, hv, rfl, rfl⟩ := q
  by_cases h : 0 ≤ i ∧ i < 8
  · unfold getN
    rw [if_pos h]
    obtain ⟨I, rfl⟩ : ∃ I : Nat, i = (I : Int) := ⟨i.toNat, by omega⟩
    exact rget_in V I hv (by omega) w
  · unfold getN
    rw [if_neg h]
    exact rget_out V i h w

theorem setN_sum (W k c : Nat) (hw : W < 18446744073709551616) (hk : k < 8) : setN W k c + byN W k * 256 ^ k = W + c * 256 ^ k := by
  have e := of8_byN hw
  refine lt8 (P := fun k => setN W k c + byN W k * 256 ^ k = W + c * 256 ^ k) hk ?_ ?_ ?_ ?_ ?_ ?_ ?_ ?_ <;>
    (unfold setN of8 at *; simp only [Nat.reducePow, if_true, Nat.reduceEqDiff, if_false]; first | omega | (simp only [OfNat.ofNat_ne_zero, OfNat.zero_ne_ofNat, OfNat.one_ne_ofNat, OfNat.ofNat_ne_one, if_false]; omega) | (simp; omega))
theorem rput_val (W i c : Nat) (hw : W < 18446744073709551616) (hi : i < 8) (hc : c < 256) :
    IntKind.u64.wrap (IntKind.u64.wrap ((W : Int) - IntKind.u64.wrap (((byN W i : Nat) : Int) * ((256 ^ i : Nat) : Int))) + IntKind.u64.wrap ((c : Int) * ((256 ^ i : Nat) : Int))) = ((setN W i c : Nat) : Int) := by
  have h1 := setN_sum W i c hw hi
  have h2 := setN_lt W i c hc
  have h3 := byN_lt W i
  have e1 : ((byN W i : Nat) : Int) * ((256 ^ i : Nat) : Int) = ((byN W i * 256 ^ i : Nat) : Int) := by rw [Int.natCast_mul]
  have e2 : (c : Int) * ((256 ^ i : Nat) : Int) = ((c * 256 ^ i : Nat) : Int) := by rw [Int.natCast_mul]
  rw [e1, e2]
  simp only [IntKind.wrap_u64]
  generalize byN W i * 256 ^ i = A at *
  generalize c * 256 ^ i = C at *
  omega

set_option maxHeartbeats 1000000 in
theorem rput_in (W i c : Nat) (hw : W < 18446744073709551616) (hi : i < 8) (hc : c < 256) (w : World) :
    Calls Tryd.prog 21 #[.int .u64 (W : Int), .int .i64 (i : Int), .int .i64 (c : Int)] w fun e w' => e = .returned (.int .u64 ((setN W i c : Nat) : Int)) ∧ Kp w w' := by
  have t0 := rget_in W i hw hi
  have t1 := rpow_any i _ hi (hide rfl)
  have hi' : (i : Int) < 8 := by omega
  have hi0 : ¬ (i : Int) < 0 := by omega
  have hc0 : ¬ (c : Int) < 0 := by omega
  have hc' : ¬ 255 < (c : Int) := by omega
  have hx := rput_val W i c hw hi hc
  have hb := byN_lt W i
  generalize setN W i c = Z at *
  generalize byN W i = B at *
  generalize 256 ^ i = P at *
  go_enter Tryd.func21, Tryd.ntmps21
  go_wp2_with fail
  refine (t0 _).mono ?_
  rintro e w' ⟨rfl, rfl⟩
  go_wp2_with fail
  refine (t1 _).mono ?_
  rintro e w' ⟨rfl, rfl⟩
  go_wp2_with fail
  refine (t1 _).mono ?_
  rintro e w' ⟨rfl, rfl⟩
  go_wp2_with fail
  go_ret
  exact ⟨by rw [← hx]; rfl, Kp.refl _⟩

set_option maxHeartbeats 1000000 in
theorem rput_out (W : Nat) (i c : Int) (h : ¬ (0 ≤ i ∧ i < 8 ∧ 0 ≤ c ∧ c ≤ 255)) (w : World) :
    Calls Tryd.prog 21 #[.int .u64 (W : Int), .int .i64 i, .int .i64 c] w fun e w' => e = .returned (.int .u64 (W : Int)) ∧ Kp w w' := by
  by_cases h1 : i < 0
  · clear h
    go_enter Tryd.func21, Tryd.ntmps21
    go_wp2_with fail
    go_ret
    exact ⟨rfl, Kp.refl _⟩
  · by_cases h2 : 8 ≤ i
    · clear h
      go_enter Tryd.func21, Tryd.ntmps21
      go_wp2_with fail
      go_ret
      exact ⟨rfl, Kp.refl _⟩
    · by_cases h3 : c < 0
      · clear h
        go_enter Tryd.func21, Tryd.ntmps21
        go_wp2_with fail
        go_ret
        exact ⟨rfl, Kp.refl _⟩
      · have h4 : 255 < c := by omega
        clear h
        go_enter Tryd.func21, Tryd.ntmps21
        go_wp2_with fail
        go_ret
        exact ⟨rfl, Kp.refl _⟩
theorem rput_is {W i c R : Int} (q : SetIs W i c R) (w : World) :
    Calls Tryd.prog 21 #[.int .u64 W, .int .i64 i, .int .i64 c] w fun e w' => e = .returned (.int .u64 R) ∧ Kp w w' := by
  obtain ⟨V, hv, rfl, rfl⟩ := q
  by_cases h : 0 ≤ i ∧ i < 8 ∧ 0 ≤ c ∧ c ≤ 255
  · unfold putN
    rw [if_pos h]
    obtain ⟨I, rfl⟩ : ∃ I : Nat, i = (I : Int) := ⟨i.toNat, by omega⟩
    obtain ⟨C, rfl⟩ : ∃ C : Nat, c = (C : Int) := ⟨c.toNat, by omega⟩
    exact rput_in V I C hv (by omega) (by omega) w
  · unfold putN
    rw [if_neg h]
    exact rput_out V i c h w

/-- The first k deleted slots made empty. -/
def clTo (W k : Nat) : Nat := of8 (fun i => if i < k then clB (byN W i) else byN W i)
theorem clTo_by (W k i : Nat) : (if i < k then clB (byN W i) else byN W i) < 256 := by
  split
  · exact clB_lt (byN_lt _ _)
  · exact byN_lt _ _
theorem clTo_lt (W k : Nat) : clTo W k < 18446744073709551616 := of8_lt fun i _ => clTo_by W k i
theorem byN_clTo (W k : Nat) {i : Nat} (hi : i < 8) : byN (clTo W k) i = if i < k then clB (byN W i) else byN W i := byN_of8 (f := fun i => if i < k then clB (byN W i) else byN W i) (fun i _ => clTo_by W k i) hi
theorem clTo_zero {W : Nat} (hw : W < 18446744073709551616) : clTo W 0 = W := by
  refine ext8 (clTo_lt _ _) hw fun i hi => ?_
  rw [byN_clTo _ _ hi, if_neg (by omega)]
theorem clTo_all (W : Nat) : clTo W 8 = clN W := by
  refine ext8 (clTo_lt _ _) (clN_lt _) fun i hi => ?_
  rw [byN_clTo _ _ hi, if_pos hi, byN_clN _ hi]
theorem clTo_same {W k : Nat} (hk : k < 8) (h : byN W k ≠ 254) : clTo W (k + 1) = clTo W k := by
  refine ext8 (clTo_lt _ _) (clTo_lt _ _) fun i hi => ?_
  rw [byN_clTo _ _ hi, byN_clTo _ _ hi]
  by_cases e : i = k
  · subst e
    rw [if_pos (Nat.lt_succ_self _), if_neg (Nat.lt_irrefl _)]
    exact if_neg h
  · by_cases e2 : i < k
    · rw [if_pos e2, if_pos (by omega)]
    · rw [if_neg e2, if_neg (by omega)]
theorem clTo_turn {W k : Nat} (hk : k < 8) (h : byN W k = 254) : setN (clTo W k) k 128 = clTo W (k + 1) := by
  refine ext8 (setN_lt _ _ _ (by decide)) (clTo_lt _ _) fun i hi => ?_
  rw [byN_setN _ _ _ (by decide) hi, byN_clTo _ _ hi, byN_clTo _ _ hi]
  by_cases e : i = k
  · subst e
    rw [if_pos rfl, if_pos (Nat.lt_succ_self _), h]
    rfl
  · rw [if_neg e]
    by_cases e2 : i < k
    · rw [if_pos e2, if_pos (by omega)]
    · rw [if_neg e2, if_neg (by omega)]

set_option maxRecDepth 100000 in
set_option maxHeartbeats 1000000 in
theorem rclear_any (W : Nat) (hw : W < 18446744073709551616) (w : World) :
    Calls Tryd.prog 23 #[.int .u64 (W : Int)] w fun e w' => e = .returned (.int .u64 ((clN W : Nat) : Int)) ∧ Kp w w' := by
  go_enter Tryd.func23, Tryd.ntmps23
  go_wp2_with fail
  go_loopg [0, 3] 8 (fun g vw vk wx => Kp w wx ∧ ∃ k : Nat, g = 8 - k ∧ k ≤ 8 ∧ vk = .int .i64 (k : Int) ∧ vw = .int .u64 ((clTo W k : Nat) : Int))
  case atStart => exact ⟨Kp.refl _, 0, rfl, by decide, rfl, by rw [clTo_zero hw]⟩
  case round =>
    obtain ⟨kk, k, rfl, hk, rfl, rfl⟩ := hrel
    by_cases hlt : k < 8
    · have hlt' : (k : Int) < 8 := by omega
      have hb : byN (clTo W k) k = byN W k := by rw [byN_clTo _ _ hlt, if_neg (Nat.lt_irrefl _)]
      have t0 := rget_in (clTo W k) k (clTo_lt _ _) hlt
      rw [hb] at t0
      clear hb
      by_cases hx : byN W k = 254
      · have q1 : SetIs ((clTo W k : Nat) : Int) (k : Int) 128 ((clTo W (k + 1) : Nat) : Int) := ⟨_, clTo_lt _ _, rfl, by rw [putN, if_pos ⟨by omega, by omega, by omega, by omega⟩, Int.toNat_natCast, ← clTo_turn hlt hx]; rfl⟩
        rw [hx] at t0
        have e1 : ((254 : Nat) : Int) = 254 := rfl
        rw [e1] at t0
        clear hx e1
        generalize clTo W k = X at *
        go_wp2_with fail
        refine (t0 _).mono ?_
        rintro e w5 ⟨rfl, rfl⟩
        go_wp2_with fail
        refine (rput_is q1 _).mono ?_
        rintro e w6 ⟨rfl, k6⟩
        go_wp2_with fail
        go_roundg (8 - (k + 1))
        case measure => omega
        case rel => exact ⟨kk.trans k6, k + 1, rfl, by omega, by simp, rfl⟩
      · have hA : Aside (clTo W (k + 1) = clTo W k) := clTo_same hlt hx
        have hx' : (((byN W k : Nat) : Int) == 254) = false := beq_eq_false_iff_ne.2 (by omega)
        clear hx
        generalize byN W k = B at *
        generalize clTo W k = X at *
        go_wp2_with fail
        refine (t0 _).mono ?_
        rintro e w5 ⟨rfl, rfl⟩
        go_wp2_with fail
        go_roundg (8 - (k + 1))
        case measure => omega
        case rel => exact ⟨kk, k + 1, rfl, by omega, by simp, by rw [hA.out]⟩
    · have hlt' : ¬ (k : Int) < 8 := by omega
      obtain rfl : k = 8 := by omega
      rw [clTo_all]
      go_wp2_with fail
      go_ret
      exact ⟨rfl, kk⟩
end Go.Proofs.YtbpgjlengpgnnabDoor
