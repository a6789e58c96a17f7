/-
  The reference's First, Rest and Count; Rest of a set of the program's.
-/
import Derived.Test.YtbpgjlengpgnnabDoorCR2
namespace Go.Proofs.YtbpgjlengpgnnabDoor
open Go.RowKit
set_option linter.unusedVariables false

theorem fir_is : ∀ m, m < 256 → ∀ p, p ≤ 8 → (∀ k, k < p → hasM m k = false) → (p < 8 → hasM m p = true) → firM m = p := by decide +kernel
theorem Bl.boxed (w : World) (f : Nat → Bool) : Bl (w.alloc (.cells #[.bool (f 0), .bool (f 1), .bool (f 2), .bool (f 3), .bool (f 4), .bool (f 5), .bool (f 6), .bool (f 7)] 29)) w.heap.size f := heap_new w _

set_option maxRecDepth 100000 in
set_option maxHeartbeats 1000000 in
theorem rfirst_any (m : Nat) (hm : m < 256) (w : World) :
    Calls Tryd.prog 32 #[setA m] w fun e w' => e = .returned (.int .i64 ((firM m : Nat) : Int)) ∧ Kp w w' := by
  have hf := fir_is m hm
  unfold setA
  go_enter Tryd.func32, Tryd.ntmps32
  go_wp2_with fail
  have hS := Bl.boxed w (hasM m)
  have kk : Kp w (w.alloc (.cells #[.bool (hasM m 0), .bool (hasM m 1), .bool (hasM m 2), .bool (hasM m 3), .bool (hasM m 4), .bool (hasM m 5), .bool (hasM m 6), .bool (hasM m 7)] 29)) := (Kp.refl _).alloc _
  generalize (w.alloc (.cells #[.bool (hasM m 0), .bool (hasM m 1), .bool (hasM m 2), .bool (hasM m 3), .bool (hasM m 4), .bool (hasM m 5), .bool (hasM m 6), .bool (hasM m 7)] 29)) = w2 at *
  go_loopg [3] 8 (fun g vk wx => Kp w wx ∧ ∃ k : Nat, g = 8 - k ∧ k ≤ 8 ∧ vk = .int .i64 (k : Int) ∧ Bl wx w.heap.size (hasM m) ∧ ∀ j, j < k → hasM m j = false)
  case atStart => exact ⟨kk, 0, rfl, by decide, rfl, hS, fun j hj => absurd hj (Nat.not_lt_zero _)⟩
  case round =>
    clear kk hS
    obtain ⟨kk, k, rfl, hk, rfl, hS, hlow⟩ := hrel
    by_cases hlt : k < 8
    · have hlt' : (k : Int) < 8 := by omega
      obtain ⟨c1, c2⟩ := hS.at hlt
      cases hb : hasM m k
      · rw [hb] at c1
        have hA : Aside (∀ j, j < k + 1 → hasM m j = false) := fun j hj => by
          rcases Nat.lt_succ_iff_lt_or_eq.1 hj with h | rfl
          · exact hlow j h
          · exact hb
        clear hb hlow hf
        go_wp2_with fail
        go_roundg (8 - (k + 1))
        case measure => omega
        case rel => exact ⟨kk, k + 1, rfl, by omega, by simp, hS, hA.out⟩
      · rw [hb] at c1
        have hA : Aside (firM m = k) := hf k hk hlow (fun _ => hb)
        clear hb hlow hf
        go_wp2_with fail
        go_ret
        exact ⟨by rw [hA.out]; rfl, kk⟩
    · have hlt' : ¬ (k : Int) < 8 := by omega
      have hA : Aside (firM m = 8) := hf 8 (by decide) (fun j hj => hlow j (by omega)) (fun h => absurd h (by decide))
      clear hlow hf
      go_wp2_with fail
      go_ret
      exact ⟨by rw [hA.out]; rfl, kk⟩

def cnt3 (m k : Nat) : Nat := match k with
  | 0 => 0
  | k + 1 => cnt3 m k + (hasM m k).toNat
theorem cnt3_all : ∀ m, m < 256 → cnt3 m 8 = cntM m := by decide +kernel
theorem cnt3_le (m k : Nat) : cnt3 m k ≤ k := by
  induction k with
  | zero => exact Nat.le_refl _
  | succ k ih =>
    have := toNat_le (hasM m k)
    show cnt3 m k + (hasM m k).toNat ≤ k + 1
    omega

set_option maxRecDepth 100000 in
set_option maxHeartbeats 1000000 in
theorem rcount_any (m : Nat) (hm : m < 256) (w : World) :
    Calls Tryd.prog 33 #[setA m] w fun e w' => e = .returned (.int .i64 ((cntM m : Nat) : Int)) ∧ Kp w w' := by
  have hf := hide (cnt3_all m hm)
  unfold setA
  go_enter Tryd.func33, Tryd.ntmps33
  go_wp2_with fail
  have hS := Bl.boxed w (hasM m)
  have kk : Kp w (w.alloc (.cells #[.bool (hasM m 0), .bool (hasM m 1), .bool (hasM m 2), .bool (hasM m 3), .bool (hasM m 4), .bool (hasM m 5), .bool (hasM m 6), .bool (hasM m 7)] 29)) := (Kp.refl _).alloc _
  generalize (w.alloc (.cells #[.bool (hasM m 0), .bool (hasM m 1), .bool (hasM m 2), .bool (hasM m 3), .bool (hasM m 4), .bool (hasM m 5), .bool (hasM m 6), .bool (hasM m 7)] 29)) = w2 at *
  go_loopg [3, 4] 8 (fun g vn vk wx => Kp w wx ∧ ∃ k : Nat, g = 8 - k ∧ k ≤ 8 ∧ vk = .int .i64 (k : Int) ∧ vn = .int .i64 ((cnt3 m k : Nat) : Int) ∧ Bl wx w.heap.size (hasM m))
  case atStart => exact ⟨kk, 0, rfl, by decide, rfl, rfl, hS⟩
  case round =>
    clear kk hS
    obtain ⟨kk, k, rfl, hk, rfl, rfl, hS⟩ := hrel
    by_cases hlt : k < 8
    · have hlt' : (k : Int) < 8 := by omega
      obtain ⟨c1, c2⟩ := hS.at hlt
      have hA : Aside (cnt3 m (k + 1) = cnt3 m k + (hasM m k).toNat) := rfl
      have hl := cnt3_le m k
      generalize cnt3 m k = C at *
      cases hb : hasM m k
      · rw [hb] at c1 hA
        clear hb hf
        go_wp2_with fail
        go_roundg (8 - (k + 1))
        case measure => omega
        case rel => exact ⟨kk, k + 1, rfl, by omega, by simp, by rw [hA.out]; simp, hS⟩
      · rw [hb] at c1 hA
        clear hb hf
        go_wp2_with fail
        go_roundg (8 - (k + 1))
        case measure => omega
        case rel => exact ⟨kk, k + 1, rfl, by omega, by simp, by rw [hA.out]; simp, hS⟩
    · have hlt' : ¬ (k : Int) < 8 := by omega
      obtain rfl : k = 8 := by omega
      rw [hf.out]
      go_wp2_with fail
      go_ret
      exact ⟨rfl, kk⟩

/-- The set without its lowest slot. -/
def rstM (m : Nat) : Nat := if m = 0 then 0 else m - 2 ^ firM m
theorem rst_lt : ∀ m, m < 256 → rstM m < 256 := by decide +kernel
theorem rst_has : ∀ m, m < 256 → ∀ j, j < 8 → hasM (rstM m) j = if j = firM m then false else hasM m j := by decide +kernel
def rest1 (x : Int) : Int := bits BinOp.and IntKind.u64 x (IntKind.u64.wrap (x - 1))
theorem rest_all : ∀ m, m < 256 → rest1 ((spread m : Nat) : Int) = ((spread (rstM m) : Nat) : Int) := by decide +kernel
theorem rst_same : ∀ m, m < 256 → firM m = 8 → rstM m = m := by decide +kernel

set_option maxHeartbeats 1000000 in
theorem rest_walk (z r : Int) (h : bits BinOp.and IntKind.u64 z (IntKind.u64.wrap (z - 1)) = r) (w : World) :
    Calls Tryd.prog 28 #[.agg #[.int .u64 z]] w fun e w' => e = .returned (.agg #[.int .u64 r]) ∧ Kp w w' := by
  go_enter Tryd.func28, Tryd.ntmps28
  go_wp2_with fail
  exact bodyPost_ret (v := .agg #[.int .u64 r]) (by simp [results, Tryd.results28, go_sem]) rfl ⟨rfl, ((Kp.refl _).alloc _).alloc _⟩

def RestIs (z r : Int) : Prop := ∃ m, m < 256 ∧ z = ((spread m : Nat) : Int) ∧ r = ((spread (rstM m) : Nat) : Int)
theorem rest_is {z r : Int} (q : RestIs z r) (w : World) :
    Calls Tryd.prog 28 #[.agg #[.int .u64 z]] w fun e w' => e = .returned (.agg #[.int .u64 r]) ∧ Kp w w' := by
  obtain ⟨m, hm, rfl, rfl⟩ := q
  exact rest_walk _ _ (rest_all m hm) w

set_option maxRecDepth 100000 in
set_option maxHeartbeats 2000000 in
theorem rrest_any (m : Nat) (hm : m < 256) (w : World) :
    Calls Tryd.prog 34 #[setA m] w fun e w' => e = .returned (setA (rstM m)) ∧ Kp w w' := by
  have t0 := rfirst_any m hm
  have hr := rst_has m hm
  have hle := firM_le m hm
  have hsm := rst_same m hm
  unfold setA at t0
  have e0 : setA m = .agg #[.bool (hasM m 0), .bool (hasM m 1), .bool (hasM m 2), .bool (hasM m 3), .bool (hasM m 4), .bool (hasM m 5), .bool (hasM m 6), .bool (hasM m 7)] := rfl
  rw [e0]
  clear e0
  go_enter Tryd.func34, Tryd.ntmps34
  go_wp2_with fail
  refine (t0 _).mono ?_
  rintro e w5 ⟨rfl, k5⟩
  have hS := ((Bl.boxed w (hasM m)).kp ((Kp.refl _).alloc (.cells #[.bool false, .bool false, .bool false, .bool false, .bool false, .bool false, .bool false, .bool false] 29))).kp k5
  have hR := (Bl.new (w.alloc (.cells #[.bool (hasM m 0), .bool (hasM m 1), .bool (hasM m 2), .bool (hasM m 3), .bool (hasM m 4), .bool (hasM m 5), .bool (hasM m 6), .bool (hasM m 7)] 29))).kp k5
  have e1 : (w.alloc (.cells #[.bool (hasM m 0), .bool (hasM m 1), .bool (hasM m 2), .bool (hasM m 3), .bool (hasM m 4), .bool (hasM m 5), .bool (hasM m 6), .bool (hasM m 7)] 29)).heap.size = w.heap.size + 1 := by simp
  rw [e1] at hR
  have kk : Kp w w5 := (((Kp.refl w).alloc _).alloc _).trans k5
  clear e1 k5 t0
  by_cases hF : firM m < 8
  · have hF' : ((firM m : Nat) : Int) < 8 := by omega
    obtain ⟨c1, c2⟩ := hS.at hF
    have hS2 := (hS.set hF false).ext (g := hasM (rstM m)) fun j hj => (hr j hj).symm
    have hR2 : Bl (w5.setCell ⟨w.heap.size, firM m, none⟩ (.bool false)) (w.heap.size + 1) (fun _ => false) := (Below.heap_setCell w5 ⟨w.heap.size, firM m, none⟩ (.bool false) (w.heap.size + 1) (by simp)).trans hR
    have k2 : Kp w (w5.setCell ⟨w.heap.size, firM m, none⟩ (.bool false)) := Below.setCell kk (Nat.le_refl _) _
    clear hr hsm hS hR kk
    generalize firM m = F at *
    obtain ⟨a0, a1, a2, a3, a4, a5, a6, a7⟩ := hS2.all
    obtain ⟨b0, b1, b2, b3, b4, b5, b6, b7⟩ := hR2.all
    obtain ⟨f0, f1, f2, f3, f4, f5, f6, f7⟩ := hR2.thaw
    go_wp2_with fail
    refine eight_set hR2 k2 (by simp) (P := fun w9 => bodyPost _ _ _ _ _ w9) fun w9 h9 k9 => ?_
    obtain ⟨d0, d1, d2, d3, d4, d5, d6, d7⟩ := h9.all
    exact bodyPost_ret (v := setA _) (by simp [setA, results, Tryd.results34, go_sem, d0, d1, d2, d3, d4, d5, d6, d7]) rfl ⟨rfl, k9⟩
  · have hF' : ¬ ((firM m : Nat) : Int) < 8 := by omega
    have hA : Aside (rstM m = m) := hsm (by omega)
    clear hr hsm
    generalize firM m = F at *
    obtain ⟨a0, a1, a2, a3, a4, a5, a6, a7⟩ := hS.all
    obtain ⟨b0, b1, b2, b3, b4, b5, b6, b7⟩ := hR.all
    obtain ⟨f0, f1, f2, f3, f4, f5, f6, f7⟩ := hR.thaw
    go_wp2_with fail
    refine eight_set hR kk (by simp) (P := fun w9 => bodyPost _ _ _ _ _ w9) fun w9 h9 k9 => ?_
    obtain ⟨d0, d1, d2, d3, d4, d5, d6, d7⟩ := h9.all
    exact bodyPost_ret (v := setA m) (by simp [setA, results, Tryd.results34, go_sem, d0, d1, d2, d3, d4, d5, d6, d7]) rfl ⟨by rw [hA.out], k9⟩
end Go.Proofs.YtbpgjlengpgnnabDoor
