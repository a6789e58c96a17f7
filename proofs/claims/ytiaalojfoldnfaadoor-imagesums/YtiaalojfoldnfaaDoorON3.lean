/-
  The reference's calls on numbers: xor, whole.
-/
import Derived.Test.YtiaalojfoldnfaaDoorON2
import Derived.RegionTactic
namespace Go.Proofs.YtiaalojfoldnfaaDoor
open Go.RowKit
set_option linter.unusedVariables false

theorem NumAt.drew {w : World} {b : Nat} {f : Nat → Nat} (h : NumAt w b f) : NumAt w.drew b f := h

set_option maxHeartbeats 1000000 in
theorem xor_walk (f g : Nat → Nat) (hf : ∀ k, f k < 65536) (hg : ∀ k, g k < 65536) (w : World) :
    Calls Tryd.prog 9 #[.agg #[.int .i64 (f 0 : Nat), .int .i64 (f 1 : Nat), .int .i64 (f 2 : Nat), .int .i64 (f 3 : Nat)], .agg #[.int .i64 (g 0 : Nat), .int .i64 (g 1 : Nat), .int .i64 (g 2 : Nat), .int .i64 (g 3 : Nat)]] w fun e w' => e = .returned (numV fun k => f k ^^^ g k) ∧ Kp w w' := by
  go_enter Tryd.func9, Tryd.ntmps9
  go_wp2_with fail
  go_loopw [6] (fun vi wr => ∃ i : Nat, i ≤ 4 ∧ vi = .int .i64 (i : Int) ∧ NumAt wr (w.heap.size + 1 + 1 + 1) (toN (fun k => f k ^^^ g k) i) ∧ NumAt wr (w.heap.size + 1 + 1) (fun _ => 0) ∧ NumAt wr (w.heap.size + 1) g ∧ NumAt wr w.heap.size f ∧ Kp w wr) (fun vi _ => 4 - (intOf vi).toNat)
  case atStart =>
    have h3 := heap_new (((w.alloc (.cells (numA f) 30)).alloc (.cells (numA g) 30)).alloc (.cells (numA fun _ => 0) 30)) (.cells (numA fun _ => 0) 30)
    have h2 := heap_old (heap_new ((w.alloc (.cells (numA f) 30)).alloc (.cells (numA g) 30)) (.cells (numA fun _ => 0) 30)) (.cells (numA fun _ => 0) 30)
    have h1 := heap_old (heap_old (heap_new (w.alloc (.cells (numA f) 30)) (.cells (numA g) 30)) (.cells (numA fun _ => 0) 30)) (.cells (numA fun _ => 0) 30)
    have h0 := heap_old (heap_old (heap_old (heap_new w (.cells (numA f) 30)) (.cells (numA g) 30)) (.cells (numA fun _ => 0) 30)) (.cells (numA fun _ => 0) 30)
    simp only [World.size_alloc] at h3 h2 h1
    refine ⟨0, Nat.zero_le _, rfl, ?_, h2, h1, h0, ((((Kp.refl w).alloc _).alloc _).alloc _).alloc _⟩
    exact NumAt.same (f := fun _ => 0) h3 (fun k _ => toN_zero _ k)
  case round =>
    obtain ⟨i, hi, rfl, ho, hr, hb, ha, kr⟩ := hrel
    by_cases hlt : i < 4
    · have hlt' : (i : Int) < 4 := by omega
      have hc := ho.cell hlt
      have hz := ho.frozen i
      have hbc := hb.cell hlt
      have hac := ha.cell hlt
      have hx := xor_i64 (f i) (g i) (hf i) (hg i)
      go_wp2_with fail
      go_region
      go_wp2_with fail
      have hset := ho.set hlt (f i ^^^ g i)
      exact ⟨⟨i + 1, by omega, by simp, (hset.same fun k _ => toN_upd (fun k => f k ^^^ g k) i k).drew, (hr.other (by omega) _ _).drew, (hb.other (by omega) _ _).drew, (ha.other (by omega) _ _).drew, (kr.set (by omega) _ _).drew⟩, by simp [intOf]; omega⟩
    · have hlt' : ¬ (i : Int) < 4 := by omega
      replace ho : NumAt wr (w.heap.size + 1 + 1 + 1) (fun k => f k ^^^ g k) := ho.same fun k hk => toN_all _ (by omega)
      obtain ⟨a0, a1, a2, a3, -⟩ := ho.four
      obtain ⟨b0, b1, b2, b3, f0, f1, f2, f3⟩ := hr.four
      go_wp2_with fail
      refine num_put (fun k => f k ^^^ g k) hr kr (by omega) (P := fun w9 => bodyPost _ _ _ _ _ w9) fun w9 h9 k9 _ => ?_
      obtain ⟨c0, c1, c2, c3, -⟩ := h9.four
      exact bodyPost_ret (v := numV fun k => f k ^^^ g k) (by simp [results, Tryd.results9, go_sem, numV, numA, c0, c1, c2, c3]) rfl ⟨rfl, k9⟩

theorem xor_any (a b : Nat) (w : World) : Calls Tryd.prog 9 #[numV (dig a), numV (dig b)] w fun e w' => e = .returned (numV (dig (a ^^^ b))) ∧ Kp w w' := by
  have h := xor_walk (dig a) (dig b) (dig_lt a) (dig_lt b) w
  have e : (fun k => dig a k ^^^ dig b k) = dig (a ^^^ b) := funext fun k => (dig_xor a b k).symm
  rw [e] at h
  exact h

set_option maxHeartbeats 1000000 in
theorem whole_any (v : Nat) (hv : v < 18446744073709551616) (w : World) :
    Calls Tryd.prog 13 #[numV (dig v)] w fun e w' => e = .returned (.int .u64 (v : Int)) ∧ Kp w w' := by
  unfold numV numA
  go_enter Tryd.func13, Tryd.ntmps13
  go_wp2_with fail
  go_loopw [3, 4] (fun vv vi wr => ∃ i : Nat, i ≤ 4 ∧ vi = .int .i64 ((i : Int) - 1) ∧ vv = .int .u64 ((v / 65536 ^ i : Nat) : Int) ∧ NumAt wr w.heap.size (dig v) ∧ Kp w wr) (fun _ vi _ => (intOf vi + 1).toNat)
  case atStart => exact ⟨4, Nat.le_refl _, rfl, by rw [whole_top hv]; rfl, heap_new _ _, (Kp.refl w).alloc _⟩
  case round =>
    obtain ⟨i, hi, rfl, rfl, ho, kr⟩ := hrel
    by_cases hlt : 0 < i
    · obtain ⟨j, rfl⟩ : ∃ j, i = j + 1 := ⟨i - 1, by omega⟩
      rw [show ((j + 1 : Nat) : Int) - 1 = (j : Int) by omega]
      have hlt' : 0 ≤ (j : Int) := by omega
      have hj4 : (j : Int) < 4 := by omega
      have hc := ho.cell (k := j) (by omega)
      have hs : Hid (v / 65536 ^ j = v / 65536 ^ (j + 1) * 65536 + dig v j) := whole_step v j
      have hle : v / 65536 ^ j ≤ v := Nat.div_le_self _ _
      have hd := dig_lt v j
      have hb : v / 65536 ^ (j + 1) * 65536 + dig v j < 18446744073709551616 := by rw [← hs.out]; omega
      generalize v / 65536 ^ (j + 1) = X at *
      generalize dig v j = D at *
      have x1 : IntKind.u64.wrap ((X : Int) * 65536) = (X : Int) * 65536 := by rw [IntKind.wrap_u64]; omega
      have x2 : IntKind.u64.wrap ((X : Int) * 65536 + (D : Int)) = (X : Int) * 65536 + (D : Int) := by rw [IntKind.wrap_u64]; omega
      go_wp2_with fail
      refine ⟨⟨j, by omega, rfl, ?_, ho, kr⟩, by simp [intOf]⟩
      rw [hs.out]
      simp
    · obtain rfl : i = 0 := by omega
      have hlt' : ¬ 0 ≤ (((0 : Nat) : Int) - 1) := by omega
      go_wp2_with fail
      go_ret
      exact ⟨by simp, kr⟩
end Go.Proofs.YtiaalojfoldnfaaDoor
