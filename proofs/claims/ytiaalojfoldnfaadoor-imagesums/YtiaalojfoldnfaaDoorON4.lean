/-
  The reference's down, at 29, 31 and 32 (made by gendown.py).
-/
import Derived.Test.YtiaalojfoldnfaaDoorON3
namespace Go.Proofs.YtiaalojfoldnfaaDoor
open Go.RowKit
set_option linter.unusedVariables false

theorem upd_twice (f : Nat → Nat) (i x y k : Nat) : updN (updN f i x) i y k = updN f i y k := by
  unfold updN
  by_cases e : k = i
  · rw [if_pos e, if_pos e]
  · rw [if_neg e, if_neg e, if_neg e]

theorem down29_dig {a : Nat} (ha : a < 18446744073709551616) (i : Nat) : dig (a / 2 ^ 29) i = dig a (i + 1) / 8192 + dig a (i + 2) % 8192 * 8 := dig_down a 29 i
theorem down29_all {a : Nat} (ha : a < 18446744073709551616) (k : Nat) (hk : k < 4) : toN (dig (a / 2 ^ 29)) 3 k = dig (a / 2 ^ 29) k := by
  unfold toN
  split
  · rfl
  · rename_i h
    rw [down29_dig ha, dig_high ha (by omega), dig_high ha (by omega)]

set_option maxRecDepth 100000 in
set_option maxHeartbeats 4000000 in
theorem down29 (a : Nat) (ha : a < 18446744073709551616) (w : World) :
    Calls Tryd.prog 12 #[numV (dig a), .int .i64 29] w fun e w' => e = .returned (numV (dig (a / 2 ^ 29))) ∧ Kp w w' := by
  have dd := fun i => hide (down29_dig ha i)
  have dall := hide (down29_all ha)
  have dlt := fun i => dig_lt a i
  have dh := dig_high ha (k := 4) (by decide)
  generalize hF : dig (a / 2 ^ 29) = F at *
  unfold numV numA
  go_enter Tryd.func12, Tryd.ntmps12
  go_wp2_with fail
  go_loopw [6, 7] (fun vp vi wr => ∃ i : Nat, i ≤ 13 ∧ vi = .int .i64 (i : Int) ∧ vp = .int .i64 ((2 ^ i : Nat) : Int) ∧ NumAt wr (w.heap.size + 1 + 1) (fun _ => 0) ∧ NumAt wr (w.heap.size + 1) (fun _ => 0) ∧ NumAt wr w.heap.size (dig a) ∧ Kp w wr) (fun _ vi _ => 13 - (intOf vi).toNat)
  case atStart =>
    have h2 := heap_new ((w.alloc (.cells (numA (dig a)) 30)).alloc (.cells (numA fun _ => 0) 30)) (.cells (numA fun _ => 0) 30)
    have h1 := heap_old (heap_new (w.alloc (.cells (numA (dig a)) 30)) (.cells (numA fun _ => 0) 30)) (.cells (numA fun _ => 0) 30)
    have h0 := heap_old (heap_old (heap_new w (.cells (numA (dig a)) 30)) (.cells (numA fun _ => 0) 30)) (.cells (numA fun _ => 0) 30)
    simp only [World.size_alloc] at h2 h1
    exact ⟨0, Nat.zero_le _, rfl, rfl, h2, h1, h0, (((Kp.refl w).alloc _).alloc _).alloc _⟩
  case round =>
    obtain ⟨i, hi, rfl, rfl, ho, hr, hA, kr⟩ := hrel
    by_cases hlt : i < 13
    · have hlt' : (i : Int) < 13 := by omega
      have hn : Hid (2 ^ (i + 1) = 2 ^ i * 2) := by show _ = _; rw [Nat.pow_succ]
      have hY : 2 ^ i ≤ 2 ^ 15 := Nat.pow_le_pow_right (by decide) (by omega)
      generalize 2 ^ i = Y at *
      have hY' : Y ≤ 32768 := hY
      clear hY
      go_wp2_with fail
      refine ⟨⟨i + 1, by omega, by simp, ?_, ho, hr, hA, kr⟩, by simp [intOf]; omega⟩
      rw [hn.out]
      simp
    · obtain rfl : i = 13 := by omega
      rw [show ((2 ^ 13 : Nat) : Int) = 8192 from rfl, show ((13 : Nat) : Int) = 13 from rfl]
      clear hlt hi
      go_wp2_with fail
      go_loopw [8] (fun vi wq => ∃ i : Nat, i ≤ 3 ∧ vi = .int .i64 (i : Int) ∧ NumAt wq (w.heap.size + 1 + 1) (toN F i) ∧ NumAt wq (w.heap.size + 1) (fun _ => 0) ∧ NumAt wq w.heap.size (dig a) ∧ Kp w wq) (fun vi _ => 3 - (intOf vi).toNat)
      case atStart => exact ⟨0, Nat.zero_le _, rfl, ho.same (fun k _ => toN_zero _ k), hr, hA, kr⟩
      case round =>
        clear ho hr hA kr
        obtain ⟨i, hi, rfl, ho, hr, hA, kr⟩ := hrel
        by_cases hlt : i < 3
        · have hcases : i = 0 ∨ i = 1 ∨ i = 2 := by omega
          obtain ⟨a0, a1, a2, a3, -⟩ := hA.four
          obtain ⟨c0, c1, c2, c3, f0, f1, f2, f3⟩ := ho.four
          have l0 := dlt 0
          have l1 := dlt 1
          have l2 := dlt 2
          have l3 := dlt 3
          rcases hcases with rfl | rfl | rfl
          · have hv : F 0 = dig a 1 / 8192 + dig a 2 % 8192 * 8 := by
              have := (dd 0).out
              simpa [Nat.mod_one] using this
            clear dd dall dlt
            go_wp2_with fail
            have hs1 := ho.set (k := 0) (by decide) (dig a 1 / 8192)
            rw [show ((dig a 1 / 8192 : Nat) : Int) = ((dig a 1 : Nat) : Int) / 8192 by omega] at hs1
            have hr1 := hr.other (show w.heap.size + 1 ≠ w.heap.size + 1 + 1 by omega) 0 (.int .i64 (((dig a 1 : Nat) : Int) / 8192))
            have hA1 := hA.other (show w.heap.size ≠ w.heap.size + 1 + 1 by omega) 0 (.int .i64 (((dig a 1 : Nat) : Int) / 8192))
            have kr1 := kr.set (show w.heap.size ≤ w.heap.size + 1 + 1 by omega) 0 (.int .i64 (((dig a 1 : Nat) : Int) / 8192))
            generalize hW : wr.setCell ⟨w.heap.size + 1 + 1, 0, none⟩ (.int .i64 (((dig a 1 : Nat) : Int) / 8192)) = W at *
            have y0 : W.cell? ⟨w.heap.size + 1 + 1, 0, none⟩ = some (.int .i64 (((dig a 1 : Nat) : Int) / 8192)) := by
              have := hs1.cell (k := 0) (by decide)
              rw [show updN (toN F 0) 0 (dig a 1 / 8192) 0 = dig a 1 / 8192 from if_pos rfl, show ((dig a 1 / 8192 : Nat) : Int) = ((dig a 1 : Nat) : Int) / 8192 by omega] at this
              exact this
            have y1 := hA1.cell (k := 2) (by decide)
            have y2 := hs1.frozen 0
            go_region
            go_wp2_with fail
            have hs2 := hs1.set (k := 0) (by decide) (dig a 1 / 8192 + dig a 2 % 8192 * 8)
            rw [show ((dig a 1 / 8192 + dig a 2 % 8192 * 8 : Nat) : Int) = ((dig a 1 : Nat) : Int) / 8192 + ((dig a 2 : Nat) : Int) % 8192 * 8 by omega] at hs2
            refine ⟨⟨1, by omega, rfl, ?_, (hr1.other (by omega) _ _).drew, (hA1.other (by omega) _ _).drew, (kr1.set (by omega) _ _).drew⟩, by simp [intOf]⟩
            exact (hs2.same fun k _ => by rw [upd_twice, ← hv]; exact toN_upd F 0 k).drew
          · have hv : F 1 = dig a 2 / 8192 + dig a 3 % 8192 * 8 := by
              have := (dd 1).out
              simpa [Nat.mod_one] using this
            clear dd dall dlt
            go_wp2_with fail
            have hs1 := ho.set (k := 1) (by decide) (dig a 2 / 8192)
            rw [show ((dig a 2 / 8192 : Nat) : Int) = ((dig a 2 : Nat) : Int) / 8192 by omega] at hs1
            have hr1 := hr.other (show w.heap.size + 1 ≠ w.heap.size + 1 + 1 by omega) 1 (.int .i64 (((dig a 2 : Nat) : Int) / 8192))
            have hA1 := hA.other (show w.heap.size ≠ w.heap.size + 1 + 1 by omega) 1 (.int .i64 (((dig a 2 : Nat) : Int) / 8192))
            have kr1 := kr.set (show w.heap.size ≤ w.heap.size + 1 + 1 by omega) 1 (.int .i64 (((dig a 2 : Nat) : Int) / 8192))
            generalize hW : wr.setCell ⟨w.heap.size + 1 + 1, 1, none⟩ (.int .i64 (((dig a 2 : Nat) : Int) / 8192)) = W at *
            have y0 : W.cell? ⟨w.heap.size + 1 + 1, 1, none⟩ = some (.int .i64 (((dig a 2 : Nat) : Int) / 8192)) := by
              have := hs1.cell (k := 1) (by decide)
              rw [show updN (toN F 1) 1 (dig a 2 / 8192) 1 = dig a 2 / 8192 from if_pos rfl, show ((dig a 2 / 8192 : Nat) : Int) = ((dig a 2 : Nat) : Int) / 8192 by omega] at this
              exact this
            have y1 := hA1.cell (k := 3) (by decide)
            have y2 := hs1.frozen 1
            go_region
            go_wp2_with fail
            have hs2 := hs1.set (k := 1) (by decide) (dig a 2 / 8192 + dig a 3 % 8192 * 8)
            rw [show ((dig a 2 / 8192 + dig a 3 % 8192 * 8 : Nat) : Int) = ((dig a 2 : Nat) : Int) / 8192 + ((dig a 3 : Nat) : Int) % 8192 * 8 by omega] at hs2
            refine ⟨⟨2, by omega, rfl, ?_, (hr1.other (by omega) _ _).drew, (hA1.other (by omega) _ _).drew, (kr1.set (by omega) _ _).drew⟩, by simp [intOf]⟩
            exact (hs2.same fun k _ => by rw [upd_twice, ← hv]; exact toN_upd F 1 k).drew
          · have hv : F 2 = dig a 3 / 8192 + dig a 4 % 8192 * 8 := by
              have := (dd 2).out
              simpa [Nat.mod_one] using this
            clear dd dall dlt
            go_wp2_with fail
            have hs1 := ho.set (k := 2) (by decide) (dig a 3 / 8192)
            rw [show ((dig a 3 / 8192 : Nat) : Int) = ((dig a 3 : Nat) : Int) / 8192 by omega] at hs1
            have hr1 := hr.other (show w.heap.size + 1 ≠ w.heap.size + 1 + 1 by omega) 2 (.int .i64 (((dig a 3 : Nat) : Int) / 8192))
            have hA1 := hA.other (show w.heap.size ≠ w.heap.size + 1 + 1 by omega) 2 (.int .i64 (((dig a 3 : Nat) : Int) / 8192))
            have kr1 := kr.set (show w.heap.size ≤ w.heap.size + 1 + 1 by omega) 2 (.int .i64 (((dig a 3 : Nat) : Int) / 8192))
            refine ⟨⟨3, by omega, rfl, ?_, hr1, hA1, kr1⟩, by simp [intOf]⟩
            have e : F 2 = dig a 3 / 8192 := by omega
            exact hs1.same fun k _ => by rw [← e]; exact toN_upd F 2 k
        · have hlt' : ¬ (i : Int) + 1 < 4 := by omega
          obtain rfl : i = 3 := by omega
          replace ho : NumAt wr (w.heap.size + 1 + 1) F := ho.same dall.out
          obtain ⟨a0, a1, a2, a3, -⟩ := ho.four
          obtain ⟨b0, b1, b2, b3, f0, f1, f2, f3⟩ := hr.four
          clear dd dall dlt
          go_wp2_with fail
          refine num_put F hr kr (by omega) (P := fun w9 => bodyPost _ _ _ _ _ w9) fun w9 h9 k9 _ => ?_
          obtain ⟨c0, c1, c2, c3, -⟩ := h9.four
          exact bodyPost_ret (v := numV F) (by simp [results, Tryd.results12, go_sem, numV, numA, c0, c1, c2, c3]) rfl ⟨rfl, k9⟩

theorem down31_dig {a : Nat} (ha : a < 18446744073709551616) (i : Nat) : dig (a / 2 ^ 31) i = dig a (i + 1) / 32768 + dig a (i + 2) % 32768 * 2 := dig_down a 31 i
theorem down31_all {a : Nat} (ha : a < 18446744073709551616) (k : Nat) (hk : k < 4) : toN (dig (a / 2 ^ 31)) 3 k = dig (a / 2 ^ 31) k := by
  unfold toN
  split
  · rfl
  · rename_i h
    rw [down31_dig ha, dig_high ha (by omega), dig_high ha (by omega)]

set_option maxRecDepth 100000 in
set_option maxHeartbeats 4000000 in
theorem down31 (a : Nat) (ha : a < 18446744073709551616) (w : World) :
    Calls Tryd.prog 12 #[numV (dig a), .int .i64 31] w fun e w' => e = .returned (numV (dig (a / 2 ^ 31))) ∧ Kp w w' := by
  have dd := fun i => hide (down31_dig ha i)
  have dall := hide (down31_all ha)
  have dlt := fun i => dig_lt a i
  have dh := dig_high ha (k := 4) (by decide)
  generalize hF : dig (a / 2 ^ 31) = F at *
  unfold numV numA
  go_enter Tryd.func12, Tryd.ntmps12
  go_wp2_with fail
  go_loopw [6, 7] (fun vp vi wr => ∃ i : Nat, i ≤ 15 ∧ vi = .int .i64 (i : Int) ∧ vp = .int .i64 ((2 ^ i : Nat) : Int) ∧ NumAt wr (w.heap.size + 1 + 1) (fun _ => 0) ∧ NumAt wr (w.heap.size + 1) (fun _ => 0) ∧ NumAt wr w.heap.size (dig a) ∧ Kp w wr) (fun _ vi _ => 15 - (intOf vi).toNat)
  case atStart =>
    have h2 := heap_new ((w.alloc (.cells (numA (dig a)) 30)).alloc (.cells (numA fun _ => 0) 30)) (.cells (numA fun _ => 0) 30)
    have h1 := heap_old (heap_new (w.alloc (.cells (numA (dig a)) 30)) (.cells (numA fun _ => 0) 30)) (.cells (numA fun _ => 0) 30)
    have h0 := heap_old (heap_old (heap_new w (.cells (numA (dig a)) 30)) (.cells (numA fun _ => 0) 30)) (.cells (numA fun _ => 0) 30)
    simp only [World.size_alloc] at h2 h1
    exact ⟨0, Nat.zero_le _, rfl, rfl, h2, h1, h0, (((Kp.refl w).alloc _).alloc _).alloc _⟩
  case round =>
    obtain ⟨i, hi, rfl, rfl, ho, hr, hA, kr⟩ := hrel
    by_cases hlt : i < 15
    · have hlt' : (i : Int) < 15 := by omega
      have hn : Hid (2 ^ (i + 1) = 2 ^ i * 2) := by show _ = _; rw [Nat.pow_succ]
      have hY : 2 ^ i ≤ 2 ^ 15 := Nat.pow_le_pow_right (by decide) (by omega)
      generalize 2 ^ i = Y at *
      have hY' : Y ≤ 32768 := hY
      clear hY
      go_wp2_with fail
      refine ⟨⟨i + 1, by omega, by simp, ?_, ho, hr, hA, kr⟩, by simp [intOf]; omega⟩
      rw [hn.out]
      simp
    · obtain rfl : i = 15 := by omega
      rw [show ((2 ^ 15 : Nat) : Int) = 32768 from rfl, show ((15 : Nat) : Int) = 15 from rfl]
      clear hlt hi
      go_wp2_with fail
      go_loopw [8] (fun vi wq => ∃ i : Nat, i ≤ 3 ∧ vi = .int .i64 (i : Int) ∧ NumAt wq (w.heap.size + 1 + 1) (toN F i) ∧ NumAt wq (w.heap.size + 1) (fun _ => 0) ∧ NumAt wq w.heap.size (dig a) ∧ Kp w wq) (fun vi _ => 3 - (intOf vi).toNat)
      case atStart => exact ⟨0, Nat.zero_le _, rfl, ho.same (fun k _ => toN_zero _ k), hr, hA, kr⟩
      case round =>
        clear ho hr hA kr
        obtain ⟨i, hi, rfl, ho, hr, hA, kr⟩ := hrel
        by_cases hlt : i < 3
        · have hcases : i = 0 ∨ i = 1 ∨ i = 2 := by omega
          obtain ⟨a0, a1, a2, a3, -⟩ := hA.four
          obtain ⟨c0, c1, c2, c3, f0, f1, f2, f3⟩ := ho.four
          have l0 := dlt 0
          have l1 := dlt 1
          have l2 := dlt 2
          have l3 := dlt 3
          rcases hcases with rfl | rfl | rfl
          · have hv : F 0 = dig a 1 / 32768 + dig a 2 % 32768 * 2 := by
              have := (dd 0).out
              simpa [Nat.mod_one] using this
            clear dd dall dlt
            go_wp2_with fail
            have hs1 := ho.set (k := 0) (by decide) (dig a 1 / 32768)
            rw [show ((dig a 1 / 32768 : Nat) : Int) = ((dig a 1 : Nat) : Int) / 32768 by omega] at hs1
            have hr1 := hr.other (show w.heap.size + 1 ≠ w.heap.size + 1 + 1 by omega) 0 (.int .i64 (((dig a 1 : Nat) : Int) / 32768))
            have hA1 := hA.other (show w.heap.size ≠ w.heap.size + 1 + 1 by omega) 0 (.int .i64 (((dig a 1 : Nat) : Int) / 32768))
            have kr1 := kr.set (show w.heap.size ≤ w.heap.size + 1 + 1 by omega) 0 (.int .i64 (((dig a 1 : Nat) : Int) / 32768))
            generalize hW : wr.setCell ⟨w.heap.size + 1 + 1, 0, none⟩ (.int .i64 (((dig a 1 : Nat) : Int) / 32768)) = W at *
            have y0 : W.cell? ⟨w.heap.size + 1 + 1, 0, none⟩ = some (.int .i64 (((dig a 1 : Nat) : Int) / 32768)) := by
              have := hs1.cell (k := 0) (by decide)
              rw [show updN (toN F 0) 0 (dig a 1 / 32768) 0 = dig a 1 / 32768 from if_pos rfl, show ((dig a 1 / 32768 : Nat) : Int) = ((dig a 1 : Nat) : Int) / 32768 by omega] at this
              exact this
            have y1 := hA1.cell (k := 2) (by decide)
            have y2 := hs1.frozen 0
            go_region
            go_wp2_with fail
            have hs2 := hs1.set (k := 0) (by decide) (dig a 1 / 32768 + dig a 2 % 32768 * 2)
            rw [show ((dig a 1 / 32768 + dig a 2 % 32768 * 2 : Nat) : Int) = ((dig a 1 : Nat) : Int) / 32768 + ((dig a 2 : Nat) : Int) % 32768 * 2 by omega] at hs2
            refine ⟨⟨1, by omega, rfl, ?_, (hr1.other (by omega) _ _).drew, (hA1.other (by omega) _ _).drew, (kr1.set (by omega) _ _).drew⟩, by simp [intOf]⟩
            exact (hs2.same fun k _ => by rw [upd_twice, ← hv]; exact toN_upd F 0 k).drew
          · have hv : F 1 = dig a 2 / 32768 + dig a 3 % 32768 * 2 := by
              have := (dd 1).out
              simpa [Nat.mod_one] using this
            clear dd dall dlt
            go_wp2_with fail
            have hs1 := ho.set (k := 1) (by decide) (dig a 2 / 32768)
            rw [show ((dig a 2 / 32768 : Nat) : Int) = ((dig a 2 : Nat) : Int) / 32768 by omega] at hs1
            have hr1 := hr.other (show w.heap.size + 1 ≠ w.heap.size + 1 + 1 by omega) 1 (.int .i64 (((dig a 2 : Nat) : Int) / 32768))
            have hA1 := hA.other (show w.heap.size ≠ w.heap.size + 1 + 1 by omega) 1 (.int .i64 (((dig a 2 : Nat) : Int) / 32768))
            have kr1 := kr.set (show w.heap.size ≤ w.heap.size + 1 + 1 by omega) 1 (.int .i64 (((dig a 2 : Nat) : Int) / 32768))
            generalize hW : wr.setCell ⟨w.heap.size + 1 + 1, 1, none⟩ (.int .i64 (((dig a 2 : Nat) : Int) / 32768)) = W at *
            have y0 : W.cell? ⟨w.heap.size + 1 + 1, 1, none⟩ = some (.int .i64 (((dig a 2 : Nat) : Int) / 32768)) := by
              have := hs1.cell (k := 1) (by decide)
              rw [show updN (toN F 1) 1 (dig a 2 / 32768) 1 = dig a 2 / 32768 from if_pos rfl, show ((dig a 2 / 32768 : Nat) : Int) = ((dig a 2 : Nat) : Int) / 32768 by omega] at this
              exact this
            have y1 := hA1.cell (k := 3) (by decide)
            have y2 := hs1.frozen 1
            go_region
            go_wp2_with fail
            have hs2 := hs1.set (k := 1) (by decide) (dig a 2 / 32768 + dig a 3 % 32768 * 2)
            rw [show ((dig a 2 / 32768 + dig a 3 % 32768 * 2 : Nat) : Int) = ((dig a 2 : Nat) : Int) / 32768 + ((dig a 3 : Nat) : Int) % 32768 * 2 by omega] at hs2
            refine ⟨⟨2, by omega, rfl, ?_, (hr1.other (by omega) _ _).drew, (hA1.other (by omega) _ _).drew, (kr1.set (by omega) _ _).drew⟩, by simp [intOf]⟩
            exact (hs2.same fun k _ => by rw [upd_twice, ← hv]; exact toN_upd F 1 k).drew
          · have hv : F 2 = dig a 3 / 32768 + dig a 4 % 32768 * 2 := by
              have := (dd 2).out
              simpa [Nat.mod_one] using this
            clear dd dall dlt
            go_wp2_with fail
            have hs1 := ho.set (k := 2) (by decide) (dig a 3 / 32768)
            rw [show ((dig a 3 / 32768 : Nat) : Int) = ((dig a 3 : Nat) : Int) / 32768 by omega] at hs1
            have hr1 := hr.other (show w.heap.size + 1 ≠ w.heap.size + 1 + 1 by omega) 2 (.int .i64 (((dig a 3 : Nat) : Int) / 32768))
            have hA1 := hA.other (show w.heap.size ≠ w.heap.size + 1 + 1 by omega) 2 (.int .i64 (((dig a 3 : Nat) : Int) / 32768))
            have kr1 := kr.set (show w.heap.size ≤ w.heap.size + 1 + 1 by omega) 2 (.int .i64 (((dig a 3 : Nat) : Int) / 32768))
            refine ⟨⟨3, by omega, rfl, ?_, hr1, hA1, kr1⟩, by simp [intOf]⟩
            have e : F 2 = dig a 3 / 32768 := by omega
            exact hs1.same fun k _ => by rw [← e]; exact toN_upd F 2 k
        · have hlt' : ¬ (i : Int) + 1 < 4 := by omega
          obtain rfl : i = 3 := by omega
          replace ho : NumAt wr (w.heap.size + 1 + 1) F := ho.same dall.out
          obtain ⟨a0, a1, a2, a3, -⟩ := ho.four
          obtain ⟨b0, b1, b2, b3, f0, f1, f2, f3⟩ := hr.four
          clear dd dall dlt
          go_wp2_with fail
          refine num_put F hr kr (by omega) (P := fun w9 => bodyPost _ _ _ _ _ w9) fun w9 h9 k9 _ => ?_
          obtain ⟨c0, c1, c2, c3, -⟩ := h9.four
          exact bodyPost_ret (v := numV F) (by simp [results, Tryd.results12, go_sem, numV, numA, c0, c1, c2, c3]) rfl ⟨rfl, k9⟩

theorem down32_dig {a : Nat} (ha : a < 18446744073709551616) (i : Nat) : dig (a / 2 ^ 32) i = dig a (i + 2) / 1 + dig a (i + 3) % 1 * 65536 := dig_down a 32 i
theorem down32_all {a : Nat} (ha : a < 18446744073709551616) (k : Nat) (hk : k < 4) : toN (dig (a / 2 ^ 32)) 2 k = dig (a / 2 ^ 32) k := by
  unfold toN
  split
  · rfl
  · rename_i h
    rw [down32_dig ha, dig_high ha (by omega), dig_high ha (by omega)]

set_option maxRecDepth 100000 in
set_option maxHeartbeats 4000000 in
theorem down32 (a : Nat) (ha : a < 18446744073709551616) (w : World) :
    Calls Tryd.prog 12 #[numV (dig a), .int .i64 32] w fun e w' => e = .returned (numV (dig (a / 2 ^ 32))) ∧ Kp w w' := by
  have dd := fun i => hide (down32_dig ha i)
  have dall := hide (down32_all ha)
  have dlt := fun i => dig_lt a i
  have dh := dig_high ha (k := 4) (by decide)
  generalize hF : dig (a / 2 ^ 32) = F at *
  unfold numV numA
  go_enter Tryd.func12, Tryd.ntmps12
  go_wp2_with fail
  go_loopw [6, 7] (fun vp vi wr => ∃ i : Nat, i ≤ 0 ∧ vi = .int .i64 (i : Int) ∧ vp = .int .i64 ((2 ^ i : Nat) : Int) ∧ NumAt wr (w.heap.size + 1 + 1) (fun _ => 0) ∧ NumAt wr (w.heap.size + 1) (fun _ => 0) ∧ NumAt wr w.heap.size (dig a) ∧ Kp w wr) (fun _ vi _ => 0 - (intOf vi).toNat)
  case atStart =>
    have h2 := heap_new ((w.alloc (.cells (numA (dig a)) 30)).alloc (.cells (numA fun _ => 0) 30)) (.cells (numA fun _ => 0) 30)
    have h1 := heap_old (heap_new (w.alloc (.cells (numA (dig a)) 30)) (.cells (numA fun _ => 0) 30)) (.cells (numA fun _ => 0) 30)
    have h0 := heap_old (heap_old (heap_new w (.cells (numA (dig a)) 30)) (.cells (numA fun _ => 0) 30)) (.cells (numA fun _ => 0) 30)
    simp only [World.size_alloc] at h2 h1
    exact ⟨0, Nat.zero_le _, rfl, rfl, h2, h1, h0, (((Kp.refl w).alloc _).alloc _).alloc _⟩
  case round =>
    obtain ⟨i, hi, rfl, rfl, ho, hr, hA, kr⟩ := hrel
    by_cases hlt : i < 0
    · have hlt' : (i : Int) < 0 := by omega
      have hn : Hid (2 ^ (i + 1) = 2 ^ i * 2) := by show _ = _; rw [Nat.pow_succ]
      have hY : 2 ^ i ≤ 2 ^ 15 := Nat.pow_le_pow_right (by decide) (by omega)
      generalize 2 ^ i = Y at *
      have hY' : Y ≤ 32768 := hY
      clear hY
      go_wp2_with fail
      refine ⟨⟨i + 1, by omega, by simp, ?_, ho, hr, hA, kr⟩, by simp [intOf]; omega⟩
      rw [hn.out]
      simp
    · obtain rfl : i = 0 := by omega
      rw [show ((2 ^ 0 : Nat) : Int) = 1 from rfl, show ((0 : Nat) : Int) = 0 from rfl]
      clear hlt hi
      go_wp2_with fail
      go_loopw [8] (fun vi wq => ∃ i : Nat, i ≤ 2 ∧ vi = .int .i64 (i : Int) ∧ NumAt wq (w.heap.size + 1 + 1) (toN F i) ∧ NumAt wq (w.heap.size + 1) (fun _ => 0) ∧ NumAt wq w.heap.size (dig a) ∧ Kp w wq) (fun vi _ => 2 - (intOf vi).toNat)
      case atStart => exact ⟨0, Nat.zero_le _, rfl, ho.same (fun k _ => toN_zero _ k), hr, hA, kr⟩
      case round =>
        clear ho hr hA kr
        obtain ⟨i, hi, rfl, ho, hr, hA, kr⟩ := hrel
        by_cases hlt : i < 2
        · have hcases : i = 0 ∨ i = 1 := by omega
          obtain ⟨a0, a1, a2, a3, -⟩ := hA.four
          obtain ⟨c0, c1, c2, c3, f0, f1, f2, f3⟩ := ho.four
          have l0 := dlt 0
          have l1 := dlt 1
          have l2 := dlt 2
          have l3 := dlt 3
          rcases hcases with rfl | rfl
          · have hv : F 0 = dig a 2 := by
              have := (dd 0).out
              simpa [Nat.mod_one] using this
            clear dd dall dlt
            go_wp2_with fail
            have hs1 := ho.set (k := 0) (by decide) (dig a 2)
            rw [show ((dig a 2 : Nat) : Int) = ((dig a 2 : Nat) : Int) by omega] at hs1
            have hr1 := hr.other (show w.heap.size + 1 ≠ w.heap.size + 1 + 1 by omega) 0 (.int .i64 (((dig a 2 : Nat) : Int)))
            have hA1 := hA.other (show w.heap.size ≠ w.heap.size + 1 + 1 by omega) 0 (.int .i64 (((dig a 2 : Nat) : Int)))
            have kr1 := kr.set (show w.heap.size ≤ w.heap.size + 1 + 1 by omega) 0 (.int .i64 (((dig a 2 : Nat) : Int)))
            generalize hW : wr.setCell ⟨w.heap.size + 1 + 1, 0, none⟩ (.int .i64 (((dig a 2 : Nat) : Int))) = W at *
            have y0 : W.cell? ⟨w.heap.size + 1 + 1, 0, none⟩ = some (.int .i64 (((dig a 2 : Nat) : Int))) := by
              have := hs1.cell (k := 0) (by decide)
              rw [show updN (toN F 0) 0 (dig a 2) 0 = dig a 2 from if_pos rfl, show ((dig a 2 : Nat) : Int) = ((dig a 2 : Nat) : Int) by omega] at this
              exact this
            have y1 := hA1.cell (k := 3) (by decide)
            have y2 := hs1.frozen 0
            go_region
            go_wp2_with fail
            have hs2 := hs1.set (k := 0) (by decide) (dig a 2)
            rw [show ((dig a 2 : Nat) : Int) = ((dig a 2 : Nat) : Int) by omega] at hs2
            refine ⟨⟨1, by omega, rfl, ?_, (hr1.other (by omega) _ _).drew, (hA1.other (by omega) _ _).drew, (kr1.set (by omega) _ _).drew⟩, by simp [intOf]⟩
            exact (hs2.same fun k _ => by rw [upd_twice, ← hv]; exact toN_upd F 0 k).drew
          · have hv : F 1 = dig a 3 := by
              have := (dd 1).out
              simpa [Nat.mod_one] using this
            clear dd dall dlt
            go_wp2_with fail
            have hs1 := ho.set (k := 1) (by decide) (dig a 3)
            rw [show ((dig a 3 : Nat) : Int) = ((dig a 3 : Nat) : Int) by omega] at hs1
            have hr1 := hr.other (show w.heap.size + 1 ≠ w.heap.size + 1 + 1 by omega) 1 (.int .i64 (((dig a 3 : Nat) : Int)))
            have hA1 := hA.other (show w.heap.size ≠ w.heap.size + 1 + 1 by omega) 1 (.int .i64 (((dig a 3 : Nat) : Int)))
            have kr1 := kr.set (show w.heap.size ≤ w.heap.size + 1 + 1 by omega) 1 (.int .i64 (((dig a 3 : Nat) : Int)))
            refine ⟨⟨2, by omega, rfl, ?_, hr1, hA1, kr1⟩, by simp [intOf]⟩
            have e : F 1 = dig a 3 := by omega
            exact hs1.same fun k _ => by rw [← e]; exact toN_upd F 1 k
        · have hlt' : ¬ (i : Int) + 2 < 4 := by omega
          obtain rfl : i = 2 := by omega
          replace ho : NumAt wr (w.heap.size + 1 + 1) F := ho.same dall.out
          obtain ⟨a0, a1, a2, a3, -⟩ := ho.four
          obtain ⟨b0, b1, b2, b3, f0, f1, f2, f3⟩ := hr.four
          clear dd dall dlt
          go_wp2_with fail
          refine num_put F hr kr (by omega) (P := fun w9 => bodyPost _ _ _ _ _ w9) fun w9 h9 k9 _ => ?_
          obtain ⟨c0, c1, c2, c3, -⟩ := h9.four
          exact bodyPost_ret (v := numV F) (by simp [results, Tryd.results12, go_sem, numV, numA, c0, c1, c2, c3]) rfl ⟨rfl, k9⟩
end Go.Proofs.YtiaalojfoldnfaaDoor
