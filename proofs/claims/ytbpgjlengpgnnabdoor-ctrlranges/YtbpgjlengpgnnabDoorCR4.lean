/-
  The statement's own is and told.
-/
import Derived.Test.YtbpgjlengpgnnabDoorCR3
namespace Go.Proofs.YtbpgjlengpgnnabDoor
open Go.RowKit
set_option linter.unusedVariables false

section
variable {w W W1 : World} {b c : Nat} {z : Int} {f : Nat → Bool}
abbrev S9 (w : World) (b c : Nat) (z : Int) (f : Nat → Bool) (W : World) : Prop := W.cell? ⟨b, 0, none⟩ = some (.int .u64 z) ∧ W.cell? ⟨c, 0, none⟩ = some (.bool (f 0)) ∧ W.cell? ⟨c, 1, none⟩ = some (.bool (f 1)) ∧ W.cell? ⟨c, 2, none⟩ = some (.bool (f 2)) ∧ W.cell? ⟨c, 3, none⟩ = some (.bool (f 3)) ∧ W.cell? ⟨c, 4, none⟩ = some (.bool (f 4)) ∧ W.cell? ⟨c, 5, none⟩ = some (.bool (f 5)) ∧ W.cell? ⟨c, 6, none⟩ = some (.bool (f 6)) ∧ W.cell? ⟨c, 7, none⟩ = some (.bool (f 7)) ∧ Kp w W
theorem S9.call (h : W.cell? ⟨b, 0, none⟩ = some (.int .u64 z) ∧ W.cell? ⟨c, 0, none⟩ = some (.bool (f 0)) ∧ W.cell? ⟨c, 1, none⟩ = some (.bool (f 1)) ∧ W.cell? ⟨c, 2, none⟩ = some (.bool (f 2)) ∧ W.cell? ⟨c, 3, none⟩ = some (.bool (f 3)) ∧ W.cell? ⟨c, 4, none⟩ = some (.bool (f 4)) ∧ W.cell? ⟨c, 5, none⟩ = some (.bool (f 5)) ∧ W.cell? ⟨c, 6, none⟩ = some (.bool (f 6)) ∧ W.cell? ⟨c, 7, none⟩ = some (.bool (f 7)) ∧ Kp w W) (k : Kp W W1) : W1.cell? ⟨b, 0, none⟩ = some (.int .u64 z) ∧ W1.cell? ⟨c, 0, none⟩ = some (.bool (f 0)) ∧ W1.cell? ⟨c, 1, none⟩ = some (.bool (f 1)) ∧ W1.cell? ⟨c, 2, none⟩ = some (.bool (f 2)) ∧ W1.cell? ⟨c, 3, none⟩ = some (.bool (f 3)) ∧ W1.cell? ⟨c, 4, none⟩ = some (.bool (f 4)) ∧ W1.cell? ⟨c, 5, none⟩ = some (.bool (f 5)) ∧ W1.cell? ⟨c, 6, none⟩ = some (.bool (f 6)) ∧ W1.cell? ⟨c, 7, none⟩ = some (.bool (f 7)) ∧ Kp w W1 := by
  obtain ⟨h, a0, a1, a2, a3, a4, a5, a6, a7, kk⟩ := h
  exact ⟨k.cell h, k.cell a0, k.cell a1, k.cell a2, k.cell a3, k.cell a4, k.cell a5, k.cell a6, k.cell a7, kk.trans k⟩
theorem S9.drew (h : W.cell? ⟨b, 0, none⟩ = some (.int .u64 z) ∧ W.cell? ⟨c, 0, none⟩ = some (.bool (f 0)) ∧ W.cell? ⟨c, 1, none⟩ = some (.bool (f 1)) ∧ W.cell? ⟨c, 2, none⟩ = some (.bool (f 2)) ∧ W.cell? ⟨c, 3, none⟩ = some (.bool (f 3)) ∧ W.cell? ⟨c, 4, none⟩ = some (.bool (f 4)) ∧ W.cell? ⟨c, 5, none⟩ = some (.bool (f 5)) ∧ W.cell? ⟨c, 6, none⟩ = some (.bool (f 6)) ∧ W.cell? ⟨c, 7, none⟩ = some (.bool (f 7)) ∧ Kp w W) : W.drew.cell? ⟨b, 0, none⟩ = some (.int .u64 z) ∧ W.drew.cell? ⟨c, 0, none⟩ = some (.bool (f 0)) ∧ W.drew.cell? ⟨c, 1, none⟩ = some (.bool (f 1)) ∧ W.drew.cell? ⟨c, 2, none⟩ = some (.bool (f 2)) ∧ W.drew.cell? ⟨c, 3, none⟩ = some (.bool (f 3)) ∧ W.drew.cell? ⟨c, 4, none⟩ = some (.bool (f 4)) ∧ W.drew.cell? ⟨c, 5, none⟩ = some (.bool (f 5)) ∧ W.drew.cell? ⟨c, 6, none⟩ = some (.bool (f 6)) ∧ W.drew.cell? ⟨c, 7, none⟩ = some (.bool (f 7)) ∧ Kp w W.drew := by
  obtain ⟨h, a0, a1, a2, a3, a4, a5, a6, a7, kk⟩ := h
  exact ⟨h, a0, a1, a2, a3, a4, a5, a6, a7, kk.drew⟩
theorem S9.kp (h : W.cell? ⟨b, 0, none⟩ = some (.int .u64 z) ∧ W.cell? ⟨c, 0, none⟩ = some (.bool (f 0)) ∧ W.cell? ⟨c, 1, none⟩ = some (.bool (f 1)) ∧ W.cell? ⟨c, 2, none⟩ = some (.bool (f 2)) ∧ W.cell? ⟨c, 3, none⟩ = some (.bool (f 3)) ∧ W.cell? ⟨c, 4, none⟩ = some (.bool (f 4)) ∧ W.cell? ⟨c, 5, none⟩ = some (.bool (f 5)) ∧ W.cell? ⟨c, 6, none⟩ = some (.bool (f 6)) ∧ W.cell? ⟨c, 7, none⟩ = some (.bool (f 7)) ∧ Kp w W) : Kp w W := by
  obtain ⟨h, a0, a1, a2, a3, a4, a5, a6, a7, kk⟩ := h
  exact kk
end
theorem S9.mk {w W : World} {b c : Nat} {z : Int} {f : Nat → Bool} (h : W.cell? ⟨b, 0, none⟩ = some (.int .u64 z)) (g : Bl W c f) (k : Kp w W) : S9 w b c z f W := by
  obtain ⟨a0, a1, a2, a3, a4, a5, a6, a7⟩ := g.all
  exact ⟨h, a0, a1, a2, a3, a4, a5, a6, a7, k⟩

theorem eight_set2 {w0 w : World} {b : Nat} {f : Nat → Bool} (h : Bl w b f) (k : Kp w0 w) (hb : w0.heap.size ≤ b) {g : Nat → Bool} {P : World → Prop} (hP : ∀ w9, Bl w9 b g → Kp w0 w9 → (∀ j, j ≠ b → w9.heap[j]? = w.heap[j]?) → P w9) :
    P ((((((((w.setCell ⟨b, 0, none⟩ (.bool (g 0))).setCell ⟨b, 1, none⟩ (.bool (g 1))).setCell ⟨b, 2, none⟩ (.bool (g 2))).setCell ⟨b, 3, none⟩ (.bool (g 3))).setCell ⟨b, 4, none⟩ (.bool (g 4))).setCell ⟨b, 5, none⟩ (.bool (g 5))).setCell ⟨b, 6, none⟩ (.bool (g 6))).setCell ⟨b, 7, none⟩ (.bool (g 7))) := by
  refine eight_set (P := fun w9 => (∀ j, j ≠ b → w9.heap[j]? = w.heap[j]?) → P w9) h k hb (fun w9 h1 h2 h3 => hP w9 h1 h2 h3) fun j hj => ?_
  repeat rw [Below.heap_setCell _ ⟨b, _, none⟩ _ j hj]

set_option maxRecDepth 100000 in
set_option maxHeartbeats 4000000 in
theorem is_true (m : Nat) (hm : m < 256) (w : World) :
    Calls Tryd.prog 14 #[setV m, setA m] w fun e w' => e = .returned (.bool true) ∧ Kp w w' := by
  have g0 : ∀ k : Nat, k < 8 → HasIs ((spread m : Nat) : Int) (k : Int) (hasM m k) := fun k hk => Or.inl ⟨m, k, rfl, rfl, hk, rfl⟩
  have g1 : ∀ i : Int, ¬ (0 ≤ i ∧ i < 8) → HasIs ((spread m : Nat) : Int) i false := fun i hi => Or.inr ⟨⟨m, rfl⟩, hi, rfl⟩
  have x1 := g1 (-1) (by omega)
  have x2 := g1 8 (by omega)
  have x3 := g1 9223372036854775807 (by omega)
  have x4 := g1 (-9223372036854775808) (by omega)
  have x5 := g1 2305843009213693952 (by omega)
  have x6 := g1 2305843009213693953 (by omega)
  have x7 := g1 (-2305843009213693952) (by omega)
  clear g1
  unfold setV setA
  generalize spread m = z at *
  go_enter Tryd.func14, Tryd.ntmps14
  go_wp2_with fail
  have c1 := old_cell (new_cell w (.int .u64 (z : Int)) 26) (.cells #[.bool (hasM m 0), .bool (hasM m 1), .bool (hasM m 2), .bool (hasM m 3), .bool (hasM m 4), .bool (hasM m 5), .bool (hasM m 6), .bool (hasM m 7)] 29)
  have hS := Bl.boxed (w.alloc (.cells #[.int .u64 (z : Int)] 26)) (hasM m)
  have e1 : (w.alloc (.cells #[.int .u64 (z : Int)] 26)).heap.size = w.heap.size + 1 := by simp
  rw [e1] at hS
  clear e1
  have kk : Kp w ((w.alloc (.cells #[.int .u64 (z : Int)] 26)).alloc (.cells #[.bool (hasM m 0), .bool (hasM m 1), .bool (hasM m 2), .bool (hasM m 3), .bool (hasM m 4), .bool (hasM m 5), .bool (hasM m 6), .bool (hasM m 7)] 29)) := ((Kp.refl _).alloc _).alloc _
  generalize ((w.alloc (.cells #[.int .u64 (z : Int)] 26)).alloc (.cells #[.bool (hasM m 0), .bool (hasM m 1), .bool (hasM m 2), .bool (hasM m 3), .bool (hasM m 4), .bool (hasM m 5), .bool (hasM m 6), .bool (hasM m 7)] 29)) = w2 at *
  go_loopg [5] 8 (fun g vk wx => Kp w wx ∧ ∃ k : Nat, g = 8 - k ∧ k ≤ 8 ∧ vk = .int .i64 (k : Int) ∧ Bl wx (w.heap.size + 1) (hasM m) ∧ wx.cell? ⟨w.heap.size, 0, none⟩ = some (.int .u64 (z : Int)))
  case atStart => exact ⟨kk, 0, rfl, by decide, rfl, hS, c1⟩
  case round =>
    clear kk hS c1
    obtain ⟨kk, k, rfl, hk, rfl, hS, c1⟩ := hrel
    by_cases hlt : k < 8
    · have hlt' : (k : Int) < 8 := by omega
      obtain ⟨c2, -⟩ := hS.at hlt
      replace g0 := g0 k hlt
      clear x1 x2 x3 x4 x5 x6 x7
      generalize hasM m k = bk at *
      have hH : wr.cell? ⟨w.heap.size, 0, none⟩ = some (.int .u64 (z : Int)) ∧ wr.cell? ⟨w.heap.size + 1, k, none⟩ = some (.bool bk) ∧ Kp wr wr := ⟨c1, c2, Kp.refl _⟩
      go_wp2_with fail
      go_region_held3 (fun w' => w'.cell? ⟨w.heap.size, 0, none⟩ = some (.int .u64 (z : Int)) ∧ w'.cell? ⟨w.heap.size + 1, k, none⟩ = some (.bool bk) ∧ Kp wr w') (first | exact hH | assumption | exact ⟨c1, c2, (Kp.refl wr).drew⟩ | exact ⟨k5.cell c1, k5.cell c2, ((Kp.refl wr).drew).trans k5⟩) (first | (go_at_call 15; refine (has_is g0 _).mono ?_; rintro r w5 ⟨rfl, k5⟩))
      have hH2 : w5.cell? ⟨w.heap.size, 0, none⟩ = some (.int .u64 (z : Int)) ∧ w5.cell? ⟨w.heap.size + 1, k, none⟩ = some (.bool bk) ∧ Kp wr w5 := by assumption
      obtain ⟨d1, -, dk⟩ := hH2
      replace hS := hS.kp dk
      replace kk := kk.trans dk
      clear hH c1 c2 dk
      go_wp2_with fail
      go_roundg (8 - (k + 1))
      case measure => omega
      case rel => exact ⟨kk, k + 1, rfl, by omega, by simp, hS, d1⟩
    · have hlt' : ¬ (k : Int) < 8 := by omega
      clear g0 hS
      go_wp2_with fail
      refine (has_is x1 _).mono ?_
      rintro e w5 ⟨rfl, k5⟩
      replace c1 := k5.cell c1
      replace kk := kk.trans k5
      clear k5
      go_wp2_with fail
      refine (has_is x2 _).mono ?_
      rintro e w5 ⟨rfl, k5⟩
      replace c1 := k5.cell c1
      replace kk := kk.trans k5
      clear k5
      go_wp2_with fail
      refine (has_is x3 _).mono ?_
      rintro e w5 ⟨rfl, k5⟩
      replace c1 := k5.cell c1
      replace kk := kk.trans k5
      clear k5
      go_wp2_with fail
      refine (has_is x4 _).mono ?_
      rintro e w5 ⟨rfl, k5⟩
      replace c1 := k5.cell c1
      replace kk := kk.trans k5
      clear k5
      go_wp2_with fail
      refine (has_is x5 _).mono ?_
      rintro e w5 ⟨rfl, k5⟩
      replace c1 := k5.cell c1
      replace kk := kk.trans k5
      clear k5
      go_wp2_with fail
      refine (has_is x6 _).mono ?_
      rintro e w5 ⟨rfl, k5⟩
      replace c1 := k5.cell c1
      replace kk := kk.trans k5
      clear k5
      go_wp2_with fail
      refine (has_is x7 _).mono ?_
      rintro e w5 ⟨rfl, k5⟩
      replace c1 := k5.cell c1
      replace kk := kk.trans k5
      clear k5
      go_wp2_with fail
      go_ret
      exact ⟨rfl, kk⟩

set_option maxRecDepth 100000 in
set_option maxHeartbeats 8000000 in
theorem told_true (m0 : Nat) (hm : m0 < 256) (w : World) (hT : TabAt w) :
    Calls Tryd.prog 24 #[setV m0, setA m0] w fun e w' => e = .returned (.bool true) ∧ Kp w w' := by
  unfold setV setA
  go_enter Tryd.func24, Tryd.ntmps24
  go_wp2_with fail
  have c1 := old_cell (new_cell w (.int .u64 ((spread m0 : Nat) : Int)) 26) (.cells #[.bool (hasM m0 0), .bool (hasM m0 1), .bool (hasM m0 2), .bool (hasM m0 3), .bool (hasM m0 4), .bool (hasM m0 5), .bool (hasM m0 6), .bool (hasM m0 7)] 29)
  have hS := Bl.boxed (w.alloc (.cells #[.int .u64 ((spread m0 : Nat) : Int)] 26)) (hasM m0)
  have hO := heap_old (heap_new w (.cells #[.int .u64 ((spread m0 : Nat) : Int)] 26)) (.cells #[.bool (hasM m0 0), .bool (hasM m0 1), .bool (hasM m0 2), .bool (hasM m0 3), .bool (hasM m0 4), .bool (hasM m0 5), .bool (hasM m0 6), .bool (hasM m0 7)] 29)
  have e1 : (w.alloc (.cells #[.int .u64 ((spread m0 : Nat) : Int)] 26)).heap.size = w.heap.size + 1 := by simp
  rw [e1] at hS
  clear e1 c1
  have kk : Kp w ((w.alloc (.cells #[.int .u64 ((spread m0 : Nat) : Int)] 26)).alloc (.cells #[.bool (hasM m0 0), .bool (hasM m0 1), .bool (hasM m0 2), .bool (hasM m0 3), .bool (hasM m0 4), .bool (hasM m0 5), .bool (hasM m0 6), .bool (hasM m0 7)] 29)) := ((Kp.refl _).alloc _).alloc _
  generalize ((w.alloc (.cells #[.int .u64 ((spread m0 : Nat) : Int)] 26)).alloc (.cells #[.bool (hasM m0 0), .bool (hasM m0 1), .bool (hasM m0 2), .bool (hasM m0 3), .bool (hasM m0 4), .bool (hasM m0 5), .bool (hasM m0 6), .bool (hasM m0 7)] 29)) = w2 at *
  go_loopg [5] 9 (fun g vk wx => Kp w wx ∧ ∃ k : Nat, g = 9 - k ∧ k ≤ 9 ∧ vk = .int .i64 (k : Int) ∧ ∃ m, m < 256 ∧ Bl wx (w.heap.size + 1) (hasM m) ∧ wx.heap[w.heap.size]? = some (.cells #[.int .u64 ((spread m : Nat) : Int)] 26))
  case atStart => exact ⟨kk, 0, rfl, by decide, rfl, m0, hm, hS, hO⟩
  case round =>
    clear kk hS hO hm
    obtain ⟨kk, k, rfl, hk, rfl, m, hm, hS, hO⟩ := hrel
    by_cases hlt : k < 9
    · have hlt' : (k : Int) < 9 := by omega
      have hI := is_true m hm
      have f1 : FirstIs ((spread m : Nat) : Int) ((firM m : Nat) : Int) := ⟨m, hm, rfl, rfl⟩
      have n1 : CntIs ((spread m : Nat) : Int) ((cntM m : Nat) : Int) := ⟨m, hm, rfl, rfl⟩
      have hF := rfirst_any m hm
      have hC := rcount_any m hm
      have r1 : RestIs ((spread m : Nat) : Int) ((spread (rstM m) : Nat) : Int) := ⟨m, hm, rfl, rfl⟩
      have hR := rrest_any m hm
      have hm2 := rst_lt m hm
      unfold setV setA at hI
      unfold setA at hF hC hR
      generalize firM m = F at *
      generalize cntM m = C at *
      generalize rstM m = m2 at *
      generalize hz2 : spread m2 = z2 at *
      have hz2' := hide hz2
      generalize hasM m = G at *
      generalize spread m = z at *
      clear hz2
      replace hT := hT.kp kk
      have hH : S9 wr w.heap.size (w.heap.size + 1) (z : Int) G wr := S9.mk (one_cell hO).1 hS (Kp.refl _)
      have hFi : ∀ W, S9 wr w.heap.size (w.heap.size + 1) (z : Int) G W → Calls Tryd.prog 29 #[.agg #[.int .u64 (z : Int)]] W fun e w' => e = .returned (.int .i64 (F : Int)) ∧ Kp W w' := fun W h => first_is f1 (hT.kp (S9.kp h))
      go_wp2_with fail
      go_region_held3 (fun w' => w'.cell? ⟨w.heap.size, 0, none⟩ = some (.int .u64 (z : Int)) ∧ w'.cell? ⟨w.heap.size + 1, 0, none⟩ = some (.bool (G 0)) ∧ w'.cell? ⟨w.heap.size + 1, 1, none⟩ = some (.bool (G 1)) ∧ w'.cell? ⟨w.heap.size + 1, 2, none⟩ = some (.bool (G 2)) ∧ w'.cell? ⟨w.heap.size + 1, 3, none⟩ = some (.bool (G 3)) ∧ w'.cell? ⟨w.heap.size + 1, 4, none⟩ = some (.bool (G 4)) ∧ w'.cell? ⟨w.heap.size + 1, 5, none⟩ = some (.bool (G 5)) ∧ w'.cell? ⟨w.heap.size + 1, 6, none⟩ = some (.bool (G 6)) ∧ w'.cell? ⟨w.heap.size + 1, 7, none⟩ = some (.bool (G 7)) ∧ Kp wr w') (first | exact hH | assumption | (with_reducible (refine S9.drew ?_; assumption)) | (with_reducible (refine S9.call ?_ k5; assumption))) (first | (go_at_call 14; refine (hI _).mono ?_; rintro r w5 ⟨rfl, k5⟩) | (go_at_call 29; refine (hFi _ ?_).mono ?_; assumption; rintro r w5 ⟨rfl, k5⟩) | (go_at_call 32; refine (hF _).mono ?_; rintro r w5 ⟨rfl, k5⟩) | (go_at_call 27; refine (count_is n1 _).mono ?_; rintro r w5 ⟨rfl, k5⟩) | (go_at_call 33; refine (hC _).mono ?_; rintro r w5 ⟨rfl, k5⟩))
      have hH2 : S9 wr w.heap.size (w.heap.size + 1) (z : Int) G w5 := by assumption
      have dk := S9.kp hH2
      replace hS := hS.kp dk
      replace hO := dk.blk hO
      replace kk := kk.trans dk
      replace hT := hT.kp dk
      clear hH hH2 dk hFi
      have c1 := (one_cell hO).1
      go_wp2_with fail
      refine (rest_is r1 _).mono ?_
      rintro e w6 ⟨rfl, k6⟩
      replace hS := hS.kp k6
      replace hO := k6.blk hO
      replace kk := kk.trans k6
      replace hT := hT.kp k6
      clear k6 c1
      go_wp2_with fail
      have c3 := new_cell w6 (.int .u64 (z2 : Int)) 26
      have k7 := (Kp.refl w6).alloc (.cells #[.int .u64 (z2 : Int)] 26)
      replace hS := hS.kp k7
      replace hO := k7.blk hO
      replace kk := kk.trans k7
      replace hT := hT.kp k7
      clear k7
      generalize w6.alloc (.cells #[.int .u64 (z2 : Int)] 26) = w7 at *
      generalize w6.heap.size = B6 at *
      have hH : S9 w7 w.heap.size (w.heap.size + 1) (z : Int) G w7 := S9.mk (one_cell hO).1 hS (Kp.refl _)
      have hFi : ∀ W, S9 w7 w.heap.size (w.heap.size + 1) (z : Int) G W → Calls Tryd.prog 29 #[.agg #[.int .u64 (z : Int)]] W fun e w' => e = .returned (.int .i64 (F : Int)) ∧ Kp W w' := fun W h => first_is f1 (hT.kp (S9.kp h))
      go_region_held3 (fun w' => w'.cell? ⟨w.heap.size, 0, none⟩ = some (.int .u64 (z : Int)) ∧ w'.cell? ⟨w.heap.size + 1, 0, none⟩ = some (.bool (G 0)) ∧ w'.cell? ⟨w.heap.size + 1, 1, none⟩ = some (.bool (G 1)) ∧ w'.cell? ⟨w.heap.size + 1, 2, none⟩ = some (.bool (G 2)) ∧ w'.cell? ⟨w.heap.size + 1, 3, none⟩ = some (.bool (G 3)) ∧ w'.cell? ⟨w.heap.size + 1, 4, none⟩ = some (.bool (G 4)) ∧ w'.cell? ⟨w.heap.size + 1, 5, none⟩ = some (.bool (G 5)) ∧ w'.cell? ⟨w.heap.size + 1, 6, none⟩ = some (.bool (G 6)) ∧ w'.cell? ⟨w.heap.size + 1, 7, none⟩ = some (.bool (G 7)) ∧ Kp w7 w') (first | exact hH | assumption | (with_reducible (refine S9.drew ?_; assumption)) | (with_reducible (refine S9.call ?_ k5; assumption))) (first | (go_at_call 14; refine (hI _).mono ?_; rintro r w5 ⟨rfl, k5⟩) | (go_at_call 29; refine (hFi _ ?_).mono ?_; assumption; rintro r w5 ⟨rfl, k5⟩) | (go_at_call 32; refine (hF _).mono ?_; rintro r w5 ⟨rfl, k5⟩) | (go_at_call 27; refine (count_is n1 _).mono ?_; rintro r w5 ⟨rfl, k5⟩) | (go_at_call 33; refine (hC _).mono ?_; rintro r w5 ⟨rfl, k5⟩))
      have hH2 : S9 w7 w.heap.size (w.heap.size + 1) (z : Int) G w5 := by assumption
      have dk := S9.kp hH2
      replace hS := hS.kp dk
      replace hO := dk.blk hO
      replace kk := kk.trans dk
      replace c3 := dk.cell c3
      clear hH hH2 dk hT hI f1 n1 hF hC r1 hFi
      obtain ⟨c1, c2⟩ := one_cell hO
      have hO2 : (w5.setCell ⟨w.heap.size, 0, none⟩ (.int .u64 (z2 : Int))).heap[w.heap.size]? = some (.cells #[.int .u64 (z2 : Int)] 26) := set_one hO 0 (.int .u64 (z2 : Int)) (by simp)
      have hS2 : Bl (w5.setCell ⟨w.heap.size, 0, none⟩ (.int .u64 (z2 : Int))) (w.heap.size + 1) G := (Below.heap_setCell w5 ⟨w.heap.size, 0, none⟩ (.int .u64 (z2 : Int)) (w.heap.size + 1) (by simp)).trans hS
      have kk2 : Kp w (w5.setCell ⟨w.heap.size, 0, none⟩ (.int .u64 (z2 : Int))) := Below.setCell kk (Nat.le_refl _) _
      obtain ⟨a0, a1, a2, a3, a4, a5, a6, a7⟩ := hS2.all
      clear hO hS kk
      go_wp2_with fail
      refine (hR _).mono ?_
      rintro e w8 ⟨rfl, k8⟩
      replace hO2 := k8.blk hO2
      replace hS2 := hS2.kp k8
      replace kk2 := kk2.trans k8
      clear k8 hR c1 c2 c3 a0 a1 a2 a3 a4 a5 a6 a7
      obtain ⟨a0, a1, a2, a3, a4, a5, a6, a7⟩ := hS2.all
      obtain ⟨f0, f1, f2, f3, f4, f5, f6, f7⟩ := hS2.thaw
      go_wp2_with fail
      refine eight_set2 hS2 kk2 (by simp) (P := fun w9 => Handed _ _ _ w9) fun w9 h9 k9 ho => ?_
      go_roundg (9 - (k + 1))
      case measure => omega
      case rel => exact ⟨k9, k + 1, rfl, by omega, by simp, m2, hm2, h9, by rw [hz2'.out]; exact (ho _ (by simp)).trans hO2⟩
    · have hlt' : ¬ (k : Int) < 9 := by omega
      clear hS hO
      go_wp2_with fail
      go_ret
      exact ⟨rfl, kk⟩
end Go.Proofs.YtbpgjlengpgnnabDoor
