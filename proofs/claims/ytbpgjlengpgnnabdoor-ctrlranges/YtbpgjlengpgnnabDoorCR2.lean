/-
  The reference's sets: eight bools in a block.
-/
import Derived.Test.YtbpgjlengpgnnabDoorCR1
namespace Go.Proofs.YtbpgjlengpgnnabDoor
open Go.RowKit
set_option linter.unusedVariables false

def arr8 (f : Nat → Bool) : Array Value := #[.bool (f 0), .bool (f 1), .bool (f 2), .bool (f 3), .bool (f 4), .bool (f 5), .bool (f 6), .bool (f 7)]
theorem arr8_size (f : Nat → Bool) : (arr8 f).size = 8 := rfl
/-- Eight bools in a block. -/
def Bl (w : World) (b : Nat) (f : Nat → Bool) : Prop := w.heap[b]? = some (.cells (arr8 f) 29)
theorem Bl.kp {w w' : World} {b : Nat} {f : Nat → Bool} (h : Bl w b f) (k : Kp w w') : Bl w' b f := Kp.blk k h
theorem arr8_ext {f g : Nat → Bool} (e : ∀ j, j < 8 → f j = g j) : arr8 f = arr8 g := by
  unfold arr8
  rw [e 0 (by decide), e 1 (by decide), e 2 (by decide), e 3 (by decide), e 4 (by decide), e 5 (by decide), e 6 (by decide), e 7 (by decide)]
theorem Bl.ext {w : World} {b : Nat} {f g : Nat → Bool} (h : Bl w b f) (e : ∀ j, j < 8 → f j = g j) : Bl w b g := by
  unfold Bl
  rw [← arr8_ext e]
  exact h
theorem Bl.at {w : World} {b : Nat} {f : Nat → Bool} (h : Bl w b f) {k : Nat} (hk : k < 8) : w.cell? ⟨b, k, none⟩ = some (.bool (f k)) ∧ w.frozen? ⟨b, k, none⟩ = false := by
  unfold Bl arr8 at h
  rcases (by omega : k = 0 ∨ k = 1 ∨ k = 2 ∨ k = 3 ∨ k = 4 ∨ k = 5 ∨ k = 6 ∨ k = 7) with rfl | rfl | rfl | rfl | rfl | rfl | rfl | rfl <;> simp [World.cell?, World.frozen?, h]
theorem Bl.all {w : World} {b : Nat} {f : Nat → Bool} (h : Bl w b f) : w.cell? ⟨b, 0, none⟩ = some (.bool (f 0)) ∧ w.cell? ⟨b, 1, none⟩ = some (.bool (f 1)) ∧ w.cell? ⟨b, 2, none⟩ = some (.bool (f 2)) ∧ w.cell? ⟨b, 3, none⟩ = some (.bool (f 3)) ∧ w.cell? ⟨b, 4, none⟩ = some (.bool (f 4)) ∧ w.cell? ⟨b, 5, none⟩ = some (.bool (f 5)) ∧ w.cell? ⟨b, 6, none⟩ = some (.bool (f 6)) ∧ w.cell? ⟨b, 7, none⟩ = some (.bool (f 7)) :=
  ⟨(h.at (by decide)).1, (h.at (by decide)).1, (h.at (by decide)).1, (h.at (by decide)).1, (h.at (by decide)).1, (h.at (by decide)).1, (h.at (by decide)).1, (h.at (by decide)).1⟩
theorem Bl.thaw {w : World} {b : Nat} {f : Nat → Bool} (h : Bl w b f) : w.frozen? ⟨b, 0, none⟩ = false ∧ w.frozen? ⟨b, 1, none⟩ = false ∧ w.frozen? ⟨b, 2, none⟩ = false ∧ w.frozen? ⟨b, 3, none⟩ = false ∧ w.frozen? ⟨b, 4, none⟩ = false ∧ w.frozen? ⟨b, 5, none⟩ = false ∧ w.frozen? ⟨b, 6, none⟩ = false ∧ w.frozen? ⟨b, 7, none⟩ = false :=
  ⟨(h.at (by decide)).2, (h.at (by decide)).2, (h.at (by decide)).2, (h.at (by decide)).2, (h.at (by decide)).2, (h.at (by decide)).2, (h.at (by decide)).2, (h.at (by decide)).2⟩
theorem Bl.set {w : World} {b : Nat} {f : Nat → Bool} (h : Bl w b f) {k : Nat} (hk : k < 8) (v : Bool) : Bl (w.setCell ⟨b, k, none⟩ (.bool v)) b (fun j => if j = k then v else f j) := by
  unfold Bl
  rw [set_one h k (.bool v) (by rw [arr8_size]; exact hk)]
  congr 2
  unfold arr8
  rcases (by omega : k = 0 ∨ k = 1 ∨ k = 2 ∨ k = 3 ∨ k = 4 ∨ k = 5 ∨ k = 6 ∨ k = 7) with rfl | rfl | rfl | rfl | rfl | rfl | rfl | rfl <;> simp
theorem Bl.new (w : World) : Bl (w.alloc (.cells #[.bool false, .bool false, .bool false, .bool false, .bool false, .bool false, .bool false, .bool false] 29)) w.heap.size (fun _ => false) := heap_new w _
theorem eight_set {w0 w : World} {b : Nat} {f : Nat → Bool} (h : Bl w b f) (k : Kp w0 w) (hb : w0.heap.size ≤ b) {g : Nat → Bool} {P : World → Prop} (hP : ∀ w9, Bl w9 b g → Kp w0 w9 → P w9) :
    P ((((((((w.setCell ⟨b, 0, none⟩ (.bool (g 0))).setCell ⟨b, 1, none⟩ (.bool (g 1))).setCell ⟨b, 2, none⟩ (.bool (g 2))).setCell ⟨b, 3, none⟩ (.bool (g 3))).setCell ⟨b, 4, none⟩ (.bool (g 4))).setCell ⟨b, 5, none⟩ (.bool (g 5))).setCell ⟨b, 6, none⟩ (.bool (g 6))).setCell ⟨b, 7, none⟩ (.bool (g 7))) := by
  refine hP _ ?_ ?_
  · unfold Bl
    have h0 := set_one h 0 (.bool (g 0)) (by simp [arr8])
    have h1 := set_one h0 1 (.bool (g 1)) (by simp [arr8])
    have h2 := set_one h1 2 (.bool (g 2)) (by simp [arr8])
    have h3 := set_one h2 3 (.bool (g 3)) (by simp [arr8])
    have h4 := set_one h3 4 (.bool (g 4)) (by simp [arr8])
    have h5 := set_one h4 5 (.bool (g 5)) (by simp [arr8])
    have h6 := set_one h5 6 (.bool (g 6)) (by simp [arr8])
    have h7 := set_one h6 7 (.bool (g 7)) (by simp [arr8])
    exact h7
  · exact Below.setCell (Below.setCell (Below.setCell (Below.setCell (Below.setCell (Below.setCell (Below.setCell (Below.setCell k hb _) hb _) hb _) hb _) hb _) hb _) hb _) hb _

/-- A set as the reference hands it on. -/
def setA (m : Nat) : Value := .agg #[.bool (hasM m 0), .bool (hasM m 1), .bool (hasM m 2), .bool (hasM m 3), .bool (hasM m 4), .bool (hasM m 5), .bool (hasM m 6), .bool (hasM m 7)]

set_option maxRecDepth 100000 in
set_option maxHeartbeats 2000000 in
theorem rempty_set (W : Nat) (hw : W < 18446744073709551616) (w : World) :
    Calls Tryd.prog 12 #[.int .u64 (W : Int)] w fun e w' => e = .returned (setA (mk (fun x => x == 128) W)) ∧ Kp w w' := by
  go_enter Tryd.func12, Tryd.ntmps12
  go_wp2_with fail
  have hR := (Bl.new w).kp ((Kp.refl _).alloc (.cells #[.bool false, .bool false, .bool false, .bool false, .bool false, .bool false, .bool false, .bool false] 29))
  have hS := Bl.new (w.alloc (.cells #[.bool false, .bool false, .bool false, .bool false, .bool false, .bool false, .bool false, .bool false] 29))
  have kk : Kp w ((w.alloc (.cells #[.bool false, .bool false, .bool false, .bool false, .bool false, .bool false, .bool false, .bool false] 29)).alloc (.cells #[.bool false, .bool false, .bool false, .bool false, .bool false, .bool false, .bool false, .bool false] 29)) := ((Kp.refl _).alloc _).alloc _
  have e1 : (w.alloc (.cells #[.bool false, .bool false, .bool false, .bool false, .bool false, .bool false, .bool false, .bool false] 29)).heap.size = w.heap.size + 1 := by simp
  rw [e1] at hS
  clear e1
  generalize ((w.alloc (.cells #[.bool false, .bool false, .bool false, .bool false, .bool false, .bool false, .bool false, .bool false] 29)).alloc (.cells #[.bool false, .bool false, .bool false, .bool false, .bool false, .bool false, .bool false, .bool false] 29)) = w2 at *
  go_loopg [4] 8 (fun g vk wx => Kp w wx ∧ ∃ k : Nat, g = 8 - k ∧ k ≤ 8 ∧ vk = .int .i64 (k : Int) ∧ Bl wx w.heap.size (fun _ => false) ∧ Bl wx (w.heap.size + 1) (fun j => decide (j < k) && (fun x => x == 128) (byN W j)))
  case atStart => exact ⟨kk, 0, rfl, by decide, rfl, hR, hS.ext fun j _ => by simp⟩
  case round =>
    clear kk hR hS
    obtain ⟨kk, k, rfl, hk, rfl, hR, hS⟩ := hrel
    by_cases hlt : k < 8
    · have hlt' : (k : Int) < 8 := by omega
      have t0 := rget_in W k hw hlt
      obtain ⟨c1, c2⟩ := hS.at hlt
      have hA : Aside (∀ v, v = (fun x => x == 128) (byN W k) → Bl (wr.setCell ⟨w.heap.size + 1, k, none⟩ (.bool v)) (w.heap.size + 1) (fun j => decide (j < k + 1) && (fun x => x == 128) (byN W j))) := fun v hv => (hS.set hlt v).ext fun j hj => by
        by_cases e : j = k
        · subst e
          simp [hv]
        · have : decide (j < k + 1) = decide (j < k) := by
            rw [decide_eq_decide]
            omega
          simp only [e, if_false, this]
      have hR2 : Aside (∀ v, Bl (wr.setCell ⟨w.heap.size + 1, k, none⟩ v) w.heap.size (fun _ => false)) := fun v => (Below.heap_setCell wr ⟨w.heap.size + 1, k, none⟩ v w.heap.size (by simp)).trans hR
      have hK2 : Aside (∀ v, Kp w (wr.setCell ⟨w.heap.size + 1, k, none⟩ v)) := fun v => Below.setCell kk (by simp) _
      clear hS hR kk
      go_wp2_with fail
      refine (t0 _).mono ?_
      rintro e w5 ⟨rfl, rfl⟩
      go_wp2_with fail
      go_roundg (8 - (k + 1))
      case measure => omega
      case rel => exact ⟨hK2.out _, k + 1, rfl, by omega, by simp, hR2.out _, hA.out _ (by rw [Bool.eq_iff_iff, beq_iff_eq, beq_iff_eq]; omega)⟩
    · have hlt' : ¬ (k : Int) < 8 := by omega
      obtain rfl : k = 8 := by omega
      replace hS := hS.ext (g := hasM (mk (fun x => x == 128) W)) fun j hj => by rw [hasM_mk _ _ hj, decide_eq_true hj, Bool.true_and]
      obtain ⟨a0, a1, a2, a3, a4, a5, a6, a7⟩ := hS.all
      obtain ⟨b0, b1, b2, b3, b4, b5, b6, b7⟩ := hR.all
      obtain ⟨f0, f1, f2, f3, f4, f5, f6, f7⟩ := hR.thaw
      clear hS
      go_wp2_with fail
      refine eight_set hR kk (Nat.le_refl _) (P := fun w9 => bodyPost _ _ _ _ _ w9) fun w9 h9 k9 => ?_
      obtain ⟨d0, d1, d2, d3, d4, d5, d6, d7⟩ := h9.all
      exact bodyPost_ret (v := setA _) (by simp [setA, results, Tryd.results12, go_sem, d0, d1, d2, d3, d4, d5, d6, d7]) rfl ⟨rfl, k9⟩

set_option maxRecDepth 100000 in
set_option maxHeartbeats 2000000 in
theorem rfull_set (W : Nat) (hw : W < 18446744073709551616) (w : World) :
    Calls Tryd.prog 8 #[.int .u64 (W : Int)] w fun e w' => e = .returned (setA (mk (fun x => decide (x < 128)) W)) ∧ Kp w w' := by
  go_enter Tryd.func8, Tryd.ntmps8
  go_wp2_with fail
  have hR := (Bl.new w).kp ((Kp.refl _).alloc (.cells #[.bool false, .bool false, .bool false, .bool false, .bool false, .bool false, .bool false, .bool false] 29))
  have hS := Bl.new (w.alloc (.cells #[.bool false, .bool false, .bool false, .bool false, .bool false, .bool false, .bool false, .bool false] 29))
  have kk : Kp w ((w.alloc (.cells #[.bool false, .bool false, .bool false, .bool false, .bool false, .bool false, .bool false, .bool false] 29)).alloc (.cells #[.bool false, .bool false, .bool false, .bool false, .bool false, .bool false, .bool false, .bool false] 29)) := ((Kp.refl _).alloc _).alloc _
  have e1 : (w.alloc (.cells #[.bool false, .bool false, .bool false, .bool false, .bool false, .bool false, .bool false, .bool false] 29)).heap.size = w.heap.size + 1 := by simp
  rw [e1] at hS
  clear e1
  generalize ((w.alloc (.cells #[.bool false, .bool false, .bool false, .bool false, .bool false, .bool false, .bool false, .bool false] 29)).alloc (.cells #[.bool false, .bool false, .bool false, .bool false, .bool false, .bool false, .bool false, .bool false] 29)) = w2 at *
  go_loopg [4] 8 (fun g vk wx => Kp w wx ∧ ∃ k : Nat, g = 8 - k ∧ k ≤ 8 ∧ vk = .int .i64 (k : Int) ∧ Bl wx w.heap.size (fun _ => false) ∧ Bl wx (w.heap.size + 1) (fun j => decide (j < k) && (fun x => decide (x < 128)) (byN W j)))
  case atStart => exact ⟨kk, 0, rfl, by decide, rfl, hR, hS.ext fun j _ => by simp⟩
  case round =>
    clear kk hR hS
    obtain ⟨kk, k, rfl, hk, rfl, hR, hS⟩ := hrel
    by_cases hlt : k < 8
    · have hlt' : (k : Int) < 8 := by omega
      have t0 := rget_in W k hw hlt
      obtain ⟨c1, c2⟩ := hS.at hlt
      have hA : Aside (∀ v, v = (fun x => decide (x < 128)) (byN W k) → Bl (wr.setCell ⟨w.heap.size + 1, k, none⟩ (.bool v)) (w.heap.size + 1) (fun j => decide (j < k + 1) && (fun x => decide (x < 128)) (byN W j))) := fun v hv => (hS.set hlt v).ext fun j hj => by
        by_cases e : j = k
        · subst e
          simp [hv]
        · have : decide (j < k + 1) = decide (j < k) := by
            rw [decide_eq_decide]
            omega
          simp only [e, if_false, this]
      have hR2 : Aside (∀ v, Bl (wr.setCell ⟨w.heap.size + 1, k, none⟩ v) w.heap.size (fun _ => false)) := fun v => (Below.heap_setCell wr ⟨w.heap.size + 1, k, none⟩ v w.heap.size (by simp)).trans hR
      have hK2 : Aside (∀ v, Kp w (wr.setCell ⟨w.heap.size + 1, k, none⟩ v)) := fun v => Below.setCell kk (by simp) _
      clear hS hR kk
      go_wp2_with fail
      refine (t0 _).mono ?_
      rintro e w5 ⟨rfl, rfl⟩
      go_wp2_with fail
      go_roundg (8 - (k + 1))
      case measure => omega
      case rel => exact ⟨hK2.out _, k + 1, rfl, by omega, by simp, hR2.out _, hA.out _ (decide_eq_decide.2 (by omega))⟩
    · have hlt' : ¬ (k : Int) < 8 := by omega
      obtain rfl : k = 8 := by omega
      replace hS := hS.ext (g := hasM (mk (fun x => decide (x < 128)) W)) fun j hj => by rw [hasM_mk _ _ hj, decide_eq_true hj, Bool.true_and]
      obtain ⟨a0, a1, a2, a3, a4, a5, a6, a7⟩ := hS.all
      obtain ⟨b0, b1, b2, b3, b4, b5, b6, b7⟩ := hR.all
      obtain ⟨f0, f1, f2, f3, f4, f5, f6, f7⟩ := hR.thaw
      clear hS
      go_wp2_with fail
      refine eight_set hR kk (Nat.le_refl _) (P := fun w9 => bodyPost _ _ _ _ _ w9) fun w9 h9 k9 => ?_
      obtain ⟨d0, d1, d2, d3, d4, d5, d6, d7⟩ := h9.all
      exact bodyPost_ret (v := setA _) (by simp [setA, results, Tryd.results8, go_sem, d0, d1, d2, d3, d4, d5, d6, d7]) rfl ⟨rfl, k9⟩

set_option maxRecDepth 100000 in
set_option maxHeartbeats 2000000 in
theorem rvacant_set (W : Nat) (hw : W < 18446744073709551616) (w : World) :
    Calls Tryd.prog 10 #[.int .u64 (W : Int)] w fun e w' => e = .returned (setA (mk (fun x => x == 128 || x == 254) W)) ∧ Kp w w' := by
  go_enter Tryd.func10, Tryd.ntmps10
  go_wp2_with fail
  have hR := (Bl.new w).kp ((Kp.refl _).alloc (.cells #[.bool false, .bool false, .bool false, .bool false, .bool false, .bool false, .bool false, .bool false] 29))
  have hS := Bl.new (w.alloc (.cells #[.bool false, .bool false, .bool false, .bool false, .bool false, .bool false, .bool false, .bool false] 29))
  have kk : Kp w ((w.alloc (.cells #[.bool false, .bool false, .bool false, .bool false, .bool false, .bool false, .bool false, .bool false] 29)).alloc (.cells #[.bool false, .bool false, .bool false, .bool false, .bool false, .bool false, .bool false, .bool false] 29)) := ((Kp.refl _).alloc _).alloc _
  have e1 : (w.alloc (.cells #[.bool false, .bool false, .bool false, .bool false, .bool false, .bool false, .bool false, .bool false] 29)).heap.size = w.heap.size + 1 := by simp
  rw [e1] at hS
  clear e1
  generalize ((w.alloc (.cells #[.bool false, .bool false, .bool false, .bool false, .bool false, .bool false, .bool false, .bool false] 29)).alloc (.cells #[.bool false, .bool false, .bool false, .bool false, .bool false, .bool false, .bool false, .bool false] 29)) = w2 at *
  go_loopg [4] 8 (fun g vk wx => Kp w wx ∧ ∃ k : Nat, g = 8 - k ∧ k ≤ 8 ∧ vk = .int .i64 (k : Int) ∧ Bl wx w.heap.size (fun _ => false) ∧ Bl wx (w.heap.size + 1) (fun j => decide (j < k) && (fun x => x == 128 || x == 254) (byN W j)))
  case atStart => exact ⟨kk, 0, rfl, by decide, rfl, hR, hS.ext fun j _ => by simp⟩
  case round =>
    clear kk hR hS
    obtain ⟨kk, k, rfl, hk, rfl, hR, hS⟩ := hrel
    by_cases hlt : k < 8
    · have hlt' : (k : Int) < 8 := by omega
      have t0 := rget_in W k hw hlt
      obtain ⟨c1, c2⟩ := hS.at hlt
      have hA : Aside (∀ v, v = (fun x => x == 128 || x == 254) (byN W k) → Bl (wr.setCell ⟨w.heap.size + 1, k, none⟩ (.bool v)) (w.heap.size + 1) (fun j => decide (j < k + 1) && (fun x => x == 128 || x == 254) (byN W j))) := fun v hv => (hS.set hlt v).ext fun j hj => by
        by_cases e : j = k
        · subst e
          simp [hv]
        · have : decide (j < k + 1) = decide (j < k) := by
            rw [decide_eq_decide]
            omega
          simp only [e, if_false, this]
      have hR2 : Aside (∀ v, Bl (wr.setCell ⟨w.heap.size + 1, k, none⟩ v) w.heap.size (fun _ => false)) := fun v => (Below.heap_setCell wr ⟨w.heap.size + 1, k, none⟩ v w.heap.size (by simp)).trans hR
      have hK2 : Aside (∀ v, Kp w (wr.setCell ⟨w.heap.size + 1, k, none⟩ v)) := fun v => Below.setCell kk (by simp) _
      clear hS hR kk
      generalize byN W k = B at *
      by_cases h1 : B = 128
      · subst h1
        go_wp2_with fail
        refine (t0 _).mono ?_
        rintro e w5 ⟨rfl, rfl⟩
        go_wp2_with fail
        go_roundg (8 - (k + 1))
        case measure => omega
        case rel => exact ⟨hK2.out _, k + 1, rfl, by omega, by simp, hR2.out _, hA.out _ rfl⟩
      · have h1' : ((B : Int) == 128) = false := beq_eq_false_iff_ne.2 (by omega)
        have hq : Aside (((B : Int) == 254) = (B == 128 || B == 254)) := by
          show ((B : Int) == 254) = (B == 128 || B == 254)
          rw [beq_eq_false_iff_ne.2 h1, Bool.false_or, Bool.eq_iff_iff, beq_iff_eq, beq_iff_eq]
          omega
        clear h1
        go_wp2_with fail
        refine (t0 _).mono ?_
        rintro e w5 ⟨rfl, rfl⟩
        go_wp2_with fail
        go_roundg (8 - (k + 1))
        case measure => omega
        case rel => exact ⟨hK2.out _, k + 1, rfl, by omega, by simp, hR2.out _, hA.out _ hq.out⟩
    · have hlt' : ¬ (k : Int) < 8 := by omega
      obtain rfl : k = 8 := by omega
      replace hS := hS.ext (g := hasM (mk (fun x => x == 128 || x == 254) W)) fun j hj => by rw [hasM_mk _ _ hj, decide_eq_true hj, Bool.true_and]
      obtain ⟨a0, a1, a2, a3, a4, a5, a6, a7⟩ := hS.all
      obtain ⟨b0, b1, b2, b3, b4, b5, b6, b7⟩ := hR.all
      obtain ⟨f0, f1, f2, f3, f4, f5, f6, f7⟩ := hR.thaw
      clear hS
      go_wp2_with fail
      refine eight_set hR kk (Nat.le_refl _) (P := fun w9 => bodyPost _ _ _ _ _ w9) fun w9 h9 k9 => ?_
      obtain ⟨d0, d1, d2, d3, d4, d5, d6, d7⟩ := h9.all
      exact bodyPost_ret (v := setA _) (by simp [setA, results, Tryd.results10, go_sem, d0, d1, d2, d3, d4, d5, d6, d7]) rfl ⟨rfl, k9⟩

set_option maxRecDepth 100000 in
set_option maxHeartbeats 2000000 in
theorem rmatch_set (W : Nat) (tag : Int) (hw : W < 18446744073709551616) (w : World) :
    Calls Tryd.prog 6 #[.int .u64 (W : Int), .int .i64 tag] w fun e w' => e = .returned (setA (mk (tagB tag) W)) ∧ Kp w w' := by
  go_enter Tryd.func6, Tryd.ntmps6
  go_wp2_with fail
  have hR := (Bl.new w).kp ((Kp.refl _).alloc (.cells #[.bool false, .bool false, .bool false, .bool false, .bool false, .bool false, .bool false, .bool false] 29))
  have hS := Bl.new (w.alloc (.cells #[.bool false, .bool false, .bool false, .bool false, .bool false, .bool false, .bool false, .bool false] 29))
  have kk : Kp w ((w.alloc (.cells #[.bool false, .bool false, .bool false, .bool false, .bool false, .bool false, .bool false, .bool false] 29)).alloc (.cells #[.bool false, .bool false, .bool false, .bool false, .bool false, .bool false, .bool false, .bool false] 29)) := ((Kp.refl _).alloc _).alloc _
  have e1 : (w.alloc (.cells #[.bool false, .bool false, .bool false, .bool false, .bool false, .bool false, .bool false, .bool false] 29)).heap.size = w.heap.size + 1 := by simp
  rw [e1] at hS
  clear e1
  generalize ((w.alloc (.cells #[.bool false, .bool false, .bool false, .bool false, .bool false, .bool false, .bool false, .bool false] 29)).alloc (.cells #[.bool false, .bool false, .bool false, .bool false, .bool false, .bool false, .bool false, .bool false] 29)) = w2 at *
  go_loopg [6] 8 (fun g vk wx => Kp w wx ∧ ∃ k : Nat, g = 8 - k ∧ k ≤ 8 ∧ vk = .int .i64 (k : Int) ∧ Bl wx w.heap.size (fun _ => false) ∧ Bl wx (w.heap.size + 1) (fun j => decide (j < k) && (tagB tag) (byN W j)))
  case atStart => exact ⟨kk, 0, rfl, by decide, rfl, hR, hS.ext fun j _ => by simp⟩
  case round =>
    clear kk hR hS
    obtain ⟨kk, k, rfl, hk, rfl, hR, hS⟩ := hrel
    by_cases hlt : k < 8
    · have hlt' : (k : Int) < 8 := by omega
      have t0 := rget_in W k hw hlt
      obtain ⟨c1, c2⟩ := hS.at hlt
      have hA : Aside (∀ v, v = (tagB tag) (byN W k) → Bl (wr.setCell ⟨w.heap.size + 1, k, none⟩ (.bool v)) (w.heap.size + 1) (fun j => decide (j < k + 1) && (tagB tag) (byN W j))) := fun v hv => (hS.set hlt v).ext fun j hj => by
        by_cases e : j = k
        · subst e
          simp [hv]
        · have : decide (j < k + 1) = decide (j < k) := by
            rw [decide_eq_decide]
            omega
          simp only [e, if_false, this]
      have hR2 : Aside (∀ v, Bl (wr.setCell ⟨w.heap.size + 1, k, none⟩ v) w.heap.size (fun _ => false)) := fun v => (Below.heap_setCell wr ⟨w.heap.size + 1, k, none⟩ v w.heap.size (by simp)).trans hR
      have hK2 : Aside (∀ v, Kp w (wr.setCell ⟨w.heap.size + 1, k, none⟩ v)) := fun v => Below.setCell kk (by simp) _
      clear hS hR kk
      generalize byN W k = B at *
      by_cases h0 : tag < 0
      · have hq : Aside (false = tagB tag B) := (decide_eq_false (by omega)).symm
        go_wp2_with fail
        go_roundg (8 - (k + 1))
        case measure => omega
        case rel => exact ⟨hK2.out _, k + 1, rfl, by omega, by simp, hR2.out _, hA.out _ hq.out⟩
      · by_cases h7 : 127 < tag
        · have hq : Aside (false = tagB tag B) := (decide_eq_false (by omega)).symm
          go_wp2_with fail
          go_roundg (8 - (k + 1))
          case measure => omega
          case rel => exact ⟨hK2.out _, k + 1, rfl, by omega, by simp, hR2.out _, hA.out _ hq.out⟩
        · have hq : Aside (((B : Int) == tag) = tagB tag B) := by
            show ((B : Int) == tag) = tagB tag B
            unfold tagB
            rw [Bool.eq_iff_iff, beq_iff_eq, decide_eq_true_iff]
            omega
          go_wp2_with fail
          refine (t0 _).mono ?_
          rintro e w5 ⟨rfl, rfl⟩
          go_wp2_with fail
          go_roundg (8 - (k + 1))
          case measure => omega
          case rel => exact ⟨hK2.out _, k + 1, rfl, by omega, by simp, hR2.out _, hA.out _ hq.out⟩
    · have hlt' : ¬ (k : Int) < 8 := by omega
      obtain rfl : k = 8 := by omega
      replace hS := hS.ext (g := hasM (mk (tagB tag) W)) fun j hj => by rw [hasM_mk _ _ hj, decide_eq_true hj, Bool.true_and]
      obtain ⟨a0, a1, a2, a3, a4, a5, a6, a7⟩ := hS.all
      obtain ⟨b0, b1, b2, b3, b4, b5, b6, b7⟩ := hR.all
      obtain ⟨f0, f1, f2, f3, f4, f5, f6, f7⟩ := hR.thaw
      clear hS
      go_wp2_with fail
      refine eight_set hR kk (Nat.le_refl _) (P := fun w9 => bodyPost _ _ _ _ _ w9) fun w9 h9 k9 => ?_
      obtain ⟨d0, d1, d2, d3, d4, d5, d6, d7⟩ := h9.all
      exact bodyPost_ret (v := setA _) (by simp [setA, results, Tryd.results6, go_sem, d0, d1, d2, d3, d4, d5, d6, d7]) rfl ⟨rfl, k9⟩

end Go.Proofs.YtbpgjlengpgnnabDoor
