/-
  code: the reference's Line, for the Ops of the table.
-/
import Derived.Test.YtnicbillhlhmmaaDoorCW16
namespace Go.Proofs.YtnicbillhlhmmaaDoor
namespace Cw
open Go.RowKit
set_option linter.unusedVariables false
theorem isFm_at {k : Nat} (hk : k < 29) (a n : Int) : isFm ⟨(k : Int) + 1, a, n⟩ = ((decide (n = 0) || usC (k + 1) == 1) && (decide (a = 0) || (usC (k + 1) != 1 && usC (k + 1) != 0))) := by
  unfold isFm
  dsimp only
  rw [show ((k : Int) + 1).toNat = k + 1 by omega, decide_eq_true (by omega : (1 : Int) ≤ (k : Int) + 1), decide_eq_true (by omega : (k : Int) + 1 ≤ 29)]
  rfl
theorem lnI_no {x : In} (h : isFm x = false) : lnI x = lnW instB [x.op, x.a, x.n] := by
  show lnW (nmI x) (nsI x) = _
  unfold nmI nsI
  rw [h]
  rfl
theorem lnI_yes {x : In} (h : isFm x = true) : lnI x = lnW (nmC x.op.toNat) (if usC x.op.toNat = 0 then [] else if usC x.op.toNat = 1 then [x.n] else [x.a]) := by
  show lnW (nmI x) (nsI x) = _
  unfold nmI nsI
  rw [h]
  rfl
set_option maxRecDepth 100000 in
set_option maxHeartbeats 4000000 in
theorem line_n (k : Nat) (hk : k < 29) (a n : Int) (hx : (⟨(k : Int) + 1, a, n⟩ : In).fit) (hu : usC (k + 1) = 1) (ha : a = 0) (w : World) : Calls Tryd.prog 18 #[inV ⟨(k : Int) + 1, a, n⟩] w (LineQ ⟨(k : Int) + 1, a, n⟩ w) := by
  have hfm : isFm ⟨(k : Int) + 1, a, n⟩ = true := by
    rw [isFm_at hk]
    simp [hu, ha]
  have hln : lnI ⟨(k : Int) + 1, a, n⟩ = lnW (nmC (k + 1)) [n] := by
    rw [lnI_yes hfm]
    dsimp only
    rw [show ((k : Int) + 1).toNat = k + 1 by omega]
    simp [hu]
  obtain ⟨u1, u0⟩ := use_is2 (k := k + 1) (by omega) (by omega)
  have hnl := nm_small ⟨k + 1, by omega⟩
  have hs1 : (sB (nmC (k + 1))).size ≤ 5 := by rw [sB_size]; exact hnl
  rw [hu] at u1 u0
  have hb1 : ((sB (useB (k + 1))).toList == [110]) = true := u1
  have hb0 : ((sB (useB (k + 1))).toList == [45]) = false := u0
  have hc1 : ((sB (useB (k + 1))).toList != [110]) = false := by simp only [bne, hb1]; rfl
  have hc0 : ((sB (useB (k + 1))).toList != [45]) = true := by simp only [bne, hb0]; rfl
  have ha' : (a == 0) = true := by simp [ha]
  clear ha
  have HS := hide (And.intro hln (lnW_one (nmC (k + 1)) n))
  obtain ⟨W1, hW1⟩ : ∃ W1, W1 = w.alloc (.cells #[.int .i64 ((k : Int) + 1), .int .i64 a, .int .i64 n] 36) := ⟨_, rfl⟩
  have kW1 : Keeps w W1 (fun _ => False) := by rw [hW1]; exact (Keeps.refl _ _).alloc _
  have hbx : Bx w.heap.size ((k : Int) + 1) a n W1 := by rw [hW1]; exact cells3 (heap_alloc_new _ _)
  have hR := row_yes k hk W1
  have HB := hide (And.intro kW1 (And.intro hbx hx))
  unfold rowV at hR
  clear kW1 hbx hfm hln hnl hx u1 u0
  unfold inV
  dsimp only
  generalize sB (useB (k + 1)) = s2 at *
  generalize ((tkC (k + 1) : Nat) : Int) = tk at *
  generalize ((lyC (k + 1) : Nat) : Int) = ly at *
  generalize ((k + 1 : Nat) : Int) = kk at *
  have hD := line_pre ⟨(k : Int) + 1, a, n⟩ HB.out.2.2 w
  have hfit := HB.out.2.2
  have hso : (sB (Lib.itoa ((k : Int) + 1))).size ≤ 20 := by rw [sB_size]; exact itoa_len _ hfit.1
  have hsa : (sB (Lib.itoa a)).size ≤ 20 := by rw [sB_size]; exact itoa_len a hfit.2.1
  have hsn : (sB (Lib.itoa n)).size ≤ 20 := by rw [sB_size]; exact itoa_len n hfit.2.2
  have HC : Hid (∀ W, (Calls Tryd.prog 17 #[.int .i64 ((k : Int) + 1)] W fun e w' => e = .returned (.string (sB (Lib.itoa ((k : Int) + 1)))) ∧ Keeps W w' (fun _ => False)) ∧ (Calls Tryd.prog 17 #[.int .i64 a] W fun e w' => e = .returned (.string (sB (Lib.itoa a))) ∧ Keeps W w' (fun _ => False)) ∧ (Calls Tryd.prog 17 #[.int .i64 n] W fun e w' => e = .returned (.string (sB (Lib.itoa n))) ∧ Keeps W w' (fun _ => False))) := fun W => ⟨hD _ hfit.1 W, hD _ hfit.2.1 W, hD _ hfit.2.2 W⟩
  have HS2 : Hid (sB (lnI ⟨(k : Int) + 1, a, n⟩) = (sB (nmC (k + 1)) ++ ⟨#[32]⟩) ++ sB (Lib.itoa n)) := by
    show _ = _
    rw [HS.out.1, HS.out.2]
  clear HS
  clear hD hfit
  generalize sB (nmC (k + 1)) = s1 at *
  generalize sB (Lib.itoa ((k : Int) + 1)) = So at *
  generalize sB (Lib.itoa a) = Sa at *
  generalize sB (Lib.itoa n) = Sn at *
  obtain ⟨T1, hT1⟩ : ∃ T1, s1 ++ ⟨#[32]⟩ = T1 := ⟨_, rfl⟩
  obtain ⟨T5, hT5⟩ : ∃ T5, T1 ++ Sn = T5 := ⟨_, rfl⟩
  rw [hT1, hT5] at HS2
  have z1 : (⟨#[32]⟩ : ByteArray).size = 1 := rfl
  obtain ⟨q1, y1⟩ := cat_run _ _ _ hT1 (by omega) (by omega)
  obtain ⟨q5, y5⟩ := cat_run _ _ _ hT5 (by omega) (by omega)
  clear hT1 hT5 y1 y5 z1 hso hsa hsn hs1
  go_enter Tryd.func18, Tryd.ntmps18
  go_wp2_with fail
  rw [← hW1]
  clear hW1
  refine hR.mono ?_
  rintro e w1 ⟨rfl, k1⟩
  obtain ⟨W2, hW2⟩ : ∃ W2, W2 = w1.alloc (.cells #[.int .i64 kk, .string s1, .string s2, .int .i64 tk, .int .i64 ly] 84) := ⟨_, rfl⟩
  have k2 : Keeps w1 W2 (fun _ => False) := by rw [hW2]; exact (Keeps.refl _ _).alloc _
  have hb2 := (HB.out.2.1.keeps k1).keeps k2
  obtain ⟨x0, x1, x2⟩ := hb2
  have hr2 := heap_alloc_new w1 (.cells #[.int .i64 kk, .string s1, .string s2, .int .i64 tk, .int .i64 ly] 84)
  rw [← hW2] at hr2
  obtain ⟨r0, r1, r2, r3, r4⟩ := cells5 hr2
  have HB2 : Hid (Keeps w W2 (fun _ => False) ∧ Keeps w W2.drew (fun _ => False)) := ⟨HB.out.1.trans (k1.trans k2 (fun _ _ e => e)) (fun _ _ e => e), (HB.out.1.trans (k1.trans k2 (fun _ _ e => e)) (fun _ _ e => e)).drew⟩
  have S00 : W2.cell? ⟨w.heap.size, 0, none⟩ = some (.int .i64 ((k : Int) + 1)) ∧ W2.cell? ⟨w.heap.size, 1, none⟩ = some (.int .i64 a) ∧ W2.cell? ⟨w.heap.size, 2, none⟩ = some (.int .i64 n) ∧ W2.cell? ⟨w1.heap.size, 1, none⟩ = some (.string s1) := ⟨x0, x1, x2, r1⟩
  have HS00 := hide S00
  clear hR k1 k2 hr2 HB S00
  rw [hW2] at x0 x1 x2 r0 r1 r2 r3 r4
  go_wp2_with fail
  rw [← hW2]
  clear hW2 x0 x1 x2 r0 r1 r2 r3 r4
  generalize w.heap.size = g at *
  generalize w1.heap.size = gr at *
  have S0 : (fun w' : World => w'.cell? ⟨g, 0, none⟩ = some (.int .i64 ((k : Int) + 1)) ∧ w'.cell? ⟨g, 1, none⟩ = some (.int .i64 a) ∧ w'.cell? ⟨g, 2, none⟩ = some (.int .i64 n) ∧ w'.cell? ⟨gr, 1, none⟩ = some (.string s1)) W2.drew := HS00.out
  go_region_held3 (fun w' : World => w'.cell? ⟨g, 0, none⟩ = some (.int .i64 ((k : Int) + 1)) ∧ w'.cell? ⟨g, 1, none⟩ = some (.int .i64 a) ∧ w'.cell? ⟨g, 2, none⟩ = some (.int .i64 n) ∧ w'.cell? ⟨gr, 1, none⟩ = some (.string s1)) (first | with_reducible exact S0 | with_reducible assumption) (first
    | ((with_reducible refine Calls.mono (HC.out _).2.2 ?_)
       rintro e wA ⟨rfl, kA⟩
       have SxA : (fun w' : World => w'.cell? ⟨g, 0, none⟩ = some (.int .i64 ((k : Int) + 1)) ∧ w'.cell? ⟨g, 1, none⟩ = some (.int .i64 a) ∧ w'.cell? ⟨g, 2, none⟩ = some (.int .i64 n) ∧ w'.cell? ⟨gr, 1, none⟩ = some (.string s1)) wA := ⟨keeps_at kA S0.1, keeps_at kA S0.2.1, keeps_at kA S0.2.2.1, keeps_at kA S0.2.2.2⟩
       have HxA := hide ((HB2.out.2).trans kA (fun _ _ e => e))
       clear kA))
  all_goals (
    go_wp2_with fail
    go_ret
    refine ⟨?_, HxA.out⟩
    show Ending.returned (Value.string T5) = Ending.returned (Value.string (sB (lnI ⟨(k : Int) + 1, a, n⟩)))
    rw [HS2.out])
set_option maxRecDepth 100000 in
set_option maxHeartbeats 4000000 in
theorem line_n_no (k : Nat) (hk : k < 29) (a n : Int) (hx : (⟨(k : Int) + 1, a, n⟩ : In).fit) (hu : usC (k + 1) = 1) (ha : ¬ a = 0) (w : World) : Calls Tryd.prog 18 #[inV ⟨(k : Int) + 1, a, n⟩] w (LineQ ⟨(k : Int) + 1, a, n⟩ w) := by
  have hfm : isFm ⟨(k : Int) + 1, a, n⟩ = false := by
    rw [isFm_at hk]
    simp [hu, ha]
  have hln : lnI ⟨(k : Int) + 1, a, n⟩ = lnW instB [(k : Int) + 1, a, n] := lnI_no hfm
  obtain ⟨u1, u0⟩ := use_is2 (k := k + 1) (by omega) (by omega)
  have hnl := nm_small ⟨k + 1, by omega⟩
  have hs1 : (sB (nmC (k + 1))).size ≤ 5 := by rw [sB_size]; exact hnl
  rw [hu] at u1 u0
  have hb1 : ((sB (useB (k + 1))).toList == [110]) = true := u1
  have hb0 : ((sB (useB (k + 1))).toList == [45]) = false := u0
  have hc1 : ((sB (useB (k + 1))).toList != [110]) = false := by simp only [bne, hb1]; rfl
  have hc0 : ((sB (useB (k + 1))).toList != [45]) = true := by simp only [bne, hb0]; rfl
  have ha' : (a == 0) = false := by simp [ha]
  clear ha
  have HS := hide (And.intro hln (lnW_three instB ((k : Int) + 1) a n))
  obtain ⟨W1, hW1⟩ : ∃ W1, W1 = w.alloc (.cells #[.int .i64 ((k : Int) + 1), .int .i64 a, .int .i64 n] 36) := ⟨_, rfl⟩
  have kW1 : Keeps w W1 (fun _ => False) := by rw [hW1]; exact (Keeps.refl _ _).alloc _
  have hbx : Bx w.heap.size ((k : Int) + 1) a n W1 := by rw [hW1]; exact cells3 (heap_alloc_new _ _)
  have hR := row_yes k hk W1
  have HB := hide (And.intro kW1 (And.intro hbx hx))
  unfold rowV at hR
  clear kW1 hbx hfm hln hnl hx u1 u0
  unfold inV
  dsimp only
  generalize sB (useB (k + 1)) = s2 at *
  generalize ((tkC (k + 1) : Nat) : Int) = tk at *
  generalize ((lyC (k + 1) : Nat) : Int) = ly at *
  generalize ((k + 1 : Nat) : Int) = kk at *
  have hD := line_pre ⟨(k : Int) + 1, a, n⟩ HB.out.2.2 w
  have hfit := HB.out.2.2
  have hso : (sB (Lib.itoa ((k : Int) + 1))).size ≤ 20 := by rw [sB_size]; exact itoa_len _ hfit.1
  have hsa : (sB (Lib.itoa a)).size ≤ 20 := by rw [sB_size]; exact itoa_len a hfit.2.1
  have hsn : (sB (Lib.itoa n)).size ≤ 20 := by rw [sB_size]; exact itoa_len n hfit.2.2
  have HC : Hid (∀ W, (Calls Tryd.prog 17 #[.int .i64 ((k : Int) + 1)] W fun e w' => e = .returned (.string (sB (Lib.itoa ((k : Int) + 1)))) ∧ Keeps W w' (fun _ => False)) ∧ (Calls Tryd.prog 17 #[.int .i64 a] W fun e w' => e = .returned (.string (sB (Lib.itoa a))) ∧ Keeps W w' (fun _ => False)) ∧ (Calls Tryd.prog 17 #[.int .i64 n] W fun e w' => e = .returned (.string (sB (Lib.itoa n))) ∧ Keeps W w' (fun _ => False))) := fun W => ⟨hD _ hfit.1 W, hD _ hfit.2.1 W, hD _ hfit.2.2 W⟩
  have hinst : sB instB ++ ⟨#[32]⟩ = ⟨#[105, 110, 115, 116, 32]⟩ := by decide +kernel
  have HS2 : Hid (sB (lnI ⟨(k : Int) + 1, a, n⟩) = ((((⟨#[105, 110, 115, 116, 32]⟩ ++ sB (Lib.itoa ((k : Int) + 1))) ++ ⟨#[32]⟩) ++ sB (Lib.itoa a)) ++ ⟨#[32]⟩) ++ sB (Lib.itoa n)) := by
    show _ = _
    rw [HS.out.1, HS.out.2, hinst]
  clear hinst HS
  clear hD hfit
  generalize sB (nmC (k + 1)) = s1 at *
  generalize sB (Lib.itoa ((k : Int) + 1)) = So at *
  generalize sB (Lib.itoa a) = Sa at *
  generalize sB (Lib.itoa n) = Sn at *
  obtain ⟨T1, hT1⟩ : ∃ T1, (⟨#[105, 110, 115, 116, 32]⟩ : ByteArray) ++ So = T1 := ⟨_, rfl⟩
  obtain ⟨T2, hT2⟩ : ∃ T2, T1 ++ ⟨#[32]⟩ = T2 := ⟨_, rfl⟩
  obtain ⟨T3, hT3⟩ : ∃ T3, T2 ++ Sa = T3 := ⟨_, rfl⟩
  obtain ⟨T4, hT4⟩ : ∃ T4, T3 ++ ⟨#[32]⟩ = T4 := ⟨_, rfl⟩
  obtain ⟨T5, hT5⟩ : ∃ T5, T4 ++ Sn = T5 := ⟨_, rfl⟩
  rw [hT1, hT2, hT3, hT4, hT5] at HS2
  have z5 : (⟨#[105, 110, 115, 116, 32]⟩ : ByteArray).size = 5 := rfl
  have z1 : (⟨#[32]⟩ : ByteArray).size = 1 := rfl
  obtain ⟨q1, y1⟩ := cat_run _ _ _ hT1 (by omega) (by omega)
  obtain ⟨q2, y2⟩ := cat_run _ _ _ hT2 (by omega) (by omega)
  obtain ⟨q3, y3⟩ := cat_run _ _ _ hT3 (by omega) (by omega)
  obtain ⟨q4, y4⟩ := cat_run _ _ _ hT4 (by omega) (by omega)
  obtain ⟨q5, y5⟩ := cat_run _ _ _ hT5 (by omega) (by omega)
  clear hT1 hT2 hT3 hT4 hT5 y1 y2 y3 y4 y5 z5 z1 hso hsa hsn hs1
  go_enter Tryd.func18, Tryd.ntmps18
  go_wp2_with fail
  rw [← hW1]
  clear hW1
  refine hR.mono ?_
  rintro e w1 ⟨rfl, k1⟩
  obtain ⟨W2, hW2⟩ : ∃ W2, W2 = w1.alloc (.cells #[.int .i64 kk, .string s1, .string s2, .int .i64 tk, .int .i64 ly] 84) := ⟨_, rfl⟩
  have k2 : Keeps w1 W2 (fun _ => False) := by rw [hW2]; exact (Keeps.refl _ _).alloc _
  have hb2 := (HB.out.2.1.keeps k1).keeps k2
  obtain ⟨x0, x1, x2⟩ := hb2
  have hr2 := heap_alloc_new w1 (.cells #[.int .i64 kk, .string s1, .string s2, .int .i64 tk, .int .i64 ly] 84)
  rw [← hW2] at hr2
  obtain ⟨r0, r1, r2, r3, r4⟩ := cells5 hr2
  have HB2 : Hid (Keeps w W2 (fun _ => False) ∧ Keeps w W2.drew (fun _ => False)) := ⟨HB.out.1.trans (k1.trans k2 (fun _ _ e => e)) (fun _ _ e => e), (HB.out.1.trans (k1.trans k2 (fun _ _ e => e)) (fun _ _ e => e)).drew⟩
  have S00 : W2.cell? ⟨w.heap.size, 0, none⟩ = some (.int .i64 ((k : Int) + 1)) ∧ W2.cell? ⟨w.heap.size, 1, none⟩ = some (.int .i64 a) ∧ W2.cell? ⟨w.heap.size, 2, none⟩ = some (.int .i64 n) ∧ W2.cell? ⟨w1.heap.size, 1, none⟩ = some (.string s1) := ⟨x0, x1, x2, r1⟩
  have HS00 := hide S00
  clear hR k1 k2 hr2 HB S00
  rw [hW2] at x0 x1 x2 r0 r1 r2 r3 r4
  go_wp2_with fail
  rw [← hW2]
  clear hW2 x0 x1 x2 r0 r1 r2 r3 r4
  generalize w.heap.size = g at *
  generalize w1.heap.size = gr at *
  have S0 : (fun w' : World => w'.cell? ⟨g, 0, none⟩ = some (.int .i64 ((k : Int) + 1)) ∧ w'.cell? ⟨g, 1, none⟩ = some (.int .i64 a) ∧ w'.cell? ⟨g, 2, none⟩ = some (.int .i64 n) ∧ w'.cell? ⟨gr, 1, none⟩ = some (.string s1)) W2.drew := HS00.out
  go_region_held3 (fun w' : World => w'.cell? ⟨g, 0, none⟩ = some (.int .i64 ((k : Int) + 1)) ∧ w'.cell? ⟨g, 1, none⟩ = some (.int .i64 a) ∧ w'.cell? ⟨g, 2, none⟩ = some (.int .i64 n) ∧ w'.cell? ⟨gr, 1, none⟩ = some (.string s1)) (first | with_reducible exact S0 | with_reducible assumption) (first
    | ((with_reducible refine Calls.mono (HC.out _).1 ?_)
       rintro e wA ⟨rfl, kA⟩
       have SxA : (fun w' : World => w'.cell? ⟨g, 0, none⟩ = some (.int .i64 ((k : Int) + 1)) ∧ w'.cell? ⟨g, 1, none⟩ = some (.int .i64 a) ∧ w'.cell? ⟨g, 2, none⟩ = some (.int .i64 n) ∧ w'.cell? ⟨gr, 1, none⟩ = some (.string s1)) wA := ⟨keeps_at kA S0.1, keeps_at kA S0.2.1, keeps_at kA S0.2.2.1, keeps_at kA S0.2.2.2⟩
       have HxA := hide ((HB2.out.2).trans kA (fun _ _ e => e))
       clear kA)
    | ((with_reducible refine Calls.mono (HC.out _).2.1 ?_)
       rintro e wB ⟨rfl, kB⟩
       have SxB : (fun w' : World => w'.cell? ⟨g, 0, none⟩ = some (.int .i64 ((k : Int) + 1)) ∧ w'.cell? ⟨g, 1, none⟩ = some (.int .i64 a) ∧ w'.cell? ⟨g, 2, none⟩ = some (.int .i64 n) ∧ w'.cell? ⟨gr, 1, none⟩ = some (.string s1)) wB := ⟨keeps_at kB SxA.1, keeps_at kB SxA.2.1, keeps_at kB SxA.2.2.1, keeps_at kB SxA.2.2.2⟩
       have HxB := hide ((HxA.out).trans kB (fun _ _ e => e))
       clear kB)
    | ((with_reducible refine Calls.mono (HC.out _).2.2 ?_)
       rintro e wC ⟨rfl, kC⟩
       have SxC : (fun w' : World => w'.cell? ⟨g, 0, none⟩ = some (.int .i64 ((k : Int) + 1)) ∧ w'.cell? ⟨g, 1, none⟩ = some (.int .i64 a) ∧ w'.cell? ⟨g, 2, none⟩ = some (.int .i64 n) ∧ w'.cell? ⟨gr, 1, none⟩ = some (.string s1)) wC := ⟨keeps_at kC SxB.1, keeps_at kC SxB.2.1, keeps_at kC SxB.2.2.1, keeps_at kC SxB.2.2.2⟩
       have HxC := hide ((HxB.out).trans kC (fun _ _ e => e))
       clear kC))
  all_goals (
    go_wp2_with fail
    go_ret
    refine ⟨?_, HxC.out⟩
    show Ending.returned (Value.string T5) = Ending.returned (Value.string (sB (lnI ⟨(k : Int) + 1, a, n⟩)))
    rw [HS2.out])
set_option maxRecDepth 100000 in
set_option maxHeartbeats 4000000 in
theorem line_0 (k : Nat) (hk : k < 29) (a n : Int) (hx : (⟨(k : Int) + 1, a, n⟩ : In).fit) (hu : usC (k + 1) = 0) (ha : a = 0) (hn : n = 0) (w : World) : Calls Tryd.prog 18 #[inV ⟨(k : Int) + 1, a, n⟩] w (LineQ ⟨(k : Int) + 1, a, n⟩ w) := by
  have hfm : isFm ⟨(k : Int) + 1, a, n⟩ = true := by
    rw [isFm_at hk]
    simp [hu, ha, hn]
  have hln : lnI ⟨(k : Int) + 1, a, n⟩ = lnW (nmC (k + 1)) [] := by
    rw [lnI_yes hfm]
    dsimp only
    rw [show ((k : Int) + 1).toNat = k + 1 by omega]
    simp [hu]
  obtain ⟨u1, u0⟩ := use_is2 (k := k + 1) (by omega) (by omega)
  have hnl := nm_small ⟨k + 1, by omega⟩
  have hs1 : (sB (nmC (k + 1))).size ≤ 5 := by rw [sB_size]; exact hnl
  rw [hu] at u1 u0
  have hb1 : ((sB (useB (k + 1))).toList == [110]) = false := u1
  have hb0 : ((sB (useB (k + 1))).toList == [45]) = true := u0
  have hc1 : ((sB (useB (k + 1))).toList != [110]) = true := by simp only [bne, hb1]; rfl
  have hc0 : ((sB (useB (k + 1))).toList != [45]) = false := by simp only [bne, hb0]; rfl
  have ha' : (a == 0) = true := by simp [ha]
  have hn' : (n == 0) = true := by simp [hn]
  clear ha hn
  have HS : Hid (sB (lnI ⟨(k : Int) + 1, a, n⟩) = sB (nmC (k + 1))) := by
    show _ = _
    rw [hln]
    congr 1
    simp [lnW]
  obtain ⟨W1, hW1⟩ : ∃ W1, W1 = w.alloc (.cells #[.int .i64 ((k : Int) + 1), .int .i64 a, .int .i64 n] 36) := ⟨_, rfl⟩
  have kW1 : Keeps w W1 (fun _ => False) := by rw [hW1]; exact (Keeps.refl _ _).alloc _
  have hbx : Bx w.heap.size ((k : Int) + 1) a n W1 := by rw [hW1]; exact cells3 (heap_alloc_new _ _)
  have hR := row_yes k hk W1
  have HB := hide (And.intro kW1 (And.intro hbx hx))
  unfold rowV at hR
  clear kW1 hbx hfm hln hnl hx u1 u0
  unfold inV
  dsimp only
  generalize sB (useB (k + 1)) = s2 at *
  generalize ((tkC (k + 1) : Nat) : Int) = tk at *
  generalize ((lyC (k + 1) : Nat) : Int) = ly at *
  generalize ((k + 1 : Nat) : Int) = kk at *
  have hD := line_pre ⟨(k : Int) + 1, a, n⟩ HB.out.2.2 w
  have hfit := HB.out.2.2
  have hso : (sB (Lib.itoa ((k : Int) + 1))).size ≤ 20 := by rw [sB_size]; exact itoa_len _ hfit.1
  have hsa : (sB (Lib.itoa a)).size ≤ 20 := by rw [sB_size]; exact itoa_len a hfit.2.1
  have hsn : (sB (Lib.itoa n)).size ≤ 20 := by rw [sB_size]; exact itoa_len n hfit.2.2
  have HC : Hid (∀ W, (Calls Tryd.prog 17 #[.int .i64 ((k : Int) + 1)] W fun e w' => e = .returned (.string (sB (Lib.itoa ((k : Int) + 1)))) ∧ Keeps W w' (fun _ => False)) ∧ (Calls Tryd.prog 17 #[.int .i64 a] W fun e w' => e = .returned (.string (sB (Lib.itoa a))) ∧ Keeps W w' (fun _ => False)) ∧ (Calls Tryd.prog 17 #[.int .i64 n] W fun e w' => e = .returned (.string (sB (Lib.itoa n))) ∧ Keeps W w' (fun _ => False))) := fun W => ⟨hD _ hfit.1 W, hD _ hfit.2.1 W, hD _ hfit.2.2 W⟩
  clear hD hfit
  generalize sB (nmC (k + 1)) = s1 at *
  generalize sB (Lib.itoa ((k : Int) + 1)) = So at *
  generalize sB (Lib.itoa a) = Sa at *
  generalize sB (Lib.itoa n) = Sn at *
  go_enter Tryd.func18, Tryd.ntmps18
  go_wp2_with fail
  rw [← hW1]
  clear hW1
  refine hR.mono ?_
  rintro e w1 ⟨rfl, k1⟩
  obtain ⟨W2, hW2⟩ : ∃ W2, W2 = w1.alloc (.cells #[.int .i64 kk, .string s1, .string s2, .int .i64 tk, .int .i64 ly] 84) := ⟨_, rfl⟩
  have k2 : Keeps w1 W2 (fun _ => False) := by rw [hW2]; exact (Keeps.refl _ _).alloc _
  have hb2 := (HB.out.2.1.keeps k1).keeps k2
  obtain ⟨x0, x1, x2⟩ := hb2
  have hr2 := heap_alloc_new w1 (.cells #[.int .i64 kk, .string s1, .string s2, .int .i64 tk, .int .i64 ly] 84)
  rw [← hW2] at hr2
  obtain ⟨r0, r1, r2, r3, r4⟩ := cells5 hr2
  have HB2 : Hid (Keeps w W2 (fun _ => False) ∧ Keeps w W2.drew (fun _ => False)) := ⟨HB.out.1.trans (k1.trans k2 (fun _ _ e => e)) (fun _ _ e => e), (HB.out.1.trans (k1.trans k2 (fun _ _ e => e)) (fun _ _ e => e)).drew⟩
  have S00 : W2.cell? ⟨w.heap.size, 0, none⟩ = some (.int .i64 ((k : Int) + 1)) ∧ W2.cell? ⟨w.heap.size, 1, none⟩ = some (.int .i64 a) ∧ W2.cell? ⟨w.heap.size, 2, none⟩ = some (.int .i64 n) ∧ W2.cell? ⟨w1.heap.size, 1, none⟩ = some (.string s1) := ⟨x0, x1, x2, r1⟩
  have HS00 := hide S00
  clear hR k1 k2 hr2 HB S00
  rw [hW2] at x0 x1 x2 r0 r1 r2 r3 r4
  go_wp2_with fail
  go_ret
  refine ⟨?_, by rw [← hW2]; exact HB2.out.1⟩
  show Ending.returned (Value.string s1) = Ending.returned (Value.string (sB (lnI ⟨(k : Int) + 1, a, n⟩)))
  rw [HS.out]
set_option maxRecDepth 100000 in
set_option maxHeartbeats 4000000 in
theorem line_0_a (k : Nat) (hk : k < 29) (a n : Int) (hx : (⟨(k : Int) + 1, a, n⟩ : In).fit) (hu : usC (k + 1) = 0) (ha : ¬ a = 0) (w : World) : Calls Tryd.prog 18 #[inV ⟨(k : Int) + 1, a, n⟩] w (LineQ ⟨(k : Int) + 1, a, n⟩ w) := by
  have hfm : isFm ⟨(k : Int) + 1, a, n⟩ = false := by
    rw [isFm_at hk]
    simp [hu, ha]
  have hln : lnI ⟨(k : Int) + 1, a, n⟩ = lnW instB [(k : Int) + 1, a, n] := lnI_no hfm
  obtain ⟨u1, u0⟩ := use_is2 (k := k + 1) (by omega) (by omega)
  have hnl := nm_small ⟨k + 1, by omega⟩
  have hs1 : (sB (nmC (k + 1))).size ≤ 5 := by rw [sB_size]; exact hnl
  rw [hu] at u1 u0
  have hb1 : ((sB (useB (k + 1))).toList == [110]) = false := u1
  have hb0 : ((sB (useB (k + 1))).toList == [45]) = true := u0
  have hc1 : ((sB (useB (k + 1))).toList != [110]) = true := by simp only [bne, hb1]; rfl
  have hc0 : ((sB (useB (k + 1))).toList != [45]) = false := by simp only [bne, hb0]; rfl
  have ha' : (a == 0) = false := by simp [ha]
  clear ha
  have HS := hide (And.intro hln (lnW_three instB ((k : Int) + 1) a n))
  obtain ⟨W1, hW1⟩ : ∃ W1, W1 = w.alloc (.cells #[.int .i64 ((k : Int) + 1), .int .i64 a, .int .i64 n] 36) := ⟨_, rfl⟩
  have kW1 : Keeps w W1 (fun _ => False) := by rw [hW1]; exact (Keeps.refl _ _).alloc _
  have hbx : Bx w.heap.size ((k : Int) + 1) a n W1 := by rw [hW1]; exact cells3 (heap_alloc_new _ _)
  have hR := row_yes k hk W1
  have HB := hide (And.intro kW1 (And.intro hbx hx))
  unfold rowV at hR
  clear kW1 hbx hfm hln hnl hx u1 u0
  unfold inV
  dsimp only
  generalize sB (useB (k + 1)) = s2 at *
  generalize ((tkC (k + 1) : Nat) : Int) = tk at *
  generalize ((lyC (k + 1) : Nat) : Int) = ly at *
  generalize ((k + 1 : Nat) : Int) = kk at *
  have hD := line_pre ⟨(k : Int) + 1, a, n⟩ HB.out.2.2 w
  have hfit := HB.out.2.2
  have hso : (sB (Lib.itoa ((k : Int) + 1))).size ≤ 20 := by rw [sB_size]; exact itoa_len _ hfit.1
  have hsa : (sB (Lib.itoa a)).size ≤ 20 := by rw [sB_size]; exact itoa_len a hfit.2.1
  have hsn : (sB (Lib.itoa n)).size ≤ 20 := by rw [sB_size]; exact itoa_len n hfit.2.2
  have HC : Hid (∀ W, (Calls Tryd.prog 17 #[.int .i64 ((k : Int) + 1)] W fun e w' => e = .returned (.string (sB (Lib.itoa ((k : Int) + 1)))) ∧ Keeps W w' (fun _ => False)) ∧ (Calls Tryd.prog 17 #[.int .i64 a] W fun e w' => e = .returned (.string (sB (Lib.itoa a))) ∧ Keeps W w' (fun _ => False)) ∧ (Calls Tryd.prog 17 #[.int .i64 n] W fun e w' => e = .returned (.string (sB (Lib.itoa n))) ∧ Keeps W w' (fun _ => False))) := fun W => ⟨hD _ hfit.1 W, hD _ hfit.2.1 W, hD _ hfit.2.2 W⟩
  have hinst : sB instB ++ ⟨#[32]⟩ = ⟨#[105, 110, 115, 116, 32]⟩ := by decide +kernel
  have HS2 : Hid (sB (lnI ⟨(k : Int) + 1, a, n⟩) = ((((⟨#[105, 110, 115, 116, 32]⟩ ++ sB (Lib.itoa ((k : Int) + 1))) ++ ⟨#[32]⟩) ++ sB (Lib.itoa a)) ++ ⟨#[32]⟩) ++ sB (Lib.itoa n)) := by
    show _ = _
    rw [HS.out.1, HS.out.2, hinst]
  clear hinst HS
  clear hD hfit
  generalize sB (nmC (k + 1)) = s1 at *
  generalize sB (Lib.itoa ((k : Int) + 1)) = So at *
  generalize sB (Lib.itoa a) = Sa at *
  generalize sB (Lib.itoa n) = Sn at *
  obtain ⟨T1, hT1⟩ : ∃ T1, (⟨#[105, 110, 115, 116, 32]⟩ : ByteArray) ++ So = T1 := ⟨_, rfl⟩
  obtain ⟨T2, hT2⟩ : ∃ T2, T1 ++ ⟨#[32]⟩ = T2 := ⟨_, rfl⟩
  obtain ⟨T3, hT3⟩ : ∃ T3, T2 ++ Sa = T3 := ⟨_, rfl⟩
  obtain ⟨T4, hT4⟩ : ∃ T4, T3 ++ ⟨#[32]⟩ = T4 := ⟨_, rfl⟩
  obtain ⟨T5, hT5⟩ : ∃ T5, T4 ++ Sn = T5 := ⟨_, rfl⟩
  rw [hT1, hT2, hT3, hT4, hT5] at HS2
  have z5 : (⟨#[105, 110, 115, 116, 32]⟩ : ByteArray).size = 5 := rfl
  have z1 : (⟨#[32]⟩ : ByteArray).size = 1 := rfl
  obtain ⟨q1, y1⟩ := cat_run _ _ _ hT1 (by omega) (by omega)
  obtain ⟨q2, y2⟩ := cat_run _ _ _ hT2 (by omega) (by omega)
  obtain ⟨q3, y3⟩ := cat_run _ _ _ hT3 (by omega) (by omega)
  obtain ⟨q4, y4⟩ := cat_run _ _ _ hT4 (by omega) (by omega)
  obtain ⟨q5, y5⟩ := cat_run _ _ _ hT5 (by omega) (by omega)
  clear hT1 hT2 hT3 hT4 hT5 y1 y2 y3 y4 y5 z5 z1 hso hsa hsn hs1
  go_enter Tryd.func18, Tryd.ntmps18
  go_wp2_with fail
  rw [← hW1]
  clear hW1
  refine hR.mono ?_
  rintro e w1 ⟨rfl, k1⟩
  obtain ⟨W2, hW2⟩ : ∃ W2, W2 = w1.alloc (.cells #[.int .i64 kk, .string s1, .string s2, .int .i64 tk, .int .i64 ly] 84) := ⟨_, rfl⟩
  have k2 : Keeps w1 W2 (fun _ => False) := by rw [hW2]; exact (Keeps.refl _ _).alloc _
  have hb2 := (HB.out.2.1.keeps k1).keeps k2
  obtain ⟨x0, x1, x2⟩ := hb2
  have hr2 := heap_alloc_new w1 (.cells #[.int .i64 kk, .string s1, .string s2, .int .i64 tk, .int .i64 ly] 84)
  rw [← hW2] at hr2
  obtain ⟨r0, r1, r2, r3, r4⟩ := cells5 hr2
  have HB2 : Hid (Keeps w W2 (fun _ => False) ∧ Keeps w W2.drew (fun _ => False)) := ⟨HB.out.1.trans (k1.trans k2 (fun _ _ e => e)) (fun _ _ e => e), (HB.out.1.trans (k1.trans k2 (fun _ _ e => e)) (fun _ _ e => e)).drew⟩
  have S00 : W2.cell? ⟨w.heap.size, 0, none⟩ = some (.int .i64 ((k : Int) + 1)) ∧ W2.cell? ⟨w.heap.size, 1, none⟩ = some (.int .i64 a) ∧ W2.cell? ⟨w.heap.size, 2, none⟩ = some (.int .i64 n) ∧ W2.cell? ⟨w1.heap.size, 1, none⟩ = some (.string s1) := ⟨x0, x1, x2, r1⟩
  have HS00 := hide S00
  clear hR k1 k2 hr2 HB S00
  rw [hW2] at x0 x1 x2 r0 r1 r2 r3 r4
  go_wp2_with fail
  rw [← hW2]
  clear hW2 x0 x1 x2 r0 r1 r2 r3 r4
  generalize w.heap.size = g at *
  generalize w1.heap.size = gr at *
  have S0 : (fun w' : World => w'.cell? ⟨g, 0, none⟩ = some (.int .i64 ((k : Int) + 1)) ∧ w'.cell? ⟨g, 1, none⟩ = some (.int .i64 a) ∧ w'.cell? ⟨g, 2, none⟩ = some (.int .i64 n) ∧ w'.cell? ⟨gr, 1, none⟩ = some (.string s1)) W2.drew := HS00.out
  go_region_held3 (fun w' : World => w'.cell? ⟨g, 0, none⟩ = some (.int .i64 ((k : Int) + 1)) ∧ w'.cell? ⟨g, 1, none⟩ = some (.int .i64 a) ∧ w'.cell? ⟨g, 2, none⟩ = some (.int .i64 n) ∧ w'.cell? ⟨gr, 1, none⟩ = some (.string s1)) (first | with_reducible exact S0 | with_reducible assumption) (first
    | ((with_reducible refine Calls.mono (HC.out _).1 ?_)
       rintro e wA ⟨rfl, kA⟩
       have SxA : (fun w' : World => w'.cell? ⟨g, 0, none⟩ = some (.int .i64 ((k : Int) + 1)) ∧ w'.cell? ⟨g, 1, none⟩ = some (.int .i64 a) ∧ w'.cell? ⟨g, 2, none⟩ = some (.int .i64 n) ∧ w'.cell? ⟨gr, 1, none⟩ = some (.string s1)) wA := ⟨keeps_at kA S0.1, keeps_at kA S0.2.1, keeps_at kA S0.2.2.1, keeps_at kA S0.2.2.2⟩
       have HxA := hide ((HB2.out.2).trans kA (fun _ _ e => e))
       clear kA)
    | ((with_reducible refine Calls.mono (HC.out _).2.1 ?_)
       rintro e wB ⟨rfl, kB⟩
       have SxB : (fun w' : World => w'.cell? ⟨g, 0, none⟩ = some (.int .i64 ((k : Int) + 1)) ∧ w'.cell? ⟨g, 1, none⟩ = some (.int .i64 a) ∧ w'.cell? ⟨g, 2, none⟩ = some (.int .i64 n) ∧ w'.cell? ⟨gr, 1, none⟩ = some (.string s1)) wB := ⟨keeps_at kB SxA.1, keeps_at kB SxA.2.1, keeps_at kB SxA.2.2.1, keeps_at kB SxA.2.2.2⟩
       have HxB := hide ((HxA.out).trans kB (fun _ _ e => e))
       clear kB)
    | ((with_reducible refine Calls.mono (HC.out _).2.2 ?_)
       rintro e wC ⟨rfl, kC⟩
       have SxC : (fun w' : World => w'.cell? ⟨g, 0, none⟩ = some (.int .i64 ((k : Int) + 1)) ∧ w'.cell? ⟨g, 1, none⟩ = some (.int .i64 a) ∧ w'.cell? ⟨g, 2, none⟩ = some (.int .i64 n) ∧ w'.cell? ⟨gr, 1, none⟩ = some (.string s1)) wC := ⟨keeps_at kC SxB.1, keeps_at kC SxB.2.1, keeps_at kC SxB.2.2.1, keeps_at kC SxB.2.2.2⟩
       have HxC := hide ((HxB.out).trans kC (fun _ _ e => e))
       clear kC))
  all_goals (
    go_wp2_with fail
    go_ret
    refine ⟨?_, HxC.out⟩
    show Ending.returned (Value.string T5) = Ending.returned (Value.string (sB (lnI ⟨(k : Int) + 1, a, n⟩)))
    rw [HS2.out])
set_option maxRecDepth 100000 in
set_option maxHeartbeats 4000000 in
theorem line_0_n (k : Nat) (hk : k < 29) (a n : Int) (hx : (⟨(k : Int) + 1, a, n⟩ : In).fit) (hu : usC (k + 1) = 0) (ha : a = 0) (hn : ¬ n = 0) (w : World) : Calls Tryd.prog 18 #[inV ⟨(k : Int) + 1, a, n⟩] w (LineQ ⟨(k : Int) + 1, a, n⟩ w) := by
  have hfm : isFm ⟨(k : Int) + 1, a, n⟩ = false := by
    rw [isFm_at hk]
    simp [hu, ha, hn]
  have hln : lnI ⟨(k : Int) + 1, a, n⟩ = lnW instB [(k : Int) + 1, a, n] := lnI_no hfm
  obtain ⟨u1, u0⟩ := use_is2 (k := k + 1) (by omega) (by omega)
  have hnl := nm_small ⟨k + 1, by omega⟩
  have hs1 : (sB (nmC (k + 1))).size ≤ 5 := by rw [sB_size]; exact hnl
  rw [hu] at u1 u0
  have hb1 : ((sB (useB (k + 1))).toList == [110]) = false := u1
  have hb0 : ((sB (useB (k + 1))).toList == [45]) = true := u0
  have hc1 : ((sB (useB (k + 1))).toList != [110]) = true := by simp only [bne, hb1]; rfl
  have hc0 : ((sB (useB (k + 1))).toList != [45]) = false := by simp only [bne, hb0]; rfl
  have ha' : (a == 0) = true := by simp [ha]
  have hn' : (n == 0) = false := by simp [hn]
  clear ha hn
  have HS := hide (And.intro hln (lnW_three instB ((k : Int) + 1) a n))
  obtain ⟨W1, hW1⟩ : ∃ W1, W1 = w.alloc (.cells #[.int .i64 ((k : Int) + 1), .int .i64 a, .int .i64 n] 36) := ⟨_, rfl⟩
  have kW1 : Keeps w W1 (fun _ => False) := by rw [hW1]; exact (Keeps.refl _ _).alloc _
  have hbx : Bx w.heap.size ((k : Int) + 1) a n W1 := by rw [hW1]; exact cells3 (heap_alloc_new _ _)
  have hR := row_yes k hk W1
  have HB := hide (And.intro kW1 (And.intro hbx hx))
  unfold rowV at hR
  clear kW1 hbx hfm hln hnl hx u1 u0
  unfold inV
  dsimp only
  generalize sB (useB (k + 1)) = s2 at *
  generalize ((tkC (k + 1) : Nat) : Int) = tk at *
  generalize ((lyC (k + 1) : Nat) : Int) = ly at *
  generalize ((k + 1 : Nat) : Int) = kk at *
  have hD := line_pre ⟨(k : Int) + 1, a, n⟩ HB.out.2.2 w
  have hfit := HB.out.2.2
  have hso : (sB (Lib.itoa ((k : Int) + 1))).size ≤ 20 := by rw [sB_size]; exact itoa_len _ hfit.1
  have hsa : (sB (Lib.itoa a)).size ≤ 20 := by rw [sB_size]; exact itoa_len a hfit.2.1
  have hsn : (sB (Lib.itoa n)).size ≤ 20 := by rw [sB_size]; exact itoa_len n hfit.2.2
  have HC : Hid (∀ W, (Calls Tryd.prog 17 #[.int .i64 ((k : Int) + 1)] W fun e w' => e = .returned (.string (sB (Lib.itoa ((k : Int) + 1)))) ∧ Keeps W w' (fun _ => False)) ∧ (Calls Tryd.prog 17 #[.int .i64 a] W fun e w' => e = .returned (.string (sB (Lib.itoa a))) ∧ Keeps W w' (fun _ => False)) ∧ (Calls Tryd.prog 17 #[.int .i64 n] W fun e w' => e = .returned (.string (sB (Lib.itoa n))) ∧ Keeps W w' (fun _ => False))) := fun W => ⟨hD _ hfit.1 W, hD _ hfit.2.1 W, hD _ hfit.2.2 W⟩
  have hinst : sB instB ++ ⟨#[32]⟩ = ⟨#[105, 110, 115, 116, 32]⟩ := by decide +kernel
  have HS2 : Hid (sB (lnI ⟨(k : Int) + 1, a, n⟩) = ((((⟨#[105, 110, 115, 116, 32]⟩ ++ sB (Lib.itoa ((k : Int) + 1))) ++ ⟨#[32]⟩) ++ sB (Lib.itoa a)) ++ ⟨#[32]⟩) ++ sB (Lib.itoa n)) := by
    show _ = _
    rw [HS.out.1, HS.out.2, hinst]
  clear hinst HS
  clear hD hfit
  generalize sB (nmC (k + 1)) = s1 at *
  generalize sB (Lib.itoa ((k : Int) + 1)) = So at *
  generalize sB (Lib.itoa a) = Sa at *
  generalize sB (Lib.itoa n) = Sn at *
  obtain ⟨T1, hT1⟩ : ∃ T1, (⟨#[105, 110, 115, 116, 32]⟩ : ByteArray) ++ So = T1 := ⟨_, rfl⟩
  obtain ⟨T2, hT2⟩ : ∃ T2, T1 ++ ⟨#[32]⟩ = T2 := ⟨_, rfl⟩
  obtain ⟨T3, hT3⟩ : ∃ T3, T2 ++ Sa = T3 := ⟨_, rfl⟩
  obtain ⟨T4, hT4⟩ : ∃ T4, T3 ++ ⟨#[32]⟩ = T4 := ⟨_, rfl⟩
  obtain ⟨T5, hT5⟩ : ∃ T5, T4 ++ Sn = T5 := ⟨_, rfl⟩
  rw [hT1, hT2, hT3, hT4, hT5] at HS2
  have z5 : (⟨#[105, 110, 115, 116, 32]⟩ : ByteArray).size = 5 := rfl
  have z1 : (⟨#[32]⟩ : ByteArray).size = 1 := rfl
  obtain ⟨q1, y1⟩ := cat_run _ _ _ hT1 (by omega) (by omega)
  obtain ⟨q2, y2⟩ := cat_run _ _ _ hT2 (by omega) (by omega)
  obtain ⟨q3, y3⟩ := cat_run _ _ _ hT3 (by omega) (by omega)
  obtain ⟨q4, y4⟩ := cat_run _ _ _ hT4 (by omega) (by omega)
  obtain ⟨q5, y5⟩ := cat_run _ _ _ hT5 (by omega) (by omega)
  clear hT1 hT2 hT3 hT4 hT5 y1 y2 y3 y4 y5 z5 z1 hso hsa hsn hs1
  go_enter Tryd.func18, Tryd.ntmps18
  go_wp2_with fail
  rw [← hW1]
  clear hW1
  refine hR.mono ?_
  rintro e w1 ⟨rfl, k1⟩
  obtain ⟨W2, hW2⟩ : ∃ W2, W2 = w1.alloc (.cells #[.int .i64 kk, .string s1, .string s2, .int .i64 tk, .int .i64 ly] 84) := ⟨_, rfl⟩
  have k2 : Keeps w1 W2 (fun _ => False) := by rw [hW2]; exact (Keeps.refl _ _).alloc _
  have hb2 := (HB.out.2.1.keeps k1).keeps k2
  obtain ⟨x0, x1, x2⟩ := hb2
  have hr2 := heap_alloc_new w1 (.cells #[.int .i64 kk, .string s1, .string s2, .int .i64 tk, .int .i64 ly] 84)
  rw [← hW2] at hr2
  obtain ⟨r0, r1, r2, r3, r4⟩ := cells5 hr2
  have HB2 : Hid (Keeps w W2 (fun _ => False) ∧ Keeps w W2.drew (fun _ => False)) := ⟨HB.out.1.trans (k1.trans k2 (fun _ _ e => e)) (fun _ _ e => e), (HB.out.1.trans (k1.trans k2 (fun _ _ e => e)) (fun _ _ e => e)).drew⟩
  have S00 : W2.cell? ⟨w.heap.size, 0, none⟩ = some (.int .i64 ((k : Int) + 1)) ∧ W2.cell? ⟨w.heap.size, 1, none⟩ = some (.int .i64 a) ∧ W2.cell? ⟨w.heap.size, 2, none⟩ = some (.int .i64 n) ∧ W2.cell? ⟨w1.heap.size, 1, none⟩ = some (.string s1) := ⟨x0, x1, x2, r1⟩
  have HS00 := hide S00
  clear hR k1 k2 hr2 HB S00
  rw [hW2] at x0 x1 x2 r0 r1 r2 r3 r4
  go_wp2_with fail
  rw [← hW2]
  clear hW2 x0 x1 x2 r0 r1 r2 r3 r4
  generalize w.heap.size = g at *
  generalize w1.heap.size = gr at *
  have S0 : (fun w' : World => w'.cell? ⟨g, 0, none⟩ = some (.int .i64 ((k : Int) + 1)) ∧ w'.cell? ⟨g, 1, none⟩ = some (.int .i64 a) ∧ w'.cell? ⟨g, 2, none⟩ = some (.int .i64 n) ∧ w'.cell? ⟨gr, 1, none⟩ = some (.string s1)) W2.drew := HS00.out
  go_region_held3 (fun w' : World => w'.cell? ⟨g, 0, none⟩ = some (.int .i64 ((k : Int) + 1)) ∧ w'.cell? ⟨g, 1, none⟩ = some (.int .i64 a) ∧ w'.cell? ⟨g, 2, none⟩ = some (.int .i64 n) ∧ w'.cell? ⟨gr, 1, none⟩ = some (.string s1)) (first | with_reducible exact S0 | with_reducible assumption) (first
    | ((with_reducible refine Calls.mono (HC.out _).1 ?_)
       rintro e wA ⟨rfl, kA⟩
       have SxA : (fun w' : World => w'.cell? ⟨g, 0, none⟩ = some (.int .i64 ((k : Int) + 1)) ∧ w'.cell? ⟨g, 1, none⟩ = some (.int .i64 a) ∧ w'.cell? ⟨g, 2, none⟩ = some (.int .i64 n) ∧ w'.cell? ⟨gr, 1, none⟩ = some (.string s1)) wA := ⟨keeps_at kA S0.1, keeps_at kA S0.2.1, keeps_at kA S0.2.2.1, keeps_at kA S0.2.2.2⟩
       have HxA := hide ((HB2.out.2).trans kA (fun _ _ e => e))
       clear kA)
    | ((with_reducible refine Calls.mono (HC.out _).2.1 ?_)
       rintro e wB ⟨rfl, kB⟩
       have SxB : (fun w' : World => w'.cell? ⟨g, 0, none⟩ = some (.int .i64 ((k : Int) + 1)) ∧ w'.cell? ⟨g, 1, none⟩ = some (.int .i64 a) ∧ w'.cell? ⟨g, 2, none⟩ = some (.int .i64 n) ∧ w'.cell? ⟨gr, 1, none⟩ = some (.string s1)) wB := ⟨keeps_at kB SxA.1, keeps_at kB SxA.2.1, keeps_at kB SxA.2.2.1, keeps_at kB SxA.2.2.2⟩
       have HxB := hide ((HxA.out).trans kB (fun _ _ e => e))
       clear kB)
    | ((with_reducible refine Calls.mono (HC.out _).2.2 ?_)
       rintro e wC ⟨rfl, kC⟩
       have SxC : (fun w' : World => w'.cell? ⟨g, 0, none⟩ = some (.int .i64 ((k : Int) + 1)) ∧ w'.cell? ⟨g, 1, none⟩ = some (.int .i64 a) ∧ w'.cell? ⟨g, 2, none⟩ = some (.int .i64 n) ∧ w'.cell? ⟨gr, 1, none⟩ = some (.string s1)) wC := ⟨keeps_at kC SxB.1, keeps_at kC SxB.2.1, keeps_at kC SxB.2.2.1, keeps_at kC SxB.2.2.2⟩
       have HxC := hide ((HxB.out).trans kC (fun _ _ e => e))
       clear kC))
  all_goals (
    go_wp2_with fail
    go_ret
    refine ⟨?_, HxC.out⟩
    show Ending.returned (Value.string T5) = Ending.returned (Value.string (sB (lnI ⟨(k : Int) + 1, a, n⟩)))
    rw [HS2.out])
set_option maxRecDepth 100000 in
set_option maxHeartbeats 4000000 in
theorem line_a (k : Nat) (hk : k < 29) (a n : Int) (hx : (⟨(k : Int) + 1, a, n⟩ : In).fit) (hu1 : ¬ usC (k + 1) = 1) (hu0 : ¬ usC (k + 1) = 0) (hn : n = 0) (w : World) : Calls Tryd.prog 18 #[inV ⟨(k : Int) + 1, a, n⟩] w (LineQ ⟨(k : Int) + 1, a, n⟩ w) := by
  have hfm : isFm ⟨(k : Int) + 1, a, n⟩ = true := by
    rw [isFm_at hk]
    simp [hu1, hu0, hn]
  have hln : lnI ⟨(k : Int) + 1, a, n⟩ = lnW (nmC (k + 1)) [a] := by
    rw [lnI_yes hfm]
    dsimp only
    rw [show ((k : Int) + 1).toNat = k + 1 by omega]
    simp [hu1, hu0]
  obtain ⟨u1, u0⟩ := use_is2 (k := k + 1) (by omega) (by omega)
  have hnl := nm_small ⟨k + 1, by omega⟩
  have hs1 : (sB (nmC (k + 1))).size ≤ 5 := by rw [sB_size]; exact hnl
  have hb1 : ((sB (useB (k + 1))).toList == [110]) = false := by rw [u1]; simp [hu1]
  have hb0 : ((sB (useB (k + 1))).toList == [45]) = false := by rw [u0]; simp [hu0]
  have hc1 : ((sB (useB (k + 1))).toList != [110]) = true := by simp only [bne, hb1]; rfl
  have hc0 : ((sB (useB (k + 1))).toList != [45]) = true := by simp only [bne, hb0]; rfl
  have hn' : (n == 0) = true := by simp [hn]
  clear hn
  have HS := hide (And.intro hln (lnW_one (nmC (k + 1)) a))
  obtain ⟨W1, hW1⟩ : ∃ W1, W1 = w.alloc (.cells #[.int .i64 ((k : Int) + 1), .int .i64 a, .int .i64 n] 36) := ⟨_, rfl⟩
  have kW1 : Keeps w W1 (fun _ => False) := by rw [hW1]; exact (Keeps.refl _ _).alloc _
  have hbx : Bx w.heap.size ((k : Int) + 1) a n W1 := by rw [hW1]; exact cells3 (heap_alloc_new _ _)
  have hR := row_yes k hk W1
  have HB := hide (And.intro kW1 (And.intro hbx hx))
  unfold rowV at hR
  clear kW1 hbx hfm hln hnl hx u1 u0
  unfold inV
  dsimp only
  generalize sB (useB (k + 1)) = s2 at *
  generalize ((tkC (k + 1) : Nat) : Int) = tk at *
  generalize ((lyC (k + 1) : Nat) : Int) = ly at *
  generalize ((k + 1 : Nat) : Int) = kk at *
  have hD := line_pre ⟨(k : Int) + 1, a, n⟩ HB.out.2.2 w
  have hfit := HB.out.2.2
  have hso : (sB (Lib.itoa ((k : Int) + 1))).size ≤ 20 := by rw [sB_size]; exact itoa_len _ hfit.1
  have hsa : (sB (Lib.itoa a)).size ≤ 20 := by rw [sB_size]; exact itoa_len a hfit.2.1
  have hsn : (sB (Lib.itoa n)).size ≤ 20 := by rw [sB_size]; exact itoa_len n hfit.2.2
  have HC : Hid (∀ W, (Calls Tryd.prog 17 #[.int .i64 ((k : Int) + 1)] W fun e w' => e = .returned (.string (sB (Lib.itoa ((k : Int) + 1)))) ∧ Keeps W w' (fun _ => False)) ∧ (Calls Tryd.prog 17 #[.int .i64 a] W fun e w' => e = .returned (.string (sB (Lib.itoa a))) ∧ Keeps W w' (fun _ => False)) ∧ (Calls Tryd.prog 17 #[.int .i64 n] W fun e w' => e = .returned (.string (sB (Lib.itoa n))) ∧ Keeps W w' (fun _ => False))) := fun W => ⟨hD _ hfit.1 W, hD _ hfit.2.1 W, hD _ hfit.2.2 W⟩
  have HS2 : Hid (sB (lnI ⟨(k : Int) + 1, a, n⟩) = (sB (nmC (k + 1)) ++ ⟨#[32]⟩) ++ sB (Lib.itoa a)) := by
    show _ = _
    rw [HS.out.1, HS.out.2]
  clear HS
  clear hD hfit
  generalize sB (nmC (k + 1)) = s1 at *
  generalize sB (Lib.itoa ((k : Int) + 1)) = So at *
  generalize sB (Lib.itoa a) = Sa at *
  generalize sB (Lib.itoa n) = Sn at *
  obtain ⟨T1, hT1⟩ : ∃ T1, s1 ++ ⟨#[32]⟩ = T1 := ⟨_, rfl⟩
  obtain ⟨T5, hT5⟩ : ∃ T5, T1 ++ Sa = T5 := ⟨_, rfl⟩
  rw [hT1, hT5] at HS2
  have z1 : (⟨#[32]⟩ : ByteArray).size = 1 := rfl
  obtain ⟨q1, y1⟩ := cat_run _ _ _ hT1 (by omega) (by omega)
  obtain ⟨q5, y5⟩ := cat_run _ _ _ hT5 (by omega) (by omega)
  clear hT1 hT5 y1 y5 z1 hso hsa hsn hs1
  go_enter Tryd.func18, Tryd.ntmps18
  go_wp2_with fail
  rw [← hW1]
  clear hW1
  refine hR.mono ?_
  rintro e w1 ⟨rfl, k1⟩
  obtain ⟨W2, hW2⟩ : ∃ W2, W2 = w1.alloc (.cells #[.int .i64 kk, .string s1, .string s2, .int .i64 tk, .int .i64 ly] 84) := ⟨_, rfl⟩
  have k2 : Keeps w1 W2 (fun _ => False) := by rw [hW2]; exact (Keeps.refl _ _).alloc _
  have hb2 := (HB.out.2.1.keeps k1).keeps k2
  obtain ⟨x0, x1, x2⟩ := hb2
  have hr2 := heap_alloc_new w1 (.cells #[.int .i64 kk, .string s1, .string s2, .int .i64 tk, .int .i64 ly] 84)
  rw [← hW2] at hr2
  obtain ⟨r0, r1, r2, r3, r4⟩ := cells5 hr2
  have HB2 : Hid (Keeps w W2 (fun _ => False) ∧ Keeps w W2.drew (fun _ => False)) := ⟨HB.out.1.trans (k1.trans k2 (fun _ _ e => e)) (fun _ _ e => e), (HB.out.1.trans (k1.trans k2 (fun _ _ e => e)) (fun _ _ e => e)).drew⟩
  have S00 : W2.cell? ⟨w.heap.size, 0, none⟩ = some (.int .i64 ((k : Int) + 1)) ∧ W2.cell? ⟨w.heap.size, 1, none⟩ = some (.int .i64 a) ∧ W2.cell? ⟨w.heap.size, 2, none⟩ = some (.int .i64 n) ∧ W2.cell? ⟨w1.heap.size, 1, none⟩ = some (.string s1) := ⟨x0, x1, x2, r1⟩
  have HS00 := hide S00
  clear hR k1 k2 hr2 HB S00
  rw [hW2] at x0 x1 x2 r0 r1 r2 r3 r4
  go_wp2_with fail
  rw [← hW2]
  clear hW2 x0 x1 x2 r0 r1 r2 r3 r4
  generalize w.heap.size = g at *
  generalize w1.heap.size = gr at *
  have S0 : (fun w' : World => w'.cell? ⟨g, 0, none⟩ = some (.int .i64 ((k : Int) + 1)) ∧ w'.cell? ⟨g, 1, none⟩ = some (.int .i64 a) ∧ w'.cell? ⟨g, 2, none⟩ = some (.int .i64 n) ∧ w'.cell? ⟨gr, 1, none⟩ = some (.string s1)) W2.drew := HS00.out
  go_region_held3 (fun w' : World => w'.cell? ⟨g, 0, none⟩ = some (.int .i64 ((k : Int) + 1)) ∧ w'.cell? ⟨g, 1, none⟩ = some (.int .i64 a) ∧ w'.cell? ⟨g, 2, none⟩ = some (.int .i64 n) ∧ w'.cell? ⟨gr, 1, none⟩ = some (.string s1)) (first | with_reducible exact S0 | with_reducible assumption) (first
    | ((with_reducible refine Calls.mono (HC.out _).2.1 ?_)
       rintro e wA ⟨rfl, kA⟩
       have SxA : (fun w' : World => w'.cell? ⟨g, 0, none⟩ = some (.int .i64 ((k : Int) + 1)) ∧ w'.cell? ⟨g, 1, none⟩ = some (.int .i64 a) ∧ w'.cell? ⟨g, 2, none⟩ = some (.int .i64 n) ∧ w'.cell? ⟨gr, 1, none⟩ = some (.string s1)) wA := ⟨keeps_at kA S0.1, keeps_at kA S0.2.1, keeps_at kA S0.2.2.1, keeps_at kA S0.2.2.2⟩
       have HxA := hide ((HB2.out.2).trans kA (fun _ _ e => e))
       clear kA))
  all_goals (
    go_wp2_with fail
    go_ret
    refine ⟨?_, HxA.out⟩
    show Ending.returned (Value.string T5) = Ending.returned (Value.string (sB (lnI ⟨(k : Int) + 1, a, n⟩)))
    rw [HS2.out])
set_option maxRecDepth 100000 in
set_option maxHeartbeats 4000000 in
theorem line_a_no (k : Nat) (hk : k < 29) (a n : Int) (hx : (⟨(k : Int) + 1, a, n⟩ : In).fit) (hu1 : ¬ usC (k + 1) = 1) (hu0 : ¬ usC (k + 1) = 0) (hn : ¬ n = 0) (w : World) : Calls Tryd.prog 18 #[inV ⟨(k : Int) + 1, a, n⟩] w (LineQ ⟨(k : Int) + 1, a, n⟩ w) := by
  have hfm : isFm ⟨(k : Int) + 1, a, n⟩ = false := by
    rw [isFm_at hk]
    simp [hu1, hu0, hn]
  have hln : lnI ⟨(k : Int) + 1, a, n⟩ = lnW instB [(k : Int) + 1, a, n] := lnI_no hfm
  obtain ⟨u1, u0⟩ := use_is2 (k := k + 1) (by omega) (by omega)
  have hnl := nm_small ⟨k + 1, by omega⟩
  have hs1 : (sB (nmC (k + 1))).size ≤ 5 := by rw [sB_size]; exact hnl
  have hb1 : ((sB (useB (k + 1))).toList == [110]) = false := by rw [u1]; simp [hu1]
  have hb0 : ((sB (useB (k + 1))).toList == [45]) = false := by rw [u0]; simp [hu0]
  have hc1 : ((sB (useB (k + 1))).toList != [110]) = true := by simp only [bne, hb1]; rfl
  have hc0 : ((sB (useB (k + 1))).toList != [45]) = true := by simp only [bne, hb0]; rfl
  have hn' : (n == 0) = false := by simp [hn]
  clear hn
  have HS := hide (And.intro hln (lnW_three instB ((k : Int) + 1) a n))
  obtain ⟨W1, hW1⟩ : ∃ W1, W1 = w.alloc (.cells #[.int .i64 ((k : Int) + 1), .int .i64 a, .int .i64 n] 36) := ⟨_, rfl⟩
  have kW1 : Keeps w W1 (fun _ => False) := by rw [hW1]; exact (Keeps.refl _ _).alloc _
  have hbx : Bx w.heap.size ((k : Int) + 1) a n W1 := by rw [hW1]; exact cells3 (heap_alloc_new _ _)
  have hR := row_yes k hk W1
  have HB := hide (And.intro kW1 (And.intro hbx hx))
  unfold rowV at hR
  clear kW1 hbx hfm hln hnl hx u1 u0
  unfold inV
  dsimp only
  generalize sB (useB (k + 1)) = s2 at *
  generalize ((tkC (k + 1) : Nat) : Int) = tk at *
  generalize ((lyC (k + 1) : Nat) : Int) = ly at *
  generalize ((k + 1 : Nat) : Int) = kk at *
  have hD := line_pre ⟨(k : Int) + 1, a, n⟩ HB.out.2.2 w
  have hfit := HB.out.2.2
  have hso : (sB (Lib.itoa ((k : Int) + 1))).size ≤ 20 := by rw [sB_size]; exact itoa_len _ hfit.1
  have hsa : (sB (Lib.itoa a)).size ≤ 20 := by rw [sB_size]; exact itoa_len a hfit.2.1
  have hsn : (sB (Lib.itoa n)).size ≤ 20 := by rw [sB_size]; exact itoa_len n hfit.2.2
  have HC : Hid (∀ W, (Calls Tryd.prog 17 #[.int .i64 ((k : Int) + 1)] W fun e w' => e = .returned (.string (sB (Lib.itoa ((k : Int) + 1)))) ∧ Keeps W w' (fun _ => False)) ∧ (Calls Tryd.prog 17 #[.int .i64 a] W fun e w' => e = .returned (.string (sB (Lib.itoa a))) ∧ Keeps W w' (fun _ => False)) ∧ (Calls Tryd.prog 17 #[.int .i64 n] W fun e w' => e = .returned (.string (sB (Lib.itoa n))) ∧ Keeps W w' (fun _ => False))) := fun W => ⟨hD _ hfit.1 W, hD _ hfit.2.1 W, hD _ hfit.2.2 W⟩
  have hinst : sB instB ++ ⟨#[32]⟩ = ⟨#[105, 110, 115, 116, 32]⟩ := by decide +kernel
  have HS2 : Hid (sB (lnI ⟨(k : Int) + 1, a, n⟩) = ((((⟨#[105, 110, 115, 116, 32]⟩ ++ sB (Lib.itoa ((k : Int) + 1))) ++ ⟨#[32]⟩) ++ sB (Lib.itoa a)) ++ ⟨#[32]⟩) ++ sB (Lib.itoa n)) := by
    show _ = _
    rw [HS.out.1, HS.out.2, hinst]
  clear hinst HS
  clear hD hfit
  generalize sB (nmC (k + 1)) = s1 at *
  generalize sB (Lib.itoa ((k : Int) + 1)) = So at *
  generalize sB (Lib.itoa a) = Sa at *
  generalize sB (Lib.itoa n) = Sn at *
  obtain ⟨T1, hT1⟩ : ∃ T1, (⟨#[105, 110, 115, 116, 32]⟩ : ByteArray) ++ So = T1 := ⟨_, rfl⟩
  obtain ⟨T2, hT2⟩ : ∃ T2, T1 ++ ⟨#[32]⟩ = T2 := ⟨_, rfl⟩
  obtain ⟨T3, hT3⟩ : ∃ T3, T2 ++ Sa = T3 := ⟨_, rfl⟩
  obtain ⟨T4, hT4⟩ : ∃ T4, T3 ++ ⟨#[32]⟩ = T4 := ⟨_, rfl⟩
  obtain ⟨T5, hT5⟩ : ∃ T5, T4 ++ Sn = T5 := ⟨_, rfl⟩
  rw [hT1, hT2, hT3, hT4, hT5] at HS2
  have z5 : (⟨#[105, 110, 115, 116, 32]⟩ : ByteArray).size = 5 := rfl
  have z1 : (⟨#[32]⟩ : ByteArray).size = 1 := rfl
  obtain ⟨q1, y1⟩ := cat_run _ _ _ hT1 (by omega) (by omega)
  obtain ⟨q2, y2⟩ := cat_run _ _ _ hT2 (by omega) (by omega)
  obtain ⟨q3, y3⟩ := cat_run _ _ _ hT3 (by omega) (by omega)
  obtain ⟨q4, y4⟩ := cat_run _ _ _ hT4 (by omega) (by omega)
  obtain ⟨q5, y5⟩ := cat_run _ _ _ hT5 (by omega) (by omega)
  clear hT1 hT2 hT3 hT4 hT5 y1 y2 y3 y4 y5 z5 z1 hso hsa hsn hs1
  go_enter Tryd.func18, Tryd.ntmps18
  go_wp2_with fail
  rw [← hW1]
  clear hW1
  refine hR.mono ?_
  rintro e w1 ⟨rfl, k1⟩
  obtain ⟨W2, hW2⟩ : ∃ W2, W2 = w1.alloc (.cells #[.int .i64 kk, .string s1, .string s2, .int .i64 tk, .int .i64 ly] 84) := ⟨_, rfl⟩
  have k2 : Keeps w1 W2 (fun _ => False) := by rw [hW2]; exact (Keeps.refl _ _).alloc _
  have hb2 := (HB.out.2.1.keeps k1).keeps k2
  obtain ⟨x0, x1, x2⟩ := hb2
  have hr2 := heap_alloc_new w1 (.cells #[.int .i64 kk, .string s1, .string s2, .int .i64 tk, .int .i64 ly] 84)
  rw [← hW2] at hr2
  obtain ⟨r0, r1, r2, r3, r4⟩ := cells5 hr2
  have HB2 : Hid (Keeps w W2 (fun _ => False) ∧ Keeps w W2.drew (fun _ => False)) := ⟨HB.out.1.trans (k1.trans k2 (fun _ _ e => e)) (fun _ _ e => e), (HB.out.1.trans (k1.trans k2 (fun _ _ e => e)) (fun _ _ e => e)).drew⟩
  have S00 : W2.cell? ⟨w.heap.size, 0, none⟩ = some (.int .i64 ((k : Int) + 1)) ∧ W2.cell? ⟨w.heap.size, 1, none⟩ = some (.int .i64 a) ∧ W2.cell? ⟨w.heap.size, 2, none⟩ = some (.int .i64 n) ∧ W2.cell? ⟨w1.heap.size, 1, none⟩ = some (.string s1) := ⟨x0, x1, x2, r1⟩
  have HS00 := hide S00
  clear hR k1 k2 hr2 HB S00
  rw [hW2] at x0 x1 x2 r0 r1 r2 r3 r4
  go_wp2_with fail
  rw [← hW2]
  clear hW2 x0 x1 x2 r0 r1 r2 r3 r4
  generalize w.heap.size = g at *
  generalize w1.heap.size = gr at *
  have S0 : (fun w' : World => w'.cell? ⟨g, 0, none⟩ = some (.int .i64 ((k : Int) + 1)) ∧ w'.cell? ⟨g, 1, none⟩ = some (.int .i64 a) ∧ w'.cell? ⟨g, 2, none⟩ = some (.int .i64 n) ∧ w'.cell? ⟨gr, 1, none⟩ = some (.string s1)) W2.drew := HS00.out
  go_region_held3 (fun w' : World => w'.cell? ⟨g, 0, none⟩ = some (.int .i64 ((k : Int) + 1)) ∧ w'.cell? ⟨g, 1, none⟩ = some (.int .i64 a) ∧ w'.cell? ⟨g, 2, none⟩ = some (.int .i64 n) ∧ w'.cell? ⟨gr, 1, none⟩ = some (.string s1)) (first | with_reducible exact S0 | with_reducible assumption) (first
    | ((with_reducible refine Calls.mono (HC.out _).1 ?_)
       rintro e wA ⟨rfl, kA⟩
       have SxA : (fun w' : World => w'.cell? ⟨g, 0, none⟩ = some (.int .i64 ((k : Int) + 1)) ∧ w'.cell? ⟨g, 1, none⟩ = some (.int .i64 a) ∧ w'.cell? ⟨g, 2, none⟩ = some (.int .i64 n) ∧ w'.cell? ⟨gr, 1, none⟩ = some (.string s1)) wA := ⟨keeps_at kA S0.1, keeps_at kA S0.2.1, keeps_at kA S0.2.2.1, keeps_at kA S0.2.2.2⟩
       have HxA := hide ((HB2.out.2).trans kA (fun _ _ e => e))
       clear kA)
    | ((with_reducible refine Calls.mono (HC.out _).2.1 ?_)
       rintro e wB ⟨rfl, kB⟩
       have SxB : (fun w' : World => w'.cell? ⟨g, 0, none⟩ = some (.int .i64 ((k : Int) + 1)) ∧ w'.cell? ⟨g, 1, none⟩ = some (.int .i64 a) ∧ w'.cell? ⟨g, 2, none⟩ = some (.int .i64 n) ∧ w'.cell? ⟨gr, 1, none⟩ = some (.string s1)) wB := ⟨keeps_at kB SxA.1, keeps_at kB SxA.2.1, keeps_at kB SxA.2.2.1, keeps_at kB SxA.2.2.2⟩
       have HxB := hide ((HxA.out).trans kB (fun _ _ e => e))
       clear kB)
    | ((with_reducible refine Calls.mono (HC.out _).2.2 ?_)
       rintro e wC ⟨rfl, kC⟩
       have SxC : (fun w' : World => w'.cell? ⟨g, 0, none⟩ = some (.int .i64 ((k : Int) + 1)) ∧ w'.cell? ⟨g, 1, none⟩ = some (.int .i64 a) ∧ w'.cell? ⟨g, 2, none⟩ = some (.int .i64 n) ∧ w'.cell? ⟨gr, 1, none⟩ = some (.string s1)) wC := ⟨keeps_at kC SxB.1, keeps_at kC SxB.2.1, keeps_at kC SxB.2.2.1, keeps_at kC SxB.2.2.2⟩
       have HxC := hide ((HxB.out).trans kC (fun _ _ e => e))
       clear kC))
  all_goals (
    go_wp2_with fail
    go_ret
    refine ⟨?_, HxC.out⟩
    show Ending.returned (Value.string T5) = Ending.returned (Value.string (sB (lnI ⟨(k : Int) + 1, a, n⟩)))
    rw [HS2.out])
theorem line_any (x : In) (hx : x.fit) (w : World) : Calls Tryd.prog 18 #[inV x] w (LineQ x w) := by
  obtain ⟨op, a, n⟩ := x
  by_cases ho : op < 1 ∨ op > 29
  · exact line_out op a n hx ho w
  · obtain ⟨k, rfl⟩ : ∃ k : Nat, op = (k : Int) + 1 := ⟨(op - 1).toNat, by omega⟩
    have hk : k < 29 := by omega
    by_cases hu : usC (k + 1) = 1
    · by_cases ha : a = 0
      · exact line_n k hk a n hx hu ha w
      · exact line_n_no k hk a n hx hu ha w
    · by_cases hu0 : usC (k + 1) = 0
      · by_cases ha : a = 0
        · by_cases hn : n = 0
          · exact line_0 k hk a n hx hu0 ha hn w
          · exact line_0_n k hk a n hx hu0 ha hn w
        · exact line_0_a k hk a n hx hu0 ha w
      · by_cases hn : n = 0
        · exact line_a k hk a n hx hu hu0 hn w
        · exact line_a_no k hk a n hx hu hu0 hn w
end Cw
end Go.Proofs.YtnicbillhlhmmaaDoor
