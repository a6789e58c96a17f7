/-
  code: the reference's Line.
-/
import Derived.Test.YtnicbillhlhmmaaDoorCW15
import Derived.Deep.RegionHeld3
namespace Go.Proofs.YtnicbillhlhmmaaDoor
namespace Cw
open Go.RowKit
set_option linter.unusedVariables false
theorem box3 {w : World} {x y z : Value} {T : TypeId} {W1 : World} (k : Keeps (w.alloc (.cells #[x, y, z] T)) W1 (fun _ => False)) : W1.cell? ⟨w.heap.size, 0, none⟩ = some x ∧ W1.cell? ⟨w.heap.size, 1, none⟩ = some y ∧ W1.cell? ⟨w.heap.size, 2, none⟩ = some z := by
  obtain ⟨a, b, c⟩ := cells3 (heap_alloc_new w (.cells #[x, y, z] T))
  exact ⟨keeps_at k a, keeps_at k b, keeps_at k c⟩
theorem nm_small : ∀ k : Fin 30, (nmC k.1).length ≤ 5 := by decide +kernel
theorem use_is : ∀ k : Fin 30, 1 ≤ k.1 → ((sB (useB k.1)).toList == [110]) = (usC k.1 == 1) ∧ ((sB (useB k.1)).toList == [45]) = (usC k.1 == 0) := by decide +kernel
theorem use_is2 {k : Nat} (hk : k < 30) (h1 : 1 ≤ k) : ((sB (useB k)).toList == [110]) = (usC k == 1) ∧ ((sB (useB k)).toList == [45]) = (usC k == 0) := use_is ⟨k, hk⟩ h1
theorem lnW_three (w : Bs) (a b c : Int) : sB (lnW w [a, b, c]) = (((((sB w ++ ⟨#[32]⟩) ++ sB (Lib.itoa a)) ++ ⟨#[32]⟩) ++ sB (Lib.itoa b)) ++ ⟨#[32]⟩) ++ sB (Lib.itoa c) := by
  have h32 : (⟨#[32]⟩ : ByteArray) = sB [32] := rfl
  rw [h32]
  simp only [sB_app]
  congr 1
  simp [lnW]
theorem lnW_one (w : Bs) (a : Int) : sB (lnW w [a]) = (sB w ++ ⟨#[32]⟩) ++ sB (Lib.itoa a) := by
  have h32 : (⟨#[32]⟩ : ByteArray) = sB [32] := rfl
  rw [h32]
  simp only [sB_app]
  congr 1
  simp [lnW]
/-- Three loads. -/
def Bx (g : Nat) (a b c : Int) (W : World) : Prop := W.cell? ⟨g, 0, none⟩ = some (.int .i64 a) ∧ W.cell? ⟨g, 1, none⟩ = some (.int .i64 b) ∧ W.cell? ⟨g, 2, none⟩ = some (.int .i64 c)
theorem Bx.keeps {g : Nat} {a b c : Int} {W W' : World} (h : Bx g a b c W) (k : Keeps W W' (fun _ => False)) : Bx g a b c W' := ⟨keeps_at k h.1, keeps_at k h.2.1, keeps_at k h.2.2⟩
theorem cat_run (a b c : ByteArray) (hc : a ++ b = c) (ha : a.size ≤ 1000) (hb : b.size ≤ 1000) : (∀ W : World, (Op.stringOp .add a b).run Tryd.prog W = .ok (.string c) W) ∧ c.size = a.size + b.size := by
  subst hc
  exact ⟨fun W => run_string_add W a b (by omega) (by omega), ByteArray.size_append⟩
def LineQ (x : In) (w : World) (e : Ending) (w' : World) : Prop := e = .returned (.string (sB (lnI x))) ∧ Keeps w w' (fun _ => False)
set_option maxRecDepth 100000 in
set_option maxHeartbeats 4000000 in
/-- A line of inst, from its region on. -/
theorem line_pre (x : In) (hx : x.fit) (w : World) : ∀ n, Fit n → ∀ W, Calls Tryd.prog 17 #[.int .i64 n] W fun e w' => e = .returned (.string (sB (Lib.itoa n))) ∧ Keeps W w' (fun _ => False) := fun n hn W => decimal_any n hn W
set_option maxRecDepth 100000 in
set_option maxHeartbeats 4000000 in
theorem line_out (op a n : Int) (hx : (⟨op, a, n⟩ : In).fit) (ho : op < 1 ∨ op > 29) (w : World) : Calls Tryd.prog 18 #[inV ⟨op, a, n⟩] w (LineQ ⟨op, a, n⟩ w) := by
  have hfm : isFm ⟨op, a, n⟩ = false := by
    unfold isFm
    dsimp only
    rcases ho with h | h
    · rw [decide_eq_false (by omega : ¬ (1 : Int) ≤ op)]; rfl
    · rw [decide_eq_false (by omega : ¬ op ≤ 29)]; simp
  have hln : lnI ⟨op, a, n⟩ = lnW instB [op, a, n] := by
    show lnW (nmI ⟨op, a, n⟩) (nsI ⟨op, a, n⟩) = _
    unfold nmI nsI
    rw [hfm]
    rfl
  have HS := hide (And.intro hln (lnW_three instB op a n))
  obtain ⟨W1, hW1⟩ : ∃ W1, W1 = w.alloc (.cells #[.int .i64 op, .int .i64 a, .int .i64 n] 36) := ⟨_, rfl⟩
  have kW1 : Keeps w W1 (fun _ => False) := by rw [hW1]; exact (Keeps.refl _ _).alloc _
  have hbx : Bx w.heap.size op a n W1 := by rw [hW1]; exact cells3 (heap_alloc_new _ _)
  have hR := row_no op ho W1
  have HB := hide (And.intro kW1 (And.intro hbx hx))
  clear kW1 hbx hfm hln ho
  unfold inV
  dsimp only
  go_enter Tryd.func18, Tryd.ntmps18
  go_wp2_with fail
  rw [← hW1]
  clear hW1
  refine hR.mono ?_
  rintro e w1 ⟨rfl, k1⟩
  unfold rowZ
  obtain ⟨W2, hW2⟩ : ∃ W2, W2 = w1.alloc (.cells #[.int .i64 0, .string ⟨#[]⟩, .string ⟨#[]⟩, .int .i64 0, .int .i64 0] 84) := ⟨_, rfl⟩
  have k2 : Keeps w1 W2 (fun _ => False) := by rw [hW2]; exact (Keeps.refl _ _).alloc _
  have hb2 := (HB.out.2.1.keeps k1).keeps k2
  have HB2 := hide (And.intro (HB.out.1.trans (k1.trans k2 (fun _ _ e => e)) (fun _ _ e => e)) hb2)
  have hD := hide (line_pre ⟨op, a, n⟩ HB.out.2.2 w)
  have hfit := HB.out.2.2
  have so := itoa_len op hfit.1
  have sa := itoa_len a hfit.2.1
  have sn := itoa_len n hfit.2.2
  have hso : (sB (Lib.itoa op)).size ≤ 20 := by rw [sB_size]; exact so
  have hsa : (sB (Lib.itoa a)).size ≤ 20 := by rw [sB_size]; exact sa
  have hsn : (sB (Lib.itoa n)).size ≤ 20 := by rw [sB_size]; exact sn
  have HC : Hid (∀ W, (Calls Tryd.prog 17 #[.int .i64 op] W fun e w' => e = .returned (.string (sB (Lib.itoa op))) ∧ Keeps W w' (fun _ => False)) ∧ (Calls Tryd.prog 17 #[.int .i64 a] W fun e w' => e = .returned (.string (sB (Lib.itoa a))) ∧ Keeps W w' (fun _ => False)) ∧ (Calls Tryd.prog 17 #[.int .i64 n] W fun e w' => e = .returned (.string (sB (Lib.itoa n))) ∧ Keeps W w' (fun _ => False))) := fun W => ⟨hD.out _ hfit.1 W, hD.out _ hfit.2.1 W, hD.out _ hfit.2.2 W⟩
  have hinst : sB instB ++ ⟨#[32]⟩ = ⟨#[105, 110, 115, 116, 32]⟩ := by decide +kernel
  have HS2 : Hid (sB (lnI ⟨op, a, n⟩) = ((((⟨#[105, 110, 115, 116, 32]⟩ ++ sB (Lib.itoa op)) ++ ⟨#[32]⟩) ++ sB (Lib.itoa a)) ++ ⟨#[32]⟩) ++ sB (Lib.itoa n)) := by
    show _ = _
    rw [HS.out.1, HS.out.2, hinst]
  unfold LineQ
  clear hR k1 k2 hb2 hD hfit so sa sn hinst HS hx HB
  generalize sB (Lib.itoa op) = So at *
  generalize sB (Lib.itoa a) = Sa at *
  generalize sB (Lib.itoa n) = Sn at *
  go_wp2_with fail
  rw [← hW2]
  clear hW2
  obtain ⟨T1, hT1⟩ : ∃ T1, (⟨#[105, 110, 115, 116, 32]⟩ : ByteArray) ++ So = T1 := ⟨_, rfl⟩
  obtain ⟨T2, hT2⟩ : ∃ T2, T1 ++ ⟨#[32]⟩ = T2 := ⟨_, rfl⟩
  obtain ⟨T3, hT3⟩ : ∃ T3, T2 ++ Sa = T3 := ⟨_, rfl⟩
  obtain ⟨T4, hT4⟩ : ∃ T4, T3 ++ ⟨#[32]⟩ = T4 := ⟨_, rfl⟩
  obtain ⟨T5, hT5⟩ : ∃ T5, T4 ++ Sn = T5 := ⟨_, rfl⟩
  rw [hT1, hT2, hT3, hT4, hT5] at HS2
  have z5 : (⟨#[105, 110, 115, 116, 32]⟩ : ByteArray).size = 5 := rfl
  have z1 : (⟨#[32]⟩ : ByteArray).size = 1 := rfl
  obtain ⟨q1, y1⟩ := cat_run _ _ _ hT1 (by omega) (by omega)
  obtain ⟨q2, y2⟩ := cat_run _ _ _ hT2 (by omega) (by omega)
  obtain ⟨q3, y3⟩ := cat_run _ _ _ hT3 (by omega) (by omega)
  obtain ⟨q4, y4⟩ := cat_run _ _ _ hT4 (by omega) (by omega)
  obtain ⟨q5, y5⟩ := cat_run _ _ _ hT5 (by omega) (by omega)
  clear hT1 hT2 hT3 hT4 hT5 y1 y2 y3 y4 y5 z5 z1 hso hsa hsn
  have HB3 : Hid (Keeps w W2.drew (fun _ => False) ∧ Bx w.heap.size op a n W2) := ⟨HB2.out.1.drew, HB2.out.2⟩
  clear HB2
  generalize w.heap.size = g at *
  have S0 : (fun w' : World => w'.cell? ⟨g, 0, none⟩ = some (.int .i64 op) ∧ w'.cell? ⟨g, 1, none⟩ = some (.int .i64 a) ∧ w'.cell? ⟨g, 2, none⟩ = some (.int .i64 n)) W2.drew := HB3.out.2
  go_region_held3 (fun w' : World => w'.cell? ⟨g, 0, none⟩ = some (.int .i64 op) ∧ w'.cell? ⟨g, 1, none⟩ = some (.int .i64 a) ∧ w'.cell? ⟨g, 2, none⟩ = some (.int .i64 n)) (first | with_reducible exact S0 | with_reducible assumption) (first
    | ((with_reducible refine Calls.mono (HC.out _).1 ?_)
       rintro e wA ⟨rfl, kA⟩
       have SA : (fun w' : World => w'.cell? ⟨g, 0, none⟩ = some (.int .i64 op) ∧ w'.cell? ⟨g, 1, none⟩ = some (.int .i64 a) ∧ w'.cell? ⟨g, 2, none⟩ = some (.int .i64 n)) wA := ⟨keeps_at kA S0.1, keeps_at kA S0.2.1, keeps_at kA S0.2.2⟩
       have HA := hide (HB3.out.1.trans kA (fun _ _ e => e))
       clear kA)
    | ((with_reducible refine Calls.mono (HC.out _).2.1 ?_)
       rintro e wB ⟨rfl, kB⟩
       have SB : (fun w' : World => w'.cell? ⟨g, 0, none⟩ = some (.int .i64 op) ∧ w'.cell? ⟨g, 1, none⟩ = some (.int .i64 a) ∧ w'.cell? ⟨g, 2, none⟩ = some (.int .i64 n)) wB := ⟨keeps_at kB SA.1, keeps_at kB SA.2.1, keeps_at kB SA.2.2⟩
       have HBB := hide (HA.out.trans kB (fun _ _ e => e))
       clear kB)
    | ((with_reducible refine Calls.mono (HC.out _).2.2 ?_)
       rintro e wC ⟨rfl, kC⟩
       have SC : (fun w' : World => w'.cell? ⟨g, 0, none⟩ = some (.int .i64 op) ∧ w'.cell? ⟨g, 1, none⟩ = some (.int .i64 a) ∧ w'.cell? ⟨g, 2, none⟩ = some (.int .i64 n)) wC := ⟨keeps_at kC SB.1, keeps_at kC SB.2.1, keeps_at kC SB.2.2⟩
       have HCC := hide (HBB.out.trans kC (fun _ _ e => e))
       clear kC))
  all_goals (
    go_wp2_with fail
    go_ret
    refine ⟨?_, HCC.out⟩
    show Ending.returned (Value.string T5) = Ending.returned (Value.string (sB (lnI ⟨op, a, n⟩)))
    rw [HS2.out])
end Cw
end Go.Proofs.YtnicbillhlhmmaaDoor
