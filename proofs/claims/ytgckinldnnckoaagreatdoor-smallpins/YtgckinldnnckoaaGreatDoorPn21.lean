import Derived.Deep.QuietTactic
import Derived.BigQuiet
import Derived.SizedLaws
import Derived.Deep.Slices
import Derived.Deep.SlicePairs
import Derived.Lib.SmallJoins
import Derived.ChangeOld
import Derived.Test.YtgckinldnnckoaaGreatDoorPn20
namespace Go.Proofs.YtgckinldnnckoaaGreatDoor.Ly
open Go.RowKit

theorem ref_parse_wrong (v : Option Addr) (n cap : Nat) (w : World) (h : n ≠ 5) :
    Calls Tryz.prog 13 #[.slice v n cap] w fun r w' => r = .returned (.tuple #[Lay.zero.val, .int .i64 30]) ∧ Kp w w' := by
  have h' : ((n : Int) != 5) = true := by simp; omega
  go_enter Tryz.func13, Tryz.ntmps13
  go_wp2_with fail
  refine bodyPost_ret (v := .tuple #[Lay.zero.val, .int .i64 30]) (by simp [results, Tryz.results13, go_sem, Lay.val, Lay.zero]) rfl ⟨rfl, ?_⟩
  repeat first | exact Below.refl _ _ | refine Below.alloc ?_ (by simp <;> omega) _ | refine Below.setCell ?_ (by simp <;> omega) _

theorem alloc_any {w : World} {o : Obj} {P : World → Prop} (h : ∀ W, W.heap[w.heap.size]? = some o → Kp w W → P W) : P (w.alloc o) := h _ (heap_new _ _) ((Kp.refl w).alloc _)

set_option maxHeartbeats 8000000 in
theorem ref_parse_err (g o cap : Nat) (k e a b c : Int) (w : World) (h0 : w.cell? ⟨g, o, none⟩ = some (.int .i64 k)) (h1 : w.cell? ⟨g, o + 1, none⟩ = some (.int .i64 e))
    (h2 : w.cell? ⟨g, o + 2, none⟩ = some (.int .i64 a)) (h3 : w.cell? ⟨g, o + 3, none⟩ = some (.int .i64 b)) (h4 : w.cell? ⟨g, o + 4, none⟩ = some (.int .i64 c)) (hE : ¬ errN k e a b c = 0) :
    Calls Tryz.prog 13 #[.slice (some ⟨g, o, none⟩) 5 cap] w fun r w' => r = .returned (.tuple #[Lay.zero.val, .int .i64 (errN k e a b c)]) ∧ Kp w w' := by
  have hg : g < w.heap.size := by
    refine Nat.lt_of_not_le fun hn => ?_
    rw [World.cell?, Array.getElem?_eq_none hn] at h0
    cases h0
  by_cases hk : k < 1 ∨ 128 < k
  · have he : errN k e a b c = 31 := by unfold errN; rw [if_pos hk]
    rw [he]
    clear hE he
    rcases hk with hk | hk
    · go_enter Tryz.func13, Tryz.ntmps13
      go_wp2_with fail
      refine bodyPost_ret (v := .tuple #[Lay.zero.val, .int .i64 31]) (by simp [results, Tryz.results13, go_sem, Lay.val, Lay.zero]) rfl ⟨rfl, ?_⟩
      repeat first | exact Below.refl _ _ | refine Below.alloc ?_ (by simp <;> omega) _ | refine Below.setCell ?_ (by simp <;> omega) _
    · have hk' : ¬ k < 1 := by omega
      go_enter Tryz.func13, Tryz.ntmps13
      go_wp2_with fail
      refine bodyPost_ret (v := .tuple #[Lay.zero.val, .int .i64 31]) (by simp [results, Tryz.results13, go_sem, Lay.val, Lay.zero]) rfl ⟨rfl, ?_⟩
      repeat first | exact Below.refl _ _ | refine Below.alloc ?_ (by simp <;> omega) _ | refine Below.setCell ?_ (by simp <;> omega) _
  have hk1 : ¬ k < 1 := fun h => hk (Or.inl h)
  have hk2 : ¬ 128 < k := fun h => hk (Or.inr h)
  by_cases hm : e < 0 ∨ 128 < e
  · have he : errN k e a b c = 32 := by unfold errN; rw [if_neg hk, if_pos hm]
    rw [he]
    clear hE he hk
    rcases hm with hm | hm
    · go_enter Tryz.func13, Tryz.ntmps13
      go_wp2_with fail
      refine bodyPost_ret (v := .tuple #[Lay.zero.val, .int .i64 32]) (by simp [results, Tryz.results13, go_sem, Lay.val, Lay.zero]) rfl ⟨rfl, ?_⟩
      repeat first | exact Below.refl _ _ | refine Below.alloc ?_ (by simp <;> omega) _ | refine Below.setCell ?_ (by simp <;> omega) _
    · have hm' : ¬ e < 0 := by omega
      go_enter Tryz.func13, Tryz.ntmps13
      go_wp2_with fail
      refine bodyPost_ret (v := .tuple #[Lay.zero.val, .int .i64 32]) (by simp [results, Tryz.results13, go_sem, Lay.val, Lay.zero]) rfl ⟨rfl, ?_⟩
      repeat first | exact Below.refl _ _ | refine Below.alloc ?_ (by simp <;> omega) _ | refine Below.setCell ?_ (by simp <;> omega) _
  have hm1 : ¬ e < 0 := fun h => hm (Or.inl h)
  have hm2 : ¬ 128 < e := fun h => hm (Or.inr h)
  have hA := fun W => ref_fits k a W (by omega) (by omega)
  have hB := fun W => ref_fits e b W (by omega) (by omega)
  have hC := fun W => ref_powerCap c W
  cases hqa : al k a
  · have he : errN k e a b c = 33 := by unfold errN; rw [if_neg hk, if_neg hm, if_pos (Or.inl hqa)]
    rw [he]
    simp only [hqa] at hA
    clear hk hm hC hqa he hE
    go_enter Tryz.func13, Tryz.ntmps13
    go_wp2_with fail
    refine alloc_any (P := fun W => Code.wp _ _ _ _ W) fun W hB0 kW => ?_
    replace h0 := kW.cell h0
    replace h1 := kW.cell h1
    replace h2 := kW.cell h2
    replace h3 := kW.cell h3
    replace h4 := kW.cell h4
    obtain ⟨b0, b1, b2, b3, b4, b5, b6, b7, b8, f0, f1, f2, f3, f4, f5, f6, f7, f8⟩ := (Kp.refl W).nine hB0
    go_region_held3 (fun w' => w'.cell? ⟨g, o, none⟩ = some (.int .i64 k) ∧ w'.cell? ⟨g, o + 1, none⟩ = some (.int .i64 e) ∧ w'.cell? ⟨g, o + 2, none⟩ = some (.int .i64 a) ∧ w'.cell? ⟨g, o + 3, none⟩ = some (.int .i64 b) ∧ w'.cell? ⟨g, o + 4, none⟩ = some (.int .i64 c)) (go_keep) (first | (go_at_call 39; refine (hA _).mono ?_; rintro r w5 ⟨rfl, rfl⟩))
    go_wp2_with fail
    go_region_held3 (fun w' => w'.cell? ⟨g, o, none⟩ = some (.int .i64 k) ∧ w'.cell? ⟨g, o + 1, none⟩ = some (.int .i64 e) ∧ w'.cell? ⟨g, o + 2, none⟩ = some (.int .i64 a) ∧ w'.cell? ⟨g, o + 3, none⟩ = some (.int .i64 b) ∧ w'.cell? ⟨g, o + 4, none⟩ = some (.int .i64 c)) (go_keep) (first | (go_at_call 39; refine (hB _).mono ?_; rintro r w5 ⟨rfl, rfl⟩))
    go_wp2_with fail
    clear b0 b1 b2 b3 b4 b5 b6 b7 b8 f0 f1 f2 f3 f4 f5 f6 f7 f8
    refine nine_set hB0 kW (Nat.le_refl _) (P := fun w9 => bodyPost _ _ _ _ _ w9.drew.drew) fun w9 h9 k9 => ?_
    obtain ⟨b0, b1, b2, b3, b4, b5, b6, b7, b8, -⟩ := (Kp.refl (w9.drew.drew)).nine h9
    refine bodyPost_ret (v := .tuple #[Lay.zero.val, .int .i64 33]) (by simp [results, Tryz.results13, go_sem, Lay.val, Lay.zero, b0, b1, b2, b3, b4, b5, b6, b7, b8]) rfl ⟨rfl, k9.drew.drew⟩
  cases hqb : al e b
  · have he : errN k e a b c = 33 := by unfold errN; rw [if_neg hk, if_neg hm, if_pos (Or.inr hqb)]
    rw [he]
    simp only [hqa] at hA
    simp only [hqb] at hB
    clear hk hm hC hqa hqb he hE
    go_enter Tryz.func13, Tryz.ntmps13
    go_wp2_with fail
    refine alloc_any (P := fun W => Code.wp _ _ _ _ W) fun W hB0 kW => ?_
    replace h0 := kW.cell h0
    replace h1 := kW.cell h1
    replace h2 := kW.cell h2
    replace h3 := kW.cell h3
    replace h4 := kW.cell h4
    obtain ⟨b0, b1, b2, b3, b4, b5, b6, b7, b8, f0, f1, f2, f3, f4, f5, f6, f7, f8⟩ := (Kp.refl W).nine hB0
    go_region_held3 (fun w' => w'.cell? ⟨g, o, none⟩ = some (.int .i64 k) ∧ w'.cell? ⟨g, o + 1, none⟩ = some (.int .i64 e) ∧ w'.cell? ⟨g, o + 2, none⟩ = some (.int .i64 a) ∧ w'.cell? ⟨g, o + 3, none⟩ = some (.int .i64 b) ∧ w'.cell? ⟨g, o + 4, none⟩ = some (.int .i64 c)) (go_keep) (first | (go_at_call 39; refine (hA _).mono ?_; rintro r w5 ⟨rfl, rfl⟩))
    go_wp2_with fail
    go_region_held3 (fun w' => w'.cell? ⟨g, o, none⟩ = some (.int .i64 k) ∧ w'.cell? ⟨g, o + 1, none⟩ = some (.int .i64 e) ∧ w'.cell? ⟨g, o + 2, none⟩ = some (.int .i64 a) ∧ w'.cell? ⟨g, o + 3, none⟩ = some (.int .i64 b) ∧ w'.cell? ⟨g, o + 4, none⟩ = some (.int .i64 c)) (go_keep) (first | (go_at_call 39; refine (hB _).mono ?_; rintro r w5 ⟨rfl, rfl⟩))
    go_wp2_with fail
    clear b0 b1 b2 b3 b4 b5 b6 b7 b8 f0 f1 f2 f3 f4 f5 f6 f7 f8
    refine nine_set hB0 kW (Nat.le_refl _) (P := fun w9 => bodyPost _ _ _ _ _ w9.drew.drew) fun w9 h9 k9 => ?_
    obtain ⟨b0, b1, b2, b3, b4, b5, b6, b7, b8, -⟩ := (Kp.refl (w9.drew.drew)).nine h9
    refine bodyPost_ret (v := .tuple #[Lay.zero.val, .int .i64 33]) (by simp [results, Tryz.results13, go_sem, Lay.val, Lay.zero, b0, b1, b2, b3, b4, b5, b6, b7, b8]) rfl ⟨rfl, k9.drew.drew⟩
  have hno : ¬ (al k a = false ∨ al e b = false) := by rw [hqa, hqb]; simp
  cases hqc : pw c 16 1024
  · have he : errN k e a b c = 34 := by unfold errN; rw [if_neg hk, if_neg hm, if_neg hno, if_pos hqc]
    rw [he]
    simp only [hqa] at hA
    simp only [hqb] at hB
    simp only [hqc] at hC
    clear hk hm hno hqa hqb hqc he hE
    go_enter Tryz.func13, Tryz.ntmps13
    go_wp2_with fail
    refine alloc_any (P := fun W => Code.wp _ _ _ _ W) fun W hB0 kW => ?_
    replace h0 := kW.cell h0
    replace h1 := kW.cell h1
    replace h2 := kW.cell h2
    replace h3 := kW.cell h3
    replace h4 := kW.cell h4
    obtain ⟨b0, b1, b2, b3, b4, b5, b6, b7, b8, f0, f1, f2, f3, f4, f5, f6, f7, f8⟩ := (Kp.refl W).nine hB0
    go_region_held3 (fun w' => w'.cell? ⟨g, o, none⟩ = some (.int .i64 k) ∧ w'.cell? ⟨g, o + 1, none⟩ = some (.int .i64 e) ∧ w'.cell? ⟨g, o + 2, none⟩ = some (.int .i64 a) ∧ w'.cell? ⟨g, o + 3, none⟩ = some (.int .i64 b) ∧ w'.cell? ⟨g, o + 4, none⟩ = some (.int .i64 c)) (go_keep) (first | (go_at_call 39; refine (hA _).mono ?_; rintro r w5 ⟨rfl, rfl⟩))
    go_wp2_with fail
    go_region_held3 (fun w' => w'.cell? ⟨g, o, none⟩ = some (.int .i64 k) ∧ w'.cell? ⟨g, o + 1, none⟩ = some (.int .i64 e) ∧ w'.cell? ⟨g, o + 2, none⟩ = some (.int .i64 a) ∧ w'.cell? ⟨g, o + 3, none⟩ = some (.int .i64 b) ∧ w'.cell? ⟨g, o + 4, none⟩ = some (.int .i64 c)) (go_keep) (first | (go_at_call 39; refine (hB _).mono ?_; rintro r w5 ⟨rfl, rfl⟩))
    go_wp2_with fail
    refine (hC _).mono ?_
    rintro r w5 ⟨rfl, rfl⟩
    go_wp2_with fail
    clear b0 b1 b2 b3 b4 b5 b6 b7 b8 f0 f1 f2 f3 f4 f5 f6 f7 f8
    refine nine_set hB0 kW (Nat.le_refl _) (P := fun w9 => bodyPost _ _ _ _ _ w9.drew.drew) fun w9 h9 k9 => ?_
    obtain ⟨b0, b1, b2, b3, b4, b5, b6, b7, b8, -⟩ := (Kp.refl (w9.drew.drew)).nine h9
    refine bodyPost_ret (v := .tuple #[Lay.zero.val, .int .i64 34]) (by simp [results, Tryz.results13, go_sem, Lay.val, Lay.zero, b0, b1, b2, b3, b4, b5, b6, b7, b8]) rfl ⟨rfl, k9.drew.drew⟩
  · have he : errN k e a b c = 0 := by unfold errN; rw [if_neg hk, if_neg hm, if_neg hno, if_neg (by rw [hqc]; simp)]
    exact absurd he hE

set_option maxHeartbeats 8000000 in
theorem ref_parse_ok (g o cap : Nat) (k e a b c : Int) (w : World) (h0 : w.cell? ⟨g, o, none⟩ = some (.int .i64 k)) (h1 : w.cell? ⟨g, o + 1, none⟩ = some (.int .i64 e))
    (h2 : w.cell? ⟨g, o + 2, none⟩ = some (.int .i64 a)) (h3 : w.cell? ⟨g, o + 3, none⟩ = some (.int .i64 b)) (h4 : w.cell? ⟨g, o + 4, none⟩ = some (.int .i64 c)) (hE : errN k e a b c = 0) :
    Calls Tryz.prog 13 #[.slice (some ⟨g, o, none⟩) 5 cap] w fun r w' => r = .returned (.tuple #[(laidD k e a b c).val, .int .i64 0]) ∧ Kp w w' := by
  obtain ⟨e1, e2, e3, e4, e5, e6, e7⟩ := errN_zero hE
  have hbb := (al_one e6).1
  have sb := slot_bound e1 e2 e3 e4 hbb
  have hA := fun W => ref_fits k a W (by omega) (by omega)
  have hB := fun W => ref_fits e b W (by omega) (by omega)
  have hC := fun W => ref_powerCap c W
  have hR := fun W => ref_raised k b W (by omega) (by omega) hbb
  have hR2 := fun W => ref_raised (up k b + e) 8 W (by omega) (by omega) (by omega)
  simp only [e5] at hA
  simp only [e6] at hB
  simp only [e7] at hC
  have hk1 : ¬ k < 1 := by omega
  have hk2 : ¬ 128 < k := by omega
  have hm1 : ¬ e < 0 := by omega
  have hm2 : ¬ 128 < e := by omega
  have hg : g < w.heap.size := by
    refine Nat.lt_of_not_le fun hn => ?_
    rw [World.cell?, Array.getElem?_eq_none hn] at h0
    cases h0
  have hL : Hid ((laidD k e a b c).val = .agg #[.int .i64 k, .int .i64 e, .int .i64 a, .int .i64 b, .int .i64 c, .int .i64 (up k b), .int .i64 (up (up k b + e) 8), .int .i64 (up (up k b + e) 8 + 8), .int .i64 (8 + 8 * (up (up k b + e) 8 + 8))]) := rfl
  generalize (laidD k e a b c).val = LV at *
  generalize up k b = X at *
  generalize up (X + e) 8 = Y at *
  have s1 : 1 ≤ X := sb.1
  have s2 : X ≤ 135 := sb.2.1
  have s3 : 1 ≤ Y := sb.2.2.1
  have s4 : Y ≤ 270 := sb.2.2.2.1
  clear sb hE e5 e6 e7 hbb
  go_enter Tryz.func13, Tryz.ntmps13
  go_wp2_with fail
  refine alloc_any (P := fun W => Code.wp _ _ _ _ W) fun W hB0 kW => ?_
  replace h0 := kW.cell h0
  replace h1 := kW.cell h1
  replace h2 := kW.cell h2
  replace h3 := kW.cell h3
  replace h4 := kW.cell h4
  obtain ⟨b0, b1, b2, b3, b4, b5, b6, b7, b8, f0, f1, f2, f3, f4, f5, f6, f7, f8⟩ := (Kp.refl W).nine hB0
  go_region_held3 (fun w' => w'.cell? ⟨g, o, none⟩ = some (.int .i64 k) ∧ w'.cell? ⟨g, o + 1, none⟩ = some (.int .i64 e) ∧ w'.cell? ⟨g, o + 2, none⟩ = some (.int .i64 a) ∧ w'.cell? ⟨g, o + 3, none⟩ = some (.int .i64 b) ∧ w'.cell? ⟨g, o + 4, none⟩ = some (.int .i64 c)) (go_keep) (first | (go_at_call 39; refine (hA _).mono ?_; rintro r w5 ⟨rfl, rfl⟩))
  go_wp2_with fail
  go_region_held3 (fun w' => w'.cell? ⟨g, o, none⟩ = some (.int .i64 k) ∧ w'.cell? ⟨g, o + 1, none⟩ = some (.int .i64 e) ∧ w'.cell? ⟨g, o + 2, none⟩ = some (.int .i64 a) ∧ w'.cell? ⟨g, o + 3, none⟩ = some (.int .i64 b) ∧ w'.cell? ⟨g, o + 4, none⟩ = some (.int .i64 c)) (go_keep) (first | (go_at_call 39; refine (hB _).mono ?_; rintro r w5 ⟨rfl, rfl⟩))
  go_wp2_with fail
  refine (hC _).mono ?_
  rintro r w5 ⟨rfl, rfl⟩
  go_wp2_with fail
  go_region_held3 (fun w' => w'.cell? ⟨g, o, none⟩ = some (.int .i64 k) ∧ w'.cell? ⟨g, o + 1, none⟩ = some (.int .i64 e) ∧ w'.cell? ⟨g, o + 2, none⟩ = some (.int .i64 a) ∧ w'.cell? ⟨g, o + 3, none⟩ = some (.int .i64 b) ∧ w'.cell? ⟨g, o + 4, none⟩ = some (.int .i64 c)) (go_keep) (fail)
  refine alloc_any (w := W) (P := fun Z => Exit.then _ _ _ _ Z.drew.drew.drew) fun Z hZ kZ => ?_
  have hBZ := kZ.blk hB0
  have kwZ := kW.trans kZ
  have hne : W.heap.size ≠ w.heap.size := by
    have := (Array.getElem?_eq_some_iff.1 hB0).1
    omega
  have hle : w.heap.size ≤ W.heap.size := kW.size
  clear hA hB hC h0 h1 h2 h3 h4 b0 b1 b2 b3 b4 b5 b6 b7 b8 f0 f1 f2 f3 f4 f5 f6 f7 f8 kZ kW hB0
  generalize W.heap.size = lb at *
  obtain ⟨b0, b1, b2, b3, b4, b5, b6, b7, b8, f0, f1, f2, f3, f4, f5, f6, f7, f8⟩ := (Kp.refl Z).nine hZ
  go_wp2_with fail
  refine (hR _).mono ?_
  rintro r w5 ⟨rfl, rfl⟩
  go_wp2_with fail
  refine (hR2 _).mono ?_
  rintro r w5 ⟨rfl, rfl⟩
  go_wp2_with fail
  have hZ4 : ((((Z.setCell ⟨lb, 5, none⟩ (.int .i64 X)).setCell ⟨lb, 6, none⟩ (.int .i64 Y)).setCell ⟨lb, 7, none⟩ (.int .i64 (Y + 8))).setCell ⟨lb, 8, none⟩ (.int .i64 8)).heap[lb]? = some (.cells #[.int .i64 k, .int .i64 e, .int .i64 a, .int .i64 b, .int .i64 c, .int .i64 X, .int .i64 Y, .int .i64 (Y + 8), .int .i64 8] 38) :=
    set_one (set_one (set_one (set_one hZ 5 _ (by simp)) 6 _ (by simp)) 7 _ (by simp)) 8 _ (by simp)
  have hB4 : ((((Z.setCell ⟨lb, 5, none⟩ (.int .i64 X)).setCell ⟨lb, 6, none⟩ (.int .i64 Y)).setCell ⟨lb, 7, none⟩ (.int .i64 (Y + 8))).setCell ⟨lb, 8, none⟩ (.int .i64 8)).heap[w.heap.size]? = some (.cells #[.int .i64 0, .int .i64 0, .int .i64 0, .int .i64 0, .int .i64 0, .int .i64 0, .int .i64 0, .int .i64 0, .int .i64 0] 38) := by
    rw [Below.heap_setCell _ _ _ _ (Ne.symm hne), Below.heap_setCell _ _ _ _ (Ne.symm hne), Below.heap_setCell _ _ _ _ (Ne.symm hne), Below.heap_setCell _ _ _ _ (Ne.symm hne)]
    exact hBZ
  have k4 : Kp w ((((Z.setCell ⟨lb, 5, none⟩ (.int .i64 X)).setCell ⟨lb, 6, none⟩ (.int .i64 Y)).setCell ⟨lb, 7, none⟩ (.int .i64 (Y + 8))).setCell ⟨lb, 8, none⟩ (.int .i64 8)) :=
    Below.setCell (Below.setCell (Below.setCell (Below.setCell kwZ hle _) hle _) hle _) hle _
  clear hZ hBZ kwZ b0 b1 b2 b3 b4 b5 b6 b7 b8 f0 f1 f2 f3 f4 f5 f6 f7 f8 hR hR2
  go_loopw [8] (fun v wr => ∃ (i : Nat) (G : Int), v = .int .i64 (i : Int) ∧ i ≤ 8 ∧ Hid (G = 8 + i * (Y + 8)) ∧ 0 ≤ G ∧ G ≤ 8 + 278 * i ∧ wr.heap[lb]? = some (.cells #[.int .i64 k, .int .i64 e, .int .i64 a, .int .i64 b, .int .i64 c, .int .i64 X, .int .i64 Y, .int .i64 (Y + 8), .int .i64 G] 38) ∧ wr.heap[w.heap.size]? = some (.cells #[.int .i64 0, .int .i64 0, .int .i64 0, .int .i64 0, .int .i64 0, .int .i64 0, .int .i64 0, .int .i64 0, .int .i64 0] 38) ∧ Kp w wr) (fun v _ => 8 - (intOf v).toNat)
  case atStart => exact ⟨0, 8, rfl, by omega, (by simp : (8 : Int) = 8 + ((0 : Nat) : Int) * (Y + 8)), by omega, by omega, hZ4, hB4, k4.drew.drew.drew⟩
  case round =>
    obtain ⟨i, G, rfl, hi, hG, G0, G1, hl, hz, kr⟩ := hrel
    clear hZ4 hB4 k4
    obtain ⟨b0, b1, b2, b3, b4, b5, b6, b7, b8, f0, f1, f2, f3, f4, f5, f6, f7, f8⟩ := (Kp.refl wr).nine hl
    by_cases h8 : i < 8
    · have h8' : (i : Int) < 8 := by omega
      go_wp2_with fail
      go_roundw
      case rel =>
        refine ⟨i + 1, G + (Y + 8), rfl, by omega, ?_, by omega, by omega, set_one hl 8 _ (by simp), ?_, Below.setCell kr hle _⟩
        · show G + (Y + 8) = _
          rw [hG.out]
          push_cast
          rw [Int.add_mul]
          omega
        · rw [Below.heap_setCell _ _ _ _ (Ne.symm hne)]
          exact hz
      case measure => simp [intOf]; omega
    · have h8' : ¬ (i : Int) < 8 := by omega
      have hi8 : i = 8 := by omega
      subst hi8
      obtain ⟨d0, d1, d2, d3, d4, d5, d6, d7, d8, g0, g1, g2, g3, g4, g5, g6, g7, g8⟩ := (Kp.refl wr).nine hz
      go_wp2_with fail
      refine nine_set hz kr (Nat.le_refl _) (P := fun w9 => bodyPost _ _ _ _ _ w9) fun w9 h9 k9 => ?_
      obtain ⟨u0, u1, u2, u3, u4, u5, u6, u7, u8, -⟩ := (Kp.refl w9).nine h9
      refine bodyPost_ret (v := .tuple #[LV, .int .i64 0]) (by rw [hL.out, show 8 + 8 * (Y + 8) = G by rw [hG.out]; rfl]; simp [results, Tryz.results13, go_sem, u0, u1, u2, u3, u4, u5, u6, u7, u8]) rfl ⟨rfl, k9⟩

theorem ref_parse_five (g o cap : Nat) (k e a b c : Int) (w : World) (h0 : w.cell? ⟨g, o, none⟩ = some (.int .i64 k)) (h1 : w.cell? ⟨g, o + 1, none⟩ = some (.int .i64 e))
    (h2 : w.cell? ⟨g, o + 2, none⟩ = some (.int .i64 a)) (h3 : w.cell? ⟨g, o + 3, none⟩ = some (.int .i64 b)) (h4 : w.cell? ⟨g, o + 4, none⟩ = some (.int .i64 c)) :
    Calls Tryz.prog 13 #[.slice (some ⟨g, o, none⟩) 5 cap] w fun r w' => r = .returned (.tuple #[(parseD [k, e, a, b, c]).1.val, .int .i64 (parseD [k, e, a, b, c]).2]) ∧ Kp w w' := by
  by_cases hE : errN k e a b c = 0
  · have hP : parseD [k, e, a, b, c] = (laidD k e a b c, 0) := if_pos hE
    rw [hP]
    exact ref_parse_ok g o cap k e a b c w h0 h1 h2 h3 h4 hE
  · have hP : parseD [k, e, a, b, c] = (Lay.zero, errN k e a b c) := if_neg hE
    rw [hP]
    exact ref_parse_err g o cap k e a b c w h0 h1 h2 h3 h4 hE
end Go.Proofs.YtgckinldnnckoaaGreatDoor.Ly
/-
  What came in for the statements of stage 11: a Plan (made by gensraw.py).
-/
namespace Go.Proofs.YtgckinldnnckoaaGreatDoor
open Go.ChangeShapes Go.WideShapes Go.ChangeAt Go.WideMaps Go.WideElems Go.RowKit Ly Ct
set_option linter.unusedVariables false
set_option maxRecDepth 100000

theorem array4 {α : Type} {cs : Array α} (h : cs.size = 4) : ∃ c0 c1 c2 c3, cs = #[c0, c1, c2, c3] := by
  obtain ⟨l⟩ := cs
  match l, h with
  | [c0, c1, c2, c3], _ => exact ⟨c0, c1, c2, c3, rfl⟩
theorem plain_cell {w : World} {a : Addr} {v : Value} (h : w.cell? (a.add 0) = some v) : ∃ bb oo, a = ⟨bb, oo, none⟩ ∧ bb < w.heap.size := by
  obtain ⟨bb, oo, sp⟩ := a
  have h' : w.cell? ⟨bb, oo, sp⟩ = some v := h
  have hlt : bb < w.heap.size := by
    rcases Nat.lt_or_ge bb w.heap.size with h1 | h1
    · exact h1
    · simp [World.cell?, Array.getElem?_eq_none h1] at h'
  cases sp with
  | none => exact ⟨bb, oo, rfl, hlt⟩
  | some s =>
    exfalso
    unfold World.cell? at h'
    split at h' <;> simp at h'
/-- A list of five numbers lies there. -/
def Five (w : World) (a : Option Addr) : Prop := ∃ (g o : Nat) (k e x b c : Int), a = some ⟨g, o, none⟩ ∧ w.cell? ⟨g, o, none⟩ = some (.int .i64 k) ∧ w.cell? ⟨g, o + 1, none⟩ = some (.int .i64 e) ∧ w.cell? ⟨g, o + 2, none⟩ = some (.int .i64 x) ∧ w.cell? ⟨g, o + 3, none⟩ = some (.int .i64 b) ∧ w.cell? ⟨g, o + 4, none⟩ = some (.int .i64 c)
/-- A row of turns: kind, key, elem. -/
def TurnsIn (w : World) (a : Option Addr) (ss : List (Int × Int × Int)) : Prop := ss = [] ∨ ∃ b o, a = some ⟨b, o, none⟩ ∧ ∀ i (h : i < ss.length), w.cell? ⟨b, o + i * 3, none⟩ = some (.int .i64 ss[i].1) ∧ w.cell? ⟨b, o + i * 3 + 1, none⟩ = some (.int .i64 ss[i].2.1) ∧ w.cell? ⟨b, o + i * 3 + 2, none⟩ = some (.int .i64 ss[i].2.2)
instance : Inhabited Oc.Ovr := ⟨((⟨#[]⟩, 0) : ByteArray × Nat)⟩
section
variable {H : Type} {enc : TypeId × Value → H} {w : World} {held : Bool}
theorem fields_open {n : Nat} {v0 : Value} {x : DataW H × List MemPlace} (h : DataW.trod enc Tryz.prog w 0 (fun _ => true) held n 22 [v0] = some x) :
    ∃ (a : Option Addr) (len cap : Nat), v0 = .slice a len cap ∧ (len = 5 → Five w a) := by
  rcases Go.Deep.open_slice1 Tryz.underlying22 (by kernel_rfl) h with ⟨hcs, _⟩ | ⟨a, len, cap, m, n', V, D, Pl, hcs, _, hl, hm, hmm, hy, hx⟩
  · simp at hcs
    exact ⟨none, 0, 0, hcs, fun e => by omega⟩
  · simp at hcs
    have hmc : m = cap := by simpa using hmm
    subst hmc
    refine ⟨some a, len, m, hcs, fun e => ?_⟩
    have hc : ∀ i, i < len → ∃ z : Int, w.cell? (a.add i) = some (.int .i64 z) := fun i hi => by
      obtain ⟨g1, g2⟩ := hx i (by omega)
      obtain ⟨z, e, _, hw⟩ := DataW.trod_int Tryz.underlying3 g2
      simp at e
      exact ⟨z, by rw [g1, e]⟩
    obtain ⟨z0, h0⟩ := hc 0 (by omega)
    obtain ⟨z1, h1⟩ := hc 1 (by omega)
    obtain ⟨z2, h2⟩ := hc 2 (by omega)
    obtain ⟨z3, h3⟩ := hc 3 (by omega)
    obtain ⟨z4, h4⟩ := hc 4 (by omega)
    obtain ⟨g, o, rfl, _⟩ := plain_cell h0
    exact ⟨g, o, z0, z1, z2, z3, z4, rfl, h0, h1, h2, h3, h4⟩

theorem turns_open {n : Nat} {v0 : Value} {x : DataW H × List MemPlace} (h : DataW.trod enc Tryz.prog w 0 (fun _ => true) held n 25 [v0] = some x) (hw : ∀ k ∈ x.1.weights Tryz.prog 25, k ≤ reachBytes) :
    ∃ (a : Option Addr) (cap : Nat) (ss : List (Int × Int × Int)), v0 = .slice a ss.length cap ∧ TurnsIn w a ss ∧ ss.length ≤ 8796093022208 ∧ ∀ x ∈ ss, fitsI x.1 ∧ fitsI x.2.1 ∧ fitsI x.2.2 := by
  rcases Go.Deep.open_slice Tryz.underlying25 h with ⟨hcs, hx⟩ | ⟨ad, len, cap, m, n', D, Pl, hcs, _, hl, hm, hmm, hx, hc⟩
  · simp at hcs
    exact ⟨none, 0, [], hcs, Or.inl rfl, by simp, fun x hx => by cases hx⟩
  · simp at hcs
    subst hx
    have ce : Tryz.prog.cellsOf 33 = 3 := by kernel_rfl
    have hmc : m = cap := by simpa using hmm
    have h47 : reachBytes = 140737488351232 := by decide
    have hby : Tryz.prog.bytesOf 33 = 24 := by kernel_rfl
    have hlw : len * 24 ≤ reachBytes := by
      have := hw (((List.map D (List.range len)).length + (List.map D ((List.range m).drop len)).length) * Tryz.prog.bytesOf 33) (by simp [DataW.weights, Tryz.underlying25])
      rw [hby, List.length_map, List.length_range] at this
      exact Nat.le_trans (Nat.mul_le_mul_right 24 (Nat.le_add_right len _)) this
    obtain ⟨f, hf⟩ := Go.Deep.choose_lt (α := Int × Int × Int) (n := len) (p := fun i q => w.cell? (ad.add (i * 3)) = some (.int .i64 q.1) ∧ w.cell? (ad.add (i * 3 + 1)) = some (.int .i64 q.2.1) ∧ w.cell? (ad.add (i * 3 + 2)) = some (.int .i64 q.2.2) ∧ fitsI q.1 ∧ fitsI q.2.1 ∧ fitsI q.2.2) (fun i hi => by
      obtain ⟨cs', h1, h2⟩ := hc i (by omega)
      rw [ce] at h1
      obtain ⟨_, hlen, hcell⟩ := World.cells?_some h1
      obtain ⟨xs, k, hk, hxy, _, hxl, hf⟩ := DataW.trod_struct Tryz.underlying33 h2
      match xs, hxl, cs', hlen with
      | [y0, y1, y2], _, [v0, v1, v2], _ =>
        have g0 := hf 0 _ rfl
        have g1 := hf 1 _ rfl
        have g2 := hf 2 _ rfl
        have z3 : Tryz.prog.cellsOf 3 = 1 := by kernel_rfl
        simp [z3] at g0 g1 g2
        have e0 := hcell 0 (by omega)
        have e1 := hcell 1 (by omega)
        have e2 := hcell 2 (by omega)
        rw [Go.Deep.add_add] at e0 e1 e2
        obtain ⟨X0, u0, _, q0⟩ := DataW.trod_int Tryz.underlying3 g0
        obtain ⟨X1, u1, _, q1⟩ := DataW.trod_int Tryz.underlying3 g1
        obtain ⟨X2, u2, _, q2⟩ := DataW.trod_int Tryz.underlying3 g2
        simp only [List.cons.injEq, and_true] at u0 u1 u2
        subst u0 u1 u2
        exact ⟨(X0, X1, X2), by simpa using e0, by simpa using e1, by simpa using e2, q0, q1, q2⟩)
    have hlen : ((List.range len).map f).length = len := by simp
    refine ⟨some ad, cap, (List.range len).map f, by rw [hlen]; exact hcs, ?_, by rw [hlen]; omega, fun x hx => ?_⟩
    · by_cases hz : len = 0
      · left
        subst hz
        rfl
      · right
        obtain ⟨b, o, rfl, hb⟩ := plain_cell (w := w) (a := ad) (v := .int .i64 (f 0).1) (by have := (hf 0 (by omega)).1; simpa using this)
        refine ⟨b, o, rfl, fun j hj => ?_⟩
        have hj' : j < len := by rw [hlen] at hj; exact hj
        have e : ((List.range len).map f)[j] = f j := by simp
        rw [e]
        obtain ⟨c0, c1, c2, ok⟩ := hf j hj'
        rw [addr_add] at c0 c1 c2
        exact ⟨c0, by rw [Nat.add_assoc]; exact c1, by rw [Nat.add_assoc]; exact c2⟩
    · obtain ⟨i, hi, rfl⟩ := List.mem_map.1 hx
      exact (hf i (List.mem_range.1 hi)).2.2.2
theorem overs_open {n : Nat} {v0 : Value} {x : DataW H × List MemPlace} (hf : DataW.trod enc Tryz.prog w 0 (fun _ => true) held n 23 [v0] = some x) :
    ∃ (a : Option Addr) (cap : Nat) (os : List Oc.Ovr), v0 = .slice a os.length cap ∧ Oc.RowO w (.slice a os.length cap) os ∧ ∀ y ∈ os, y.2 < 18446744073709551616 := by
  rcases Go.Deep.open_slice_pairs Tryz.underlying23 Tryz.underlying126 (by kernel_rfl) rfl rfl (by kernel_rfl) (by kernel_rfl) hf with ⟨hcs, hx⟩ | ⟨ad, len, cap, m, n', V0, V1, D0, D1, P0, P1, hcs, _, hl, hm, hmm, hx, hc⟩
  · simp at hcs
    exact ⟨none, 0, [], hcs, Or.inl ⟨rfl, rfl⟩, fun y hy => by cases hy⟩
  · simp at hcs
    have hmc : m = cap := by simpa using hmm
    subst hmc
    obtain ⟨f, hf⟩ := Go.Deep.choose_lt (α := Oc.Ovr) (n := len) (p := fun i q => w.cell? (ad.add (2 * i)) = some (.string q.1) ∧ w.cell? (ad.add (2 * i + 1)) = some (.int .u64 (q.2 : Nat)) ∧ q.1.size ≤ maxLen ∧ q.2 < 18446744073709551616) (fun i hi => by
      obtain ⟨g1, g2, g3, g4⟩ := hc i (by omega)
      obtain ⟨s, e1, _, hs⟩ := DataW.trod_string Tryz.underlying9 g3
      obtain ⟨k, e2, _, hw⟩ := DataW.trod_int Tryz.underlying24 g4
      simp only [List.cons.injEq, and_true] at e1 e2
      obtain ⟨X, rfl, hX⟩ := Op.u64_nat hw
      rw [Nat.mul_comm i 2, e1] at g1
      rw [Nat.mul_comm i 2, e2] at g2
      exact ⟨((s, X) : ByteArray × Nat), g1, g2, hs, hX⟩)
    have hlen : ((List.range len).map f).length = len := by simp
    refine ⟨some ad, m, (List.range len).map f, by rw [hlen]; exact hcs, Or.inr ⟨ad, m, by rw [hlen], by rw [hlen]; exact hl, hm, fun j hj => ?_⟩, fun y hy => ?_⟩
    · have hj' : j < len := by rw [hlen] at hj; exact hj
      have e : ((List.range len).map f)[j] = f j := by simp
      rw [e]
      exact ⟨(hf j hj').1, (hf j hj').2.1, (hf j hj').2.2.1⟩
    · obtain ⟨i, hi, rfl⟩ := List.mem_map.1 hy
      exact (hf i (List.mem_range.1 hi)).2.2.2
theorem open_plan {r : Reach} {b0 : Nat} {v : Value} {d : DataW H} {q : List MemPlace} (hv : Value.okWide Tryz.prog w r b0 27 v) (h : DataW.Trod enc Tryz.prog w 0 (fun _ => true) held 27 v d q) (hw : ∀ k ∈ d.weights Tryz.prog 27, k ≤ reachBytes) :
    ∃ (a : Option Addr) (len cap : Nat) (oa : Option Addr) (oc : Nat) (os : List Oc.Ovr) (seed : Nat) (ta : Option Addr) (tc : Nat) (ss : List (Int × Int × Int)), v = .agg #[.slice a len cap, .slice oa os.length oc, .int .u64 (seed : Int), .slice ta ss.length tc] ∧ (len = 5 → Five w a) ∧ Oc.RowO w (.slice oa os.length oc) os ∧ (∀ y ∈ os, y.2 < 18446744073709551616) ∧ seed < 18446744073709551616 ∧ TurnsIn w ta ss ∧ ss.length ≤ 8796093022208 ∧ ∀ x ∈ ss, fitsI x.1 ∧ fitsI x.2.1 ∧ fitsI x.2.2 := by
  obtain ⟨cs, rfl, hsz⟩ := okWide_struct Tryz.underlying27 hv
  obtain ⟨c0, c1, c2, c3, rfl⟩ := array4 (hsz.trans (by kernel_rfl))
  obtain ⟨fuel, hf0⟩ := h
  have hf1 : DataW.trod enc Tryz.prog w 0 (fun _ => true) held fuel 27 [c0, c1, c2, c3] = some (d, q) := by simpa [Value.cells] using hf0
  obtain ⟨xs, m, _, hx, hl, hlen, hf⟩ := DataW.trod_struct Tryz.underlying27 hf1
  have hlen4 : xs.length = 4 := hlen
  have cI : Tryz.prog.cellsOf 22 = 1 := by kernel_rfl
  have cO : Tryz.prog.cellsOf 23 = 1 := by kernel_rfl
  have cU : Tryz.prog.cellsOf 24 = 1 := by kernel_rfl
  have cT : Tryz.prog.cellsOf 25 = 1 := by kernel_rfl
  match xs, hlen4 with
  | [y0, y1, y2, y3], _ =>
    have f0 : DataW.trod enc Tryz.prog w 0 (fun _ => true) held m 22 (([c0, c1, c2, c3].drop 0).take (Tryz.prog.cellsOf 22)) = some y0 := hf 0 _ rfl
    have f1 : DataW.trod enc Tryz.prog w 0 (fun _ => true) held m 23 (([c0, c1, c2, c3].drop 1).take (Tryz.prog.cellsOf 23)) = some y1 := hf 1 _ rfl
    have f2 : DataW.trod enc Tryz.prog w 0 (fun _ => true) held m 24 (([c0, c1, c2, c3].drop 2).take (Tryz.prog.cellsOf 24)) = some y2 := hf 2 _ rfl
    have f3 : DataW.trod enc Tryz.prog w 0 (fun _ => true) held m 25 (([c0, c1, c2, c3].drop 3).take (Tryz.prog.cellsOf 25)) = some y3 := hf 3 _ rfl
    rw [cI] at f0
    rw [cO] at f1
    rw [cU] at f2
    rw [cT] at f3
    have hd : d = DataW.agg [y0.1, y1.1, y2.1, y3.1] := by
      have := congrArg Prod.fst hx
      simpa using this
    subst hd
    have w3 : ∀ k ∈ y3.1.weights Tryz.prog 25, k ≤ reachBytes := fun k hk => hw k (by
      simp only [DataW.weights, Tryz.underlying27]
      exact DataW.weights_mem_each (j := 3) (t := 25) (d := y3.1) rfl rfl _ hk)
    obtain ⟨a, len, cap, e0, h5⟩ := fields_open f0
    obtain ⟨oa, oc, os, e1, H1, u1⟩ := overs_open f1
    obtain ⟨k2, e2, q2, z2⟩ := DataW.trod_int Tryz.underlying24 f2
    obtain ⟨seed, rfl, hsd⟩ := Op.u64_nat z2
    obtain ⟨ta, tc, ss, e3, H3, n3, u3⟩ := turns_open f3 w3
    simp at e2
    exact ⟨a, len, cap, oa, oc, os, seed, ta, tc, ss, by rw [e0, e1, e2, e3], h5, H1, u1, hsd, H3, n3, u3⟩
end
/-- The reference's Parse of what came in. -/
theorem parse_in {w : World} {a : Option Addr} {len cap : Nat} (h : len = 5 → Five w a) : ∃ (l : Lay) (E : Int), (E = 0 → validB l = true) ∧ ∀ W, Keeps w W (fun _ => False) → Calls Tryz.prog 13 #[.slice a len cap] W fun r w' => r = .returned (.tuple #[l.val, .int .i64 E]) ∧ Keeps W w' (fun _ => False) := by
  by_cases h5 : len = 5
  · obtain ⟨g, o, k, e, x, b, c, rfl, h0, h1, h2, h3, h4⟩ := h h5
    subst h5
    refine ⟨(Ly.parseD [k, e, x, b, c]).1, (Ly.parseD [k, e, x, b, c]).2, fun hE => ?_, fun W q => ?_⟩
    · by_cases hN : Ly.errN k e x b c = 0
      · have hP : Ly.parseD [k, e, x, b, c] = (Ly.laidD k e x b c, 0) := if_pos hN
        rw [hP]
        exact decide_eq_true ⟨hN, rfl⟩
      · have hP : Ly.parseD [k, e, x, b, c] = (Ly.Lay.zero, Ly.errN k e x b c) := if_neg hN
        rw [hP] at hE
        exact absurd hE hN
    · have hc : ∀ j v, w.cell? ⟨g, j, none⟩ = some v → W.cell? ⟨g, j, none⟩ = some v := fun j v hj => keeps_cell q id hj
      refine (Ly.ref_parse_five g o cap k e x b c W (hc _ _ h0) (hc _ _ h1) (hc _ _ h2) (hc _ _ h3) (hc _ _ h4)).mono ?_
      rintro r w' ⟨rfl, kp⟩
      exact ⟨rfl, Keeps.ofKp kp⟩
  · refine ⟨Ly.Lay.zero, 30, fun hE => by omega, fun W q => ?_⟩
    refine (Ly.ref_parse_wrong a len cap W h5).mono ?_
    rintro r w' ⟨rfl, kp⟩
    exact ⟨rfl, Keeps.ofKp kp⟩
theorem mapN_lt {os : List Oc.Ovr} (h : ∀ y ∈ os, y.2 < 18446744073709551616) : ∀ n, n ≤ os.length → ∀ k x, Oc.mapN os n k = some x → x < 18446744073709551616
  | 0, _, k, x, e => by cases e
  | n + 1, hn, k, x, e => by
    rw [Oc.mapN_succ os n (by omega)] at e
    unfold Oc.updS at e
    split at e
    · cases e
      exact h _ (List.getElem_mem _)
    · exact mapN_lt h n (by omega) k x e
end Go.Proofs.YtgckinldnnckoaaGreatDoor
