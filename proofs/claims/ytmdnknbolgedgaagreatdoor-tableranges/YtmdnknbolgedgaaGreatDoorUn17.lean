import Derived.Deep.QuietTactic
import Derived.BigQuiet
import Derived.Test.YtmdnknbolgedgaaGreatDoorUn16
namespace Go.Proofs.YtmdnknbolgedgaaGreatDoor.Ly
open Go.RowKit

theorem ref_parse_wrong (v : Option Addr) (n cap : Nat) (w : World) (h : n ≠ 5) :
    Calls Tryz.prog 9 #[.slice v n cap] w fun r w' => r = .returned (.tuple #[Lay.zero.val, .int .i64 30]) ∧ Kp w w' := by
  have h' : ((n : Int) != 5) = true := by simp; omega
  go_enter Tryz.func9, Tryz.ntmps9
  go_wp2_with fail
  refine bodyPost_ret (v := .tuple #[Lay.zero.val, .int .i64 30]) (by simp [results, Tryz.results9, go_sem, Lay.val, Lay.zero]) rfl ⟨rfl, ?_⟩
  repeat first | exact Below.refl _ _ | refine Below.alloc ?_ (by simp <;> omega) _ | refine Below.setCell ?_ (by simp <;> omega) _

theorem alloc_any {w : World} {o : Obj} {P : World → Prop} (h : ∀ W, W.heap[w.heap.size]? = some o → Kp w W → P W) : P (w.alloc o) := h _ (heap_new _ _) ((Kp.refl w).alloc _)

set_option maxHeartbeats 8000000 in
theorem ref_parse_err (g o cap : Nat) (k e a b c : Int) (w : World) (h0 : w.cell? ⟨g, o, none⟩ = some (.int .i64 k)) (h1 : w.cell? ⟨g, o + 1, none⟩ = some (.int .i64 e))
    (h2 : w.cell? ⟨g, o + 2, none⟩ = some (.int .i64 a)) (h3 : w.cell? ⟨g, o + 3, none⟩ = some (.int .i64 b)) (h4 : w.cell? ⟨g, o + 4, none⟩ = some (.int .i64 c)) (hE : ¬ errN k e a b c = 0) :
    Calls Tryz.prog 9 #[.slice (some ⟨g, o, none⟩) 5 cap] w fun r w' => r = .returned (.tuple #[Lay.zero.val, .int .i64 (errN k e a b c)]) ∧ Kp w w' := by
  have hg : g < w.heap.size := by
    refine Nat.lt_of_not_le fun hn => ?_
    rw [World.cell?, Array.getElem?_eq_none hn] at h0
    cases h0
  by_cases hk : k < 1 ∨ 128 < k
  · have he : errN k e a b c = 31 := by unfold errN; rw [if_pos hk]
    rw [he]
    clear hE he
    rcases hk with hk | hk
    · go_enter Tryz.func9, Tryz.ntmps9
      go_wp2_with fail
      refine bodyPost_ret (v := .tuple #[Lay.zero.val, .int .i64 31]) (by simp [results, Tryz.results9, go_sem, Lay.val, Lay.zero]) rfl ⟨rfl, ?_⟩
      repeat first | exact Below.refl _ _ | refine Below.alloc ?_ (by simp <;> omega) _ | refine Below.setCell ?_ (by simp <;> omega) _
    · have hk' : ¬ k < 1 := by omega
      go_enter Tryz.func9, Tryz.ntmps9
      go_wp2_with fail
      refine bodyPost_ret (v := .tuple #[Lay.zero.val, .int .i64 31]) (by simp [results, Tryz.results9, go_sem, Lay.val, Lay.zero]) rfl ⟨rfl, ?_⟩
      repeat first | exact Below.refl _ _ | refine Below.alloc ?_ (by simp <;> omega) _ | refine Below.setCell ?_ (by simp <;> omega) _
  have hk1 : ¬ k < 1 := fun h => hk (Or.inl h)
  have hk2 : ¬ 128 < k := fun h => hk (Or.inr h)
  by_cases hm : e < 0 ∨ 128 < e
  · have he : errN k e a b c = 32 := by unfold errN; rw [if_neg hk, if_pos hm]
    rw [he]
    clear hE he hk
    rcases hm with hm | hm
    · go_enter Tryz.func9, Tryz.ntmps9
      go_wp2_with fail
      refine bodyPost_ret (v := .tuple #[Lay.zero.val, .int .i64 32]) (by simp [results, Tryz.results9, go_sem, Lay.val, Lay.zero]) rfl ⟨rfl, ?_⟩
      repeat first | exact Below.refl _ _ | refine Below.alloc ?_ (by simp <;> omega) _ | refine Below.setCell ?_ (by simp <;> omega) _
    · have hm' : ¬ e < 0 := by omega
      go_enter Tryz.func9, Tryz.ntmps9
      go_wp2_with fail
      refine bodyPost_ret (v := .tuple #[Lay.zero.val, .int .i64 32]) (by simp [results, Tryz.results9, go_sem, Lay.val, Lay.zero]) rfl ⟨rfl, ?_⟩
      repeat first | exact Below.refl _ _ | refine Below.alloc ?_ (by simp <;> omega) _ | refine Below.setCell ?_ (by simp <;> omega) _
  have hm1 : ¬ e < 0 := fun h => hm (Or.inl h)
  have hm2 : ¬ 128 < e := fun h => hm (Or.inr h)
  have hA := fun W => ref_fits k a W (by omega) (by omega)
  have hB := fun W => ref_fits e b W (by omega) (by omega)
  have hC := fun W => ref_powerCap c W
  cases hqa : al k a
  · have he : errN k e a b c = 33 := by unfold errN; rw [if_neg hk, if_neg hm, if_pos (Or.inl hqa)]
    rw [he]
    simp only [hqa] at hA
    clear hk hm hC hqa he hE
    go_enter Tryz.func9, Tryz.ntmps9
    go_wp2_with fail
    refine alloc_any (P := fun W => Code.wp _ _ _ _ W) fun W hB0 kW => ?_
    replace h0 := kW.cell h0
    replace h1 := kW.cell h1
    replace h2 := kW.cell h2
    replace h3 := kW.cell h3
    replace h4 := kW.cell h4
    obtain ⟨b0, b1, b2, b3, b4, b5, b6, b7, b8, f0, f1, f2, f3, f4, f5, f6, f7, f8⟩ := (Kp.refl W).nine hB0
    go_region_held3 (fun w' => w'.cell? ⟨g, o, none⟩ = some (.int .i64 k) ∧ w'.cell? ⟨g, o + 1, none⟩ = some (.int .i64 e) ∧ w'.cell? ⟨g, o + 2, none⟩ = some (.int .i64 a) ∧ w'.cell? ⟨g, o + 3, none⟩ = some (.int .i64 b) ∧ w'.cell? ⟨g, o + 4, none⟩ = some (.int .i64 c)) (go_keep) (first | (go_at_call 32; refine (hA _).mono ?_; rintro r w5 ⟨rfl, rfl⟩))
    go_wp2_with fail
    go_region_held3 (fun w' => w'.cell? ⟨g, o, none⟩ = some (.int .i64 k) ∧ w'.cell? ⟨g, o + 1, none⟩ = some (.int .i64 e) ∧ w'.cell? ⟨g, o + 2, none⟩ = some (.int .i64 a) ∧ w'.cell? ⟨g, o + 3, none⟩ = some (.int .i64 b) ∧ w'.cell? ⟨g, o + 4, none⟩ = some (.int .i64 c)) (go_keep) (first | (go_at_call 32; refine (hB _).mono ?_; rintro r w5 ⟨rfl, rfl⟩))
    go_wp2_with fail
    clear b0 b1 b2 b3 b4 b5 b6 b7 b8 f0 f1 f2 f3 f4 f5 f6 f7 f8
    refine nine_set hB0 kW (Nat.le_refl _) (P := fun w9 => bodyPost _ _ _ _ _ w9.drew.drew) fun w9 h9 k9 => ?_
    obtain ⟨b0, b1, b2, b3, b4, b5, b6, b7, b8, -⟩ := (Kp.refl (w9.drew.drew)).nine h9
    refine bodyPost_ret (v := .tuple #[Lay.zero.val, .int .i64 33]) (by simp [results, Tryz.results9, go_sem, Lay.val, Lay.zero, b0, b1, b2, b3, b4, b5, b6, b7, b8]) rfl ⟨rfl, k9.drew.drew⟩
  cases hqb : al e b
  · have he : errN k e a b c = 33 := by unfold errN; rw [if_neg hk, if_neg hm, if_pos (Or.inr hqb)]
    rw [he]
    simp only [hqa] at hA
    simp only [hqb] at hB
    clear hk hm hC hqa hqb he hE
    go_enter Tryz.func9, Tryz.ntmps9
    go_wp2_with fail
    refine alloc_any (P := fun W => Code.wp _ _ _ _ W) fun W hB0 kW => ?_
    replace h0 := kW.cell h0
    replace h1 := kW.cell h1
    replace h2 := kW.cell h2
    replace h3 := kW.cell h3
    replace h4 := kW.cell h4
    obtain ⟨b0, b1, b2, b3, b4, b5, b6, b7, b8, f0, f1, f2, f3, f4, f5, f6, f7, f8⟩ := (Kp.refl W).nine hB0
    go_region_held3 (fun w' => w'.cell? ⟨g, o, none⟩ = some (.int .i64 k) ∧ w'.cell? ⟨g, o + 1, none⟩ = some (.int .i64 e) ∧ w'.cell? ⟨g, o + 2, none⟩ = some (.int .i64 a) ∧ w'.cell? ⟨g, o + 3, none⟩ = some (.int .i64 b) ∧ w'.cell? ⟨g, o + 4, none⟩ = some (.int .i64 c)) (go_keep) (first | (go_at_call 32; refine (hA _).mono ?_; rintro r w5 ⟨rfl, rfl⟩))
    go_wp2_with fail
    go_region_held3 (fun w' => w'.cell? ⟨g, o, none⟩ = some (.int .i64 k) ∧ w'.cell? ⟨g, o + 1, none⟩ = some (.int .i64 e) ∧ w'.cell? ⟨g, o + 2, none⟩ = some (.int .i64 a) ∧ w'.cell? ⟨g, o + 3, none⟩ = some (.int .i64 b) ∧ w'.cell? ⟨g, o + 4, none⟩ = some (.int .i64 c)) (go_keep) (first | (go_at_call 32; refine (hB _).mono ?_; rintro r w5 ⟨rfl, rfl⟩))
    go_wp2_with fail
    clear b0 b1 b2 b3 b4 b5 b6 b7 b8 f0 f1 f2 f3 f4 f5 f6 f7 f8
    refine nine_set hB0 kW (Nat.le_refl _) (P := fun w9 => bodyPost _ _ _ _ _ w9.drew.drew) fun w9 h9 k9 => ?_
    obtain ⟨b0, b1, b2, b3, b4, b5, b6, b7, b8, -⟩ := (Kp.refl (w9.drew.drew)).nine h9
    refine bodyPost_ret (v := .tuple #[Lay.zero.val, .int .i64 33]) (by simp [results, Tryz.results9, go_sem, Lay.val, Lay.zero, b0, b1, b2, b3, b4, b5, b6, b7, b8]) rfl ⟨rfl, k9.drew.drew⟩
  have hno : ¬ (al k a = false ∨ al e b = false) := by rw [hqa, hqb]; simp
  cases hqc : pw c 16 1024
  · have he : errN k e a b c = 34 := by unfold errN; rw [if_neg hk, if_neg hm, if_neg hno, if_pos hqc]
    rw [he]
    simp only [hqa] at hA
    simp only [hqb] at hB
    simp only [hqc] at hC
    clear hk hm hno hqa hqb hqc he hE
    go_enter Tryz.func9, Tryz.ntmps9
    go_wp2_with fail
    refine alloc_any (P := fun W => Code.wp _ _ _ _ W) fun W hB0 kW => ?_
    replace h0 := kW.cell h0
    replace h1 := kW.cell h1
    replace h2 := kW.cell h2
    replace h3 := kW.cell h3
    replace h4 := kW.cell h4
    obtain ⟨b0, b1, b2, b3, b4, b5, b6, b7, b8, f0, f1, f2, f3, f4, f5, f6, f7, f8⟩ := (Kp.refl W).nine hB0
    go_region_held3 (fun w' => w'.cell? ⟨g, o, none⟩ = some (.int .i64 k) ∧ w'.cell? ⟨g, o + 1, none⟩ = some (.int .i64 e) ∧ w'.cell? ⟨g, o + 2, none⟩ = some (.int .i64 a) ∧ w'.cell? ⟨g, o + 3, none⟩ = some (.int .i64 b) ∧ w'.cell? ⟨g, o + 4, none⟩ = some (.int .i64 c)) (go_keep) (first | (go_at_call 32; refine (hA _).mono ?_; rintro r w5 ⟨rfl, rfl⟩))
    go_wp2_with fail
    go_region_held3 (fun w' => w'.cell? ⟨g, o, none⟩ = some (.int .i64 k) ∧ w'.cell? ⟨g, o + 1, none⟩ = some (.int .i64 e) ∧ w'.cell? ⟨g, o + 2, none⟩ = some (.int .i64 a) ∧ w'.cell? ⟨g, o + 3, none⟩ = some (.int .i64 b) ∧ w'.cell? ⟨g, o + 4, none⟩ = some (.int .i64 c)) (go_keep) (first | (go_at_call 32; refine (hB _).mono ?_; rintro r w5 ⟨rfl, rfl⟩))
    go_wp2_with fail
    refine (hC _).mono ?_
    rintro r w5 ⟨rfl, rfl⟩
    go_wp2_with fail
    clear b0 b1 b2 b3 b4 b5 b6 b7 b8 f0 f1 f2 f3 f4 f5 f6 f7 f8
    refine nine_set hB0 kW (Nat.le_refl _) (P := fun w9 => bodyPost _ _ _ _ _ w9.drew.drew) fun w9 h9 k9 => ?_
    obtain ⟨b0, b1, b2, b3, b4, b5, b6, b7, b8, -⟩ := (Kp.refl (w9.drew.drew)).nine h9
    refine bodyPost_ret (v := .tuple #[Lay.zero.val, .int .i64 34]) (by simp [results, Tryz.results9, go_sem, Lay.val, Lay.zero, b0, b1, b2, b3, b4, b5, b6, b7, b8]) rfl ⟨rfl, k9.drew.drew⟩
  · have he : errN k e a b c = 0 := by unfold errN; rw [if_neg hk, if_neg hm, if_neg hno, if_neg (by rw [hqc]; simp)]
    exact absurd he hE

set_option maxHeartbeats 8000000 in
theorem ref_parse_ok (g o cap : Nat) (k e a b c : Int) (w : World) (h0 : w.cell? ⟨g, o, none⟩ = some (.int .i64 k)) (h1 : w.cell? ⟨g, o + 1, none⟩ = some (.int .i64 e))
    (h2 : w.cell? ⟨g, o + 2, none⟩ = some (.int .i64 a)) (h3 : w.cell? ⟨g, o + 3, none⟩ = some (.int .i64 b)) (h4 : w.cell? ⟨g, o + 4, none⟩ = some (.int .i64 c)) (hE : errN k e a b c = 0) :
    Calls Tryz.prog 9 #[.slice (some ⟨g, o, none⟩) 5 cap] w fun r w' => r = .returned (.tuple #[(laidD k e a b c).val, .int .i64 0]) ∧ Kp w w' := by
  obtain ⟨e1, e2, e3, e4, e5, e6, e7⟩ := errN_zero hE
  have hbb := (al_one e6).1
  have sb := slot_bound e1 e2 e3 e4 hbb
  have hA := fun W => ref_fits k a W (by omega) (by omega)
  have hB := fun W => ref_fits e b W (by omega) (by omega)
  have hC := fun W => ref_powerCap c W
  have hR := fun W => ref_raised k b W (by omega) (by omega) hbb
  have hR2 := fun W => ref_raised (up k b + e) 8 W (by omega) (by omega) (by omega)
  simp only [e5] at hA
  simp only [e6] at hB
  simp only [e7] at hC
  have hk1 : ¬ k < 1 := by omega
  have hk2 : ¬ 128 < k := by omega
  have hm1 : ¬ e < 0 := by omega
  have hm2 : ¬ 128 < e := by omega
  have hg : g < w.heap.size := by
    refine Nat.lt_of_not_le fun hn => ?_
    rw [World.cell?, Array.getElem?_eq_none hn] at h0
    cases h0
  have hL : Hid ((laidD k e a b c).val = .agg #[.int .i64 k, .int .i64 e, .int .i64 a, .int .i64 b, .int .i64 c, .int .i64 (up k b), .int .i64 (up (up k b + e) 8), .int .i64 (up (up k b + e) 8 + 8), .int .i64 (8 + 8 * (up (up k b + e) 8 + 8))]) := rfl
  generalize (laidD k e a b c).val = LV at *
  generalize up k b = X at *
  generalize up (X + e) 8 = Y at *
  have s1 : 1 ≤ X := sb.1
  have s2 : X ≤ 135 := sb.2.1
  have s3 : 1 ≤ Y := sb.2.2.1
  have s4 : Y ≤ 270 := sb.2.2.2.1
  clear sb hE e5 e6 e7 hbb
  go_enter Tryz.func9, Tryz.ntmps9
  go_wp2_with fail
  refine alloc_any (P := fun W => Code.wp _ _ _ _ W) fun W hB0 kW => ?_
  replace h0 := kW.cell h0
  replace h1 := kW.cell h1
  replace h2 := kW.cell h2
  replace h3 := kW.cell h3
  replace h4 := kW.cell h4
  obtain ⟨b0, b1, b2, b3, b4, b5, b6, b7, b8, f0, f1, f2, f3, f4, f5, f6, f7, f8⟩ := (Kp.refl W).nine hB0
  go_region_held3 (fun w' => w'.cell? ⟨g, o, none⟩ = some (.int .i64 k) ∧ w'.cell? ⟨g, o + 1, none⟩ = some (.int .i64 e) ∧ w'.cell? ⟨g, o + 2, none⟩ = some (.int .i64 a) ∧ w'.cell? ⟨g, o + 3, none⟩ = some (.int .i64 b) ∧ w'.cell? ⟨g, o + 4, none⟩ = some (.int .i64 c)) (go_keep) (first | (go_at_call 32; refine (hA _).mono ?_; rintro r w5 ⟨rfl, rfl⟩))
  go_wp2_with fail
  go_region_held3 (fun w' => w'.cell? ⟨g, o, none⟩ = some (.int .i64 k) ∧ w'.cell? ⟨g, o + 1, none⟩ = some (.int .i64 e) ∧ w'.cell? ⟨g, o + 2, none⟩ = some (.int .i64 a) ∧ w'.cell? ⟨g, o + 3, none⟩ = some (.int .i64 b) ∧ w'.cell? ⟨g, o + 4, none⟩ = some (.int .i64 c)) (go_keep) (first | (go_at_call 32; refine (hB _).mono ?_; rintro r w5 ⟨rfl, rfl⟩))
  go_wp2_with fail
  refine (hC _).mono ?_
  rintro r w5 ⟨rfl, rfl⟩
  go_wp2_with fail
  go_region_held3 (fun w' => w'.cell? ⟨g, o, none⟩ = some (.int .i64 k) ∧ w'.cell? ⟨g, o + 1, none⟩ = some (.int .i64 e) ∧ w'.cell? ⟨g, o + 2, none⟩ = some (.int .i64 a) ∧ w'.cell? ⟨g, o + 3, none⟩ = some (.int .i64 b) ∧ w'.cell? ⟨g, o + 4, none⟩ = some (.int .i64 c)) (go_keep) (fail)
  refine alloc_any (w := W) (P := fun Z => Exit.then _ _ _ _ Z.drew.drew.drew) fun Z hZ kZ => ?_
  have hBZ := kZ.blk hB0
  have kwZ := kW.trans kZ
  have hne : W.heap.size ≠ w.heap.size := by
    have := (Array.getElem?_eq_some_iff.1 hB0).1
    omega
  have hle : w.heap.size ≤ W.heap.size := kW.size
  clear hA hB hC h0 h1 h2 h3 h4 b0 b1 b2 b3 b4 b5 b6 b7 b8 f0 f1 f2 f3 f4 f5 f6 f7 f8 kZ kW hB0
  generalize W.heap.size = lb at *
  obtain ⟨b0, b1, b2, b3, b4, b5, b6, b7, b8, f0, f1, f2, f3, f4, f5, f6, f7, f8⟩ := (Kp.refl Z).nine hZ
  go_wp2_with fail
  refine (hR _).mono ?_
  rintro r w5 ⟨rfl, rfl⟩
  go_wp2_with fail
  refine (hR2 _).mono ?_
  rintro r w5 ⟨rfl, rfl⟩
  go_wp2_with fail
  have hZ4 : ((((Z.setCell ⟨lb, 5, none⟩ (.int .i64 X)).setCell ⟨lb, 6, none⟩ (.int .i64 Y)).setCell ⟨lb, 7, none⟩ (.int .i64 (Y + 8))).setCell ⟨lb, 8, none⟩ (.int .i64 8)).heap[lb]? = some (.cells #[.int .i64 k, .int .i64 e, .int .i64 a, .int .i64 b, .int .i64 c, .int .i64 X, .int .i64 Y, .int .i64 (Y + 8), .int .i64 8] 27) :=
    set_one (set_one (set_one (set_one hZ 5 _ (by simp)) 6 _ (by simp)) 7 _ (by simp)) 8 _ (by simp)
  have hB4 : ((((Z.setCell ⟨lb, 5, none⟩ (.int .i64 X)).setCell ⟨lb, 6, none⟩ (.int .i64 Y)).setCell ⟨lb, 7, none⟩ (.int .i64 (Y + 8))).setCell ⟨lb, 8, none⟩ (.int .i64 8)).heap[w.heap.size]? = some (.cells #[.int .i64 0, .int .i64 0, .int .i64 0, .int .i64 0, .int .i64 0, .int .i64 0, .int .i64 0, .int .i64 0, .int .i64 0] 27) := by
    rw [Below.heap_setCell _ _ _ _ (Ne.symm hne), Below.heap_setCell _ _ _ _ (Ne.symm hne), Below.heap_setCell _ _ _ _ (Ne.symm hne), Below.heap_setCell _ _ _ _ (Ne.symm hne)]
    exact hBZ
  have k4 : Kp w ((((Z.setCell ⟨lb, 5, none⟩ (.int .i64 X)).setCell ⟨lb, 6, none⟩ (.int .i64 Y)).setCell ⟨lb, 7, none⟩ (.int .i64 (Y + 8))).setCell ⟨lb, 8, none⟩ (.int .i64 8)) :=
    Below.setCell (Below.setCell (Below.setCell (Below.setCell kwZ hle _) hle _) hle _) hle _
  clear hZ hBZ kwZ b0 b1 b2 b3 b4 b5 b6 b7 b8 f0 f1 f2 f3 f4 f5 f6 f7 f8 hR hR2
  go_loopw [8] (fun v wr => ∃ (i : Nat) (G : Int), v = .int .i64 (i : Int) ∧ i ≤ 8 ∧ Hid (G = 8 + i * (Y + 8)) ∧ 0 ≤ G ∧ G ≤ 8 + 278 * i ∧ wr.heap[lb]? = some (.cells #[.int .i64 k, .int .i64 e, .int .i64 a, .int .i64 b, .int .i64 c, .int .i64 X, .int .i64 Y, .int .i64 (Y + 8), .int .i64 G] 27) ∧ wr.heap[w.heap.size]? = some (.cells #[.int .i64 0, .int .i64 0, .int .i64 0, .int .i64 0, .int .i64 0, .int .i64 0, .int .i64 0, .int .i64 0, .int .i64 0] 27) ∧ Kp w wr) (fun v _ => 8 - (intOf v).toNat)
  case atStart => exact ⟨0, 8, rfl, by omega, (by simp : (8 : Int) = 8 + ((0 : Nat) : Int) * (Y + 8)), by omega, by omega, hZ4, hB4, k4.drew.drew.drew⟩
  case round =>
    obtain ⟨i, G, rfl, hi, hG, G0, G1, hl, hz, kr⟩ := hrel
    clear hZ4 hB4 k4
    obtain ⟨b0, b1, b2, b3, b4, b5, b6, b7, b8, f0, f1, f2, f3, f4, f5, f6, f7, f8⟩ := (Kp.refl wr).nine hl
    by_cases h8 : i < 8
    · have h8' : (i : Int) < 8 := by omega
      go_wp2_with fail
      go_roundw
      case rel =>
        refine ⟨i + 1, G + (Y + 8), rfl, by omega, ?_, by omega, by omega, set_one hl 8 _ (by simp), ?_, Below.setCell kr hle _⟩
        · show G + (Y + 8) = _
          rw [hG.out]
          push_cast
          rw [Int.add_mul]
          omega
        · rw [Below.heap_setCell _ _ _ _ (Ne.symm hne)]
          exact hz
      case measure => simp [intOf]; omega
    · have h8' : ¬ (i : Int) < 8 := by omega
      have hi8 : i = 8 := by omega
      subst hi8
      obtain ⟨d0, d1, d2, d3, d4, d5, d6, d7, d8, g0, g1, g2, g3, g4, g5, g6, g7, g8⟩ := (Kp.refl wr).nine hz
      go_wp2_with fail
      refine nine_set hz kr (Nat.le_refl _) (P := fun w9 => bodyPost _ _ _ _ _ w9) fun w9 h9 k9 => ?_
      obtain ⟨u0, u1, u2, u3, u4, u5, u6, u7, u8, -⟩ := (Kp.refl w9).nine h9
      refine bodyPost_ret (v := .tuple #[LV, .int .i64 0]) (by rw [hL.out, show 8 + 8 * (Y + 8) = G by rw [hG.out]; rfl]; simp [results, Tryz.results9, go_sem, u0, u1, u2, u3, u4, u5, u6, u7, u8]) rfl ⟨rfl, k9⟩

theorem ref_parse_five (g o cap : Nat) (k e a b c : Int) (w : World) (h0 : w.cell? ⟨g, o, none⟩ = some (.int .i64 k)) (h1 : w.cell? ⟨g, o + 1, none⟩ = some (.int .i64 e))
    (h2 : w.cell? ⟨g, o + 2, none⟩ = some (.int .i64 a)) (h3 : w.cell? ⟨g, o + 3, none⟩ = some (.int .i64 b)) (h4 : w.cell? ⟨g, o + 4, none⟩ = some (.int .i64 c)) :
    Calls Tryz.prog 9 #[.slice (some ⟨g, o, none⟩) 5 cap] w fun r w' => r = .returned (.tuple #[(parseD [k, e, a, b, c]).1.val, .int .i64 (parseD [k, e, a, b, c]).2]) ∧ Kp w w' := by
  by_cases hE : errN k e a b c = 0
  · have hP : parseD [k, e, a, b, c] = (laidD k e a b c, 0) := if_pos hE
    rw [hP]
    exact ref_parse_ok g o cap k e a b c w h0 h1 h2 h3 h4 hE
  · have hP : parseD [k, e, a, b, c] = (Lay.zero, errN k e a b c) := if_neg hE
    rw [hP]
    exact ref_parse_err g o cap k e a b c w h0 h1 h2 h3 h4 hE
end Go.Proofs.YtmdnknbolgedgaaGreatDoor.Ly
/-
  The law's bench: a new table for a plan (made by genbench.py).
-/
namespace Go.Proofs.YtmdnknbolgedgaaGreatDoor
open Go.RowKit Go.Shelf Ly Ct
set_option linter.unusedVariables false

def chk10 (n : Nat) : Bool := decide (n < 8) || !(decide (bits BinOp.and IntKind.i64 (n : Int) ((n : Int) - 1) = 0)) || [8, 16, 32, 64, 128, 256, 512, 1024].contains n
theorem chk10_all : ∀ n : Nat, n < 1025 → chk10 n = true := by decide +kernel
theorem pow10 (n : Nat) (h : n < 1025) (h8 : 8 ≤ n) (hb : bits BinOp.and IntKind.i64 (n : Int) ((n : Int) - 1) = 0) : n = 8 ∨ n = 16 ∨ n = 32 ∨ n = 64 ∨ n = 128 ∨ n = 256 ∨ n = 512 ∨ n = 1024 := by
  have hc := chk10_all n h
  unfold chk10 at hc
  rw [decide_eq_false (by omega), decide_eq_true hb] at hc
  simpa using hc
theorem pow10' {S : Int} (h8 : 8 ≤ S) (h2 : S ≤ 1024) (h : bits BinOp.and IntKind.i64 S (S - 1) = 0) : ∃ j G : Nat, j ≤ 7 ∧ G = 2 ^ j ∧ S = ((8 * G : Nat) : Int) := by
  obtain ⟨n, rfl⟩ := Int.eq_ofNat_of_zero_le (show 0 ≤ S by omega)
  rcases pow10 n (by omega) (by omega) h with rfl | rfl | rfl | rfl | rfl | rfl | rfl | rfl
  · exact ⟨0, 1, by omega, rfl, rfl⟩
  · exact ⟨1, 2, by omega, rfl, rfl⟩
  · exact ⟨2, 4, by omega, rfl, rfl⟩
  · exact ⟨3, 8, by omega, rfl, rfl⟩
  · exact ⟨4, 16, by omega, rfl, rfl⟩
  · exact ⟨5, 32, by omega, rfl, rfl⟩
  · exact ⟨6, 64, by omega, rfl, rfl⟩
  · exact ⟨7, 128, by omega, rfl, rfl⟩
theorem wrapT {S : Int} (h8 : ¬ S < 8) (h2 : ¬ 1024 < S) : IntKind.i64.wrap (S - 1) = S - 1 ∧ wrap64 (S - 1) = S - 1 := by
  constructor
  · rw [IntKind.wrap_i64]; omega
  · unfold wrap64; omega
set_option maxRecDepth 100000 in
set_option maxHeartbeats 4000000 in
theorem bench_no0 (fs ts : Value) (S : Int) (ha : Option Addr) (nh hc : Nat) (l : Lay) (E : Int) (w : World) (hPar : ∀ W, Keeps w W (fun _ => False) → Calls Tryz.prog 9 #[fs] W fun r w' => r = .returned (.tuple #[.agg #[.int .i64 l.k, .int .i64 l.e, .int .i64 l.a, .int .i64 l.b, .int .i64 l.c, .int .i64 l.eo, .int .i64 l.bo, .int .i64 l.s, .int .i64 l.g], .int .i64 E]) ∧ Keeps W w' (fun _ => False)) (h0 : E ≠ 0) :
    Calls Tryz.prog 18 #[.agg #[fs, .int .i64 S, .slice ha nh hc, ts]] w fun e w' => e = .returned (.tuple #[.pointer none, .bool true, .bool false]) ∧ Keeps w w' (fun _ => False) := by
  have e0 : (E != 0) = true := by simp [h0]
  go_enter Tryz.func18, Tryz.ntmps18
  go_wp2_with fail
  refine alloc1 (P := fun W => Calls _ _ _ W _) fun W0 hb hz K0 => ?_
  (with_reducible refine (hPar _ K0).mono ?_)
  rintro r w1 ⟨rfl, k1⟩
  have k2 : Keeps w1 (w1.alloc (.cells #[.int .i64 l.k, .int .i64 l.e, .int .i64 l.a, .int .i64 l.b, .int .i64 l.c, .int .i64 l.eo, .int .i64 l.bo, .int .i64 l.s, .int .i64 l.g] 27)) (fun _ => False) := (Keeps.refl _ _).alloc _
  have hb2 := k2.blk (k1.blk hb)
  have q0 : (w1.alloc (.cells #[.int .i64 l.k, .int .i64 l.e, .int .i64 l.a, .int .i64 l.b, .int .i64 l.c, .int .i64 l.eo, .int .i64 l.bo, .int .i64 l.s, .int .i64 l.g] 27)).cell? ⟨w.heap.size, 1, none⟩ = some (.int .i64 S) := by simp only [World.cell?, hb2]; rfl
  have q1 : (w1.alloc (.cells #[.int .i64 l.k, .int .i64 l.e, .int .i64 l.a, .int .i64 l.b, .int .i64 l.c, .int .i64 l.eo, .int .i64 l.bo, .int .i64 l.s, .int .i64 l.g] 27)).cell? ⟨w.heap.size, 2, none⟩ = some (.slice ha nh hc) := by simp only [World.cell?, hb2]; rfl
  have KK := hide ((K0.trans k1 (fun _ _ e => e)).trans k2 (fun _ _ e => e))
  clear hPar k1 k2 K0 hb hb2
  go_wp2_with fail
  exact bodyPost_ret (v := .tuple #[.pointer none, .bool true, .bool false]) (by simp [results, Tryz.results18, go_sem]) rfl ⟨rfl, KK.out⟩
set_option maxRecDepth 100000 in
set_option maxHeartbeats 4000000 in
theorem bench_no1 (fs ts : Value) (S : Int) (ha : Option Addr) (nh hc : Nat) (l : Lay) (E : Int) (w : World) (hPar : ∀ W, Keeps w W (fun _ => False) → Calls Tryz.prog 9 #[fs] W fun r w' => r = .returned (.tuple #[.agg #[.int .i64 l.k, .int .i64 l.e, .int .i64 l.a, .int .i64 l.b, .int .i64 l.c, .int .i64 l.eo, .int .i64 l.bo, .int .i64 l.s, .int .i64 l.g], .int .i64 E]) ∧ Keeps W w' (fun _ => False)) (h0 : E = 0) (h1 : nh = 0) :
    Calls Tryz.prog 18 #[.agg #[fs, .int .i64 S, .slice ha nh hc, ts]] w fun e w' => e = .returned (.tuple #[.pointer none, .bool true, .bool false]) ∧ Keeps w w' (fun _ => False) := by
  subst h0 h1
  go_enter Tryz.func18, Tryz.ntmps18
  go_wp2_with fail
  refine alloc1 (P := fun W => Calls _ _ _ W _) fun W0 hb hz K0 => ?_
  (with_reducible refine (hPar _ K0).mono ?_)
  rintro r w1 ⟨rfl, k1⟩
  have k2 : Keeps w1 (w1.alloc (.cells #[.int .i64 l.k, .int .i64 l.e, .int .i64 l.a, .int .i64 l.b, .int .i64 l.c, .int .i64 l.eo, .int .i64 l.bo, .int .i64 l.s, .int .i64 l.g] 27)) (fun _ => False) := (Keeps.refl _ _).alloc _
  have hb2 := k2.blk (k1.blk hb)
  have q0 : (w1.alloc (.cells #[.int .i64 l.k, .int .i64 l.e, .int .i64 l.a, .int .i64 l.b, .int .i64 l.c, .int .i64 l.eo, .int .i64 l.bo, .int .i64 l.s, .int .i64 l.g] 27)).cell? ⟨w.heap.size, 1, none⟩ = some (.int .i64 S) := by simp only [World.cell?, hb2]; rfl
  have q1 : (w1.alloc (.cells #[.int .i64 l.k, .int .i64 l.e, .int .i64 l.a, .int .i64 l.b, .int .i64 l.c, .int .i64 l.eo, .int .i64 l.bo, .int .i64 l.s, .int .i64 l.g] 27)).cell? ⟨w.heap.size, 2, none⟩ = some (.slice ha 0 hc) := by simp only [World.cell?, hb2]; rfl
  have KK := hide ((K0.trans k1 (fun _ _ e => e)).trans k2 (fun _ _ e => e))
  clear hPar k1 k2 K0 hb hb2
  go_wp2_with fail
  exact bodyPost_ret (v := .tuple #[.pointer none, .bool true, .bool false]) (by simp [results, Tryz.results18, go_sem]) rfl ⟨rfl, KK.out⟩
set_option maxRecDepth 100000 in
set_option maxHeartbeats 4000000 in
theorem bench_no2 (fs ts : Value) (S : Int) (ha : Option Addr) (nh hc : Nat) (l : Lay) (E : Int) (w : World) (hPar : ∀ W, Keeps w W (fun _ => False) → Calls Tryz.prog 9 #[fs] W fun r w' => r = .returned (.tuple #[.agg #[.int .i64 l.k, .int .i64 l.e, .int .i64 l.a, .int .i64 l.b, .int .i64 l.c, .int .i64 l.eo, .int .i64 l.bo, .int .i64 l.s, .int .i64 l.g], .int .i64 E]) ∧ Keeps W w' (fun _ => False)) (h0 : E = 0) (h1 : ¬ nh = 0) (h2 : S < 8) :
    Calls Tryz.prog 18 #[.agg #[fs, .int .i64 S, .slice ha nh hc, ts]] w fun e w' => e = .returned (.tuple #[.pointer none, .bool true, .bool false]) ∧ Keeps w w' (fun _ => False) := by
  subst h0
  have e1 : ((nh : Int) == 0) = false := by simp; omega
  have e2 : ¬ (nh : Int) = 0 := by omega
  go_enter Tryz.func18, Tryz.ntmps18
  go_wp2_with fail
  refine alloc1 (P := fun W => Calls _ _ _ W _) fun W0 hb hz K0 => ?_
  (with_reducible refine (hPar _ K0).mono ?_)
  rintro r w1 ⟨rfl, k1⟩
  have k2 : Keeps w1 (w1.alloc (.cells #[.int .i64 l.k, .int .i64 l.e, .int .i64 l.a, .int .i64 l.b, .int .i64 l.c, .int .i64 l.eo, .int .i64 l.bo, .int .i64 l.s, .int .i64 l.g] 27)) (fun _ => False) := (Keeps.refl _ _).alloc _
  have hb2 := k2.blk (k1.blk hb)
  have q0 : (w1.alloc (.cells #[.int .i64 l.k, .int .i64 l.e, .int .i64 l.a, .int .i64 l.b, .int .i64 l.c, .int .i64 l.eo, .int .i64 l.bo, .int .i64 l.s, .int .i64 l.g] 27)).cell? ⟨w.heap.size, 1, none⟩ = some (.int .i64 S) := by simp only [World.cell?, hb2]; rfl
  have q1 : (w1.alloc (.cells #[.int .i64 l.k, .int .i64 l.e, .int .i64 l.a, .int .i64 l.b, .int .i64 l.c, .int .i64 l.eo, .int .i64 l.bo, .int .i64 l.s, .int .i64 l.g] 27)).cell? ⟨w.heap.size, 2, none⟩ = some (.slice ha nh hc) := by simp only [World.cell?, hb2]; rfl
  have KK := hide ((K0.trans k1 (fun _ _ e => e)).trans k2 (fun _ _ e => e))
  clear hPar k1 k2 K0 hb hb2
  go_wp2_with fail
  exact bodyPost_ret (v := .tuple #[.pointer none, .bool true, .bool false]) (by simp [results, Tryz.results18, go_sem]) rfl ⟨rfl, KK.out⟩
set_option maxRecDepth 100000 in
set_option maxHeartbeats 4000000 in
theorem bench_no3 (fs ts : Value) (S : Int) (ha : Option Addr) (nh hc : Nat) (l : Lay) (E : Int) (w : World) (hPar : ∀ W, Keeps w W (fun _ => False) → Calls Tryz.prog 9 #[fs] W fun r w' => r = .returned (.tuple #[.agg #[.int .i64 l.k, .int .i64 l.e, .int .i64 l.a, .int .i64 l.b, .int .i64 l.c, .int .i64 l.eo, .int .i64 l.bo, .int .i64 l.s, .int .i64 l.g], .int .i64 E]) ∧ Keeps W w' (fun _ => False)) (h0 : E = 0) (h1 : ¬ nh = 0) (h2 : ¬ S < 8) (h3 : 1024 < S) :
    Calls Tryz.prog 18 #[.agg #[fs, .int .i64 S, .slice ha nh hc, ts]] w fun e w' => e = .returned (.tuple #[.pointer none, .bool true, .bool false]) ∧ Keeps w w' (fun _ => False) := by
  subst h0
  have e1 : ((nh : Int) == 0) = false := by simp; omega
  have e2 : ¬ (nh : Int) = 0 := by omega
  go_enter Tryz.func18, Tryz.ntmps18
  go_wp2_with fail
  refine alloc1 (P := fun W => Calls _ _ _ W _) fun W0 hb hz K0 => ?_
  (with_reducible refine (hPar _ K0).mono ?_)
  rintro r w1 ⟨rfl, k1⟩
  have k2 : Keeps w1 (w1.alloc (.cells #[.int .i64 l.k, .int .i64 l.e, .int .i64 l.a, .int .i64 l.b, .int .i64 l.c, .int .i64 l.eo, .int .i64 l.bo, .int .i64 l.s, .int .i64 l.g] 27)) (fun _ => False) := (Keeps.refl _ _).alloc _
  have hb2 := k2.blk (k1.blk hb)
  have q0 : (w1.alloc (.cells #[.int .i64 l.k, .int .i64 l.e, .int .i64 l.a, .int .i64 l.b, .int .i64 l.c, .int .i64 l.eo, .int .i64 l.bo, .int .i64 l.s, .int .i64 l.g] 27)).cell? ⟨w.heap.size, 1, none⟩ = some (.int .i64 S) := by simp only [World.cell?, hb2]; rfl
  have q1 : (w1.alloc (.cells #[.int .i64 l.k, .int .i64 l.e, .int .i64 l.a, .int .i64 l.b, .int .i64 l.c, .int .i64 l.eo, .int .i64 l.bo, .int .i64 l.s, .int .i64 l.g] 27)).cell? ⟨w.heap.size, 2, none⟩ = some (.slice ha nh hc) := by simp only [World.cell?, hb2]; rfl
  have KK := hide ((K0.trans k1 (fun _ _ e => e)).trans k2 (fun _ _ e => e))
  clear hPar k1 k2 K0 hb hb2
  go_wp2_with fail
  exact bodyPost_ret (v := .tuple #[.pointer none, .bool true, .bool false]) (by simp [results, Tryz.results18, go_sem]) rfl ⟨rfl, KK.out⟩
set_option maxRecDepth 100000 in
set_option maxHeartbeats 4000000 in
theorem bench_no4 (fs ts : Value) (S : Int) (ha : Option Addr) (nh hc : Nat) (l : Lay) (E : Int) (w : World) (hPar : ∀ W, Keeps w W (fun _ => False) → Calls Tryz.prog 9 #[fs] W fun r w' => r = .returned (.tuple #[.agg #[.int .i64 l.k, .int .i64 l.e, .int .i64 l.a, .int .i64 l.b, .int .i64 l.c, .int .i64 l.eo, .int .i64 l.bo, .int .i64 l.s, .int .i64 l.g], .int .i64 E]) ∧ Keeps W w' (fun _ => False)) (h0 : E = 0) (h1 : ¬ nh = 0) (h2 : ¬ S < 8) (h3 : ¬ 1024 < S) (h4 : bits BinOp.and IntKind.i64 S (S - 1) ≠ 0) :
    Calls Tryz.prog 18 #[.agg #[fs, .int .i64 S, .slice ha nh hc, ts]] w fun e w' => e = .returned (.tuple #[.pointer none, .bool true, .bool false]) ∧ Keeps w w' (fun _ => False) := by
  subst h0
  have e1 : ((nh : Int) == 0) = false := by simp; omega
  have e2 : ¬ (nh : Int) = 0 := by omega
  have e3 : (bits BinOp.and IntKind.i64 S (S - 1) != 0) = true := by simp [h4]
  obtain ⟨wa, wb⟩ := wrapT h2 h3
  go_enter Tryz.func18, Tryz.ntmps18
  go_wp2_with fail
  refine alloc1 (P := fun W => Calls _ _ _ W _) fun W0 hb hz K0 => ?_
  (with_reducible refine (hPar _ K0).mono ?_)
  rintro r w1 ⟨rfl, k1⟩
  have k2 : Keeps w1 (w1.alloc (.cells #[.int .i64 l.k, .int .i64 l.e, .int .i64 l.a, .int .i64 l.b, .int .i64 l.c, .int .i64 l.eo, .int .i64 l.bo, .int .i64 l.s, .int .i64 l.g] 27)) (fun _ => False) := (Keeps.refl _ _).alloc _
  have hb2 := k2.blk (k1.blk hb)
  have q0 : (w1.alloc (.cells #[.int .i64 l.k, .int .i64 l.e, .int .i64 l.a, .int .i64 l.b, .int .i64 l.c, .int .i64 l.eo, .int .i64 l.bo, .int .i64 l.s, .int .i64 l.g] 27)).cell? ⟨w.heap.size, 1, none⟩ = some (.int .i64 S) := by simp only [World.cell?, hb2]; rfl
  have q1 : (w1.alloc (.cells #[.int .i64 l.k, .int .i64 l.e, .int .i64 l.a, .int .i64 l.b, .int .i64 l.c, .int .i64 l.eo, .int .i64 l.bo, .int .i64 l.s, .int .i64 l.g] 27)).cell? ⟨w.heap.size, 2, none⟩ = some (.slice ha nh hc) := by simp only [World.cell?, hb2]; rfl
  have KK := hide ((K0.trans k1 (fun _ _ e => e)).trans k2 (fun _ _ e => e))
  clear hPar k1 k2 K0 hb hb2
  go_wp2_with fail
  exact bodyPost_ret (v := .tuple #[.pointer none, .bool true, .bool false]) (by simp [results, Tryz.results18, go_sem]) rfl ⟨rfl, KK.out⟩
/-- What bench leaves, where a table is made. -/
def BenchPost (w : World) (l : Lay) (G : Nat) (fs ts : Value) (S : Int) (ha : Option Addr) (nh hc : Nat) (e : Ending) (w' : World) : Prop :=
  ∃ (b p : Nat) (d : AD) (f : Nat → Int), e = .returned (.tuple #[.pointer (some ⟨b, 0, none⟩), .bool true, .bool true]) ∧ w'.heap[b]? = some (.cells (benC p l 16 fs S (.slice ha nh hc) ts (.slice none 0 0) 0) 57) ∧ w.heap.size ≤ b ∧ Own w w' p (fun q => q = b) d ∧ d.Fine ∧ d.small ∧ TabD d l 16 80 G f (fun _ => GC.zero) ∧ f 1 = 0 ∧ f 2 = 0 ∧ f 3 = 0 ∧ f 4 = ((8 * G : Nat) : Int) ∧ f 5 = 7 * (G : Int) ∧ f 0 = 2 ∧ f 7 = ((80 : Nat) : Int)
theorem new_fresh {l : Lay} (hv : validB l = true) {G j : Nat} (hj : j ≤ 7) (hG : G = 2 ^ j) (depth : Int) (hd0 : 0 ≤ depth) (hd6 : depth ≤ 6) {W : World} {p : Nat} {F : Nat → Prop} (hA : Arena W p F (AD.fresh 2097152)) (hFl : ∀ k, F k → k < W.heap.size) :
    Calls Tryz.prog 12 #[.pointer (some ⟨p, 0, none⟩), .agg #[.int .i64 l.k, .int .i64 l.e, .int .i64 l.a, .int .i64 l.b, .int .i64 l.c, .int .i64 l.eo, .int .i64 l.bo, .int .i64 l.s, .int .i64 l.g], .int .i64 ((8 * G : Nat) : Int), .int .i64 depth] W fun e w' => e = .returned (.tuple #[.agg #[.pointer (some ⟨p, 0, none⟩), .int .i64 l.k, .int .i64 l.e, .int .i64 l.a, .int .i64 l.b, .int .i64 l.c, .int .i64 l.eo, .int .i64 l.bo, .int .i64 l.s, .int .i64 l.g, .int .i64 (16 : Int)], .int .i64 0]) ∧ ∃ d' f, Turned W w' p F d' ∧ d'.Fine ∧ d'.small ∧ TabD d' l 16 80 G f (fun _ => GC.zero) ∧ f 1 = 0 ∧ f 2 = 0 ∧ f 3 = 0 ∧ f 4 = ((8 * G : Nat) : Int) ∧ f 5 = 7 * (G : Int) ∧ f 0 = 2 ∧ f 7 = ((80 : Nat) : Int) := by
  have hG128 : G ≤ 128 := by rw [hG]; exact Nat.pow_le_pow_right (by decide) hj
  have hG0 : 0 < G := by rw [hG]; exact Nat.two_pow_pos j
  have hvm := valid_more hv
  have hgm : G * l.g.toNat ≤ 128 * 3000 := Nat.mul_le_mul hG128 (by omega)
  have hgp : 0 < G * l.g.toNat := Nat.mul_pos hG0 (by omega)
  have hcl := class_le (G * l.g.toNat) hgp (by omega)
  obtain ⟨cN, hcN⟩ : ∃ cN, classN (G * l.g.toNat) = cN := ⟨_, rfl⟩
  rw [hcN] at hcl
  have := tnew_yes hA (AD.fresh_fine (by omega)) (newG_fresh _) hFl l hv G j (by omega) hG depth hd0 hd6 cN hcN (by omega) (by simp only [AD.fresh]; omega)
  refine this.mono ?_
  rintro e w' ⟨rfl, d', hTu, hF', hD, hAl⟩
  have hbs : (AD.fresh 2097152).bs.length = 16 := by simp [AD.fresh, zeros_length]
  have hmost : Pb.mostN ((8 * G : Nat) : Int) = 7 * (G : Int) := by
    unfold Pb.mostN
    rw [hG, Pb.pwS_yes j (by omega)]
    simp only [if_true]
    omega
  rw [hbs] at hD ⊢
  refine ⟨rfl, d', _, hTu, hF', ?_, hD, rfl, rfl, rfl, rfl, hmost, rfl, rfl⟩
  refine hAl.small ?_
  intro x hx
  have hL : (((AD.fresh 2097152).took 64).took cN).L = [(16, 64), (80, cN)] := by
    rw [AD.took_L, AD.took_L, AD.took_bs]
    simp [AD.fresh, zeros_length]
  rw [hL] at hx
  simp only [List.mem_cons, List.not_mem_nil, or_false] at hx
  rcases hx with rfl | rfl
  · show 64 ≤ 1048576
    omega
  · exact hcl.2.2.1
end Go.Proofs.YtmdnknbolgedgaaGreatDoor
/-
  The law's bench, where a table is made.
-/
namespace Go.Proofs.YtmdnknbolgedgaaGreatDoor
open Go.RowKit Go.Shelf Ly Ct
set_option linter.unusedVariables false

set_option maxRecDepth 100000 in
set_option maxHeartbeats 8000000 in
theorem bench_yes (fs ts : Value) (S : Int) (ha : Option Addr) (nh hc : Nat) (l : Lay) (E : Int) (w : World) (hPar : ∀ W, Keeps w W (fun _ => False) → Calls Tryz.prog 9 #[fs] W fun r w' => r = .returned (.tuple #[.agg #[.int .i64 l.k, .int .i64 l.e, .int .i64 l.a, .int .i64 l.b, .int .i64 l.c, .int .i64 l.eo, .int .i64 l.bo, .int .i64 l.s, .int .i64 l.g], .int .i64 E]) ∧ Keeps W w' (fun _ => False)) (h0 : E = 0) (hv : validB l = true) (h1 : ¬ nh = 0) (h2 : ¬ S < 8) (h3 : ¬ 1024 < S) (h4 : bits BinOp.and IntKind.i64 S (S - 1) = 0) (G j : Nat) (hj : j ≤ 7) (hG : G = 2 ^ j) (hS : S = ((8 * G : Nat) : Int)) :
    Calls Tryz.prog 18 #[.agg #[fs, .int .i64 S, .slice ha nh hc, ts]] w fun e w' => BenchPost w l G fs ts S ha nh hc e w' := by
  subst h0
  have e1 : ((nh : Int) == 0) = false := by simp; omega
  have e2 : ¬ (nh : Int) = 0 := by omega
  have HSw := hide (wrapT h2 h3)
  have hNew : Hid (∀ W, Calls Tryz.prog 10 #[.int .i64 2097152] W fun e w' => ANewPost W 2097152 e w') := fun W => anew_yes 2097152 W (by omega)
  have hNum := fun x W => num8_any x W
  have hTn : Hid (∀ {W : World} {p : Nat} {F : Nat → Prop}, Arena W p F (AD.fresh 2097152) → (∀ k, F k → k < W.heap.size) → Calls Tryz.prog 12 #[.pointer (some ⟨p, 0, none⟩), .agg #[.int .i64 l.k, .int .i64 l.e, .int .i64 l.a, .int .i64 l.b, .int .i64 l.c, .int .i64 l.eo, .int .i64 l.bo, .int .i64 l.s, .int .i64 l.g], .int .i64 S, .int .i64 0] W fun e w' => e = .returned (.tuple #[.agg #[.pointer (some ⟨p, 0, none⟩), .int .i64 l.k, .int .i64 l.e, .int .i64 l.a, .int .i64 l.b, .int .i64 l.c, .int .i64 l.eo, .int .i64 l.bo, .int .i64 l.s, .int .i64 l.g, .int .i64 (16 : Int)], .int .i64 0]) ∧ ∃ d' f, Turned W w' p F d' ∧ d'.Fine ∧ d'.small ∧ TabD d' l 16 80 G f (fun _ => GC.zero) ∧ f 1 = 0 ∧ f 2 = 0 ∧ f 3 = 0 ∧ f 4 = ((8 * G : Nat) : Int) ∧ f 5 = 7 * (G : Int) ∧ f 0 = 2 ∧ f 7 = ((80 : Nat) : Int)) := fun hA hFl => by
    rw [hS]
    exact new_fresh hv hj hG 0 (by omega) (by omega) hA hFl
  replace hS := hide hS
  replace hG := hide hG
  go_enter Tryz.func18, Tryz.ntmps18
  go_wp2_with fail
  refine alloc1 (P := fun W => Calls _ _ _ W _) fun W0 hb hz K0 => ?_
  (with_reducible refine (hPar _ K0).mono ?_)
  rintro r w1 ⟨rfl, k1⟩
  have k2 : Keeps w1 (w1.alloc (.cells #[.int .i64 l.k, .int .i64 l.e, .int .i64 l.a, .int .i64 l.b, .int .i64 l.c, .int .i64 l.eo, .int .i64 l.bo, .int .i64 l.s, .int .i64 l.g] 27)) (fun _ => False) := (Keeps.refl _ _).alloc _
  have hb2 := k2.blk (k1.blk hb)
  have q0 : (w1.alloc (.cells #[.int .i64 l.k, .int .i64 l.e, .int .i64 l.a, .int .i64 l.b, .int .i64 l.c, .int .i64 l.eo, .int .i64 l.bo, .int .i64 l.s, .int .i64 l.g] 27)).cell? ⟨w.heap.size, 1, none⟩ = some (.int .i64 S) := by simp only [World.cell?, hb2]; rfl
  have q1 : (w1.alloc (.cells #[.int .i64 l.k, .int .i64 l.e, .int .i64 l.a, .int .i64 l.b, .int .i64 l.c, .int .i64 l.eo, .int .i64 l.bo, .int .i64 l.s, .int .i64 l.g] 27)).cell? ⟨w.heap.size, 2, none⟩ = some (.slice ha nh hc) := by simp only [World.cell?, hb2]; rfl
  have K2 := hide ((K0.trans k1 (fun _ _ e => e)).trans k2 (fun _ _ e => e))
  have hb3 := heap_alloc_new w1 (.cells #[.int .i64 l.k, .int .i64 l.e, .int .i64 l.a, .int .i64 l.b, .int .i64 l.c, .int .i64 l.eo, .int .i64 l.bo, .int .i64 l.s, .int .i64 l.g] 27)
  have H2 := hide (And.intro hb2 hb3)
  clear hPar k1 k2 K0 hb hb2 hb3
  obtain ⟨wa, wb⟩ := HSw.out
  go_wp2_with fail
  clear wa wb h4 HSw e1 e2
  generalize w1.alloc (.cells #[.int .i64 l.k, .int .i64 l.e, .int .i64 l.a, .int .i64 l.b, .int .i64 l.c, .int .i64 l.eo, .int .i64 l.bo, .int .i64 l.s, .int .i64 l.g] 27) = W2 at *
  generalize w1.heap.size = B3 at *
  (with_reducible refine (hNew.out _).mono ?_)
  rintro r W3 ⟨p, rfl, hA3, k3⟩
  clear q0 q1
  go_wp2_with fail
  refine (hNum _ _).mono ?_
  rintro r W4 ⟨rfl, rfl⟩
  obtain ⟨hb2, hb3⟩ := H2.out
  have hb4 := k3.blk hb2
  have hb5 := k3.blk hb3
  obtain ⟨l0, l1, l2, l3, l4, l5, l6, l7, l8⟩ := nine_cells hb5
  have q0 : W4.cell? ⟨w.heap.size, 1, none⟩ = some (.int .i64 S) := by simp only [World.cell?, hb4]; rfl
  have hTn5 := hTn.out (F := fun k => W2.heap.size ≤ k ∧ k < W4.heap.size) (hA3.mono (fun i hi q => ⟨q, hi⟩)) (fun k q => q.2)
  go_wp2_with fail
  (with_reducible refine hTn5.mono ?_)
  rintro r W5 ⟨rfl, d5, f5, hTu, hF5, hSm5, hD5, g1, g2, g3, g4, g5, g0, g7⟩
  have hK4 : Keeps w W4 (fun _ => False) := K2.out.trans k3 (fun _ _ e => e)
  have z1 := heap_lt hb2
  have z2 := heap_lt hb3
  have z3 := k3.size
  have z4 := hTu.2.size
  have z5 := K2.out.size
  have b1 := hTu.2.blkS hb4 (fun q => by have := q.1; omega)
  have b3 := hTu.2.blkS hb5 (fun q => by have := q.1; omega)
  have k56 : Keeps W5 (W5.alloc (Obj.cells #[.pointer (some ⟨p, 0, none⟩), .int .i64 l.k, .int .i64 l.e, .int .i64 l.a, .int .i64 l.b, .int .i64 l.c, .int .i64 l.eo, .int .i64 l.bo, .int .i64 l.s, .int .i64 l.g, .int .i64 (16 : Int)] 36)) (fun _ => False) := (Keeps.refl _ _).alloc _
  have b1' := k56.blk b1
  have b3' := k56.blk b3
  have b9' := heap_alloc_new W5 (Obj.cells #[.pointer (some ⟨p, 0, none⟩), .int .i64 l.k, .int .i64 l.e, .int .i64 l.a, .int .i64 l.b, .int .i64 l.c, .int .i64 l.eo, .int .i64 l.bo, .int .i64 l.s, .int .i64 l.g, .int .i64 (16 : Int)] 36)
  have hz56 : (W5.alloc (Obj.cells #[.pointer (some ⟨p, 0, none⟩), .int .i64 l.k, .int .i64 l.e, .int .i64 l.a, .int .i64 l.b, .int .i64 l.c, .int .i64 l.eo, .int .i64 l.bo, .int .i64 l.s, .int .i64 l.g, .int .i64 (16 : Int)] 36)).heap.size = W5.heap.size + 1 := World.size_alloc _ _
  have hfin : Hid (∀ W8, W8.heap[(W5.alloc (Obj.cells #[.pointer (some ⟨p, 0, none⟩), .int .i64 l.k, .int .i64 l.e, .int .i64 l.a, .int .i64 l.b, .int .i64 l.c, .int .i64 l.eo, .int .i64 l.bo, .int .i64 l.s, .int .i64 l.g, .int .i64 (16 : Int)] 36)).heap.size]? = some (.cells (benC p l 16 fs S (.slice ha nh hc) ts (.slice none 0 0) 0) 57) → Keeps (W5.alloc (Obj.cells #[.pointer (some ⟨p, 0, none⟩), .int .i64 l.k, .int .i64 l.e, .int .i64 l.a, .int .i64 l.b, .int .i64 l.c, .int .i64 l.eo, .int .i64 l.bo, .int .i64 l.s, .int .i64 l.g, .int .i64 (16 : Int)] 36)) W8 (fun _ => False) → BenchPost w l G fs ts S ha nh hc (.returned (.tuple #[.pointer (some ⟨(W5.alloc (Obj.cells #[.pointer (some ⟨p, 0, none⟩), .int .i64 l.k, .int .i64 l.e, .int .i64 l.a, .int .i64 l.b, .int .i64 l.c, .int .i64 l.eo, .int .i64 l.bo, .int .i64 l.s, .int .i64 l.g, .int .i64 (16 : Int)] 36)).heap.size, 0, none⟩), .bool true, .bool true])) W8) := fun W8 hb8 k8 => by
    have k58 := k56.trans k8 (fun _ _ e => e)
    refine ⟨(W5.alloc (Obj.cells #[.pointer (some ⟨p, 0, none⟩), .int .i64 l.k, .int .i64 l.e, .int .i64 l.a, .int .i64 l.b, .int .i64 l.c, .int .i64 l.eo, .int .i64 l.bo, .int .i64 l.s, .int .i64 l.g, .int .i64 (16 : Int)] 36)).heap.size, p, d5, f5, rfl, hb8, by omega, ⟨(hTu.1.mono (G := fun q => w.heap.size ≤ q ∧ ¬ q = (W5.alloc (Obj.cells #[.pointer (some ⟨p, 0, none⟩), .int .i64 l.k, .int .i64 l.e, .int .i64 l.a, .int .i64 l.b, .int .i64 l.c, .int .i64 l.eo, .int .i64 l.bo, .int .i64 l.s, .int .i64 l.g, .int .i64 (16 : Int)] 36)).heap.size) (fun i hi q => ?_)).keeps k58 (fun _ _ _ e => e), (hK4.trans hTu.2 (fun i hi q => by have := q.1; omega)).trans k58 (fun _ _ e => e)⟩, hF5, hSm5, hD5, g1, g2, g3, g4, g5, g0, g7⟩
    rcases q with q | q
    · have := q.1
      exact ⟨by omega, by omega⟩
    · exact ⟨by omega, by omega⟩
  obtain ⟨m0, m1, m2, m3, m4, m5, m6, m7, m8⟩ := nine_cells b3'
  obtain ⟨⟨t0, t1, t2, t3, t4, t5, t6, t7, t8, t9, t10⟩, -⟩ := eleven_cells b9'
  have p0 : (W5.alloc (Obj.cells #[.pointer (some ⟨p, 0, none⟩), .int .i64 l.k, .int .i64 l.e, .int .i64 l.a, .int .i64 l.b, .int .i64 l.c, .int .i64 l.eo, .int .i64 l.bo, .int .i64 l.s, .int .i64 l.g, .int .i64 (16 : Int)] 36)).cell? ⟨w.heap.size, 0, none⟩ = some fs := by simp only [World.cell?, b1']; rfl
  have p1 : (W5.alloc (Obj.cells #[.pointer (some ⟨p, 0, none⟩), .int .i64 l.k, .int .i64 l.e, .int .i64 l.a, .int .i64 l.b, .int .i64 l.c, .int .i64 l.eo, .int .i64 l.bo, .int .i64 l.s, .int .i64 l.g, .int .i64 (16 : Int)] 36)).cell? ⟨w.heap.size, 1, none⟩ = some (.int .i64 S) := by simp only [World.cell?, b1']; rfl
  have p2 : (W5.alloc (Obj.cells #[.pointer (some ⟨p, 0, none⟩), .int .i64 l.k, .int .i64 l.e, .int .i64 l.a, .int .i64 l.b, .int .i64 l.c, .int .i64 l.eo, .int .i64 l.bo, .int .i64 l.s, .int .i64 l.g, .int .i64 (16 : Int)] 36)).cell? ⟨w.heap.size, 2, none⟩ = some (.slice ha nh hc) := by simp only [World.cell?, b1']; rfl
  have p3 : (W5.alloc (Obj.cells #[.pointer (some ⟨p, 0, none⟩), .int .i64 l.k, .int .i64 l.e, .int .i64 l.a, .int .i64 l.b, .int .i64 l.c, .int .i64 l.eo, .int .i64 l.bo, .int .i64 l.s, .int .i64 l.g, .int .i64 (16 : Int)] 36)).cell? ⟨w.heap.size, 3, none⟩ = some ts := by simp only [World.cell?, b1']; rfl
  clear hTn hTn5 hNew q0 l0 l1 l2 l3 l4 l5 l6 l7 l8 hb4 hb5 hb2 hb3 H2 hA3 k3 hTu hF5 hSm5 hD5 g0 g1 g2 g3 g4 g5 g7 hK4 K2 b1 b3 b1' b3' b9' k56 z1 z2 z3 z4 z5 hz56
  go_wp2_with fail
  refine (hNum _ _).mono ?_
  rintro r W7 ⟨rfl, hW7⟩
  subst hW7
  go_wp2_with fail
  unfold benC at hfin
  refine bodyPost_ret (v := .tuple #[.pointer (some ⟨(W5.alloc (Obj.cells #[.pointer (some ⟨p, 0, none⟩), .int .i64 l.k, .int .i64 l.e, .int .i64 l.a, .int .i64 l.b, .int .i64 l.c, .int .i64 l.eo, .int .i64 l.bo, .int .i64 l.s, .int .i64 l.g, .int .i64 (16 : Int)] 36)).heap.size, 0, none⟩), .bool true, .bool true]) (by simp [results, Tryz.results18, go_sem]) rfl ?_
  exact hfin.out _ (heap_alloc_new _ _) ((Keeps.refl _ _).alloc _)
end Go.Proofs.YtmdnknbolgedgaaGreatDoor
/-
  Get; Put of a key that is there.
-/
namespace Go.Proofs.YtmdnknbolgedgaaGreatDoor
open Go.RowKit Go.Shelf Ly Ct
set_option linter.unusedVariables false

set_option maxRecDepth 100000 in
set_option maxHeartbeats 2000000 in
theorem tget_yes {w : World} {p : Nat} {F : Nat → Prop} {d : AD} {l : Lay} {off gr G : Nat} {f : Nat → Int} {c : Nat → GC} (hA : Arena w p F d) (hF : d.Fine) (h : TabD d l off gr G f c) (h4 : f 4 = ((8 * G : Nat) : Int)) (h7 : f 7 = (gr : Int)) (k : Nat) (hk : k ≤ 13) (hG : G = 2 ^ k) (hT : TabAt w) (H : Nat) (hH : H < 18446744073709551616) (key : ByteArray) (hkey : (key.size : Int) = l.k) :
    Calls Tryz.prog 56 #[.agg #[.pointer (some ⟨p, 0, none⟩), .int .i64 l.k, .int .i64 l.e, .int .i64 l.a, .int .i64 l.b, .int .i64 l.c, .int .i64 l.eo, .int .i64 l.bo, .int .i64 l.s, .int .i64 l.g, .int .i64 (off : Int)], .int .u64 (H : Int), .string key] w fun e w' => e = .returned (.tuple #[(slotC c (srchT c ((H : Int) % 128) key (Pb.metN (H / 128) G) G).slot).val, .int .i64 0]) ∧ Keeps w w' (fun _ => False) := by
  have hS := fun W (q : Keeps w W (fun _ => False)) => search_yes (hA.keeps q (fun _ _ _ e => e)) hF h h4 h7 k hk hG (hT.kp (q.below (Nat.le_refl _) (fun _ _ e => e))) H hH key hkey
  unfold srchV sghC at hS
  generalize srchT c ((H : Int) % 128) key (Pb.metN (H / 128) G) G = r at *
  generalize slotC c r.slot = x at *
  unfold GC.val
  clear h h4 h7 hT
  go_enter Tryz.func56, Tryz.ntmps56
  go_wp2_with fail
  refine alloc2 (P := fun W => Calls _ _ _ W _) fun W0 hb hr hz K0 => ?_
  (with_reducible refine (hS _ K0).mono ?_)
  rintro e w1 ⟨rfl, k1⟩
  have k2 : Keeps w1 (w1.alloc (Obj.cells #[.int .i64 (f 3), .int .i64 (f 4), .int .i64 (f 5), .int .i64 (f 6), .int .i64 (f 1), .int .i64 (f 2), .bool (f 0 == 4), .int .i64 (f 7), .int .i64 (r.probes : Int), .int .i64 (optI r.slot), .int .i64 x.kind, .int .i64 x.tag, .string x.key, .string x.elem, .int .i64 x.birth, .int .i64 (optI r.vac), .bool (vacE c r.vac)] 103)) (fun _ => False) := (Keeps.refl _ _).alloc _
  have hr2 := k2.blk (k1.blk hr)
  have K2 := (K0.trans k1 (fun _ _ e => e)).trans k2 (fun _ _ e => e)
  obtain ⟨d0, d1, d2, d3, d4, f0, f1, f2, f3, f4⟩ := five_cells hr2
  clear hS k1 hr hb
  go_wp2_with fail
  refine five_set hr2 K2 (fun h => by omega) (P := fun w9 => bodyPost _ _ _ _ _ w9) fun w9 h9 k9 _ => ?_
  obtain ⟨e0, e1, e2, e3, e4, -⟩ := five_cells h9
  exact bodyPost_ret (v := .tuple #[.agg #[.int .i64 x.kind, .int .i64 x.tag, .string x.key, .string x.elem, .int .i64 x.birth], .int .i64 0]) (by simp [results, Tryz.results56, go_sem, e0, e1, e2, e3, e4]) rfl ⟨rfl, k9⟩

set_option maxRecDepth 100000 in
set_option maxHeartbeats 4000000 in
/-- The key is there: its elem is replaced. -/
theorem tput_old {w : World} {p : Nat} {F : Nat → Prop} {d : AD} {l : Lay} {off gr G : Nat} {f : Nat → Int} {c : Nat → GC} (hA : Arena w p F d) (hF : d.Fine) (hSm : d.small) (hFl : ∀ k, F k → k < w.heap.size) (h : TabD d l off gr G f c) (h4 : f 4 = ((8 * G : Nat) : Int)) (h7 : f 7 = (gr : Int)) (k : Nat) (hk : k ≤ 13) (hG : G = 2 ^ k) (hT : TabAt w) (H : Nat) (hH : H < 18446744073709551616) (key : ByteArray) (hkey : (key.size : Int) = l.k) (elem : ByteArray) (helem : (elem.size : Int) = l.e) (birth : Int) (hb0 : 0 ≤ birth) (v : Nat) (hs : (srchT c ((H : Int) % 128) key (Pb.metN (H / 128) G) G).slot = some v) :
    Calls Tryz.prog 15 #[.agg #[.pointer (some ⟨p, 0, none⟩), .int .i64 l.k, .int .i64 l.e, .int .i64 l.a, .int .i64 l.b, .int .i64 l.c, .int .i64 l.eo, .int .i64 l.bo, .int .i64 l.s, .int .i64 l.g, .int .i64 (off : Int)], .int .u64 (H : Int), .string key, .string elem, .int .i64 birth] w fun e w' => e = .returned (.tuple #[.int .i64 1, .int .i64 0]) ∧ TabT w w' p F d l off gr G f (updN c v { c v with elem := elem }) := by
  have hS := fun W (q : Keeps w W (fun _ => False)) => search_yes (hA.keeps q (fun _ _ _ e => e)) hF h h4 h7 k hk hG (hT.kp (q.below (Nat.le_refl _) (fun _ _ e => e))) H hH key hkey
  unfold srchV sghC at hS
  rw [hs] at hS
  rw [show optI (some v) = (v : Int) from rfl, show slotC c (some v) = c v from rfl] at hS
  have heb : (((elem.size : Nat) : Int) != l.e) = false := by simp [helem]
  have hb' : ¬ birth < 0 := by omega
  have hv0 : (0 : Int) ≤ ((v : Nat) : Int) := by omega
  have hG0 := h.pos
  obtain ⟨hv8, hvk, -, -⟩ := srch_slot (fun i hi => Pb.metN_lt (by omega)) hs
  have hfew := h.few
  have ho := h.off_le hF
  have hvm := valid_more h.valid
  have hi : v / 8 < G := by omega
  have hgl := h.glen
  have hin := h.in hi
  have hmo := hF.most
  have hPl := fun W => place_any p l (off : Int) (gr : Int) f v W h.valid h7 (by omega) (by omega) (by omega)
  have e : ((gr + v / 8 * l.g.toNat : Nat) : Int) = (gr : Int) + ((v / 8 : Nat) : Int) * l.g := by
    rw [Int.natCast_add, Int.natCast_mul, Int.toNat_of_nonneg (by omega)]
  have hfy : fitsI ((gr : Int) + ((v / 8 : Nat) : Int) * l.g) := by rw [← e]; exact fitsI_mk (by omega) (by omega)
  have hfg : fitsI l.g := fitsI_mk (by omega) (by omega)
  have hSE : ∀ W (q : Keeps w W (fun _ => False)), Calls Tryz.prog 43 #[.agg #[.pointer (some ⟨p, 0, none⟩), .int .i64 l.k, .int .i64 l.e, .int .i64 l.a, .int .i64 l.b, .int .i64 l.c, .int .i64 l.eo, .int .i64 l.bo, .int .i64 l.s, .int .i64 l.g, .int .i64 ((gr : Int) + ((v / 8 : Nat) : Int) * l.g)], .int .i64 ((v % 8 : Nat) : Int), .string elem] W fun e w' => e = .returned (.int .i64 0) ∧ TabT W w' p F d l off gr G f (updN c v { c v with elem := elem }) := fun W q => by
    have := gsetElem_any (hA.keeps q (fun _ _ _ e => e)) hF hSm (fun i hi => Nat.lt_of_lt_of_le (hFl i hi) q.size) l ((gr : Int) + ((v / 8 : Nat) : Int) * l.g) ((v % 8 : Nat) : Int) elem (by omega) hfy hfg
    have hcv : c (8 * (v / 8) + v % 8) = c v := by rw [show 8 * (v / 8) + v % 8 = v by omega]
    obtain ⟨r1, r2, r3⟩ := (h.grp (v / 8) hi).setElem (i := v % 8) (by omega) helem (by show (c (8 * (v / 8) + v % 8)).kind = 2; rw [hcv]; exact hvk)
    rw [← e, r1] at this
    rw [← e]
    refine this.mono ?_
    rintro e w' ⟨rfl, hT⟩
    refine ⟨rfl, _, hT, Alt.grp hi r3, ?_⟩
    have ht := h.turn hi r2 r3
    rw [updG_updC] at ht
    have ht' : TabD _ l off gr G f (updN c v { c (8 * (v / 8) + v % 8) with elem := elem }) := ht
    rw [hcv] at ht'
    exact ht'
  obtain ⟨cc, hcc⟩ : ∃ cc, updN c v { c v with elem := elem } = cc := ⟨_, rfl⟩
  rw [hcc] at hSE ⊢
  generalize (srchT c ((H : Int) % 128) key (Pb.metN (H / 128) G) G).probes = np at *
  generalize optI (srchT c ((H : Int) % 128) key (Pb.metN (H / 128) G) G).vac = ov at *
  generalize vacE c (srchT c ((H : Int) % 128) key (Pb.metN (H / 128) G) G).vac = ve at *
  generalize (c v).kind = xk at *
  generalize (c v).tag = xt at *
  generalize (c v).key = xy at *
  generalize (c v).elem = xe at *
  generalize (c v).birth = xb at *
  clear h h4 h7 hT hs hin hgl hvm hcc hG hk hmo hvk
  unfold statV at hPl
  generalize (gr : Int) + ((v / 8 : Nat) : Int) * l.g = y at *
  generalize ((v % 8 : Nat) : Int) = vm at *
  go_enter Tryz.func15, Tryz.ntmps15
  go_wp2_with fail
  refine alloc1 (P := fun W => Calls _ _ _ W _) fun W0 hb hz K0 => ?_
  (with_reducible refine (hS _ K0).mono ?_)
  rintro r w1 ⟨rfl, k1⟩
  have K1 := K0.trans k1 (fun _ _ e => e)
  have k2 : Keeps w1 (w1.alloc (Obj.cells #[.int .i64 (f 3), .int .i64 (f 4), .int .i64 (f 5), .int .i64 (f 6), .int .i64 (f 1), .int .i64 (f 2), .bool (f 0 == 4), .int .i64 (f 7), .int .i64 (np : Int), .int .i64 (v : Int), .int .i64 xk, .int .i64 xt, .string xy, .string xe, .int .i64 xb, .int .i64 ov, .bool ve] 103)) (fun _ => False) := (Keeps.refl _ _).alloc _
  have K2 := K1.trans k2 (fun _ _ e => e)
  have hb2 := k2.blk (k1.blk hb)
  obtain ⟨c0, c1, c2, c3, c4, c5, c6, c7, c8, c9, c10⟩ := c11_of hb2
  clear hS k1 K0 hb
  go_wp2_with fail
  (with_reducible refine (hPl _).mono ?_)
  rintro r w3 ⟨rfl, k3⟩
  clear c0 c1 c2 c3 c4 c5 c6 c7 c8 c9 c10 hPl
  have k4 : Keeps w3 (w3.alloc (Obj.cells #[.pointer (some ⟨p, 0, none⟩), .int .i64 l.k, .int .i64 l.e, .int .i64 l.a, .int .i64 l.b, .int .i64 l.c, .int .i64 l.eo, .int .i64 l.bo, .int .i64 l.s, .int .i64 l.g, .int .i64 y] 109)) (fun _ => False) := (Keeps.refl _ _).alloc _
  have K4 := K2.trans (k3.trans k4 (fun _ _ e => e)) (fun _ _ e => e)
  have hSE4 := hSE _ K4
  clear hSE
  go_wp2_with fail
  (with_reducible refine hSE4.mono ?_)
  rintro r w5 ⟨rfl, hT5⟩
  have HP := hide (hT5.pre K4)
  clear hT5 hSE4
  go_wp2_with fail
  go_ret2
  exact ⟨rfl, HP.out⟩
end Go.Proofs.YtmdnknbolgedgaaGreatDoor
