import Derived.Test.YteokfhccfmeffabP1
namespace Go.Proofs.Yteokfhccfmeffab
open Go.RowKit

set_option maxHeartbeats 4000000 in
theorem ref_valid (l : Lay) (w : World) :
    Calls Try.prog 5 #[.agg #[.int .i64 l.k, .int .i64 l.e, .int .i64 l.a, .int .i64 l.b, .int .i64 l.c, .int .i64 l.eo, .int .i64 l.bo, .int .i64 l.s, .int .i64 l.g]] w
      fun r w' => r = .returned (.bool (validB l)) ∧ Kp w w' := by
  generalize hv : validB l = V
  obtain ⟨k, e, a, b, c, eo, bo, s, g⟩ := l
  generalize hm : parseD [k, e, a, b, c] = M
  obtain ⟨m, er⟩ := M
  obtain ⟨m0, m1, m2, m3, m4, m5, m6, m7, m8⟩ := m
  have hP := fun (g' : Nat) W h0 h1 h2 h3 h4 => ref_parse_five g' 0 5 k e a b c W h0 h1 h2 h3 h4
  rw [hm] at hP
  go_enter Try.func5, Try.ntmps5
  go_wp2_with fail
  refine (hP _ _ (cell_blk (heap_next _ _ _) rfl) (cell_blk (heap_next _ _ _) rfl) (cell_blk (heap_next _ _ _) rfl) (cell_blk (heap_next _ _ _) rfl) (cell_blk (heap_next _ _ _) rfl)).mono ?_
  rintro r w1 ⟨rfl, k1⟩
  clear hP
  have k0 : Kp w w1 := Kp.trans ((Kp.refl w).alloc _ |>.alloc _) k1
  obtain ⟨b0, b1, b2, b3, b4, b5, b6, b7, b8, -⟩ := k1.nine (b := w.heap.size) (heap_old (heap_new _ _) _)
  have hlt : w.heap.size < w1.heap.size := by
    have := k1.size
    simp at this
    omega
  clear k1
  unfold Lay.val
  by_cases hE : er = 0
  · subst hE
    have hV : Hid (V = decide (m0 = k ∧ m1 = e ∧ m2 = a ∧ m3 = b ∧ m4 = c ∧ m5 = eo ∧ m6 = bo ∧ m7 = s ∧ m8 = g)) := by
      obtain ⟨h1, h2⟩ := parse_zero hm
      rw [← hv]
      show decide (errN k e a b c = 0 ∧ (⟨k, e, a, b, c, eo, bo, s, g⟩ : Lay) = laidD k e a b c) = _
      rw [h2]
      simp [h1, eq_comm]
    clear hv hm
    go_wp2_with fail
    all_goals
      go_ret
      refine ⟨?_, k0.alloc _⟩
      rw [hV.out]
      simp [*]
  · have hE' : (er == 0) = false := by simpa using hE
    have hV : V = false := by
      rw [← hv]
      show decide (errN k e a b c = 0 ∧ (⟨k, e, a, b, c, eo, bo, s, g⟩ : Lay) = laidD k e a b c) = _
      refine decide_eq_false fun h => ?_
      have : parseD [k, e, a, b, c] = (laidD k e a b c, 0) := if_pos h.1
      rw [hm] at this
      exact hE (congrArg Prod.snd this)
    subst hV
    clear hv hm
    go_wp2_with fail
    go_ret
    exact ⟨rfl, k0.alloc _⟩

set_option maxHeartbeats 4000000 in
theorem ref_at (l : Lay) (i : Int) (w : World) :
    Calls Try.prog 19 #[.agg #[.int .i64 l.k, .int .i64 l.e, .int .i64 l.a, .int .i64 l.b, .int .i64 l.c, .int .i64 l.eo, .int .i64 l.bo, .int .i64 l.s, .int .i64 l.g], .int .i64 i] w fun r w' => r = .returned (.int .i64 (placeD l i 0)) ∧ Kp w w' := by
  have hV := fun W => ref_valid l W
  cases hv : validB l
  · have e : placeD l i 0 = -1 := if_neg (fun h => by rw [hv] at h; exact absurd h.2.2 (by simp))
    rw [e]
    rw [hv] at hV
    go_enter Try.func19, Try.ntmps19
    go_wp2_with fail
    refine (hV _).mono ?_
    rintro r w1 ⟨rfl, k1⟩
    clear hV
    go_wp2_with fail
    go_ret
    exact ⟨rfl, ((Kp.refl w).alloc _).trans k1⟩
  rw [hv] at hV
  by_cases h1 : i < 0
  · have e : placeD l i 0 = -1 := if_neg (fun h => by omega)
    rw [e]
    go_enter Try.func19, Try.ntmps19
    go_wp2_with fail
    refine (hV _).mono ?_
    rintro r w1 ⟨rfl, k1⟩
    clear hV
    go_wp2_with fail
    go_ret
    exact ⟨rfl, ((Kp.refl w).alloc _).trans k1⟩
  by_cases h2 : 7 < i
  · have e : placeD l i 0 = -1 := if_neg (fun h => by omega)
    rw [e]
    go_enter Try.func19, Try.ntmps19
    go_wp2_with fail
    refine (hV _).mono ?_
    rintro r w1 ⟨rfl, k1⟩
    clear hV
    go_wp2_with fail
    go_ret
    exact ⟨rfl, ((Kp.refl w).alloc _).trans k1⟩
  obtain ⟨-, -, _, _, _, _, s1, s2, -⟩ := valid_bound hv
  have e : Hid (placeD l i 0 = 8 + i * l.s) := by
    show placeD l i 0 = _
    rw [placeD, if_pos ⟨by omega, by omega, hv⟩]
    omega
  generalize placeD l i 0 = U at *
  go_enter Try.func19, Try.ntmps19
  go_wp2_with fail
  refine (hV _).mono ?_
  rintro r w1 ⟨rfl, k1⟩
  clear hV
  have k0 := ((Kp.refl w).alloc _).trans k1
  obtain ⟨b0, b1, b2, b3, b4, b5, b6, b7, b8, -⟩ := k1.nine (b := w.heap.size) (heap_new _ _)
  clear k1 b0 b1 b2 b3 b4 b5 b6 b8
  go_wp2_with fail
  go_loop [6, 7] (fun vn vk => ∃ (j : Nat) (M : Int), vk = .int .i64 (j : Int) ∧ vn = .int .i64 M ∧ Hid (M = 8 + j * l.s) ∧ (j : Int) ≤ i ∧ 0 ≤ M ∧ M ≤ 8 + 278 * j) (fun _ vk => 8 - (intOf vk).toNat)
  case atStart => exact ⟨0, 8, rfl, rfl, (by simp : (8 : Int) = 8 + ((0 : Nat) : Int) * l.s), by omega, by omega, by omega⟩
  case round =>
    obtain ⟨j, M, rfl, rfl, hM, hj, M0, M1⟩ := hrel
    by_cases hlt : (j : Int) < i
    · go_wp2_with fail
      go_round
      case rel =>
        refine ⟨j + 1, M + l.s, rfl, rfl, ?_, by omega, by omega, by omega⟩
        show M + l.s = _
        rw [hM.out]
        push_cast
        rw [Int.add_mul]
        omega
      case measure => simp [intOf]; omega
    · have hji : (j : Int) = i := by omega
      have hU : U = M := by rw [e.out, hM.out, hji]
      subst hU
      go_wp2_with fail
      go_ret
      exact ⟨rfl, k0⟩

set_option maxHeartbeats 4000000 in
theorem ref_keyAt (l : Lay) (i : Int) (w : World) :
    Calls Try.prog 7 #[.agg #[.int .i64 l.k, .int .i64 l.e, .int .i64 l.a, .int .i64 l.b, .int .i64 l.c, .int .i64 l.eo, .int .i64 l.bo, .int .i64 l.s, .int .i64 l.g], .int .i64 i] w fun r w' => r = .returned (.int .i64 (placeD l i 0)) ∧ Kp w w' := by
  have hP := fun W => ref_at l i W
  go_enter Try.func7, Try.ntmps7
  go_wp2_with fail
  refine (hP _).mono ?_
  rintro r w1 ⟨rfl, k1⟩
  clear hP
  go_wp2_with fail
  go_ret
  exact ⟨rfl, ((Kp.refl w).alloc _).trans k1⟩

set_option maxHeartbeats 4000000 in
theorem ref_elemAt (l : Lay) (i : Int) (w : World) :
    Calls Try.prog 9 #[.agg #[.int .i64 l.k, .int .i64 l.e, .int .i64 l.a, .int .i64 l.b, .int .i64 l.c, .int .i64 l.eo, .int .i64 l.bo, .int .i64 l.s, .int .i64 l.g], .int .i64 i] w fun r w' => r = .returned (.int .i64 (placeD l i l.eo)) ∧ Kp w w' := by
  have hP := fun W => ref_at l i W
  by_cases hp : 0 ≤ i ∧ i < 8 ∧ validB l = true
  · obtain ⟨-, -, e1, e2, b1, b2, s1, s2, -⟩ := valid_bound hp.2.2
    have e0 : placeD l i 0 = 8 + i * l.s + 0 := if_pos hp
    have e : placeD l i l.eo = 8 + i * l.s + l.eo := if_pos hp
    have m0 : 0 ≤ i * l.s := Int.mul_nonneg hp.1 (by omega)
    have m1 : i * l.s ≤ 8 * 278 := Int.mul_le_mul (by omega) (by omega) (by omega) (by omega)
    rw [e0, Int.add_zero] at hP
    rw [e]
    have hlt : ¬ 8 + i * l.s < 0 := by omega
    clear e0 e hp
    generalize i * l.s = M at *
    go_enter Try.func9, Try.ntmps9
    go_wp2_with fail
    refine (hP _).mono ?_
    rintro r w1 ⟨rfl, k1⟩
    clear hP
    have k0 := ((Kp.refl w).alloc _).trans k1
    obtain ⟨b0', b1', b2', b3, b4, b5, b6, b7, b8, -⟩ := k1.nine (b := w.heap.size) (heap_new _ _)
    clear k1
    go_wp2_with fail
    go_ret
    exact ⟨rfl, k0⟩
  · have e0 : placeD l i 0 = -1 := if_neg hp
    have e : placeD l i l.eo = -1 := if_neg hp
    rw [e0] at hP
    rw [e]
    clear e0 e hp
    go_enter Try.func9, Try.ntmps9
    go_wp2_with fail
    refine (hP _).mono ?_
    rintro r w1 ⟨rfl, k1⟩
    clear hP
    go_wp2_with fail
    go_ret
    exact ⟨rfl, ((Kp.refl w).alloc _).trans k1⟩

set_option maxHeartbeats 4000000 in
theorem ref_birthAt (l : Lay) (i : Int) (w : World) :
    Calls Try.prog 11 #[.agg #[.int .i64 l.k, .int .i64 l.e, .int .i64 l.a, .int .i64 l.b, .int .i64 l.c, .int .i64 l.eo, .int .i64 l.bo, .int .i64 l.s, .int .i64 l.g], .int .i64 i] w fun r w' => r = .returned (.int .i64 (placeD l i l.bo)) ∧ Kp w w' := by
  have hP := fun W => ref_at l i W
  by_cases hp : 0 ≤ i ∧ i < 8 ∧ validB l = true
  · obtain ⟨-, -, e1, e2, b1, b2, s1, s2, -⟩ := valid_bound hp.2.2
    have e0 : placeD l i 0 = 8 + i * l.s + 0 := if_pos hp
    have e : placeD l i l.bo = 8 + i * l.s + l.bo := if_pos hp
    have m0 : 0 ≤ i * l.s := Int.mul_nonneg hp.1 (by omega)
    have m1 : i * l.s ≤ 8 * 278 := Int.mul_le_mul (by omega) (by omega) (by omega) (by omega)
    rw [e0, Int.add_zero] at hP
    rw [e]
    have hlt : ¬ 8 + i * l.s < 0 := by omega
    clear e0 e hp
    generalize i * l.s = M at *
    go_enter Try.func11, Try.ntmps11
    go_wp2_with fail
    refine (hP _).mono ?_
    rintro r w1 ⟨rfl, k1⟩
    clear hP
    have k0 := ((Kp.refl w).alloc _).trans k1
    obtain ⟨b0', b1', b2', b3, b4, b5, b6, b7, b8, -⟩ := k1.nine (b := w.heap.size) (heap_new _ _)
    clear k1
    go_wp2_with fail
    go_ret
    exact ⟨rfl, k0⟩
  · have e0 : placeD l i 0 = -1 := if_neg hp
    have e : placeD l i l.bo = -1 := if_neg hp
    rw [e0] at hP
    rw [e]
    clear e0 e hp
    go_enter Try.func11, Try.ntmps11
    go_wp2_with fail
    refine (hP _).mono ?_
    rintro r w1 ⟨rfl, k1⟩
    clear hP
    go_wp2_with fail
    go_ret
    exact ⟨rfl, ((Kp.refl w).alloc _).trans k1⟩

set_option maxHeartbeats 4000000 in
theorem ref_groups (l : Lay) (n : Int) (w : World) :
    Calls Try.prog 13 #[.agg #[.int .i64 l.k, .int .i64 l.e, .int .i64 l.a, .int .i64 l.b, .int .i64 l.c, .int .i64 l.eo, .int .i64 l.bo, .int .i64 l.s, .int .i64 l.g], .int .i64 n] w fun r w' => r = .returned (.int .i64 (groupsD l n)) ∧ Kp w w' := by
  have hV := fun W => ref_valid l W
  cases hv : validB l
  · have e : groupsD l n = -1 := if_neg (fun h => by rw [hv] at h; exact absurd h.2 (by simp))
    rw [e]
    rw [hv] at hV
    go_enter Try.func13, Try.ntmps13
    go_wp2_with fail
    refine (hV _).mono ?_
    rintro r w1 ⟨rfl, k1⟩
    clear hV
    go_wp2_with fail
    go_ret
    exact ⟨rfl, ((Kp.refl w).alloc _).trans k1⟩
  rw [hv] at hV
  obtain ⟨-, -, _, _, _, _, s1, s2, hg⟩ := valid_bound hv
  have g0 : 0 ≤ l.g := by omega
  have g1 : l.g ≤ 3000 := by omega
  have hT : Hid (pw n 8 65536 = true → groupsD l n = n / 8 * l.g) := fun h => if_pos ⟨h, hv⟩
  have hF : Hid (¬ pw n 8 65536 = true → groupsD l n = -1) := fun h => if_neg (fun h' => h h'.1)
  generalize groupsD l n = U at *
  clear hg
  go_enter Try.func13, Try.ntmps13
  go_wp2_with fail
  refine (hV _).mono ?_
  rintro r w1 ⟨rfl, k1⟩
  clear hV
  have k0 := ((Kp.refl w).alloc _).trans k1
  obtain ⟨b0, b1, b2, b3, b4, b5, b6, b7, b8, -⟩ := k1.nine (b := w.heap.size) (heap_new _ _)
  clear k1 b0 b1 b2 b3 b4 b5 b6 b7
  go_wp2_with fail
  go_loop [6, 7] (fun vn vs => ∃ S M : Int, vs = .int .i64 S ∧ vn = .int .i64 M ∧ 8 ≤ S ∧ S ≤ 131072 ∧ 0 ≤ M ∧ M ≤ S * 400 ∧ Hid (M = S / 8 * l.g ∧ (S = 8 ∨ S = 16 ∨ S = 32 ∨ S = 64 ∨ S = 128 ∨ S = 256 ∨ S = 512 ∨ S = 1024 ∨ S = 2048 ∨ S = 4096 ∨ S = 8192 ∨ S = 16384 ∨ S = 32768 ∨ S = 65536 ∨ S = 131072) ∧ (pw n 8 65536 = true → S ≤ n))) (fun _ vs => 200000 - (intOf vs).toNat)
  case atStart =>
    refine ⟨8, l.g, rfl, rfl, by omega, by omega, by omega, by omega, ?_⟩
    refine ⟨by simp, Or.inl rfl, fun h => ?_⟩
    have := pwSlots.1 h
    omega
  case round =>
    obtain ⟨S, M, rfl, rfl, S1, S2, M0, M1, hH⟩ := hrel
    by_cases hle : S ≤ 65536
    · by_cases he : S = n
      · subst he
        have hU : U = M := by
          rw [hT.out (pwSlots.2 (by have := hH.out.2.1; omega)), hH.out.1]
        subst hU
        go_wp2_with fail
        go_ret
        exact ⟨rfl, k0⟩
      · have he' : (S == n) = false := by simpa using he
        go_wp2_with fail
        go_round
        case rel =>
          refine ⟨2 * S, 2 * M, rfl, rfl, by omega, by omega, by omega, by omega, ?_⟩
          obtain ⟨q1, q2, q3⟩ := hH.out
          refine ⟨?_, by omega, fun h => ?_⟩
          · rw [q1, ← Int.mul_assoc]
            congr 1
            omega
          · have := q3 h
            have := pwSlots.1 h
            omega
        case measure => simp [intOf]; omega
    · have hU : U = -1 := hF.out (fun h => by
        have := hH.out.2.2 h
        have := pwSlots.1 h
        omega)
      subst hU
      go_wp2_with fail
      go_ret
      exact ⟨rfl, k0⟩
end Go.Proofs.Yteokfhccfmeffab
