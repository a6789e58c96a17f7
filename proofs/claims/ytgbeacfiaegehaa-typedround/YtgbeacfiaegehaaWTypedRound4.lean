/-
  typed: TypedRound's walk, part 4. (genYR.py)
-/
import Derived.Test.YtgbeacfiaegehaaWTypedRound0
namespace Go.Proofs.Ytgbeacfiaegehaa
open Go.RowKit
open Fl
set_option linter.unusedVariables false
namespace typedRound
set_option maxRecDepth 100000 in
set_option maxHeartbeats 16000000 in
theorem walk_yes (p : PairD) (hp : p.Ok) (M : Nat) (hM : M ≤ 127) (hv : p.s.size ≤ M) (w : World) : Calls Try.prog 6 #[.agg p.cells, .int .i64 (M : Int)] w fun e w' => e = .returned (.bool true) ∧ Keeps w w' (fun _ => False) := by
  obtain ⟨hi, hj, hu, -, hf, -, hs, -⟩ := hp
  have S0 := rdS_new w p
  have hA : p.cells = #[.int .i64 p.i, .int .i64 p.j, .int .u64 (p.u : Int), .int .u64 (p.v : Int), .float .f64 p.f, .float .f64 p.g, .bool p.b, .bool p.c, .string p.s, .string p.t] := rfl
  rw [hA]
  clear hA
  have hP1 := tyi_Pack p.i hi
  have hP2 := tyu_Pack p.u hu
  have hP3 := tyf_Pack p.f hf
  have hP4 := tyb_Pack p.b
  have hU1 := tyi_Unpack (strOf (be 8 (iB p.i)))
  have hU2 := tyu_Unpack (strOf (be 8 p.u))
  have hU4 := tyb_Unpack (strOf (bB p.b))
  have hU3 := tyf_Unpack (strOf (be 8 (rise p.f)))
  rw [strOf_data, iU_iB hi] at hU1
  rw [strOf_data, num_be8 hu] at hU2
  rw [strOf_data, bU_bB] at hU4
  rw [strOf_data] at hU3
  have hF := fU_rise hf
  have hFl := fU_lt (be 8 (rise p.f))
  obtain ⟨nf1, nf2⟩ := nan_facts hf
  have hN2 := number_any p.f hf
  have zf := zero_fact hf
  generalize strOf (be 8 (iB p.i)) = T1 at *
  generalize strOf (be 8 p.u) = T2 at *
  generalize strOf (be 8 (rise p.f)) = T3 at *
  generalize strOf (bB p.b) = T4 at *
  generalize fU (be 8 (rise p.f)) = V at *
  have hN1 := number_any V hFl
  obtain ⟨d0, d1, d2, d4, d6, d7, d8, -⟩ := id S0
  go_enter Try.func6, Try.ntmps6
  go_wp2_with fail
  (with_reducible refine (hP1 _).mono ?_)
  rintro e w1 ⟨rfl, k1⟩
  have S1 := S0.keep k1
  clear S0 k1 hP1 d0 d1 d2 d4 d6 d7 d8
  obtain ⟨d0, d1, d2, d4, d6, d7, d8, -⟩ := id S1
  go_wp2_with fail
  (with_reducible refine (hP2 _).mono ?_)
  rintro e w2 ⟨rfl, k2⟩
  have S2 := S1.keep k2
  clear S1 k2 hP2 d0 d1 d2 d4 d6 d7 d8
  obtain ⟨d0, d1, d2, d4, d6, d7, d8, -⟩ := id S2
  go_wp2_with fail
  (with_reducible refine (hP3 _).mono ?_)
  rintro e w3 ⟨rfl, k3⟩
  have S3 := S2.keep k3
  clear S2 k3 hP3 d0 d1 d2 d4 d6 d7 d8
  obtain ⟨d0, d1, d2, d4, d6, d7, d8, -⟩ := id S3
  go_wp2_with fail
  (with_reducible refine (hP4 _).mono ?_)
  rintro e w4 ⟨rfl, k4⟩
  have S4 := S3.keep k4
  clear S3 k4 hP4 d0 d1 d2 d4 d6 d7 d8
  obtain ⟨d0, d1, d2, d4, d6, d7, d8, -⟩ := id S4
  go_wp2_with fail
  have Z := S4.keep (Keeps.refl _ (fun _ => False)).drew
  have Z' := Z
  unfold RdS at Z'
  go_region_held3 (fun w' => w'.cell? ⟨w.heap.size, 0, none⟩ = some (.int .i64 p.i) ∧ w'.cell? ⟨w.heap.size, 1, none⟩ = some (.int .i64 p.j) ∧ w'.cell? ⟨w.heap.size, 2, none⟩ = some (.int .u64 (p.u : Int)) ∧ w'.cell? ⟨w.heap.size, 4, none⟩ = some (.float .f64 p.f) ∧ w'.cell? ⟨w.heap.size, 6, none⟩ = some (.bool p.b) ∧ w'.cell? ⟨w.heap.size, 7, none⟩ = some (.bool p.c) ∧ w'.cell? ⟨w.heap.size, 8, none⟩ = some (.string p.s) ∧ Keeps w w' (fun _ => False)) (first | with_reducible exact Z' | with_reducible assumption) (first | (go_at_call 18; (with_reducible refine (hU1 _).mono ?_); rintro e x1 ⟨rfl, q1⟩; have X1 := hide (Z.keep q1); have X1' := X1.out; unfold RdS at X1') | (go_at_call 19; (with_reducible refine (hU2 _).mono ?_); rintro e x2 ⟨rfl, q2⟩; have X2 := hide (X1.out.keep q2); have X2' := X2.out; unfold RdS at X2') | (go_at_call 20; (with_reducible refine (hU4 _).mono ?_); rintro e x3 ⟨rfl, q3⟩; have X3 := hide (X2.out.keep q3); have X3' := X3.out; unfold RdS at X3'))
  clear Z Z' X1 X1' X2 X2' X3' q1 q2 q3 hU1 hU2 hU4 S4 d0 d1 d2 d4 d6 d7 d8
  go_wp2_with fail
  (with_reducible refine (hU3 _).mono ?_)
  rintro e w5 ⟨rfl, k5⟩
  have S5 := hide (X3.out.keep k5)
  clear X3 k5 hU3
  obtain ⟨d0, d1, d2, d4, d6, d7, d8, -⟩ := S5.out
  have e8 := old_cell (.cells #[.int .i64 (M : Int)] 50) d8
  have hPk := tyt_Pack_yes M p.s hM hv
  have hXs : (strOf (txB M p.s.data.toList)).size = M + 1 := by rw [strOf_size]; exact txB_length hv
  have hWd := tyt_Width (M : Int)
  have hUn := tyt_Unpack (M : Int) (by unfold I64; omega) (strOf (txB M p.s.data.toList))
  rw [strOf_data, tx_round hM hv] at hUn
  have hBk := bsb_Pack_yes M p.s p.c p.j hM hv hj
  obtain ⟨r1, r2, r3⟩ := both_read p.c p.j hM hv hj
  have hW1 : txW (M : Int) = ((M + 1 : Nat) : Int) := by unfold txW; rw [if_pos (inR_mk hM)]; rfl
  have hZs : (strOf (txB M p.s.data.toList ++ (bB p.c ++ be 8 (iB p.j)))).size = M + 1 + 9 := by
    rw [strOf_size, List.length_append, List.length_append, be_length, bB_len, txB_length hv]
  have hBu := bsb_Unpack (M : Int) (by unfold I64; omega) (strOf (txB M p.s.data.toList ++ (bB p.c ++ be 8 (iB p.j)))) (M + 1) hW1 (by omega) hZs
  rw [strOf_data, r1, r2, r3] at hBu
  have hBw := bsb_Width (M : Int)
  rw [hW1] at hWd hBw
  rw [show (((M + 1 : Nat) : Int) + 9) = (M : Int) + 10 by omega] at hBw
  rw [show ((M + 1 : Nat) : Int) = (M : Int) + 1 by omega] at hWd
  clear r1 r2 r3 hW1
  generalize strOf (txB M p.s.data.toList) = X at *
  generalize strOf (txB M p.s.data.toList ++ (bB p.c ++ be 8 (iB p.j))) = Z at *
  have z1 : ((X.size : Int) != (M : Int) + 1) = false := by rw [hXs]; simp
  have z2 : ((Z.size : Int) == (M : Int) + 10) = true := by rw [hZs, beq_iff_eq]; omega
  have g0 : decide ((0 : Int) ≤ (M : Int)) = true := decide_eq_true (by omega)
  have g1 : decide ((M : Int) ≤ 127) = true := decide_eq_true (by omega)
  have g2 : decide ((p.s.size : Int) ≤ (M : Int)) = true := decide_eq_true (by omega)
  have z3 := eq_self3 p.s p.c p.j
  clear hi hj hu hXs hZs hM
  cases hn : nan p.f
  rotate_left
  · have hV : V = 9223372036854775807 := by rw [hF, if_pos hn]
    have nV : nan V = true := by rw [hV]; decide
    have o1 : (FloatKind.f64.format.order V p.f != some .eq) = true := by
      have : FloatKind.f64.format.order V p.f = none := order_nan V p.f (Or.inl nV)
      rw [this]
      rfl
    have o2 : (FloatKind.f64.format.order V 0 == some .eq) = false := by
      have : FloatKind.f64.format.order V 0 = none := order_nan V 0 (Or.inl nV)
      rw [this]
      rfl
    rw [nV] at hN1
    rw [hn] at hN2
    clear hV nV hF hFl nf1 nf2 zf hn
    go_wp2_with fail
    (with_reducible refine (hN1 _).mono ?_)
    rintro e wa ⟨rfl, ea⟩
    replace ea := ea.symm
    subst ea
    go_wp2_with fail
    (with_reducible refine (hN2 _).mono ?_)
    rintro e wb ⟨rfl, eb⟩
    replace eb := eb.symm
    subst eb
    clear hN1 hN2
    go_wp2_with fail
    (with_reducible refine (hPk _).mono ?_)
    rintro e w6 ⟨rfl, k6⟩
    have t0 : w6.cell? ⟨w5.heap.size, 0, none⟩ = some (.int .i64 (M : Int)) := kcell k6 (new_cell w5 #[.int .i64 (M : Int)] 50 0 _ rfl)
    have S6 := hide ((S5.out.keep ((Keeps.refl _ (fun _ => False)).alloc (.cells #[.int .i64 (M : Int)] 50))).keep k6)
    clear S5 k6 hPk d0 d1 d2 d4 d6 d7 d8 e8
    obtain ⟨d0, d1, d2, d4, d6, d7, d8, -⟩ := S6.out
    have A0 : w6.drew.cell? ⟨w.heap.size, 8, none⟩ = some (.string p.s) ∧ w6.drew.cell? ⟨w5.heap.size, 0, none⟩ = some (.int .i64 (M : Int)) ∧ Keeps w6 w6.drew (fun _ => False) := ⟨d8, t0, (Keeps.refl _ _).drew⟩
    go_wp2_with fail
    go_region_held3 (fun w' => w'.cell? ⟨w.heap.size, 8, none⟩ = some (.string p.s) ∧ w'.cell? ⟨w5.heap.size, 0, none⟩ = some (.int .i64 (M : Int)) ∧ Keeps w6 w' (fun _ => False)) (first | with_reducible exact A0 | with_reducible assumption) (first | (go_at_call 23; (with_reducible refine (hWd _).mono ?_); rintro e y1 ⟨rfl, q1⟩; have A1 : y1.cell? ⟨w.heap.size, 8, none⟩ = some (.string p.s) ∧ y1.cell? ⟨w5.heap.size, 0, none⟩ = some (.int .i64 (M : Int)) ∧ Keeps w6 y1 (fun _ => False) := ⟨kcell q1 A0.1, kcell q1 A0.2.1, A0.2.2.trans q1 (fun _ _ x => x)⟩) | (go_at_call 24; (with_reducible refine (hUn _).mono ?_); rintro e w7 ⟨rfl, q2⟩; have A2 : w7.cell? ⟨w.heap.size, 8, none⟩ = some (.string p.s) ∧ w7.cell? ⟨w5.heap.size, 0, none⟩ = some (.int .i64 (M : Int)) ∧ Keeps w6 w7 (fun _ => False) := ⟨kcell q2 A1.1, kcell q2 A1.2.1, A1.2.2.trans q2 (fun _ _ x => x)⟩))
    have k7 := A2.2.2
    clear A0 A1 A2 q1 q2 hWd hUn z1
    have S7 := hide (S6.out.keep k7)
    have t1 := kcell k7 t0
    clear S6 t0 k7 d0 d1 d2 d4 d6 d7 d8
    obtain ⟨d0, d1, d2, d4, d6, d7, d8, -⟩ := S7.out
    have b1 := old_cell (.cells #[.iface 50 (.agg #[.int .i64 (M : Int)]), .iface 59 (.agg #[.iface 34 (.agg #[]), .iface 28 (.agg #[])])] 65) d1
    have b7 := old_cell (.cells #[.iface 50 (.agg #[.int .i64 (M : Int)]), .iface 59 (.agg #[.iface 34 (.agg #[]), .iface 28 (.agg #[])])] 65) d7
    have b8 := old_cell (.cells #[.iface 50 (.agg #[.int .i64 (M : Int)]), .iface 59 (.agg #[.iface 34 (.agg #[]), .iface 28 (.agg #[])])] 65) d8
    go_wp2_with fail
    (with_reducible refine (hBk _).mono ?_)
    rintro e w8 ⟨rfl, k8⟩
    have K8 := (((S7.out.2.2.2.2.2.2.2.alloc (.cells #[.iface 50 (.agg #[.int .i64 (M : Int)]), .iface 59 (.agg #[.iface 34 (.agg #[]), .iface 28 (.agg #[])])] 65)).alloc (.cells #[.string p.s, .bool p.c, .int .i64 p.j] 69)).trans k8 (fun _ _ x => x)).drew
    have B0 : w8.drew.cell? ⟨w7.heap.size, 0, none⟩ = some (.iface 50 (.agg #[.int .i64 (M : Int)])) ∧ w8.drew.cell? ⟨w7.heap.size, 1, none⟩ = some (.iface 59 (.agg #[.iface 34 (.agg #[]), .iface 28 (.agg #[])])) ∧ w8.drew.cell? ⟨w7.heap.size + 1, 0, none⟩ = some (.string p.s) ∧ w8.drew.cell? ⟨w7.heap.size + 1, 1, none⟩ = some (.bool p.c) ∧ w8.drew.cell? ⟨w7.heap.size + 1, 2, none⟩ = some (.int .i64 p.j) ∧ Keeps w w8.drew (fun _ => False) := ⟨kcell k8 (old_cell _ (new_cell _ _ _ _ _ rfl)), kcell k8 (old_cell _ (new_cell _ _ _ _ _ rfl)), kcell k8 (next_cell _ _ _ _ _ _ rfl), kcell k8 (next_cell _ _ _ _ _ _ rfl), kcell k8 (next_cell _ _ _ _ _ _ rfl), K8⟩
    clear S7 k8 K8 d0 d1 d2 d4 d6 d7 d8 b1 b7 b8 t1 hBk
    go_wp2_with fail
    go_region_held3 (fun w' => w'.cell? ⟨w7.heap.size, 0, none⟩ = some (.iface 50 (.agg #[.int .i64 (M : Int)])) ∧ w'.cell? ⟨w7.heap.size, 1, none⟩ = some (.iface 59 (.agg #[.iface 34 (.agg #[]), .iface 28 (.agg #[])])) ∧ w'.cell? ⟨w7.heap.size + 1, 0, none⟩ = some (.string p.s) ∧ w'.cell? ⟨w7.heap.size + 1, 1, none⟩ = some (.bool p.c) ∧ w'.cell? ⟨w7.heap.size + 1, 2, none⟩ = some (.int .i64 p.j) ∧ Keeps w w' (fun _ => False)) (first | with_reducible exact B0 | with_reducible assumption) (first | (go_at_call 26; (with_reducible refine (hBu _).mono ?_); rintro e y3 ⟨rfl, q3⟩; have B1 : y3.cell? ⟨w7.heap.size, 0, none⟩ = some (.iface 50 (.agg #[.int .i64 (M : Int)])) ∧ y3.cell? ⟨w7.heap.size, 1, none⟩ = some (.iface 59 (.agg #[.iface 34 (.agg #[]), .iface 28 (.agg #[])])) ∧ y3.cell? ⟨w7.heap.size + 1, 0, none⟩ = some (.string p.s) ∧ y3.cell? ⟨w7.heap.size + 1, 1, none⟩ = some (.bool p.c) ∧ y3.cell? ⟨w7.heap.size + 1, 2, none⟩ = some (.int .i64 p.j) ∧ Keeps w y3 (fun _ => False) := ⟨kcell q3 B0.1, kcell q3 B0.2.1, kcell q3 B0.2.2.1, kcell q3 B0.2.2.2.1, kcell q3 B0.2.2.2.2.1, B0.2.2.2.2.2.trans q3 (fun _ _ x => x)⟩) | (go_at_call 27; (with_reducible refine (hBw _).mono ?_); rintro e y4 ⟨rfl, q4⟩; have B2 : y4.cell? ⟨w7.heap.size, 0, none⟩ = some (.iface 50 (.agg #[.int .i64 (M : Int)])) ∧ y4.cell? ⟨w7.heap.size, 1, none⟩ = some (.iface 59 (.agg #[.iface 34 (.agg #[]), .iface 28 (.agg #[])])) ∧ y4.cell? ⟨w7.heap.size + 1, 0, none⟩ = some (.string p.s) ∧ y4.cell? ⟨w7.heap.size + 1, 1, none⟩ = some (.bool p.c) ∧ y4.cell? ⟨w7.heap.size + 1, 2, none⟩ = some (.int .i64 p.j) ∧ Keeps w y4 (fun _ => False) := ⟨kcell q4 B1.1, kcell q4 B1.2.1, kcell q4 B1.2.2.1, kcell q4 B1.2.2.2.1, kcell q4 B1.2.2.2.2.1, B1.2.2.2.2.2.trans q4 (fun _ _ x => x)⟩))
    have KZ := B2.2.2.2.2.2
    clear B0 B1 B2
    go_wp2_with fail
    go_ret
    exact ⟨by first | rfl | simp, KZ⟩
  · by_cases hz : p.f % 9223372036854775808 = 0
    · have hV : V = 0 := by rw [hF, if_neg (by rw [hn]; decide), if_pos hz]
      have o1 : (FloatKind.f64.format.order 0 p.f != some .eq) = false := by
        have h : (FloatKind.f64.format.order 0 p.f == some .eq) = (!nan 0 && !nan p.f && decide (rise 0 = rise p.f)) := eq_rise (by omega) hf
        have h2 : rise p.f = 9223372036854775808 := by unfold rise; rw [hn, if_neg (by decide), if_pos hz]
        rw [hn, h2, show nan 0 = false by decide, show rise 0 = 9223372036854775808 by decide] at h
        rw [bne, h]
        decide
      have o2 : (FloatKind.f64.format.order 0 0 == some .eq) = true := by decide +kernel
      have o3 := one_zero
      have o4 := inf_pos
      subst hV
      clear hF hFl nf1 nf2 zf hn hN1 hN2 hz
      go_wp2_with fail
      (with_reducible refine (hPk _).mono ?_)
      rintro e w6 ⟨rfl, k6⟩
      have t0 : w6.cell? ⟨w5.heap.size, 0, none⟩ = some (.int .i64 (M : Int)) := kcell k6 (new_cell w5 #[.int .i64 (M : Int)] 50 0 _ rfl)
      have S6 := hide ((S5.out.keep ((Keeps.refl _ (fun _ => False)).alloc (.cells #[.int .i64 (M : Int)] 50))).keep k6)
      clear S5 k6 hPk d0 d1 d2 d4 d6 d7 d8 e8
      obtain ⟨d0, d1, d2, d4, d6, d7, d8, -⟩ := S6.out
      have A0 : w6.drew.cell? ⟨w.heap.size, 8, none⟩ = some (.string p.s) ∧ w6.drew.cell? ⟨w5.heap.size, 0, none⟩ = some (.int .i64 (M : Int)) ∧ Keeps w6 w6.drew (fun _ => False) := ⟨d8, t0, (Keeps.refl _ _).drew⟩
      go_wp2_with fail
      go_region_held3 (fun w' => w'.cell? ⟨w.heap.size, 8, none⟩ = some (.string p.s) ∧ w'.cell? ⟨w5.heap.size, 0, none⟩ = some (.int .i64 (M : Int)) ∧ Keeps w6 w' (fun _ => False)) (first | with_reducible exact A0 | with_reducible assumption) (first | (go_at_call 23; (with_reducible refine (hWd _).mono ?_); rintro e y1 ⟨rfl, q1⟩; have A1 : y1.cell? ⟨w.heap.size, 8, none⟩ = some (.string p.s) ∧ y1.cell? ⟨w5.heap.size, 0, none⟩ = some (.int .i64 (M : Int)) ∧ Keeps w6 y1 (fun _ => False) := ⟨kcell q1 A0.1, kcell q1 A0.2.1, A0.2.2.trans q1 (fun _ _ x => x)⟩) | (go_at_call 24; (with_reducible refine (hUn _).mono ?_); rintro e w7 ⟨rfl, q2⟩; have A2 : w7.cell? ⟨w.heap.size, 8, none⟩ = some (.string p.s) ∧ w7.cell? ⟨w5.heap.size, 0, none⟩ = some (.int .i64 (M : Int)) ∧ Keeps w6 w7 (fun _ => False) := ⟨kcell q2 A1.1, kcell q2 A1.2.1, A1.2.2.trans q2 (fun _ _ x => x)⟩))
      have k7 := A2.2.2
      clear A0 A1 A2 q1 q2 hWd hUn z1
      have S7 := hide (S6.out.keep k7)
      have t1 := kcell k7 t0
      clear S6 t0 k7 d0 d1 d2 d4 d6 d7 d8
      obtain ⟨d0, d1, d2, d4, d6, d7, d8, -⟩ := S7.out
      have b1 := old_cell (.cells #[.iface 50 (.agg #[.int .i64 (M : Int)]), .iface 59 (.agg #[.iface 34 (.agg #[]), .iface 28 (.agg #[])])] 65) d1
      have b7 := old_cell (.cells #[.iface 50 (.agg #[.int .i64 (M : Int)]), .iface 59 (.agg #[.iface 34 (.agg #[]), .iface 28 (.agg #[])])] 65) d7
      have b8 := old_cell (.cells #[.iface 50 (.agg #[.int .i64 (M : Int)]), .iface 59 (.agg #[.iface 34 (.agg #[]), .iface 28 (.agg #[])])] 65) d8
      go_wp2_with fail
      (with_reducible refine (hBk _).mono ?_)
      rintro e w8 ⟨rfl, k8⟩
      have K8 := (((S7.out.2.2.2.2.2.2.2.alloc (.cells #[.iface 50 (.agg #[.int .i64 (M : Int)]), .iface 59 (.agg #[.iface 34 (.agg #[]), .iface 28 (.agg #[])])] 65)).alloc (.cells #[.string p.s, .bool p.c, .int .i64 p.j] 69)).trans k8 (fun _ _ x => x)).drew
      have B0 : w8.drew.cell? ⟨w7.heap.size, 0, none⟩ = some (.iface 50 (.agg #[.int .i64 (M : Int)])) ∧ w8.drew.cell? ⟨w7.heap.size, 1, none⟩ = some (.iface 59 (.agg #[.iface 34 (.agg #[]), .iface 28 (.agg #[])])) ∧ w8.drew.cell? ⟨w7.heap.size + 1, 0, none⟩ = some (.string p.s) ∧ w8.drew.cell? ⟨w7.heap.size + 1, 1, none⟩ = some (.bool p.c) ∧ w8.drew.cell? ⟨w7.heap.size + 1, 2, none⟩ = some (.int .i64 p.j) ∧ Keeps w w8.drew (fun _ => False) := ⟨kcell k8 (old_cell _ (new_cell _ _ _ _ _ rfl)), kcell k8 (old_cell _ (new_cell _ _ _ _ _ rfl)), kcell k8 (next_cell _ _ _ _ _ _ rfl), kcell k8 (next_cell _ _ _ _ _ _ rfl), kcell k8 (next_cell _ _ _ _ _ _ rfl), K8⟩
      clear S7 k8 K8 d0 d1 d2 d4 d6 d7 d8 b1 b7 b8 t1 hBk
      go_wp2_with fail
      go_region_held3 (fun w' => w'.cell? ⟨w7.heap.size, 0, none⟩ = some (.iface 50 (.agg #[.int .i64 (M : Int)])) ∧ w'.cell? ⟨w7.heap.size, 1, none⟩ = some (.iface 59 (.agg #[.iface 34 (.agg #[]), .iface 28 (.agg #[])])) ∧ w'.cell? ⟨w7.heap.size + 1, 0, none⟩ = some (.string p.s) ∧ w'.cell? ⟨w7.heap.size + 1, 1, none⟩ = some (.bool p.c) ∧ w'.cell? ⟨w7.heap.size + 1, 2, none⟩ = some (.int .i64 p.j) ∧ Keeps w w' (fun _ => False)) (first | with_reducible exact B0 | with_reducible assumption) (first | (go_at_call 26; (with_reducible refine (hBu _).mono ?_); rintro e y3 ⟨rfl, q3⟩; have B1 : y3.cell? ⟨w7.heap.size, 0, none⟩ = some (.iface 50 (.agg #[.int .i64 (M : Int)])) ∧ y3.cell? ⟨w7.heap.size, 1, none⟩ = some (.iface 59 (.agg #[.iface 34 (.agg #[]), .iface 28 (.agg #[])])) ∧ y3.cell? ⟨w7.heap.size + 1, 0, none⟩ = some (.string p.s) ∧ y3.cell? ⟨w7.heap.size + 1, 1, none⟩ = some (.bool p.c) ∧ y3.cell? ⟨w7.heap.size + 1, 2, none⟩ = some (.int .i64 p.j) ∧ Keeps w y3 (fun _ => False) := ⟨kcell q3 B0.1, kcell q3 B0.2.1, kcell q3 B0.2.2.1, kcell q3 B0.2.2.2.1, kcell q3 B0.2.2.2.2.1, B0.2.2.2.2.2.trans q3 (fun _ _ x => x)⟩) | (go_at_call 27; (with_reducible refine (hBw _).mono ?_); rintro e y4 ⟨rfl, q4⟩; have B2 : y4.cell? ⟨w7.heap.size, 0, none⟩ = some (.iface 50 (.agg #[.int .i64 (M : Int)])) ∧ y4.cell? ⟨w7.heap.size, 1, none⟩ = some (.iface 59 (.agg #[.iface 34 (.agg #[]), .iface 28 (.agg #[])])) ∧ y4.cell? ⟨w7.heap.size + 1, 0, none⟩ = some (.string p.s) ∧ y4.cell? ⟨w7.heap.size + 1, 1, none⟩ = some (.bool p.c) ∧ y4.cell? ⟨w7.heap.size + 1, 2, none⟩ = some (.int .i64 p.j) ∧ Keeps w y4 (fun _ => False) := ⟨kcell q4 B1.1, kcell q4 B1.2.1, kcell q4 B1.2.2.1, kcell q4 B1.2.2.2.1, kcell q4 B1.2.2.2.2.1, B1.2.2.2.2.2.trans q4 (fun _ _ x => x)⟩))
      have KZ := B2.2.2.2.2.2
      clear B0 B1 B2
      go_wp2_with fail
      go_ret
      exact ⟨by first | rfl | simp, KZ⟩
    · have hV : V = p.f := by rw [hF, if_neg (by rw [hn]; decide), if_neg hz]
      rw [decide_eq_false hz] at zf
      rw [hn] at nf1
      subst hV
      clear hF hFl nf2 hn hN1 hN2 hz
      go_wp2_with fail
      (with_reducible refine (hPk _).mono ?_)
      rintro e w6 ⟨rfl, k6⟩
      have t0 : w6.cell? ⟨w5.heap.size, 0, none⟩ = some (.int .i64 (M : Int)) := kcell k6 (new_cell w5 #[.int .i64 (M : Int)] 50 0 _ rfl)
      have S6 := hide ((S5.out.keep ((Keeps.refl _ (fun _ => False)).alloc (.cells #[.int .i64 (M : Int)] 50))).keep k6)
      clear S5 k6 hPk d0 d1 d2 d4 d6 d7 d8 e8
      obtain ⟨d0, d1, d2, d4, d6, d7, d8, -⟩ := S6.out
      have A0 : w6.drew.cell? ⟨w.heap.size, 8, none⟩ = some (.string p.s) ∧ w6.drew.cell? ⟨w5.heap.size, 0, none⟩ = some (.int .i64 (M : Int)) ∧ Keeps w6 w6.drew (fun _ => False) := ⟨d8, t0, (Keeps.refl _ _).drew⟩
      go_wp2_with fail
      go_region_held3 (fun w' => w'.cell? ⟨w.heap.size, 8, none⟩ = some (.string p.s) ∧ w'.cell? ⟨w5.heap.size, 0, none⟩ = some (.int .i64 (M : Int)) ∧ Keeps w6 w' (fun _ => False)) (first | with_reducible exact A0 | with_reducible assumption) (first | (go_at_call 23; (with_reducible refine (hWd _).mono ?_); rintro e y1 ⟨rfl, q1⟩; have A1 : y1.cell? ⟨w.heap.size, 8, none⟩ = some (.string p.s) ∧ y1.cell? ⟨w5.heap.size, 0, none⟩ = some (.int .i64 (M : Int)) ∧ Keeps w6 y1 (fun _ => False) := ⟨kcell q1 A0.1, kcell q1 A0.2.1, A0.2.2.trans q1 (fun _ _ x => x)⟩) | (go_at_call 24; (with_reducible refine (hUn _).mono ?_); rintro e w7 ⟨rfl, q2⟩; have A2 : w7.cell? ⟨w.heap.size, 8, none⟩ = some (.string p.s) ∧ w7.cell? ⟨w5.heap.size, 0, none⟩ = some (.int .i64 (M : Int)) ∧ Keeps w6 w7 (fun _ => False) := ⟨kcell q2 A1.1, kcell q2 A1.2.1, A1.2.2.trans q2 (fun _ _ x => x)⟩))
      have k7 := A2.2.2
      clear A0 A1 A2 q1 q2 hWd hUn z1
      have S7 := hide (S6.out.keep k7)
      have t1 := kcell k7 t0
      clear S6 t0 k7 d0 d1 d2 d4 d6 d7 d8
      obtain ⟨d0, d1, d2, d4, d6, d7, d8, -⟩ := S7.out
      have b1 := old_cell (.cells #[.iface 50 (.agg #[.int .i64 (M : Int)]), .iface 59 (.agg #[.iface 34 (.agg #[]), .iface 28 (.agg #[])])] 65) d1
      have b7 := old_cell (.cells #[.iface 50 (.agg #[.int .i64 (M : Int)]), .iface 59 (.agg #[.iface 34 (.agg #[]), .iface 28 (.agg #[])])] 65) d7
      have b8 := old_cell (.cells #[.iface 50 (.agg #[.int .i64 (M : Int)]), .iface 59 (.agg #[.iface 34 (.agg #[]), .iface 28 (.agg #[])])] 65) d8
      go_wp2_with fail
      (with_reducible refine (hBk _).mono ?_)
      rintro e w8 ⟨rfl, k8⟩
      have K8 := (((S7.out.2.2.2.2.2.2.2.alloc (.cells #[.iface 50 (.agg #[.int .i64 (M : Int)]), .iface 59 (.agg #[.iface 34 (.agg #[]), .iface 28 (.agg #[])])] 65)).alloc (.cells #[.string p.s, .bool p.c, .int .i64 p.j] 69)).trans k8 (fun _ _ x => x)).drew
      have B0 : w8.drew.cell? ⟨w7.heap.size, 0, none⟩ = some (.iface 50 (.agg #[.int .i64 (M : Int)])) ∧ w8.drew.cell? ⟨w7.heap.size, 1, none⟩ = some (.iface 59 (.agg #[.iface 34 (.agg #[]), .iface 28 (.agg #[])])) ∧ w8.drew.cell? ⟨w7.heap.size + 1, 0, none⟩ = some (.string p.s) ∧ w8.drew.cell? ⟨w7.heap.size + 1, 1, none⟩ = some (.bool p.c) ∧ w8.drew.cell? ⟨w7.heap.size + 1, 2, none⟩ = some (.int .i64 p.j) ∧ Keeps w w8.drew (fun _ => False) := ⟨kcell k8 (old_cell _ (new_cell _ _ _ _ _ rfl)), kcell k8 (old_cell _ (new_cell _ _ _ _ _ rfl)), kcell k8 (next_cell _ _ _ _ _ _ rfl), kcell k8 (next_cell _ _ _ _ _ _ rfl), kcell k8 (next_cell _ _ _ _ _ _ rfl), K8⟩
      clear S7 k8 K8 d0 d1 d2 d4 d6 d7 d8 b1 b7 b8 t1 hBk
      go_wp2_with fail
      go_region_held3 (fun w' => w'.cell? ⟨w7.heap.size, 0, none⟩ = some (.iface 50 (.agg #[.int .i64 (M : Int)])) ∧ w'.cell? ⟨w7.heap.size, 1, none⟩ = some (.iface 59 (.agg #[.iface 34 (.agg #[]), .iface 28 (.agg #[])])) ∧ w'.cell? ⟨w7.heap.size + 1, 0, none⟩ = some (.string p.s) ∧ w'.cell? ⟨w7.heap.size + 1, 1, none⟩ = some (.bool p.c) ∧ w'.cell? ⟨w7.heap.size + 1, 2, none⟩ = some (.int .i64 p.j) ∧ Keeps w w' (fun _ => False)) (first | with_reducible exact B0 | with_reducible assumption) (first | (go_at_call 26; (with_reducible refine (hBu _).mono ?_); rintro e y3 ⟨rfl, q3⟩; have B1 : y3.cell? ⟨w7.heap.size, 0, none⟩ = some (.iface 50 (.agg #[.int .i64 (M : Int)])) ∧ y3.cell? ⟨w7.heap.size, 1, none⟩ = some (.iface 59 (.agg #[.iface 34 (.agg #[]), .iface 28 (.agg #[])])) ∧ y3.cell? ⟨w7.heap.size + 1, 0, none⟩ = some (.string p.s) ∧ y3.cell? ⟨w7.heap.size + 1, 1, none⟩ = some (.bool p.c) ∧ y3.cell? ⟨w7.heap.size + 1, 2, none⟩ = some (.int .i64 p.j) ∧ Keeps w y3 (fun _ => False) := ⟨kcell q3 B0.1, kcell q3 B0.2.1, kcell q3 B0.2.2.1, kcell q3 B0.2.2.2.1, kcell q3 B0.2.2.2.2.1, B0.2.2.2.2.2.trans q3 (fun _ _ x => x)⟩) | (go_at_call 27; (with_reducible refine (hBw _).mono ?_); rintro e y4 ⟨rfl, q4⟩; have B2 : y4.cell? ⟨w7.heap.size, 0, none⟩ = some (.iface 50 (.agg #[.int .i64 (M : Int)])) ∧ y4.cell? ⟨w7.heap.size, 1, none⟩ = some (.iface 59 (.agg #[.iface 34 (.agg #[]), .iface 28 (.agg #[])])) ∧ y4.cell? ⟨w7.heap.size + 1, 0, none⟩ = some (.string p.s) ∧ y4.cell? ⟨w7.heap.size + 1, 1, none⟩ = some (.bool p.c) ∧ y4.cell? ⟨w7.heap.size + 1, 2, none⟩ = some (.int .i64 p.j) ∧ Keeps w y4 (fun _ => False) := ⟨kcell q4 B1.1, kcell q4 B1.2.1, kcell q4 B1.2.2.1, kcell q4 B1.2.2.2.1, kcell q4 B1.2.2.2.2.1, B1.2.2.2.2.2.trans q4 (fun _ _ x => x)⟩))
      have KZ := B2.2.2.2.2.2
      clear B0 B1 B2
      go_wp2_with fail
      go_ret
      exact ⟨by first | rfl | simp, KZ⟩
end typedRound
end Go.Proofs.Ytgbeacfiaegehaa
