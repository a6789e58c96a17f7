/-
  typed: TypedOrder's walk. (genYE.py)
-/
import Derived.Test.YtgbeacfiaegehaaYD
namespace Go.Proofs.Ytgbeacfiaegehaa
open Go.RowKit
open Fl
set_option linter.unusedVariables false
namespace typedOrder
theorem be8_lt {n m : Nat} (hn : n < 18446744073709551616) (hm : m < 18446744073709551616) : Op.bytesLess (strOf (be 8 n)).toList (strOf (be 8 m)).toList = decide (n < m) := by rw [strOf_toList, strOf_toList, be8_less hn hm]
theorem be8_eq {n m : Nat} (hn : n < 18446744073709551616) (hm : m < 18446744073709551616) : ((strOf (be 8 n)).toList == (strOf (be 8 m)).toList) = decide (n = m) := by
  rw [strOf_toList, strOf_toList, Bool.eq_iff_iff, beq_iff_eq, decide_eq_true_eq]
  exact be8_inj hn hm
theorem be8_size (n : Nat) : ((strOf (be 8 n)).size : Int) = 8 := by rw [strOf_size, be_length]; rfl
theorem bB_size (b : Bool) : ((strOf (bB b)).size : Int) = 1 := by cases b <;> rfl
theorem bB_lt (b c : Bool) : Op.bytesLess (strOf (bB b)).toList (strOf (bB c)).toList = (!b && c) := by rw [strOf_toList, strOf_toList]; cases b <;> cases c <;> decide
theorem bB_eq (b c : Bool) : ((strOf (bB b)).toList == (strOf (bB c)).toList) = (b == c) := by rw [strOf_toList, strOf_toList]; cases b <;> cases c <;> decide
set_option maxRecDepth 100000 in
set_option maxHeartbeats 8000000 in
theorem walk (p : PairD) (hp : p.Ok) (w : World) : Calls Try.prog 3 #[.agg p.cells] w fun e w' => e = .returned (.bool true) ∧ Keeps w w' (fun _ => False) := by
  have hTx := texts_any p hp
  have hTw := twos_any p hp (decide (p.i < p.j)) (p.i == p.j) (by obtain ⟨hi, hj, -⟩ := hp; rw [Bool.eq_iff_iff, decide_eq_true_eq, decide_eq_true_eq]; exact (iB_lt_iff hi hj).symm) (by obtain ⟨hi, hj, -⟩ := hp; rw [Bool.eq_iff_iff, beq_iff_eq, decide_eq_true_eq]; exact (iB_inj hi hj).symm)
  obtain ⟨hi, hj, hu, hv, hf, hg, hs, ht⟩ := hp
  have S0 := pairAt_new w p
  have K0 : Keeps w (w.alloc (.cells p.cells 25)) (fun _ => False) := (Keeps.refl _ _).alloc _
  have hA : p.cells = #[.int .i64 p.i, .int .i64 p.j, .int .u64 (p.u : Int), .int .u64 (p.v : Int), .float .f64 p.f, .float .f64 p.g, .bool p.b, .bool p.c, .string p.s, .string p.t] := rfl
  rw [hA] at S0 K0 hTx hTw ⊢
  clear hA
  have hP1 := tyi_Pack p.i hi
  have hP2 := tyi_Pack p.j hj
  have hP3 := tyu_Pack p.u hu
  have hP4 := tyu_Pack p.v hv
  have hP5 := tyf_Pack p.f hf
  have hP6 := tyf_Pack p.g hg
  have hP7 := tyb_Pack p.b
  have hP8 := tyb_Pack p.c
  have z1 := be8_size (iB p.i)
  have z2 := be8_size (iB p.j)
  have z3 := be8_size p.u
  have z4 := be8_size p.v
  have z5 := be8_size (rise p.f)
  have z6 := be8_size (rise p.g)
  have z7 := bB_size p.b
  have z8 := bB_size p.c
  have l1 : Op.bytesLess (strOf (be 8 (iB p.i))).toList (strOf (be 8 (iB p.j))).toList = decide (p.i < p.j) := by
    rw [be8_lt (iB_lt hi) (iB_lt hj), Bool.eq_iff_iff, decide_eq_true_eq, decide_eq_true_eq]
    exact iB_lt_iff hi hj
  have q1 : ((strOf (be 8 (iB p.i))).toList == (strOf (be 8 (iB p.j))).toList) = (p.i == p.j) := by
    rw [be8_eq (iB_lt hi) (iB_lt hj), Bool.eq_iff_iff, decide_eq_true_eq, beq_iff_eq]
    exact iB_inj hi hj
  have l2 := be8_lt hu hv
  have q2 : ((strOf (be 8 p.u)).toList == (strOf (be 8 p.v)).toList) = ((p.u : Int) == (p.v : Int)) := by
    rw [be8_eq hu hv, Bool.eq_iff_iff, decide_eq_true_eq, beq_iff_eq]
    omega
  have l3 := be8_lt (rise_lt p.f hf) (rise_lt p.g hg)
  have q3 := be8_eq (rise_lt p.f hf) (rise_lt p.g hg)
  have l4 := bB_lt p.b p.c
  have q4 := bB_eq p.b p.c
  have hN1 := number_any p.f hf
  have hN2 := number_any p.g hg
  have hBe := below_any p.f p.g hf hg
  have hal := alike_rise hf hg
  clear hi hj hf hg hu hv hs ht
  generalize strOf (be 8 (iB p.i)) = T1 at *
  generalize strOf (be 8 (iB p.j)) = T2 at *
  generalize strOf (be 8 p.u) = T3 at *
  generalize strOf (be 8 p.v) = T4 at *
  generalize strOf (be 8 (rise p.f)) = T5 at *
  generalize strOf (be 8 (rise p.g)) = T6 at *
  generalize strOf (bB p.b) = T7 at *
  generalize strOf (bB p.c) = T8 at *
  generalize decide (rise p.f < rise p.g) = A at *
  generalize decide (rise p.f = rise p.g) = B at *
  obtain ⟨o, ho⟩ : ∃ o, (FloatKind.f64.format.order p.f p.g == some .eq) = o := ⟨_, rfl⟩
  rw [ho] at hal
  generalize nan p.f = nf at *
  generalize nan p.g = ng at *
  obtain ⟨c0, c1, c2, c3, c4, c5, c6, c7, c8, c9⟩ := id S0
  go_enter Try.func3, Try.ntmps3
  go_wp2_with fail
  (with_reducible refine (hP1 _).mono ?_)
  rintro e w1 ⟨rfl, k1⟩
  have S1 := S0.keep k1
  have K1 := K0.trans k1 (fun _ _ x => x)
  clear S0 K0 k1 hP1 c0 c1 c2 c3 c4 c5 c6 c7 c8 c9
  obtain ⟨c0, c1, c2, c3, c4, c5, c6, c7, c8, c9⟩ := id S1
  go_wp2_with fail
  (with_reducible refine (hP2 _).mono ?_)
  rintro e w2 ⟨rfl, k2⟩
  have S2 := S1.keep k2
  have K2 := K1.trans k2 (fun _ _ x => x)
  clear S1 K1 k2 hP2 c0 c1 c2 c3 c4 c5 c6 c7 c8 c9
  obtain ⟨c0, c1, c2, c3, c4, c5, c6, c7, c8, c9⟩ := id S2
  go_wp2_with fail
  (with_reducible refine (hP3 _).mono ?_)
  rintro e w3 ⟨rfl, k3⟩
  have S3 := S2.keep k3
  have K3 := K2.trans k3 (fun _ _ x => x)
  clear S2 K2 k3 hP3 c0 c1 c2 c3 c4 c5 c6 c7 c8 c9
  obtain ⟨c0, c1, c2, c3, c4, c5, c6, c7, c8, c9⟩ := id S3
  go_wp2_with fail
  (with_reducible refine (hP4 _).mono ?_)
  rintro e w4 ⟨rfl, k4⟩
  have S4 := S3.keep k4
  have K4 := K3.trans k4 (fun _ _ x => x)
  clear S3 K3 k4 hP4 c0 c1 c2 c3 c4 c5 c6 c7 c8 c9
  obtain ⟨c0, c1, c2, c3, c4, c5, c6, c7, c8, c9⟩ := id S4
  go_wp2_with fail
  (with_reducible refine (hP5 _).mono ?_)
  rintro e w5 ⟨rfl, k5⟩
  have S5 := S4.keep k5
  have K5 := K4.trans k5 (fun _ _ x => x)
  clear S4 K4 k5 hP5 c0 c1 c2 c3 c4 c5 c6 c7 c8 c9
  obtain ⟨c0, c1, c2, c3, c4, c5, c6, c7, c8, c9⟩ := id S5
  go_wp2_with fail
  (with_reducible refine (hP6 _).mono ?_)
  rintro e w6 ⟨rfl, k6⟩
  have S6 := S5.keep k6
  have K6 := K5.trans k6 (fun _ _ x => x)
  clear S5 K5 k6 hP6 c0 c1 c2 c3 c4 c5 c6 c7 c8 c9
  obtain ⟨c0, c1, c2, c3, c4, c5, c6, c7, c8, c9⟩ := id S6
  go_wp2_with fail
  (with_reducible refine (hP7 _).mono ?_)
  rintro e w7 ⟨rfl, k7⟩
  have S7 := S6.keep k7
  have K7 := K6.trans k7 (fun _ _ x => x)
  clear S6 K6 k7 hP7 c0 c1 c2 c3 c4 c5 c6 c7 c8 c9
  obtain ⟨c0, c1, c2, c3, c4, c5, c6, c7, c8, c9⟩ := id S7
  go_wp2_with fail
  (with_reducible refine (hP8 _).mono ?_)
  rintro e w8 ⟨rfl, k8⟩
  have S8 := S7.keep k8
  have K8 := K7.trans k8 (fun _ _ x => x)
  clear S7 K7 k8 hP8 c0 c1 c2 c3 c4 c5 c6 c7 c8 c9
  obtain ⟨c0, c1, c2, c3, c4, c5, c6, c7, c8, c9⟩ := id S8
  cases o
  · cases nf
    · cases ng
      · obtain rfl : B = _ := hal.symm
        go_upto_region 15 with (first | (go_at_call 12; (with_reducible refine (hBe _).mono ?_); rintro e wn ⟨rfl, e9⟩; subst e9) | (go_at_call 13; first | ((with_reducible refine (hN1 _).mono ?_); rintro e wn ⟨rfl, e9⟩; subst e9) | ((with_reducible refine (hN2 _).mono ?_); rintro e wn ⟨rfl, e9⟩; subst e9)))
        clear hBe hN1 hN2 hal ho
        rcases hpb : p.b with _ | _
        all_goals
          rw [hpb] at l4 q4 hTx hTw
          go_upto_region 17 with fail
          go_wp2_with fail
          (with_reducible refine (hTx _).mono ?_)
          rintro e wx ⟨rfl, kx⟩
          have Sx := S8.keep kx
          have Kx := K8.trans kx (fun _ _ x => x)
          clear c0 c1 c2 c3 c4 c5 c6 c7 c8 c9
          obtain ⟨c0, c1, c2, c3, c4, c5, c6, c7, c8, c9⟩ := id Sx
          go_wp2_with fail
          (with_reducible refine (hTw _).mono ?_)
          rintro e wy ⟨rfl, ky⟩
          go_wp2_with fail
          go_ret
          exact ⟨rfl, Kx.trans ky (fun _ _ x => x)⟩
      · obtain rfl : B = _ := hal.symm
        go_upto_region 15 with (first | (go_at_call 12; (with_reducible refine (hBe _).mono ?_); rintro e wn ⟨rfl, e9⟩; subst e9) | (go_at_call 13; first | ((with_reducible refine (hN1 _).mono ?_); rintro e wn ⟨rfl, e9⟩; subst e9) | ((with_reducible refine (hN2 _).mono ?_); rintro e wn ⟨rfl, e9⟩; subst e9)))
        clear hBe hN1 hN2 hal ho
        rcases hpb : p.b with _ | _
        all_goals
          rw [hpb] at l4 q4 hTx hTw
          go_upto_region 17 with fail
          go_wp2_with fail
          (with_reducible refine (hTx _).mono ?_)
          rintro e wx ⟨rfl, kx⟩
          have Sx := S8.keep kx
          have Kx := K8.trans kx (fun _ _ x => x)
          clear c0 c1 c2 c3 c4 c5 c6 c7 c8 c9
          obtain ⟨c0, c1, c2, c3, c4, c5, c6, c7, c8, c9⟩ := id Sx
          go_wp2_with fail
          (with_reducible refine (hTw _).mono ?_)
          rintro e wy ⟨rfl, ky⟩
          go_wp2_with fail
          go_ret
          exact ⟨rfl, Kx.trans ky (fun _ _ x => x)⟩
    · cases ng
      · obtain rfl : B = _ := hal.symm
        go_upto_region 15 with (first | (go_at_call 12; (with_reducible refine (hBe _).mono ?_); rintro e wn ⟨rfl, e9⟩; subst e9) | (go_at_call 13; first | ((with_reducible refine (hN1 _).mono ?_); rintro e wn ⟨rfl, e9⟩; subst e9) | ((with_reducible refine (hN2 _).mono ?_); rintro e wn ⟨rfl, e9⟩; subst e9)))
        clear hBe hN1 hN2 hal ho
        rcases hpb : p.b with _ | _
        all_goals
          rw [hpb] at l4 q4 hTx hTw
          go_upto_region 17 with fail
          go_wp2_with fail
          (with_reducible refine (hTx _).mono ?_)
          rintro e wx ⟨rfl, kx⟩
          have Sx := S8.keep kx
          have Kx := K8.trans kx (fun _ _ x => x)
          clear c0 c1 c2 c3 c4 c5 c6 c7 c8 c9
          obtain ⟨c0, c1, c2, c3, c4, c5, c6, c7, c8, c9⟩ := id Sx
          go_wp2_with fail
          (with_reducible refine (hTw _).mono ?_)
          rintro e wy ⟨rfl, ky⟩
          go_wp2_with fail
          go_ret
          exact ⟨rfl, Kx.trans ky (fun _ _ x => x)⟩
      · obtain rfl : B = _ := hal.symm
        go_upto_region 15 with (first | (go_at_call 12; (with_reducible refine (hBe _).mono ?_); rintro e wn ⟨rfl, e9⟩; subst e9) | (go_at_call 13; first | ((with_reducible refine (hN1 _).mono ?_); rintro e wn ⟨rfl, e9⟩; subst e9) | ((with_reducible refine (hN2 _).mono ?_); rintro e wn ⟨rfl, e9⟩; subst e9)))
        clear hBe hN1 hN2 hal ho
        rcases hpb : p.b with _ | _
        all_goals
          rw [hpb] at l4 q4 hTx hTw
          go_upto_region 17 with fail
          go_wp2_with fail
          (with_reducible refine (hTx _).mono ?_)
          rintro e wx ⟨rfl, kx⟩
          have Sx := S8.keep kx
          have Kx := K8.trans kx (fun _ _ x => x)
          clear c0 c1 c2 c3 c4 c5 c6 c7 c8 c9
          obtain ⟨c0, c1, c2, c3, c4, c5, c6, c7, c8, c9⟩ := id Sx
          go_wp2_with fail
          (with_reducible refine (hTw _).mono ?_)
          rintro e wy ⟨rfl, ky⟩
          go_wp2_with fail
          go_ret
          exact ⟨rfl, Kx.trans ky (fun _ _ x => x)⟩
  · obtain rfl : B = _ := hal.symm
    go_upto_region 15 with (first | (go_at_call 12; (with_reducible refine (hBe _).mono ?_); rintro e wn ⟨rfl, e9⟩; subst e9) | (go_at_call 13; first | ((with_reducible refine (hN1 _).mono ?_); rintro e wn ⟨rfl, e9⟩; subst e9) | ((with_reducible refine (hN2 _).mono ?_); rintro e wn ⟨rfl, e9⟩; subst e9)))
    clear hBe hN1 hN2 hal ho
    rcases hpb : p.b with _ | _
    all_goals
      rw [hpb] at l4 q4 hTx hTw
      go_upto_region 17 with fail
      go_wp2_with fail
      (with_reducible refine (hTx _).mono ?_)
      rintro e wx ⟨rfl, kx⟩
      have Sx := S8.keep kx
      have Kx := K8.trans kx (fun _ _ x => x)
      clear c0 c1 c2 c3 c4 c5 c6 c7 c8 c9
      obtain ⟨c0, c1, c2, c3, c4, c5, c6, c7, c8, c9⟩ := id Sx
      go_wp2_with fail
      (with_reducible refine (hTw _).mono ?_)
      rintro e wy ⟨rfl, ky⟩
      go_wp2_with fail
      go_ret
      exact ⟨rfl, Kx.trans ky (fun _ _ x => x)⟩
end typedOrder
end Go.Proofs.Ytgbeacfiaegehaa
