/-
  typed: a Both of whole numbers and floats; TypedOrder's own twos. (genYD.py)
-/
import Derived.Test.YtgbeacfiaegehaaYC
namespace Go.Proofs.Ytgbeacfiaegehaa
open Go.RowKit
open Fl
set_option linter.unusedVariables false
set_option maxRecDepth 100000 in
theorem bif_Pack (i : Int) (f : Nat) (hi : I64 i) (hf : f < 18446744073709551616) (w : World) : Calls Try.prog 32 #[.agg #[.iface 28 (.agg #[]), .iface 32 (.agg #[])], .agg #[.int .i64 i, .float .f64 f]] w fun e w' => e = .returned (.tuple #[.string (strOf (be 8 (iB i) ++ be 8 (rise f))), .bool true]) ∧ Keeps w w' (fun _ => False) := by
  have hP := tyi_Pack i hi
  have hQ := tyf_Pack f hf
  have hz1 : (strOf (be 8 (iB i))).size = 8 := by rw [strOf_size, be_length]
  have hz2 : (strOf (be 8 (rise f))).size = 8 := by rw [strOf_size, be_length]
  have hA := strOf_append (be 8 (iB i)) (be 8 (rise f))
  generalize strOf (be 8 (iB i)) = A at *
  generalize strOf (be 8 (rise f)) = B at *
  generalize strOf (be 8 (iB i) ++ be 8 (rise f)) = C at *
  have hm : ∀ w : World, (method 222 28 (.agg #[]) "Pack").run Try.prog w = .ok (8, .agg #[]) w := fun _ => by kernel_rfl
  have hn : ∀ w : World, (method 222 32 (.agg #[]) "Pack").run Try.prog w = .ok (10, .agg #[]) w := fun _ => by kernel_rfl
  go_enter Try.func32, Try.ntmps32
  go_wp2_with fail
  (with_reducible refine (hP _).mono ?_)
  rintro e w1 ⟨rfl, k1⟩
  have c1 : w1.cell? ⟨w.heap.size, 1, none⟩ = some (.iface 32 (.agg #[])) := kcell k1 (old_cell _ (new_cell _ _ _ _ _ rfl))
  have c2 : w1.cell? ⟨w.heap.size + 1, 1, none⟩ = some (.float .f64 f) := kcell k1 (next_cell _ _ _ _ _ _ rfl)
  go_wp2_with fail
  (with_reducible refine (hQ _).mono ?_)
  rintro e w2 ⟨rfl, k2⟩
  go_wp2_with fail
  go_ret2
  exact ⟨rfl, ((((Keeps.refl _ _).alloc _).alloc _).trans k1 (fun _ _ x => x)).trans k2 (fun _ _ x => x)⟩
/-- A Pair's two floats. -/
def TwS (w w' : World) (p : PairD) : Prop := w'.cell? ⟨w.heap.size, 4, none⟩ = some (.float .f64 p.f) ∧ w'.cell? ⟨w.heap.size, 5, none⟩ = some (.float .f64 p.g)
set_option maxRecDepth 100000 in
set_option maxHeartbeats 8000000 in
theorem twos_any (p : PairD) (hp : p.Ok) (L E : Bool) (hL : L = decide (iB p.i < iB p.j)) (hE : E = decide (iB p.i = iB p.j)) (w : World) : Calls Try.prog 15 #[.agg p.cells, .bool L, .bool E] w fun e w' => e = .returned (.bool true) ∧ Keeps w w' (fun _ => False) := by
  obtain ⟨hi, hj, -, -, hf, hg, -, -⟩ := hp
  have S0 := pairAt_new w p
  have hA : p.cells = #[.int .i64 p.i, .int .i64 p.j, .int .u64 (p.u : Int), .int .u64 (p.v : Int), .float .f64 p.f, .float .f64 p.g, .bool p.b, .bool p.c, .string p.s, .string p.t] := rfl
  rw [hA] at S0 ⊢
  clear hA
  have Z0 := S0.keep ((Keeps.refl _ (fun _ => False)).alloc (.cells #[.iface 28 (.agg #[]), .iface 32 (.agg #[])] 78))
  have d0 := next_cell w (.cells #[.int .i64 p.i, .int .i64 p.j, .int .u64 (p.u : Int), .int .u64 (p.v : Int), .float .f64 p.f, .float .f64 p.g, .bool p.b, .bool p.c, .string p.s, .string p.t] 25) #[.iface 28 (.agg #[]), .iface 32 (.agg #[])] 78 0 _ rfl
  have d1 := next_cell w (.cells #[.int .i64 p.i, .int .i64 p.j, .int .u64 (p.u : Int), .int .u64 (p.v : Int), .float .f64 p.f, .float .f64 p.g, .bool p.b, .bool p.c, .string p.s, .string p.t] 25) #[.iface 28 (.agg #[]), .iface 32 (.agg #[])] 78 1 _ rfl
  have K0 : Keeps w ((w.alloc (.cells #[.int .i64 p.i, .int .i64 p.j, .int .u64 (p.u : Int), .int .u64 (p.v : Int), .float .f64 p.f, .float .f64 p.g, .bool p.b, .bool p.c, .string p.s, .string p.t] 25)).alloc (.cells #[.iface 28 (.agg #[]), .iface 32 (.agg #[])] 78)) (fun _ => False) := ((Keeps.refl _ _).alloc _).alloc _
  clear S0
  have hP1 := bif_Pack p.i p.f hi hf
  have hP2 := bif_Pack p.j p.g hj hg
  have rf := rise_lt p.f hf
  have rg := rise_lt p.g hg
  have ri := iB_lt hi
  have rj := iB_lt hj
  have hz : (strOf (be 8 (iB p.i) ++ be 8 (rise p.f))).size = 16 := by rw [strOf_size, List.length_append, be_length, be_length]
  have hlt : Op.bytesLess (strOf (be 8 (iB p.i) ++ be 8 (rise p.f))).toList (strOf (be 8 (iB p.j) ++ be 8 (rise p.g))).toList = (L || (E && decide (rise p.f < rise p.g))) := by
    rw [strOf_toList, strOf_toList, less_append _ _ _ _ (by rw [be_length, be_length]), be8_less ri rj, be8_less rf rg, hL, hE]
    congr 2
    rw [Bool.eq_iff_iff, beq_iff_eq, decide_eq_true_eq]
    exact be8_inj ri rj
  have heq : ((strOf (be 8 (iB p.i) ++ be 8 (rise p.f))).toList == (strOf (be 8 (iB p.j) ++ be 8 (rise p.g))).toList) = (E && decide (rise p.f = rise p.g)) := by
    rw [strOf_toList, strOf_toList, hE, Bool.eq_iff_iff, beq_iff_eq, Bool.and_eq_true, decide_eq_true_eq, decide_eq_true_eq]
    refine ⟨fun q => ?_, fun ⟨q1, q2⟩ => by rw [q1, q2]⟩
    obtain ⟨q1, q2⟩ := List.append_inj q (by rw [be_length, be_length])
    exact ⟨(be8_inj ri rj).1 q1, (be8_inj rf rg).1 q2⟩
  have hN1 := number_any p.f hf
  have hN2 := number_any p.g hg
  have hBe := below_any p.f p.g hf hg
  have hal := alike_rise hf hg
  clear hi hj hf hg rf rg ri rj hL hE
  generalize strOf (be 8 (iB p.i) ++ be 8 (rise p.f)) = S at *
  generalize strOf (be 8 (iB p.j) ++ be 8 (rise p.g)) = T at *
  generalize decide (rise p.f < rise p.g) = A at *
  generalize decide (rise p.f = rise p.g) = B at *
  have hz' : ((S.size : Int) == 16) = true := by rw [hz]; rfl
  clear hz
  go_enter Try.func15, Try.ntmps15
  go_wp2_with fail
  (with_reducible refine (hP1 _).mono ?_)
  rintro e w1 ⟨rfl, k1⟩
  have Z1 := Z0.keep k1
  replace d0 := kcell k1 d0
  replace d1 := kcell k1 d1
  have K1 := K0.trans k1 (fun _ _ x => x)
  clear Z0 K0 k1 hP1
  obtain ⟨-, c1, -, -, c4, c5, -⟩ := id Z1
  go_wp2_with fail
  (with_reducible refine (hP2 _).mono ?_)
  rintro e w2 ⟨rfl, k2⟩
  have K2 := K1.trans k2 (fun _ _ x => x)
  replace c4 := kcell k2 c4
  replace c5 := kcell k2 c5
  clear Z1 d0 d1 K1 k2 hP2 c1
  obtain ⟨o, ho⟩ : ∃ o, (FloatKind.f64.format.order p.f p.g == some .eq) = o := ⟨_, rfl⟩
  rw [ho] at hal
  generalize nan p.f = nf at *
  generalize nan p.g = ng at *
  cases o
  · cases nf
    · cases ng
      · obtain rfl : B = _ := hal.symm
        go_upto_region 5 with (first | (go_at_call 13; first | ((with_reducible refine (hN1 _).mono ?_); rintro e wn ⟨rfl, e9⟩; subst e9) | ((with_reducible refine (hN2 _).mono ?_); rintro e wn ⟨rfl, e9⟩; subst e9)))
        cases L
        · cases E
          · go_wp2_with fail
            go_ret
            exact ⟨by simp, K2⟩
          · go_wp2_with fail
            (with_reducible refine (hBe _).mono ?_)
            rintro e wb ⟨rfl, e8⟩
            subst e8
            go_wp2_with fail
            go_ret
            exact ⟨by simp, K2⟩
        · cases E
          · go_wp2_with fail
            go_ret
            exact ⟨by simp, K2⟩
          · go_wp2_with fail
            go_ret
            exact ⟨by simp, K2⟩
      · obtain rfl : B = _ := hal.symm
        go_upto_region 5 with (first | (go_at_call 13; first | ((with_reducible refine (hN1 _).mono ?_); rintro e wn ⟨rfl, e9⟩; subst e9) | ((with_reducible refine (hN2 _).mono ?_); rintro e wn ⟨rfl, e9⟩; subst e9)))
        cases L
        · cases E
          · go_wp2_with fail
            go_ret
            exact ⟨by simp, K2⟩
          · go_wp2_with fail
            (with_reducible refine (hBe _).mono ?_)
            rintro e wb ⟨rfl, e8⟩
            subst e8
            go_wp2_with fail
            go_ret
            exact ⟨by simp, K2⟩
        · cases E
          · go_wp2_with fail
            go_ret
            exact ⟨by simp, K2⟩
          · go_wp2_with fail
            go_ret
            exact ⟨by simp, K2⟩
    · cases ng
      · obtain rfl : B = _ := hal.symm
        go_upto_region 5 with (first | (go_at_call 13; first | ((with_reducible refine (hN1 _).mono ?_); rintro e wn ⟨rfl, e9⟩; subst e9) | ((with_reducible refine (hN2 _).mono ?_); rintro e wn ⟨rfl, e9⟩; subst e9)))
        cases L
        · cases E
          · go_wp2_with fail
            go_ret
            exact ⟨by simp, K2⟩
          · go_wp2_with fail
            (with_reducible refine (hBe _).mono ?_)
            rintro e wb ⟨rfl, e8⟩
            subst e8
            go_wp2_with fail
            go_ret
            exact ⟨by simp, K2⟩
        · cases E
          · go_wp2_with fail
            go_ret
            exact ⟨by simp, K2⟩
          · go_wp2_with fail
            go_ret
            exact ⟨by simp, K2⟩
      · obtain rfl : B = _ := hal.symm
        go_upto_region 5 with (first | (go_at_call 13; first | ((with_reducible refine (hN1 _).mono ?_); rintro e wn ⟨rfl, e9⟩; subst e9) | ((with_reducible refine (hN2 _).mono ?_); rintro e wn ⟨rfl, e9⟩; subst e9)))
        cases L
        · cases E
          · go_wp2_with fail
            go_ret
            exact ⟨by simp, K2⟩
          · go_wp2_with fail
            (with_reducible refine (hBe _).mono ?_)
            rintro e wb ⟨rfl, e8⟩
            subst e8
            go_wp2_with fail
            go_ret
            exact ⟨by simp, K2⟩
        · cases E
          · go_wp2_with fail
            go_ret
            exact ⟨by simp, K2⟩
          · go_wp2_with fail
            go_ret
            exact ⟨by simp, K2⟩
  · obtain rfl : B = _ := hal.symm
    go_upto_region 5 with fail
    cases L
    · cases E
      · go_wp2_with fail
        go_ret
        exact ⟨by simp, K2⟩
      · go_wp2_with fail
        (with_reducible refine (hBe _).mono ?_)
        rintro e wb ⟨rfl, e8⟩
        subst e8
        go_wp2_with fail
        go_ret
        exact ⟨by simp, K2⟩
    · cases E
      · go_wp2_with fail
        go_ret
        exact ⟨by simp, K2⟩
      · go_wp2_with fail
        go_ret
        exact ⟨by simp, K2⟩
end Go.Proofs.Ytgbeacfiaegehaa
