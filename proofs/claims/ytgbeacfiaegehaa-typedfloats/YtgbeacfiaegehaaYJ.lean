/-
  typed: the reference's PackFloat and UnpackFloat; the law's reads.
-/
import Derived.Test.YtgbeacfiaegehaaYI
import Derived.Test.YtgbeacfiaegehaaYF
namespace Go.Proofs.Ytgbeacfiaegehaa
open Go.RowKit
open Fl
set_option linter.unusedVariables false
theorem rPackFloat (x : Nat) (hx : x < 18446744073709551616) (hn : nan x = false) (w : World) : Calls Try.prog 41 #[.int .u64 ((if x % 9223372036854775808 = 0 then 0 else x : Nat) : Int)] w fun e w' => e = .returned (.string (strOf (be 8 (rise x)))) ∧ Keeps w w' (fun _ => False) := by
  have hB := rBytes_any (rise x) (rise_lt x hx)
  obtain ⟨b, hb, hb2⟩ : ∃ b : Nat, (if x % 9223372036854775808 = 0 then 0 else x) = b ∧ ((b < 9223372036854775808 ∧ rise x = b + 9223372036854775808) ∨ (9223372036854775808 ≤ b ∧ b < 18446744073709551616 ∧ rise x + b = 18446744073709551615)) := by
    refine ⟨_, rfl, ?_⟩
    have e2 : rise x = if x % 9223372036854775808 = 0 then 9223372036854775808 else if 9223372036854775808 ≤ x then 18446744073709551615 - x else x + 9223372036854775808 := by
      unfold rise
      rw [hn]
      rfl
    rw [e2]
    clear e2
    by_cases hz : x % 9223372036854775808 = 0
    · rw [if_pos hz, if_pos hz]
      exact Or.inl ⟨by omega, by omega⟩
    · rw [if_neg hz, if_neg hz]
      by_cases hs : 9223372036854775808 ≤ x
      · rw [if_pos hs]
        exact Or.inr ⟨hs, hx, by omega⟩
      · rw [if_neg hs]
        exact Or.inl ⟨by omega, by omega⟩
  rw [hb]
  clear hb
  generalize rise x = R at *
  rcases hb2 with ⟨h1, rfl⟩ | ⟨h1, h2, h3⟩
  · have h1' : (b : Int) < 9223372036854775808 := by omega
    rw [Int.natCast_add, show ((9223372036854775808 : Nat) : Int) = 9223372036854775808 from rfl] at hB
    go_enter Try.func41, Try.ntmps41
    go_wp2_with fail
    (with_reducible refine (hB _).mono ?_)
    rintro e w1 ⟨rfl, K⟩
    go_wp2_with fail
    go_ret
    exact ⟨rfl, K⟩
  · have h1' : ¬ (b : Int) < 9223372036854775808 := by omega
    have e1 : (18446744073709551615 : Int) - (b : Int) = (R : Int) := by omega
    clear h3
    go_enter Try.func41, Try.ntmps41
    go_wp2_with fail
    (with_reducible refine (hB _).mono ?_)
    rintro e w1 ⟨rfl, K⟩
    go_wp2_with fail
    go_ret
    exact ⟨rfl, K⟩
set_option maxRecDepth 100000 in
theorem rUnpackFloat_no (s : ByteArray) (h : ¬ s.size = 8 ∨ num8 s.data.toList = 18446744073709551615) (w : World) : Calls Try.prog 62 #[.string s] w fun e w' => e = .returned (.tuple #[.int .u64 0, .bool false]) ∧ w' = w := by
  have hN := rNumber_any s
  by_cases h8 : s.size = 8
  · have h1 : num8 s.data.toList = 18446744073709551615 := h.resolve_left (fun q => q h8)
    have h8' : ((s.size : Int) != 8) = false := by rw [h8]; rfl
    rw [h1] at hN
    rw [show ((18446744073709551615 : Nat) : Int) = 18446744073709551615 from rfl] at hN
    go_enter Try.func62, Try.ntmps62
    go_wp2_with fail
    (with_reducible refine (hN _).mono ?_)
    rintro e w1 ⟨rfl, rfl⟩
    go_wp2_with fail
    go_ret2
    exact ⟨rfl, rfl⟩
  · have h8' : ((s.size : Int) != 8) = true := by rw [bne_iff_ne]; omega
    go_enter Try.func62, Try.ntmps62
    go_wp2_with fail
    (with_reducible refine (hN _).mono ?_)
    rintro e w1 ⟨rfl, rfl⟩
    go_wp2_with fail
    go_ret2
    exact ⟨rfl, rfl⟩
set_option maxRecDepth 100000 in
theorem rUnpackFloat_yes (s : ByteArray) (h8 : s.size = 8) (h : ¬ num8 s.data.toList = 18446744073709551615) (w : World) : Calls Try.prog 62 #[.string s] w fun e w' => e = .returned (.tuple #[.int .u64 (fU s.data.toList : Int), .bool true]) ∧ w' = w := by
  have hN := rNumber_any s
  have hlt := num8_lt s.data.toList
  have h8l : s.data.toList.length = 8 := h8
  have hU : fU s.data.toList = if 9223372036854775808 ≤ num8 s.data.toList then num8 s.data.toList - 9223372036854775808 else 18446744073709551615 - num8 s.data.toList := by unfold fU; rw [if_pos h8l]
  have h8' : ((s.size : Int) != 8) = false := by rw [h8]; rfl
  generalize num8 s.data.toList = B at *
  have hB : ((B : Int) == 18446744073709551615) = false := by rw [beq_eq_false_iff_ne]; omega
  by_cases hs : 9223372036854775808 ≤ B
  · obtain ⟨R, hR, hR2⟩ : ∃ R : Nat, fU s.data.toList = R ∧ (B : Int) - 9223372036854775808 = (R : Int) := ⟨_, rfl, by rw [hU, if_pos hs]; omega⟩
    rw [hR]
    have hs' : (9223372036854775808 : Int) ≤ (B : Int) := by omega
    clear hU hR h
    go_enter Try.func62, Try.ntmps62
    go_wp2_with fail
    (with_reducible refine (hN _).mono ?_)
    rintro e w1 ⟨rfl, rfl⟩
    go_wp2_with fail
    go_ret2
    exact ⟨by first | rfl | rw [← hR2] | simp [hR2], rfl⟩
  · obtain ⟨R, hR, hR2⟩ : ∃ R : Nat, fU s.data.toList = R ∧ (18446744073709551615 : Int) - (B : Int) = (R : Int) := ⟨_, rfl, by rw [hU, if_neg hs]; omega⟩
    rw [hR]
    have hs' : ¬ (9223372036854775808 : Int) ≤ (B : Int) := by omega
    have hs'' : decide ((9223372036854775808 : Int) ≤ (B : Int)) = false := decide_eq_false hs'
    have R0 : 0 ≤ (R : Int) := by omega
    have w1 : IntKind.u64.wrap (R : Int) = (R : Int) := by rw [IntKind.wrap_u64]; omega
    clear hU hR h hlt hs
    go_enter Try.func62, Try.ntmps62
    go_wp2_with fail
    (with_reducible refine (hN _).mono ?_)
    rintro e w1 ⟨rfl, rfl⟩
    go_upto_region 4 with fail
    go_wp2_with fail
    go_ret2
    exact ⟨by first | rfl | rw [← hR2] | simp [hR2], rfl⟩
theorem one_pz (w : World) : (binOp .quo 23 (.float .f64 4607182418800017408) (.float .f64 0)).run Try.prog w = .ok (.float .f64 9218868437227405312) w :=
  run_float_arith w .quo _ .f64 _ _ _ (by decide +kernel)
theorem one_nz (w : World) : (binOp .quo 23 (.float .f64 4607182418800017408) (.float .f64 9223372036854775808)).run Try.prog w = .ok (.float .f64 18442240474082181120) w :=
  run_float_arith w .quo _ .f64 _ _ _ (by decide +kernel)
theorem pinf_gt : (FloatKind.f64.format.order 9218868437227405312 0 == some .gt) = true := by decide +kernel
theorem ninf_lt : (FloatKind.f64.format.order 18442240474082181120 0 == some .lt) = true := by decide +kernel
theorem zz_eq : (FloatKind.f64.format.order 0 0 == some .eq) = true := by decide +kernel
theorem nz_eq : (FloatKind.f64.format.order 9223372036854775808 0 == some .eq) = true := by decide +kernel
set_option maxRecDepth 100000 in
set_option maxHeartbeats 4000000 in
theorem reads_any (s : ByteArray) (w : World) : Calls Try.prog 45 #[.float .f64 (fU s.data.toList), .string s] w fun e w' => e = .returned (.bool true) ∧ w' = w := by
  have q1 := one_pz
  have q2 := one_nz
  have q3 := pinf_gt
  have q4 := ninf_lt
  have q5 := zz_eq
  have q6 := nz_eq
  by_cases h8 : s.size = 8
  · have h8' : ((s.size : Int) != 8) = false := by rw [h8]; rfl
    have h8l : s.data.toList.length = 8 := h8
    by_cases hy : num8 s.data.toList = 18446744073709551615
    · have e : fU s.data.toList = 9223372036854775807 := by unfold fU; rw [if_pos h8l, hy, if_pos (by omega)]
      have hU := rUnpackFloat_no s (Or.inr hy)
      have nn : (FloatKind.f64.format.order 9223372036854775807 9223372036854775807 != some .eq) = true := by decide +kernel
      rw [e]
      clear hy e
      go_enter Try.func45, Try.ntmps45
      go_wp2_with fail
      (with_reducible refine (hU _).mono ?_)
      rintro e w1 ⟨rfl, rfl⟩
      go_wp2_with fail
      go_ret
      exact ⟨rfl, rfl⟩
    · have hU := rUnpackFloat_yes s h8 hy
      have hlt := fU_lt s.data.toList
      obtain ⟨n1, n2⟩ := nan_facts hlt
      have zf := zero_fact hlt
      generalize fU s.data.toList = v at *
      have hm : ((v : Int) % 9223372036854775808) = ((v % 9223372036854775808 : Nat) : Int) := by omega
      by_cases hn : 9218868437227405312 < v % 9223372036854775808
      · have nv : nan v = true := decide_eq_true hn
        rw [nv] at n1
        have hg : (9218868437227405312 : Int) < ((v % 9223372036854775808 : Nat) : Int) := by omega
        obtain ⟨k, hk⟩ : ∃ k, v % 9223372036854775808 = k := ⟨_, rfl⟩
        rw [hk] at hm hg
        clear hn nv n2 zf hk hy
        go_enter Try.func45, Try.ntmps45
        go_wp2_with fail
        (with_reducible refine (hU _).mono ?_)
        rintro e w1 ⟨rfl, rfl⟩
        go_wp2_with fail
        go_ret
        exact ⟨rfl, rfl⟩
      · have nv : nan v = false := decide_eq_false hn
        rw [nv] at n2
        have hg : ¬ (9218868437227405312 : Int) < ((v % 9223372036854775808 : Nat) : Int) := by omega
        have hBt := Bits_any v hlt nv
        by_cases hz : v = 9223372036854775808
        · subst hz
          clear hBt n1 n2 zf hm hg hn nv hy
          go_enter Try.func45, Try.ntmps45
          go_wp2_with fail
          (with_reducible refine (hU _).mono ?_)
          rintro e w1 ⟨rfl, rfl⟩
          go_wp2_with fail
          go_ret
          exact ⟨rfl, rfl⟩
        · have hz' : ((v : Int) == 9223372036854775808) = false := by rw [beq_eq_false_iff_ne]; omega
          by_cases h0 : v = 0
          · subst h0
            rw [if_pos (show 0 % 9223372036854775808 = 0 by decide), show ((0 : Nat) : Int) = 0 from rfl] at hBt
            clear hm hg hn nv hy hz zf
            go_enter Try.func45, Try.ntmps45
            go_wp2_with fail
            (with_reducible refine (hU _).mono ?_)
            rintro e w1 ⟨rfl, rfl⟩
            go_wp2_with fail
            (with_reducible refine (hBt _).mono ?_)
            rintro e w2 ⟨rfl, rfl⟩
            go_wp2_with fail
            go_ret
            exact ⟨rfl, rfl⟩
          · have hk0 : ¬ v % 9223372036854775808 = 0 := by omega
            rw [if_neg hk0] at hBt
            rw [decide_eq_false hk0] at zf
            have zf' : (FloatKind.f64.format.order v 0 != some .eq) = true := by rw [bne, zf]; rfl
            obtain ⟨k, hk⟩ : ∃ k, v % 9223372036854775808 = k := ⟨_, rfl⟩
            rw [hk] at hm hg
            clear hn nv hk hy hk0 hz h0
            go_enter Try.func45, Try.ntmps45
            go_wp2_with fail
            (with_reducible refine (hU _).mono ?_)
            rintro e w1 ⟨rfl, rfl⟩
            go_wp2_with fail
            (with_reducible refine (hBt _).mono ?_)
            rintro e w2 ⟨rfl, rfl⟩
            go_wp2_with fail
            go_ret
            exact ⟨rfl, rfl⟩
  · have h8' : ((s.size : Int) != 8) = true := by rw [bne_iff_ne]; omega
    have e : fU s.data.toList = 0 := if_neg h8
    rw [e]
    go_enter Try.func45, Try.ntmps45
    go_wp2_with fail
    go_ret
    exact ⟨rfl, rfl⟩
end Go.Proofs.Ytgbeacfiaegehaa
