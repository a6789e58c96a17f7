/-
  typed: TypedFloats' own float.
-/
import Derived.Test.YtgbeacfiaegehaaYJ
namespace Go.Proofs.Ytgbeacfiaegehaa
open Go.RowKit
open Fl
set_option linter.unusedVariables false
theorem tyf_Width (w : World) : Calls Try.prog 43 #[.agg #[]] w fun e w' => e = .returned (.int .i64 8) ∧ Keeps w w' (fun _ => False) := by
  go_enter Try.func43, Try.ntmps43
  go_wp2_with fail
  go_ret
  exact ⟨rfl, (Keeps.refl _ _).alloc _⟩
theorem tyf_Align (w : World) : Calls Try.prog 44 #[.agg #[]] w fun e w' => e = .returned (.int .i64 8) ∧ Keeps w w' (fun _ => False) := by
  go_enter Try.func44, Try.ntmps44
  go_wp2_with fail
  go_ret
  exact ⟨rfl, (Keeps.refl _ _).alloc _⟩
theorem all255 : strOf (be 8 18446744073709551615) = ⟨#[255, 255, 255, 255, 255, 255, 255, 255]⟩ := by decide +kernel
set_option maxRecDepth 100000 in
set_option maxHeartbeats 4000000 in
theorem float_any (a : AskD) (ha : a.Ok) (w : World) : Calls Try.prog 17 #[.agg a.cells] w fun e w' => e = .returned (.bool true) ∧ Keeps w w' (fun _ => False) := by
  obtain ⟨hi, hu, hf, hm, hs, hr⟩ := ha
  have S0 := askAt_new w a
  have k0 : Keeps w (w.alloc (.cells a.cells 43)) (fun _ => False) := (Keeps.refl _ _).alloc _
  have hA : a.cells = #[.int .i64 a.i, .int .u64 (a.u : Int), .float .f64 a.f, .bool a.b, .int .i64 a.m, .string a.s, .string a.r] := rfl
  rw [hA] at S0 k0 ⊢
  have hP := tyf_Pack a.f hf
  have hU := tyf_Unpack a.r
  have hR := reads_any a.r
  obtain ⟨-, n2⟩ := nan_facts hf
  generalize fU a.r.data.toList = V at *
  clear hA hi hu hm hs hr
  obtain ⟨-, -, c2, -, -, -, c6⟩ := id S0
  go_enter Try.func17, Try.ntmps17
  go_wp2_with fail
  (with_reducible refine (hP _).mono ?_)
  rintro e w1 ⟨rfl, k1⟩
  replace c2 := kcell k1 c2
  replace c6 := kcell k1 c6
  have K1 := k0.trans k1 (fun _ _ x => x)
  clear k0 k1 S0 hP
  cases hn : nan a.f
  · have hB := Bits_any a.f hf hn
    have hPk := rPackFloat a.f hf hn
    rw [hn] at n2
    generalize ((if a.f % 9223372036854775808 = 0 then 0 else a.f : Nat) : Int) = bz at *
    generalize strOf (be 8 (rise a.f)) = T at *
    go_wp2_with fail
    (with_reducible refine (hB _).mono ?_)
    rintro e w2 ⟨rfl, e2⟩
    replace e2 := e2.symm
    subst e2
    go_wp2_with fail
    (with_reducible refine (hPk _).mono ?_)
    rintro e w3 ⟨rfl, k3⟩
    replace c6 := kcell k3 c6
    have K3 := K1.trans k3 (fun _ _ x => x)
    clear K1 k3 c2
    go_wp2_with fail
    (with_reducible refine (tyf_Width _).mono ?_)
    rintro e w4 ⟨rfl, k4⟩
    go_wp2_with fail
    (with_reducible refine (tyf_Align _).mono ?_)
    rintro e w5 ⟨rfl, k5⟩
    have k6 := (k4.trans k5 (fun _ _ x => x)).trans (Keeps.refl _ (fun _ => False)).drew (fun _ _ x => x)
    have Z : w5.drew.cell? ⟨w.heap.size, 6, none⟩ = some (.string a.r) ∧ Keeps w w5.drew (fun _ => False) := ⟨kcell k6 c6, K3.trans k6 (fun _ _ x => x)⟩
    clear c6 K3 k4 k5 k6
    go_wp2_with fail
    go_region_held3 (fun w' => w'.cell? ⟨w.heap.size, 6, none⟩ = some (.string a.r) ∧ Keeps w w' (fun _ => False)) (first | with_reducible exact Z | with_reducible assumption) (first | (go_at_call 21; (with_reducible refine (hU _).mono ?_); rintro e x1 ⟨rfl, q1⟩; have Z1 : x1.cell? ⟨w.heap.size, 6, none⟩ = some (.string a.r) ∧ Keeps w x1 (fun _ => False) := ⟨kcell q1 Z.1, Z.2.trans q1 (fun _ _ x => x)⟩) | (go_at_call 45; (with_reducible refine (hR _).mono ?_); rintro e x2 ⟨rfl, rfl⟩))
    go_wp2_with fail
    go_ret
    exact ⟨rfl, Z1.2⟩
  · have hT : strOf (be 8 (rise a.f)) = ⟨#[255, 255, 255, 255, 255, 255, 255, 255]⟩ := by rw [rise_nan hn, all255]
    rw [hn] at n2
    rw [hT]
    clear hT
    go_wp2_with fail
    (with_reducible refine (tyf_Width _).mono ?_)
    rintro e w4 ⟨rfl, k4⟩
    go_wp2_with fail
    (with_reducible refine (tyf_Align _).mono ?_)
    rintro e w5 ⟨rfl, k5⟩
    have k6 := (k4.trans k5 (fun _ _ x => x)).trans (Keeps.refl _ (fun _ => False)).drew (fun _ _ x => x)
    have Z : w5.drew.cell? ⟨w.heap.size, 6, none⟩ = some (.string a.r) ∧ Keeps w w5.drew (fun _ => False) := ⟨kcell k6 c6, K1.trans k6 (fun _ _ x => x)⟩
    clear c6 K1 k4 k5 k6 c2
    go_wp2_with fail
    go_region_held3 (fun w' => w'.cell? ⟨w.heap.size, 6, none⟩ = some (.string a.r) ∧ Keeps w w' (fun _ => False)) (first | with_reducible exact Z | with_reducible assumption) (first | (go_at_call 21; (with_reducible refine (hU _).mono ?_); rintro e x1 ⟨rfl, q1⟩; have Z1 : x1.cell? ⟨w.heap.size, 6, none⟩ = some (.string a.r) ∧ Keeps w x1 (fun _ => False) := ⟨kcell q1 Z.1, Z.2.trans q1 (fun _ _ x => x)⟩) | (go_at_call 45; (with_reducible refine (hR _).mono ?_); rintro e x2 ⟨rfl, rfl⟩))
    go_wp2_with fail
    go_ret
    exact ⟨rfl, Z1.2⟩
end Go.Proofs.Ytgbeacfiaegehaa
