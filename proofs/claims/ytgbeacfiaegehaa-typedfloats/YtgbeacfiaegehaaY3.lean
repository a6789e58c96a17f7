/-
  typed: TypedWhole's own whole.
-/
import Derived.Test.YtgbeacfiaegehaaY2
import Derived.Deep.RegionHeld3
namespace Go.Proofs.Ytgbeacfiaegehaa
open Go.RowKit
set_option linter.unusedVariables false
theorem kcell {w w' : World} (k : Keeps w w' (fun _ => False)) {a : Addr} {v : Value} (h : w.cell? a = some v) : w'.cell? a = some v :=
  ((k.below (Nat.le_refl _) (fun _ _ e => e)).cell (World.block_lt_of_cell? w a h)).trans h

theorem tyi_Width (w : World) : Calls Try.prog 35 #[.agg #[]] w fun e w' => e = .returned (.int .i64 8) ∧ Keeps w w' (fun _ => False) := by
  go_enter Try.func35, Try.ntmps35
  go_wp2_with fail
  go_ret
  exact ⟨rfl, (Keeps.refl _ _).alloc _⟩
theorem tyi_Align (w : World) : Calls Try.prog 36 #[.agg #[]] w fun e w' => e = .returned (.int .i64 8) ∧ Keeps w w' (fun _ => False) := by
  go_enter Try.func36, Try.ntmps36
  go_wp2_with fail
  go_ret
  exact ⟨rfl, (Keeps.refl _ _).alloc _⟩
theorem tyu_Width (w : World) : Calls Try.prog 37 #[.agg #[]] w fun e w' => e = .returned (.int .i64 8) ∧ Keeps w w' (fun _ => False) := by
  go_enter Try.func37, Try.ntmps37
  go_wp2_with fail
  go_ret
  exact ⟨rfl, (Keeps.refl _ _).alloc _⟩
theorem tyu_Align (w : World) : Calls Try.prog 38 #[.agg #[]] w fun e w' => e = .returned (.int .i64 8) ∧ Keeps w w' (fun _ => False) := by
  go_enter Try.func38, Try.ntmps38
  go_wp2_with fail
  go_ret
  exact ⟨rfl, (Keeps.refl _ _).alloc _⟩
/-- An Ask. -/
structure AskD where
  i : Int
  u : Nat
  f : Nat
  b : Bool
  m : Int
  s : ByteArray
  r : ByteArray
def AskD.cells (a : AskD) : Array Value := #[.int .i64 a.i, .int .u64 (a.u : Int), .float .f64 a.f, .bool a.b, .int .i64 a.m, .string a.s, .string a.r]
def AskD.Ok (a : AskD) : Prop := I64 a.i ∧ a.u < 18446744073709551616 ∧ a.f < 18446744073709551616 ∧ I64 a.m ∧ a.s.size ≤ 9223372036854775807 ∧ a.r.size ≤ 9223372036854775807
def AskAt (w : World) (q : Nat) (a : AskD) : Prop := w.cell? ⟨q, 0, none⟩ = some (.int .i64 a.i) ∧ w.cell? ⟨q, 1, none⟩ = some (.int .u64 (a.u : Int)) ∧ w.cell? ⟨q, 2, none⟩ = some (.float .f64 a.f) ∧ w.cell? ⟨q, 3, none⟩ = some (.bool a.b) ∧ w.cell? ⟨q, 4, none⟩ = some (.int .i64 a.m) ∧ w.cell? ⟨q, 5, none⟩ = some (.string a.s) ∧ w.cell? ⟨q, 6, none⟩ = some (.string a.r)
theorem AskAt.keep {w w1 : World} {q : Nat} {a : AskD} (h : AskAt w q a) (k : Keeps w w1 (fun _ => False)) : AskAt w1 q a :=
  ⟨kcell k h.1, kcell k h.2.1, kcell k h.2.2.1, kcell k h.2.2.2.1, kcell k h.2.2.2.2.1, kcell k h.2.2.2.2.2.1, kcell k h.2.2.2.2.2.2⟩
theorem askAt_new (w : World) (a : AskD) : AskAt (w.alloc (.cells a.cells 43)) w.heap.size a := by
  have h := heap_alloc_new w (.cells a.cells 43)
  refine ⟨?_, ?_, ?_, ?_, ?_, ?_, ?_⟩ <;> (simp only [World.cell?, h]; rfl)
set_option maxRecDepth 100000 in
set_option maxHeartbeats 4000000 in
theorem whole_any (a : AskD) (ha : a.Ok) (w : World) : Calls Try.prog 16 #[.agg a.cells] w fun e w' => e = .returned (.bool true) ∧ Keeps w w' (fun _ => False) := by
  obtain ⟨hi, hu, hf, hm, hs, hr⟩ := ha
  have S0 := askAt_new w a
  have k0 : Keeps w (w.alloc (.cells a.cells 43)) (fun _ => False) := (Keeps.refl _ _).alloc _
  have hA : a.cells = #[.int .i64 a.i, .int .u64 (a.u : Int), .float .f64 a.f, .bool a.b, .int .i64 a.m, .string a.s, .string a.r] := rfl
  rw [hA] at S0 k0 ⊢
  have hP1 := tyi_Pack a.i hi
  have hP2 := tyu_Pack a.u hu
  have hP3 := rPackInt a.i hi
  have hP4 := rBytes_any a.u hu
  have hU1 := tyi_Unpack a.r
  have hU2 := rUnpackInt a.r
  have hU3 := tyu_Unpack a.r
  have hU4 := rNumber_any a.r
  generalize strOf (be 8 (iB a.i)) = T1 at *
  generalize strOf (be 8 a.u) = T2 at *
  generalize iU a.r.data.toList = R1 at *
  generalize num8 a.r.data.toList = R2 at *
  obtain ⟨i, u, f, b, m, s, r⟩ := a
  dsimp only at *
  clear hA
  obtain ⟨c0, c1, -, -, -, -, c6⟩ := id S0
  go_enter Try.func16, Try.ntmps16
  go_wp2_with fail
  (with_reducible refine (hP1 _).mono ?_)
  rintro e w1 ⟨rfl, k1⟩
  have S1 := S0.keep k1
  have K1 := k0.trans k1 (fun _ _ x => x)
  clear k0 k1 S0 c0 c1 c6
  obtain ⟨c0, c1, -, -, -, -, c6⟩ := id S1
  go_wp2_with fail
  (with_reducible refine (hP2 _).mono ?_)
  rintro e w2 ⟨rfl, k2⟩
  have S2 := S1.keep k2
  have K2 := K1.trans k2 (fun _ _ x => x)
  clear K1 k2 S1 c0 c1 c6
  obtain ⟨c0, c1, -, -, -, -, c6⟩ := id S2
  go_wp2_with fail
  (with_reducible refine (hP3 _).mono ?_)
  rintro e w3 ⟨rfl, k3⟩
  have S3 := S2.keep k3
  have K3 := K2.trans k3 (fun _ _ x => x)
  clear K2 k3 S2 c0 c1 c6
  obtain ⟨c0, c1, -, -, -, -, c6⟩ := id S3
  go_wp2_with fail
  (with_reducible refine (hP4 _).mono ?_)
  rintro e w4 ⟨rfl, k4⟩
  have S4 := S3.keep k4
  have K4 := K3.trans k4 (fun _ _ x => x)
  clear K3 k4 S3 c0 c1 c6
  obtain ⟨c0, c1, -, -, -, -, c6⟩ := id S4
  go_wp2_with fail
  (with_reducible refine (tyi_Width _).mono ?_)
  rintro e w5 ⟨rfl, k5⟩
  go_wp2_with fail
  (with_reducible refine (tyi_Align _).mono ?_)
  rintro e w6 ⟨rfl, k6⟩
  go_wp2_with fail
  (with_reducible refine (tyu_Width _).mono ?_)
  rintro e w7 ⟨rfl, k7⟩
  go_wp2_with fail
  (with_reducible refine (tyu_Align _).mono ?_)
  rintro e w8 ⟨rfl, k8⟩
  have k58 := (((k5.trans k6 (fun _ _ x => x)).trans k7 (fun _ _ x => x)).trans k8 (fun _ _ x => x))
  have S8 := S4.keep k58
  have K8 := K4.trans k58 (fun _ _ x => x)
  clear K4 k58 k5 k6 k7 k8 S4 c0 c1 c6
  obtain ⟨-, -, -, -, -, -, c6⟩ := id S8
  clear S8
  have Z : w8.drew.cell? ⟨w.heap.size, 6, none⟩ = some (.string r) ∧ Keeps w w8.drew (fun _ => False) := ⟨c6, K8.drew⟩
  go_wp2_with fail
  go_region_held3 (fun w' => w'.cell? ⟨w.heap.size, 6, none⟩ = some (.string r) ∧ Keeps w w' (fun _ => False)) (first | with_reducible exact Z | with_reducible assumption) (first | (go_at_call 18; (with_reducible refine (hU1 _).mono ?_); rintro e x1 ⟨rfl, q1⟩; have Z1 : x1.cell? ⟨w.heap.size, 6, none⟩ = some (.string r) ∧ Keeps w x1 (fun _ => False) := by first | exact ⟨kcell q1 Z.1, Z.2.trans q1 (fun _ _ x => x)⟩) | (go_at_call 39; (with_reducible refine (hU2 _).mono ?_); rintro e x2 ⟨rfl, rfl⟩) | (go_at_call 19; (with_reducible refine (hU3 _).mono ?_); rintro e x3 ⟨rfl, q3⟩; have Z3 : x3.cell? ⟨w.heap.size, 6, none⟩ = some (.string r) ∧ Keeps w x3 (fun _ => False) := ⟨kcell q3 Z1.1, Z1.2.trans q3 (fun _ _ x => x)⟩) | (go_at_call 40; (with_reducible refine (hU4 _).mono ?_); rintro e x4 ⟨rfl, rfl⟩))
  go_wp2_with fail
  go_ret
  exact ⟨rfl, Z3.2⟩
end Go.Proofs.Ytgbeacfiaegehaa
