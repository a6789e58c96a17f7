/-
  typed: TypedTexts' own text.
-/
import Derived.Test.YtgbeacfiaegehaaY7
namespace Go.Proofs.Ytgbeacfiaegehaa
open Go.RowKit
set_option linter.unusedVariables false
theorem tyb_Width (w : World) : Calls Try.prog 54 #[.agg #[]] w fun e w' => e = .returned (.int .i64 1) ∧ Keeps w w' (fun _ => False) := by
  go_enter Try.func54, Try.ntmps54
  go_wp2_with fail
  go_ret
  exact ⟨rfl, (Keeps.refl _ _).alloc _⟩
theorem tyb_Align (w : World) : Calls Try.prog 55 #[.agg #[]] w fun e w' => e = .returned (.int .i64 1) ∧ Keeps w w' (fun _ => False) := by
  go_enter Try.func55, Try.ntmps55
  go_wp2_with fail
  go_ret
  exact ⟨rfl, (Keeps.refl _ _).alloc _⟩
/-- What Pack of a text answers, and the reference's. -/
theorem pack_both (m : Int) (v : ByteArray) : ∃ (X : ByteArray) (y : Bool), X.size ≤ 128 ∧ (y = true → ∃ M : Nat, m = (M : Int) ∧ M ≤ 127 ∧ v.size ≤ M ∧ X = strOf (txB M v.data.toList)) ∧ (y = false → (inR m = false ∨ m < (v.size : Int)) ∧ X = ⟨#[]⟩) ∧ (∀ w, Calls Try.prog 22 #[.agg #[.int .i64 m], .string v] w fun e w' => e = .returned (.tuple #[.string X, .bool y]) ∧ Keeps w w' (fun _ => False)) ∧ (∀ w, Calls Try.prog 49 #[.int .i64 m, .string v] w fun e w' => e = .returned (.tuple #[.string X, .bool y]) ∧ Keeps w w' (fun _ => False)) := by
  by_cases h : inR m = false ∨ m < (v.size : Int)
  · refine ⟨⟨#[]⟩, false, by decide, (fun e => by cases e), fun _ => ⟨h, rfl⟩, fun w => tyt_Pack_no m v h w, fun w => (rPackText_no m v h w).mono ?_⟩
    rintro e w' ⟨rfl, rfl⟩
    exact ⟨rfl, Keeps.refl _ _⟩
  · have hi : inR m = true := by
      cases q : inR m
      · exact absurd (Or.inl q) h
      · rfl
    obtain ⟨M, rfl, hM⟩ := inR_yes hi
    have hv : v.size ≤ M := by
      refine Nat.le_of_not_lt fun q => h (Or.inr (by omega))
    refine ⟨_, true, ?_, fun _ => ⟨M, rfl, hM, hv, rfl⟩, (fun e => by cases e), fun w => tyt_Pack_yes M v hM hv w, fun w => rPackText_yes M v hM hv w⟩
    rw [strOf_size, txB_length hv]
    omega
/-- What of an Ask and of a Text beside it is read in the end. -/
def TxS (w w' : World) (a : AskD) : Prop := w'.cell? ⟨w.heap.size, 3, none⟩ = some (.bool a.b) ∧ w'.cell? ⟨w.heap.size, 4, none⟩ = some (.int .i64 a.m) ∧ w'.cell? ⟨w.heap.size, 6, none⟩ = some (.string a.r) ∧ w'.cell? ⟨w.heap.size + 1, 0, none⟩ = some (.int .i64 a.m) ∧ Keeps w w' (fun _ => False)
theorem TxS.keep {w w1 w2 : World} {a : AskD} (h : TxS w w1 a) (k : Keeps w1 w2 (fun _ => False)) : TxS w w2 a := ⟨kcell k h.1, kcell k h.2.1, kcell k h.2.2.1, kcell k h.2.2.2.1, h.2.2.2.2.trans k (fun _ _ x => x)⟩
/-- An Ask beside a Text. -/
def TxAt (w w' : World) (a : AskD) : Prop := AskAt w' w.heap.size a ∧ w'.cell? ⟨w.heap.size + 1, 0, none⟩ = some (.int .i64 a.m) ∧ Keeps w w' (fun _ => False)
theorem TxAt.keep {w w1 w2 : World} {a : AskD} (h : TxAt w w1 a) (k : Keeps w1 w2 (fun _ => False)) : TxAt w w2 a := ⟨h.1.keep k, kcell k h.2.1, h.2.2.trans k (fun _ _ x => x)⟩
set_option maxRecDepth 100000 in
set_option maxHeartbeats 4000000 in
theorem text_any (a : AskD) (ha : a.Ok) (w : World) : Calls Try.prog 28 #[.agg a.cells] w fun e w' => e = .returned (.bool true) ∧ Keeps w w' (fun _ => False) := by
  obtain ⟨hi, hu, hf, hm, hs, hr⟩ := ha
  have S0 := askAt_new w a
  have hA : a.cells = #[.int .i64 a.i, .int .u64 (a.u : Int), .float .f64 a.f, .bool a.b, .int .i64 a.m, .string a.s, .string a.r] := rfl
  rw [hA] at S0 ⊢
  obtain ⟨X, y, -, -, -, hP1, hP2⟩ := pack_both a.m a.s
  have hB1 := tyb_Pack a.b
  have hB2 := rPackBool a.b
  have hW1 := tyt_Width a.m
  have hW2 := rTextWidth a.m
  have hL := tyt_Align a.m
  have hU1 := tyt_Unpack a.m hm a.r
  have hU2 := rUnpackText a.m a.r
  have hV1 := tyb_Unpack a.r
  have hV2 := rUnpackBool a.r
  generalize strOf (bB a.b) = T1 at *
  generalize txW a.m = T2 at *
  generalize strOf (txU a.m a.r.data.toList) = T3 at *
  generalize bU a.r.data.toList = T4 at *
  have Z0 : TxAt w ((w.alloc (.cells #[.int .i64 a.i, .int .u64 (a.u : Int), .float .f64 a.f, .bool a.b, .int .i64 a.m, .string a.s, .string a.r] 43)).alloc (.cells #[.int .i64 a.m] 50)) a := ⟨S0.keep ((Keeps.refl _ _).alloc _), next_cell _ _ _ _ _ _ rfl, ((Keeps.refl _ _).alloc _).alloc _⟩
  clear hA S0
  go_enter Try.func28, Try.ntmps28
  go_wp2_with fail
  (with_reducible refine (hP1 _).mono ?_)
  rintro e w1 ⟨rfl, k1⟩
  have Z1 := Z0.keep k1
  obtain ⟨⟨c0, c1, c2, c3, c4, c5, c6⟩, c7, -⟩ := id Z1
  go_wp2_with fail
  (with_reducible refine (hP2 _).mono ?_)
  rintro e w2 ⟨rfl, k2⟩
  have Z2 := Z1.keep k2
  clear c0 c1 c2 c3 c4 c5 c6 c7 k1 k2 Z0 Z1 hP1 hP2
  obtain ⟨⟨c0, c1, c2, c3, c4, c5, c6⟩, c7, -⟩ := id Z2
  go_wp2_with fail
  (with_reducible refine (hB1 _).mono ?_)
  rintro e w3 ⟨rfl, k3⟩
  have Z3 : TxS w w3.drew a := by
    obtain ⟨⟨-, -, -, d3, d4, -, d6⟩, d7, K⟩ := Z2.keep (k3.trans (Keeps.refl _ (fun _ => False)).drew (fun _ _ x => x))
    exact ⟨d3, d4, d6, d7, K⟩
  have Z3' := Z3
  unfold TxS at Z3'
  clear c0 c1 c2 c3 c4 c5 c6 c7 k3 Z2 hB1
  go_wp2_with fail
  go_region_held3 (fun w' => w'.cell? ⟨w.heap.size, 3, none⟩ = some (.bool a.b) ∧ w'.cell? ⟨w.heap.size, 4, none⟩ = some (.int .i64 a.m) ∧ w'.cell? ⟨w.heap.size, 6, none⟩ = some (.string a.r) ∧ w'.cell? ⟨w.heap.size + 1, 0, none⟩ = some (.int .i64 a.m) ∧ Keeps w w' (fun _ => False)) (first | with_reducible exact Z3' | with_reducible assumption) (first | (go_at_call 23; (with_reducible refine (hW1 _).mono ?_); rintro e x1 ⟨rfl, q1⟩; have X1 := hide (Z3.keep q1); have X1' := X1.out; unfold TxS at X1') | (go_at_call 50; (with_reducible refine (hW2 _).mono ?_); rintro e x2 ⟨rfl, rfl⟩) | (go_at_call 51; (with_reducible refine (hL _).mono ?_); rintro e x3 ⟨rfl, q3⟩; have X3 := hide (X1.out.keep q3); have X3' := X3.out; unfold TxS at X3') | (go_at_call 24; (with_reducible refine (hU1 _).mono ?_); rintro e x4 ⟨rfl, q4⟩; have X4 := hide (X3.out.keep q4); have X4' := X4.out; unfold TxS at X4') | (go_at_call 52; (with_reducible refine (hU2 _).mono ?_); rintro e x5 ⟨rfl, rfl⟩))
  clear Z3 Z3' X1 X1' X3 X3' q1 q3 q4 hW1 hW2 hL hU1 hU2
  obtain ⟨c3, c4, c6, c7, K4⟩ := X4'
  go_wp2_with fail
  (with_reducible refine (hB2 _).mono ?_)
  rintro e w6 ⟨rfl, rfl⟩
  go_wp2_with fail
  (with_reducible refine (tyb_Width _).mono ?_)
  rintro e w7 ⟨rfl, k7⟩
  go_wp2_with fail
  (with_reducible refine (tyb_Align _).mono ?_)
  rintro e w8 ⟨rfl, k8⟩
  have k9 := (k7.trans k8 (fun _ _ x => x)).trans (Keeps.refl _ (fun _ => False)).drew (fun _ _ x => x)
  have Y' : w8.drew.cell? ⟨w.heap.size, 6, none⟩ = some (.string a.r) ∧ Keeps w w8.drew (fun _ => False) := ⟨kcell k9 c6, K4.trans k9 (fun _ _ x => x)⟩
  clear c3 c4 c6 c7 K4 k7 k8 k9 X4
  go_wp2_with fail
  go_region_held3 (fun w' => w'.cell? ⟨w.heap.size, 6, none⟩ = some (.string a.r) ∧ Keeps w w' (fun _ => False)) (first | with_reducible exact Y' | with_reducible assumption) (first | (go_at_call 20; (with_reducible refine (hV1 _).mono ?_); rintro e y1 ⟨rfl, q1⟩; have Y1 : y1.cell? ⟨w.heap.size, 6, none⟩ = some (.string a.r) ∧ Keeps w y1 (fun _ => False) := ⟨kcell q1 Y'.1, Y'.2.trans q1 (fun _ _ x => x)⟩) | (go_at_call 56; (with_reducible refine (hV2 _).mono ?_); rintro e y2 ⟨rfl, rfl⟩))
  go_wp2_with fail
  go_ret
  exact ⟨by simp, Y1.2⟩
end Go.Proofs.Ytgbeacfiaegehaa
