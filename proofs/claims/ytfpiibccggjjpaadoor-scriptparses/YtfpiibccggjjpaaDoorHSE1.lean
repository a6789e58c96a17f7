/-
  script: the reference's digit and row.
-/
import Derived.Test.YtfpiibccggjjpaaDoorUn13
namespace Go.Proofs.YtfpiibccggjjpaaDoor
open Go.RowKit
set_option linter.unusedVariables false
/-- A digit's worth to the base. -/
def rdD (c b : Int) : Int := if digD c < b then digD c else -1
set_option maxRecDepth 100000 in
theorem rdig_0i (c b : Int) (hb : 0 ≤ b ∧ b ≤ 16) (h0 : 48 ≤ c) (h1 : c ≤ 57) (hv : ¬ b ≤ c - 48) (w : World) : Calls Tryd.prog 71 #[.int .u8 c, .int .i64 b] w fun e w' => e = .returned (.int .i64 (c - 48)) ∧ w' = w := by
  have g48 : (48 : Int) ≤ c := by omega
  have g97 : ¬ (97 : Int) ≤ c := by omega
  have g65 : ¬ (65 : Int) ≤ c := by omega
  have e1 : IntKind.u8.wrap (c - 48) = c - 48 := by rw [IntKind.wrap_u8]; omega
  have e2 : IntKind.i64.wrap (c - 48) = c - 48 := by rw [IntKind.wrap_i64]; omega
  have e2' : wrap64 (c - 48) = c - 48 := by unfold wrap64; omega
  go_enter Tryd.func71, Tryd.ntmps71
  go_wp2_with fail
  go_ret
  exact ⟨rfl, rfl⟩
set_option maxRecDepth 100000 in
theorem rdig_0o (c b : Int) (hb : 0 ≤ b ∧ b ≤ 16) (h0 : 48 ≤ c) (h1 : c ≤ 57) (hv : b ≤ c - 48) (w : World) : Calls Tryd.prog 71 #[.int .u8 c, .int .i64 b] w fun e w' => e = .returned (.int .i64 (-1)) ∧ w' = w := by
  have g48 : (48 : Int) ≤ c := by omega
  have g97 : ¬ (97 : Int) ≤ c := by omega
  have g65 : ¬ (65 : Int) ≤ c := by omega
  have e1 : IntKind.u8.wrap (c - 48) = c - 48 := by rw [IntKind.wrap_u8]; omega
  have e2 : IntKind.i64.wrap (c - 48) = c - 48 := by rw [IntKind.wrap_i64]; omega
  have e2' : wrap64 (c - 48) = c - 48 := by unfold wrap64; omega
  go_enter Tryd.func71, Tryd.ntmps71
  go_wp2_with fail
  go_ret
  exact ⟨rfl, rfl⟩
set_option maxRecDepth 100000 in
theorem rdig_ai (c b : Int) (hb : 0 ≤ b ∧ b ≤ 16) (h0 : 97 ≤ c) (h1 : c ≤ 102) (hv : ¬ b ≤ c - 97 + 10) (w : World) : Calls Tryd.prog 71 #[.int .u8 c, .int .i64 b] w fun e w' => e = .returned (.int .i64 (c - 97 + 10)) ∧ w' = w := by
  have g48 : (48 : Int) ≤ c := by omega
  have k57 : ¬ c ≤ (57 : Int) := by omega
  have g97 : (97 : Int) ≤ c := by omega
  have g65 : (65 : Int) ≤ c := by omega
  have k70 : ¬ c ≤ (70 : Int) := by omega
  have e1 : IntKind.u8.wrap (c - 97) = c - 97 := by rw [IntKind.wrap_u8]; omega
  have e2 : IntKind.i64.wrap (c - 97) = c - 97 := by rw [IntKind.wrap_i64]; omega
  have e2' : wrap64 (c - 97) = c - 97 := by unfold wrap64; omega
  have e3 : IntKind.i64.wrap (c - 97 + 10) = c - 97 + 10 := by rw [IntKind.wrap_i64]; omega
  have e3' : wrap64 (c - 97 + 10) = c - 97 + 10 := by unfold wrap64; omega
  go_enter Tryd.func71, Tryd.ntmps71
  go_wp2_with fail
  go_ret
  exact ⟨rfl, rfl⟩
set_option maxRecDepth 100000 in
theorem rdig_ao (c b : Int) (hb : 0 ≤ b ∧ b ≤ 16) (h0 : 97 ≤ c) (h1 : c ≤ 102) (hv : b ≤ c - 97 + 10) (w : World) : Calls Tryd.prog 71 #[.int .u8 c, .int .i64 b] w fun e w' => e = .returned (.int .i64 (-1)) ∧ w' = w := by
  have g48 : (48 : Int) ≤ c := by omega
  have k57 : ¬ c ≤ (57 : Int) := by omega
  have g97 : (97 : Int) ≤ c := by omega
  have g65 : (65 : Int) ≤ c := by omega
  have k70 : ¬ c ≤ (70 : Int) := by omega
  have e1 : IntKind.u8.wrap (c - 97) = c - 97 := by rw [IntKind.wrap_u8]; omega
  have e2 : IntKind.i64.wrap (c - 97) = c - 97 := by rw [IntKind.wrap_i64]; omega
  have e2' : wrap64 (c - 97) = c - 97 := by unfold wrap64; omega
  have e3 : IntKind.i64.wrap (c - 97 + 10) = c - 97 + 10 := by rw [IntKind.wrap_i64]; omega
  have e3' : wrap64 (c - 97 + 10) = c - 97 + 10 := by unfold wrap64; omega
  go_enter Tryd.func71, Tryd.ntmps71
  go_wp2_with fail
  go_ret
  exact ⟨rfl, rfl⟩
set_option maxRecDepth 100000 in
theorem rdig_Ai (c b : Int) (hb : 0 ≤ b ∧ b ≤ 16) (h0 : 65 ≤ c) (h1 : c ≤ 70) (hv : ¬ b ≤ c - 65 + 10) (w : World) : Calls Tryd.prog 71 #[.int .u8 c, .int .i64 b] w fun e w' => e = .returned (.int .i64 (c - 65 + 10)) ∧ w' = w := by
  have g48 : (48 : Int) ≤ c := by omega
  have k57 : ¬ c ≤ (57 : Int) := by omega
  have g97 : ¬ (97 : Int) ≤ c := by omega
  have g65 : (65 : Int) ≤ c := by omega
  have e1 : IntKind.u8.wrap (c - 65) = c - 65 := by rw [IntKind.wrap_u8]; omega
  have e2 : IntKind.i64.wrap (c - 65) = c - 65 := by rw [IntKind.wrap_i64]; omega
  have e2' : wrap64 (c - 65) = c - 65 := by unfold wrap64; omega
  have e3 : IntKind.i64.wrap (c - 65 + 10) = c - 65 + 10 := by rw [IntKind.wrap_i64]; omega
  have e3' : wrap64 (c - 65 + 10) = c - 65 + 10 := by unfold wrap64; omega
  go_enter Tryd.func71, Tryd.ntmps71
  go_wp2_with fail
  go_ret
  exact ⟨rfl, rfl⟩
set_option maxRecDepth 100000 in
theorem rdig_Ao (c b : Int) (hb : 0 ≤ b ∧ b ≤ 16) (h0 : 65 ≤ c) (h1 : c ≤ 70) (hv : b ≤ c - 65 + 10) (w : World) : Calls Tryd.prog 71 #[.int .u8 c, .int .i64 b] w fun e w' => e = .returned (.int .i64 (-1)) ∧ w' = w := by
  have g48 : (48 : Int) ≤ c := by omega
  have k57 : ¬ c ≤ (57 : Int) := by omega
  have g97 : ¬ (97 : Int) ≤ c := by omega
  have g65 : (65 : Int) ≤ c := by omega
  have e1 : IntKind.u8.wrap (c - 65) = c - 65 := by rw [IntKind.wrap_u8]; omega
  have e2 : IntKind.i64.wrap (c - 65) = c - 65 := by rw [IntKind.wrap_i64]; omega
  have e2' : wrap64 (c - 65) = c - 65 := by unfold wrap64; omega
  have e3 : IntKind.i64.wrap (c - 65 + 10) = c - 65 + 10 := by rw [IntKind.wrap_i64]; omega
  have e3' : wrap64 (c - 65 + 10) = c - 65 + 10 := by unfold wrap64; omega
  go_enter Tryd.func71, Tryd.ntmps71
  go_wp2_with fail
  go_ret
  exact ⟨rfl, rfl⟩
set_option maxRecDepth 100000 in
theorem rdig_lo (c b : Int) (hb : 0 ≤ b ∧ b ≤ 16) (hc : c < 48) (w : World) : Calls Tryd.prog 71 #[.int .u8 c, .int .i64 b] w fun e w' => e = .returned (.int .i64 (-1)) ∧ w' = w := by
  have g48 : ¬ (48 : Int) ≤ c := by omega
  have g97 : ¬ (97 : Int) ≤ c := by omega
  have g65 : ¬ (65 : Int) ≤ c := by omega
  have hb' : ¬ b ≤ -1 := by omega
  go_enter Tryd.func71, Tryd.ntmps71
  go_wp2_with fail
  go_ret
  exact ⟨rfl, rfl⟩
set_option maxRecDepth 100000 in
theorem rdig_m1 (c b : Int) (hb : 0 ≤ b ∧ b ≤ 16) (hc : 57 < c ∧ c < 65) (w : World) : Calls Tryd.prog 71 #[.int .u8 c, .int .i64 b] w fun e w' => e = .returned (.int .i64 (-1)) ∧ w' = w := by
  have g48 : (48 : Int) ≤ c := by omega
  have k57 : ¬ c ≤ (57 : Int) := by omega
  have g97 : ¬ (97 : Int) ≤ c := by omega
  have g65 : ¬ (65 : Int) ≤ c := by omega
  have hb' : ¬ b ≤ -1 := by omega
  go_enter Tryd.func71, Tryd.ntmps71
  go_wp2_with fail
  go_ret
  exact ⟨rfl, rfl⟩
set_option maxRecDepth 100000 in
theorem rdig_m2 (c b : Int) (hb : 0 ≤ b ∧ b ≤ 16) (hc : 70 < c ∧ c < 97) (w : World) : Calls Tryd.prog 71 #[.int .u8 c, .int .i64 b] w fun e w' => e = .returned (.int .i64 (-1)) ∧ w' = w := by
  have g48 : (48 : Int) ≤ c := by omega
  have k57 : ¬ c ≤ (57 : Int) := by omega
  have g97 : ¬ (97 : Int) ≤ c := by omega
  have g65 : (65 : Int) ≤ c := by omega
  have k70 : ¬ c ≤ (70 : Int) := by omega
  have hb' : ¬ b ≤ -1 := by omega
  go_enter Tryd.func71, Tryd.ntmps71
  go_wp2_with fail
  go_ret
  exact ⟨rfl, rfl⟩
set_option maxRecDepth 100000 in
theorem rdig_hi (c b : Int) (hb : 0 ≤ b ∧ b ≤ 16) (hc : 102 < c) (w : World) : Calls Tryd.prog 71 #[.int .u8 c, .int .i64 b] w fun e w' => e = .returned (.int .i64 (-1)) ∧ w' = w := by
  have g48 : (48 : Int) ≤ c := by omega
  have k57 : ¬ c ≤ (57 : Int) := by omega
  have g97 : (97 : Int) ≤ c := by omega
  have k102 : ¬ c ≤ (102 : Int) := by omega
  have g65 : (65 : Int) ≤ c := by omega
  have k70 : ¬ c ≤ (70 : Int) := by omega
  have hb' : ¬ b ≤ -1 := by omega
  go_enter Tryd.func71, Tryd.ntmps71
  go_wp2_with fail
  go_ret
  exact ⟨rfl, rfl⟩
theorem rdigit_any (c b : Int) (hb : 0 ≤ b ∧ b ≤ 16) (w : World) : Calls Tryd.prog 71 #[.int .u8 c, .int .i64 b] w fun e w' => e = .returned (.int .i64 (rdD c b)) ∧ w' = w := by
  unfold rdD digD
  by_cases h0 : c < 48
  · simp only [if_pos h0]
    rw [if_neg (by omega)]
    exact rdig_lo c b hb h0 w
  by_cases h1 : c ≤ 57
  · simp only [if_neg h0, if_pos h1]
    by_cases hv : b ≤ c - 48
    · rw [if_neg (by omega)]
      exact rdig_0o c b hb (by omega) h1 hv w
    · rw [if_pos (by omega)]
      exact rdig_0i c b hb (by omega) h1 hv w
  by_cases h2 : c < 65
  · simp only [if_neg h0, if_neg h1, if_pos h2]
    rw [if_neg (by omega)]
    exact rdig_m1 c b hb ⟨by omega, h2⟩ w
  by_cases h3 : c ≤ 70
  · simp only [if_neg h0, if_neg h1, if_neg h2, if_pos h3]
    by_cases hv : b ≤ c - 65 + 10
    · rw [if_neg (by omega)]
      exact rdig_Ao c b hb (by omega) h3 hv w
    · rw [if_pos (by omega)]
      exact rdig_Ai c b hb (by omega) h3 hv w
  by_cases h4 : c < 97
  · simp only [if_neg h0, if_neg h1, if_neg h2, if_neg h3, if_pos h4]
    rw [if_neg (by omega)]
    exact rdig_m2 c b hb ⟨by omega, h4⟩ w
  by_cases h5 : c ≤ 102
  · simp only [if_neg h0, if_neg h1, if_neg h2, if_neg h3, if_neg h4, if_pos h5]
    by_cases hv : b ≤ c - 97 + 10
    · rw [if_neg (by omega)]
      exact rdig_ao c b hb (by omega) h5 hv w
    · rw [if_pos (by omega)]
      exact rdig_ai c b hb (by omega) h5 hv w
  simp only [if_neg h0, if_neg h1, if_neg h2, if_neg h3, if_neg h4, if_neg h5]
  rw [if_neg (by omega)]
  exact rdig_hi c b hb (by omega) w
end Go.Proofs.YtfpiibccggjjpaaDoor

