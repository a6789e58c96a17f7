/-
  First: the lowest slot of a set, by the table of math/bits.
-/
import Derived.Test.YtbpgjlengpgnnabDoorC2
namespace Go.Proofs.YtbpgjlengpgnnabDoor
open Go.RowKit
set_option linter.unusedVariables false

def tabL : List Nat := [0, 1, 56, 2, 57, 49, 28, 3, 61, 58, 42, 50, 38, 29, 17, 4, 62, 47, 59, 36, 45, 43, 51, 22, 53, 39, 33, 30, 24, 18, 12, 5, 63, 55, 48, 27, 60, 41, 37, 16, 46, 35, 44, 21, 52, 32, 23, 11, 54, 26, 40, 15, 34, 20, 31, 10, 25, 14, 19, 9, 13, 8, 7, 6]
/-- The table where the program lays it. -/
def TabAt (w : World) : Prop := ∀ k, k < 64 → w.cell? ⟨0, k, none⟩ = some (.int .u8 ((tabL.getD k 0 : Nat) : Int))
theorem TabAt.kp {w w' : World} (h : TabAt w) (k : Kp w w') : TabAt w' := fun i hi => k.cell (h i hi)

/-- The lowest slot; 8: there is none. -/
def firM (m : Nat) : Nat := if m % 2 = 1 then 0 else if m / 2 % 2 = 1 then 1 else if m / 4 % 2 = 1 then 2 else if m / 8 % 2 = 1 then 3 else if m / 16 % 2 = 1 then 4 else if m / 32 % 2 = 1 then 5 else if m / 64 % 2 = 1 then 6 else if m / 128 % 2 = 1 then 7 else 8
def low1 (x : Int) : Int := bits BinOp.and IntKind.u64 x (IntKind.u64.wrap (-x))
def low2 (x : Int) : Int := IntKind.u64.wrap (x * 285870213051353865)
def low3 (x : Int) : Int := x / 288230376151711744
theorem low_all : ∀ m, m < 256 → 0 < m → (((spread m : Nat) : Int) == 0) = false ∧ 0 ≤ low3 (low2 (low1 ((spread m : Nat) : Int))) ∧ low3 (low2 (low1 ((spread m : Nat) : Int))) < 64 ∧ tabL.getD (low3 (low2 (low1 ((spread m : Nat) : Int)))).toNat 0 = 8 * firM m + 7 := by decide +kernel

set_option maxHeartbeats 400000 in
theorem tz_walk (X L P I V : Int) (w : World) (h0 : (X == 0) = false) (h1 : bits BinOp.and IntKind.u64 X (IntKind.u64.wrap (-X)) = L) (h2 : IntKind.u64.wrap (L * 285870213051353865) = P) (h3 : P / 288230376151711744 = I) (hI : 0 ≤ I) (hI' : I < 64)
    (hc : w.cell? ⟨0, I.toNat, none⟩ = some (.int .u8 V)) (hV : 0 ≤ V) (hV' : V < 64) :
    Calls Tryd.prog 36 #[.int .u64 X] w fun e w' => e = .returned (.int .i64 V) ∧ w' = w := by
  go_enter Tryd.func36, Tryd.ntmps36
  go_wp2_with fail
  go_ret
  exact ⟨rfl, rfl⟩

set_option maxHeartbeats 400000 in
theorem tz_zero (w : World) :
    Calls Tryd.prog 36 #[.int .u64 0] w fun e w' => e = .returned (.int .i64 64) ∧ w' = w := by
  go_enter Tryd.func36, Tryd.ntmps36
  go_wp2_with fail
  go_ret
  exact ⟨rfl, rfl⟩

theorem firM_lt : ∀ m, m < 256 → 0 < m → firM m < 8 := by decide +kernel
theorem firM_le : ∀ m, m < 256 → firM m ≤ 8 := by decide +kernel

set_option maxHeartbeats 400000 in
theorem first_walk (z t f : Int) (w : World) (hT : ∀ w', Kp w w' → Calls Tryd.prog 36 #[.int .u64 z] w' fun e w'' => e = .returned (.int .i64 t) ∧ w'' = w') (hf : wrap64 (t.tdiv 8) = f) :
    Calls Tryd.prog 29 #[.agg #[.int .u64 z]] w fun e w' => e = .returned (.int .i64 f) ∧ Kp w w' := by
  go_enter Tryd.func29, Tryd.ntmps29
  go_wp2_with fail
  refine (hT _ ((Kp.refl _).alloc _)).mono ?_
  rintro e w' ⟨rfl, rfl⟩
  go_wp2_with fail
  go_ret
  exact ⟨by rw [← hf]; rfl, (Kp.refl _).alloc _⟩

def FirstIs (z f : Int) : Prop := ∃ m, m < 256 ∧ z = ((spread m : Nat) : Int) ∧ f = ((firM m : Nat) : Int)
theorem first_is {z f : Int} (q : FirstIs z f) {w : World} (ht : TabAt w) :
    Calls Tryd.prog 29 #[.agg #[.int .u64 z]] w fun e w' => e = .returned (.int .i64 f) ∧ Kp w w' := by
  obtain ⟨m, hm, rfl, rfl⟩ := q
  by_cases h0 : 0 < m
  · obtain ⟨a1, a2, a3, a4⟩ := low_all m hm h0
    have hl := firM_lt m hm h0
    refine first_walk _ ((8 * firM m + 7 : Nat) : Int) _ w (fun w' k => tz_walk _ _ _ _ _ w' a1 rfl rfl rfl a2 a3 ?_ (by omega) (by omega)) ?_
    · rw [← a4]
      exact ht.kp k _ (by show Int.toNat (low3 (low2 (low1 ((spread m : Nat) : Int)))) < 64; omega)
    · rw [Int.tdiv_eq_ediv_of_nonneg (by omega)]
      unfold wrap64
      omega
  · obtain rfl : m = 0 := by omega
    exact first_walk 0 64 8 w (fun w' _ => tz_zero w') (by decide +kernel)
end Go.Proofs.YtbpgjlengpgnnabDoor
