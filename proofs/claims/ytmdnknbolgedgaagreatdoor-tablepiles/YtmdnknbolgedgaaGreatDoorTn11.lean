import Derived.WalkKit
import Derived.Below
import Derived.Test.YtmdnknbolgedgaaGreatDoorRows
import Derived.Outline
import Derived.Deep.RegionHeld3
import Derived.RangeFuncBox
import Derived.RangeFuncLeaves
import Derived.RangeFuncWrites
import Derived.RangeFuncNested
import Derived.Shelf.Abstract
import Derived.OwnWalkIn
import Derived.TacticsInMore
import Derived.LoopNIn
import Derived.LoopIn
import Derived.Sort.LoopGhostIn
import Derived.Test.YtmdnknbolgedgaaGreatDoorChecked
import Derived.ProofKit
import Derived.IntWalk
import Derived.Laws.Bits64
import Derived.Laws.BitsAll
import Derived.Deep.QuietTactic
import Derived.BigQuiet
import Derived.Test.YtmdnknbolgedgaaGreatDoorTn10
/-
  The order of a table's groups, as data: the document's words of chapter 7, as functions of numbers. Nothing here names the program.
-/
namespace Go.Proofs.YtmdnknbolgedgaaGreatDoor.Pb
open Go.RowKit

theorem hide {p : Prop} (h : p) : Hid p := h

/-- A power of two from lo to hi. -/
def pw (n lo hi : Int) : Bool := decide (lo ≤ n ∧ n ≤ hi ∧ (n.toNat &&& (n.toNat - 1)) = 0)
theorem two_pow_of {n : Nat} (h0 : n ≠ 0) (h : n &&& (n - 1) = 0) : ∃ k, n = 2 ^ k := (Nat.and_sub_one_eq_zero_iff_isPowerOfTwo h0).1 h
theorem pow_and (k : Nat) : 2 ^ k &&& (2 ^ k - 1) = 0 := (Nat.and_sub_one_eq_zero_iff_isPowerOfTwo (by have := Nat.two_pow_pos k; omega)).2 ⟨k, rfl⟩
theorem pw_iff {n lo hi : Int} (hlo : 1 ≤ lo) : pw n lo hi = true ↔ lo ≤ n ∧ n ≤ hi ∧ ∃ k : Nat, n = ((2 ^ k : Nat) : Int) := by
  unfold pw
  rw [decide_eq_true_iff]
  constructor
  · rintro ⟨h1, h2, h3⟩
    obtain ⟨m, rfl⟩ := Int.eq_ofNat_of_zero_le (show 0 ≤ n by omega)
    obtain ⟨k, hk⟩ := two_pow_of (n := m) (by omega) h3
    exact ⟨h1, h2, k, by rw [hk]⟩
  · rintro ⟨h1, h2, k, rfl⟩
    exact ⟨h1, h2, pow_and k⟩
theorem and_pred (m : Nat) (h1 : 1 ≤ m) (h2 : m ≤ 1000000) : bits .and .i64 (m : Int) ((m : Int) - 1) = ((m &&& (m - 1) : Nat) : Int) := by
  have e : (m : Int) - 1 = ((m - 1 : Nat) : Int) := by omega
  rw [e]
  show IntKind.i64.wrap ((BitVec.ofInt 64 (m : Int) &&& BitVec.ofInt 64 ((m - 1 : Nat) : Int)).toNat : Int) = _
  have ha : (m &&& (m - 1)) ≤ m := Nat.and_le_left
  rw [BitVec.toNat_and, BitVec.ofInt_natCast, BitVec.ofInt_natCast, BitVec.toNat_ofNat, BitVec.toNat_ofNat, Nat.mod_eq_of_lt (by omega), Nat.mod_eq_of_lt (by omega), IntKind.wrap_i64]
  omega

/-- A number of groups that is valid. -/
theorem pwG {n : Int} (h : pw n 1 8192 = true) : ∃ k : Nat, k ≤ 13 ∧ n = ((2 ^ k : Nat) : Int) := by
  obtain ⟨h1, h2, k, rfl⟩ := (pw_iff (by omega)).1 h
  refine ⟨k, Nat.le_of_not_lt fun hk => ?_, rfl⟩
  have := Nat.pow_le_pow_right (n := 2) (by omega) (show 14 ≤ k by omega)
  omega
theorem pwG_pow {k : Nat} (h : k ≤ 13) : pw ((2 ^ k : Nat) : Int) 1 8192 = true := by
  refine (pw_iff (by omega)).2 ⟨?_, ?_, k, rfl⟩
  · have := Nat.two_pow_pos k; omega
  · have := Nat.pow_le_pow_right (n := 2) (by omega) h; omega
theorem pow_bounds {k : Nat} (h : k ≤ 13) : 1 ≤ 2 ^ k ∧ 2 ^ k ≤ 8192 := by
  have := Nat.two_pow_pos k
  have := Nat.pow_le_pow_right (n := 2) (by omega) h
  omega

/-- The group at step n. -/
def metN (h G n : Nat) : Nat := (h + n * (n + 1) / 2) % G
theorem metN_lt {h G n : Nat} (hG : 1 ≤ G) : metN h G n < G := Nat.mod_lt _ hG
theorem metN_zero (h G : Nat) : metN h G 0 = h % G := by simp [metN]
theorem tri_succ (n : Nat) : (n + 1) * (n + 1 + 1) / 2 = n * (n + 1) / 2 + (n + 1) := by
  have e : (n + 1) * (n + 1 + 1) = n * (n + 1) + (n + 1) * 2 := by
    rw [Nat.add_mul, Nat.mul_add, Nat.mul_add]; omega
  rw [e, Nat.add_mul_div_right _ _ (by omega)]
theorem metN_succ (h G n : Nat) : metN h G (n + 1) = (metN h G n + (n + 1)) % G := by
  unfold metN
  rw [tri_succ, Nat.mod_add_mod, Nat.add_assoc]
theorem tri_even (n : Nat) : n * (n + 1) / 2 * 2 = n * (n + 1) := by
  have h : n * (n + 1) % 2 = 0 := by
    rw [Nat.mul_mod]
    rcases Nat.mod_two_eq_zero_or_one n with h | h
    · rw [h, Nat.zero_mul]
    · rw [Nat.add_mod, h]
  omega
/-- Every home's remainder alone counts. -/
theorem metN_mod (h G n : Nat) : metN (h % G) G n = metN h G n := by
  unfold metN
  rw [Nat.mod_add_mod]
theorem wrap_mod {a k : Nat} (h : k ≤ 64) : a % 18446744073709551616 % 2 ^ k = a % 2 ^ k := by
  rw [show (18446744073709551616 : Nat) = 2 ^ 64 by rfl]
  exact Nat.mod_mod_of_dvd _ (Nat.pow_dvd_pow 2 h)

/-- Triangular numbers below a power of two are all different. -/
theorem odd_dvd {k a b : Nat} (ho : b % 2 = 1) (h : 2 ^ k ∣ a * b) : 2 ^ k ∣ a := by
  have hc : Nat.Coprime (2 ^ k) b := Nat.Coprime.pow_left k (by
    have : Nat.gcd 2 b = 1 := by rw [Nat.gcd_rec, ho]; rfl
    exact this)
  exact hc.dvd_of_dvd_mul_right h
theorem metN_lt_ne {h k m n : Nat} (hmn : m < n) (hn : n < 2 ^ k) : metN h (2 ^ k) m ≠ metN h (2 ^ k) n := by
  intro e
  unfold metN at e
  have hle : m * (m + 1) / 2 ≤ n * (n + 1) / 2 := Nat.div_le_div_right (Nat.mul_le_mul (by omega) (by omega))
  have hd : 2 ^ k ∣ (n * (n + 1) / 2 - m * (m + 1) / 2) := by
    have := Nat.dvd_of_mod_eq_zero (Nat.sub_mod_eq_zero_of_mod_eq e.symm)
    rwa [Nat.add_sub_add_left] at this
  have hd2 : 2 ^ (k + 1) ∣ (n - m) * (n + m + 1) := by
    have h1 : 2 ^ k * 2 ∣ (n * (n + 1) / 2 - m * (m + 1) / 2) * 2 := Nat.mul_dvd_mul_right hd 2
    have e1 : (n * (n + 1) / 2 - m * (m + 1) / 2) * 2 = (n - m) * (n + m + 1) := by
      rw [Nat.sub_mul, tri_even, tri_even]
      obtain ⟨d, rfl⟩ : ∃ d, n = m + d := ⟨n - m, by omega⟩
      rw [Nat.add_sub_cancel_left]
      have e2 : (m + d) * (m + d + 1) = m * (m + 1) + d * (m + d + m + 1) := by
        simp only [Nat.add_mul, Nat.mul_add, Nat.mul_one]
        have := Nat.mul_comm m d
        omega
      rw [e2, Nat.add_sub_cancel_left]
    rw [e1] at h1
    exact h1
  have hp : 2 ^ (k + 1) = 2 ^ k * 2 := Nat.pow_succ 2 k
  rcases Nat.mod_two_eq_zero_or_one (n - m) with h0 | h0
  · have ho : (n + m + 1) % 2 = 1 := by omega
    have := Nat.le_of_dvd (by omega) (odd_dvd ho hd2)
    omega
  · rw [Nat.mul_comm] at hd2
    have := Nat.le_of_dvd (by omega) (odd_dvd h0 hd2)
    omega
theorem metN_inj {h k m n : Nat} (hm : m < 2 ^ k) (hn : n < 2 ^ k) (e : metN h (2 ^ k) m = metN h (2 ^ k) n) : m = n := by
  rcases Nat.lt_trichotomy m n with h1 | h1 | h1
  · exact absurd e (metN_lt_ne h1 hn)
  · exact h1
  · exact absurd e.symm (metN_lt_ne h1 hm)

/-- As many places as things: what is one to one meets all. -/
theorem no_inj : ∀ (G : Nat) (f : Nat → Nat), (∀ i, i < G + 1 → f i < G) → (∀ i j, i < G + 1 → j < G + 1 → f i = f j → i = j) → False
  | 0, f, h1, _ => by have := h1 0 (by omega); omega
  | G + 1, f, h1, h2 => by
    refine no_inj G (fun i => if f i = G then f (G + 1) else f i) (fun i hi => ?_) (fun i j hi hj e => ?_)
    · have a := h1 i (by omega)
      have b := h1 (G + 1) (by omega)
      show (if f i = G then f (G + 1) else f i) < G
      split
      · rename_i he
        have : f (G + 1) ≠ G := fun e => by have := h2 i (G + 1) (by omega) (by omega) (he.trans e.symm); omega
        omega
      · omega
    · have a : f i ≠ f (G + 1) := fun e => by have := h2 i (G + 1) (by omega) (by omega) e; omega
      have b : f j ≠ f (G + 1) := fun e => by have := h2 j (G + 1) (by omega) (by omega) e; omega
      split at e <;> split at e
      · rename_i x y; exact h2 i j (by omega) (by omega) (x.trans y.symm)
      · exact absurd e.symm b
      · exact absurd e a
      · exact h2 i j (by omega) (by omega) e
theorem inj_onto {G : Nat} {f : Nat → Nat} (h1 : ∀ i, i < G → f i < G) (h2 : ∀ i j, i < G → j < G → f i = f j → i = j) {x : Nat} (hx : x < G) : ∃ i, i < G ∧ f i = x := by
  apply Classical.byContradiction
  intro hn
  have hne : ∀ i, i < G → f i ≠ x := fun i hi e => hn ⟨i, hi, e⟩
  obtain ⟨g, rfl⟩ : ∃ g, G = g + 1 := ⟨G - 1, by omega⟩
  refine no_inj g (fun i => if f i = g then x else f i) (fun i hi => ?_) (fun i j hi hj e => ?_)
  · have a := h1 i hi
    have b := hne i hi
    show (if f i = g then x else f i) < g
    split <;> omega
  · have a := hne i hi
    have b := hne j hj
    split at e <;> split at e
    · rename_i y z; exact h2 i j hi hj (y.trans z.symm)
    · exact absurd e.symm b
    · exact absurd e a
    · exact h2 i j hi hj e
theorem metN_onto {h k x : Nat} (hx : x < 2 ^ k) : ∃ i, i < 2 ^ k ∧ metN h (2 ^ k) i = x :=
  inj_onto (f := metN h (2 ^ k)) (fun i hi => metN_lt (by omega)) (fun i j hi hj e => metN_inj hi hj e) hx

/-- How many slots may be full. -/
def mostN (s : Int) : Int := if pw s 8 65536 then s / 8 * 7 else 0
/-- The least table, from p on. -/
def slF (n : Int) : Nat → Int → Int
  | 0, _ => 0
  | f + 1, p => if n ≤ p / 8 * 7 then p else slF n f (2 * p)
def slotsN (n : Int) : Int := if n < 0 then 0 else slF n 14 8

theorem pwS_yes : ∀ j, j < 14 → pw ((8 * 2 ^ j : Nat) : Int) 8 65536 = true := by decide
theorem pwS_no : pw ((8 * 2 ^ 14 : Nat) : Int) 8 65536 = false := by decide
theorem pow_int (j : Nat) : ((8 * 2 ^ (j + 1) : Nat) : Int) = 2 * ((8 * 2 ^ j : Nat) : Int) := by
  rw [Nat.pow_succ]; omega
theorem pow_le14 : ∀ {j : Nat}, j ≤ 14 → 8 ≤ ((8 * 2 ^ j : Nat) : Int) ∧ ((8 * 2 ^ j : Nat) : Int) ≤ 131072 := by
  intro j hj
  have := Nat.two_pow_pos j
  have := Nat.pow_le_pow_right (n := 2) (by omega) hj
  omega
theorem pow_le13 {j : Nat} (hj : j ≤ 13) : ((8 * 2 ^ j : Nat) : Int) ≤ 65536 := by
  have := Nat.pow_le_pow_right (n := 2) (by omega) hj
  omega
theorem slF_spec (n : Int) (hn : n ≤ 57344) : ∀ f j, f + j = 14 → (j = 0 ∨ 7 * (2 ^ (j - 1) : Nat) < n) →
    ∃ i, i < 14 ∧ slF n f ((8 * 2 ^ j : Nat) : Int) = ((8 * 2 ^ i : Nat) : Int) ∧ n ≤ 7 * (2 ^ i : Nat) ∧ (i = 0 ∨ 7 * (2 ^ (i - 1) : Nat) < n)
  | 0, j, hj, h => by
    exfalso
    obtain rfl : j = 14 := by omega
    rcases h with h | h
    · omega
    · have : (7 * ((2 ^ (14 - 1) : Nat) : Int)) = 57344 := by decide
      omega
  | f + 1, j, hj, h => by
    unfold slF
    have e : ((8 * 2 ^ j : Nat) : Int) / 8 * 7 = 7 * (2 ^ j : Nat) := by omega
    rw [e]
    by_cases hle : n ≤ 7 * (2 ^ j : Nat)
    · rw [if_pos hle]
      exact ⟨j, by omega, rfl, hle, h⟩
    · rw [if_neg hle, ← pow_int]
      exact slF_spec n hn f (j + 1) (by omega) (Or.inr (by rw [Nat.add_sub_cancel]; omega))
theorem slF_no (n : Int) (hn : 57344 < n) : ∀ f j, f + j = 14 → slF n f ((8 * 2 ^ j : Nat) : Int) = 0
  | 0, _, _ => rfl
  | f + 1, j, hj => by
    unfold slF
    have e : ((8 * 2 ^ j : Nat) : Int) / 8 * 7 = 7 * (2 ^ j : Nat) := by omega
    have := Nat.pow_le_pow_right (n := 2) (by omega) (show j ≤ 13 by omega)
    rw [e, if_neg (by omega), ← pow_int]
    exact slF_no n hn f (j + 1) (by omega)
end Go.Proofs.YtmdnknbolgedgaaGreatDoor.Pb
/-
  The calls of probe that are plain arithmetic: powerWithin, isGroups, isSlots, met, At, Start, Most, Slots.
-/
namespace Go.Proofs.YtmdnknbolgedgaaGreatDoor.Pb
open Go.RowKit
set_option linter.unusedVariables false

theorem power_any (n lo hi : Int) (w : World) (hlo : 1 ≤ lo) (hhi : hi ≤ 1000000) :
    Calls Tryz.prog 88 #[.int .i64 n, .int .i64 lo, .int .i64 hi] w fun e w' => e = .returned (.bool (pw n lo hi)) ∧ w' = w := by
  by_cases h1 : lo ≤ n
  · by_cases h2 : n ≤ hi
    · obtain ⟨m, rfl⟩ := Int.eq_ofNat_of_zero_le (show 0 ≤ n by omega)
      have hp : bits .and .i64 (m : Int) ((m : Int) - 1) = ((m &&& (m - 1) : Nat) : Int) := and_pred m (by omega) (by omega)
      go_enter Tryz.func88, Tryz.ntmps88
      go_wp2
      go_ret
      refine ⟨?_, rfl⟩
      have e : ((((m &&& (m - 1) : Nat) : Int) == 0) : Bool) = decide (lo ≤ (m : Int) ∧ (m : Int) ≤ hi ∧ ((m : Int).toNat &&& ((m : Int).toNat - 1)) = 0) := by
        rw [Int.toNat_natCast, Bool.eq_iff_iff, beq_iff_eq, decide_eq_true_iff]
        constructor
        · exact fun h => ⟨h1, h2, by omega⟩
        · exact fun h => by rw [h.2.2]; rfl
      exact congrArg (fun b => Ending.returned (Value.bool b)) e
    · have e : pw n lo hi = false := decide_eq_false (fun h => h2 h.2.1)
      rw [e]
      have h2' : ¬ n ≤ hi := h2
      go_enter Tryz.func88, Tryz.ntmps88
      go_wp2
      go_ret
      exact ⟨rfl, rfl⟩
  · have e : pw n lo hi = false := decide_eq_false (fun h => h1 h.1)
    rw [e]
    go_enter Tryz.func88, Tryz.ntmps88
    go_wp2
    go_ret
    exact ⟨rfl, rfl⟩

theorem isGroups_any (n : Int) (w : World) :
    Calls Tryz.prog 47 #[.int .i64 n] w fun e w' => e = .returned (.bool (pw n 1 8192)) ∧ w' = w := by
  have hp := power_any n 1 8192 w (by omega) (by omega)
  go_enter Tryz.func47, Tryz.ntmps47
  go_wp2_with fail
  refine hp.mono ?_
  rintro e w' ⟨rfl, rfl⟩
  go_wp2_with fail
  go_ret
  exact ⟨rfl, rfl⟩

theorem isSlots_any (n : Int) (w : World) :
    Calls Tryz.prog 63 #[.int .i64 n] w fun e w' => e = .returned (.bool (pw n 8 65536)) ∧ w' = w := by
  have hp := power_any n 8 65536 w (by omega) (by omega)
  go_enter Tryz.func63, Tryz.ntmps63
  go_wp2_with fail
  refine hp.mono ?_
  rintro e w' ⟨rfl, rfl⟩
  go_wp2_with fail
  go_ret
  exact ⟨rfl, rfl⟩

theorem met_val (h k n : Nat) (hk : k ≤ 13) (hn : n < 2 ^ k) :
    wrap64 ((IntKind.u64.wrap ((h : Int) + IntKind.u64.wrap ((IntKind.u64.wrap ((n : Int) * ((n : Int) + 1))).tdiv 2))).tmod ((2 ^ k : Nat) : Int)) = ((metN h (2 ^ k) n : Nat) : Int) := by
  obtain ⟨g1, g2⟩ := pow_bounds hk
  have hmul : n * (n + 1) ≤ 8192 * 8192 := Nat.mul_le_mul (by omega) (by omega)
  have e1 : (n : Int) * ((n : Int) + 1) = ((n * (n + 1) : Nat) : Int) := by rw [Int.natCast_mul]; rfl
  have e0 : IntKind.u64.wrap ((n * (n + 1) : Nat) : Int) = ((n * (n + 1) : Nat) : Int) := by
    rw [IntKind.wrap_u64]
    omega
  have e2 : IntKind.u64.wrap (((n * (n + 1) : Nat) : Int).tdiv 2) = ((n * (n + 1) / 2 : Nat) : Int) := by
    rw [IntKind.wrap_u64, Int.tdiv_eq_ediv_of_nonneg (by omega)]
    omega
  have e3 : IntKind.u64.wrap ((h : Int) + ((n * (n + 1) / 2 : Nat) : Int)) = (((h + n * (n + 1) / 2) % 18446744073709551616 : Nat) : Int) := by
    rw [IntKind.wrap_u64]
    omega
  rw [e1, e0, e2, e3, Int.tmod_eq_emod_of_nonneg (by omega), ← Int.natCast_emod, wrap_mod (by omega)]
  have hl : metN h (2 ^ k) n < 2 ^ k := metN_lt g1
  have hM : metN h (2 ^ k) n = (h + n * (n + 1) / 2) % 2 ^ k := rfl
  rw [← hM]
  unfold wrap64
  omega

set_option maxHeartbeats 1000000 in
theorem met_any (h k n : Nat) (w : World) (hk : k ≤ 13) (hn : n < 2 ^ k) (hh : h < 18446744073709551616) :
    Calls Tryz.prog 48 #[.int .u64 (h : Int), .int .i64 ((2 ^ k : Nat) : Int), .int .i64 (n : Int)] w fun e w' => e = .returned (.int .i64 ((metN h (2 ^ k) n : Nat) : Int)) ∧ w' = w := by
  obtain ⟨g1, g2⟩ := pow_bounds hk
  have hV := hide (met_val h k n hk hn)
  generalize metN h (2 ^ k) n = M at *
  generalize 2 ^ k = G at *
  go_enter Tryz.func48, Tryz.ntmps48
  go_wp2_with fail
  go_ret
  exact ⟨congrArg (fun x => Ending.returned (Value.int .i64 x)) hV.out, rfl⟩

theorem at_no (h g n : Int) (w : World) (hv : pw g 1 8192 = false ∨ n < 0 ∨ g ≤ n) :
    Calls Tryz.prog 17 #[.int .u64 h, .int .i64 g, .int .i64 n] w fun e w' => e = .returned (.int .i64 (-1)) ∧ w' = w := by
  have hp := isGroups_any g w
  cases hq : pw g 1 8192
  · rw [hq] at hp
    go_enter Tryz.func17, Tryz.ntmps17
    go_wp2_with fail
    refine hp.mono ?_
    rintro e w' ⟨rfl, rfl⟩
    go_wp2_with fail
    go_ret
    exact ⟨rfl, rfl⟩
  · rw [hq] at hp
    by_cases h0 : n < 0
    · go_enter Tryz.func17, Tryz.ntmps17
      go_wp2_with fail
      refine hp.mono ?_
      rintro e w' ⟨rfl, rfl⟩
      go_wp2_with fail
      go_ret
      exact ⟨rfl, rfl⟩
    · have h1 : g ≤ n := by
        rcases hv with h | h | h
        · rw [hq] at h; cases h
        · exact absurd h h0
        · exact h
      clear hv
      go_enter Tryz.func17, Tryz.ntmps17
      go_wp2_with fail
      refine hp.mono ?_
      rintro e w' ⟨rfl, rfl⟩
      go_wp2_with fail
      go_ret
      exact ⟨rfl, rfl⟩

theorem at_yes (h k n : Nat) (w : World) (hk : k ≤ 13) (hn : n < 2 ^ k) (hh : h < 18446744073709551616) :
    Calls Tryz.prog 17 #[.int .u64 (h : Int), .int .i64 ((2 ^ k : Nat) : Int), .int .i64 (n : Int)] w fun e w' => e = .returned (.int .i64 ((metN h (2 ^ k) n : Nat) : Int)) ∧ w' = w := by
  have hp := isGroups_any ((2 ^ k : Nat) : Int) w
  have hm := met_any h k n w hk hn hh
  rw [pwG_pow hk] at hp
  generalize metN h (2 ^ k) n = M at *
  generalize 2 ^ k = G at *
  have hn' : (n : Int) < (G : Int) := by omega
  go_enter Tryz.func17, Tryz.ntmps17
  go_wp2_with fail
  refine hp.mono ?_
  rintro e w' ⟨rfl, rfl⟩
  go_wp2_with fail
  refine hm.mono ?_
  rintro e w' ⟨rfl, rfl⟩
  go_wp2_with fail
  go_ret
  exact ⟨rfl, rfl⟩

/-- The group at step n, or -1. -/
def atN (h : Nat) (g n : Int) : Int := if pw g 1 8192 = true ∧ 0 ≤ n ∧ n < g then ((metN h g.toNat n.toNat : Nat) : Int) else -1
theorem at_any (h : Nat) (g n : Int) (w : World) (hh : h < 18446744073709551616) :
    Calls Tryz.prog 17 #[.int .u64 (h : Int), .int .i64 g, .int .i64 n] w fun e w' => e = .returned (.int .i64 (atN h g n)) ∧ w' = w := by
  by_cases hc : pw g 1 8192 = true ∧ 0 ≤ n ∧ n < g
  · unfold atN
    rw [if_pos hc]
    obtain ⟨h1, h2, h3⟩ := hc
    obtain ⟨k, hk, rfl⟩ := pwG h1
    obtain ⟨m, rfl⟩ := Int.eq_ofNat_of_zero_le h2
    exact at_yes h k m w hk (by omega) hh
  · unfold atN
    rw [if_neg hc]
    refine at_no h g n w ?_
    cases hq : pw g 1 8192
    · exact .inl rfl
    · exact .inr (by
        by_cases h0 : n < 0
        · exact .inl h0
        · exact .inr (by
            refine Int.not_lt.1 fun hlt => hc ⟨hq, by omega, hlt⟩))

/-- A call of At by its answer. -/
def AtIs (h g n r : Int) : Prop := ∃ H : Nat, h = (H : Int) ∧ H < 18446744073709551616 ∧ r = atN H g n
theorem at_is {h g n r : Int} (q : AtIs h g n r) (w : World) :
    Calls Tryz.prog 17 #[.int .u64 h, .int .i64 g, .int .i64 n] w fun e w' => e = .returned (.int .i64 r) ∧ w' = w := by
  obtain ⟨H, rfl, h1, rfl⟩ := q
  exact at_any H g n w h1
theorem atN_yes {h k n : Nat} (hk : k ≤ 13) (hn : n < 2 ^ k) : atN h ((2 ^ k : Nat) : Int) (n : Int) = ((metN h (2 ^ k) n : Nat) : Int) := by
  unfold atN
  rw [if_pos ⟨pwG_pow hk, by omega, by omega⟩]
  rfl

theorem most_any (s : Int) (w : World) :
    Calls Tryz.prog 36 #[.int .i64 s] w fun e w' => e = .returned (.int .i64 (mostN s)) ∧ w' = w := by
  have hp := isSlots_any s w
  cases hq : pw s 8 65536
  · rw [hq] at hp
    have e : mostN s = 0 := by unfold mostN; rw [hq]; rfl
    rw [e]
    go_enter Tryz.func36, Tryz.ntmps36
    go_wp2_with fail
    refine hp.mono ?_
    rintro e w' ⟨rfl, rfl⟩
    go_wp2_with fail
    go_ret
    exact ⟨rfl, rfl⟩
  · rw [hq] at hp
    have e : mostN s = s / 8 * 7 := by unfold mostN; rw [hq]; rfl
    rw [e]
    obtain ⟨h1, h2, _⟩ := (pw_iff (by omega)).1 hq
    go_enter Tryz.func36, Tryz.ntmps36
    go_wp2_with fail
    refine hp.mono ?_
    rintro e w' ⟨rfl, rfl⟩
    go_wp2_with fail
    go_ret
    exact ⟨rfl, rfl⟩
end Go.Proofs.YtmdnknbolgedgaaGreatDoor.Pb
/-
  Order, and a range over it.
-/
namespace Go.Proofs.YtmdnknbolgedgaaGreatDoor.Pb
open Go.RowKit Go.Shelf
set_option linter.unusedVariables false

attribute [local go_sem] Oper.semAt_some

/-- What was there stays; what is new may be anything. -/
def Kp (w w' : World) : Prop := Below w.heap.size w w'
theorem Kp.refl (w : World) : Kp w w := Below.refl _ _
theorem Kp.trans {w w1 w2 : World} (h : Kp w w1) (k : Kp w1 w2) : Kp w w2 := Below.trans h (Below.mono k h.size)
theorem Kp.alloc {w w1 : World} (h : Kp w w1) (o : Obj) : Kp w (w1.alloc o) := Below.alloc h h.size o
theorem Kp.drew {w w1 : World} (h : Kp w w1) : Kp w w1.drew := Below.drew h
theorem Kp.blk {w w1 : World} (h : Kp w w1) {q : Nat} {o : Obj} (hq : w.heap[q]? = some o) : w1.heap[q]? = some o := (h.block q (Array.getElem?_eq_some_iff.1 hq).1).trans hq
theorem Kp.cell {w w1 : World} (h : Kp w w1) {p : Addr} {v : Value} (hp : w.cell? p = some v) : w1.cell? p = some v := by
  have : p.block < w.heap.size := by
    refine Nat.lt_of_not_le fun hn => ?_
    rw [World.cell?, Array.getElem?_eq_none hn] at hp
    cases hp
  exact (Below.cell h this).trans hp
theorem heap_new (w : World) (o : Obj) : (w.alloc o).heap[w.heap.size]? = some o := World.alloc_heap_new w o
theorem heap_old {w : World} {q : Nat} {o o' : Obj} (h : w.heap[q]? = some o') : (w.alloc o).heap[q]? = some o' := ((Kp.refl w).alloc o).blk h
theorem one_cell {w : World} {b : Nat} {v : Value} {t : TypeId} (h : w.heap[b]? = some (.cells #[v] t)) : w.cell? ⟨b, 0, none⟩ = some v ∧ w.frozen? ⟨b, 0, none⟩ = false := by
  constructor
  · simp [World.cell?, h]
  · simp [World.frozen?, h]

/-- The groups in their order. -/
def ordN (h : Nat) (g : Int) : List Nat := if pw g 1 8192 = true then (List.range g.toNat).map (metN h g.toNat) else []
theorem ordN_no {h : Nat} {g : Int} (hq : pw g 1 8192 = false) : ordN h g = [] := by unfold ordN; rw [hq]; rfl
theorem ordN_yes {h k : Nat} (hk : k ≤ 13) : ordN h ((2 ^ k : Nat) : Int) = (List.range (2 ^ k)).map (metN h (2 ^ k)) := by unfold ordN; rw [pwG_pow hk]; rfl

/-- Two blocks stay as they are. -/
def Stay (b c : Nat) (W W' : World) : Prop := ∀ (q : Nat) (o : Obj), q = b ∨ q = c → W.heap[q]? = some o → W'.heap[q]? = some o
theorem Stay.refl (b c : Nat) (W : World) : Stay b c W W := fun _ _ _ h => h
theorem Stay.trans {b c : Nat} {A B C : World} (h : Stay b c A B) (k : Stay b c B C) : Stay b c A C := fun q o hq e => k q o hq (h q o hq e)
theorem Stay.kp {b c : Nat} {W W' : World} (k : Kp W W') : Stay b c W W' := fun _ _ _ h => k.blk h

theorem abides_kp {β : Type} {B : Nat} {J : β → World → Prop} (h : AbidesFrom B J) {s : β} {W W' : World} (hJ : J s W) (k : Kp W W') : J s W' :=
  h s W W' none hJ ⟨k.os, k.tape, k.output, k.size, fun i hi _ => k.block i hi⟩ (fun r e => by cases e)

set_option maxHeartbeats 1000000 in
theorem order_call (h g : Int) (w : World) :
    Calls Tryz.prog 71 #[.int .u64 h, .int .i64 g] w fun e w' => e = .returned (.func (.func 108) #[] #[.pointer (some ⟨w.heap.size + 1, 0, none⟩), .pointer (some ⟨w.heap.size, 0, none⟩)]) ∧ w' = (w.alloc (.cells #[.int .u64 h] 23)).alloc (.cells #[.int .i64 g] 3) := by
  go_enter Tryz.func71, Tryz.ntmps71
  go_wp2
  go_ret
  exact ⟨by simp, rfl⟩

set_option maxRecDepth 100000 in
set_option maxHeartbeats 4000000 in
theorem order_each (n : Nat) (hn : 1 ≤ n) (l Bg Bh B h : Nat) (g : Int) (hh : h < 18446744073709551616) (J Jx : List Nat → World → Prop) (hAb : AbidesFrom B J)
    (hY : ∀ pre (x : Nat) W, J pre W → pre.length < (ordN h g).length → YieldAt Fence.wide (n - 1) Tryz.prog l #[.int .i64 (x : Int)] W fun e W' =>
      (e = .returned (.bool true) ∧ J (pre ++ [x]) W' ∧ Stay Bg Bh W W') ∨ (e = .returned (.bool false) ∧ Jx (pre ++ [x]) W'))
    (W : World) (hg : W.heap[Bg]? = some (.cells #[.int .i64 g] 3)) (hb : W.heap[Bh]? = some (.cells #[.int .u64 (h : Int)] 23)) (hJ0 : J [] W) :
    CallsIn Fence.wide n Tryz.prog 108 #[.func (.yield l) #[] #[], .pointer (some ⟨Bg, 0, none⟩), .pointer (some ⟨Bh, 0, none⟩)] W fun e W' => (∃ v, e = .returned v) ∧
      ((∃ ys, ys = ordN h g ∧ J ys W') ∨ (∃ pre, pre <+: ordN h g ∧ Jx pre W')) := by
  have hro : Fence.wide.round = none := rfl
  obtain ⟨c1, c2⟩ := one_cell hg
  obtain ⟨d1, d2⟩ := one_cell hb
  have hI := isGroups_any g W
  cases hq : pw g 1 8192
  · have hO := hide (ordN_no (h := h) hq)
    rw [hq] at hI
    have HJ := hide hJ0
    clear hY hJ0
    refine callsIn_of_wp Tryz.func108 rfl trivial ?_ hro
    simp only [Tryz.ntmps108, List.size_toArray, List.length_cons, List.length_nil, Nat.reduceAdd, Nat.reduceSub, Array.replicate_succ, Array.replicate_zero, List.push_toArray, List.append_toArray, List.nil_append, List.cons_append]
    gi_wp2_with fail
    refine ⟨trivial, (callsIn_wide.2 hI).mono ?_⟩
    rintro e W2 ⟨rfl, rfl⟩
    gi_wp2_with fail
    refine bodyPost_ret (results_none rfl _ _ _) rfl ?_
    exact ⟨⟨_, rfl⟩, .inl ⟨[], hO.out.symm, HJ.out⟩⟩
  · obtain ⟨k, hk, rfl⟩ := pwG hq
    rw [hq] at hI
    have hm := met_any h k
    have hL := ordN_yes (h := h) hk
    have hlen : (ordN h ((2 ^ k : Nat) : Int)).length = 2 ^ k := by rw [hL]; simp
    obtain ⟨g1, g2⟩ := pow_bounds hk
    clear hq
    have hL' : Hid (∀ i, i < 2 ^ k → (List.range (i + 1)).map (metN h (2 ^ k)) <+: ordN h ((2 ^ k : Nat) : Int)) := fun i hi => by
      rw [hL]
      have := List.take_prefix (i + 1) ((List.range (2 ^ k)).map (metN h (2 ^ k)))
      rwa [← List.map_take, List.take_range, Nat.min_eq_left (by omega)] at this
    have hE : Hid (ordN h ((2 ^ k : Nat) : Int) = (List.range (2 ^ k)).map (metN h (2 ^ k))) := hL
    clear hL
    generalize ordN h ((2 ^ k : Nat) : Int) = L at *
    have hmm : Hid (∀ (i : Nat) (w : World), i < 2 ^ k → Calls Tryz.prog 48 #[.int .u64 (h : Int), .int .i64 ((2 ^ k : Nat) : Int), .int .i64 (i : Int)] w fun e w' => e = .returned (.int .i64 ((metN h (2 ^ k) i : Nat) : Int)) ∧ w' = w) := fun i w hi => hm i w hk hi hh
    clear hm
    generalize 2 ^ k = G at *
    refine callsIn_of_wp Tryz.func108 rfl trivial ?_ hro
    simp only [Tryz.ntmps108, List.size_toArray, List.length_cons, List.length_nil, Nat.reduceAdd, Nat.reduceSub, Array.replicate_succ, Array.replicate_zero, List.push_toArray, List.append_toArray, List.nil_append, List.cons_append]
    gi_wp2_with fail
    refine ⟨trivial, (callsIn_wide.2 hI).mono ?_⟩
    rintro e W2 ⟨rfl, rfl⟩
    gi_wp2_with fail
    clear c1 c2 d1 d2 hI
    gi_loopg [9] G (fun gm v9 wr => ∃ i : Nat, gm = G - i ∧ i ≤ G ∧ v9 = .int .i64 (i : Int) ∧ wr.heap[Bg]? = some (.cells #[.int .i64 (G : Int)] 3) ∧ wr.heap[Bh]? = some (.cells #[.int .u64 (h : Int)] 23) ∧ J ((List.range i).map (metN h G)) wr)
    case atStart => exact ⟨0, rfl, by omega, rfl, hg, hb, hJ0⟩
    case round =>
      clear hg hb hJ0
      obtain ⟨i, rfl, hi, rfl, hg, hb, hJ⟩ := hrel
      obtain ⟨c1, c2⟩ := one_cell hg
      obtain ⟨d1, d2⟩ := one_cell hb
      by_cases hlt : i < G
      · have hlt' : (i : Int) < (G : Int) := by omega
        have hm := hmm.out i wr hlt
        have hsn : (List.range (i + 1)).map (metN h G) = (List.range i).map (metN h G) ++ [metN h G i] := by rw [List.range_succ, List.map_append]; rfl
        have hplen : ((List.range i).map (metN h G)).length < L.length := by rw [hlen]; simpa using hlt
        obtain ⟨fn, tmps, assign, body, hy, hRd⟩ := hY _ (metN h G i) wr hJ hplen
        rw [← hsn] at hRd
        have HL := hide (hL'.out i hlt)
        generalize metN h G i = X at *
        clear hJ hplen hY hsn
        gi_wp2_with fail
        refine ⟨trivial, (callsIn_wide.2 hm).mono ?_⟩
        rintro e W2 ⟨rfl, rfl⟩
        gi_wp2
        refine hRd.mono ?_
        rintro e W4 (⟨rfl, hJ4, hk4⟩ | ⟨rfl, hJx4⟩)
        · have HJ := hide hJ4
          have hg4 := hk4 _ _ (.inl rfl) hg
          have hb4 := hk4 _ _ (.inr rfl) hb
          clear hJ4 hk4 hRd hy hm
          gi_wp2_with fail
          gi_roundg (G - (i + 1))
          case measure => omega
          case rel => exact ⟨i + 1, rfl, by omega, rfl, hg4, hb4, HJ.out⟩
        · have HX : Hid (∃ pre, pre <+: L ∧ Jx pre W4) := ⟨_, HL.out, hJx4⟩
          clear HL hJx4 hRd hy hm
          gi_wp2
          refine bodyPost_ret (results_none rfl _ _ _) rfl ?_
          exact ⟨⟨_, rfl⟩, .inr HX.out⟩
      · obtain rfl : i = G := by omega
        have HJ := hide hJ
        clear hJ hY
        gi_wp2_with fail
        go_end0
        exact ⟨⟨_, rfl⟩, .inl ⟨_, hE.out.symm, HJ.out⟩⟩

/-- A range over Order gives the groups in their order, or stops behind some of them. -/
theorem order_stops (n : Nat) (hn : 1 ≤ n) (Bg Bh h : Nat) (g : Int) (hh : h < 18446744073709551616) (w : World) (hg : w.heap[Bg]? = some (.cells #[.int .i64 g] 3)) (hb : w.heap[Bh]? = some (.cells #[.int .u64 (h : Int)] 23)) :
    SeqStopsK Fence.wide n Tryz.prog 108 #[.pointer (some ⟨Bg, 0, none⟩), .pointer (some ⟨Bh, 0, none⟩)] (fun x : Nat => #[Value.int .i64 (x : Int)]) (Stay Bg Bh) (fun ys => ys = ordN h g) (fun pre => pre <+: ordN h g) (ordN h g).length w := fun l J Jx W hW hAb _ hY h0 =>
  order_each n hn l Bg Bh W.heap.size h g hh J Jx hAb hY W (Kp.blk hW hg) (Kp.blk hW hb) h0
end Go.Proofs.YtmdnknbolgedgaaGreatDoor.Pb
/-
  As RT1, where the body knows its loop; Order so.
-/
namespace Go.Proofs.YtmdnknbolgedgaaGreatDoor
open Go.RowKit Go.Shelf Ly Ct
set_option linter.unusedVariables false

section
variable {σ α : Type}

/-- The iterator's word: at a state s it gives an x with Gx x s; behind the round the state is one with Nx x s; at its end Ex holds of the state. What it needs of the world at a state is Rx. -/
def SeqTied (n : Nat) (g : Nat) (lb : Array Value) (encs : α → Array Value) (Gx : α → σ → Prop) (Nx : α → σ → σ → Prop) (Ex : σ → Prop) (Rx : σ → World → Prop) (s0 : σ) : Prop :=
  ∀ (l : Nat) (J : σ → World → Prop) (Jx : World → Prop) (W : World), (∀ s V V', J s V → Keeps V V' (fun _ => False) → J s V') → (∀ s V, J s V → Rx s V) →
    (∀ x s V, J s V → Gx x s → YieldAt Fence.wide (n - 1) Tryz.prog l (encs x) V fun e V' => (e = .returned (.bool true) ∧ ∃ s', Nx x s s' ∧ J s' V') ∨ (e = .returned (.bool false) ∧ Jx V')) →
    J s0 W →
    CallsIn Fence.wide n Tryz.prog g (#[.func (.yield l) #[] #[]] ++ lb) W fun e W' => (∃ v, e = .returned v) ∧ ((∃ s, Ex s ∧ J s W') ∨ Jx W')

/-- How a round's body may be left: the loop's two blocks lie as they lay. -/
def TiedPost (B : Nat) (I : σ → World → Prop) (Ix : Code → World → Prop) (Nx : σ → Prop) (W : World) : Exit → Act → World → Prop
  | .normal, _, V => (∀ k, k = B ∨ k = B + 1 → V.heap[k]? = W.heap[k]?) ∧ ∃ s, Nx s ∧ I s V
  | .ret, _, V => (∀ k, k = B ∨ k = B + 1 → V.heap[k]? = W.heap[k]?) ∧ Ix .ret V
  | .exit i, _, V => (∀ k, k = B ∨ k = B + 1 → V.heap[k]? = W.heap[k]?) ∧ Ix (.exit i) V
  | .goto t, _, V => (∀ k, k = B ∨ k = B + 1 → V.heap[k]? = W.heap[k]?) ∧ Ix (.goto t) V
  | .panic _, _, _ => False
  | .outgrown, _, _ => False

theorem range_tied {n : Nat} {op : Operand} {ps : Array Tmp} {assign body : Code} {Q : Exit → Act → World → Prop} {a : Act} {w : World} (h1 : 2 ≤ n) {gf : Nat} {lb : Array Value}
    (hop : a.eval op = .func (.func gf) #[] lb) (eg : ∀ args w, (callFunc gf args).run Tryz.prog w = .ok (.enter gf args) w)
    {encs : α → Array Value} {Gx : α → σ → Prop} {Nx : α → σ → σ → Prop} {Ex : σ → Prop} {Rx : σ → World → Prop} {s0 : σ} (hseq : SeqTied (n - 1) gf lb encs Gx Nx Ex Rx s0)
    (hps : ∀ x, (encs x).size = ps.size) (Ax : Act → α → Act → World → Prop) (hAx : ∀ x a' V r o, Ax a x a' V → V.heap[w.heap.size + 1]? = some (.loop r) → Ax a x a' (V.putObj (w.heap.size + 1) o)) (I : σ → World → Prop) (Ix : Code → World → Prop) (hR : ∀ s V, I s V → Rx s V)
    (hI : ∀ s V V', I s V → Keeps V V' (fun _ => False) → I s V')
    (hIp : ∀ s V r o, I s V → V.heap[w.heap.size + 1]? = some (.loop r) → I s (V.putObj (w.heap.size + 1) o))
    (hXp : ∀ c V r o, Ix c V → V.heap[w.heap.size + 1]? = some (.loop r) → Ix c (V.putObj (w.heap.size + 1) o))
    (h0 : ∀ r, I s0 ((w.alloc (.deferred (some []))).alloc (.loop r)))
    (hassign : ∀ x s W (K : Act → World → Prop), I s W → (∀ a' W', Keeps W W' (fun _ => False) → Ax a x a' W' → K a' W') →
      assign.wpIn (Fence.wide.inRound (w.heap.size + 1)) (n - 1 - 1) Tryz.prog (Exit.then K (fun _ _ _ => False)) { tmps := (ps.zip (encs x)).foldl (fun t (p, v) => t.setIfInBounds p v) a.tmps, defers := [] } W)
    (hbody : ∀ x s a' W, (∃ r, W.heap[w.heap.size + 1]? = some (.loop r)) → I s W → Ax a x a' W → Gx x s → body.wpIn (Fence.wide.inRound (w.heap.size + 1)) (n - 1 - 1) Tryz.prog (TiedPost w.heap.size I Ix (Nx x s) W) a' W)
    (hdone : ∀ s W, Ex s → I s W → W.heap[w.heap.size]? = some (.deferred (some [])) → Q .normal { a with defers := { target := .collected w.heap.size, args := #[] } :: a.defers } W)
    (hstop : ∀ c W, Ix c W → W.heap[w.heap.size]? = some (.deferred (some [])) → c.wpIn Fence.wide n Tryz.prog Q { a with defers := { target := .collected w.heap.size, args := #[] } :: a.defers } W) :
    (Code.rangeFunc op ps assign body).wpIn Fence.wide n Tryz.prog Q a w := by
  apply wpIn_rangeFunc
  intro fn hfn
  let rec_ : LoopState → Option Code → Loop := fun st pe => { state := st, pending := pe, fn := fn, tmps := a.tmps, params := ps, assign := assign, body := body, defers := w.heap.size }
  obtain ⟨W1, hW1⟩ : ∃ W1, (w.alloc (.deferred (some []))).alloc (.loop (rec_ .ready none)) = W1 := ⟨_, rfl⟩
  have hi0 : I s0 W1 := hW1 ▸ h0 _
  have hLs : W1.heap[w.heap.size + 1]? = some (.loop (rec_ .ready none)) := by
    have := World.alloc_heap_new (w.alloc (.deferred (some []))) (.loop (rec_ .ready none))
    rw [← hW1]
    rwa [World.size_alloc] at this
  have hDs : W1.heap[w.heap.size]? = some (.deferred (some [])) := by
    rw [← hW1]
    exact (Below.heap_alloc _ _ _ (by simp)).trans (World.alloc_heap_new w _)
  refine ⟨w.heap.size + 1, [{ target := .collected w.heap.size, args := #[] }], W1, { target := .fn (.func gf) lb, args := #[.func (.yield (w.heap.size + 1)) #[] #[]] }, W1, gf,
    #[.func (.yield (w.heap.size + 1)) #[] #[]] ++ lb, W1, by rw [← hW1]; exact run_enterLoop_outer fn a.tmps ps assign body, ?_, fun _ _ => trivial, ?_, fun _ => by omega, ?_⟩
  · simp only [resolve, hop]
    simp [go_sem]
  · simp [invoke, go_sem, eg]
  · have two : ∀ {U : World} {o : Obj}, U.heap[w.heap.size + 1]? = some o → U.heap[w.heap.size]? = some (.deferred (some [])) → ∀ o' : Obj,
        (U.putObj (w.heap.size + 1) o').heap[w.heap.size + 1]? = some o' ∧ (U.putObj (w.heap.size + 1) o').heap[w.heap.size]? = some (.deferred (some [])) := fun hu hd o' =>
      ⟨World.putObj_heap_same (heap_lt hu), (World.putObj_heap_other (by omega)).trans hd⟩
    refine (hseq (w.heap.size + 1) (fun s U => I s U ∧ U.heap[w.heap.size + 1]? = some (.loop (rec_ .ready none)) ∧ U.heap[w.heap.size]? = some (.deferred (some [])))
      (fun U => ∃ c, Ix c U ∧ U.heap[w.heap.size + 1]? = some (.loop (rec_ .done (some c))) ∧ U.heap[w.heap.size]? = some (.deferred (some []))) W1
      (fun s U U' h k => ⟨hI s U U' h.1 k, k.blk h.2.1, k.blk h.2.2⟩) (fun s U h => hR s U h.1) ?_ ⟨hi0, hLs, hDs⟩).mono ?_
    · rintro x s U ⟨hi, hl, hd⟩ hG
      refine ⟨fn, _, assign, body, run_yield hl (hps x), roundIn_of_wpIn hfn (hassign x s U _ hi ?_)⟩
      intro a' U1 k1 hax
      replace hi := hI s U U1 hi k1
      replace hl := k1.blk hl
      replace hd := k1.blk hd
      clear k1
      obtain ⟨U, rfl⟩ : ∃ U, U = U1 := ⟨_, rfl⟩
      refine ⟨_, run_beginRound hl rfl, ?_⟩
      have hb := two hl hd (.loop { rec_ .ready none with state := .busy })
      have hi2 := hIp s U _ (.loop { rec_ .ready none with state := .busy }) hi hl
      refine wpIn_mono (hbody x s a' _ ⟨_, hb.1⟩ hi2 (hAx x a' U _ _ hax hl) hG) ?_
      have fin : ∀ (j : Option Code) (U' : World), (∀ k, k = w.heap.size ∨ k = w.heap.size + 1 → U'.heap[k]? = (U.putObj (w.heap.size + 1) (.loop { rec_ .ready none with state := .busy })).heap[k]?) →
          (Instr.endRound (w.heap.size + 1) j).run Tryz.prog U' = .ok (.bool j.isNone) (U'.putObj (w.heap.size + 1) (.loop (rec_ (if j.isNone then .ready else .done) j))) ∧
          U'.heap[w.heap.size + 1]? = some (.loop { rec_ .ready none with state := .busy }) ∧ U'.heap[w.heap.size]? = some (.deferred (some [])) := fun j U' h =>
        ⟨run_endRound j ((h _ (Or.inr rfl)).trans hb.1), (h _ (Or.inr rfl)).trans hb.1, (h _ (Or.inl rfl)).trans hb.2⟩
      intro e a2 U' hp
      cases e with
      | normal =>
        obtain ⟨hk, s', hN, hi'⟩ := hp
        obtain ⟨r1, r2, r3⟩ := fin none U' hk
        exact ⟨_, _, r1, .inl ⟨rfl, s', hN, hIp s' U' _ _ hi' r2, two r2 r3 _⟩⟩
      | ret =>
        obtain ⟨r1, r2, r3⟩ := fin (some .ret) U' hp.1
        exact ⟨_, _, r1, .inr ⟨rfl, _, hXp _ U' _ _ hp.2 r2, two r2 r3 _⟩⟩
      | exit i =>
        obtain ⟨r1, r2, r3⟩ := fin (some (.exit i)) U' hp.1
        exact ⟨_, _, r1, .inr ⟨rfl, _, hXp _ U' _ _ hp.2 r2, two r2 r3 _⟩⟩
      | goto t =>
        obtain ⟨r1, r2, r3⟩ := fin (some (.goto t)) U' hp.1
        exact ⟨_, _, r1, .inr ⟨rfl, _, hXp _ U' _ _ hp.2 r2, two r2 r3 _⟩⟩
      | panic _ => exact hp.elim
      | outgrown => exact hp.elim
    · rintro e U ⟨⟨v, rfl⟩, h⟩
      rcases h with ⟨s, hE, hi, hl, hd⟩ | ⟨c, hx, hl, hd⟩
      · exact ⟨none, _, run_endLoop hl (by simp [rec_]), hdone s _ hE (hIp s U _ _ hi hl) (two hl hd _).2⟩
      · exact ⟨some c, _, run_endLoop hl (by simp [rec_]), hstop c _ (hXp c U _ _ hx hl) (two hl hd _).2⟩
/-- The same, what follows told once. -/
theorem range_tiedT {n : Nat} {op : Operand} {ps : Array Tmp} {assign body : Code} {Q : Exit → Act → World → Prop} {a : Act} {w : World} (h1 : 2 ≤ n) {gf : Nat} {lb : Array Value}
    (hop : a.eval op = .func (.func gf) #[] lb) (eg : ∀ args w, (callFunc gf args).run Tryz.prog w = .ok (.enter gf args) w)
    {encs : α → Array Value} {Gx : α → σ → Prop} {Nx : α → σ → σ → Prop} {Ex : σ → Prop} {Rx : σ → World → Prop} {s0 : σ} (hseq : SeqTied (n - 1) gf lb encs Gx Nx Ex Rx s0)
    (hps : ∀ x, (encs x).size = ps.size) (Ax : Act → α → Act → World → Prop) (hAx : ∀ x a' V r o, Ax a x a' V → V.heap[w.heap.size + 1]? = some (.loop r) → Ax a x a' (V.putObj (w.heap.size + 1) o)) (I : σ → World → Prop) (Ix : Code → World → Prop) (hR : ∀ s V, I s V → Rx s V)
    (hI : ∀ s V V', I s V → Keeps V V' (fun _ => False) → I s V')
    (hIp : ∀ s V r o, I s V → V.heap[w.heap.size + 1]? = some (.loop r) → I s (V.putObj (w.heap.size + 1) o))
    (hXp : ∀ c V r o, Ix c V → V.heap[w.heap.size + 1]? = some (.loop r) → Ix c (V.putObj (w.heap.size + 1) o))
    (h0 : ∀ r, I s0 ((w.alloc (.deferred (some []))).alloc (.loop r)))
    (T : World → Prop) (tail : ∀ W, T W → W.heap[w.heap.size]? = some (.deferred (some [])) → Q .normal { a with defers := { target := .collected w.heap.size, args := #[] } :: a.defers } W)
    (hassign : ∀ x s W (K : Act → World → Prop), I s W → (∀ a' W', Keeps W W' (fun _ => False) → Ax a x a' W' → K a' W') →
      assign.wpIn (Fence.wide.inRound (w.heap.size + 1)) (n - 1 - 1) Tryz.prog (Exit.then K (fun _ _ _ => False)) { tmps := (ps.zip (encs x)).foldl (fun t (p, v) => t.setIfInBounds p v) a.tmps, defers := [] } W)
    (hbody : ∀ x s a' W, (∃ r, W.heap[w.heap.size + 1]? = some (.loop r)) → I s W → Ax a x a' W → Gx x s → body.wpIn (Fence.wide.inRound (w.heap.size + 1)) (n - 1 - 1) Tryz.prog (TiedPost w.heap.size I Ix (Nx x s) W) a' W)
    (hdone : ∀ s W, Ex s → I s W → T W)
    (hstop : ∀ c W, Ix c W → T W ∧ ∀ a' W', Q .normal a' W' → c.wpIn Fence.wide n Tryz.prog Q a' W') :
    (Code.rangeFunc op ps assign body).wpIn Fence.wide n Tryz.prog Q a w :=
  range_tied h1 hop eg hseq hps Ax hAx I Ix hR hI hIp hXp h0 hassign hbody (fun s W e i d => tail W (hdone s W e i) d) (fun c W hx hd => (hstop c W hx).2 _ _ (tail W (hstop c W hx).1 hd))
end
attribute [local go_sem] Oper.semAt_some
set_option maxRecDepth 100000 in
set_option maxHeartbeats 4000000 in
/-- Order: round s gives the group that is met at step s. -/
theorem order_tied (n : Nat) (hn : 1 ≤ n) (Bg Bh h k : Nat) (hk : k ≤ 13) (hh : h < 18446744073709551616) :
    SeqTied n 108 #[.pointer (some ⟨Bg, 0, none⟩), .pointer (some ⟨Bh, 0, none⟩)] (fun x : Nat => #[.int .i64 (x : Int)]) (fun x s => s < 2 ^ k ∧ x = Pb.metN h (2 ^ k) s) (fun _ s s' => s' = s + 1) (fun s : Nat => s = 2 ^ k)
      (fun _ V => V.heap[Bg]? = some (.cells #[.int .i64 ((2 ^ k : Nat) : Int)] 3) ∧ V.heap[Bh]? = some (.cells #[.int .u64 (h : Int)] 23)) 0 := by
  intro lp J Jx W hJk hJR hY hJ0
  have hro : Fence.wide.round = none := rfl
  have hI := Pb.isGroups_any ((2 ^ k : Nat) : Int) W
  rw [Pb.pwG_pow hk] at hI
  have hm := Pb.met_any h k
  obtain ⟨g1, g2⟩ := Pb.pow_bounds hk
  have hmm : Hid (∀ (i : Nat) (w : World), i < 2 ^ k → Calls Tryz.prog 48 #[.int .u64 (h : Int), .int .i64 ((2 ^ k : Nat) : Int), .int .i64 (i : Int)] w fun e w' => e = .returned (.int .i64 ((Pb.metN h (2 ^ k) i : Nat) : Int)) ∧ w' = w) := fun i w hi => hm i w hk hi hh
  clear hm
  obtain ⟨hg, hb⟩ := hJR _ _ hJ0
  obtain ⟨c1, c2⟩ := Pb.one_cell hg
  obtain ⟨d1, d2⟩ := Pb.one_cell hb
  generalize 2 ^ k = G at *
  refine callsIn_of_wp Tryz.func108 rfl trivial ?_ hro
  simp only [Tryz.ntmps108, List.size_toArray, List.length_cons, List.length_nil, Nat.reduceAdd, Nat.reduceSub, Array.replicate_succ, Array.replicate_zero, List.push_toArray, List.append_toArray, List.nil_append, List.cons_append]
  gi_wp2_with fail
  refine ⟨trivial, (callsIn_wide.2 hI).mono ?_⟩
  rintro e W2 ⟨rfl, rfl⟩
  gi_wp2_with fail
  clear c1 c2 d1 d2 hI hg hb
  gi_loopg [9] G (fun gm v9 wr => ∃ i : Nat, gm = G - i ∧ i ≤ G ∧ v9 = .int .i64 (i : Int) ∧ J i wr)
  case atStart => exact ⟨0, rfl, by omega, rfl, hJ0⟩
  case round =>
    clear hJ0
    obtain ⟨i, rfl, hi, rfl, hJ⟩ := hrel
    obtain ⟨hg, hb⟩ := hJR _ _ hJ
    obtain ⟨c1, c2⟩ := Pb.one_cell hg
    obtain ⟨d1, d2⟩ := Pb.one_cell hb
    by_cases hlt : i < G
    · have hlt' : (i : Int) < (G : Int) := by omega
      have hm := hmm.out i wr hlt
      obtain ⟨fn, tmps, assign, body, hy, hRd⟩ := hY (Pb.metN h G i) i wr hJ ⟨hlt, rfl⟩
      generalize Pb.metN h G i = X at *
      clear hJ hY
      gi_wp2_with fail
      refine ⟨trivial, (callsIn_wide.2 hm).mono ?_⟩
      rintro e W2 ⟨rfl, rfl⟩
      gi_wp2
      refine hRd.mono ?_
      rintro e W4 (⟨rfl, s', hN', hJ4⟩ | ⟨rfl, hJx4⟩)
      · have HJ := hide hJ4
        have HN' := hide hN'
        clear hJ4 hN' hRd hy hm
        gi_wp2_with fail
        gi_roundg (G - (i + 1))
        case measure => omega
        case rel => exact ⟨i + 1, rfl, by omega, rfl, HN'.out ▸ HJ.out⟩
      · have HX := hide hJx4
        clear hJx4 hRd hy hm
        gi_wp2
        refine bodyPost_ret (results_none rfl _ _ _) rfl ?_
        exact ⟨⟨_, rfl⟩, .inr HX.out⟩
    · obtain rfl : i = G := by omega
      have HJ := hide hJ
      clear hJ hY
      gi_wp2_with fail
      go_end0
      exact ⟨⟨_, rfl⟩, .inl ⟨_, rfl, HJ.out⟩⟩
end Go.Proofs.YtmdnknbolgedgaaGreatDoor
/-
  A search, as data: by the steps of its way.
-/
namespace Go.Proofs.YtmdnknbolgedgaaGreatDoor
open Go.RowKit Go.Shelf Ly Ct
set_option linter.unusedVariables false

/-- The search from step s on; m: which group is met at a step. -/
def srchN (c : Nat → GC) (tag : Int) (key : ByteArray) (m : Nat → Nat) : Nat → Nat → Option Nat → Srch
  | 0, s, v => ⟨s, none, v⟩
  | f + 1, s, v => if hitG c tag key (m s) < 8 then ⟨s + 1, some (8 * m s + hitG c tag key (m s)), v⟩ else if empG c (m s) then ⟨s + 1, none, meetV v c (m s)⟩ else srchN c tag key m f (s + 1) (meetV v c (m s))
def srchT (c : Nat → GC) (tag : Int) (key : ByteArray) (m : Nat → Nat) (G : Nat) : Srch := srchN c tag key m G 0 none
def vacS (c : Nat → GC) (m : Nat → Nat) : Nat → Option Nat
  | 0 => none
  | s + 1 => meetV (vacS c m s) c (m s)
/-- The first s groups of the way have neither the key nor an empty slot. -/
def goes (c : Nat → GC) (tag : Int) (key : ByteArray) (m : Nat → Nat) (s : Nat) : Prop := ∀ i, i < s → ¬ hitG c tag key (m i) < 8 ∧ empG c (m i) = false
section
variable {c : Nat → GC} {tag : Int} {key : ByteArray} {m : Nat → Nat} {G : Nat}
theorem goes_zero : goes c tag key m 0 := fun i h => absurd h (Nat.not_lt_zero _)
theorem goes_succ {s : Nat} (h : goes c tag key m s) (h1 : ¬ hitG c tag key (m s) < 8) (h2 : empG c (m s) = false) : goes c tag key m (s + 1) := fun i hi => by
  rcases Nat.lt_or_ge i s with q | q
  · exact h i q
  · obtain rfl : i = s := by omega
    exact ⟨h1, h2⟩
theorem srch_at : ∀ s, goes c tag key m s → s ≤ G → srchT c tag key m G = srchN c tag key m (G - s) s (vacS c m s)
  | 0, _, _ => rfl
  | s + 1, h, hs => by
    rw [srch_at s (fun i hi => h i (by omega)) (by omega)]
    obtain ⟨h1, h2⟩ := h s (Nat.lt_succ_self s)
    rw [show G - s = (G - (s + 1)) + 1 by omega]
    rw [srchN, if_neg h1, h2, if_neg (by decide)]
    rfl
theorem srch_hit {s : Nat} (h : goes c tag key m s) (hs : s < G) (h1 : hitG c tag key (m s) < 8) : srchT c tag key m G = ⟨s + 1, some (8 * m s + hitG c tag key (m s)), vacS c m s⟩ := by
  rw [srch_at s h (by omega), show G - s = (G - (s + 1)) + 1 by omega, srchN, if_pos h1]
theorem srch_emp {s : Nat} (h : goes c tag key m s) (hs : s < G) (h1 : ¬ hitG c tag key (m s) < 8) (h2 : empG c (m s) = true) : srchT c tag key m G = ⟨s + 1, none, vacS c m (s + 1)⟩ := by
  rw [srch_at s h (by omega), show G - s = (G - (s + 1)) + 1 by omega, srchN, if_neg h1, if_pos h2]
  rfl
theorem srch_end (h : goes c tag key m G) : srchT c tag key m G = ⟨G, none, vacS c m G⟩ := by
  rw [srch_at G h (Nat.le_refl _), Nat.sub_self]
  rfl
end
def optI : Option Nat → Int
  | some s => (s : Int)
  | none => -1
def vacE (c : Nat → GC) : Option Nat → Bool
  | some s => decide ((c s).kind = 0)
  | none => false
/-- The cells of a sought: the header's words by f, the groups looked at, the key's slot and cell, the first vacant slot, is it empty? -/
def sghC (f : Nat → Int) (n : Nat) (s : Int) (x : GC) (v : Int) (e : Bool) : Array Value :=
  #[.int .i64 (f 3), .int .i64 (f 4), .int .i64 (f 5), .int .i64 (f 6), .int .i64 (f 1), .int .i64 (f 2), .bool (f 0 == 4), .int .i64 (f 7), .int .i64 (n : Int), .int .i64 s, .int .i64 x.kind, .int .i64 x.tag, .string x.key, .string x.elem, .int .i64 x.birth, .int .i64 v, .bool e]
theorem met_sgh {d : AD} {l : Lay} {off : Nat} {c : Nat → GC} {i : Nat} (h : GroupAt d l off (grpC c i)) (f : Nat → Int) (n : Nat) (s : Int) (x : GC) (v : Option Nat) :
    metC (sghC f n s x (optI v) (vacE c v)) (optI v) (wordN d off) i = sghC f n s x (optI (meetV v c i)) (vacE c (meetV v c i)) := by
  unfold metC
  rw [fir_vac h]
  have hv : low (fun j => decide ((grpC c i j).kind ≠ 2)) 8 = vacG c i := rfl
  rw [hv]
  cases v with
  | some y =>
    rw [if_neg (by simp only [optI]; omega)]
    rfl
  | none =>
    by_cases h8 : vacG c i < 8
    · rw [if_pos ⟨by simp only [optI]; omega, h8⟩]
      have e1 : meetV none c i = some (8 * i + vacG c i) := by simp only [meetV]; rw [if_pos h8]
      have e2 : hasM (mk (· == 128) (wordN d off)) (vacG c i) = decide ((c (8 * i + vacG c i)).kind = 0) := emp_has h h8
      rw [e1, e2]
      simp only [sghC, List.setIfInBounds_toArray, List.set_cons_zero, List.set_cons_succ, optI, vacE]
      rw [show (i * 8 + vacG c i : Nat) = 8 * i + vacG c i by omega]
    · rw [if_neg (fun q => h8 q.2)]
      have e1 : meetV none c i = none := by simp only [meetV]; rw [if_neg h8]
      rw [e1]
theorem emp_is {d : AD} {l : Lay} {off : Nat} {c : Nat → GC} {i : Nat} (h : GroupAt d l off (grpC c i)) : decide (0 < cntM (mk (· == 128) (wordN d off))) = empG c i := any_emp h
theorem slot_any {c : Nat → GC} {m : Nat → Nat} : ∀ s x, vacS c m s = some x → ∃ i, i < s ∧ x = 8 * m i + vacG c (m i) ∧ vacG c (m i) < 8
  | 0, x, h => by cases h
  | s + 1, x, h => by
    unfold vacS at h
    cases hv : vacS c m s with
    | some y =>
      rw [hv] at h
      obtain ⟨i, h1, h2, h3⟩ := slot_any s y hv
      have : y = x := by simpa [meetV] using h
      exact ⟨i, by omega, by omega, h3⟩
    | none =>
      rw [hv] at h
      simp only [meetV] at h
      by_cases h8 : vacG c (m s) < 8
      · rw [if_pos h8] at h
        exact ⟨s, by omega, by simpa using h.symm, h8⟩
      · rw [if_neg h8] at h
        cases h
end Go.Proofs.YtmdnknbolgedgaaGreatDoor
/-
  What a call on a table leaves: only bytes of its two blocks are turned.
-/
namespace Go.Proofs.YtmdnknbolgedgaaGreatDoor
open Go.RowKit Go.Shelf Ly Ct
set_option linter.unusedVariables false

/-- Only bytes of the header at off and of n bytes at gr are turned. -/
structure Alt (d d' : AD) (off gr n : Nat) : Prop where
  data : d' = d.bytes d'.bs
  len : d'.bs.length = d.bs.length
  out : ∀ j, j < off ∨ off + 64 ≤ j → j < gr ∨ gr + n ≤ j → d'.bs[j]? = d.bs[j]?
section
variable {d d1 d2 : AD} {l : Lay} {off gr n G : Nat} {f : Nat → Int} {c : Nat → GC}
theorem Alt.refl (d : AD) (off gr n : Nat) : Alt d d off gr n := ⟨rfl, rfl, fun _ _ _ => rfl⟩
theorem Alt.trans (h : Alt d d1 off gr n) (k : Alt d1 d2 off gr n) : Alt d d2 off gr n := ⟨by rw [k.data, h.data]; rfl, k.len.trans h.len, fun j h1 h2 => (k.out j h1 h2).trans (h.out j h1 h2)⟩
theorem Alt.head (h : Touch d d1 off 64) : Alt d d1 off gr n := ⟨h.data, h.len, fun j h1 _ => h.out j h1⟩
theorem Alt.grp {i g : Nat} (hi : i < G) (h : Touch d d1 (gr + i * g) g) : Alt d d1 off gr (G * g) := ⟨h.data, h.len, fun j _ h2 => h.out j (by
  have := mul_apart (s := g) hi
  have h3 : i * g + g ≤ G * g := by omega
  omega)⟩
theorem Alt.fine (h : Alt d d1 off gr n) (F : d.Fine) : d1.Fine := by
  rw [h.data]
  exact F.bytes h.len
theorem Alt.small (h : Alt d d1 off gr n) (F : d.small) : d1.small := by
  rw [h.data]
  exact F
/-- A table behind a call: the arena is turned, only in the table's two blocks, and it is that table. -/
def TabT (w w' : World) (p : Nat) (F : Nat → Prop) (d : AD) (l : Lay) (off gr G : Nat) (f : Nat → Int) (c : Nat → GC) : Prop := ∃ d', Turned w w' p F d' ∧ Alt d d' off gr (G * l.g.toNat) ∧ TabD d' l off gr G f c
end
section
variable {w w0 w1 w2 : World} {p : Nat} {F : Nat → Prop} {d : AD} {l : Lay} {off gr G : Nat} {f f1 f2 : Nat → Int} {c c1 c2 : Nat → GC}
theorem TabT.pre (k : Keeps w w0 (fun _ => False)) (h : TabT w0 w1 p F d l off gr G f c) : TabT w w1 p F d l off gr G f c := by
  obtain ⟨d', h1, h2, h3⟩ := h
  exact ⟨d', h1.pre k, h2, h3⟩
theorem TabT.post (h : TabT w w1 p F d l off gr G f c) (k : Keeps w1 w2 (fun _ => False)) : TabT w w2 p F d l off gr G f c := by
  obtain ⟨d', h1, h2, h3⟩ := h
  exact ⟨d', h1.post k, h2, h3⟩
theorem TabT.same (hA : Arena w p F d) (h : TabD d l off gr G f c) (k : Keeps w w1 (fun _ => False)) : TabT w w1 p F d l off gr G f c := ⟨d, hA.same k, Alt.refl _ _ _ _, h⟩
theorem updC_grp {k : Nat} (j : Nat) (hj : j < 8) (x : GC) : ∀ n, updG c k (updC (fun i => c (8 * k + i)) j x) n = if n = 8 * k + j then x else c n := fun n => by
  unfold updG updC
  by_cases e : n / 8 = k
  · rw [if_pos e]
    by_cases e2 : n = 8 * k + j
    · rw [if_pos e2, if_pos (by omega)]
    · rw [if_neg e2, if_neg (by omega)]
      show c (8 * k + n % 8) = c n
      rw [show 8 * k + n % 8 = n by omega]
  · rw [if_neg e, if_neg (by omega)]
end
/-- One cell is another. -/
def updN (c : Nat → GC) (s : Nat) (x : GC) : Nat → GC := fun n => if n = s then x else c n
theorem updG_updC (c : Nat → GC) (s : Nat) (x : GC) : updG c (s / 8) (updC (fun i => c (8 * (s / 8) + i)) (s % 8) x) = updN c s x := by
  funext n
  rw [updC_grp (s % 8) (by omega)]
  unfold updN
  rw [show 8 * (s / 8) + s % 8 = s by omega]
end Go.Proofs.YtmdnknbolgedgaaGreatDoor
/-
  The parts of a hash as numbers.
-/
namespace Go.Proofs.YtmdnknbolgedgaaGreatDoor.Op

def bitN (h : Nat) (d : Int) : Nat := if 0 ≤ d ∧ d < 64 then h / 2 ^ (63 - d.toNat) % 2 else 0
def topN (h : Nat) (d : Int) : Nat := if 1 ≤ d ∧ d ≤ 6 then h / 2 ^ (64 - d.toNat) else 0
/-- The first i bits from the highest on. -/
def headN (h i : Nat) : Nat := h / 2 ^ (64 - i)
theorem bitN_lt (h : Nat) (d : Int) : bitN h d < 2 := by
  unfold bitN
  split
  · exact Nat.mod_lt _ (by decide)
  · decide
theorem headN_zero {h : Nat} (hh : h < 18446744073709551616) : headN h 0 = 0 := by
  unfold headN
  exact Nat.div_eq_of_lt hh
theorem headN_all (h : Nat) : headN h 64 = h := by
  unfold headN
  simp
theorem headN_succ (h i : Nat) (hi : i < 64) : headN h (i + 1) = 2 * headN h i + bitN h (i : Int) := by
  unfold headN bitN
  rw [if_pos ⟨by omega, by omega⟩, Int.toNat_natCast]
  have e : 64 - i = (63 - i) + 1 := by omega
  have e2 : 64 - (i + 1) = 63 - i := by omega
  rw [e2, e, Nat.pow_succ, ← Nat.div_div_eq_div_mul]
  omega
theorem headN_lt (h i : Nat) (hh : h < 18446744073709551616) (hi : i ≤ 64) : headN h i < 2 ^ i := by
  unfold headN
  rw [Nat.div_lt_iff_lt_mul (Nat.two_pow_pos _), ← Nat.pow_add, show i + (64 - i) = 64 by omega]
  exact hh
theorem topN_head (h : Nat) (i : Nat) (hh : h < 18446744073709551616) (hi : i ≤ 6) : topN h (i : Int) = headN h i := by
  unfold topN
  by_cases h0 : i = 0
  · subst h0
    rw [headN_zero hh]
    rfl
  · rw [if_pos ⟨by omega, by omega⟩, Int.toNat_natCast]
    rfl
theorem topN_lt (h : Nat) (d : Int) (hh : h < 18446744073709551616) : topN h d < 64 := by
  unfold topN
  split
  · rename_i hd
    obtain ⟨d1, d6⟩ := hd
    have := headN_lt h d.toNat hh (by omega)
    unfold headN at this
    have h2 : (2 : Nat) ^ d.toNat ≤ 2 ^ 6 := Nat.pow_le_pow_right (by decide) (by omega)
    omega
  · decide
/-- The highest bit dropped i times. -/
def dropN (h i : Nat) : Nat := h * 2 ^ i % 18446744073709551616
theorem dropN_zero {h : Nat} (hh : h < 18446744073709551616) : dropN h 0 = h := by
  unfold dropN
  rw [Nat.pow_zero, Nat.mul_one, Nat.mod_eq_of_lt hh]
theorem dropN_succ (h i : Nat) : dropN h (i + 1) = dropN h i % 9223372036854775808 * 2 := by
  unfold dropN
  rw [Nat.pow_succ, ← Nat.mul_assoc]
  omega
theorem dropN_lt (h i : Nat) : dropN h i < 18446744073709551616 := Nat.mod_lt _ (by decide)
theorem dropN_bit (h i : Nat) (hi : i < 64) : dropN h i / 9223372036854775808 = bitN h (i : Int) := by
  unfold dropN bitN
  rw [if_pos ⟨by omega, by omega⟩, Int.toNat_natCast]
  have e : (18446744073709551616 : Nat) = 9223372036854775808 * 2 := by decide
  rw [e, Nat.mod_mul_right_div_self]
  have e2 : (9223372036854775808 : Nat) = 2 ^ (63 - i) * 2 ^ i := by
    rw [← Nat.pow_add, show 63 - i + i = 63 by omega]
  rw [e2, Nat.mul_div_mul_right _ _ (Nat.two_pow_pos _)]
end Go.Proofs.YtmdnknbolgedgaaGreatDoor.Op
/-
  The parts of a hash: Tag, Home, Top, Bit.
-/
namespace Go.Proofs.YtmdnknbolgedgaaGreatDoor.Op
open Go.RowKit
set_option linter.unusedVariables false

theorem u64_nat {n : Int} (h : (Lit.int .u64 n).wf = true) : ∃ m : Nat, n = (m : Int) ∧ m < 18446744073709551616 := by
  have h2 : 0 ≤ n ∧ n < 18446744073709551616 := by
    have e1 : IntKind.u64.min = 0 := rfl
    have e2 : IntKind.u64.max = 18446744073709551615 := rfl
    simp only [Lit.wf, decide_eq_true_eq, Bool.and_eq_true] at h
    rw [e1, e2] at h
    omega
  exact ⟨n.toNat, by omega, by omega⟩


set_option maxHeartbeats 400000 in
theorem tag_any (h : Nat) (hh : h < 18446744073709551616) (w : World) :
    Calls Tryz.prog 45 #[.int .u64 (h : Int)] w fun e w' => e = .returned (.int .i64 ((h : Int) % 128)) ∧ w' = w := by
  go_enter Tryz.func45, Tryz.ntmps45
  go_wp2_with fail
  go_ret
  exact ⟨rfl, rfl⟩

set_option maxHeartbeats 400000 in
theorem home_any (h : Nat) (hh : h < 18446744073709551616) (w : World) :
    Calls Tryz.prog 72 #[.int .u64 (h : Int)] w fun e w' => e = .returned (.int .u64 ((h : Int) / 128)) ∧ w' = w := by
  go_enter Tryz.func72, Tryz.ntmps72
  go_wp2_with fail
  go_ret
  exact ⟨rfl, rfl⟩
end Go.Proofs.YtmdnknbolgedgaaGreatDoor.Op
/-
  Blocks and cells that stay.
-/
namespace Go.Proofs.YtmdnknbolgedgaaGreatDoor
open Go.RowKit Go.Shelf
set_option linter.unusedVariables false

theorem keeps_cell {W W1 : World} {q j : Nat} {v : Value} {S : Nat → Prop} (k : Keeps W W1 S) (hS : ¬ S q) (e : W.cell? ⟨q, j, none⟩ = some v) : W1.cell? ⟨q, j, none⟩ = some v := by
  have : q < W.heap.size := by
    refine Nat.lt_of_not_le fun hn => ?_
    rw [World.cell?, Array.getElem?_eq_none hn] at e
    cases e
  exact (World.cell?_of_block (w := W) (a := ⟨q, j, none⟩) (k.block q this hS)).trans e
theorem Keeps.blkS {w w1 : World} {S : Nat → Prop} (h : Keeps w w1 S) {b : Nat} {x : Obj} (hb : w.heap[b]? = some x) (hS : ¬ S b) : w1.heap[b]? = some x := (h.block b (heap_lt hb) hS).trans hb
end Go.Proofs.YtmdnknbolgedgaaGreatDoor
