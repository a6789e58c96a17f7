import Derived.WalkKit
import Derived.Below
import Derived.Test.YtgckinldnnckoaaGreatDoorRows
import Derived.Outline
import Derived.Deep.RegionHeld3
import Derived.RegionTactic
import Derived.Test.YtgckinldnnckoaaGreatDoorPn13
/-
  What a call on a table leaves: only bytes of its two blocks are turned.
-/
namespace Go.Proofs.YtgckinldnnckoaaGreatDoor
open Go.RowKit Go.Shelf Ly Ct
set_option linter.unusedVariables false

/-- Only bytes of the header at off and of n bytes at gr are turned. -/
structure Alt (d d' : AD) (off gr n : Nat) : Prop where
  data : d' = d.bytes d'.bs
  len : d'.bs.length = d.bs.length
  out : ∀ j, j < off ∨ off + 64 ≤ j → j < gr ∨ gr + n ≤ j → d'.bs[j]? = d.bs[j]?
section
variable {d d1 d2 : AD} {l : Lay} {off gr n G : Nat} {f : Nat → Int} {c : Nat → GC}
theorem Alt.refl (d : AD) (off gr n : Nat) : Alt d d off gr n := ⟨rfl, rfl, fun _ _ _ => rfl⟩
theorem Alt.trans (h : Alt d d1 off gr n) (k : Alt d1 d2 off gr n) : Alt d d2 off gr n := ⟨by rw [k.data, h.data]; rfl, k.len.trans h.len, fun j h1 h2 => (k.out j h1 h2).trans (h.out j h1 h2)⟩
theorem Alt.head (h : Touch d d1 off 64) : Alt d d1 off gr n := ⟨h.data, h.len, fun j h1 _ => h.out j h1⟩
theorem Alt.grp {i g : Nat} (hi : i < G) (h : Touch d d1 (gr + i * g) g) : Alt d d1 off gr (G * g) := ⟨h.data, h.len, fun j _ h2 => h.out j (by
  have := mul_apart (s := g) hi
  have h3 : i * g + g ≤ G * g := by omega
  omega)⟩
theorem Alt.fine (h : Alt d d1 off gr n) (F : d.Fine) : d1.Fine := by
  rw [h.data]
  exact F.bytes h.len
theorem Alt.small (h : Alt d d1 off gr n) (F : d.small) : d1.small := by
  rw [h.data]
  exact F
/-- A table behind a call: the arena is turned, only in the table's two blocks, and it is that table. -/
def TabT (w w' : World) (p : Nat) (F : Nat → Prop) (d : AD) (l : Lay) (off gr G : Nat) (f : Nat → Int) (c : Nat → GC) : Prop := ∃ d', Turned w w' p F d' ∧ Alt d d' off gr (G * l.g.toNat) ∧ TabD d' l off gr G f c
end
section
variable {w w0 w1 w2 : World} {p : Nat} {F : Nat → Prop} {d : AD} {l : Lay} {off gr G : Nat} {f f1 f2 : Nat → Int} {c c1 c2 : Nat → GC}
theorem TabT.pre (k : Keeps w w0 (fun _ => False)) (h : TabT w0 w1 p F d l off gr G f c) : TabT w w1 p F d l off gr G f c := by
  obtain ⟨d', h1, h2, h3⟩ := h
  exact ⟨d', h1.pre k, h2, h3⟩
theorem TabT.post (h : TabT w w1 p F d l off gr G f c) (k : Keeps w1 w2 (fun _ => False)) : TabT w w2 p F d l off gr G f c := by
  obtain ⟨d', h1, h2, h3⟩ := h
  exact ⟨d', h1.post k, h2, h3⟩
theorem TabT.same (hA : Arena w p F d) (h : TabD d l off gr G f c) (k : Keeps w w1 (fun _ => False)) : TabT w w1 p F d l off gr G f c := ⟨d, hA.same k, Alt.refl _ _ _ _, h⟩
theorem updC_grp {k : Nat} (j : Nat) (hj : j < 8) (x : GC) : ∀ n, updG c k (updC (fun i => c (8 * k + i)) j x) n = if n = 8 * k + j then x else c n := fun n => by
  unfold updG updC
  by_cases e : n / 8 = k
  · rw [if_pos e]
    by_cases e2 : n = 8 * k + j
    · rw [if_pos e2, if_pos (by omega)]
    · rw [if_neg e2, if_neg (by omega)]
      show c (8 * k + n % 8) = c n
      rw [show 8 * k + n % 8 = n by omega]
  · rw [if_neg e, if_neg (by omega)]
end
/-- One cell is another. -/
def updN (c : Nat → GC) (s : Nat) (x : GC) : Nat → GC := fun n => if n = s then x else c n
theorem updG_updC (c : Nat → GC) (s : Nat) (x : GC) : updG c (s / 8) (updC (fun i => c (8 * (s / 8) + i)) (s % 8) x) = updN c s x := by
  funext n
  rw [updC_grp (s % 8) (by omega)]
  unfold updN
  rw [show 8 * (s / 8) + s % 8 = s by omega]
end Go.Proofs.YtgckinldnnckoaaGreatDoor
/-
  The order of a table's groups, as data: the document's words of chapter 7, as functions of numbers. Nothing here names the program.
-/
namespace Go.Proofs.YtgckinldnnckoaaGreatDoor.Pb
open Go.RowKit

theorem hide {p : Prop} (h : p) : Hid p := h

/-- A power of two from lo to hi. -/
def pw (n lo hi : Int) : Bool := decide (lo ≤ n ∧ n ≤ hi ∧ (n.toNat &&& (n.toNat - 1)) = 0)
theorem two_pow_of {n : Nat} (h0 : n ≠ 0) (h : n &&& (n - 1) = 0) : ∃ k, n = 2 ^ k := (Nat.and_sub_one_eq_zero_iff_isPowerOfTwo h0).1 h
theorem pow_and (k : Nat) : 2 ^ k &&& (2 ^ k - 1) = 0 := (Nat.and_sub_one_eq_zero_iff_isPowerOfTwo (by have := Nat.two_pow_pos k; omega)).2 ⟨k, rfl⟩
theorem pw_iff {n lo hi : Int} (hlo : 1 ≤ lo) : pw n lo hi = true ↔ lo ≤ n ∧ n ≤ hi ∧ ∃ k : Nat, n = ((2 ^ k : Nat) : Int) := by
  unfold pw
  rw [decide_eq_true_iff]
  constructor
  · rintro ⟨h1, h2, h3⟩
    obtain ⟨m, rfl⟩ := Int.eq_ofNat_of_zero_le (show 0 ≤ n by omega)
    obtain ⟨k, hk⟩ := two_pow_of (n := m) (by omega) h3
    exact ⟨h1, h2, k, by rw [hk]⟩
  · rintro ⟨h1, h2, k, rfl⟩
    exact ⟨h1, h2, pow_and k⟩
theorem and_pred (m : Nat) (h1 : 1 ≤ m) (h2 : m ≤ 1000000) : bits .and .i64 (m : Int) ((m : Int) - 1) = ((m &&& (m - 1) : Nat) : Int) := by
  have e : (m : Int) - 1 = ((m - 1 : Nat) : Int) := by omega
  rw [e]
  show IntKind.i64.wrap ((BitVec.ofInt 64 (m : Int) &&& BitVec.ofInt 64 ((m - 1 : Nat) : Int)).toNat : Int) = _
  have ha : (m &&& (m - 1)) ≤ m := Nat.and_le_left
  rw [BitVec.toNat_and, BitVec.ofInt_natCast, BitVec.ofInt_natCast, BitVec.toNat_ofNat, BitVec.toNat_ofNat, Nat.mod_eq_of_lt (by omega), Nat.mod_eq_of_lt (by omega), IntKind.wrap_i64]
  omega

/-- A number of groups that is valid. -/
theorem pwG {n : Int} (h : pw n 1 8192 = true) : ∃ k : Nat, k ≤ 13 ∧ n = ((2 ^ k : Nat) : Int) := by
  obtain ⟨h1, h2, k, rfl⟩ := (pw_iff (by omega)).1 h
  refine ⟨k, Nat.le_of_not_lt fun hk => ?_, rfl⟩
  have := Nat.pow_le_pow_right (n := 2) (by omega) (show 14 ≤ k by omega)
  omega
theorem pwG_pow {k : Nat} (h : k ≤ 13) : pw ((2 ^ k : Nat) : Int) 1 8192 = true := by
  refine (pw_iff (by omega)).2 ⟨?_, ?_, k, rfl⟩
  · have := Nat.two_pow_pos k; omega
  · have := Nat.pow_le_pow_right (n := 2) (by omega) h; omega
theorem pow_bounds {k : Nat} (h : k ≤ 13) : 1 ≤ 2 ^ k ∧ 2 ^ k ≤ 8192 := by
  have := Nat.two_pow_pos k
  have := Nat.pow_le_pow_right (n := 2) (by omega) h
  omega

/-- The group at step n. -/
def metN (h G n : Nat) : Nat := (h + n * (n + 1) / 2) % G
theorem metN_lt {h G n : Nat} (hG : 1 ≤ G) : metN h G n < G := Nat.mod_lt _ hG
theorem metN_zero (h G : Nat) : metN h G 0 = h % G := by simp [metN]
theorem tri_succ (n : Nat) : (n + 1) * (n + 1 + 1) / 2 = n * (n + 1) / 2 + (n + 1) := by
  have e : (n + 1) * (n + 1 + 1) = n * (n + 1) + (n + 1) * 2 := by
    rw [Nat.add_mul, Nat.mul_add, Nat.mul_add]; omega
  rw [e, Nat.add_mul_div_right _ _ (by omega)]
theorem metN_succ (h G n : Nat) : metN h G (n + 1) = (metN h G n + (n + 1)) % G := by
  unfold metN
  rw [tri_succ, Nat.mod_add_mod, Nat.add_assoc]
theorem tri_even (n : Nat) : n * (n + 1) / 2 * 2 = n * (n + 1) := by
  have h : n * (n + 1) % 2 = 0 := by
    rw [Nat.mul_mod]
    rcases Nat.mod_two_eq_zero_or_one n with h | h
    · rw [h, Nat.zero_mul]
    · rw [Nat.add_mod, h]
  omega
/-- Every home's remainder alone counts. -/
theorem metN_mod (h G n : Nat) : metN (h % G) G n = metN h G n := by
  unfold metN
  rw [Nat.mod_add_mod]
theorem wrap_mod {a k : Nat} (h : k ≤ 64) : a % 18446744073709551616 % 2 ^ k = a % 2 ^ k := by
  rw [show (18446744073709551616 : Nat) = 2 ^ 64 by rfl]
  exact Nat.mod_mod_of_dvd _ (Nat.pow_dvd_pow 2 h)

/-- Triangular numbers below a power of two are all different. -/
theorem odd_dvd {k a b : Nat} (ho : b % 2 = 1) (h : 2 ^ k ∣ a * b) : 2 ^ k ∣ a := by
  have hc : Nat.Coprime (2 ^ k) b := Nat.Coprime.pow_left k (by
    have : Nat.gcd 2 b = 1 := by rw [Nat.gcd_rec, ho]; rfl
    exact this)
  exact hc.dvd_of_dvd_mul_right h
theorem metN_lt_ne {h k m n : Nat} (hmn : m < n) (hn : n < 2 ^ k) : metN h (2 ^ k) m ≠ metN h (2 ^ k) n := by
  intro e
  unfold metN at e
  have hle : m * (m + 1) / 2 ≤ n * (n + 1) / 2 := Nat.div_le_div_right (Nat.mul_le_mul (by omega) (by omega))
  have hd : 2 ^ k ∣ (n * (n + 1) / 2 - m * (m + 1) / 2) := by
    have := Nat.dvd_of_mod_eq_zero (Nat.sub_mod_eq_zero_of_mod_eq e.symm)
    rwa [Nat.add_sub_add_left] at this
  have hd2 : 2 ^ (k + 1) ∣ (n - m) * (n + m + 1) := by
    have h1 : 2 ^ k * 2 ∣ (n * (n + 1) / 2 - m * (m + 1) / 2) * 2 := Nat.mul_dvd_mul_right hd 2
    have e1 : (n * (n + 1) / 2 - m * (m + 1) / 2) * 2 = (n - m) * (n + m + 1) := by
      rw [Nat.sub_mul, tri_even, tri_even]
      obtain ⟨d, rfl⟩ : ∃ d, n = m + d := ⟨n - m, by omega⟩
      rw [Nat.add_sub_cancel_left]
      have e2 : (m + d) * (m + d + 1) = m * (m + 1) + d * (m + d + m + 1) := by
        simp only [Nat.add_mul, Nat.mul_add, Nat.mul_one]
        have := Nat.mul_comm m d
        omega
      rw [e2, Nat.add_sub_cancel_left]
    rw [e1] at h1
    exact h1
  have hp : 2 ^ (k + 1) = 2 ^ k * 2 := Nat.pow_succ 2 k
  rcases Nat.mod_two_eq_zero_or_one (n - m) with h0 | h0
  · have ho : (n + m + 1) % 2 = 1 := by omega
    have := Nat.le_of_dvd (by omega) (odd_dvd ho hd2)
    omega
  · rw [Nat.mul_comm] at hd2
    have := Nat.le_of_dvd (by omega) (odd_dvd h0 hd2)
    omega
theorem metN_inj {h k m n : Nat} (hm : m < 2 ^ k) (hn : n < 2 ^ k) (e : metN h (2 ^ k) m = metN h (2 ^ k) n) : m = n := by
  rcases Nat.lt_trichotomy m n with h1 | h1 | h1
  · exact absurd e (metN_lt_ne h1 hn)
  · exact h1
  · exact absurd e.symm (metN_lt_ne h1 hm)

/-- As many places as things: what is one to one meets all. -/
theorem no_inj : ∀ (G : Nat) (f : Nat → Nat), (∀ i, i < G + 1 → f i < G) → (∀ i j, i < G + 1 → j < G + 1 → f i = f j → i = j) → False
  | 0, f, h1, _ => by have := h1 0 (by omega); omega
  | G + 1, f, h1, h2 => by
    refine no_inj G (fun i => if f i = G then f (G + 1) else f i) (fun i hi => ?_) (fun i j hi hj e => ?_)
    · have a := h1 i (by omega)
      have b := h1 (G + 1) (by omega)
      show (if f i = G then f (G + 1) else f i) < G
      split
      · rename_i he
        have : f (G + 1) ≠ G := fun e => by have := h2 i (G + 1) (by omega) (by omega) (he.trans e.symm); omega
        omega
      · omega
    · have a : f i ≠ f (G + 1) := fun e => by have := h2 i (G + 1) (by omega) (by omega) e; omega
      have b : f j ≠ f (G + 1) := fun e => by have := h2 j (G + 1) (by omega) (by omega) e; omega
      split at e <;> split at e
      · rename_i x y; exact h2 i j (by omega) (by omega) (x.trans y.symm)
      · exact absurd e.symm b
      · exact absurd e a
      · exact h2 i j (by omega) (by omega) e
theorem inj_onto {G : Nat} {f : Nat → Nat} (h1 : ∀ i, i < G → f i < G) (h2 : ∀ i j, i < G → j < G → f i = f j → i = j) {x : Nat} (hx : x < G) : ∃ i, i < G ∧ f i = x := by
  apply Classical.byContradiction
  intro hn
  have hne : ∀ i, i < G → f i ≠ x := fun i hi e => hn ⟨i, hi, e⟩
  obtain ⟨g, rfl⟩ : ∃ g, G = g + 1 := ⟨G - 1, by omega⟩
  refine no_inj g (fun i => if f i = g then x else f i) (fun i hi => ?_) (fun i j hi hj e => ?_)
  · have a := h1 i hi
    have b := hne i hi
    show (if f i = g then x else f i) < g
    split <;> omega
  · have a := hne i hi
    have b := hne j hj
    split at e <;> split at e
    · rename_i y z; exact h2 i j hi hj (y.trans z.symm)
    · exact absurd e.symm b
    · exact absurd e a
    · exact h2 i j hi hj e
theorem metN_onto {h k x : Nat} (hx : x < 2 ^ k) : ∃ i, i < 2 ^ k ∧ metN h (2 ^ k) i = x :=
  inj_onto (f := metN h (2 ^ k)) (fun i hi => metN_lt (by omega)) (fun i j hi hj e => metN_inj hi hj e) hx

/-- How many slots may be full. -/
def mostN (s : Int) : Int := if pw s 8 65536 then s / 8 * 7 else 0
/-- The least table, from p on. -/
def slF (n : Int) : Nat → Int → Int
  | 0, _ => 0
  | f + 1, p => if n ≤ p / 8 * 7 then p else slF n f (2 * p)
def slotsN (n : Int) : Int := if n < 0 then 0 else slF n 14 8

theorem pwS_yes : ∀ j, j < 14 → pw ((8 * 2 ^ j : Nat) : Int) 8 65536 = true := by decide
theorem pwS_no : pw ((8 * 2 ^ 14 : Nat) : Int) 8 65536 = false := by decide
theorem pow_int (j : Nat) : ((8 * 2 ^ (j + 1) : Nat) : Int) = 2 * ((8 * 2 ^ j : Nat) : Int) := by
  rw [Nat.pow_succ]; omega
theorem pow_le14 : ∀ {j : Nat}, j ≤ 14 → 8 ≤ ((8 * 2 ^ j : Nat) : Int) ∧ ((8 * 2 ^ j : Nat) : Int) ≤ 131072 := by
  intro j hj
  have := Nat.two_pow_pos j
  have := Nat.pow_le_pow_right (n := 2) (by omega) hj
  omega
theorem pow_le13 {j : Nat} (hj : j ≤ 13) : ((8 * 2 ^ j : Nat) : Int) ≤ 65536 := by
  have := Nat.pow_le_pow_right (n := 2) (by omega) hj
  omega
theorem slF_spec (n : Int) (hn : n ≤ 57344) : ∀ f j, f + j = 14 → (j = 0 ∨ 7 * (2 ^ (j - 1) : Nat) < n) →
    ∃ i, i < 14 ∧ slF n f ((8 * 2 ^ j : Nat) : Int) = ((8 * 2 ^ i : Nat) : Int) ∧ n ≤ 7 * (2 ^ i : Nat) ∧ (i = 0 ∨ 7 * (2 ^ (i - 1) : Nat) < n)
  | 0, j, hj, h => by
    exfalso
    obtain rfl : j = 14 := by omega
    rcases h with h | h
    · omega
    · have : (7 * ((2 ^ (14 - 1) : Nat) : Int)) = 57344 := by decide
      omega
  | f + 1, j, hj, h => by
    unfold slF
    have e : ((8 * 2 ^ j : Nat) : Int) / 8 * 7 = 7 * (2 ^ j : Nat) := by omega
    rw [e]
    by_cases hle : n ≤ 7 * (2 ^ j : Nat)
    · rw [if_pos hle]
      exact ⟨j, by omega, rfl, hle, h⟩
    · rw [if_neg hle, ← pow_int]
      exact slF_spec n hn f (j + 1) (by omega) (Or.inr (by rw [Nat.add_sub_cancel]; omega))
theorem slF_no (n : Int) (hn : 57344 < n) : ∀ f j, f + j = 14 → slF n f ((8 * 2 ^ j : Nat) : Int) = 0
  | 0, _, _ => rfl
  | f + 1, j, hj => by
    unfold slF
    have e : ((8 * 2 ^ j : Nat) : Int) / 8 * 7 = 7 * (2 ^ j : Nat) := by omega
    have := Nat.pow_le_pow_right (n := 2) (by omega) (show j ≤ 13 by omega)
    rw [e, if_neg (by omega), ← pow_int]
    exact slF_no n hn f (j + 1) (by omega)
end Go.Proofs.YtgckinldnnckoaaGreatDoor.Pb
/-
  The calls of probe that are plain arithmetic: powerWithin, isGroups, isSlots, met, At, Start, Most, Slots.
-/
namespace Go.Proofs.YtgckinldnnckoaaGreatDoor.Pb
open Go.RowKit
set_option linter.unusedVariables false

theorem power_any (n lo hi : Int) (w : World) (hlo : 1 ≤ lo) (hhi : hi ≤ 1000000) :
    Calls Tryz.prog 135 #[.int .i64 n, .int .i64 lo, .int .i64 hi] w fun e w' => e = .returned (.bool (pw n lo hi)) ∧ w' = w := by
  by_cases h1 : lo ≤ n
  · by_cases h2 : n ≤ hi
    · obtain ⟨m, rfl⟩ := Int.eq_ofNat_of_zero_le (show 0 ≤ n by omega)
      have hp : bits .and .i64 (m : Int) ((m : Int) - 1) = ((m &&& (m - 1) : Nat) : Int) := and_pred m (by omega) (by omega)
      go_enter Tryz.func135, Tryz.ntmps135
      go_wp2
      go_ret
      refine ⟨?_, rfl⟩
      have e : ((((m &&& (m - 1) : Nat) : Int) == 0) : Bool) = decide (lo ≤ (m : Int) ∧ (m : Int) ≤ hi ∧ ((m : Int).toNat &&& ((m : Int).toNat - 1)) = 0) := by
        rw [Int.toNat_natCast, Bool.eq_iff_iff, beq_iff_eq, decide_eq_true_iff]
        constructor
        · exact fun h => ⟨h1, h2, by omega⟩
        · exact fun h => by rw [h.2.2]; rfl
      exact congrArg (fun b => Ending.returned (Value.bool b)) e
    · have e : pw n lo hi = false := decide_eq_false (fun h => h2 h.2.1)
      rw [e]
      have h2' : ¬ n ≤ hi := h2
      go_enter Tryz.func135, Tryz.ntmps135
      go_wp2
      go_ret
      exact ⟨rfl, rfl⟩
  · have e : pw n lo hi = false := decide_eq_false (fun h => h1 h.1)
    rw [e]
    go_enter Tryz.func135, Tryz.ntmps135
    go_wp2
    go_ret
    exact ⟨rfl, rfl⟩

theorem isGroups_any (n : Int) (w : World) :
    Calls Tryz.prog 143 #[.int .i64 n] w fun e w' => e = .returned (.bool (pw n 1 8192)) ∧ w' = w := by
  have hp := power_any n 1 8192 w (by omega) (by omega)
  go_enter Tryz.func143, Tryz.ntmps143
  go_wp2_with fail
  refine hp.mono ?_
  rintro e w' ⟨rfl, rfl⟩
  go_wp2_with fail
  go_ret
  exact ⟨rfl, rfl⟩

theorem isSlots_any (n : Int) (w : World) :
    Calls Tryz.prog 102 #[.int .i64 n] w fun e w' => e = .returned (.bool (pw n 8 65536)) ∧ w' = w := by
  have hp := power_any n 8 65536 w (by omega) (by omega)
  go_enter Tryz.func102, Tryz.ntmps102
  go_wp2_with fail
  refine hp.mono ?_
  rintro e w' ⟨rfl, rfl⟩
  go_wp2_with fail
  go_ret
  exact ⟨rfl, rfl⟩

theorem met_val (h k n : Nat) (hk : k ≤ 13) (hn : n < 2 ^ k) :
    wrap64 ((IntKind.u64.wrap ((h : Int) + IntKind.u64.wrap ((IntKind.u64.wrap ((n : Int) * ((n : Int) + 1))).tdiv 2))).tmod ((2 ^ k : Nat) : Int)) = ((metN h (2 ^ k) n : Nat) : Int) := by
  obtain ⟨g1, g2⟩ := pow_bounds hk
  have hmul : n * (n + 1) ≤ 8192 * 8192 := Nat.mul_le_mul (by omega) (by omega)
  have e1 : (n : Int) * ((n : Int) + 1) = ((n * (n + 1) : Nat) : Int) := by rw [Int.natCast_mul]; rfl
  have e0 : IntKind.u64.wrap ((n * (n + 1) : Nat) : Int) = ((n * (n + 1) : Nat) : Int) := by
    rw [IntKind.wrap_u64]
    omega
  have e2 : IntKind.u64.wrap (((n * (n + 1) : Nat) : Int).tdiv 2) = ((n * (n + 1) / 2 : Nat) : Int) := by
    rw [IntKind.wrap_u64, Int.tdiv_eq_ediv_of_nonneg (by omega)]
    omega
  have e3 : IntKind.u64.wrap ((h : Int) + ((n * (n + 1) / 2 : Nat) : Int)) = (((h + n * (n + 1) / 2) % 18446744073709551616 : Nat) : Int) := by
    rw [IntKind.wrap_u64]
    omega
  rw [e1, e0, e2, e3, Int.tmod_eq_emod_of_nonneg (by omega), ← Int.natCast_emod, wrap_mod (by omega)]
  have hl : metN h (2 ^ k) n < 2 ^ k := metN_lt g1
  have hM : metN h (2 ^ k) n = (h + n * (n + 1) / 2) % 2 ^ k := rfl
  rw [← hM]
  unfold wrap64
  omega

set_option maxHeartbeats 1000000 in
theorem met_any (h k n : Nat) (w : World) (hk : k ≤ 13) (hn : n < 2 ^ k) (hh : h < 18446744073709551616) :
    Calls Tryz.prog 144 #[.int .u64 (h : Int), .int .i64 ((2 ^ k : Nat) : Int), .int .i64 (n : Int)] w fun e w' => e = .returned (.int .i64 ((metN h (2 ^ k) n : Nat) : Int)) ∧ w' = w := by
  obtain ⟨g1, g2⟩ := pow_bounds hk
  have hV := hide (met_val h k n hk hn)
  generalize metN h (2 ^ k) n = M at *
  generalize 2 ^ k = G at *
  go_enter Tryz.func144, Tryz.ntmps144
  go_wp2_with fail
  go_ret
  exact ⟨congrArg (fun x => Ending.returned (Value.int .i64 x)) hV.out, rfl⟩

theorem most_any (s : Int) (w : World) :
    Calls Tryz.prog 66 #[.int .i64 s] w fun e w' => e = .returned (.int .i64 (mostN s)) ∧ w' = w := by
  have hp := isSlots_any s w
  cases hq : pw s 8 65536
  · rw [hq] at hp
    have e : mostN s = 0 := by unfold mostN; rw [hq]; rfl
    rw [e]
    go_enter Tryz.func66, Tryz.ntmps66
    go_wp2_with fail
    refine hp.mono ?_
    rintro e w' ⟨rfl, rfl⟩
    go_wp2_with fail
    go_ret
    exact ⟨rfl, rfl⟩
  · rw [hq] at hp
    have e : mostN s = s / 8 * 7 := by unfold mostN; rw [hq]; rfl
    rw [e]
    obtain ⟨h1, h2, _⟩ := (pw_iff (by omega)).1 hq
    go_enter Tryz.func66, Tryz.ntmps66
    go_wp2_with fail
    refine hp.mono ?_
    rintro e w' ⟨rfl, rfl⟩
    go_wp2_with fail
    go_ret
    exact ⟨rfl, rfl⟩
end Go.Proofs.YtgckinldnnckoaaGreatDoor.Pb
/-
  begin: the header and the empty groups are laid into two new blocks.
-/
namespace Go.Proofs.YtgckinldnnckoaaGreatDoor
open Go.RowKit Go.Shelf Ly Ct
set_option linter.unusedVariables false

/-- A table under way: the first k groups are laid. -/
structure TabP (d0 d : AD) (l : Lay) (off gr G k : Nat) (f : Nat → Int) : Prop where
  fine : d.Fine
  valid : validB l = true
  pos : 0 < G
  few : G ≤ 8192
  good : d.goodB (off : Int) 64 = true
  len : off + 64 ≤ d.bs.length
  glen : gr + G * l.g.toNat ≤ d.bs.length
  head : ∀ i, i < 8 → hdr d off i = f i
  there : ∀ i, i < G → d.goodB ((gr + i * l.g.toNat : Nat) : Int) l.g = true
  grp : ∀ i, i < k → GroupAt d l (gr + i * l.g.toNat) (fun _ => GC.zero)
  le : k ≤ G
  apart : off + 64 ≤ gr ∨ gr + G * l.g.toNat ≤ off
  alt : Alt d0 d off gr (G * l.g.toNat)
section
variable {d0 d d' : AD} {l : Lay} {off gr G k : Nat} {f : Nat → Int}
theorem TabP.in (h : TabP d0 d l off gr G k f) {i : Nat} (hi : i < G) : gr ≤ gr + i * l.g.toNat ∧ gr + i * l.g.toNat + l.g.toNat ≤ gr + G * l.g.toNat := by
  have := mul_apart (s := l.g.toNat) hi
  omega
theorem TabP.done (h : TabP d0 d l off gr G G f) : TabD d l off gr G f (fun _ => GC.zero) := ⟨h.valid, h.pos, h.few, h.good, h.len, h.glen, h.head, h.grp, h.apart⟩
theorem TabP.off_le (h : TabP d0 d l off gr G k f) : off ≤ 134217728 ∧ gr ≤ 134217728 := by
  have h1 := h.len
  have h2 := h.glen
  have h3 := h.fine.most
  omega
theorem TabP.set (h : TabP d0 d l off gr G k f) {i : Nat} (hi : i < 8) {v : Int} (hv : fitsI v) :
    storeR d ((off : Int) + (i : Int) * 8) 8 (u64of v) = (0, d.bytes (splice d.bs (off + i * 8) (leBytes (u64of v) 8))) ∧ TabP d0 (d.bytes (splice d.bs (off + i * 8) (leBytes (u64of v) 8))) l off gr G k (updI f i v) := by
  have hlen : off + i * 8 + (leBytes (u64of v) 8).length ≤ d.bs.length := by rw [leBytes_length]; have := h.len; omega
  have ht : Touch d (d.bytes (splice d.bs (off + i * 8) (leBytes (u64of v) 8))) off 64 := Touch.splice d (by omega) (by rw [leBytes_length]; omega) hlen
  have hg8 := good_sub h.good (x := (i : Int) * 8) (m := 8) (by omega) (by omega) (by omega)
  refine ⟨?_, ⟨ht.fine h.fine, h.valid, h.pos, h.few, by rw [ht.goodB]; exact h.good, by rw [ht.len]; exact h.len, by rw [ht.len]; exact h.glen, fun j hj => ?_, fun j hj => by rw [ht.goodB]; exact h.there j hj, fun j hj => (h.grp j hj).touch ht ?_, h.le, h.apart, h.alt.trans (Alt.head ht)⟩⟩
  · unfold storeR
    rw [hg8, show ((off : Int) + (i : Int) * 8).toNat = off + i * 8 by omega]
    rfl
  · rw [hdr_set h.len hi hj]
    unfold updI
    have : u64of v % 18446744073709551616 = u64of v := Nat.mod_eq_of_lt (u64of_lt v)
    rw [this, wrap_u64of hv, h.head j hj]
  · have := h.in (Nat.lt_of_lt_of_le hj h.le)
    rcases h.apart with q | q
    · right; omega
    · left; omega
theorem TabP.reset (h : TabP d0 d l off gr G k f) (hk : k < G) : (resetG d l ((gr + k * l.g.toNat : Nat) : Int)).1 = 0 ∧ TabP d0 (resetG d l ((gr + k * l.g.toNat : Nat) : Int)).2 l off gr G (k + 1) f := by
  have hT : thereB d l ((gr + k * l.g.toNat : Nat) : Int) = true := by
    unfold thereB
    rw [h.valid, h.there k hk]
    rfl
  obtain ⟨h1, h2, ht⟩ := reset_group h.fine hT
  have hik := h.in hk
  refine ⟨h1, ⟨ht.fine h.fine, h.valid, h.pos, h.few, by rw [ht.goodB]; exact h.good, by rw [ht.len]; exact h.len, by rw [ht.len]; exact h.glen, fun j hj => ?_, fun j hj => by rw [ht.goodB]; exact h.there j hj, fun j hj => ?_, hk, h.apart, h.alt.trans (Alt.grp hk ht)⟩⟩
  · rw [hdr_touch ht ?_ hj]
    · exact h.head j hj
    · rcases h.apart with q | q
      · left; omega
      · right; omega
  · by_cases e : j = k
    · subst e
      exact h2
    · have hlt : j < k := by omega
      refine (h.grp j hlt).touch ht ?_
      have := mul_apart (s := l.g.toNat) hlt
      omega
end

section
variable {w : World} {p : Nat} {F : Nat → Prop} {d0 d : AD} {l : Lay} {off gr G k : Nat} {f : Nat → Int}
/-- set, of a table under way. -/
theorem tset_p (hA : Arena w p F d) (hFl : ∀ k, F k → k < w.heap.size) (h : TabP d0 d l off gr G k f) (i : Nat) (hi : i < 8) (v : Int) (hv : fitsI v) :
    Calls Tryz.prog 74 #[.agg #[.pointer (some ⟨p, 0, none⟩), .int .i64 l.k, .int .i64 l.e, .int .i64 l.a, .int .i64 l.b, .int .i64 l.c, .int .i64 l.eo, .int .i64 l.bo, .int .i64 l.s, .int .i64 l.g, .int .i64 (off : Int)], .int .i64 (i : Int), .int .i64 v] w fun e w' => e = .returned (.int .i64 0) ∧ ∃ d', Turned w w' p F d' ∧ TabP d0 d' l off gr G k (updI f i v) := by
  have ho := h.off_le
  obtain ⟨e1, h1⟩ := h.set hi hv
  have := tset_any hA h.fine hFl l (off : Int) (i : Int) v (by omega) (by omega) (by omega) (by omega)
  rw [e1] at this
  refine this.mono ?_
  rintro e w' ⟨rfl, hT⟩
  exact ⟨rfl, _, hT, h1⟩
theorem treset_p (hA : Arena w p F d) (hFl : ∀ k, F k → k < w.heap.size) (h : TabP d0 d l off gr G k f) (hk : k < G) :
    Calls Tryz.prog 58 #[.agg #[.pointer (some ⟨p, 0, none⟩), .int .i64 l.k, .int .i64 l.e, .int .i64 l.a, .int .i64 l.b, .int .i64 l.c, .int .i64 l.eo, .int .i64 l.bo, .int .i64 l.s, .int .i64 l.g, .int .i64 ((gr : Int) + (k : Int) * l.g)]] w fun e w' => e = .returned (.int .i64 0) ∧ ∃ d', Turned w w' p F d' ∧ TabP d0 d' l off gr G (k + 1) f := by
  have ho := h.off_le
  have hv := valid_more h.valid
  have hik := h.in hk
  have hgl := h.glen
  have hm := h.fine.most
  obtain ⟨e1, h1⟩ := h.reset hk
  have e : ((gr + k * l.g.toNat : Nat) : Int) = (gr : Int) + (k : Int) * l.g := by
    rw [Int.natCast_add, Int.natCast_mul, Int.toNat_of_nonneg (by omega)]
  rw [e] at e1 h1
  have := greset_any hA h.fine hFl l ((gr : Int) + (k : Int) * l.g) (by rw [← e]; exact fitsI_mk (by omega) (by omega)) (fitsI_mk (by omega) (by omega))
  rw [e1] at this
  refine this.mono ?_
  rintro r w' ⟨rfl, hT⟩
  exact ⟨rfl, _, hT, h1⟩
end
end Go.Proofs.YtgckinldnnckoaaGreatDoor
/-
  begin.
-/
namespace Go.Proofs.YtgckinldnnckoaaGreatDoor
open Go.RowKit Go.Shelf Ly Ct
set_option linter.unusedVariables false

/-- The header of a new table. -/
def hdr0 (slots most depth gr : Int) : Nat → Int := updI (updI (updI (updI (updI (fun _ => 0) 0 2) 4 slots) 5 most) 6 depth) 7 gr

/-- begin under way: the arena has turned, the struct stands in its block. -/
structure Bg (d0 : AD) (W0 W : World) (p : Nat) (F : Nat → Prop) (B : Nat) (l : Lay) (off gr G k : Nat) (f : Nat → Int) : Prop where
  lt : B < W0.heap.size
  nF : ¬ F B
  fl : ∀ i, F i → i < W0.heap.size
  dat : ∃ d, Turned W0 W p F d ∧ TabP d0 d l off gr G k f
  blk : W.heap[B]? = some (.cells #[.pointer (some ⟨p, 0, none⟩), .int .i64 l.k, .int .i64 l.e, .int .i64 l.a, .int .i64 l.b, .int .i64 l.c, .int .i64 l.eo, .int .i64 l.bo, .int .i64 l.s, .int .i64 l.g, .int .i64 (off : Int)] 61)
section
variable {d0 : AD} {W0 W W' : World} {p : Nat} {F : Nat → Prop} {B : Nat} {l : Lay} {off gr G k : Nat} {f : Nat → Int}
theorem Bg.stay (h : Bg d0 W0 W p F B l off gr G k f) (q : Keeps W W' (fun _ => False)) : Bg d0 W0 W' p F B l off gr G k f := by
  obtain ⟨d, hT, hP⟩ := h.dat
  exact ⟨h.lt, h.nF, h.fl, ⟨d, hT.post q, hP⟩, q.blk h.blk⟩
theorem Bg.nB (h : Bg d0 W0 W p F B l off gr G k f) : ¬ ((F B ∨ W0.heap.size ≤ B) ∧ B < W.heap.size) := fun q => q.1.elim h.nF (fun q => by have := h.lt; omega)
theorem Bg.cells (h : Bg d0 W0 W p F B l off gr G k f) : C11 B p l (off : Int) W := c11_of h.blk
theorem bg_set (h : Bg d0 W0 W p F B l off gr G k f) (i : Nat) (hi : i < 8) (v : Int) (hv : fitsI v) :
    Calls Tryz.prog 74 #[.agg #[.pointer (some ⟨p, 0, none⟩), .int .i64 l.k, .int .i64 l.e, .int .i64 l.a, .int .i64 l.b, .int .i64 l.c, .int .i64 l.eo, .int .i64 l.bo, .int .i64 l.s, .int .i64 l.g, .int .i64 (off : Int)], .int .i64 (i : Int), .int .i64 v] W fun e w' => e = .returned (.int .i64 0) ∧ Bg d0 W0 w' p F B l off gr G k (updI f i v) := by
  obtain ⟨d, hT, hP⟩ := h.dat
  refine (tset_p hT.arena (fun _ q => q.2) hP i hi v hv).mono ?_
  rintro e w' ⟨rfl, d', hT2, hP2⟩
  exact ⟨rfl, h.lt, h.nF, h.fl, ⟨d', hT.then hT2, hP2⟩, (hT2.2.block B (heap_lt h.blk) h.nB).trans h.blk⟩
theorem bg_reset (h : Bg d0 W0 W p F B l off gr G k f) (hk : k < G) :
    Calls Tryz.prog 58 #[.agg #[.pointer (some ⟨p, 0, none⟩), .int .i64 l.k, .int .i64 l.e, .int .i64 l.a, .int .i64 l.b, .int .i64 l.c, .int .i64 l.eo, .int .i64 l.bo, .int .i64 l.s, .int .i64 l.g, .int .i64 ((gr : Int) + (k : Int) * l.g)]] W fun e w' => e = .returned (.int .i64 0) ∧ Bg d0 W0 w' p F B l off gr G (k + 1) f := by
  obtain ⟨d, hT, hP⟩ := h.dat
  refine (treset_p hT.arena (fun _ q => q.2) hP hk).mono ?_
  rintro e w' ⟨rfl, d', hT2, hP2⟩
  exact ⟨rfl, h.lt, h.nF, h.fl, ⟨d', hT.then hT2, hP2⟩, (hT2.2.block B (heap_lt h.blk) h.nB).trans h.blk⟩
end

set_option maxRecDepth 100000 in
set_option maxHeartbeats 1000000 in
theorem begin_any {w : World} {p : Nat} {F : Nat → Prop} {d0 d : AD} (hA : Arena w p F d) (hFl : ∀ k, F k → k < w.heap.size) (l : Lay) (off gr G : Nat) (h : TabP d0 d l off gr G 0 (fun _ => 0)) (depth : Int) (hd : fitsI depth) :
    Calls Tryz.prog 70 #[.agg #[.pointer (some ⟨p, 0, none⟩), .int .i64 l.k, .int .i64 l.e, .int .i64 l.a, .int .i64 l.b, .int .i64 l.c, .int .i64 l.eo, .int .i64 l.bo, .int .i64 l.s, .int .i64 l.g, .int .i64 (off : Int)], .int .i64 ((8 * G : Nat) : Int), .int .i64 depth, .int .i64 (gr : Int)] w fun e w' => (∃ v, e = .returned v) ∧ ∃ d', Turned w w' p F d' ∧ d'.Fine ∧ TabD d' l off gr G (hdr0 ((8 * G : Nat) : Int) (Pb.mostN ((8 * G : Nat) : Int)) depth (gr : Int)) (fun _ => GC.zero) ∧ Alt d0 d' off gr (G * l.g.toNat) := by
  have hnB : ¬ F w.heap.size := fun q => Nat.lt_irrefl _ (hFl _ q)
  have hM := fun W => Pb.most_any ((8 * G : Nat) : Int) W
  have ho := h.off_le
  have hfew := h.few
  obtain ⟨f9, hf9⟩ : ∃ f9, hdr0 ((8 * G : Nat) : Int) (Pb.mostN ((8 * G : Nat) : Int)) depth (gr : Int) = f9 := ⟨_, rfl⟩
  rw [hf9]
  have hgr : fitsI (gr : Int) := fitsI_mk (by omega) (by omega)
  have hsl : fitsI ((8 * G : Nat) : Int) := fitsI_mk (by omega) (by omega)
  have hmo : fitsI (Pb.mostN ((8 * G : Nat) : Int)) := by
    unfold Pb.mostN
    split
    · exact fitsI_mk (by omega) (by omega)
    · exact fitsI_mk (by omega) (by omega)
  have hv := valid_more h.valid
  have hGrp := fun (i : Nat) (hi : i < G) W => tgroup_any p l (off : Int) (gr : Int) (i : Int) W (by omega) (by omega) (by omega) (by omega) (by omega) (by omega)
  have hB0 : Bg d0 (w.alloc (.cells #[.pointer (some ⟨p, 0, none⟩), .int .i64 l.k, .int .i64 l.e, .int .i64 l.a, .int .i64 l.b, .int .i64 l.c, .int .i64 l.eo, .int .i64 l.bo, .int .i64 l.s, .int .i64 l.g, .int .i64 (off : Int)] 61)) (w.alloc (.cells #[.pointer (some ⟨p, 0, none⟩), .int .i64 l.k, .int .i64 l.e, .int .i64 l.a, .int .i64 l.b, .int .i64 l.c, .int .i64 l.eo, .int .i64 l.bo, .int .i64 l.s, .int .i64 l.g, .int .i64 (off : Int)] 61)) p F w.heap.size l off gr G 0 (fun _ => 0) :=
    ⟨by simp, hnB, fun i hi => by have := hFl i hi; simp; omega, ⟨d, (hA.keeps ((Keeps.refl _ _).alloc _) (fun _ _ _ e => e)).same (Keeps.refl _ _), h⟩, heap_alloc_new _ _⟩
  have K0 : Keeps w (w.alloc (.cells #[.pointer (some ⟨p, 0, none⟩), .int .i64 l.k, .int .i64 l.e, .int .i64 l.a, .int .i64 l.b, .int .i64 l.c, .int .i64 l.eo, .int .i64 l.bo, .int .i64 l.s, .int .i64 l.g, .int .i64 (off : Int)] 61)) (fun _ => False) := (Keeps.refl _ _).alloc _
  have hfin : Hid (∀ W f, f = f9 → Bg d0 (w.alloc (.cells #[.pointer (some ⟨p, 0, none⟩), .int .i64 l.k, .int .i64 l.e, .int .i64 l.a, .int .i64 l.b, .int .i64 l.c, .int .i64 l.eo, .int .i64 l.bo, .int .i64 l.s, .int .i64 l.g, .int .i64 (off : Int)] 61)) W p F w.heap.size l off gr G G f → ∃ d', Turned w W p F d' ∧ d'.Fine ∧ TabD d' l off gr G f9 (fun _ => GC.zero) ∧ Alt d0 d' off gr (G * l.g.toNat)) := fun W f hf hB => by
    obtain ⟨d', hT, hP⟩ := hB.dat
    subst hf
    exact ⟨d', Turned.pre K0 hT, hP.fine, hP.done, hP.alt⟩
  clear hv
  go_enter Tryz.func70, Tryz.ntmps70
  go_wp2_with fail
  generalize (w.alloc (.cells #[.pointer (some ⟨p, 0, none⟩), .int .i64 l.k, .int .i64 l.e, .int .i64 l.a, .int .i64 l.b, .int .i64 l.c, .int .i64 l.eo, .int .i64 l.bo, .int .i64 l.s, .int .i64 l.g, .int .i64 (off : Int)] 61)) = W0 at *
  unfold hdr0 at hf9
  replace hf9 := hide hf9
  clear hA hFl h hnB K0
  have hM' : ∀ W, Calls Tryz.prog 66 #[.int .i64 ((8 * G : Nat) : Int)] W fun e w' => e = .returned (.int .i64 (Pb.mostN ((8 * G : Nat) : Int))) ∧ w' = W := hM
  clear hM
  generalize Pb.mostN ((8 * G : Nat) : Int) = mo at *
  have hs8 : (((8 * G : Nat) : Int)).tdiv 8 = (G : Int) := by
    rw [Int.tdiv_eq_ediv_of_nonneg (by omega)]
    omega
  have hsb : (0 : Int) ≤ ((8 * G : Nat) : Int) := by omega
  generalize ((8 * G : Nat) : Int) = sl at *
  have s0 := bg_set hB0 0 (by omega) 2 (fitsI_mk (by omega) (by omega))
  rw [show ((0 : Nat) : Int) = 0 from rfl] at s0
  (with_reducible refine s0.mono ?_)
  clear s0
  rintro r W1 ⟨rfl, B1⟩
  clear hB0
  obtain ⟨c0, c1, c2, c3, c4, c5, c6, c7, c8, c9, c10⟩ := B1.cells
  go_wp2_with fail
  have s0 := bg_set B1 4 (by omega) sl hsl
  rw [show ((4 : Nat) : Int) = 4 from rfl] at s0
  (with_reducible refine s0.mono ?_)
  clear s0
  rintro r W2 ⟨rfl, B2⟩
  clear B1 c0 c1 c2 c3 c4 c5 c6 c7 c8 c9 c10
  have C2 := B2.cells
  have s3 := bg_set (B2.stay (Keeps.refl _ (fun _ => False)).drew) 5 (by omega) mo hmo
  rw [show ((5 : Nat) : Int) = 5 from rfl] at s3
  go_wp2_with fail
  go_region_held3 (fun w' => w'.cell? ⟨w.heap.size, 0, none⟩ = some (.pointer (some ⟨p, 0, none⟩)) ∧ w'.cell? ⟨w.heap.size, 1, none⟩ = some (.int .i64 l.k) ∧ w'.cell? ⟨w.heap.size, 2, none⟩ = some (.int .i64 l.e) ∧ w'.cell? ⟨w.heap.size, 3, none⟩ = some (.int .i64 l.a) ∧ w'.cell? ⟨w.heap.size, 4, none⟩ = some (.int .i64 l.b) ∧ w'.cell? ⟨w.heap.size, 5, none⟩ = some (.int .i64 l.c) ∧ w'.cell? ⟨w.heap.size, 6, none⟩ = some (.int .i64 l.eo) ∧ w'.cell? ⟨w.heap.size, 7, none⟩ = some (.int .i64 l.bo) ∧ w'.cell? ⟨w.heap.size, 8, none⟩ = some (.int .i64 l.s) ∧ w'.cell? ⟨w.heap.size, 9, none⟩ = some (.int .i64 l.g) ∧ w'.cell? ⟨w.heap.size, 10, none⟩ = some (.int .i64 off)) (first | exact c11_drew C2 | exact B3.cells | assumption)
    (first | (go_at_call 66; refine (hM' _).mono ?_; rintro r wS ⟨rfl, rfl⟩) | (go_at_call 74; (with_reducible refine s3.mono ?_); rintro r W3 ⟨rfl, B3⟩))
  clear C2 B2 s3
  obtain ⟨c0, c1, c2, c3, c4, c5, c6, c7, c8, c9, c10⟩ := B3.cells
  go_wp2_with fail
  have s0 := bg_set B3 6 (by omega) depth hd
  rw [show ((6 : Nat) : Int) = 6 from rfl] at s0
  (with_reducible refine s0.mono ?_)
  clear s0
  rintro r W4 ⟨rfl, B4⟩
  clear B3 c0 c1 c2 c3 c4 c5 c6 c7 c8 c9 c10
  obtain ⟨c0, c1, c2, c3, c4, c5, c6, c7, c8, c9, c10⟩ := B4.cells
  go_wp2_with fail
  have s0 := bg_set B4 7 (by omega) (gr : Int) hgr
  rw [show ((7 : Nat) : Int) = 7 from rfl] at s0
  (with_reducible refine s0.mono ?_)
  clear s0
  rintro r W5 ⟨rfl, B5⟩
  clear B4 c0 c1 c2 c3 c4 c5 c6 c7 c8 c9 c10
  rw [hf9.out] at B5
  go_wp2_with fail
  go_loopg [26] G (fun g v26 wr => ∃ i : Nat, g = G - i ∧ i ≤ G ∧ v26 = .int .i64 (i : Int) ∧ Bg d0 W0 wr p F w.heap.size l off gr G i f9)
  case atStart => exact ⟨0, rfl, Nat.zero_le _, rfl, B5⟩
  case round =>
    clear B5
    obtain ⟨i, rfl, hi, rfl, Bi⟩ := hrel
    by_cases hlt : i < G
    · have hlt' : (i : Int) < (G : Int) := by omega
      obtain ⟨c0, c1, c2, c3, c4, c5, c6, c7, c8, c9, c10⟩ := Bi.cells
      go_wp2_with fail
      (with_reducible refine (hGrp i hlt _).mono ?_)
      rintro r w6 ⟨rfl, k6⟩
      have B6 := Bi.stay k6
      clear Bi c0 c1 c2 c3 c4 c5 c6 c7 c8 c9 c10
      go_wp2_with fail
      (with_reducible refine (bg_reset B6 hlt).mono ?_)
      rintro r w7 ⟨rfl, B7⟩
      clear B6
      go_wp2_with fail
      go_roundg (G - (i + 1))
      case measure => omega
      case rel => exact ⟨i + 1, rfl, by omega, by simp, B7⟩
    · obtain rfl : i = G := by omega
      have hlt' : ¬ (i : Int) < (i : Int) := by omega
      have HF := hide (hfin.out wr f9 rfl Bi)
      clear Bi hfin
      go_wp2_with fail
      go_end0
      exact ⟨⟨_, rfl⟩, HF.out⟩
end Go.Proofs.YtgckinldnnckoaaGreatDoor
/-
  A new table's two blocks, as data.
-/
namespace Go.Proofs.YtgckinldnnckoaaGreatDoor
open Go.RowKit Go.Shelf Ly Ct
set_option linter.unusedVariables false

theorem numOf_zeros : ∀ n : Nat, numOf (zeros n) = 0
  | 0 => rfl
  | n + 1 => by
    have e : zeros (n + 1) = 0 :: zeros n := rfl
    rw [e]
    simp [numOf, numOf_zeros n]
theorem drop_zeros (a n k m : Nat) (bs : List UInt8) (h : bs.length ≤ a) (h2 : a + m ≤ bs.length + n) : ((bs ++ zeros n).drop a).take m = zeros m := by
  apply List.ext_getElem?
  intro j
  simp only [List.getElem?_take, List.getElem?_drop]
  unfold zeros
  split
  · rw [List.getElem?_append_right (by omega), List.getElem?_replicate, List.getElem?_replicate, if_pos (by omega), if_pos (by omega)]
  · rw [List.getElem?_replicate, if_neg (by omega)]
/-- Two new blocks of zeros: a table under way. -/
theorem newP {d : AD} {l : Lay} {G c : Nat} (hF : d.Fine) (hv : validB l = true) (hG : 0 < G) (hG2 : G ≤ 8192) (hc : G * l.g.toNat ≤ c) (hr : d.bs.length + 64 + c ≤ 134217728) (hu : d.used + 64 + c ≤ d.limit) :
    TabP ((d.took 64).took c) ((d.took 64).took c) l d.bs.length (d.bs.length + 64) G 0 (fun _ => 0) := by
  have hvm := valid_more hv
  have hg0 : 0 < l.g.toNat := by omega
  have hc0 : 0 < c := Nat.lt_of_lt_of_le (Nat.mul_pos hG hg0) hc
  have hF1 : (d.took 64).Fine := hF.took (by omega) (by omega) (by omega)
  have hl1 : (d.took 64).bs.length = d.bs.length + 64 := by rw [AD.took_bs, List.length_append, zeros_length]
  have hF2 : ((d.took 64).took c).Fine := hF1.took hc0 (by omega) (by rw [AD.took_used, AD.took_limit]; omega)
  have hbs : ((d.took 64).took c).bs = d.bs ++ zeros (64 + c) := by
    rw [AD.took_bs, AD.took_bs, List.append_assoc]
    congr 1
    unfold zeros
    rw [List.replicate_append_replicate]
  have hlen : ((d.took 64).took c).bs.length = d.bs.length + 64 + c := by rw [hbs, List.length_append, zeros_length]; omega
  have hL : ((d.took 64).took c).L = d.L ++ [(d.bs.length, 64)] ++ [(d.bs.length + 64, c)] := by rw [AD.took_L, AD.took_L, hl1]
  have hlv : ((d.took 64).took c).lv = upd (upd d.lv (d.bs.length : Nat) (some ((64 : Nat) : Int))) ((d.bs.length + 64 : Nat) : Int) (some (c : Int)) := by rw [AD.took_lv, AD.took_lv, hl1]
  have hv1 : ((d.took 64).took c).lv (d.bs.length : Int) = some 64 := by
    rw [hlv, upd_other _ _ _ _ (by omega), upd_same]
    rfl
  have hv2 : ((d.took 64).took c).lv ((d.bs.length + 64 : Nat) : Int) = some (c : Int) := by rw [hlv, upd_same]
  have m1 : (d.bs.length, 64) ∈ ((d.took 64).took c).L := by rw [hL]; simp
  have m2 : (d.bs.length + 64, c) ∈ ((d.took 64).took c).L := by rw [hL]; simp
  refine ⟨hF2, hv, hG, hG2, AD.goodB_mk m1 hv1 (by omega) (by simp) (by simp), by omega, by omega, fun i hi => ?_, fun i hi => ?_, fun i hi => by omega, Nat.zero_le _, Or.inl (Nat.le_refl _), Alt.refl _ _ _ _⟩
  · unfold hdr AD.span
    rw [hbs, show ((d.bs.length : Int) + (i : Int) * 8).toNat = d.bs.length + i * 8 by omega, show (8 : Int).toNat = 8 from rfl, drop_zeros _ _ 0 _ _ (by omega) (by omega), numOf_zeros]
    unfold wrap64
    omega
  · have := mul_apart (s := l.g.toNat) hi
    exact AD.goodB_mk m2 hv2 (by omega) (by show ((d.bs.length + 64 : Nat) : Int) ≤ ((d.bs.length + 64 + i * l.g.toNat : Nat) : Int); omega) (by show ((d.bs.length + 64 + i * l.g.toNat : Nat) : Int) - ((d.bs.length + 64 : Nat) : Int) ≤ (c : Int) - l.g; omega)
end Go.Proofs.YtgckinldnnckoaaGreatDoor
/-
  small: New.
-/
namespace Go.Proofs.YtgckinldnnckoaaGreatDoor
open Go.RowKit Go.Shelf Ly Ct
set_option linter.unusedVariables false
/-- A new one's header. -/
def hdS : Nat → Int := fun i => if i = 0 then 1 else 0
/-- A new block of zeros, its first word laid: what is left is its group. -/
theorem snew_data {d : AD} {l : Lay} {c : Nat} (hF : d.Fine) (hv : validB l = true) (hc : 32 + l.g.toNat ≤ c) (hr : d.bs.length + c ≤ 134217728) (hu : d.used + c ≤ d.limit) :
    (d.took c).Fine ∧ storeR (d.took c) ((d.bs.length : Nat) : Int) 8 (u64of 1) = (0, (d.took c).bytes (splice (d.took c).bs d.bs.length (leBytes (u64of 1) 8))) ∧ Touch (d.took c) ((d.took c).bytes (splice (d.took c).bs d.bs.length (leBytes (u64of 1) 8))) d.bs.length 32 ∧ thereB ((d.took c).bytes (splice (d.took c).bs d.bs.length (leBytes (u64of 1) 8))) l ((d.bs.length + 32 : Nat) : Int) = true ∧
    ∀ d3, Touch ((d.took c).bytes (splice (d.took c).bs d.bs.length (leBytes (u64of 1) 8))) d3 (d.bs.length + 32) l.g.toNat → GroupAt d3 l (d.bs.length + 32) (fun _ => GC.zero) → SmD d3 l d.bs.length hdS (fun _ => GC.zero) := by
  have hvm := valid_more hv
  have hF1 : (d.took c).Fine := hF.took (by omega) (by omega) (by omega)
  have hbs : (d.took c).bs = d.bs ++ zeros c := AD.took_bs _ _
  have hlen : (d.took c).bs.length = d.bs.length + c := by rw [hbs, List.length_append, zeros_length]
  have hv1 : (d.took c).lv (d.bs.length : Int) = some (c : Int) := by rw [AD.took_lv, upd_same]
  have m1 : (d.bs.length, c) ∈ (d.took c).L := by rw [AD.took_L]; simp
  have hg32 : (d.took c).goodB (d.bs.length : Int) 32 = true := AD.goodB_mk m1 hv1 (by omega) (by simp) (by simp; omega)
  have hg8 : (d.took c).goodB (d.bs.length : Int) 8 = true := AD.goodB_mk m1 hv1 (by omega) (by simp) (by simp; omega)
  have hgg : (d.took c).goodB ((d.bs.length + 32 : Nat) : Int) l.g = true := AD.goodB_mk m1 hv1 (by omega) (by omega) (by omega)
  have hll : d.bs.length + (leBytes (u64of 1) 8).length ≤ (d.took c).bs.length := by rw [leBytes_length]; omega
  have ht : Touch (d.took c) ((d.took c).bytes (splice (d.took c).bs d.bs.length (leBytes (u64of 1) 8))) d.bs.length 32 := Touch.splice (d.took c) (Nat.le_refl _) (by rw [leBytes_length]; omega) hll
  have hz : ∀ i, i < 4 → hdr (d.took c) d.bs.length i = 0 := fun i hi => by
    unfold hdr AD.span
    rw [hbs, show ((d.bs.length : Int) + (i : Int) * 8).toNat = d.bs.length + i * 8 by omega, show (8 : Int).toNat = 8 from rfl, drop_zeros _ _ 0 _ _ (by omega) (by omega), numOf_zeros]
    unfold wrap64
    omega
  refine ⟨hF1, ?_, ht, ?_, fun d3 h3 hg => ⟨?_, ?_, fun i hi => ?_, hg⟩⟩
  · unfold storeR
    rw [hg8, Int.toNat_natCast]
    rfl
  · unfold thereB
    rw [hv, ht.goodB, hgg]
    rfl
  · rw [h3.goodB, ht.goodB]
    exact hg32
  · rw [h3.len, ht.len]
    omega
  · rw [hdr_touch4 h3 (Or.inl (Nat.le_refl _)) hi]
    have := hdr_set4 (d := d.took c) (off := d.bs.length) (by omega) (i := 0) (j := i) (by omega) hi (u64of 1)
    rw [Nat.zero_mul, Nat.add_zero] at this
    rw [this, hz i hi]
    unfold hdS
    by_cases e : i = 0
    · rw [if_pos e, if_pos e, Nat.mod_eq_of_lt (u64of_lt 1)]
      exact wrap_u64of (fitsI_mk (by omega) (by omega))
    · rw [if_neg e, if_neg e]
set_option maxRecDepth 100000 in
set_option maxHeartbeats 400000 in
theorem smat_any (p : Nat) (l : Lay) (off : Int) (w : World) : Calls Tryz.prog 57 #[.pointer (some ⟨p, 0, none⟩), .agg #[.int .i64 l.k, .int .i64 l.e, .int .i64 l.a, .int .i64 l.b, .int .i64 l.c, .int .i64 l.eo, .int .i64 l.bo, .int .i64 l.s, .int .i64 l.g], .int .i64 off] w fun e w' => e = .returned (.agg #[.pointer (some ⟨p, 0, none⟩), .int .i64 l.k, .int .i64 l.e, .int .i64 l.a, .int .i64 l.b, .int .i64 l.c, .int .i64 l.eo, .int .i64 l.bo, .int .i64 l.s, .int .i64 l.g, .int .i64 off]) ∧ Keeps w w' (fun _ => False) := by
  go_enter Tryz.func57, Tryz.ntmps57
  go_wp2_with fail
  refine bodyPost_ret (v := .agg #[.pointer (some ⟨p, 0, none⟩), .int .i64 l.k, .int .i64 l.e, .int .i64 l.a, .int .i64 l.b, .int .i64 l.c, .int .i64 l.eo, .int .i64 l.bo, .int .i64 l.s, .int .i64 l.g, .int .i64 off]) (by simp [results, Tryz.results57, go_sem]) rfl ⟨rfl, ?_⟩
  exact ((Keeps.refl _ _).alloc _).alloc _
/-- The two structs while New ends: the one that is answered, and the one in hand. -/
structure NW (w4 : World) (B1 B8 p : Nat) (l : Lay) (off : Int) (v0 v1 v2 v3 v4 v5 v6 v7 v8 v9 v10 : Value) (W : World) : Prop where
  b8 : W.heap[B8]? = some (.cells #[.pointer (some ⟨p, 0, none⟩), .int .i64 l.k, .int .i64 l.e, .int .i64 l.a, .int .i64 l.b, .int .i64 l.c, .int .i64 l.eo, .int .i64 l.bo, .int .i64 l.s, .int .i64 l.g, .int .i64 off] 41)
  b1 : W.heap[B1]? = some (.cells #[v0, v1, v2, v3, v4, v5, v6, v7, v8, v9, v10] 41)
  kp : Keeps w4 W (fun k => k = B1)
abbrev set11 (W : World) (B1 p : Nat) (l : Lay) (off : Int) : World := (((((((((((W.setCell ⟨B1, 0, none⟩ (.pointer (some ⟨p, 0, none⟩))).setCell ⟨B1, 1, none⟩ (.int .i64 l.k)).setCell ⟨B1, 2, none⟩ (.int .i64 l.e)).setCell ⟨B1, 3, none⟩ (.int .i64 l.a)).setCell ⟨B1, 4, none⟩ (.int .i64 l.b)).setCell ⟨B1, 5, none⟩ (.int .i64 l.c)).setCell ⟨B1, 6, none⟩ (.int .i64 l.eo)).setCell ⟨B1, 7, none⟩ (.int .i64 l.bo)).setCell ⟨B1, 8, none⟩ (.int .i64 l.s)).setCell ⟨B1, 9, none⟩ (.int .i64 l.g)).setCell ⟨B1, 10, none⟩ (.int .i64 off))
section
variable {w4 W W' : World} {B1 B8 p : Nat} {l : Lay} {off : Int} {v0 v1 v2 v3 v4 v5 v6 v7 v8 v9 v10 : Value}
theorem NW.keep (h : NW w4 B1 B8 p l off v0 v1 v2 v3 v4 v5 v6 v7 v8 v9 v10 W) (k : Keeps W W' (fun _ => False)) : NW w4 B1 B8 p l off v0 v1 v2 v3 v4 v5 v6 v7 v8 v9 v10 W' := ⟨k.blk h.b8, k.blk h.b1, h.kp.trans k (fun _ _ e => e.elim)⟩
theorem NW.set (h : NW w4 B1 B8 p l off v0 v1 v2 v3 v4 v5 v6 v7 v8 v9 v10 W) (hne : B8 ≠ B1) : NW w4 B1 B8 p l off (.pointer (some ⟨p, 0, none⟩)) (.int .i64 l.k) (.int .i64 l.e) (.int .i64 l.a) (.int .i64 l.b) (.int .i64 l.c) (.int .i64 l.eo) (.int .i64 l.bo) (.int .i64 l.s) (.int .i64 l.g) (.int .i64 off) (set11 W B1 p l off) :=
  eleven_set h.b1 (Keeps.refl W (fun i => i = B1)) (fun _ => rfl) (P := fun W9 => NW w4 B1 B8 p l off (.pointer (some ⟨p, 0, none⟩)) (.int .i64 l.k) (.int .i64 l.e) (.int .i64 l.a) (.int .i64 l.b) (.int .i64 l.c) (.int .i64 l.eo) (.int .i64 l.bo) (.int .i64 l.s) (.int .i64 l.g) (.int .i64 off) W9) fun w9 h9 k9 _ => ⟨(k9.block B8 (heap_lt h.b8) hne).trans h.b8, h9, h.kp.trans k9 (fun _ _ e => e)⟩
end
end Go.Proofs.YtgckinldnnckoaaGreatDoor
/-
  small: New, its walk.
-/
namespace Go.Proofs.YtgckinldnnckoaaGreatDoor
open Go.RowKit Go.Shelf Ly Ct
set_option linter.unusedVariables false
def SNewPost (d0 : AD) (w : World) (p : Nat) (F : Nat → Prop) (l : Lay) (off : Nat) (e : Ending) (w' : World) : Prop :=
  e = .returned (.tuple #[.agg #[.pointer (some ⟨p, 0, none⟩), .int .i64 l.k, .int .i64 l.e, .int .i64 l.a, .int .i64 l.b, .int .i64 l.c, .int .i64 l.eo, .int .i64 l.bo, .int .i64 l.s, .int .i64 l.g, .int .i64 (off : Int)], .int .i64 0]) ∧ ∃ d', Turned w w' p F d' ∧ d'.Fine ∧ SmD d' l off hdS (fun _ => GC.zero) ∧ Touch d0 d' off (32 + l.g.toNat)

theorem new_end {w w4 V w6 : World} {B1 p : Nat} {F F2 : Nat → Prop} {d3 : AD} (hk : Keeps w w4 F) (kp : Keeps w4 V (fun k => k = B1)) (hB : w.heap.size ≤ B1) (h : Turned V w6 p F2 d3) (h2 : ∀ k, F2 k → F k ∨ w.heap.size ≤ k) : Turned w w6 p F d3 :=
  ⟨h.1.mono (fun i _ q => q.elim (h2 i) (fun e => Or.inr (by have := hk.size; have := kp.size; omega))), (hk.trans kp (fun i hi e => by omega)).trans h.2 (fun i hi q => (h2 i q).elim id (fun e => by omega))⟩
theorem new_end2 {w w4 V w6 W9 : World} {B1 p : Nat} {F F2 : Nat → Prop} {d3 : AD} (hk : Keeps w w4 F) (kp : Keeps w4 V (fun k => k = B1)) (hB : w.heap.size ≤ B1) (h : Turned V w6 p F2 d3) (h2 : ∀ k, F2 k → F k ∨ w.heap.size ≤ k) (k9 : Keeps w6 W9 (fun k => k = B1)) (hB2 : B1 < V.heap.size) (hBF : ¬ F2 B1) : Turned w W9 p F d3 :=
  ⟨(h.1.keeps k9 (fun i _ q e => by
    subst e
    rcases q with q | q
    · exact hBF q
    · omega)).mono (fun i _ q => q.elim (h2 i) (fun e => Or.inr (by have := hk.size; have := kp.size; omega))), ((hk.trans kp (fun i hi e => by omega)).trans h.2 (fun i hi q => (h2 i q).elim id (fun e => by omega))).trans k9 (fun i hi e => by omega)⟩

set_option maxRecDepth 100000 in
set_option maxHeartbeats 8000000 in
theorem snew_yes {w : World} {p : Nat} {F : Nat → Prop} {d : AD} (hA : Arena w p F d) (hF : d.Fine) (hW : newG d) (hFl : ∀ k, F k → k < w.heap.size) (l : Lay) (hv : validB l = true) (c : Nat) (hc : classN (32 + l.g.toNat) = c) (hu : d.used + c ≤ d.limit) :
    Calls Tryz.prog 28 #[.pointer (some ⟨p, 0, none⟩), .agg #[.int .i64 l.k, .int .i64 l.e, .int .i64 l.a, .int .i64 l.b, .int .i64 l.c, .int .i64 l.eo, .int .i64 l.bo, .int .i64 l.s, .int .i64 l.g]] w fun e w' => SNewPost (d.took c) w p F l d.bs.length e w' := by
  have hvm := valid_more hv
  have hcl := class_le (32 + l.g.toNat) (by omega) (by omega)
  rw [hc] at hcl
  have hlm := hF.lim
  have hbl := hW.2
  obtain ⟨hF1, hSt, ht2, hth, hfin⟩ := snew_data (c := c) hF hv hcl.1 (by omega) hu
  have hoff : ((d.bs.length : Nat) : Int) ≤ 134217728 := by omega
  have HAl : Hid (∀ W, Keeps w W (fun _ => False) → Calls Tryz.prog 56 #[.pointer (some ⟨p, 0, none⟩), .int .i64 (32 + l.g)] W fun e w' => e = .returned (.tuple #[.int .i64 (d.bs.length : Int), .int .i64 0]) ∧ Turned W w' p F (d.took c)) := fun W k => by
    have := alloc_yes newOK (hA.keeps k (fun _ _ _ e => e)) (fun i hi => Nat.lt_of_lt_of_le (hFl i hi) k.size) hW hF (32 + l.g.toNat) (by omega) (by omega) (by rw [hc]; exact hu)
    rw [hc, show ((32 + l.g.toNat : Nat) : Int) = 32 + l.g by omega] at this
    exact this
  have HSe : Hid (∀ W (G : Nat → Prop), Arena W p G (d.took c) → (∀ k, G k → k < W.heap.size) → Calls Tryz.prog 48 #[.agg #[.pointer (some ⟨p, 0, none⟩), .int .i64 l.k, .int .i64 l.e, .int .i64 l.a, .int .i64 l.b, .int .i64 l.c, .int .i64 l.eo, .int .i64 l.bo, .int .i64 l.s, .int .i64 l.g, .int .i64 (d.bs.length : Int)], .int .i64 0, .int .i64 1] W fun e w' => e = .returned (.int .i64 0) ∧ Turned W w' p G ((d.took c).bytes (splice (d.took c).bs d.bs.length (leBytes (u64of 1) 8)))) := fun W G a b => by
    have := sset_any a hF1 b l (d.bs.length : Int) 0 1 (by omega) (by omega) (by omega) (by omega)
    rw [show ((d.bs.length : Nat) : Int) + 0 * 8 = (d.bs.length : Int) by omega, hSt] at this
    exact this
  have HRs : Hid (∀ W (G : Nat → Prop), Arena W p G ((d.took c).bytes (splice (d.took c).bs d.bs.length (leBytes (u64of 1) 8))) → (∀ k, G k → k < W.heap.size) → Calls Tryz.prog 58 #[.agg #[.pointer (some ⟨p, 0, none⟩), .int .i64 l.k, .int .i64 l.e, .int .i64 l.a, .int .i64 l.b, .int .i64 l.c, .int .i64 l.eo, .int .i64 l.bo, .int .i64 l.s, .int .i64 l.g, .int .i64 ((d.bs.length : Int) + 32)]] W fun e w' => e = .returned (.int .i64 0) ∧ ∃ d3, Turned W w' p G d3 ∧ d3.Fine ∧ SmD d3 l d.bs.length hdS (fun _ => GC.zero) ∧ Touch (d.took c) d3 d.bs.length (32 + l.g.toNat)) := fun W G a b => by
    have h0 := greset_any a (ht2.fine hF1) b l ((d.bs.length + 32 : Nat) : Int) (fitsI_mk (by omega) (by omega)) (fitsI_mk (by omega) (by omega))
    obtain ⟨r1, r2, r3⟩ := reset_group (ht2.fine hF1) hth
    rw [r1] at h0
    refine h0.mono ?_
    rintro e w' ⟨rfl, hT⟩
    exact ⟨rfl, _, hT, r3.fine (ht2.fine hF1), hfin _ r3 r2, (ht2.wide (Nat.le_refl _) (by omega)).trans (r3.wide (by omega) (by omega))⟩
  have hG := fun W => sgroup_any p l (d.bs.length : Int) W (by omega) (by omega)
  have hAt := fun W => smat_any p l (d.bs.length : Int) W
  have HFl := hide hFl
  have hw1 : wrap64 (32 + l.g) = 32 + l.g := by unfold wrap64; omega
  have hw2 : IntKind.i64.wrap (32 + l.g) = 32 + l.g := by rw [IntKind.wrap_i64]; omega
  unfold SNewPost
  generalize (d.took c).bytes (splice (d.took c).bs d.bs.length (leBytes (u64of 1) 8)) = d2 at *
  generalize d.took c = D1 at *
  generalize d.bs.length = off at *
  clear hA hF hW hvm hv hcl hlm hbl hF1 hSt ht2 hth hfin hoff hu hc hFl
  go_enter Tryz.func28, Tryz.ntmps28
  go_wp2_with fail
  refine alloc2 (P := fun W => Calls _ _ _ W _) fun W0 hb hr hz K0 => ?_
  (with_reducible refine (HAl.out _ K0).mono ?_)
  rintro r w1 ⟨rfl, hT1⟩
  have hnb : ¬ F w.heap.size := fun q => by have := HFl.out _ q; omega
  have hnr : ¬ F (w.heap.size + 1) := fun q => by have := HFl.out _ q; omega
  have hb1 := (hT1.2.block w.heap.size (heap_lt hb) hnb).trans hb
  have hr1 := (hT1.2.block (w.heap.size + 1) (heap_lt hr) hnr).trans hr
  have n0 : w1.cell? ⟨w.heap.size, 0, none⟩ = some (.int .i64 l.k) := by simp [World.cell?, hb1]
  have n1 : w1.cell? ⟨w.heap.size, 1, none⟩ = some (.int .i64 l.e) := by simp [World.cell?, hb1]
  have n2 : w1.cell? ⟨w.heap.size, 2, none⟩ = some (.int .i64 l.a) := by simp [World.cell?, hb1]
  have n3 : w1.cell? ⟨w.heap.size, 3, none⟩ = some (.int .i64 l.b) := by simp [World.cell?, hb1]
  have n4 : w1.cell? ⟨w.heap.size, 4, none⟩ = some (.int .i64 l.c) := by simp [World.cell?, hb1]
  have n5 : w1.cell? ⟨w.heap.size, 5, none⟩ = some (.int .i64 l.eo) := by simp [World.cell?, hb1]
  have n6 : w1.cell? ⟨w.heap.size, 6, none⟩ = some (.int .i64 l.bo) := by simp [World.cell?, hb1]
  have n7 : w1.cell? ⟨w.heap.size, 7, none⟩ = some (.int .i64 l.s) := by simp [World.cell?, hb1]
  have n8 : w1.cell? ⟨w.heap.size, 8, none⟩ = some (.int .i64 l.g) := by simp [World.cell?, hb1]
  have HT1 := hide hT1
  have Hz := hide hz
  clear hb hr hb1 hT1 HAl hw1 hw2 hz
  go_wp2_with fail
  (with_reducible refine (hAt _).mono ?_)
  rintro r w2 ⟨rfl, k2⟩
  clear hAt n0 n1 n2 n3 n4 n5 n6 n7 n8
  go_upto_region 5 with fail
  refine alloc1 (P := fun W => Code.wp _ _ _ _ W) fun W3 hb8 hz8 k8 => ?_
  have k13 : Keeps w1 W3 (fun _ => False) := k2.trans k8 (fun _ _ e => e)
  have hr3 := k13.blk hr1
  have hS3 := HSe.out W3 _ (HT1.out.arena.keeps k13 (fun _ _ _ e => e)) (fun k q => Nat.lt_of_lt_of_le q.2 k13.size)
  obtain ⟨c0, c1, c2, c3, c4, c5, c6, c7, c8, c9, c10⟩ := c11_of hb8
  have HB := hide (And.intro hb8 (And.intro hr3 (And.intro k13 (And.intro k2.size (heap_lt hb8)))))
  clear HSe hb8 hz8 k8 k2 hr1 k13 hr3
  obtain ⟨B8, hB8⟩ : ∃ B8, w2.heap.size = B8 := ⟨_, rfl⟩
  rw [hB8] at HB c0 c1 c2 c3 c4 c5 c6 c7 c8 c9 c10 ⊢
  clear hB8
  go_wp2_with fail
  (with_reducible refine hS3.mono ?_)
  rintro r w4 ⟨rfl, hT2⟩
  obtain ⟨hb8, hr3, k13, h12, hlt8⟩ := HB.out
  have hn8 : ¬ ((F B8 ∨ W0.heap.size ≤ B8) ∧ B8 < w1.heap.size) := fun q => by have := q.2; omega
  have hn1 : ¬ ((F (w.heap.size + 1) ∨ W0.heap.size ≤ w.heap.size + 1) ∧ w.heap.size + 1 < w1.heap.size) := fun q => by
    have := Hz.out
    rcases q.1 with e | e
    · exact hnr e
    · omega
  have N4 : NW w4 (w.heap.size + 1) B8 p l (off : Int) _ _ _ _ _ _ _ _ _ _ _ w4 := ⟨(hT2.2.block B8 (heap_lt hb8) hn8).trans hb8, (hT2.2.block _ (heap_lt hr3) hn1).trans hr3, Keeps.refl _ _⟩
  have hne : B8 ≠ w.heap.size + 1 := by
    have a := HT1.out.2.size
    have b := Hz.out
    omega
  have HT2 := hide hT2
  have HN4 := hide (N4.keep ((Keeps.refl w4 (fun _ => False)).drew))
  have HN5 := hide ((N4.set hne).keep ((Keeps.refl _ (fun _ => False)).drew))
  have hF2 : Hid ((¬ ((((F B8 ∨ W0.heap.size ≤ B8) ∧ B8 < w1.heap.size) ∨ W3.heap.size ≤ B8) ∧ B8 < w4.heap.size)) ∧ ¬ ((((F (w.heap.size + 1) ∨ W0.heap.size ≤ w.heap.size + 1) ∧ w.heap.size + 1 < w1.heap.size) ∨ W3.heap.size ≤ w.heap.size + 1) ∧ w.heap.size + 1 < w4.heap.size)) := ⟨fun q => q.1.elim hn8 (fun e => by omega), fun q => q.1.elim hn1 (fun e => by have := heap_lt hr3; omega)⟩
  have HA4 := hide hT2.arena
  have HKW : Hid (Keeps w w4 F) := ((((K0.mono (fun _ _ e => e.elim)).trans HT1.out.2 (fun _ _ e => e)).trans k13 (fun _ _ e => e.elim)).trans hT2.2 (fun i hi q => by
    rcases q.1 with e | e
    · exact e
    · have := Hz.out; omega))
  obtain ⟨c0, c1, c2, c3, c4, c5, c6, c7, c8, c9, c10⟩ := c11_of N4.b8
  obtain ⟨⟨d0, d1, d2', d3, d4, d5, d6, d7, d8, d9, d10⟩, f0, f1, f2, f3, f4, f5, f6, f7, f8, f9, f10⟩ := eleven_cells N4.b1
  have S5 := c11_of (N4.set hne).b8
  obtain ⟨s0, s1, s2, s3, s4, s5, s6, s7, s8, s9, s10⟩ := S5
  have H2 : Hid (∀ k, ((((F k ∨ W0.heap.size ≤ k) ∧ k < w1.heap.size) ∨ W3.heap.size ≤ k) ∧ k < w4.heap.size) → F k ∨ w.heap.size ≤ k) := fun k q => by
    have a := K0.size
    have b := HT1.out.2.size
    have e := k13.size
    rcases q.1 with ⟨q1 | q1, -⟩ | q1
    · exact Or.inl q1
    · exact Or.inr (by omega)
    · exact Or.inr (by omega)
  have HLt : Hid (w.heap.size + 1 < w4.heap.size) := heap_lt N4.b1
  have HR4 : Hid (∀ V v0 v1 v2 v3 v4 v5 v6 v7 v8 v9 v10, NW w4 (w.heap.size + 1) B8 p l (off : Int) v0 v1 v2 v3 v4 v5 v6 v7 v8 v9 v10 V → Calls Tryz.prog 58 #[.agg #[.pointer (some ⟨p, 0, none⟩), .int .i64 l.k, .int .i64 l.e, .int .i64 l.a, .int .i64 l.b, .int .i64 l.c, .int .i64 l.eo, .int .i64 l.bo, .int .i64 l.s, .int .i64 l.g, .int .i64 ((off : Int) + 32)]] V fun e w' => e = .returned (.int .i64 0) ∧ NW w4 (w.heap.size + 1) B8 p l (off : Int) v0 v1 v2 v3 v4 v5 v6 v7 v8 v9 v10 V ∧ ∃ d3, Turned V w' p (fun k => ((((F k ∨ W0.heap.size ≤ k) ∧ k < w1.heap.size) ∨ W3.heap.size ≤ k) ∧ k < w4.heap.size)) d3 ∧ d3.Fine ∧ SmD d3 l off hdS (fun _ => GC.zero) ∧ Touch D1 d3 off (32 + l.g.toNat)) := fun V v0 v1 v2 v3 v4 v5 v6 v7 v8 v9 v10 N => by
    refine (HRs.out V _ (HA4.out.keeps N.kp (fun i _ q e => by subst e; exact hF2.out.2 q)) (fun k q => Nat.lt_of_lt_of_le q.2 N.kp.size)).mono ?_
    rintro e w' ⟨rfl, r⟩
    exact ⟨rfl, N, r⟩
  clear N4 hT2 hb8 hr3 k13 h12 hlt8 hn8 hn1 HB hS3 HRs HA4
  go_wp2_with fail
  go_region_with (first
    | (go_at_call 49; (with_reducible refine (hG _).mono ?_); rintro r wG ⟨rfl, kG⟩; (first | (with_reducible have NG := HN4.out.keep kG) | (with_reducible have NG := HN5.out.keep kG)); obtain ⟨c0, c1, c2, c3, c4, c5, c6, c7, c8, c9, c10⟩ := c11_of NG.b8; obtain ⟨⟨d0, d1, d2', d3, d4, d5, d6, d7, d8, d9, d10⟩, f0, f1, f2, f3, f4, f5, f6, f7, f8, f9, f10⟩ := eleven_cells NG.b1)
    | (go_at_call 58; (first | (with_reducible refine (HR4.out _ _ _ _ _ _ _ _ _ _ _ _ NG).mono ?_) | (with_reducible refine (HR4.out _ _ _ _ _ _ _ _ _ _ _ _ (NG.set hne)).mono ?_)); rintro r w6 ⟨rfl, NV, d3, hT3, hF3, hS3, hto3⟩; have b86 := (hT3.2.block B8 (heap_lt NV.b8) hF2.out.1).trans NV.b8; have b16 := (hT3.2.block _ (heap_lt NV.b1) hF2.out.2).trans NV.b1; obtain ⟨c0, c1, c2, c3, c4, c5, c6, c7, c8, c9, c10⟩ := c11_of b86; obtain ⟨⟨d0, d1, d2', d3', d4, d5, d6, d7, d8, d9, d10⟩, f0, f1, f2, f3, f4, f5, f6, f7, f8, f9, f10⟩ := eleven_cells b16))
  all_goals (
    have HE := hide (And.intro hF3 (And.intro hS3 hto3))
    have HTT := hide (fun (W9 : World) (k9 : Keeps w6 W9 (fun k => k = w.heap.size + 1)) => new_end2 HKW.out NV.kp (Nat.le_succ _) hT3 H2.out k9 (heap_lt NV.b1) hF2.out.2)
    clear hF3 hS3 hto3 hT3 NV NG b86
    go_wp2_with fail
    refine eleven_set b16 (Keeps.refl w6 (fun i => i = w.heap.size + 1)) (fun _ => rfl) (P := fun w9 => bodyPost _ _ _ _ _ w9) fun w9 h9 k9 _ => ?_
    obtain ⟨⟨e0, e1, e2, e3, e4, e5, e6, e7, e8, e9, e10⟩, -⟩ := eleven_cells h9
    exact bodyPost_ret (v := .tuple #[.agg #[.pointer (some ⟨p, 0, none⟩), .int .i64 l.k, .int .i64 l.e, .int .i64 l.a, .int .i64 l.b, .int .i64 l.c, .int .i64 l.eo, .int .i64 l.bo, .int .i64 l.s, .int .i64 l.g, .int .i64 (off : Int)], .int .i64 0]) (by simp [results, Tryz.results28, go_sem, e0, e1, e2, e3, e4, e5, e6, e7, e8, e9, e10]) rfl ⟨rfl, d3, HTT.out _ k9, HE.out.1, HE.out.2.1, HE.out.2.2⟩)
end Go.Proofs.YtgckinldnnckoaaGreatDoor
