/-
  The classes of blocks, as plain numbers. Nothing here names the program.
-/
import Derived.WalkKit
namespace Go.Proofs.Ytmfmiaiijepgdaa

def least (n : Nat) : List Nat → Nat
  | [] => 0
  | c :: r => if n ≤ c then c else least n r
def classList : List Nat := [16, 32, 48, 64, 96, 128, 192, 256, 384, 512, 768, 1024, 1536, 2048, 3072, 4096, 6144, 8192, 12288, 16384, 24576, 32768, 49152, 65536, 98304, 131072, 196608, 262144, 393216, 524288, 786432, 1048576]
/-- The least class of n bytes or more. -/
def classN (n : Nat) : Nat := least n classList
/-- Each class and the one below it. -/
def classPairs : List (Nat × Nat) := classList.zip (0 :: classList)

theorem least_spec (n : Nat) : ∀ (l : List Nat) (b : Nat), b < n → (∃ c ∈ l, n ≤ c) → ∃ x ∈ l.zip (b :: l), least n l = x.1 ∧ x.2 < n ∧ n ≤ x.1
  | [], _, _, h => by obtain ⟨c, hc, _⟩ := h; cases hc
  | c :: r, b, hb, h => by
    by_cases hn : n ≤ c
    · exact ⟨(c, b), by simp, by simp [least, hn], hb, hn⟩
    · have h' : ∃ d ∈ r, n ≤ d := by
        obtain ⟨d, hd, hnd⟩ := h
        rcases List.mem_cons.1 hd with rfl | hd
        · exact absurd hnd hn
        · exact ⟨d, hd, hnd⟩
      obtain ⟨x, hx, h1, h2, h3⟩ := least_spec n r c (by omega) h'
      exact ⟨x, by simp [hx], by simp [least, hn, h1], h2, h3⟩
theorem class_spec (n : Nat) (h1 : 1 ≤ n) (h2 : n ≤ 1048576) : ∃ x ∈ classPairs, classN n = x.1 ∧ x.2 < n ∧ n ≤ x.1 :=
  least_spec n classList 0 (by omega) ⟨1048576, by decide, h2⟩

/-- The power that the loop ends at, and what is made of it. -/
def fromPow (n p : Nat) : Nat := if n ≤ p / 4 * 3 ∧ p / 4 * 3 % 16 = 0 then p / 4 * 3 else p
theorem pairs_pow : ∀ x ∈ classPairs, ∃ j, j < 17 ∧ x.2 < 16 * 2 ^ j ∧ x.1 ≤ 16 * 2 ^ j ∧ (j = 0 ∨ 8 * 2 ^ j ≤ x.2) ∧ ((x.1 = 16 * 2 ^ j / 4 * 3 ∧ 16 * 2 ^ j / 4 * 3 % 16 = 0) ∨ (x.1 = 16 * 2 ^ j ∧ (16 * 2 ^ j / 4 * 3 % 16 = 0 → 16 * 2 ^ j / 4 * 3 ≤ x.2))) := by decide
theorem pow_mono {i j : Nat} (h : i < j) : 2 * 2 ^ i ≤ 2 ^ j := by
  have : 2 ^ (i + 1) ≤ 2 ^ j := Nat.pow_le_pow_right (by omega) h
  rw [Nat.pow_succ] at this
  omega
theorem class_exit (n j : Nat) (h1 : 1 ≤ n) (h2 : n ≤ 1048576) (hn : n ≤ 16 * 2 ^ j) (hj : j = 0 ∨ 8 * 2 ^ j < n) : fromPow n (16 * 2 ^ j) = classN n := by
  obtain ⟨x, hx, hc, hb, hle⟩ := class_spec n h1 h2
  obtain ⟨i, _, p1, p2, p3, p4⟩ := pairs_pow x hx
  have hij : i = j := by
    rcases Nat.lt_trichotomy i j with h | h | h
    · have := pow_mono h
      omega
    · exact h
    · have := pow_mono h
      have : 1 ≤ 2 ^ i := Nat.one_le_two_pow
      omega
  subst hij
  rw [hc]
  unfold fromPow
  rcases p4 with ⟨e1, e2⟩ | ⟨e1, e2⟩
  · rw [if_pos ⟨by omega, e2⟩, e1]
  · rw [if_neg (fun h => by have := e2 h.2; omega), e1]

/-- What is left of m when it is halved while it is even. -/
def oddP : Nat → Nat → Nat
  | 0, m => m
  | f + 1, m => if m % 2 = 0 then oddP f (m / 2) else m
theorem oddP_end {f m : Nat} (h0 : 1 ≤ m) (h : m < 2 ^ f) (ho : m % 2 ≠ 0) : oddP f m = m := by
  cases f with
  | zero => simp at h; omega
  | succ f => simp [oddP, ho]
theorem oddP_step {f m : Nat} (h0 : 1 ≤ m) (h : m < 2 ^ f) (ho : m % 2 = 0) : ∃ f', 1 ≤ m / 2 ∧ m / 2 < 2 ^ f' ∧ oddP f' (m / 2) = oddP f m := by
  cases f with
  | zero => simp at h; omega
  | succ f =>
    refine ⟨f, by omega, ?_, by simp [oddP, ho]⟩
    rw [Nat.pow_succ] at h
    omega
/-- The class below c, as the statement reckons it. -/
def belowC (c : Nat) : Nat := if c = 16 then 0 else if c = 32 then 16 else if oddP 17 (c / 16) = 3 then c / 3 * 2 else c / 4 * 3
theorem pairs_facts : ∀ x ∈ classPairs, 16 ≤ x.1 ∧ x.1 ≤ 1048576 ∧ x.1 % 16 = 0 ∧ x.1 / 16 < 2 ^ 17 ∧ (oddP 17 (x.1 / 16) = 1 ∨ oddP 17 (x.1 / 16) = 3) ∧ belowC x.1 = x.2 ∧ classN x.1 = x.1 ∧ (x.2 = 0 ∨ (1 ≤ x.2 ∧ classN x.2 = x.2)) ∧ classN (x.2 + 1) = x.1 := by decide
theorem class_le (n : Nat) (h1 : 1 ≤ n) (h2 : n ≤ 1048576) : n ≤ classN n ∧ 16 ≤ classN n ∧ classN n ≤ 1048576 ∧ classN n % 16 = 0 := by
  obtain ⟨x, hx, hc, _, hle⟩ := class_spec n h1 h2
  obtain ⟨a, b, c, _⟩ := pairs_facts x hx
  rw [hc]
  exact ⟨hle, a, b, c⟩
theorem class_class (n : Nat) (h1 : 1 ≤ n) (h2 : n ≤ 1048576) : classN (classN n) = classN n := by
  obtain ⟨x, hx, hc, _, hle⟩ := class_spec n h1 h2
  obtain ⟨_, _, _, _, _, _, d, _⟩ := pairs_facts x hx
  rw [hc, d]
/-- Class at whatever number. -/
def classI (n : Int) : Int := if 1 ≤ n ∧ n ≤ 1048576 then (classN n.toNat : Int) else 0
end Go.Proofs.Ytmfmiaiijepgdaa
