/-
  script: the reference's decimal; numberText.
-/
import Derived.Test.YtpkbjjbbdhehdaaDoorSC3
namespace Go.Proofs.YtpkbjjbbdhehdaaDoor
open Go.RowKit
set_option linter.unusedVariables false

theorem decD_small {n : Nat} (h : n < 10) : Lib.decDigits n = [UInt8.ofNat (48 + n)] := by rw [Lib.decDigits, dif_pos h]
theorem decD_big {n : Nat} (h : ¬ n < 10) : Lib.decDigits n = Lib.decDigits (n / 10) ++ Lib.decDigits (n % 10) := by
  rw [Lib.decDigits, dif_neg h, decD_small (n := n % 10) (by omega)]

theorem dec_len (k : Nat) : ∀ n, n < 10 ^ (k + 1) → (Lib.decDigits n).length ≤ k + 1 := by
  induction k with
  | zero =>
    intro n h
    rw [decD_small (by simpa using h)]
    simp
  | succ k ih =>
    intro n h
    by_cases h10 : n < 10
    · rw [decD_small h10]
      simp
    · rw [decD_big h10, decD_small (n := n % 10) (by omega), List.length_append]
      have := ih (n / 10) (by rw [Nat.pow_succ] at h; omega)
      simp
      omega
theorem wr_big {k : Nat} (h : k < 9223372036854775808) : wrap64 (k : Int) = (k : Int) := by
  unfold wrap64
  omega
theorem strOf_size (x : List UInt8) : (strOf x).size = x.length := by simp [strOf, ByteArray.size]
theorem dec_size {n : Nat} (h : n < 9223372036854775808) : (strOf (Lib.decDigits n)).size ≤ 19 := by
  rw [strOf_size]
  exact dec_len 18 n (by omega)

set_option maxRecDepth 100000 in
set_option maxHeartbeats 2000000 in
theorem dec_nat (n : Nat) : n < 9223372036854775808 → ∀ w : World, Calls Tryd.prog 11 #[.int .i64 (n : Int)] w fun e w' => e = .returned (.string (strOf (Lib.decDigits n))) ∧ Keeps w w' (fun _ => False) := by
  induction n using Nat.strongRecOn with
  | _ n ih =>
    intro h63 w
    have m1 : ((n : Int) == -9223372036854775808) = false := beq_eq_false_iff_ne.2 (by omega)
    have m2 : ¬ (n : Int) < 0 := by omega
    by_cases h10 : n < 10
    · have h10' : (n : Int) < 10 := by omega
      rw [decD_small h10]
      have htx := run_text (w.alloc (.cells #[.int .u8 (48 + (n : Int))] 5)) ⟨w.heap.size, 0, none⟩ 1 1 [UInt8.ofNat (48 + n)] rfl (fun j hj => by
        obtain rfl : j = 0 := by simpa using hj
        rw [addr_add]
        have := heap_alloc_new w (.cells #[.int .u8 (48 + (n : Int))] 5)
        simp only [World.cell?, this]
        simp
        omega)
      generalize strOf [UInt8.ofNat (48 + n)] = S at *
      clear ih
      go_enter Tryd.func11, Tryd.ntmps11
      go_wp2_with fail
      go_ret
      exact ⟨rfl, (Keeps.refl _ _).alloc _⟩
    · have h10' : ¬ (n : Int) < 10 := by omega
      have a1 := ih (n / 10) (by omega) (by omega)
      have a2 := ih (n % 10) (by omega) (by omega)
      rw [show (((n / 10 : Nat)) : Int) = (n : Int) / 10 by omega] at a1
      rw [show (((n % 10 : Nat)) : Int) = (n : Int) % 10 by omega] at a2
      rw [decD_big h10, ← strOf_append]
      have z1 := dec_size (n := n / 10) (by omega)
      have z2 := dec_size (n := n % 10) (by omega)
      generalize strOf (Lib.decDigits (n / 10)) = S1 at *
      generalize strOf (Lib.decDigits (n % 10)) = S2 at *
      have hsum : S1.size + S2.size ≤ 9223372036854775807 := by omega
      have A1 := hide a1
      have A2 := hide a2
      clear a1 a2 ih
      go_enter Tryd.func11, Tryd.ntmps11
      go_wp2_with fail
      (with_reducible refine (A1.out _).mono ?_)
      rintro e w1 ⟨rfl, k1⟩
      go_wp2_with fail
      (with_reducible refine (A2.out _).mono ?_)
      rintro e w2 ⟨rfl, k2⟩
      go_wp2_with fail
      go_ret
      exact ⟨rfl, k1.trans k2 (fun _ _ e => e)⟩
set_option maxRecDepth 100000 in
set_option maxHeartbeats 2000000 in
theorem dec_any (n : Int) (h0 : -9223372036854775808 ≤ n) (h1 : n ≤ 9223372036854775807) (w : World) : Calls Tryd.prog 11 #[.int .i64 n] w fun e w' => e = .returned (.string (numD n)) ∧ Keeps w w' (fun _ => False) := by
  by_cases hn : n < 0
  · by_cases hm : n = -9223372036854775808
    · subst hm
      have hS : numD (-9223372036854775808) = ⟨#[45, 57, 50, 50, 51, 51, 55, 50, 48, 51, 54, 56, 53, 52, 55, 55, 53, 56, 48, 56]⟩ := by
        unfold numD Lib.itoa
        rw [if_pos (by decide)]
        apply ByteArray.ext
        have : ∀ k, Lib.decDigits k = Lib.decDigits k := fun _ => rfl
        show (strOf _).data = _
        simp only [strOf]
        rw [show Int.natAbs (-9223372036854775808) = 9223372036854775808 from rfl]
        simp [Lib.decDigits]
      rw [hS]
      go_enter Tryd.func11, Tryd.ntmps11
      go_wp2_with fail
      go_ret
      exact ⟨rfl, Keeps.refl _ _⟩
    · have m1 : (n == -9223372036854775808) = false := beq_eq_false_iff_ne.2 hm
      obtain ⟨k, rfl⟩ : ∃ k : Nat, n = -(k : Int) := ⟨n.natAbs, by omega⟩
      have a1 := dec_nat k (by omega)
      have hS : numD (-(k : Int)) = ⟨#[45]⟩ ++ strOf (Lib.decDigits k) := by
        unfold numD Lib.itoa
        rw [if_pos hn, show (-(k : Int)).natAbs = k by omega]
        exact (strOf_append [45] (Lib.decDigits k)).symm
      rw [hS]
      have z1 := dec_size (n := k) (by omega)
      generalize strOf (Lib.decDigits k) = S at *
      have hsum : 1 + S.size ≤ 9223372036854775807 := by omega
      have e1 := wr_big (k := k) (by omega)
      have A1 := hide a1
      clear a1 hS h0 h1 hm
      go_enter Tryd.func11, Tryd.ntmps11
      go_wp2_with fail
      (with_reducible refine (A1.out _).mono ?_)
      rintro e w1 ⟨rfl, k1⟩
      go_wp2_with fail
      go_ret
      exact ⟨rfl, k1⟩
  · obtain ⟨k, rfl⟩ : ∃ k : Nat, n = (k : Int) := ⟨n.toNat, by omega⟩
    have := dec_nat k (by omega) w
    unfold numD Lib.itoa
    rw [if_neg hn, Int.toNat_natCast]
    exact this
theorem num_size (n : Int) (h0 : -9223372036854775808 ≤ n) (h1 : n ≤ 9223372036854775807) : (numD n).size ≤ 20 := by
  unfold numD Lib.itoa
  rw [strOf_size]
  split
  · rw [List.length_cons]
    have := dec_len 19 n.natAbs (by omega)
    have h2 : n.natAbs < 10 ^ 19 := by omega
    have := dec_len 18 n.natAbs h2
    omega
  · have := dec_len 18 n.toNat (by omega)
    omega
end Go.Proofs.YtpkbjjbbdhehdaaDoor
