/-
  code: the reference's numbers, rows.
-/
import Derived.Test.YtnicbillhlhmmaaDoorCW13
namespace Go.Proofs.YtnicbillhlhmmaaDoor
namespace Cw
open Go.RowKit
set_option linter.unusedVariables false
theorem sB_app (a b : Bs) : sB a ++ sB b = sB (a ++ b) := by
  apply ByteArray.ext
  simp [sB]
theorem last_val {u : Nat} (h : u < 10) : ((UInt8.ofNat (48 + u)).toNat : Int) = 48 + (u : Int) := by
  rw [UInt8.toNat_ofNat']
  omega
theorem neg_parts {n : Int} (hn : Fit n) (h0 : n < 0) : IntKind.u64.wrap (wrap64 (-wrap64 (n.tdiv 10))) = ((n.natAbs / 10 : Nat) : Int) ∧ wrap64 (48 - n.tmod 10) % 256 = ((UInt8.ofNat (48 + n.natAbs % 10)).toNat : Int) ∧ n.natAbs / 10 < 18446744073709551616 := by
  obtain ⟨h1, h2⟩ := hn
  have e1 : n.tdiv 10 = -((n.natAbs / 10 : Nat) : Int) := by
    obtain ⟨k, rfl⟩ : ∃ k : Nat, n = -(k : Int) := ⟨n.natAbs, by omega⟩
    rw [Int.neg_tdiv, Int.natAbs_neg, Int.natAbs_natCast]
    congr 1
  have e2 : n.tmod 10 = -((n.natAbs % 10 : Nat) : Int) := by
    obtain ⟨k, rfl⟩ : ∃ k : Nat, n = -(k : Int) := ⟨n.natAbs, by omega⟩
    rw [Int.neg_tmod, Int.natAbs_neg, Int.natAbs_natCast]
    congr 1
  rw [e1, e2, last_val (Nat.mod_lt _ (by decide)), IntKind.wrap_u64]
  refine ⟨?_, ?_, by omega⟩
  · unfold wrap64
    omega
  · unfold wrap64
    omega
theorem pos_parts {n : Int} (hn : Fit n) (h0 : ¬ n < 0) : IntKind.u64.wrap (wrap64 (n.tdiv 10)) = ((n.toNat / 10 : Nat) : Int) ∧ 48 + n % 10 = ((UInt8.ofNat (48 + n.toNat % 10)).toNat : Int) ∧ n.toNat / 10 < 18446744073709551616 := by
  obtain ⟨h1, h2⟩ := hn
  rw [last_val (Nat.mod_lt _ (by decide)), IntKind.wrap_u64, Int.tdiv_eq_ediv_of_nonneg (by omega)]
  refine ⟨?_, ?_, by omega⟩
  · unfold wrap64
    omega
  · omega
set_option maxRecDepth 100000 in
set_option maxHeartbeats 2000000 in
theorem decimal_any (n : Int) (hn : Fit n) (w : World) : Calls Tryd.prog 17 #[.int .i64 n] w fun e w' => e = .returned (.string (sB (Lib.itoa n))) ∧ Keeps w w' (fun _ => False) := by
  by_cases h0 : n < 0
  · obtain ⟨e1, e2, e3⟩ := neg_parts hn h0
    have hD := digits_any (n.natAbs / 10) e3 (UInt8.ofNat (48 + n.natAbs % 10)) w
    rw [← e1, ← e2, ← dec_decX] at hD
    have hI : Lib.itoa n = 45 :: Lib.decDigits n.natAbs := by unfold Lib.itoa; rw [if_pos h0]
    have hl := itoa_len n hn
    rw [hI] at hl ⊢
    have hsz : (sB (Lib.decDigits n.natAbs)).size ≤ 20 := by rw [sB_size]; simp at hl; omega
    have hap := sB_app [45] (Lib.decDigits n.natAbs)
    rw [show ([45] : Bs) ++ Lib.decDigits n.natAbs = 45 :: Lib.decDigits n.natAbs from rfl] at hap
    rw [← hap]
    have hone : sB [45] = ⟨#[45]⟩ := rfl
    rw [hone]
    clear e1 e2 e3 hI hn hl hap hone
    generalize sB (Lib.decDigits n.natAbs) = S at *
    go_enter Tryd.func17, Tryd.ntmps17
    go_wp2_with fail
    (with_reducible refine hD.mono ?_)
    rintro e w1 ⟨rfl, k1⟩
    have K1 := hide k1
    clear k1 hD
    go_wp2_with fail
    go_ret
    exact ⟨rfl, K1.out⟩
  · obtain ⟨e1, e2, e3⟩ := pos_parts hn h0
    have hD := digits_any (n.toNat / 10) e3 (UInt8.ofNat (48 + n.toNat % 10)) w
    rw [← e1, ← e2, ← dec_decX] at hD
    have hI : Lib.itoa n = Lib.decDigits n.toNat := by unfold Lib.itoa; rw [if_neg h0]
    rw [hI]
    clear e1 e2 e3 hI hn
    go_enter Tryd.func17, Tryd.ntmps17
    go_wp2_with fail
    (with_reducible refine hD.mono ?_)
    rintro e w1 ⟨rfl, k1⟩
    have K1 := hide k1
    clear k1 hD
    go_wp2_with fail
    go_ret
    exact ⟨rfl, K1.out⟩
end Cw
end Go.Proofs.YtnicbillhlhmmaaDoor
