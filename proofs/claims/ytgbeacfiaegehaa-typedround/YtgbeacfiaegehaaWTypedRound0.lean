/-
  typed: TypedRound's walk. (genYR.py)
-/
import Derived.Test.YtgbeacfiaegehaaYH
import Derived.BigQuiet
import Derived.Laws.StructEq
namespace Go.Proofs.Ytgbeacfiaegehaa
open Go.RowKit
open Fl
set_option linter.unusedVariables false
namespace typedRound
theorem be8_size (n : Nat) : ((strOf (be 8 n)).size : Int) = 8 := by rw [strOf_size, be_length]; rfl
/-- What of a Pair is read. -/
def RdS (w w' : World) (p : PairD) : Prop := w'.cell? ⟨w.heap.size, 0, none⟩ = some (.int .i64 p.i) ∧ w'.cell? ⟨w.heap.size, 1, none⟩ = some (.int .i64 p.j) ∧ w'.cell? ⟨w.heap.size, 2, none⟩ = some (.int .u64 (p.u : Int)) ∧ w'.cell? ⟨w.heap.size, 4, none⟩ = some (.float .f64 p.f) ∧ w'.cell? ⟨w.heap.size, 6, none⟩ = some (.bool p.b) ∧ w'.cell? ⟨w.heap.size, 7, none⟩ = some (.bool p.c) ∧ w'.cell? ⟨w.heap.size, 8, none⟩ = some (.string p.s) ∧ Keeps w w' (fun _ => False)
theorem RdS.keep {w w1 w2 : World} {p : PairD} (h : RdS w w1 p) (k : Keeps w1 w2 (fun _ => False)) : RdS w w2 p := by
  obtain ⟨h0, h1, h2, h3, h4, h5, h6, h7⟩ := h
  exact ⟨kcell k h0, kcell k h1, kcell k h2, kcell k h3, kcell k h4, kcell k h5, kcell k h6, h7.trans k (fun _ _ x => x)⟩
theorem rdS_new (w : World) (p : PairD) : RdS w (w.alloc (.cells #[.int .i64 p.i, .int .i64 p.j, .int .u64 (p.u : Int), .int .u64 (p.v : Int), .float .f64 p.f, .float .f64 p.g, .bool p.b, .bool p.c, .string p.s, .string p.t] 25)) p := by
  obtain ⟨c0, c1, c2, -, c4, -, c6, c7, c8, -⟩ := pairAt_new w p
  exact ⟨c0, c1, c2, c4, c6, c7, c8, (Keeps.refl _ _).alloc _⟩
theorem tx_round {M : Nat} {v : ByteArray} (hM : M ≤ 127) (hv : v.size ≤ M) : strOf (txU (M : Int) (txB M v.data.toList)) = v := by
  have hl : v.data.toList.length = v.size := rfl
  have hz : (strOf (txB M v.data.toList)).size = M + 1 := by rw [strOf_size, txB_length (by omega)]
  have hlt : M < (strOf (txB M v.data.toList)).size := by omega
  have e := txU_yes hM hz hlt
  rw [strOf_data] at e
  have hlast : ((strOf (txB M v.data.toList))[M]'hlt).toNat = v.size := by
    have e1 : (strOf (txB M v.data.toList))[M]'hlt = (txB M v.data.toList)[M]'(by rw [txB_length (by omega)]; omega) := rfl
    rw [e1]
    unfold txB
    rw [List.getElem_append_right (by simp [zeros]; omega)]
    simp [zeros]
    omega
  rw [e, hlast, if_pos hv]
  have : (txB M v.data.toList).take v.size = v.data.toList := by
    unfold txB
    rw [List.append_assoc, List.take_append_of_le_length (by omega), List.take_of_length_le (by omega)]
  rw [this, strOf_self]
theorem one_zero (w : World) : (binOp .quo 23 (.float .f64 4607182418800017408) (.float .f64 0)).run Try.prog w = .ok (.float .f64 9218868437227405312) w :=
  run_float_arith w .quo _ .f64 _ _ _ (by decide +kernel)
theorem inf_pos : (FloatKind.f64.format.order 9218868437227405312 0 == some .lt) = false := by decide +kernel
theorem bU_bB (b : Bool) : bU (bB b) = b := by cases b <;> decide
theorem eq_self3 (s : ByteArray) (b : Bool) (i : Int) (w : World) : (binOp .eql 69 (.agg #[.string s, .bool b, .int .i64 i]) (.agg #[.string s, .bool b, .int .i64 i])).run Try.prog w = .ok (.bool true) w := by
  go_simp
theorem keeps_drewN (w : World) (n : Nat) : Keeps w (w.drewN n) (fun _ => False) := by
  induction n with
  | zero => exact Keeps.refl _ _
  | succ n ih => exact ih.drew
theorem both_read {M : Nat} {v : ByteArray} (c : Bool) (j : Int) (hM : M ≤ 127) (hv : v.size ≤ M) (hj : I64 j) : strOf (txU (M : Int) ((txB M v.data.toList ++ (bB c ++ be 8 (iB j))).take (M + 1))) = v ∧ bU (((txB M v.data.toList ++ (bB c ++ be 8 (iB j))).drop (M + 1)).take 1) = c ∧ iU (((txB M v.data.toList ++ (bB c ++ be 8 (iB j))).drop (M + 1)).drop 1) = j := by
  have hl : (txB M v.data.toList).length = M + 1 := txB_length hv
  have h1 : (txB M v.data.toList ++ (bB c ++ be 8 (iB j))).take (M + 1) = txB M v.data.toList := by rw [← hl]; exact List.take_left
  have h2 : (txB M v.data.toList ++ (bB c ++ be 8 (iB j))).drop (M + 1) = bB c ++ be 8 (iB j) := by rw [← hl]; exact List.drop_left
  have h3 : (bB c ++ be 8 (iB j)).take 1 = bB c := by cases c <;> rfl
  have h4 : (bB c ++ be 8 (iB j)).drop 1 = be 8 (iB j) := by cases c <;> rfl
  rw [h1, h2, h3, h4, tx_round hM hv, bU_bB, iU_iB hj]
  exact ⟨rfl, rfl, rfl⟩
end typedRound
end Go.Proofs.Ytgbeacfiaegehaa
