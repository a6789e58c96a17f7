/-
  typed: texts: Text's calls and the reference's.
-/
import Derived.Test.YtgbeacfiaegehaaY3
import Derived.Lib.BufferWrite
namespace Go.Proofs.Ytgbeacfiaegehaa
open Go.RowKit
set_option linter.unusedVariables false
/-- May a text's greatest length be m? -/
def inR (m : Int) : Bool := decide (0 ≤ m) && decide (m ≤ 127)
theorem inR_yes {m : Int} (h : inR m = true) : ∃ M : Nat, m = (M : Int) ∧ M ≤ 127 := by
  simp only [inR, Bool.and_eq_true, decide_eq_true_eq] at h
  exact ⟨m.toNat, by omega, by omega⟩
theorem inR_no {m : Int} (h : inR m = false) : m < 0 ∨ 127 < m := by
  by_cases h0 : 0 ≤ m
  · by_cases h1 : m ≤ 127
    · simp [inR, h0, h1] at h
    · omega
  · omega
theorem inR_mk {M : Nat} (h : M ≤ 127) : inR (M : Int) = true := by
  simp [inR]
  omega
/-- A text laid: its bytes, zeros, its length. -/
def txB (M : Nat) (v : List UInt8) : List UInt8 := v ++ zeros (M - v.length) ++ [UInt8.ofNat v.length]
theorem txB_length {M : Nat} {v : List UInt8} (h : v.length ≤ M) : (txB M v).length = M + 1 := by
  simp [txB, zeros]
  omega
/-- A text read. -/
def txU (m : Int) (l : List UInt8) : List UInt8 :=
  if inR m = true ∧ l.length = m.toNat + 1 then (if (l.getD m.toNat 0).toNat ≤ m.toNat then l.take (l.getD m.toNat 0).toNat else []) else []
theorem tyt_inRange (m : Int) (w : World) : Calls Try.prog 48 #[.agg #[.int .i64 m]] w fun e w' => e = .returned (.bool (inR m)) ∧ Keeps w w' (fun _ => False) := by
  by_cases h0 : 0 ≤ m
  · by_cases h1 : m ≤ 127
    · have e : inR m = true := by simp [inR, h0, h1]
      rw [e]
      go_enter Try.func48, Try.ntmps48
      go_wp2_with fail
      go_ret
      exact ⟨rfl, (Keeps.refl _ _).alloc _⟩
    · have e : inR m = false := by simp [inR, h0, h1]
      rw [e]
      go_enter Try.func48, Try.ntmps48
      go_wp2_with fail
      go_ret
      exact ⟨rfl, (Keeps.refl _ _).alloc _⟩
  · have e : inR m = false := by simp [inR, h0]
    rw [e]
    go_enter Try.func48, Try.ntmps48
    go_wp2_with fail
    go_ret
    exact ⟨rfl, (Keeps.refl _ _).alloc _⟩
/-- The width of texts of at most m bytes. -/
def txW (m : Int) : Int := if inR m = true then m + 1 else 0
theorem tyt_Width (m : Int) (w : World) : Calls Try.prog 23 #[.agg #[.int .i64 m]] w fun e w' => e = .returned (.int .i64 (txW m)) ∧ Keeps w w' (fun _ => False) := by
  have hR := tyt_inRange m
  cases hi : inR m
  · have e : txW m = 0 := by simp [txW, hi]
    rw [e]
    rw [hi] at hR
    go_enter Try.func23, Try.ntmps23
    go_wp2_with fail
    (with_reducible refine (hR _).mono ?_)
    rintro e w1 ⟨rfl, k1⟩
    go_wp2_with fail
    go_ret
    exact ⟨rfl, ((Keeps.refl _ _).alloc _).trans k1 (fun _ _ x => x)⟩
  · have e : txW m = m + 1 := by simp [txW, hi]
    obtain ⟨M, rfl, hM⟩ := inR_yes hi
    rw [e]
    rw [hi] at hR
    clear e hi
    go_enter Try.func23, Try.ntmps23
    go_wp2_with fail
    (with_reducible refine (hR _).mono ?_)
    rintro e w1 ⟨rfl, k1⟩
    have c0 : (w.alloc (.cells #[.int .i64 (M : Int)] 50)).cell? ⟨w.heap.size, 0, none⟩ = some (.int .i64 (M : Int)) := by simp only [World.cell?, heap_alloc_new]; rfl
    have c1 := kcell k1 c0
    go_wp2_with fail
    go_ret
    exact ⟨rfl, ((Keeps.refl _ _).alloc _).trans k1 (fun _ _ x => x)⟩
theorem tyt_Align (m : Int) (w : World) : Calls Try.prog 51 #[.agg #[.int .i64 m]] w fun e w' => e = .returned (.int .i64 1) ∧ Keeps w w' (fun _ => False) := by
  go_enter Try.func51, Try.ntmps51
  go_wp2_with fail
  go_ret
  exact ⟨rfl, (Keeps.refl _ _).alloc _⟩
theorem rTextWidth (m : Int) (w : World) : Calls Try.prog 50 #[.int .i64 m] w fun e w' => e = .returned (.int .i64 (txW m)) ∧ w' = w := by
  cases hi : inR m
  · have e : txW m = 0 := by simp [txW, hi]
    rw [e]
    by_cases h0 : m < 0
    · go_enter Try.func50, Try.ntmps50
      go_wp2_with fail
      go_ret
      exact ⟨rfl, rfl⟩
    · have h1 : 127 < m := by rcases inR_no hi with h | h <;> omega
      go_enter Try.func50, Try.ntmps50
      go_wp2_with fail
      go_ret
      exact ⟨rfl, rfl⟩
  · have e : txW m = m + 1 := by simp [txW, hi]
    obtain ⟨M, rfl, hM⟩ := inR_yes hi
    rw [e]
    have h0 : ¬ (M : Int) < 0 := by omega
    have h1 : ¬ (127 : Int) < (M : Int) := by omega
    go_enter Try.func50, Try.ntmps50
    go_wp2_with fail
    go_ret
    exact ⟨rfl, rfl⟩
theorem box1 (w : World) (m : Int) : (w.alloc (.cells #[.int .i64 m] 50)).cell? ⟨w.heap.size, 0, none⟩ = some (.int .i64 m) := by simp only [World.cell?, heap_alloc_new]; rfl
set_option maxRecDepth 100000 in
theorem tyt_Pack_no (m : Int) (v : ByteArray) (h : inR m = false ∨ m < (v.size : Int)) (w : World) : Calls Try.prog 22 #[.agg #[.int .i64 m], .string v] w fun e w' => e = .returned (.tuple #[.string ⟨#[]⟩, .bool false]) ∧ Keeps w w' (fun _ => False) := by
  have hR := tyt_inRange m
  cases hi : inR m
  · rw [hi] at hR
    go_enter Try.func22, Try.ntmps22
    go_wp2_with fail
    (with_reducible refine (hR _).mono ?_)
    rintro e w1 ⟨rfl, k1⟩
    go_wp2_with fail
    go_ret2
    exact ⟨rfl, ((Keeps.refl _ _).alloc _).trans k1 (fun _ _ x => x)⟩
  · rw [hi] at hR
    have h2 : m < (v.size : Int) := by rcases h with h | h; · rw [hi] at h; cases h
                                       · exact h
    have c0 := box1 w m
    clear h
    go_enter Try.func22, Try.ntmps22
    go_wp2_with fail
    (with_reducible refine (hR _).mono ?_)
    rintro e w1 ⟨rfl, k1⟩
    have c1 := kcell k1 c0
    go_wp2_with fail
    go_ret2
    exact ⟨rfl, ((Keeps.refl _ _).alloc _).trans k1 (fun _ _ x => x)⟩
theorem tx_row {M : Nat} {v : List UInt8} (h : v.length ≤ M) (hM : M ≤ 127) (z : Int) (hz : z = (v.length : Int)) : (rowOf (v ++ zeros (M + 1 - v.length))).setIfInBounds M (.int .u8 z) = rowOf (txB M v) := by
  subst hz
  have e1 : zeros (M + 1 - v.length) = zeros (M - v.length) ++ [0] := by
    rw [show M + 1 - v.length = (M - v.length) + 1 by omega]
    exact List.replicate_succ'
  have e2 : (cellsOf (v ++ zeros (M - v.length))).length = M := by rw [cellsOf_length]; simp [zeros]; omega
  have e3 : (UInt8.ofNat v.length).toNat = v.length := by
    rw [show UInt8.ofNat v.length = UInt8.ofNat (v.length % 256) by rw [Nat.mod_eq_of_lt (by omega)], byte_nat]
    omega
  apply Array.toList_inj.1
  rw [Array.toList_setIfInBounds, rowOf_toList, rowOf_toList, e1, ← List.append_assoc, cellsOf_append, List.set_append_right _ _ (by omega), e2, Nat.sub_self]
  simp [txB, cellsOf, cellOf]
  omega
theorem byteCells_eq (l : List UInt8) : Lib.byteCells l = cellsOf l := rfl
set_option maxRecDepth 100000 in
set_option maxHeartbeats 2000000 in
theorem tyt_Pack_yes (M : Nat) (v : ByteArray) (hM : M ≤ 127) (hv : v.size ≤ M) (w : World) : Calls Try.prog 22 #[.agg #[.int .i64 (M : Int)], .string v] w fun e w' => e = .returned (.tuple #[.string (strOf (txB M v.data.toList)), .bool true]) ∧ Keeps w w' (fun _ => False) := by
  have hR := tyt_inRange (M : Int)
  rw [inR_mk hM] at hR
  have c0 := box1 w (M : Int)
  have hE : (Try.prog.info? 5).map (fun i => (i.zero, i.size, i.bytes)) = some (some (.int .u8 0), 1, 1) := by kernel_rfl
  have hsz : v.data.toList.length = v.size := rfl
  obtain ⟨X, hX, hXl⟩ : ∃ X, txB M v.data.toList = X ∧ X.length = M + 1 := ⟨_, rfl, txB_length (by omega)⟩
  rw [hX]
  have HX := hide hX
  clear hX
  go_enter Try.func22, Try.ntmps22
  go_wp2_with fail
  (with_reducible refine (hR _).mono ?_)
  rintro e w1 ⟨rfl, k1⟩
  have K1 : Keeps w w1 (fun _ => False) := ((Keeps.refl _ _).alloc _).trans k1 (fun _ _ x => x)
  have c1 := kcell k1 c0
  have hmk := run_make_bytes (P := Try.prog) w1 88 5 Try.underlying88 hE (M + 1) (by omega)
  have g2 := heap_alloc_new w1 (.cells (rowOf (zeros (M + 1))) 5)
  have hcp := fun ty => Lib.run_copy_row_string (P := Try.prog) (w1.alloc (.cells (rowOf (zeros (M + 1))) 5)) 88 9 ty 5 w1.heap.size 0 (M + 1) (M + 1) v (rowOf (zeros (M + 1))) 5 Try.underlying88 (by kernel_rfl) g2 (by omega) (by rw [rowOf_size, zeros_length]; omega)
  have hrow : ((rowOf (zeros (M + 1))).toList.take 0 ++ Lib.byteCells v.data.toList ++ (rowOf (zeros (M + 1))).toList.drop (0 + v.size)).toArray = rowOf (v.data.toList ++ zeros (M + 1 - v.size)) := by
    rw [rowOf_toList, byteCells_eq, List.take_zero, List.nil_append, Nat.zero_add, ← cellsOf_drop, ← cellsOf_append]
    simp [rowOf, zeros]
  simp only [hrow] at hcp
  have g3 := heap_setRow_same (cs := rowOf (v.data.toList ++ zeros (M + 1 - v.size))) g2
  have c2 : ((w1.alloc (.cells (rowOf (zeros (M + 1))) 5)).setRow w1.heap.size (rowOf (v.data.toList ++ zeros (M + 1 - v.size)))).cell? ⟨w.heap.size, 0, none⟩ = some (.int .i64 (M : Int)) := by
    have k2 : Keeps w1 ((w1.alloc (.cells (rowOf (zeros (M + 1))) 5)).setRow w1.heap.size (rowOf (v.data.toList ++ zeros (M + 1 - v.size)))) (fun _ => False) := ((Keeps.refl _ _).alloc _).setRow _ (fun q => absurd q (Nat.lt_irrefl _)) _
    exact kcell k2 c1
  have K3 : Keeps w ((w1.alloc (.cells (rowOf (zeros (M + 1))) 5)).setRow w1.heap.size (rowOf (v.data.toList ++ zeros (M + 1 - v.size)))) (fun _ => False) := (K1.alloc _).setRow _ (fun q => absurd (Nat.lt_of_lt_of_le q K1.size) (Nat.lt_irrefl _)) _
  have hv' : ¬ (M : Int) < (v.size : Int) := by omega
  rw [show ((M + 1 : Nat) : Int) = (M : Int) + 1 by omega] at hmk
  obtain ⟨R, hR2⟩ : ∃ R, rowOf (v.data.toList ++ zeros (M + 1 - v.size)) = R := ⟨_, rfl⟩
  have hcM : R[M]? = some (.int .u8 0) := by
    rw [← hR2, rowOf_get _ M (by simp [zeros]; omega)]
    congr 2
    rw [List.getElem_append_right (by omega)]
    simp [zeros]
  have hRX : R.setIfInBounds M (.int .u8 (v.size : Int)) = rowOf X := by
    rw [← hR2, ← HX.out]
    exact tx_row (v := v.data.toList) (by omega) hM _ rfl
  rw [hR2] at hcp g3 c2 K3
  have g4 := set_blk g3 M (.int .u8 (v.size : Int))
  rw [hRX] at g4
  have c3 : ((w1.alloc (.cells (rowOf (zeros (M + 1))) 5)).setRow w1.heap.size R).cell? ⟨w1.heap.size, M, none⟩ = some (.int .u8 0) := by
    simp only [World.cell?, g3]
    exact hcM
  have f3 : ((w1.alloc (.cells (rowOf (zeros (M + 1))) 5)).setRow w1.heap.size R).frozen? ⟨w1.heap.size, M, none⟩ = false := by
    simp only [World.frozen?, g3]
    simp
  have K4 := K3.setCell ⟨w1.heap.size, M, none⟩ (fun q => absurd (Nat.lt_of_lt_of_le q K1.size) (Nat.lt_irrefl _)) (.int .u8 (v.size : Int))
  have htx := run_text (((w1.alloc (.cells (rowOf (zeros (M + 1))) 5)).setRow w1.heap.size R).setCell ⟨w1.heap.size, M, none⟩ (.int .u8 (v.size : Int))) ⟨w1.heap.size, 0, none⟩ (M + 1) (M + 1) X hXl (fun j hj => by
    rw [addr_add, Nat.zero_add]
    simp only [World.cell?, g4]
    exact rowOf_get X j hj)
  clear g2 g3 g4 hRX hcM hR2 hsz c0 k1
  go_wp2_with fail
  go_ret2
  exact ⟨rfl, K4⟩
end Go.Proofs.Ytgbeacfiaegehaa
