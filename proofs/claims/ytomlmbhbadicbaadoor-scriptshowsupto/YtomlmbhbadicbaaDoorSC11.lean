/-
  script: the reference's Show (made by gensc11.py).
-/
import Derived.Test.YtomlmbhbadicbaaDoorSC10
namespace Go.Proofs.YtomlmbhbadicbaaDoor
open Go.RowKit
set_option linter.unusedVariables false

theorem name_some {op : Int} (h : isOp op = true) : (nameD op).toList.isEmpty = false := by
  have h' := of_decide_eq_true h
  unfold nameD
  rw [if_pos h']
  have : ∀ k : Fin 16, (nmN k.1).toList.isEmpty = false := by
    intro k
    rw [ByteArray.toList_eq]
    revert k
    decide
  exact this ⟨op.toNat + 1, by omega⟩
set_option maxRecDepth 100000 in
set_option maxHeartbeats 4000000 in
theorem rs_1 (n off : Int) (yes : Bool) (key elem : ByteArray) (w : World) (hn : -9223372036854775808 ≤ n ∧ n ≤ 9223372036854775807) (ho : -9223372036854775808 ≤ off ∧ off ≤ 9223372036854775807) : Calls Tryd.prog 6 #[.agg #[.int .i64 1, .int .i64 0, .int .i64 n, .int .i64 off, .bool yes, .string key, .string elem]] w fun e w' => e = .returned (.string (nameD 1 ++ ⟨#[32]⟩ ++ numD n)) ∧ Keeps w w' (fun _ => False) := by
  have k0 : Keeps w (w.alloc (.cells #[.int .i64 1, .int .i64 0, .int .i64 n, .int .i64 off, .bool yes, .string key, .string elem] 24)) (fun _ => False) := (Keeps.refl _ _).alloc _
  have hb := heap_alloc_new w (.cells #[.int .i64 1, .int .i64 0, .int .i64 n, .int .i64 off, .bool yes, .string key, .string elem] 24)
  have hNm := rname_any 1 (w.alloc (.cells #[.int .i64 1, .int .i64 0, .int .i64 n, .int .i64 off, .bool yes, .string key, .string elem] 24))
  have hNs := name_size 1
  have hNe := name_some (op := 1) rfl
  have K0 := hide k0
  have Hb := hide hb
  clear k0 hb
  generalize nameD 1 = ND at *
  have hN := fun (W : World) => dec_any n hn.1 hn.2 W
  have hz := num_size n hn.1 hn.2
  generalize numD n = E at *
  have HN := hide hN
  clear hN
  go_enter Tryd.func6, Tryd.ntmps6
  go_wp2_with fail
  (with_reducible refine hNm.mono ?_)
  rintro e w1 ⟨rfl, k1⟩
  have K1 := hide (K0.out.trans k1 (fun _ _ e => e))
  obtain ⟨c0, c1, c2, c3, c4, c5, c6⟩ := ans_cells (k1.blk Hb.out)
  clear hNm k1 K0
  go_wp2_with fail
  (with_reducible refine (HN.out _).mono ?_)
  rintro e w2 ⟨rfl, k2⟩
  go_wp2_with fail
  go_ret
  exact ⟨rfl, K1.out.trans k2 (fun _ _ e => e)⟩
set_option maxRecDepth 100000 in
set_option maxHeartbeats 4000000 in
theorem rs_7 (n off : Int) (yes : Bool) (key elem : ByteArray) (w : World) (hn : -9223372036854775808 ≤ n ∧ n ≤ 9223372036854775807) (ho : -9223372036854775808 ≤ off ∧ off ≤ 9223372036854775807) : Calls Tryd.prog 6 #[.agg #[.int .i64 7, .int .i64 0, .int .i64 n, .int .i64 off, .bool yes, .string key, .string elem]] w fun e w' => e = .returned (.string (nameD 7 ++ ⟨#[32]⟩ ++ numD n)) ∧ Keeps w w' (fun _ => False) := by
  have k0 : Keeps w (w.alloc (.cells #[.int .i64 7, .int .i64 0, .int .i64 n, .int .i64 off, .bool yes, .string key, .string elem] 24)) (fun _ => False) := (Keeps.refl _ _).alloc _
  have hb := heap_alloc_new w (.cells #[.int .i64 7, .int .i64 0, .int .i64 n, .int .i64 off, .bool yes, .string key, .string elem] 24)
  have hNm := rname_any 7 (w.alloc (.cells #[.int .i64 7, .int .i64 0, .int .i64 n, .int .i64 off, .bool yes, .string key, .string elem] 24))
  have hNs := name_size 7
  have hNe := name_some (op := 7) rfl
  have K0 := hide k0
  have Hb := hide hb
  clear k0 hb
  generalize nameD 7 = ND at *
  have hN := fun (W : World) => dec_any n hn.1 hn.2 W
  have hz := num_size n hn.1 hn.2
  generalize numD n = E at *
  have HN := hide hN
  clear hN
  go_enter Tryd.func6, Tryd.ntmps6
  go_wp2_with fail
  (with_reducible refine hNm.mono ?_)
  rintro e w1 ⟨rfl, k1⟩
  have K1 := hide (K0.out.trans k1 (fun _ _ e => e))
  obtain ⟨c0, c1, c2, c3, c4, c5, c6⟩ := ans_cells (k1.blk Hb.out)
  clear hNm k1 K0
  go_wp2_with fail
  (with_reducible refine (HN.out _).mono ?_)
  rintro e w2 ⟨rfl, k2⟩
  go_wp2_with fail
  go_ret
  exact ⟨rfl, K1.out.trans k2 (fun _ _ e => e)⟩
set_option maxRecDepth 100000 in
set_option maxHeartbeats 4000000 in
theorem rs_8 (n off : Int) (yes : Bool) (key elem : ByteArray) (w : World) (hn : -9223372036854775808 ≤ n ∧ n ≤ 9223372036854775807) (ho : -9223372036854775808 ≤ off ∧ off ≤ 9223372036854775807) : Calls Tryd.prog 6 #[.agg #[.int .i64 8, .int .i64 0, .int .i64 n, .int .i64 off, .bool yes, .string key, .string elem]] w fun e w' => e = .returned (.string (nameD 8 ++ ⟨#[32]⟩ ++ numD n)) ∧ Keeps w w' (fun _ => False) := by
  have k0 : Keeps w (w.alloc (.cells #[.int .i64 8, .int .i64 0, .int .i64 n, .int .i64 off, .bool yes, .string key, .string elem] 24)) (fun _ => False) := (Keeps.refl _ _).alloc _
  have hb := heap_alloc_new w (.cells #[.int .i64 8, .int .i64 0, .int .i64 n, .int .i64 off, .bool yes, .string key, .string elem] 24)
  have hNm := rname_any 8 (w.alloc (.cells #[.int .i64 8, .int .i64 0, .int .i64 n, .int .i64 off, .bool yes, .string key, .string elem] 24))
  have hNs := name_size 8
  have hNe := name_some (op := 8) rfl
  have K0 := hide k0
  have Hb := hide hb
  clear k0 hb
  generalize nameD 8 = ND at *
  have hN := fun (W : World) => dec_any n hn.1 hn.2 W
  have hz := num_size n hn.1 hn.2
  generalize numD n = E at *
  have HN := hide hN
  clear hN
  go_enter Tryd.func6, Tryd.ntmps6
  go_wp2_with fail
  (with_reducible refine hNm.mono ?_)
  rintro e w1 ⟨rfl, k1⟩
  have K1 := hide (K0.out.trans k1 (fun _ _ e => e))
  obtain ⟨c0, c1, c2, c3, c4, c5, c6⟩ := ans_cells (k1.blk Hb.out)
  clear hNm k1 K0
  go_wp2_with fail
  (with_reducible refine (HN.out _).mono ?_)
  rintro e w2 ⟨rfl, k2⟩
  go_wp2_with fail
  go_ret
  exact ⟨rfl, K1.out.trans k2 (fun _ _ e => e)⟩
set_option maxRecDepth 100000 in
set_option maxHeartbeats 4000000 in
theorem rs_5 (n off : Int) (yes : Bool) (key elem : ByteArray) (w : World) (hn : -9223372036854775808 ≤ n ∧ n ≤ 9223372036854775807) (ho : -9223372036854775808 ≤ off ∧ off ≤ 9223372036854775807) : Calls Tryd.prog 6 #[.agg #[.int .i64 5, .int .i64 0, .int .i64 n, .int .i64 off, .bool yes, .string key, .string elem]] w fun e w' => e = .returned (.string (nameD 5 ++ ⟨#[32]⟩ ++ numD n)) ∧ Keeps w w' (fun _ => False) := by
  have k0 : Keeps w (w.alloc (.cells #[.int .i64 5, .int .i64 0, .int .i64 n, .int .i64 off, .bool yes, .string key, .string elem] 24)) (fun _ => False) := (Keeps.refl _ _).alloc _
  have hb := heap_alloc_new w (.cells #[.int .i64 5, .int .i64 0, .int .i64 n, .int .i64 off, .bool yes, .string key, .string elem] 24)
  have hNm := rname_any 5 (w.alloc (.cells #[.int .i64 5, .int .i64 0, .int .i64 n, .int .i64 off, .bool yes, .string key, .string elem] 24))
  have hNs := name_size 5
  have hNe := name_some (op := 5) rfl
  have K0 := hide k0
  have Hb := hide hb
  clear k0 hb
  generalize nameD 5 = ND at *
  have hN := fun (W : World) => dec_any n hn.1 hn.2 W
  have hz := num_size n hn.1 hn.2
  generalize numD n = E at *
  have HN := hide hN
  clear hN
  go_enter Tryd.func6, Tryd.ntmps6
  go_wp2_with fail
  (with_reducible refine hNm.mono ?_)
  rintro e w1 ⟨rfl, k1⟩
  have K1 := hide (K0.out.trans k1 (fun _ _ e => e))
  obtain ⟨c0, c1, c2, c3, c4, c5, c6⟩ := ans_cells (k1.blk Hb.out)
  clear hNm k1 K0
  go_wp2_with fail
  (with_reducible refine (HN.out _).mono ?_)
  rintro e w2 ⟨rfl, k2⟩
  go_wp2_with fail
  go_ret
  exact ⟨rfl, K1.out.trans k2 (fun _ _ e => e)⟩
set_option maxRecDepth 100000 in
set_option maxHeartbeats 4000000 in
theorem rs_11 (n off : Int) (yes : Bool) (key elem : ByteArray) (w : World) (hn : -9223372036854775808 ≤ n ∧ n ≤ 9223372036854775807) (ho : -9223372036854775808 ≤ off ∧ off ≤ 9223372036854775807) : Calls Tryd.prog 6 #[.agg #[.int .i64 11, .int .i64 0, .int .i64 n, .int .i64 off, .bool yes, .string key, .string elem]] w fun e w' => e = .returned (.string (nameD 11 ++ ⟨#[32]⟩ ++ numD n)) ∧ Keeps w w' (fun _ => False) := by
  have k0 : Keeps w (w.alloc (.cells #[.int .i64 11, .int .i64 0, .int .i64 n, .int .i64 off, .bool yes, .string key, .string elem] 24)) (fun _ => False) := (Keeps.refl _ _).alloc _
  have hb := heap_alloc_new w (.cells #[.int .i64 11, .int .i64 0, .int .i64 n, .int .i64 off, .bool yes, .string key, .string elem] 24)
  have hNm := rname_any 11 (w.alloc (.cells #[.int .i64 11, .int .i64 0, .int .i64 n, .int .i64 off, .bool yes, .string key, .string elem] 24))
  have hNs := name_size 11
  have hNe := name_some (op := 11) rfl
  have K0 := hide k0
  have Hb := hide hb
  clear k0 hb
  generalize nameD 11 = ND at *
  have hN := fun (W : World) => dec_any n hn.1 hn.2 W
  have hz := num_size n hn.1 hn.2
  generalize numD n = E at *
  have HN := hide hN
  clear hN
  go_enter Tryd.func6, Tryd.ntmps6
  go_wp2_with fail
  (with_reducible refine hNm.mono ?_)
  rintro e w1 ⟨rfl, k1⟩
  have K1 := hide (K0.out.trans k1 (fun _ _ e => e))
  obtain ⟨c0, c1, c2, c3, c4, c5, c6⟩ := ans_cells (k1.blk Hb.out)
  clear hNm k1 K0
  go_wp2_with fail
  (with_reducible refine (HN.out _).mono ?_)
  rintro e w2 ⟨rfl, k2⟩
  go_wp2_with fail
  go_ret
  exact ⟨rfl, K1.out.trans k2 (fun _ _ e => e)⟩
set_option maxRecDepth 100000 in
set_option maxHeartbeats 4000000 in
theorem rs_12 (n off : Int) (yes : Bool) (key elem : ByteArray) (w : World) (hn : -9223372036854775808 ≤ n ∧ n ≤ 9223372036854775807) (ho : -9223372036854775808 ≤ off ∧ off ≤ 9223372036854775807) : Calls Tryd.prog 6 #[.agg #[.int .i64 12, .int .i64 0, .int .i64 n, .int .i64 off, .bool yes, .string key, .string elem]] w fun e w' => e = .returned (.string (nameD 12 ++ ⟨#[32]⟩ ++ numD n)) ∧ Keeps w w' (fun _ => False) := by
  have k0 : Keeps w (w.alloc (.cells #[.int .i64 12, .int .i64 0, .int .i64 n, .int .i64 off, .bool yes, .string key, .string elem] 24)) (fun _ => False) := (Keeps.refl _ _).alloc _
  have hb := heap_alloc_new w (.cells #[.int .i64 12, .int .i64 0, .int .i64 n, .int .i64 off, .bool yes, .string key, .string elem] 24)
  have hNm := rname_any 12 (w.alloc (.cells #[.int .i64 12, .int .i64 0, .int .i64 n, .int .i64 off, .bool yes, .string key, .string elem] 24))
  have hNs := name_size 12
  have hNe := name_some (op := 12) rfl
  have K0 := hide k0
  have Hb := hide hb
  clear k0 hb
  generalize nameD 12 = ND at *
  have hN := fun (W : World) => dec_any n hn.1 hn.2 W
  have hz := num_size n hn.1 hn.2
  generalize numD n = E at *
  have HN := hide hN
  clear hN
  go_enter Tryd.func6, Tryd.ntmps6
  go_wp2_with fail
  (with_reducible refine hNm.mono ?_)
  rintro e w1 ⟨rfl, k1⟩
  have K1 := hide (K0.out.trans k1 (fun _ _ e => e))
  obtain ⟨c0, c1, c2, c3, c4, c5, c6⟩ := ans_cells (k1.blk Hb.out)
  clear hNm k1 K0
  go_wp2_with fail
  (with_reducible refine (HN.out _).mono ?_)
  rintro e w2 ⟨rfl, k2⟩
  go_wp2_with fail
  go_ret
  exact ⟨rfl, K1.out.trans k2 (fun _ _ e => e)⟩
set_option maxRecDepth 100000 in
set_option maxHeartbeats 4000000 in
theorem rs_13 (n off : Int) (yes : Bool) (key elem : ByteArray) (w : World) (hn : -9223372036854775808 ≤ n ∧ n ≤ 9223372036854775807) (ho : -9223372036854775808 ≤ off ∧ off ≤ 9223372036854775807) : Calls Tryd.prog 6 #[.agg #[.int .i64 13, .int .i64 0, .int .i64 n, .int .i64 off, .bool yes, .string key, .string elem]] w fun e w' => e = .returned (.string (nameD 13 ++ ⟨#[32]⟩ ++ numD n)) ∧ Keeps w w' (fun _ => False) := by
  have k0 : Keeps w (w.alloc (.cells #[.int .i64 13, .int .i64 0, .int .i64 n, .int .i64 off, .bool yes, .string key, .string elem] 24)) (fun _ => False) := (Keeps.refl _ _).alloc _
  have hb := heap_alloc_new w (.cells #[.int .i64 13, .int .i64 0, .int .i64 n, .int .i64 off, .bool yes, .string key, .string elem] 24)
  have hNm := rname_any 13 (w.alloc (.cells #[.int .i64 13, .int .i64 0, .int .i64 n, .int .i64 off, .bool yes, .string key, .string elem] 24))
  have hNs := name_size 13
  have hNe := name_some (op := 13) rfl
  have K0 := hide k0
  have Hb := hide hb
  clear k0 hb
  generalize nameD 13 = ND at *
  have hN := fun (W : World) => dec_any n hn.1 hn.2 W
  have hz := num_size n hn.1 hn.2
  generalize numD n = E at *
  have HN := hide hN
  clear hN
  go_enter Tryd.func6, Tryd.ntmps6
  go_wp2_with fail
  (with_reducible refine hNm.mono ?_)
  rintro e w1 ⟨rfl, k1⟩
  have K1 := hide (K0.out.trans k1 (fun _ _ e => e))
  obtain ⟨c0, c1, c2, c3, c4, c5, c6⟩ := ans_cells (k1.blk Hb.out)
  clear hNm k1 K0
  go_wp2_with fail
  (with_reducible refine (HN.out _).mono ?_)
  rintro e w2 ⟨rfl, k2⟩
  go_wp2_with fail
  go_ret
  exact ⟨rfl, K1.out.trans k2 (fun _ _ e => e)⟩
set_option maxRecDepth 100000 in
set_option maxHeartbeats 4000000 in
theorem rs_2n (n off : Int) (key elem : ByteArray) (w : World) : Calls Tryd.prog 6 #[.agg #[.int .i64 2, .int .i64 0, .int .i64 n, .int .i64 off, .bool false, .string key, .string elem]] w fun e w' => e = .returned (.string (nameD 2 ++ ⟨#[32, 110, 111]⟩)) ∧ Keeps w w' (fun _ => False) := by
  have k0 : Keeps w (w.alloc (.cells #[.int .i64 2, .int .i64 0, .int .i64 n, .int .i64 off, .bool false, .string key, .string elem] 24)) (fun _ => False) := (Keeps.refl _ _).alloc _
  have hb := heap_alloc_new w (.cells #[.int .i64 2, .int .i64 0, .int .i64 n, .int .i64 off, .bool false, .string key, .string elem] 24)
  have hNm := rname_any 2 (w.alloc (.cells #[.int .i64 2, .int .i64 0, .int .i64 n, .int .i64 off, .bool false, .string key, .string elem] 24))
  have hNs := name_size 2
  have hNe := name_some (op := 2) rfl
  have K0 := hide k0
  have Hb := hide hb
  clear k0 hb
  generalize nameD 2 = ND at *
  go_enter Tryd.func6, Tryd.ntmps6
  go_wp2_with fail
  (with_reducible refine hNm.mono ?_)
  rintro e w1 ⟨rfl, k1⟩
  have K1 := hide (K0.out.trans k1 (fun _ _ e => e))
  obtain ⟨c0, c1, c2, c3, c4, c5, c6⟩ := ans_cells (k1.blk Hb.out)
  clear hNm k1 K0
  go_wp2_with fail
  go_ret
  exact ⟨rfl, K1.out⟩
set_option maxRecDepth 100000 in
set_option maxHeartbeats 4000000 in
theorem rs_3y (n off : Int) (key elem : ByteArray) (w : World) : Calls Tryd.prog 6 #[.agg #[.int .i64 3, .int .i64 0, .int .i64 n, .int .i64 off, .bool true, .string key, .string elem]] w fun e w' => e = .returned (.string (nameD 3 ++ ⟨#[32, 110, 101, 119]⟩)) ∧ Keeps w w' (fun _ => False) := by
  have k0 : Keeps w (w.alloc (.cells #[.int .i64 3, .int .i64 0, .int .i64 n, .int .i64 off, .bool true, .string key, .string elem] 24)) (fun _ => False) := (Keeps.refl _ _).alloc _
  have hb := heap_alloc_new w (.cells #[.int .i64 3, .int .i64 0, .int .i64 n, .int .i64 off, .bool true, .string key, .string elem] 24)
  have hNm := rname_any 3 (w.alloc (.cells #[.int .i64 3, .int .i64 0, .int .i64 n, .int .i64 off, .bool true, .string key, .string elem] 24))
  have hNs := name_size 3
  have hNe := name_some (op := 3) rfl
  have K0 := hide k0
  have Hb := hide hb
  clear k0 hb
  generalize nameD 3 = ND at *
  go_enter Tryd.func6, Tryd.ntmps6
  go_wp2_with fail
  (with_reducible refine hNm.mono ?_)
  rintro e w1 ⟨rfl, k1⟩
  have K1 := hide (K0.out.trans k1 (fun _ _ e => e))
  obtain ⟨c0, c1, c2, c3, c4, c5, c6⟩ := ans_cells (k1.blk Hb.out)
  clear hNm k1 K0
  go_wp2_with fail
  go_ret
  exact ⟨rfl, K1.out⟩
set_option maxRecDepth 100000 in
set_option maxHeartbeats 4000000 in
theorem rs_3n (n off : Int) (key elem : ByteArray) (w : World) : Calls Tryd.prog 6 #[.agg #[.int .i64 3, .int .i64 0, .int .i64 n, .int .i64 off, .bool false, .string key, .string elem]] w fun e w' => e = .returned (.string (nameD 3 ++ ⟨#[32, 111, 108, 100]⟩)) ∧ Keeps w w' (fun _ => False) := by
  have k0 : Keeps w (w.alloc (.cells #[.int .i64 3, .int .i64 0, .int .i64 n, .int .i64 off, .bool false, .string key, .string elem] 24)) (fun _ => False) := (Keeps.refl _ _).alloc _
  have hb := heap_alloc_new w (.cells #[.int .i64 3, .int .i64 0, .int .i64 n, .int .i64 off, .bool false, .string key, .string elem] 24)
  have hNm := rname_any 3 (w.alloc (.cells #[.int .i64 3, .int .i64 0, .int .i64 n, .int .i64 off, .bool false, .string key, .string elem] 24))
  have hNs := name_size 3
  have hNe := name_some (op := 3) rfl
  have K0 := hide k0
  have Hb := hide hb
  clear k0 hb
  generalize nameD 3 = ND at *
  go_enter Tryd.func6, Tryd.ntmps6
  go_wp2_with fail
  (with_reducible refine hNm.mono ?_)
  rintro e w1 ⟨rfl, k1⟩
  have K1 := hide (K0.out.trans k1 (fun _ _ e => e))
  obtain ⟨c0, c1, c2, c3, c4, c5, c6⟩ := ans_cells (k1.blk Hb.out)
  clear hNm k1 K0
  go_wp2_with fail
  go_ret
  exact ⟨rfl, K1.out⟩
set_option maxRecDepth 100000 in
set_option maxHeartbeats 4000000 in
theorem rs_4y (n off : Int) (key elem : ByteArray) (w : World) : Calls Tryd.prog 6 #[.agg #[.int .i64 4, .int .i64 0, .int .i64 n, .int .i64 off, .bool true, .string key, .string elem]] w fun e w' => e = .returned (.string (nameD 4 ++ ⟨#[32, 121, 101, 115]⟩)) ∧ Keeps w w' (fun _ => False) := by
  have k0 : Keeps w (w.alloc (.cells #[.int .i64 4, .int .i64 0, .int .i64 n, .int .i64 off, .bool true, .string key, .string elem] 24)) (fun _ => False) := (Keeps.refl _ _).alloc _
  have hb := heap_alloc_new w (.cells #[.int .i64 4, .int .i64 0, .int .i64 n, .int .i64 off, .bool true, .string key, .string elem] 24)
  have hNm := rname_any 4 (w.alloc (.cells #[.int .i64 4, .int .i64 0, .int .i64 n, .int .i64 off, .bool true, .string key, .string elem] 24))
  have hNs := name_size 4
  have hNe := name_some (op := 4) rfl
  have K0 := hide k0
  have Hb := hide hb
  clear k0 hb
  generalize nameD 4 = ND at *
  go_enter Tryd.func6, Tryd.ntmps6
  go_wp2_with fail
  (with_reducible refine hNm.mono ?_)
  rintro e w1 ⟨rfl, k1⟩
  have K1 := hide (K0.out.trans k1 (fun _ _ e => e))
  obtain ⟨c0, c1, c2, c3, c4, c5, c6⟩ := ans_cells (k1.blk Hb.out)
  clear hNm k1 K0
  go_wp2_with fail
  go_ret
  exact ⟨rfl, K1.out⟩
set_option maxRecDepth 100000 in
set_option maxHeartbeats 4000000 in
theorem rs_4n (n off : Int) (key elem : ByteArray) (w : World) : Calls Tryd.prog 6 #[.agg #[.int .i64 4, .int .i64 0, .int .i64 n, .int .i64 off, .bool false, .string key, .string elem]] w fun e w' => e = .returned (.string (nameD 4 ++ ⟨#[32, 110, 111]⟩)) ∧ Keeps w w' (fun _ => False) := by
  have k0 : Keeps w (w.alloc (.cells #[.int .i64 4, .int .i64 0, .int .i64 n, .int .i64 off, .bool false, .string key, .string elem] 24)) (fun _ => False) := (Keeps.refl _ _).alloc _
  have hb := heap_alloc_new w (.cells #[.int .i64 4, .int .i64 0, .int .i64 n, .int .i64 off, .bool false, .string key, .string elem] 24)
  have hNm := rname_any 4 (w.alloc (.cells #[.int .i64 4, .int .i64 0, .int .i64 n, .int .i64 off, .bool false, .string key, .string elem] 24))
  have hNs := name_size 4
  have hNe := name_some (op := 4) rfl
  have K0 := hide k0
  have Hb := hide hb
  clear k0 hb
  generalize nameD 4 = ND at *
  go_enter Tryd.func6, Tryd.ntmps6
  go_wp2_with fail
  (with_reducible refine hNm.mono ?_)
  rintro e w1 ⟨rfl, k1⟩
  have K1 := hide (K0.out.trans k1 (fun _ _ e => e))
  obtain ⟨c0, c1, c2, c3, c4, c5, c6⟩ := ans_cells (k1.blk Hb.out)
  clear hNm k1 K0
  go_wp2_with fail
  go_ret
  exact ⟨rfl, K1.out⟩
set_option maxRecDepth 100000 in
set_option maxHeartbeats 4000000 in
theorem rs_9n (n off : Int) (key elem : ByteArray) (w : World) : Calls Tryd.prog 6 #[.agg #[.int .i64 9, .int .i64 0, .int .i64 n, .int .i64 off, .bool false, .string key, .string elem]] w fun e w' => e = .returned (.string (nameD 9 ++ ⟨#[32, 100, 111, 110, 101]⟩)) ∧ Keeps w w' (fun _ => False) := by
  have k0 : Keeps w (w.alloc (.cells #[.int .i64 9, .int .i64 0, .int .i64 n, .int .i64 off, .bool false, .string key, .string elem] 24)) (fun _ => False) := (Keeps.refl _ _).alloc _
  have hb := heap_alloc_new w (.cells #[.int .i64 9, .int .i64 0, .int .i64 n, .int .i64 off, .bool false, .string key, .string elem] 24)
  have hNm := rname_any 9 (w.alloc (.cells #[.int .i64 9, .int .i64 0, .int .i64 n, .int .i64 off, .bool false, .string key, .string elem] 24))
  have hNs := name_size 9
  have hNe := name_some (op := 9) rfl
  have K0 := hide k0
  have Hb := hide hb
  clear k0 hb
  generalize nameD 9 = ND at *
  go_enter Tryd.func6, Tryd.ntmps6
  go_wp2_with fail
  (with_reducible refine hNm.mono ?_)
  rintro e w1 ⟨rfl, k1⟩
  have K1 := hide (K0.out.trans k1 (fun _ _ e => e))
  obtain ⟨c0, c1, c2, c3, c4, c5, c6⟩ := ans_cells (k1.blk Hb.out)
  clear hNm k1 K0
  go_wp2_with fail
  go_ret
  exact ⟨rfl, K1.out⟩
set_option maxRecDepth 100000 in
set_option maxHeartbeats 4000000 in
theorem rs_6 (n off : Int) (yes : Bool) (key elem : ByteArray) (w : World) : Calls Tryd.prog 6 #[.agg #[.int .i64 6, .int .i64 0, .int .i64 n, .int .i64 off, .bool yes, .string key, .string elem]] w fun e w' => e = .returned (.string (nameD 6)) ∧ Keeps w w' (fun _ => False) := by
  have k0 : Keeps w (w.alloc (.cells #[.int .i64 6, .int .i64 0, .int .i64 n, .int .i64 off, .bool yes, .string key, .string elem] 24)) (fun _ => False) := (Keeps.refl _ _).alloc _
  have hb := heap_alloc_new w (.cells #[.int .i64 6, .int .i64 0, .int .i64 n, .int .i64 off, .bool yes, .string key, .string elem] 24)
  have hNm := rname_any 6 (w.alloc (.cells #[.int .i64 6, .int .i64 0, .int .i64 n, .int .i64 off, .bool yes, .string key, .string elem] 24))
  have hNs := name_size 6
  have hNe := name_some (op := 6) rfl
  have K0 := hide k0
  have Hb := hide hb
  clear k0 hb
  generalize nameD 6 = ND at *
  go_enter Tryd.func6, Tryd.ntmps6
  go_wp2_with fail
  (with_reducible refine hNm.mono ?_)
  rintro e w1 ⟨rfl, k1⟩
  have K1 := hide (K0.out.trans k1 (fun _ _ e => e))
  obtain ⟨c0, c1, c2, c3, c4, c5, c6⟩ := ans_cells (k1.blk Hb.out)
  clear hNm k1 K0
  go_wp2_with fail
  go_ret
  exact ⟨rfl, K1.out⟩
set_option maxRecDepth 100000 in
set_option maxHeartbeats 4000000 in
theorem rs_10 (n off : Int) (yes : Bool) (key elem : ByteArray) (w : World) : Calls Tryd.prog 6 #[.agg #[.int .i64 10, .int .i64 0, .int .i64 n, .int .i64 off, .bool yes, .string key, .string elem]] w fun e w' => e = .returned (.string (nameD 10)) ∧ Keeps w w' (fun _ => False) := by
  have k0 : Keeps w (w.alloc (.cells #[.int .i64 10, .int .i64 0, .int .i64 n, .int .i64 off, .bool yes, .string key, .string elem] 24)) (fun _ => False) := (Keeps.refl _ _).alloc _
  have hb := heap_alloc_new w (.cells #[.int .i64 10, .int .i64 0, .int .i64 n, .int .i64 off, .bool yes, .string key, .string elem] 24)
  have hNm := rname_any 10 (w.alloc (.cells #[.int .i64 10, .int .i64 0, .int .i64 n, .int .i64 off, .bool yes, .string key, .string elem] 24))
  have hNs := name_size 10
  have hNe := name_some (op := 10) rfl
  have K0 := hide k0
  have Hb := hide hb
  clear k0 hb
  generalize nameD 10 = ND at *
  go_enter Tryd.func6, Tryd.ntmps6
  go_wp2_with fail
  (with_reducible refine hNm.mono ?_)
  rintro e w1 ⟨rfl, k1⟩
  have K1 := hide (K0.out.trans k1 (fun _ _ e => e))
  obtain ⟨c0, c1, c2, c3, c4, c5, c6⟩ := ans_cells (k1.blk Hb.out)
  clear hNm k1 K0
  go_wp2_with fail
  go_ret
  exact ⟨rfl, K1.out⟩
set_option maxRecDepth 100000 in
set_option maxHeartbeats 4000000 in
theorem rs_14n (n off : Int) (yes : Bool) (key elem : ByteArray) (w : World) (h0 : n = 0) : Calls Tryd.prog 6 #[.agg #[.int .i64 14, .int .i64 0, .int .i64 n, .int .i64 off, .bool yes, .string key, .string elem]] w fun e w' => e = .returned (.string (nameD 14 ++ ⟨#[32, 102, 105, 110, 101]⟩)) ∧ Keeps w w' (fun _ => False) := by
  obtain ⟨z, hz0⟩ : ∃ z, (n == 0) = z := ⟨_, rfl⟩
  have hz1 : z = true := by rw [← hz0]; simp [h0]
  subst hz1
  have e0 : (n == 0) = true := hz0
  clear h0 hz0
  have k0 : Keeps w (w.alloc (.cells #[.int .i64 14, .int .i64 0, .int .i64 n, .int .i64 off, .bool yes, .string key, .string elem] 24)) (fun _ => False) := (Keeps.refl _ _).alloc _
  have hb := heap_alloc_new w (.cells #[.int .i64 14, .int .i64 0, .int .i64 n, .int .i64 off, .bool yes, .string key, .string elem] 24)
  have hNm := rname_any 14 (w.alloc (.cells #[.int .i64 14, .int .i64 0, .int .i64 n, .int .i64 off, .bool yes, .string key, .string elem] 24))
  have hNs := name_size 14
  have hNe := name_some (op := 14) rfl
  have K0 := hide k0
  have Hb := hide hb
  clear k0 hb
  generalize nameD 14 = ND at *
  go_enter Tryd.func6, Tryd.ntmps6
  go_wp2_with fail
  (with_reducible refine hNm.mono ?_)
  rintro e w1 ⟨rfl, k1⟩
  have K1 := hide (K0.out.trans k1 (fun _ _ e => e))
  obtain ⟨c0, c1, c2, c3, c4, c5, c6⟩ := ans_cells (k1.blk Hb.out)
  clear hNm k1 K0
  go_wp2_with fail
  go_ret
  exact ⟨rfl, K1.out⟩
set_option maxRecDepth 100000 in
set_option maxHeartbeats 4000000 in
theorem rs_2y (n off : Int) (key elem : ByteArray) (w : World) (hk : key.size ≤ 8388608) (he : elem.size ≤ 8388608) : Calls Tryd.prog 6 #[.agg #[.int .i64 2, .int .i64 0, .int .i64 n, .int .i64 off, .bool true, .string key, .string elem]] w fun e w' => e = .returned (.string (nameD 2 ++ ⟨#[32, 121, 101, 115, 32]⟩ ++ bytesD elem)) ∧ Keeps w w' (fun _ => False) := by
  have k0 : Keeps w (w.alloc (.cells #[.int .i64 2, .int .i64 0, .int .i64 n, .int .i64 off, .bool true, .string key, .string elem] 24)) (fun _ => False) := (Keeps.refl _ _).alloc _
  have hb := heap_alloc_new w (.cells #[.int .i64 2, .int .i64 0, .int .i64 n, .int .i64 off, .bool true, .string key, .string elem] 24)
  have hNm := rname_any 2 (w.alloc (.cells #[.int .i64 2, .int .i64 0, .int .i64 n, .int .i64 off, .bool true, .string key, .string elem] 24))
  have hNs := name_size 2
  have hNe := name_some (op := 2) rfl
  have K0 := hide k0
  have Hb := hide hb
  clear k0 hb
  generalize nameD 2 = ND at *
  have hN := fun (W : World) => rbytes_any elem he W
  have hz := bytes_size elem he
  generalize bytesD elem = E at *
  have HN := hide hN
  clear hN
  go_enter Tryd.func6, Tryd.ntmps6
  go_wp2_with fail
  (with_reducible refine hNm.mono ?_)
  rintro e w1 ⟨rfl, k1⟩
  have K1 := hide (K0.out.trans k1 (fun _ _ e => e))
  obtain ⟨c0, c1, c2, c3, c4, c5, c6⟩ := ans_cells (k1.blk Hb.out)
  clear hNm k1 K0
  go_wp2_with fail
  (with_reducible refine (HN.out _).mono ?_)
  rintro e w2 ⟨rfl, k2⟩
  go_wp2_with fail
  go_ret
  exact ⟨rfl, K1.out.trans k2 (fun _ _ e => e)⟩
set_option maxRecDepth 100000 in
set_option maxHeartbeats 4000000 in
theorem rs_err (op err n off : Int) (yes : Bool) (key elem : ByteArray) (w : World) (hio : isOp op = true) (h0 : err ≠ 0) (he : -9223372036854775808 ≤ err ∧ err ≤ 9223372036854775807) : Calls Tryd.prog 6 #[.agg #[.int .i64 op, .int .i64 err, .int .i64 n, .int .i64 off, .bool yes, .string key, .string elem]] w fun e w' => e = .returned (.string (nameD op ++ ⟨#[32, 101, 114, 114, 111, 114, 32]⟩ ++ numD err)) ∧ Keeps w w' (fun _ => False) := by
  have e0 : (err != 0) = true := by simp [h0]
  have k0 : Keeps w (w.alloc (.cells #[.int .i64 op, .int .i64 err, .int .i64 n, .int .i64 off, .bool yes, .string key, .string elem] 24)) (fun _ => False) := (Keeps.refl _ _).alloc _
  have hb := heap_alloc_new w (.cells #[.int .i64 op, .int .i64 err, .int .i64 n, .int .i64 off, .bool yes, .string key, .string elem] 24)
  have hNm := rname_any op (w.alloc (.cells #[.int .i64 op, .int .i64 err, .int .i64 n, .int .i64 off, .bool yes, .string key, .string elem] 24))
  have hNs := name_size op
  have hNe := name_some (op := op) hio
  have K0 := hide k0
  have Hb := hide hb
  clear k0 hb
  generalize nameD op = ND at *
  have hN := fun (W : World) => dec_any err he.1 he.2 W
  have hz := num_size err he.1 he.2
  generalize numD err = E at *
  have HN := hide hN
  clear hN
  go_enter Tryd.func6, Tryd.ntmps6
  go_wp2_with fail
  (with_reducible refine hNm.mono ?_)
  rintro e w1 ⟨rfl, k1⟩
  have K1 := hide (K0.out.trans k1 (fun _ _ e => e))
  obtain ⟨c0, c1, c2, c3, c4, c5, c6⟩ := ans_cells (k1.blk Hb.out)
  clear hNm k1 K0
  go_wp2_with fail
  (with_reducible refine (HN.out _).mono ?_)
  rintro e w2 ⟨rfl, k2⟩
  go_wp2_with fail
  go_ret
  exact ⟨rfl, K1.out.trans k2 (fun _ _ e => e)⟩
set_option maxRecDepth 100000 in
set_option maxHeartbeats 4000000 in
theorem rs_9y (n off : Int) (key elem : ByteArray) (w : World) (hk : key.size ≤ 8388608) (he : elem.size ≤ 8388608) : Calls Tryd.prog 6 #[.agg #[.int .i64 9, .int .i64 0, .int .i64 n, .int .i64 off, .bool true, .string key, .string elem]] w fun e w' => e = .returned (.string (nameD 9 ++ ⟨#[32, 112, 97, 105, 114, 32]⟩ ++ bytesD key ++ ⟨#[32]⟩ ++ bytesD elem)) ∧ Keeps w w' (fun _ => False) := by
  have k0 : Keeps w (w.alloc (.cells #[.int .i64 9, .int .i64 0, .int .i64 n, .int .i64 off, .bool true, .string key, .string elem] 24)) (fun _ => False) := (Keeps.refl _ _).alloc _
  have hb := heap_alloc_new w (.cells #[.int .i64 9, .int .i64 0, .int .i64 n, .int .i64 off, .bool true, .string key, .string elem] 24)
  have hNm := rname_any 9 (w.alloc (.cells #[.int .i64 9, .int .i64 0, .int .i64 n, .int .i64 off, .bool true, .string key, .string elem] 24))
  have hNs := name_size 9
  have hNe := name_some (op := 9) rfl
  have K0 := hide k0
  have Hb := hide hb
  clear k0 hb
  generalize nameD 9 = ND at *
  have hN1 := fun (W : World) => rbytes_any key hk W
  have hN2 := fun (W : World) => rbytes_any elem he W
  have hz1 := bytes_size key hk
  have hz2 := bytes_size elem he
  have HN1 := hide hN1
  have HN2 := hide hN2
  clear hN1 hN2
  generalize bytesD key = E1 at *
  generalize bytesD elem = E2 at *
  have l1 : ¬ 9223372036854775807 < ND.size + 6 := by omega
  have l2 : ¬ 9223372036854775807 < ND.size + 6 + E1.size := by omega
  have l3 : ¬ 9223372036854775807 < ND.size + 6 + E1.size + 1 := by omega
  have l4 : ¬ 9223372036854775807 < ND.size + 6 + E1.size + 1 + E2.size := by omega
  have m1 : ND.size + 6 ≤ 9223372036854775807 := by omega
  have m2 : ND.size + 6 + E1.size ≤ 9223372036854775807 := by omega
  have m3 : ND.size + 6 + E1.size + 1 ≤ 9223372036854775807 := by omega
  have m4 : ND.size + 6 + E1.size + 1 + E2.size ≤ 9223372036854775807 := by omega
  go_enter Tryd.func6, Tryd.ntmps6
  go_wp2_with fail
  (with_reducible refine hNm.mono ?_)
  rintro e w1 ⟨rfl, k1⟩
  have K1 := hide (K0.out.trans k1 (fun _ _ e => e))
  obtain ⟨c0, c1, c2, c3, c4, c5, c6⟩ := ans_cells (k1.blk Hb.out)
  clear hNm k1 K0
  have S0 : w1.drew.cell? ⟨w.heap.size, 5, none⟩ = some (.string key) ∧ w1.drew.cell? ⟨w.heap.size, 6, none⟩ = some (.string elem) := ⟨c5, c6⟩
  go_wp2_with fail
  go_region_held3 (fun w' => w'.cell? ⟨w.heap.size, 5, none⟩ = some (.string key) ∧ w'.cell? ⟨w.heap.size, 6, none⟩ = some (.string elem)) (first | with_reducible exact S0 | with_reducible exact S1 | with_reducible exact S2 | with_reducible assumption)
    (first | (go_at_call 14; first | ((with_reducible refine (HN1.out _).mono ?_); rintro e w2 ⟨rfl, k2⟩; have K2 := hide (K1.out.drew.trans k2 (fun _ _ e => e)); have S1 := And.intro (keeps_cell k2 S0.1) (keeps_cell k2 S0.2)) | ((with_reducible refine (HN2.out _).mono ?_); rintro e w3 ⟨rfl, k3⟩; have K3 := hide (K2.out.trans k3 (fun _ _ e => e)); have S2 := And.intro (keeps_cell k3 S1.1) (keeps_cell k3 S1.2))))
  all_goals (
    go_wp2_with fail
    go_ret
    exact ⟨rfl, K3.out⟩)
set_option maxRecDepth 100000 in
set_option maxHeartbeats 4000000 in
theorem rs_14y (n off : Int) (yes : Bool) (key elem : ByteArray) (w : World) (hn : -9223372036854775808 ≤ n ∧ n ≤ 9223372036854775807) (ho : -9223372036854775808 ≤ off ∧ off ≤ 9223372036854775807) (h0 : n ≠ 0) : Calls Tryd.prog 6 #[.agg #[.int .i64 14, .int .i64 0, .int .i64 n, .int .i64 off, .bool yes, .string key, .string elem]] w fun e w' => e = .returned (.string (nameD 14 ++ ⟨#[32, 114, 117, 108, 101, 32]⟩ ++ numD n ++ ⟨#[32]⟩ ++ numD off)) ∧ Keeps w w' (fun _ => False) := by
  have e0 : (n == 0) = false := by simp [h0]
  have k0 : Keeps w (w.alloc (.cells #[.int .i64 14, .int .i64 0, .int .i64 n, .int .i64 off, .bool yes, .string key, .string elem] 24)) (fun _ => False) := (Keeps.refl _ _).alloc _
  have hb := heap_alloc_new w (.cells #[.int .i64 14, .int .i64 0, .int .i64 n, .int .i64 off, .bool yes, .string key, .string elem] 24)
  have hNm := rname_any 14 (w.alloc (.cells #[.int .i64 14, .int .i64 0, .int .i64 n, .int .i64 off, .bool yes, .string key, .string elem] 24))
  have hNs := name_size 14
  have hNe := name_some (op := 14) rfl
  have K0 := hide k0
  have Hb := hide hb
  clear k0 hb
  generalize nameD 14 = ND at *
  have hN1 := fun (W : World) => dec_any n hn.1 hn.2 W
  have hN2 := fun (W : World) => dec_any off ho.1 ho.2 W
  have hz1 := num_size n hn.1 hn.2
  have hz2 := num_size off ho.1 ho.2
  have HN1 := hide hN1
  have HN2 := hide hN2
  clear hN1 hN2
  generalize numD n = E1 at *
  generalize numD off = E2 at *
  have l1 : ¬ 9223372036854775807 < ND.size + 6 := by omega
  have l2 : ¬ 9223372036854775807 < ND.size + 6 + E1.size := by omega
  have l3 : ¬ 9223372036854775807 < ND.size + 6 + E1.size + 1 := by omega
  have l4 : ¬ 9223372036854775807 < ND.size + 6 + E1.size + 1 + E2.size := by omega
  have m1 : ND.size + 6 ≤ 9223372036854775807 := by omega
  have m2 : ND.size + 6 + E1.size ≤ 9223372036854775807 := by omega
  have m3 : ND.size + 6 + E1.size + 1 ≤ 9223372036854775807 := by omega
  have m4 : ND.size + 6 + E1.size + 1 + E2.size ≤ 9223372036854775807 := by omega
  go_enter Tryd.func6, Tryd.ntmps6
  go_wp2_with fail
  (with_reducible refine hNm.mono ?_)
  rintro e w1 ⟨rfl, k1⟩
  have K1 := hide (K0.out.trans k1 (fun _ _ e => e))
  obtain ⟨c0, c1, c2, c3, c4, c5, c6⟩ := ans_cells (k1.blk Hb.out)
  clear hNm k1 K0
  have S0 : w1.drew.cell? ⟨w.heap.size, 2, none⟩ = some (.int .i64 n) ∧ w1.drew.cell? ⟨w.heap.size, 3, none⟩ = some (.int .i64 off) := ⟨c2, c3⟩
  go_wp2_with fail
  go_region_held3 (fun w' => w'.cell? ⟨w.heap.size, 2, none⟩ = some (.int .i64 n) ∧ w'.cell? ⟨w.heap.size, 3, none⟩ = some (.int .i64 off)) (first | with_reducible exact S0 | with_reducible exact S1 | with_reducible exact S2 | with_reducible assumption)
    (first | (go_at_call 13; first | ((with_reducible refine (HN1.out _).mono ?_); rintro e w2 ⟨rfl, k2⟩; have K2 := hide (K1.out.drew.trans k2 (fun _ _ e => e)); have S1 := And.intro (keeps_cell k2 S0.1) (keeps_cell k2 S0.2)) | ((with_reducible refine (HN2.out _).mono ?_); rintro e w3 ⟨rfl, k3⟩; have K3 := hide (K2.out.trans k3 (fun _ _ e => e)); have S2 := And.intro (keeps_cell k3 S1.1) (keeps_cell k3 S1.2))))
  all_goals (
    go_wp2_with fail
    go_ret
    exact ⟨rfl, K3.out⟩)
end Go.Proofs.YtomlmbhbadicbaaDoor
