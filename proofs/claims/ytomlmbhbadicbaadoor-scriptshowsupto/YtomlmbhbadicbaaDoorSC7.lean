/-
  script: answerWords (made by gensc7.py).
-/
import Derived.Test.YtomlmbhbadicbaaDoorSC6
namespace Go.Proofs.YtomlmbhbadicbaaDoor
open Go.RowKit
set_option linter.unusedVariables false

theorem heap_new2 (w : World) (a b : Obj) : ((w.alloc a).alloc b).heap[w.heap.size + 1]? = some b := by
  have := heap_alloc_new (w.alloc a) b
  rwa [World.size_alloc] at this
/-- A new list of words. -/
def Words (w w' : World) (v : Value) (xs : List ByteArray) : Prop := Keeps w w' (fun _ => False) ∧ ((xs = [] ∧ v = .slice none 0 0) ∨ ∃ g, v = .slice (some ⟨g, 0, none⟩) xs.length xs.length ∧ 0 < xs.length ∧ w.heap.size ≤ g ∧ w'.heap[g]? = some (.cells (xs.map Value.string).toArray 9))
set_option maxRecDepth 100000 in
set_option maxHeartbeats 2000000 in
theorem aw_1 (err n off : Int) (yes : Bool) (key elem : ByteArray) (w : World) (hn : -9223372036854775808 ≤ n ∧ n ≤ 9223372036854775807) (ho : -9223372036854775808 ≤ off ∧ off ≤ 9223372036854775807) (ht : TabW w) : Calls Tryd.prog 10 #[.agg #[.int .i64 1, .int .i64 err, .int .i64 n, .int .i64 off, .bool yes, .string key, .string elem]] w fun e w' => ∃ v, e = .returned v ∧ Words w w' v [numD n] := by
  have k0 : Keeps w (w.alloc (.cells #[.int .i64 1, .int .i64 err, .int .i64 n, .int .i64 off, .bool yes, .string key, .string elem] 24)) (fun _ => False) := (Keeps.refl _ _).alloc _
  have hN := ntext_any n hn.1 hn.2 _ (ht.keeps k0)
  have K0 := hide k0
  clear k0
  generalize numD n = S at *
  go_enter Tryd.func10, Tryd.ntmps10
  go_wp2_with fail
  (with_reducible refine hN.mono ?_)
  rintro e w1 ⟨rfl, k1⟩
  have hz : w.heap.size ≤ w1.heap.size := (K0.out.trans k1 (fun _ _ e => e)).size
  go_wp2_with fail
  go_ret
  exact ⟨_, rfl, (K0.out.trans k1 (fun _ _ e => e)).alloc _, Or.inr ⟨_, rfl, by simp, hz, heap_alloc_new _ _⟩⟩
set_option maxRecDepth 100000 in
set_option maxHeartbeats 2000000 in
theorem aw_7 (err n off : Int) (yes : Bool) (key elem : ByteArray) (w : World) (hn : -9223372036854775808 ≤ n ∧ n ≤ 9223372036854775807) (ho : -9223372036854775808 ≤ off ∧ off ≤ 9223372036854775807) (ht : TabW w) : Calls Tryd.prog 10 #[.agg #[.int .i64 7, .int .i64 err, .int .i64 n, .int .i64 off, .bool yes, .string key, .string elem]] w fun e w' => ∃ v, e = .returned v ∧ Words w w' v [numD n] := by
  have k0 : Keeps w (w.alloc (.cells #[.int .i64 7, .int .i64 err, .int .i64 n, .int .i64 off, .bool yes, .string key, .string elem] 24)) (fun _ => False) := (Keeps.refl _ _).alloc _
  have hN := ntext_any n hn.1 hn.2 _ (ht.keeps k0)
  have K0 := hide k0
  clear k0
  generalize numD n = S at *
  go_enter Tryd.func10, Tryd.ntmps10
  go_wp2_with fail
  (with_reducible refine hN.mono ?_)
  rintro e w1 ⟨rfl, k1⟩
  have hz : w.heap.size ≤ w1.heap.size := (K0.out.trans k1 (fun _ _ e => e)).size
  go_wp2_with fail
  go_ret
  exact ⟨_, rfl, (K0.out.trans k1 (fun _ _ e => e)).alloc _, Or.inr ⟨_, rfl, by simp, hz, heap_alloc_new _ _⟩⟩
set_option maxRecDepth 100000 in
set_option maxHeartbeats 2000000 in
theorem aw_8 (err n off : Int) (yes : Bool) (key elem : ByteArray) (w : World) (hn : -9223372036854775808 ≤ n ∧ n ≤ 9223372036854775807) (ho : -9223372036854775808 ≤ off ∧ off ≤ 9223372036854775807) (ht : TabW w) : Calls Tryd.prog 10 #[.agg #[.int .i64 8, .int .i64 err, .int .i64 n, .int .i64 off, .bool yes, .string key, .string elem]] w fun e w' => ∃ v, e = .returned v ∧ Words w w' v [numD n] := by
  have k0 : Keeps w (w.alloc (.cells #[.int .i64 8, .int .i64 err, .int .i64 n, .int .i64 off, .bool yes, .string key, .string elem] 24)) (fun _ => False) := (Keeps.refl _ _).alloc _
  have hN := ntext_any n hn.1 hn.2 _ (ht.keeps k0)
  have K0 := hide k0
  clear k0
  generalize numD n = S at *
  go_enter Tryd.func10, Tryd.ntmps10
  go_wp2_with fail
  (with_reducible refine hN.mono ?_)
  rintro e w1 ⟨rfl, k1⟩
  have hz : w.heap.size ≤ w1.heap.size := (K0.out.trans k1 (fun _ _ e => e)).size
  go_wp2_with fail
  go_ret
  exact ⟨_, rfl, (K0.out.trans k1 (fun _ _ e => e)).alloc _, Or.inr ⟨_, rfl, by simp, hz, heap_alloc_new _ _⟩⟩
set_option maxRecDepth 100000 in
set_option maxHeartbeats 2000000 in
theorem aw_5 (err n off : Int) (yes : Bool) (key elem : ByteArray) (w : World) (hn : -9223372036854775808 ≤ n ∧ n ≤ 9223372036854775807) (ho : -9223372036854775808 ≤ off ∧ off ≤ 9223372036854775807) (ht : TabW w) : Calls Tryd.prog 10 #[.agg #[.int .i64 5, .int .i64 err, .int .i64 n, .int .i64 off, .bool yes, .string key, .string elem]] w fun e w' => ∃ v, e = .returned v ∧ Words w w' v [numD n] := by
  have k0 : Keeps w (w.alloc (.cells #[.int .i64 5, .int .i64 err, .int .i64 n, .int .i64 off, .bool yes, .string key, .string elem] 24)) (fun _ => False) := (Keeps.refl _ _).alloc _
  have hN := ntext_any n hn.1 hn.2 _ (ht.keeps k0)
  have K0 := hide k0
  clear k0
  generalize numD n = S at *
  go_enter Tryd.func10, Tryd.ntmps10
  go_wp2_with fail
  (with_reducible refine hN.mono ?_)
  rintro e w1 ⟨rfl, k1⟩
  have hz : w.heap.size ≤ w1.heap.size := (K0.out.trans k1 (fun _ _ e => e)).size
  go_wp2_with fail
  go_ret
  exact ⟨_, rfl, (K0.out.trans k1 (fun _ _ e => e)).alloc _, Or.inr ⟨_, rfl, by simp, hz, heap_alloc_new _ _⟩⟩
set_option maxRecDepth 100000 in
set_option maxHeartbeats 2000000 in
theorem aw_11 (err n off : Int) (yes : Bool) (key elem : ByteArray) (w : World) (hn : -9223372036854775808 ≤ n ∧ n ≤ 9223372036854775807) (ho : -9223372036854775808 ≤ off ∧ off ≤ 9223372036854775807) (ht : TabW w) : Calls Tryd.prog 10 #[.agg #[.int .i64 11, .int .i64 err, .int .i64 n, .int .i64 off, .bool yes, .string key, .string elem]] w fun e w' => ∃ v, e = .returned v ∧ Words w w' v [numD n] := by
  have k0 : Keeps w (w.alloc (.cells #[.int .i64 11, .int .i64 err, .int .i64 n, .int .i64 off, .bool yes, .string key, .string elem] 24)) (fun _ => False) := (Keeps.refl _ _).alloc _
  have hN := ntext_any n hn.1 hn.2 _ (ht.keeps k0)
  have K0 := hide k0
  clear k0
  generalize numD n = S at *
  go_enter Tryd.func10, Tryd.ntmps10
  go_wp2_with fail
  (with_reducible refine hN.mono ?_)
  rintro e w1 ⟨rfl, k1⟩
  have hz : w.heap.size ≤ w1.heap.size := (K0.out.trans k1 (fun _ _ e => e)).size
  go_wp2_with fail
  go_ret
  exact ⟨_, rfl, (K0.out.trans k1 (fun _ _ e => e)).alloc _, Or.inr ⟨_, rfl, by simp, hz, heap_alloc_new _ _⟩⟩
set_option maxRecDepth 100000 in
set_option maxHeartbeats 2000000 in
theorem aw_12 (err n off : Int) (yes : Bool) (key elem : ByteArray) (w : World) (hn : -9223372036854775808 ≤ n ∧ n ≤ 9223372036854775807) (ho : -9223372036854775808 ≤ off ∧ off ≤ 9223372036854775807) (ht : TabW w) : Calls Tryd.prog 10 #[.agg #[.int .i64 12, .int .i64 err, .int .i64 n, .int .i64 off, .bool yes, .string key, .string elem]] w fun e w' => ∃ v, e = .returned v ∧ Words w w' v [numD n] := by
  have k0 : Keeps w (w.alloc (.cells #[.int .i64 12, .int .i64 err, .int .i64 n, .int .i64 off, .bool yes, .string key, .string elem] 24)) (fun _ => False) := (Keeps.refl _ _).alloc _
  have hN := ntext_any n hn.1 hn.2 _ (ht.keeps k0)
  have K0 := hide k0
  clear k0
  generalize numD n = S at *
  go_enter Tryd.func10, Tryd.ntmps10
  go_wp2_with fail
  (with_reducible refine hN.mono ?_)
  rintro e w1 ⟨rfl, k1⟩
  have hz : w.heap.size ≤ w1.heap.size := (K0.out.trans k1 (fun _ _ e => e)).size
  go_wp2_with fail
  go_ret
  exact ⟨_, rfl, (K0.out.trans k1 (fun _ _ e => e)).alloc _, Or.inr ⟨_, rfl, by simp, hz, heap_alloc_new _ _⟩⟩
set_option maxRecDepth 100000 in
set_option maxHeartbeats 2000000 in
theorem aw_13 (err n off : Int) (yes : Bool) (key elem : ByteArray) (w : World) (hn : -9223372036854775808 ≤ n ∧ n ≤ 9223372036854775807) (ho : -9223372036854775808 ≤ off ∧ off ≤ 9223372036854775807) (ht : TabW w) : Calls Tryd.prog 10 #[.agg #[.int .i64 13, .int .i64 err, .int .i64 n, .int .i64 off, .bool yes, .string key, .string elem]] w fun e w' => ∃ v, e = .returned v ∧ Words w w' v [numD n] := by
  have k0 : Keeps w (w.alloc (.cells #[.int .i64 13, .int .i64 err, .int .i64 n, .int .i64 off, .bool yes, .string key, .string elem] 24)) (fun _ => False) := (Keeps.refl _ _).alloc _
  have hN := ntext_any n hn.1 hn.2 _ (ht.keeps k0)
  have K0 := hide k0
  clear k0
  generalize numD n = S at *
  go_enter Tryd.func10, Tryd.ntmps10
  go_wp2_with fail
  (with_reducible refine hN.mono ?_)
  rintro e w1 ⟨rfl, k1⟩
  have hz : w.heap.size ≤ w1.heap.size := (K0.out.trans k1 (fun _ _ e => e)).size
  go_wp2_with fail
  go_ret
  exact ⟨_, rfl, (K0.out.trans k1 (fun _ _ e => e)).alloc _, Or.inr ⟨_, rfl, by simp, hz, heap_alloc_new _ _⟩⟩
set_option maxRecDepth 100000 in
set_option maxHeartbeats 2000000 in
theorem aw_2n (err n off : Int) (key elem : ByteArray) (w : World) : Calls Tryd.prog 10 #[.agg #[.int .i64 2, .int .i64 err, .int .i64 n, .int .i64 off, .bool false, .string key, .string elem]] w fun e w' => ∃ v, e = .returned v ∧ Words w w' v [⟨#[110, 111]⟩] := by
  go_enter Tryd.func10, Tryd.ntmps10
  go_wp2_with fail
  go_ret
  exact ⟨_, rfl, ((Keeps.refl _ _).alloc _).alloc _, Or.inr ⟨_, rfl, by simp, Nat.le_succ _, heap_new2 _ _ _⟩⟩
set_option maxRecDepth 100000 in
set_option maxHeartbeats 2000000 in
theorem aw_3y (err n off : Int) (key elem : ByteArray) (w : World) : Calls Tryd.prog 10 #[.agg #[.int .i64 3, .int .i64 err, .int .i64 n, .int .i64 off, .bool true, .string key, .string elem]] w fun e w' => ∃ v, e = .returned v ∧ Words w w' v [⟨#[110, 101, 119]⟩] := by
  go_enter Tryd.func10, Tryd.ntmps10
  go_wp2_with fail
  go_ret
  exact ⟨_, rfl, ((Keeps.refl _ _).alloc _).alloc _, Or.inr ⟨_, rfl, by simp, Nat.le_succ _, heap_new2 _ _ _⟩⟩
set_option maxRecDepth 100000 in
set_option maxHeartbeats 2000000 in
theorem aw_3n (err n off : Int) (key elem : ByteArray) (w : World) : Calls Tryd.prog 10 #[.agg #[.int .i64 3, .int .i64 err, .int .i64 n, .int .i64 off, .bool false, .string key, .string elem]] w fun e w' => ∃ v, e = .returned v ∧ Words w w' v [⟨#[111, 108, 100]⟩] := by
  go_enter Tryd.func10, Tryd.ntmps10
  go_wp2_with fail
  go_ret
  exact ⟨_, rfl, ((Keeps.refl _ _).alloc _).alloc _, Or.inr ⟨_, rfl, by simp, Nat.le_succ _, heap_new2 _ _ _⟩⟩
set_option maxRecDepth 100000 in
set_option maxHeartbeats 2000000 in
theorem aw_4y (err n off : Int) (key elem : ByteArray) (w : World) : Calls Tryd.prog 10 #[.agg #[.int .i64 4, .int .i64 err, .int .i64 n, .int .i64 off, .bool true, .string key, .string elem]] w fun e w' => ∃ v, e = .returned v ∧ Words w w' v [⟨#[121, 101, 115]⟩] := by
  go_enter Tryd.func10, Tryd.ntmps10
  go_wp2_with fail
  go_ret
  exact ⟨_, rfl, ((Keeps.refl _ _).alloc _).alloc _, Or.inr ⟨_, rfl, by simp, Nat.le_succ _, heap_new2 _ _ _⟩⟩
set_option maxRecDepth 100000 in
set_option maxHeartbeats 2000000 in
theorem aw_4n (err n off : Int) (key elem : ByteArray) (w : World) : Calls Tryd.prog 10 #[.agg #[.int .i64 4, .int .i64 err, .int .i64 n, .int .i64 off, .bool false, .string key, .string elem]] w fun e w' => ∃ v, e = .returned v ∧ Words w w' v [⟨#[110, 111]⟩] := by
  go_enter Tryd.func10, Tryd.ntmps10
  go_wp2_with fail
  go_ret
  exact ⟨_, rfl, ((Keeps.refl _ _).alloc _).alloc _, Or.inr ⟨_, rfl, by simp, Nat.le_succ _, heap_new2 _ _ _⟩⟩
set_option maxRecDepth 100000 in
set_option maxHeartbeats 2000000 in
theorem aw_9n (err n off : Int) (key elem : ByteArray) (w : World) : Calls Tryd.prog 10 #[.agg #[.int .i64 9, .int .i64 err, .int .i64 n, .int .i64 off, .bool false, .string key, .string elem]] w fun e w' => ∃ v, e = .returned v ∧ Words w w' v [⟨#[100, 111, 110, 101]⟩] := by
  go_enter Tryd.func10, Tryd.ntmps10
  go_wp2_with fail
  go_ret
  exact ⟨_, rfl, ((Keeps.refl _ _).alloc _).alloc _, Or.inr ⟨_, rfl, by simp, Nat.le_succ _, heap_new2 _ _ _⟩⟩
set_option maxRecDepth 100000 in
set_option maxHeartbeats 2000000 in
theorem aw_14n (err n off : Int) (yes : Bool) (key elem : ByteArray) (w : World) (h0 : n = 0) : Calls Tryd.prog 10 #[.agg #[.int .i64 14, .int .i64 err, .int .i64 n, .int .i64 off, .bool yes, .string key, .string elem]] w fun e w' => ∃ v, e = .returned v ∧ Words w w' v [⟨#[102, 105, 110, 101]⟩] := by
  subst h0
  go_enter Tryd.func10, Tryd.ntmps10
  go_wp2_with fail
  go_ret
  exact ⟨_, rfl, ((Keeps.refl _ _).alloc _).alloc _, Or.inr ⟨_, rfl, by simp, Nat.le_succ _, heap_new2 _ _ _⟩⟩
set_option maxRecDepth 100000 in
set_option maxHeartbeats 2000000 in
theorem aw_2y (err n off : Int) (key elem : ByteArray) (w : World) (hk : key.size ≤ 8388608) (he : elem.size ≤ 8388608) : Calls Tryd.prog 10 #[.agg #[.int .i64 2, .int .i64 err, .int .i64 n, .int .i64 off, .bool true, .string key, .string elem]] w fun e w' => ∃ v, e = .returned v ∧ Words w w' v [⟨#[121, 101, 115]⟩, bytesD elem] := by
  have k0 : Keeps w (w.alloc (.cells #[.int .i64 2, .int .i64 err, .int .i64 n, .int .i64 off, .bool true, .string key, .string elem] 24)) (fun _ => False) := (Keeps.refl _ _).alloc _
  have hN := btext_any elem he (w.alloc (.cells #[.int .i64 2, .int .i64 err, .int .i64 n, .int .i64 off, .bool true, .string key, .string elem] 24))
  have K0 := hide k0
  clear k0
  generalize bytesD elem = S at *
  go_enter Tryd.func10, Tryd.ntmps10
  go_wp2_with fail
  (with_reducible refine hN.mono ?_)
  rintro e w1 ⟨rfl, k1⟩
  have hz : w.heap.size ≤ w1.heap.size := (K0.out.trans k1 (fun _ _ e => e)).size
  go_wp2_with fail
  go_ret
  exact ⟨_, rfl, (K0.out.trans k1 (fun _ _ e => e)).alloc _, Or.inr ⟨_, rfl, by simp, hz, heap_alloc_new _ _⟩⟩
set_option maxRecDepth 100000 in
set_option maxHeartbeats 2000000 in
theorem aw_9y (err n off : Int) (key elem : ByteArray) (w : World) (hk : key.size ≤ 8388608) (he : elem.size ≤ 8388608) : Calls Tryd.prog 10 #[.agg #[.int .i64 9, .int .i64 err, .int .i64 n, .int .i64 off, .bool true, .string key, .string elem]] w fun e w' => ∃ v, e = .returned v ∧ Words w w' v [⟨#[112, 97, 105, 114]⟩, bytesD key, bytesD elem] := by
  have k0 : Keeps w (w.alloc (.cells #[.int .i64 9, .int .i64 err, .int .i64 n, .int .i64 off, .bool true, .string key, .string elem] 24)) (fun _ => False) := (Keeps.refl _ _).alloc _
  have hb := heap_alloc_new w (.cells #[.int .i64 9, .int .i64 err, .int .i64 n, .int .i64 off, .bool true, .string key, .string elem] 24)
  have hN1 := fun (W : World) (k : Keeps w W (fun _ => False)) => btext_any key hk W
  have hN2 := fun (W : World) (k : Keeps w W (fun _ => False)) => btext_any elem he W
  have HN1 := hide hN1
  have HN2 := hide hN2
  have S0 : (w.alloc (.cells #[.int .i64 9, .int .i64 err, .int .i64 n, .int .i64 off, .bool true, .string key, .string elem] 24)).drew.cell? ⟨w.heap.size, 5, none⟩ = some (.string key) ∧ (w.alloc (.cells #[.int .i64 9, .int .i64 err, .int .i64 n, .int .i64 off, .bool true, .string key, .string elem] 24)).drew.cell? ⟨w.heap.size, 6, none⟩ = some (.string elem) := by
    constructor <;> (show World.cell? (w.alloc _) _ = _; simp only [World.cell?, hb]; rfl)
  have K0 := hide k0
  clear k0 hb hN1 hN2
  go_enter Tryd.func10, Tryd.ntmps10
  go_wp2_with fail
  go_region_held3 (fun w' => w'.cell? ⟨w.heap.size, 5, none⟩ = some (.string key) ∧ w'.cell? ⟨w.heap.size, 6, none⟩ = some (.string elem)) (first | with_reducible exact S0 | with_reducible exact S1 | with_reducible exact S2 | exact ⟨by rw [World.cell?_alloc_lt _ _ _ (World.block_lt_of_cell? _ _ S2.1)]; exact S2.1, by rw [World.cell?_alloc_lt _ _ _ (World.block_lt_of_cell? _ _ S2.2)]; exact S2.2⟩ | with_reducible assumption)
    (first | (go_at_call 19; first | ((with_reducible refine (HN1.out _ K0.out.drew).mono ?_); rintro e w1 ⟨rfl, k1⟩; have K1 := hide (K0.out.drew.trans k1 (fun _ _ e => e)); have S1 := And.intro (keeps_cell k1 S0.1) (keeps_cell k1 S0.2)) | ((with_reducible refine (HN2.out _ K1.out).mono ?_); rintro e w2 ⟨rfl, k2⟩; have K2 := hide (K1.out.trans k2 (fun _ _ e => e)); have S2 := And.intro (keeps_cell k2 S1.1) (keeps_cell k2 S1.2))))
  all_goals (
    go_wp2_with fail
    go_ret
    exact ⟨_, rfl, K2.out.alloc _, Or.inr ⟨_, rfl, by simp, K2.out.size, heap_alloc_new _ _⟩⟩)
set_option maxRecDepth 100000 in
set_option maxHeartbeats 2000000 in
theorem aw_14y (err n off : Int) (yes : Bool) (key elem : ByteArray) (w : World) (hn : -9223372036854775808 ≤ n ∧ n ≤ 9223372036854775807) (ho : -9223372036854775808 ≤ off ∧ off ≤ 9223372036854775807) (ht : TabW w) (h0 : n ≠ 0) : Calls Tryd.prog 10 #[.agg #[.int .i64 14, .int .i64 err, .int .i64 n, .int .i64 off, .bool yes, .string key, .string elem]] w fun e w' => ∃ v, e = .returned v ∧ Words w w' v [⟨#[114, 117, 108, 101]⟩, numD n, numD off] := by
  have k0 : Keeps w (w.alloc (.cells #[.int .i64 14, .int .i64 err, .int .i64 n, .int .i64 off, .bool yes, .string key, .string elem] 24)) (fun _ => False) := (Keeps.refl _ _).alloc _
  have hb := heap_alloc_new w (.cells #[.int .i64 14, .int .i64 err, .int .i64 n, .int .i64 off, .bool yes, .string key, .string elem] 24)
  have e0 : (n != 0) = true := by simp [h0]
  have hN1 := fun (W : World) (k : Keeps w W (fun _ => False)) => ntext_any n hn.1 hn.2 W (ht.keeps k)
  have hN2 := fun (W : World) (k : Keeps w W (fun _ => False)) => ntext_any off ho.1 ho.2 W (ht.keeps k)
  have HN1 := hide hN1
  have HN2 := hide hN2
  have S0 : (w.alloc (.cells #[.int .i64 14, .int .i64 err, .int .i64 n, .int .i64 off, .bool yes, .string key, .string elem] 24)).drew.cell? ⟨w.heap.size, 2, none⟩ = some (.int .i64 n) ∧ (w.alloc (.cells #[.int .i64 14, .int .i64 err, .int .i64 n, .int .i64 off, .bool yes, .string key, .string elem] 24)).drew.cell? ⟨w.heap.size, 3, none⟩ = some (.int .i64 off) := by
    constructor <;> (show World.cell? (w.alloc _) _ = _; simp only [World.cell?, hb]; rfl)
  have K0 := hide k0
  clear k0 hb hN1 hN2
  go_enter Tryd.func10, Tryd.ntmps10
  go_wp2_with fail
  go_region_held3 (fun w' => w'.cell? ⟨w.heap.size, 2, none⟩ = some (.int .i64 n) ∧ w'.cell? ⟨w.heap.size, 3, none⟩ = some (.int .i64 off)) (first | with_reducible exact S0 | with_reducible exact S1 | with_reducible exact S2 | exact ⟨by rw [World.cell?_alloc_lt _ _ _ (World.block_lt_of_cell? _ _ S2.1)]; exact S2.1, by rw [World.cell?_alloc_lt _ _ _ (World.block_lt_of_cell? _ _ S2.2)]; exact S2.2⟩ | with_reducible assumption)
    (first | (go_at_call 9; first | ((with_reducible refine (HN1.out _ K0.out.drew).mono ?_); rintro e w1 ⟨rfl, k1⟩; have K1 := hide (K0.out.drew.trans k1 (fun _ _ e => e)); have S1 := And.intro (keeps_cell k1 S0.1) (keeps_cell k1 S0.2)) | ((with_reducible refine (HN2.out _ K1.out).mono ?_); rintro e w2 ⟨rfl, k2⟩; have K2 := hide (K1.out.trans k2 (fun _ _ e => e)); have S2 := And.intro (keeps_cell k2 S1.1) (keeps_cell k2 S1.2))))
  all_goals (
    go_wp2_with fail
    go_ret
    exact ⟨_, rfl, K2.out.alloc _, Or.inr ⟨_, rfl, by simp, K2.out.size, heap_alloc_new _ _⟩⟩)
set_option maxRecDepth 100000 in
set_option maxHeartbeats 2000000 in
theorem aw_none (op err n off : Int) (yes : Bool) (key elem : ByteArray) (w : World) (h : ∀ k : Int, k ∈ [(1 : Int), 2, 3, 4, 5, 7, 8, 9, 11, 12, 13, 14] → op ≠ k) : Calls Tryd.prog 10 #[.agg #[.int .i64 op, .int .i64 err, .int .i64 n, .int .i64 off, .bool yes, .string key, .string elem]] w fun e w' => ∃ v, e = .returned v ∧ Words w w' v [] := by
  have e1 : (op == 1) = false := beq_eq_false_iff_ne.2 (fun e => h 1 (by simp) e)
  have e2 : (op == 2) = false := beq_eq_false_iff_ne.2 (fun e => h 2 (by simp) e)
  have e3 : (op == 3) = false := beq_eq_false_iff_ne.2 (fun e => h 3 (by simp) e)
  have e4 : (op == 4) = false := beq_eq_false_iff_ne.2 (fun e => h 4 (by simp) e)
  have e5 : (op == 5) = false := beq_eq_false_iff_ne.2 (fun e => h 5 (by simp) e)
  have e7 : (op == 7) = false := beq_eq_false_iff_ne.2 (fun e => h 7 (by simp) e)
  have e8 : (op == 8) = false := beq_eq_false_iff_ne.2 (fun e => h 8 (by simp) e)
  have e9 : (op == 9) = false := beq_eq_false_iff_ne.2 (fun e => h 9 (by simp) e)
  have e11 : (op == 11) = false := beq_eq_false_iff_ne.2 (fun e => h 11 (by simp) e)
  have e12 : (op == 12) = false := beq_eq_false_iff_ne.2 (fun e => h 12 (by simp) e)
  have e13 : (op == 13) = false := beq_eq_false_iff_ne.2 (fun e => h 13 (by simp) e)
  have e14 : (op == 14) = false := beq_eq_false_iff_ne.2 (fun e => h 14 (by simp) e)
  clear h
  go_enter Tryd.func10, Tryd.ntmps10
  go_wp2_with fail
  go_ret
  exact ⟨_, rfl, (Keeps.refl _ _).alloc _, Or.inl ⟨rfl, rfl⟩⟩
end Go.Proofs.YtomlmbhbadicbaaDoor
