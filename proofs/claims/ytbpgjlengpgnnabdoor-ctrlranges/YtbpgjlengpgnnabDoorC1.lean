/-
  The calls of ctrl: what each answers.
-/
import Derived.Test.YtbpgjlengpgnnabDoorChecked
import Derived.Test.YtbpgjlengpgnnabDoorCD
import Derived.WalkKit
import Derived.Below
import Derived.ProofKit
import Derived.IntWalk
import Derived.Laws.Bits64
import Derived.Laws.BitsAll
import Derived.Deep.QuietTactic
import Derived.BigQuiet
import Derived.Outline
namespace Go.Proofs.YtbpgjlengpgnnabDoor
open Go.RowKit
set_option linter.unusedVariables false

theorem u64_nat {n : Int} (h : (Lit.int .u64 n).wf = true) : ∃ m : Nat, n = (m : Int) ∧ m < 18446744073709551616 := by
  have h2 : 0 ≤ n ∧ n < 18446744073709551616 := by
    have e1 : IntKind.u64.min = 0 := rfl
    have e2 : IntKind.u64.max = 18446744073709551615 := rfl
    simp only [Lit.wf, decide_eq_true_eq, Bool.and_eq_true] at h
    rw [e1, e2] at h
    omega
  exact ⟨n.toNat, by omega, by omega⟩

/-- What was there stays; what is new may be anything. -/
def Kp (w w' : World) : Prop := Below w.heap.size w w'
theorem Kp.refl (w : World) : Kp w w := Below.refl _ _
theorem Kp.trans {w w1 w2 : World} (h : Kp w w1) (k : Kp w1 w2) : Kp w w2 := Below.trans h (Below.mono k h.size)
theorem Kp.alloc {w w1 : World} (h : Kp w w1) (o : Obj) : Kp w (w1.alloc o) := Below.alloc h h.size o
theorem Kp.drew {w w1 : World} (h : Kp w w1) : Kp w w1.drew := Below.drew h
theorem Kp.drewN {w w1 : World} (h : Kp w w1) (n : Nat) : Kp w (w1.drewN n) := ⟨h.os, h.tape, h.output, h.size, h.block⟩
theorem Kp.cell {w w1 : World} (h : Kp w w1) {p : Addr} {v : Value} (hp : w.cell? p = some v) : w1.cell? p = some v := by
  have : p.block < w.heap.size := by
    refine Nat.lt_of_not_le fun hn => ?_
    rw [World.cell?, Array.getElem?_eq_none hn] at hp
    cases hp
  exact (Below.cell h this).trans hp
theorem Kp.blk {w w1 : World} (h : Kp w w1) {b : Nat} {x : Obj} (hb : w.heap[b]? = some x) : w1.heap[b]? = some x :=
  (h.block b (Array.getElem?_eq_some_iff.1 hb).1).trans hb
theorem hide {p : Prop} (h : p) : Hid p := h
theorem heap_new (w : World) (o : Obj) : (w.alloc o).heap[w.heap.size]? = some o := by
  show (w.heap.push o)[w.heap.size]? = _
  simp
theorem heap_old {w : World} {b : Nat} {x : Obj} (h : w.heap[b]? = some x) (o : Obj) : (w.alloc o).heap[b]? = some x :=
  (Below.heap_alloc w o b (Array.getElem?_eq_some_iff.1 h).1).trans h
theorem set_one {w : World} {b : Nat} {cs : Array Value} {t : TypeId} (h : w.heap[b]? = some (.cells cs t)) (i : Nat) (v : Value) (hi : i < cs.size) :
    (w.setCell ⟨b, i, none⟩ v).heap[b]? = some (.cells (cs.set i v hi) t) := by
  have hlt := (Array.getElem?_eq_some_iff.1 h).1
  have hv := (Array.getElem?_eq_some_iff.1 h).2
  simp only [World.setCell, Array.getElem?_modify]
  simp [hlt, hv, hi, Array.setIfInBounds]
theorem one_cell {w : World} {b : Nat} {v : Value} {t : TypeId} (h : w.heap[b]? = some (.cells #[v] t)) : w.cell? ⟨b, 0, none⟩ = some v ∧ w.frozen? ⟨b, 0, none⟩ = false := by
  simp [World.cell?, World.frozen?, h]
theorem one_set {w0 w : World} {b : Nat} {u v : Value} {t : TypeId} (h : w.heap[b]? = some (.cells #[u] t)) (k : Kp w0 w) (hb : w0.heap.size ≤ b)
    {P : World → Prop} (hP : ∀ w9, w9.heap[b]? = some (.cells #[v] t) → Kp w0 w9 → P w9) : P (w.setCell ⟨b, 0, none⟩ v) :=
  hP _ (set_one h 0 v (by simp)) (Below.setCell k hb _)

/-- A set of slots as the program hands it on. -/
def setV (m : Nat) : Value := .agg #[.int .u64 ((spread m : Nat) : Int)]

set_option maxHeartbeats 400000 in
theorem isSlot_yes (i : Int) (h0 : 0 ≤ i) (h8 : i < 8) (w : World) :
    Calls Tryd.prog 30 #[.int .i64 i] w fun e w' => e = .returned (.bool true) ∧ w' = w := by
  go_enter Tryd.func30, Tryd.ntmps30
  go_wp2_with fail
  go_ret
  exact ⟨rfl, rfl⟩

set_option maxHeartbeats 400000 in
theorem isSlot_no (i : Int) (h : ¬ (0 ≤ i ∧ i < 8)) (w : World) :
    Calls Tryd.prog 30 #[.int .i64 i] w fun e w' => e = .returned (.bool false) ∧ w' = w := by
  by_cases h0 : 0 ≤ i
  · have h8 : ¬ i < 8 := fun q => h ⟨h0, q⟩
    clear h
    go_enter Tryd.func30, Tryd.ntmps30
    go_wp2_with fail
    go_ret
    exact ⟨rfl, rfl⟩
  · clear h
    go_enter Tryd.func30, Tryd.ntmps30
    go_wp2_with fail
    go_ret
    exact ⟨rfl, rfl⟩

set_option maxHeartbeats 400000 in
theorem empty_any (w : World) :
    Calls Tryd.prog 17 #[] w fun e w' => e = .returned (.int .u64 9259542123273814144) ∧ w' = w := by
  go_enter Tryd.func17, Tryd.ntmps17
  go_wp2_with fail
  go_ret
  exact ⟨rfl, rfl⟩

theorem not_u64 (a : Nat) (ha : a < 18446744073709551616) : bits BinOp.xor IntKind.u64 IntKind.u64.max (a : Int) = ((18446744073709551615 - a : Nat) : Int) := by
  have e : IntKind.u64.max = ((18446744073709551615 : Nat) : Int) := rfl
  rw [e, bits_xor_u64_nat _ _ (by decide) ha]
  congr 1
  have h := Nat.xor_comm 18446744073709551615 a
  have e2 : (18446744073709551615 : Nat) = 2 ^ 64 - 1 := by decide
  refine Nat.eq_of_testBit_eq fun i => ?_
  rw [e2, Nat.sub_sub, Nat.add_comm 1 a, Nat.testBit_two_pow_sub_succ (by exact ha), Nat.testBit_xor, Nat.testBit_two_pow_sub_one]
  by_cases h : i < 64
  · simp [h]
  · have : a.testBit i = false := Nat.testBit_lt_two_pow (Nat.lt_of_lt_of_le ha (Nat.pow_le_pow_right (n := 2) (by decide) (by omega : 64 ≤ i)))
    simp [h, this]

set_option maxHeartbeats 400000 in
theorem equal_any (W c : Nat) (hw : W < 18446744073709551616) (hc : c < 256) (w : World) :
    Calls Tryd.prog 25 #[.int .u64 (W : Int), .int .u64 (c : Int)] w fun e w' => e = .returned (setV (mk (· == c) W)) ∧ Kp w w' := by
  unfold setV
  rw [← eqN_spread hw hc]
  have x1 : bits BinOp.xor IntKind.u64 (W : Int) ((c : Int) * 72340172838076673) = ((xN W c : Nat) : Int) := by
    have := bits_xor_u64_nat W (c * 72340172838076673) hw (by omega)
    rw [Int.natCast_mul] at this
    exact this
  have hx := xN_lt hw hc
  have x2 : bits BinOp.and IntKind.u64 ((xN W c : Nat) : Int) 9187201950435737471 = ((xN W c &&& 9187201950435737471 : Nat) : Int) := u64_and_nat _ 9187201950435737471 hx (by decide)
  have x3 : IntKind.u64.wrap (((xN W c &&& 9187201950435737471 : Nat) : Int) + 9187201950435737471) = (((xN W c &&& 9187201950435737471) + 9187201950435737471 : Nat) : Int) := by
    rw [IntKind.wrap_u64]
    have := sum_lt (xN W c)
    omega
  have x4 : bits BinOp.or IntKind.u64 ((xN W c : Nat) : Int) (((xN W c &&& 9187201950435737471) + 9187201950435737471 : Nat) : Int) = ((difN W c : Nat) : Int) := u64_or_nat _ _ hx (sum_lt _)
  have x5 := not_u64 (difN W c) (difN_lt hw hc)
  have x6 : bits BinOp.and IntKind.u64 ((18446744073709551615 - difN W c : Nat) : Int) 9259542123273814144 = ((eqN W c : Nat) : Int) := u64_and_nat _ 9259542123273814144 (by omega) (by decide)
  generalize (18446744073709551615 - difN W c) = z5 at *
  generalize eqN W c = z6 at *
  generalize difN W c = z4 at *
  generalize ((xN W c &&& 9187201950435737471) + 9187201950435737471) = z3 at *
  generalize (xN W c &&& 9187201950435737471) = z2 at *
  generalize xN W c = z1 at *
  go_enter Tryd.func25, Tryd.ntmps25
  go_wp2_with fail
  refine bodyPost_ret (v := .agg #[.int .u64 (z6 : Int)]) (by simp [results, Tryd.results25, go_sem]) rfl ⟨rfl, (Kp.refl _).alloc _⟩

set_option maxHeartbeats 400000 in
theorem full_any (W : Nat) (hw : W < 18446744073709551616) (w : World) :
    Calls Tryd.prog 7 #[.int .u64 (W : Int)] w fun e w' => e = .returned (setV (mk (fun x => decide (x < 128)) W)) ∧ Kp w w' := by
  unfold setV
  rw [← full_spread hw]
  have x5 := not_u64 W hw
  have x6 : bits BinOp.and IntKind.u64 ((18446744073709551615 - W : Nat) : Int) 9259542123273814144 = (((18446744073709551615 - W) &&& 9259542123273814144 : Nat) : Int) := u64_and_nat _ 9259542123273814144 (by omega) (by decide)
  generalize ((18446744073709551615 - W) &&& 9259542123273814144) = z6 at *
  generalize (18446744073709551615 - W) = z5 at *
  go_enter Tryd.func7, Tryd.ntmps7
  go_wp2_with fail
  refine bodyPost_ret (v := .agg #[.int .u64 (z6 : Int)]) (by simp [results, Tryd.results7, go_sem]) rfl ⟨rfl, (Kp.refl _).alloc _⟩

theorem field_set (n : Int) (w : World) : Sem.run Tryd.prog (Instr.field 26 (.agg #[.int .u64 n]) 0) w = .ok (.int .u64 n) w := by kernel_rfl

set_option maxHeartbeats 400000 in
theorem mempty_any (W : Nat) (hw : W < 18446744073709551616) (w : World) :
    Calls Tryd.prog 11 #[.int .u64 (W : Int)] w fun e w' => e = .returned (setV (mk (· == 128) W)) ∧ Kp w w' := by
  have t1 : ∀ w, Calls Tryd.prog 25 #[.int .u64 (W : Int), .int .u64 128] w fun e w' => e = .returned (setV (mk (· == 128) W)) ∧ Kp w w' := equal_any W 128 hw (by decide)
  unfold setV at *
  generalize spread (mk (· == 128) W) = M at *
  go_enter Tryd.func11, Tryd.ntmps11
  go_wp2_with fail
  refine (t1 _).mono ?_
  rintro e w' ⟨rfl, k1⟩
  have hB := k1.blk (heap_new _ _)
  replace k1 := ((Kp.refl w).alloc _).trans k1
  obtain ⟨b0, b1⟩ := one_cell hB
  go_wp2_with fail
  refine one_set hB k1 (Nat.le_refl _) (P := fun w9 => bodyPost _ _ _ _ _ w9) fun w9 h9 k9 => ?_
  obtain ⟨c0, -⟩ := one_cell h9
  refine bodyPost_ret (v := .agg #[.int .u64 (M : Int)]) (by simp [results, Tryd.results11, go_sem, c0]) rfl ⟨rfl, k9⟩

set_option maxHeartbeats 400000 in
theorem vacant_any (W : Nat) (hw : W < 18446744073709551616) (w : World) :
    Calls Tryd.prog 9 #[.int .u64 (W : Int)] w fun e w' => e = .returned (setV (mk (fun x => x == 128 || x == 254) W)) ∧ Kp w w' := by
  have t1 : ∀ w, Calls Tryd.prog 25 #[.int .u64 (W : Int), .int .u64 128] w fun e w' => e = .returned (setV (mk (· == 128) W)) ∧ Kp w w' := equal_any W 128 hw (by decide)
  have t2 : ∀ w, Calls Tryd.prog 25 #[.int .u64 (W : Int), .int .u64 254] w fun e w' => e = .returned (setV (mk (· == 254) W)) ∧ Kp w w' := equal_any W 254 hw (by decide)
  have x6 : bits BinOp.or IntKind.u64 ((spread (mk (· == 128) W) : Nat) : Int) ((spread (mk (· == 254) W) : Nat) : Int) = ((spread (mk (fun x => x == 128 || x == 254) W) : Nat) : Int) := by
    rw [u64_or_nat _ _ (spread_lt _) (spread_lt _), or_spread]
  have fl := field_set
  unfold setV at *
  generalize spread (mk (· == 128) W) = z1 at *
  generalize spread (mk (· == 254) W) = z2 at *
  generalize spread (mk (fun x => x == 128 || x == 254) W) = z3 at *
  go_enter Tryd.func9, Tryd.ntmps9
  go_wp2_with fail
  refine (t1 _).mono ?_
  rintro e w1 ⟨rfl, k1⟩
  have hB := k1.blk (heap_new _ _)
  replace k1 := ((Kp.refl w).alloc _).trans k1
  go_wp2_with fail
  refine (t2 _).mono ?_
  rintro e w2 ⟨rfl, k2⟩
  replace hB := k2.blk hB
  replace k1 := k1.trans k2
  clear k2
  obtain ⟨b0, b1⟩ := one_cell hB
  go_wp2_with fail
  refine one_set hB k1 (Nat.le_refl _) (P := fun w9 => bodyPost _ _ _ _ _ w9) fun w9 h9 k9 => ?_
  obtain ⟨c0, -⟩ := one_cell h9
  refine bodyPost_ret (v := .agg #[.int .u64 (z3 : Int)]) (by simp [results, Tryd.results9, go_sem, c0]) rfl ⟨rfl, k9⟩

/-- The slots with a tag. -/
def tagB (tag : Int) (x : Nat) : Bool := decide (tag ≤ 127 ∧ (x : Int) = tag)

set_option maxHeartbeats 400000 in
theorem match_any (W : Nat) (tag : Int) (hw : W < 18446744073709551616) (w : World) :
    Calls Tryd.prog 5 #[.int .u64 (W : Int), .int .i64 tag] w fun e w' => e = .returned (setV (mk (tagB tag) W)) ∧ Kp w w' := by
  by_cases h : 0 ≤ tag ∧ tag ≤ 127
  · obtain ⟨h0, h1⟩ := h
    obtain ⟨T, rfl⟩ : ∃ T : Nat, tag = (T : Int) := ⟨tag.toNat, by omega⟩
    have t1 := equal_any W T hw (by omega)
    have e : mk (tagB (T : Int)) W = mk (· == T) W := by
      congr 1
      funext x
      unfold tagB
      by_cases hx : x = T
      · subst hx
        simp
        omega
      · have : ¬ (x : Int) = (T : Int) := by omega
        simp [hx, this]
    rw [e]
    clear e
    unfold setV at *
    generalize spread (mk (· == T) W) = M at *
    have a1 : ¬ (T : Int) < 0 := by omega
    have a2 : ¬ 128 ≤ (T : Int) := by omega
    clear h0
    go_enter Tryd.func5, Tryd.ntmps5
    go_wp2_with fail
    refine (t1 _).mono ?_
    rintro e w' ⟨rfl, k1⟩
    have hB := k1.blk (heap_new _ _)
    replace k1 := ((Kp.refl w).alloc _).trans k1
    obtain ⟨b0, b1⟩ := one_cell hB
    go_wp2_with fail
    refine one_set hB k1 (Nat.le_refl _) (P := fun w9 => bodyPost _ _ _ _ _ w9) fun w9 h9 k9 => ?_
    obtain ⟨c0, -⟩ := one_cell h9
    refine bodyPost_ret (v := .agg #[.int .u64 (M : Int)]) (by simp [results, Tryd.results5, go_sem, c0]) rfl ⟨rfl, k9⟩
  · have e : mk (tagB tag) W = 0 := by
      have e2 : tagB tag = fun _ => false := by
        funext x
        unfold tagB
        rw [decide_eq_false_iff_not]
        omega
      rw [e2]
      rfl
    rw [e]
    clear e
    have e3 : setV 0 = .agg #[.int .u64 0] := rfl
    rw [e3]
    by_cases h0 : tag < 0
    · clear h
      go_enter Tryd.func5, Tryd.ntmps5
      go_wp2_with fail
      refine bodyPost_ret (v := .agg #[.int .u64 0]) (by simp [results, Tryd.results5, go_sem]) rfl ⟨rfl, (Kp.refl _).alloc _⟩
    · have h1 : 128 ≤ tag := by omega
      clear h
      go_enter Tryd.func5, Tryd.ntmps5
      go_wp2_with fail
      refine bodyPost_ret (v := .agg #[.int .u64 0]) (by simp [results, Tryd.results5, go_sem]) rfl ⟨rfl, (Kp.refl _).alloc _⟩

set_option maxHeartbeats 400000 in
theorem clear_any (W : Nat) (hw : W < 18446744073709551616) (w : World) :
    Calls Tryd.prog 22 #[.int .u64 (W : Int)] w fun e w' => e = .returned (.int .u64 ((clN W : Nat) : Int)) ∧ Kp w w' := by
  have t1 : ∀ w, Calls Tryd.prog 25 #[.int .u64 (W : Int), .int .u64 254] w fun e w' => e = .returned (setV (mk (· == 254) W)) ∧ Kp w w' := equal_any W 254 hw (by decide)
  rw [← clear_cl hw]
  unfold setV at t1
  rw [← eqN_spread hw (by decide)] at t1
  have hl := eqN_lt W 254
  have y1 : eqN W 254 / 128 * 126 < 18446744073709551616 := by omega
  have x1 : IntKind.u64.wrap (((eqN W 254 : Nat) : Int) / 128 * 126) = ((eqN W 254 / 128 * 126 : Nat) : Int) := by
    rw [IntKind.wrap_u64]
    omega
  have x2 : bits BinOp.xor IntKind.u64 (W : Int) ((eqN W 254 / 128 * 126 : Nat) : Int) = ((W ^^^ eqN W 254 / 128 * 126 : Nat) : Int) := bits_xor_u64_nat _ _ hw y1
  have fl := field_set
  generalize (W ^^^ eqN W 254 / 128 * 126) = z2 at *
  generalize (eqN W 254 / 128 * 126) = z1 at *
  generalize eqN W 254 = z0 at *
  go_enter Tryd.func22, Tryd.ntmps22
  go_wp2_with fail
  refine (t1 _).mono ?_
  rintro e w' ⟨rfl, k1⟩
  go_wp2_with fail
  go_ret
  exact ⟨rfl, k1⟩

theorem pow_split (i : Nat) : ((2 ^ (8 * i) : Nat) : Int) = (2 : Int) ^ (8 * i) := by rw [Int.natCast_pow]; rfl
theorem and_val (W i : Nat) (hw : W < 18446744073709551616) : bits BinOp.and IntKind.u64 ((W : Int) / 2 ^ (8 * i)) 255 = ((byN W i : Nat) : Int) := by
  have e : (W : Int) / 2 ^ (8 * i) = ((W / 2 ^ (8 * i) : Nat) : Int) := by rw [Int.natCast_ediv, pow_split]
  have hle : W / 2 ^ (8 * i) ≤ W := Nat.div_le_self _ _
  rw [e]
  have e2 := u64_and_nat (W / 2 ^ (8 * i)) 255 (by omega) (by decide)
  rw [show ((255 : Nat) : Int) = 255 from rfl] at e2
  rw [e2, nat_mask8]
  unfold byN
  rw [pow_byte]
theorem get_val (W i : Nat) (hw : W < 18446744073709551616) : wrap64 (bits BinOp.and IntKind.u64 ((W : Int) / 2 ^ (8 * i)) 255) = ((byN W i : Nat) : Int) := by
  rw [and_val W i hw]
  have := byN_lt W i
  unfold wrap64
  omega

set_option maxHeartbeats 400000 in
theorem get_in (W i : Nat) (hw : W < 18446744073709551616) (hi : i < 8) (w : World) :
    Calls Tryd.prog 19 #[.int .u64 (W : Int), .int .i64 (i : Int)] w fun e w' => e = .returned (.int .i64 ((byN W i : Nat) : Int)) ∧ w' = w := by
  have t1 := isSlot_yes (i : Int) (by omega) (by omega) w
  have hi' : (i : Int) < 8 := by omega
  have hx := get_val W i hw
  generalize byN W i = B at *
  go_enter Tryd.func19, Tryd.ntmps19
  go_wp2_with fail
  refine t1.mono ?_
  rintro e w' ⟨rfl, rfl⟩
  go_wp2_with fail
  go_ret
  exact ⟨by rw [← hx]; rfl, rfl⟩

set_option maxHeartbeats 400000 in
theorem get_out (W : Nat) (i : Int) (h : ¬ (0 ≤ i ∧ i < 8)) (w : World) :
    Calls Tryd.prog 19 #[.int .u64 (W : Int), .int .i64 i] w fun e w' => e = .returned (.int .i64 (-1)) ∧ w' = w := by
  have t1 := isSlot_no i h w
  clear h
  go_enter Tryd.func19, Tryd.ntmps19
  go_wp2_with fail
  refine t1.mono ?_
  rintro e w' ⟨rfl, rfl⟩
  go_wp2_with fail
  go_ret
  exact ⟨rfl, rfl⟩

theorem set_val (W i c : Nat) (hw : W < 18446744073709551616) (hi : i < 8) (hc : c < 256) :
    bits BinOp.or IntKind.u64 (bits BinOp.andNot IntKind.u64 (W : Int) (IntKind.u64.wrap (255 * 2 ^ (8 * i)))) (IntKind.u64.wrap ((c : Int) * 2 ^ (8 * i))) = ((setN W i c : Nat) : Int) := by
  have h1 := shl_lt (c := 255) (by decide) hi
  have h2 := shl_lt hc hi
  have e1 : IntKind.u64.wrap (255 * 2 ^ (8 * i)) = ((255 * 2 ^ (8 * i) : Nat) : Int) := by
    rw [IntKind.wrap_u64, Int.natCast_mul, pow_split]
    refine Int.emod_eq_of_lt ?_ ?_ <;> (rw [← pow_split]; omega)
  have e2 : IntKind.u64.wrap ((c : Int) * 2 ^ (8 * i)) = ((c * 2 ^ (8 * i) : Nat) : Int) := by
    rw [IntKind.wrap_u64, Int.natCast_mul, pow_split]
    refine Int.emod_eq_of_lt ?_ ?_ <;> (rw [← pow_split, ← Int.natCast_mul]; omega)
  rw [e1, e2, u64_andNot_nat _ _ hw h1, u64_or_nat _ _ (Nat.lt_of_le_of_lt Nat.and_le_left hw) h2, set_set hw hi hc]

set_option maxHeartbeats 400000 in
theorem set_in (W i c : Nat) (hw : W < 18446744073709551616) (hi : i < 8) (hc : c < 256) (w : World) :
    Calls Tryd.prog 20 #[.int .u64 (W : Int), .int .i64 (i : Int), .int .i64 (c : Int)] w fun e w' => e = .returned (.int .u64 ((setN W i c : Nat) : Int)) ∧ Kp w w' := by
  have t1 := isSlot_yes (i : Int) (by omega) (by omega) w
  have hi' : (i : Int) < 8 := by omega
  have hc0 : ¬ (c : Int) < 0 := by omega
  have hc' : ¬ 255 < (c : Int) := by omega
  have hx := set_val W i c hw hi hc
  go_enter Tryd.func20, Tryd.ntmps20
  go_wp2_with fail
  refine t1.mono ?_
  rintro e w' ⟨rfl, rfl⟩
  go_wp2_with fail
  go_quiet (fail)
  go_wp2_with fail
  go_ret
  exact ⟨by rw [← hx]; rfl, (Kp.refl _).drewN _⟩

set_option maxHeartbeats 400000 in
theorem set_out (W : Nat) (i c : Int) (h : ¬ (0 ≤ i ∧ i < 8 ∧ 0 ≤ c ∧ c ≤ 255)) (w : World) :
    Calls Tryd.prog 20 #[.int .u64 (W : Int), .int .i64 i, .int .i64 c] w fun e w' => e = .returned (.int .u64 (W : Int)) ∧ Kp w w' := by
  by_cases hi : 0 ≤ i ∧ i < 8
  · have t1 := isSlot_yes i hi.1 hi.2 w
    by_cases h0 : c < 0
    · clear h hi
      go_enter Tryd.func20, Tryd.ntmps20
      go_wp2_with fail
      refine t1.mono ?_
      rintro e w' ⟨rfl, rfl⟩
      go_wp2_with fail
      go_ret
      exact ⟨rfl, Kp.refl _⟩
    · have h5 : 255 < c := by omega
      clear h hi
      go_enter Tryd.func20, Tryd.ntmps20
      go_wp2_with fail
      refine t1.mono ?_
      rintro e w' ⟨rfl, rfl⟩
      go_wp2_with fail
      go_ret
      exact ⟨rfl, Kp.refl _⟩
  · have t1 := isSlot_no i hi w
    clear h hi
    go_enter Tryd.func20, Tryd.ntmps20
    go_wp2_with fail
    refine t1.mono ?_
    rintro e w' ⟨rfl, rfl⟩
    go_wp2_with fail
    go_ret
    exact ⟨rfl, Kp.refl _⟩

theorem spread_bit (m : Nat) {i : Nat} (hi : i < 8) : spread m / 2 ^ (8 * i + 7) % 2 = m / 2 ^ i % 2 := by
  have h := byN_spread m hi
  have hb := bit_lt m i
  unfold byN at h
  rw [Nat.pow_add, ← Nat.div_div_eq_div_mul, ← pow_byte]
  generalize spread m / 256 ^ i = X at *
  generalize m / 2 ^ i % 2 = Y at *
  have : (2 : Nat) ^ 7 = 128 := by decide
  rw [this]
  omega
theorem has_val (m i : Nat) (hi : i < 8) : (bits BinOp.and IntKind.u64 (((spread m : Nat) : Int) / 2 ^ (8 * i + 7)) 1 == 1) = hasM m i := by
  have e : ((spread m : Nat) : Int) / 2 ^ (8 * i + 7) = ((spread m / 2 ^ (8 * i + 7) : Nat) : Int) := by rw [Int.natCast_ediv, Int.natCast_pow]; rfl
  have hle : spread m / 2 ^ (8 * i + 7) ≤ spread m := Nat.div_le_self _ _
  have hl := spread_lt m
  have e2 := u64_and_nat (spread m / 2 ^ (8 * i + 7)) 1 (by omega) (by decide)
  rw [show ((1 : Nat) : Int) = 1 from rfl] at e2
  rw [e, e2, nat_mask1, spread_bit m hi]
  unfold hasM
  have := bit_lt m i
  rcases (by omega : m / 2 ^ i % 2 = 0 ∨ m / 2 ^ i % 2 = 1) with h | h <;> rw [h] <;> rfl

set_option maxHeartbeats 400000 in
theorem has_in (m i : Nat) (hi : i < 8) (w : World) :
    Calls Tryd.prog 15 #[setV m, .int .i64 (i : Int)] w fun e w' => e = .returned (.bool (hasM m i)) ∧ Kp w w' := by
  have t1 := isSlot_yes (i : Int) (by omega) (by omega)
  have hi' : (i : Int) < 8 := by omega
  have hx := has_val m i hi
  unfold setV
  go_enter Tryd.func15, Tryd.ntmps15
  go_wp2_with fail
  refine (t1 _).mono ?_
  rintro e w' ⟨rfl, rfl⟩
  go_wp2_with fail
  go_ret
  exact ⟨by rw [← hx]; rfl, (Kp.refl _).alloc _⟩

set_option maxHeartbeats 400000 in
theorem has_out (m : Nat) (i : Int) (h : ¬ (0 ≤ i ∧ i < 8)) (w : World) :
    Calls Tryd.prog 15 #[setV m, .int .i64 i] w fun e w' => e = .returned (.bool false) ∧ Kp w w' := by
  have t1 := isSlot_no i h
  clear h
  unfold setV
  go_enter Tryd.func15, Tryd.ntmps15
  go_wp2_with fail
  refine (t1 _).mono ?_
  rintro e w' ⟨rfl, rfl⟩
  go_wp2_with fail
  go_ret
  exact ⟨rfl, (Kp.refl _).alloc _⟩

/-- How many slots are in it. -/
def cntM (m : Nat) : Nat := m % 2 + m / 2 % 2 + m / 4 % 2 + m / 8 % 2 + m / 16 % 2 + m / 32 % 2 + m / 64 % 2 + m / 128 % 2
def pop1 (x : Int) : Int := IntKind.u64.wrap (bits BinOp.and IntKind.u64 (x / 2) 6148914691236517205 + bits BinOp.and IntKind.u64 x 6148914691236517205)
def pop2 (x : Int) : Int := IntKind.u64.wrap (bits BinOp.and IntKind.u64 (x / 4) 3689348814741910323 + bits BinOp.and IntKind.u64 x 3689348814741910323)
def pop3 (x : Int) : Int := bits BinOp.and IntKind.u64 (IntKind.u64.wrap (x / 16 + x)) 1085102592571150095
def pop4 (x : Int) : Int := IntKind.u64.wrap (x + x / 256)
def pop5 (x : Int) : Int := IntKind.u64.wrap (x + x / 65536)
def pop6 (x : Int) : Int := IntKind.u64.wrap (x + x / 4294967296)
def pop7 (x : Int) : Int := bits BinOp.and IntKind.i64 (wrap64 x) 127
theorem pop_all : ∀ m, m < 256 → pop7 (pop6 (pop5 (pop4 (pop3 (pop2 (pop1 ((spread m : Nat) : Int))))))) = ((cntM m : Nat) : Int) := by decide +kernel

set_option maxHeartbeats 400000 in
theorem ones_walk (X x1 x2 x3 x4 x5 x6 x7 : Int) (h1 : IntKind.u64.wrap (bits BinOp.and IntKind.u64 (X / 2) 6148914691236517205 + bits BinOp.and IntKind.u64 X 6148914691236517205) = x1)
    (h2 : IntKind.u64.wrap (bits BinOp.and IntKind.u64 (x1 / 4) 3689348814741910323 + bits BinOp.and IntKind.u64 x1 3689348814741910323) = x2)
    (h3 : bits BinOp.and IntKind.u64 (IntKind.u64.wrap (x2 / 16 + x2)) 1085102592571150095 = x3)
    (h4 : IntKind.u64.wrap (x3 + x3 / 256) = x4) (h5 : IntKind.u64.wrap (x4 + x4 / 65536) = x5) (h6 : IntKind.u64.wrap (x5 + x5 / 4294967296) = x6)
    (h7 : bits BinOp.and IntKind.i64 (wrap64 x6) 127 = x7) (w : World) :
    Calls Tryd.prog 35 #[.int .u64 X] w fun e w' => e = .returned (.int .i64 x7) ∧ w' = w := by
  go_enter Tryd.func35, Tryd.ntmps35
  go_wp2_with fail
  go_ret
  exact ⟨by rw [← h7]; rfl, rfl⟩

set_option maxHeartbeats 400000 in
theorem count_any (m : Nat) (hm : m < 256) (w : World) :
    Calls Tryd.prog 27 #[setV m] w fun e w' => e = .returned (.int .i64 ((cntM m : Nat) : Int)) ∧ Kp w w' := by
  have t1 := ones_walk ((spread m : Nat) : Int) _ _ _ _ _ _ _ rfl rfl rfl rfl rfl rfl (pop_all m hm)
  unfold setV
  generalize spread m = z at *
  generalize cntM m = C at *
  go_enter Tryd.func27, Tryd.ntmps27
  go_wp2_with fail
  refine (t1 _).mono ?_
  rintro e w' ⟨rfl, rfl⟩
  go_wp2_with fail
  go_ret
  exact ⟨rfl, (Kp.refl _).alloc _⟩
end Go.Proofs.YtbpgjlengpgnnabDoor
