import Derived.Test.YtbpgjlengpgnnabDoorCR4
import Derived.Deep.DeepCutAuto
namespace Go.Proofs.YtbpgjlengpgnnabDoor
open Go.RowKit
namespace ctrlExact
set_option linter.unusedVariables false

def Post (w : World) (e : Ending) (w' : World) : Prop := e = .returned (.bool true) ∧ Below w.heap.size w w'

section
variable {w W W1 : World} {b c : Nat} {v0 v1 v2 v3 z : Value}
abbrev S5 (w : World) (b c : Nat) (v0 v1 v2 v3 z : Value) (W : World) : Prop := W.cell? ⟨b, 0, none⟩ = some v0 ∧ W.cell? ⟨b, 1, none⟩ = some v1 ∧ W.cell? ⟨b, 2, none⟩ = some v2 ∧ W.cell? ⟨b, 3, none⟩ = some v3 ∧ W.cell? ⟨c, 0, none⟩ = some z ∧ Kp w W
theorem S5.call (h : W.cell? ⟨b, 0, none⟩ = some v0 ∧ W.cell? ⟨b, 1, none⟩ = some v1 ∧ W.cell? ⟨b, 2, none⟩ = some v2 ∧ W.cell? ⟨b, 3, none⟩ = some v3 ∧ W.cell? ⟨c, 0, none⟩ = some z ∧ Kp w W) (k : Kp W W1) : W1.cell? ⟨b, 0, none⟩ = some v0 ∧ W1.cell? ⟨b, 1, none⟩ = some v1 ∧ W1.cell? ⟨b, 2, none⟩ = some v2 ∧ W1.cell? ⟨b, 3, none⟩ = some v3 ∧ W1.cell? ⟨c, 0, none⟩ = some z ∧ Kp w W1 := by
  obtain ⟨a0, a1, a2, a3, a4, kk⟩ := h
  exact ⟨k.cell a0, k.cell a1, k.cell a2, k.cell a3, k.cell a4, kk.trans k⟩
theorem S5.drew (h : W.cell? ⟨b, 0, none⟩ = some v0 ∧ W.cell? ⟨b, 1, none⟩ = some v1 ∧ W.cell? ⟨b, 2, none⟩ = some v2 ∧ W.cell? ⟨b, 3, none⟩ = some v3 ∧ W.cell? ⟨c, 0, none⟩ = some z ∧ Kp w W) : W.drew.cell? ⟨b, 0, none⟩ = some v0 ∧ W.drew.cell? ⟨b, 1, none⟩ = some v1 ∧ W.drew.cell? ⟨b, 2, none⟩ = some v2 ∧ W.drew.cell? ⟨b, 3, none⟩ = some v3 ∧ W.drew.cell? ⟨c, 0, none⟩ = some z ∧ Kp w W.drew := by
  obtain ⟨a0, a1, a2, a3, a4, kk⟩ := h
  exact ⟨a0, a1, a2, a3, a4, kk.drew⟩
theorem S5.kp (h : W.cell? ⟨b, 0, none⟩ = some v0 ∧ W.cell? ⟨b, 1, none⟩ = some v1 ∧ W.cell? ⟨b, 2, none⟩ = some v2 ∧ W.cell? ⟨b, 3, none⟩ = some v3 ∧ W.cell? ⟨c, 0, none⟩ = some z ∧ Kp w W) : Kp w W := h.2.2.2.2.2
end
def ToldIs (z : Int) (g0 g1 g2 g3 g4 g5 g6 g7 : Bool) : Prop := ∃ m, m < 256 ∧ z = ((spread m : Nat) : Int) ∧ g0 = hasM m 0 ∧ g1 = hasM m 1 ∧ g2 = hasM m 2 ∧ g3 = hasM m 3 ∧ g4 = hasM m 4 ∧ g5 = hasM m 5 ∧ g6 = hasM m 6 ∧ g7 = hasM m 7
theorem told_is {z : Int} {g0 g1 g2 g3 g4 g5 g6 g7 : Bool} (q : ToldIs z g0 g1 g2 g3 g4 g5 g6 g7) {w : World} (ht : TabAt w) :
    Calls Tryd.prog 24 #[.agg #[.int .u64 z], .agg #[.bool g0, .bool g1, .bool g2, .bool g3, .bool g4, .bool g5, .bool g6, .bool g7]] w fun e w' => e = .returned (.bool true) ∧ Kp w w' := by
  obtain ⟨m, hm, rfl, rfl, rfl, rfl, rfl, rfl, rfl, rfl, rfl⟩ := q
  exact told_true m hm w ht
theorem told_mk (m : Nat) (hm : m < 256) : ToldIs ((spread m : Nat) : Int) (hasM m 0) (hasM m 1) (hasM m 2) (hasM m 3) (hasM m 4) (hasM m 5) (hasM m 6) (hasM m 7) := ⟨m, hm, rfl, rfl, rfl, rfl, rfl, rfl, rfl, rfl, rfl⟩
theorem four_all {w : World} {b : Nat} {v0 v1 v2 v3 : Value} {t : TypeId} (h : w.heap[b]? = some (.cells #[v0, v1, v2, v3] t)) : w.cell? ⟨b, 0, none⟩ = some v0 ∧ w.cell? ⟨b, 1, none⟩ = some v1 ∧ w.cell? ⟨b, 2, none⟩ = some v2 ∧ w.cell? ⟨b, 3, none⟩ = some v3 := by
  simp [World.cell?, h]

set_option maxRecDepth 100000 in
set_option maxHeartbeats 4000000 in
theorem core (W : Nat) (i c tag : Int) (w : World) (hw : W < 18446744073709551616) (hT : TabAt w) :
    Calls Tryd.prog 4 #[.agg #[.int .u64 (W : Int), .int .i64 i, .int .i64 c, .int .i64 tag]] w (Post w) := by
  have qF := full_any W hw
  have qV := vacant_any W hw
  have qE := mempty_any W hw
  have qM := match_any W tag hw
  have rF := rfull_set W hw
  have rV := rvacant_set W hw
  have rE := rempty_set W hw
  have rM := rmatch_set W tag hw
  have q1 : GetIs (W : Int) i (getN W i) := ⟨W, hw, rfl, rfl⟩
  have q2 : SetIs (W : Int) i c ((putN W i c : Nat) : Int) := ⟨W, hw, rfl, rfl⟩
  have q3 := clear_any W hw
  have r3 := rclear_any W hw
  have gO : ¬ (0 ≤ i ∧ i ≤ 7) → HasIs ((spread (mk (fun x => decide (x < 128)) W) : Nat) : Int) i false := fun h => Or.inr ⟨⟨_, rfl⟩, by omega, rfl⟩
  have gN : 0 ≤ i ∧ i ≤ 7 → HasIs ((spread (mk (fun x => decide (x < 128)) W) : Nat) : Int) i (decide (getN W i ≤ 127)) := fun h => Or.inl ⟨_, i.toNat, rfl, by omega, by omega, by
    rw [hasM_mk _ _ (by omega), getN, if_pos ⟨h.1, by omega⟩]
    exact decide_eq_decide.2 (by omega)⟩
  have uF := told_mk _ (mk_lt (fun x => decide (x < 128)) W)
  have uV := told_mk _ (mk_lt (fun x => x == 128 || x == 254) W)
  have uE := told_mk _ (mk_lt (· == 128) W)
  have uM := told_mk _ (mk_lt (tagB tag) W)
  have u0 : ToldIs 0 false false false false false false false false := told_mk 0 (by decide)
  unfold setV at qF qV qE qM
  unfold setA at rF rV rE rM
  generalize hasM (mk (fun x => decide (x < 128)) W) = GF at *
  generalize hasM (mk (fun x => x == 128 || x == 254) W) = GV at *
  generalize hasM (mk (fun x => x == 128) W) = GE at *
  generalize hasM (mk (tagB tag) W) = GM at *
  generalize spread (mk (fun x => decide (x < 128)) W) = zF at *
  generalize spread (mk (fun x => x == 128 || x == 254) W) = zV at *
  generalize spread (mk (fun x => x == 128) W) = zE at *
  generalize spread (mk (tagB tag) W) = zM at *
  generalize getN W i = R at *
  generalize putN W i c = Z at *
  generalize clN W = X at *
  go_enter Tryd.func4, Tryd.ntmps4
  go_wp2_with fail
  refine (qF _).mono ?_
  rintro e w1 ⟨rfl, k1⟩
  obtain ⟨a0, a1, a2, a3⟩ := four_all (k1.blk (heap_new w (.cells #[.int .u64 (W : Int), .int .i64 i, .int .i64 c, .int .i64 tag] 24)))
  replace k1 := ((Kp.refl w).alloc _).trans k1
  go_wp2_with fail
  have hS : S5 w w.heap.size w1.heap.size (.int .u64 (W : Int)) (.int .i64 i) (.int .i64 c) (.int .i64 tag) (.int .u64 (zF : Int)) (w1.alloc (.cells #[.int .u64 (zF : Int)] 26)) := ⟨old_cell a0 _, old_cell a1 _, old_cell a2 _, old_cell a3 _, new_cell w1 _ _, k1.alloc _⟩
  clear a0 a1 a2 a3 k1
  generalize w1.alloc (.cells #[.int .u64 (zF : Int)] 26) = w2 at *
  generalize w1.heap.size = B2 at *
  obtain ⟨B1, hB1⟩ : ∃ B, B = w.heap.size := ⟨_, rfl⟩
  rw [← hB1] at hS
  rw [← hB1]
  clear hB1
  go_cut [27] (fun s27 wx => s27 = .bool false ∧ S5 w B1 B2 (.int .u64 (W : Int)) (.int .i64 i) (.int .i64 c) (.int .i64 tag) (.int .u64 (zF : Int)) wx)
  case first =>
    clear qF qV qE qM rF rV rE rM q2 q3 r3 uF uV uE uM u0 hT
    by_cases h0 : 0 ≤ i
    · have h0d : decide (0 ≤ i) = true := decide_eq_true h0
      by_cases h7 : i ≤ 7
      · have h7d : decide (i ≤ 7) = true := decide_eq_true h7
        have gI := gN ⟨h0, h7⟩
        clear gN gO
        as_aux_lemma =>
          go_region_held3 (fun w' => w'.cell? ⟨B1, 0, none⟩ = some (.int .u64 (W : Int)) ∧ w'.cell? ⟨B1, 1, none⟩ = some (.int .i64 i) ∧ w'.cell? ⟨B1, 2, none⟩ = some (.int .i64 c) ∧ w'.cell? ⟨B1, 3, none⟩ = some (.int .i64 tag) ∧ w'.cell? ⟨B2, 0, none⟩ = some (.int .u64 (zF : Int)) ∧ Kp w w') (first | exact hS | assumption | (with_reducible (refine S5.drew ?_; assumption)) | (with_reducible (refine S5.call ?_ k5; assumption))) (first | (go_at_call 15; refine (has_is gI _).mono ?_; rintro r w5 ⟨rfl, k5⟩) | (go_at_call 16; refine (rget_is q1 _).mono ?_; rintro r w5 ⟨rfl, rfl⟩))
          have hS2 : S5 w B1 B2 (.int .u64 (W : Int)) (.int .i64 i) (.int .i64 c) (.int .i64 tag) (.int .u64 (zF : Int)) w5 := by assumption
          go_wp2_with fail
          go_meet
          case rel => exact ⟨rfl, hS2⟩
      · have h7d : decide (i ≤ 7) = false := decide_eq_false h7
        have gI := gO (fun q => h7 q.2)
        clear gN gO
        as_aux_lemma =>
          refine wp_region_held_drew (S := fun w' => w'.cell? ⟨B1, 0, none⟩ = some (.int .u64 (W : Int)) ∧ w'.cell? ⟨B1, 1, none⟩ = some (.int .i64 i) ∧ w'.cell? ⟨B1, 2, none⟩ = some (.int .i64 c) ∧ w'.cell? ⟨B1, 3, none⟩ = some (.int .i64 tag) ∧ w'.cell? ⟨B2, 0, none⟩ = some (.int .u64 (zF : Int)) ∧ Kp w w') (by kernel_rfl) (S5.drew hS) fun hH => ?_
          refine wpAnyH_take (i := 0) (oi := { dst := some 7, op := Op.load 26 (Operand.tmp 3), type := 26, pos := "law.go:51", after := #[], guard := none }) (v := ?_) rfl (by kernel_rfl) (by kernel_rfl) (by kernel_rfl) (fun _ _ _ h => h) (Or.inl ⟨by rfl, ?_⟩) (by assumption) ?_
          rotate_left
          · intro w hSw
            (try dsimp only at hSw)
            go_simp
            (try with_reducible rfl)
          try simp only [Act.put, List.setIfInBounds_toArray, List.set_cons_zero, List.set_cons_succ]
          refine wpAnyH_take (i := 1) (oi := { dst := some 8, op := Op.fieldAddr 24 (Operand.tmp 1) 1, type := 0, pos := "law.go:51", after := #[], guard := none }) (v := ?_) rfl (by kernel_rfl) (by kernel_rfl) (by kernel_rfl) (fun _ _ _ h => h) (Or.inl ⟨by rfl, ?_⟩) (by assumption) ?_
          rotate_left
          · intro w hSw
            (try dsimp only at hSw)
            go_simp
            (try with_reducible rfl)
          try simp only [Act.put, List.setIfInBounds_toArray, List.set_cons_zero, List.set_cons_succ]
          refine wpAnyH_take (i := 2) (oi := { dst := some 9, op := Op.load 3 (Operand.tmp 8), type := 3, pos := "law.go:51", after := #[{ on := 1, ground := Ground.data }], guard := none }) (v := ?_) rfl (by kernel_rfl) (by kernel_rfl) (by kernel_rfl) (fun _ _ _ h => h) (Or.inl ⟨by rfl, ?_⟩) (by assumption) ?_
          rotate_left
          · intro w hSw
            (try dsimp only at hSw)
            go_simp
            (try with_reducible rfl)
          try simp only [Act.put, List.setIfInBounds_toArray, List.set_cons_zero, List.set_cons_succ]
          refine wpAnyH_take (i := 4) (oi := { dst := some 11, op := Op.fieldAddr 24 (Operand.tmp 1) 1, type := 0, pos := "law.go:51", after := #[], guard := none }) (v := ?_) rfl (by kernel_rfl) (by kernel_rfl) (by kernel_rfl) (fun _ _ _ h => h) (Or.inl ⟨by rfl, ?_⟩) (by assumption) ?_
          rotate_left
          · intro w hSw
            (try dsimp only at hSw)
            go_simp
            (try with_reducible rfl)
          try simp only [Act.put, List.setIfInBounds_toArray, List.set_cons_zero, List.set_cons_succ]
          refine wpAnyH_take (i := 5) (oi := { dst := some 12, op := Op.load 3 (Operand.tmp 11), type := 3, pos := "law.go:51", after := #[{ on := 4, ground := Ground.data }], guard := none }) (v := ?_) rfl (by kernel_rfl) (by kernel_rfl) (by kernel_rfl) (fun _ _ _ h => h) (Or.inl ⟨by rfl, ?_⟩) (by assumption) ?_
          rotate_left
          · intro w hSw
            (try dsimp only at hSw)
            go_simp
            (try with_reducible rfl)
          try simp only [Act.put, List.setIfInBounds_toArray, List.set_cons_zero, List.set_cons_succ]
          refine wpAnyH_take (i := 6) (oi := { dst := some 13, op := Op.binOp BinOp.geq 3 (Operand.tmp 12) (Operand.const (Value.int IntKind.i64 0)) 3, type := 4, pos := "law.go:51", after := #[{ on := 5, ground := Ground.data }], guard := none }) (v := ?_) rfl (by kernel_rfl) (by kernel_rfl) (by kernel_rfl) (fun _ _ _ h => h) (Or.inl ⟨by rfl, ?_⟩) (by assumption) ?_
          rotate_left
          · intro w hSw
            (try dsimp only at hSw)
            go_simp
            (try with_reducible rfl)
          try simp only [Act.put, List.setIfInBounds_toArray, List.set_cons_zero, List.set_cons_succ]
          refine wpAnyH_ready (rs := [3]) (by kernel_rfl) (by simp) ?_
          refine AllReadyH.cons (o := { dst := some 10, op := Op.call { callee := Callee.value (Operand.func 15), args := #[Operand.tmp 7, Operand.tmp 9], argTypes := #[26, 3] }, type := 4, pos := "law.go:51", after := #[{ on := 0, ground := Ground.data }, { on := 2, ground := Ground.data }], guard := none }) rfl (fun K hK => ?_) AllReadyH.nil
          go_simp
          go_at_call 15
          refine (has_is gI _).mono ?_
          rintro r w5 ⟨rfl, k5⟩
          refine hK.out _ _ (S5.call hH k5) fun hH5 => ?_
          try simp only [Act.put, List.setIfInBounds_toArray, List.set_cons_zero, List.set_cons_succ]
          refine wpAnyH_take (i := 7) (oi := { dst := some 14, op := Op.move (Operand.tmp 13), type := 4, pos := "law.go:51", after := #[{ on := 6, ground := Ground.data }, { on := 3, ground := Ground.chain }], guard := none }) (v := ?_) rfl (by kernel_rfl) (by kernel_rfl) (by kernel_rfl) (fun _ _ _ h => h) (Or.inl ⟨by rfl, ?_⟩) (by assumption) ?_
          rotate_left
          · intro w hSw
            (try dsimp only at hSw)
            go_simp
            (try with_reducible rfl)
          try simp only [Act.put, List.setIfInBounds_toArray, List.set_cons_zero, List.set_cons_succ]
          refine wpAnyH_take (i := 8) (oi := { dst := some 15, op := Op.fieldAddr 24 (Operand.tmp 1) 1, type := 0, pos := "law.go:51", after := #[{ on := 7, ground := Ground.guard }], guard := some (7, true) }) (v := ?_) rfl (by kernel_rfl) (by kernel_rfl) (by kernel_rfl) (fun _ _ _ h => h) (Or.inl ⟨by rfl, ?_⟩) (by assumption) ?_
          rotate_left
          · intro w hSw
            (try dsimp only at hSw)
            go_simp
            (try with_reducible rfl)
          try simp only [Act.put, List.setIfInBounds_toArray, List.set_cons_zero, List.set_cons_succ]
          refine wpAnyH_take (i := 9) (oi := { dst := some 16, op := Op.load 3 (Operand.tmp 15), type := 3, pos := "law.go:51", after := #[{ on := 8, ground := Ground.data }, { on := 7, ground := Ground.guard }], guard := some (7, true) }) (v := ?_) rfl (by kernel_rfl) (by kernel_rfl) (by kernel_rfl) (fun _ _ _ h => h) (Or.inl ⟨by rfl, ?_⟩) (by assumption) ?_
          rotate_left
          · intro w hSw
            (try dsimp only at hSw)
            go_simp
            (try with_reducible rfl)
          try simp only [Act.put, List.setIfInBounds_toArray, List.set_cons_zero, List.set_cons_succ]
          refine wpAnyH_take (i := 10) (oi := { dst := some 17, op := Op.binOp BinOp.leq 3 (Operand.tmp 16) (Operand.const (Value.int IntKind.i64 7)) 3, type := 4, pos := "law.go:51", after := #[{ on := 9, ground := Ground.data }, { on := 7, ground := Ground.guard }], guard := some (7, true) }) (v := ?_) rfl (by kernel_rfl) (by kernel_rfl) (by kernel_rfl) (fun _ _ _ h => h) (Or.inl ⟨by rfl, ?_⟩) (by assumption) ?_
          rotate_left
          · intro w hSw
            (try dsimp only at hSw)
            go_simp
            (try with_reducible rfl)
          try simp only [Act.put, List.setIfInBounds_toArray, List.set_cons_zero, List.set_cons_succ]
          refine wpAnyH_take (i := 11) (oi := { dst := some 18, op := Op.pick (Operand.tmp 14) (Operand.tmp 17) (Operand.const (Value.bool false)), type := 4, pos := "law.go:51", after := #[{ on := 7, ground := Ground.data }, { on := 10, ground := Ground.data }], guard := none }) (v := ?_) rfl (by kernel_rfl) (by kernel_rfl) (by kernel_rfl) (fun _ _ _ h => h) (Or.inl ⟨by rfl, ?_⟩) (by assumption) ?_
          rotate_left
          · intro w hSw
            (try dsimp only at hSw)
            go_simp
            (try with_reducible rfl)
          try simp only [Act.put, List.setIfInBounds_toArray, List.set_cons_zero, List.set_cons_succ]
          refine wpAnyH_take (i := 12) (oi := { dst := some 19, op := Op.move (Operand.tmp 18), type := 4, pos := "law.go:51", after := #[{ on := 11, ground := Ground.data }, { on := 7, ground := Ground.chain }], guard := none }) (v := ?_) rfl (by kernel_rfl) (by kernel_rfl) (by kernel_rfl) (fun _ _ _ h => h) (Or.inl ⟨by rfl, ?_⟩) (by assumption) ?_
          rotate_left
          · intro w hSw
            (try dsimp only at hSw)
            go_simp
            (try with_reducible rfl)
          try simp only [Act.put, List.setIfInBounds_toArray, List.set_cons_zero, List.set_cons_succ]
          refine wpAnyH_take (i := 13) (oi := { dst := some 20, op := Op.fieldAddr 24 (Operand.tmp 1) 0, type := 0, pos := "law.go:51", after := #[{ on := 12, ground := Ground.guard }], guard := some (12, true) }) (v := undef) rfl (by kernel_rfl) (by kernel_rfl) (by kernel_rfl) (fun _ _ _ h => h) (Or.inr ⟨by rfl, rfl⟩) (by assumption) ?_
          try simp only [Act.put, List.setIfInBounds_toArray, List.set_cons_zero, List.set_cons_succ]
          refine wpAnyH_take (i := 14) (oi := { dst := some 21, op := Op.load 22 (Operand.tmp 20), type := 22, pos := "law.go:51", after := #[{ on := 13, ground := Ground.data }, { on := 12, ground := Ground.guard }], guard := some (12, true) }) (v := undef) rfl (by kernel_rfl) (by kernel_rfl) (by kernel_rfl) (fun _ _ _ h => h) (Or.inr ⟨by rfl, rfl⟩) (by assumption) ?_
          try simp only [Act.put, List.setIfInBounds_toArray, List.set_cons_zero, List.set_cons_succ]
          refine wpAnyH_take (i := 15) (oi := { dst := some 22, op := Op.fieldAddr 24 (Operand.tmp 1) 1, type := 0, pos := "law.go:51", after := #[{ on := 12, ground := Ground.guard }], guard := some (12, true) }) (v := undef) rfl (by kernel_rfl) (by kernel_rfl) (by kernel_rfl) (fun _ _ _ h => h) (Or.inr ⟨by rfl, rfl⟩) (by assumption) ?_
          try simp only [Act.put, List.setIfInBounds_toArray, List.set_cons_zero, List.set_cons_succ]
          refine wpAnyH_take (i := 16) (oi := { dst := some 23, op := Op.load 3 (Operand.tmp 22), type := 3, pos := "law.go:51", after := #[{ on := 15, ground := Ground.data }, { on := 12, ground := Ground.guard }], guard := some (12, true) }) (v := undef) rfl (by kernel_rfl) (by kernel_rfl) (by kernel_rfl) (fun _ _ _ h => h) (Or.inr ⟨by rfl, rfl⟩) (by assumption) ?_
          try simp only [Act.put, List.setIfInBounds_toArray, List.set_cons_zero, List.set_cons_succ]
          refine wpAnyH_take (i := 17) (oi := { dst := some 24, op := Op.call { callee := Callee.value (Operand.func 16), args := #[Operand.tmp 21, Operand.tmp 23], argTypes := #[22, 3] }, type := 3, pos := "law.go:51", after := #[{ on := 14, ground := Ground.data }, { on := 16, ground := Ground.data }, { on := 12, ground := Ground.chain }, { on := 12, ground := Ground.guard }], guard := some (12, true) }) (v := undef) rfl (by kernel_rfl) (by kernel_rfl) (by kernel_rfl) (fun _ _ _ h => h) (Or.inr ⟨by rfl, rfl⟩) (by assumption) ?_
          try simp only [Act.put, List.setIfInBounds_toArray, List.set_cons_zero, List.set_cons_succ]
          refine wpAnyH_take (i := 18) (oi := { dst := some 25, op := Op.binOp BinOp.leq 3 (Operand.tmp 24) (Operand.const (Value.int IntKind.i64 127)) 3, type := 4, pos := "law.go:51", after := #[{ on := 17, ground := Ground.data }, { on := 12, ground := Ground.guard }], guard := some (12, true) }) (v := undef) rfl (by kernel_rfl) (by kernel_rfl) (by kernel_rfl) (fun _ _ _ h => h) (Or.inr ⟨by rfl, rfl⟩) (by assumption) ?_
          try simp only [Act.put, List.setIfInBounds_toArray, List.set_cons_zero, List.set_cons_succ]
          refine wpAnyH_take (i := 19) (oi := { dst := some 26, op := Op.pick (Operand.tmp 19) (Operand.tmp 25) (Operand.const (Value.bool false)), type := 4, pos := "law.go:51", after := #[{ on := 12, ground := Ground.data }, { on := 18, ground := Ground.data }], guard := none }) (v := ?_) rfl (by kernel_rfl) (by kernel_rfl) (by kernel_rfl) (fun _ _ _ h => h) (Or.inl ⟨by rfl, ?_⟩) (by assumption) ?_
          rotate_left
          · intro w hSw
            (try dsimp only at hSw)
            go_simp
            (try with_reducible rfl)
          try simp only [Act.put, List.setIfInBounds_toArray, List.set_cons_zero, List.set_cons_succ]
          refine wpAnyH_take (i := 20) (oi := { dst := some 27, op := Op.binOp BinOp.neq 4 (Operand.tmp 10) (Operand.tmp 26) 4, type := 4, pos := "law.go:51", after := #[{ on := 3, ground := Ground.data }, { on := 19, ground := Ground.data }], guard := none }) (v := ?_) rfl (by kernel_rfl) (by kernel_rfl) (by kernel_rfl) (fun _ _ _ h => h) (Or.inl ⟨by rfl, ?_⟩) (by assumption) ?_
          rotate_left
          · intro w hSw
            (try dsimp only at hSw)
            go_simp
            (try with_reducible rfl)
          try simp only [Act.put, List.setIfInBounds_toArray, List.set_cons_zero, List.set_cons_succ]
          refine wpAnyH_done (by kernel_rfl) ?_ _
          have hS2 : S5 w B1 B2 (.int .u64 (W : Int)) (.int .i64 i) (.int .i64 c) (.int .i64 tag) (.int .u64 (zF : Int)) w5 := by assumption
          go_wp2_with fail
          go_meet
          case rel => exact ⟨rfl, hS2⟩
    · have h0d : decide (0 ≤ i) = false := decide_eq_false h0
      have gI := gO (fun q => h0 q.1)
      clear gN gO
      as_aux_lemma =>
        refine wp_region_held_drew (S := fun w' => w'.cell? ⟨B1, 0, none⟩ = some (.int .u64 (W : Int)) ∧ w'.cell? ⟨B1, 1, none⟩ = some (.int .i64 i) ∧ w'.cell? ⟨B1, 2, none⟩ = some (.int .i64 c) ∧ w'.cell? ⟨B1, 3, none⟩ = some (.int .i64 tag) ∧ w'.cell? ⟨B2, 0, none⟩ = some (.int .u64 (zF : Int)) ∧ Kp w w') (by kernel_rfl) (S5.drew hS) fun hH => ?_
        refine wpAnyH_take (i := 0) (oi := { dst := some 7, op := Op.load 26 (Operand.tmp 3), type := 26, pos := "law.go:51", after := #[], guard := none }) (v := ?_) rfl (by kernel_rfl) (by kernel_rfl) (by kernel_rfl) (fun _ _ _ h => h) (Or.inl ⟨by rfl, ?_⟩) (by assumption) ?_
        rotate_left
        · intro w hSw
          (try dsimp only at hSw)
          go_simp
          (try with_reducible rfl)
        try simp only [Act.put, List.setIfInBounds_toArray, List.set_cons_zero, List.set_cons_succ]
        refine wpAnyH_take (i := 1) (oi := { dst := some 8, op := Op.fieldAddr 24 (Operand.tmp 1) 1, type := 0, pos := "law.go:51", after := #[], guard := none }) (v := ?_) rfl (by kernel_rfl) (by kernel_rfl) (by kernel_rfl) (fun _ _ _ h => h) (Or.inl ⟨by rfl, ?_⟩) (by assumption) ?_
        rotate_left
        · intro w hSw
          (try dsimp only at hSw)
          go_simp
          (try with_reducible rfl)
        try simp only [Act.put, List.setIfInBounds_toArray, List.set_cons_zero, List.set_cons_succ]
        refine wpAnyH_take (i := 2) (oi := { dst := some 9, op := Op.load 3 (Operand.tmp 8), type := 3, pos := "law.go:51", after := #[{ on := 1, ground := Ground.data }], guard := none }) (v := ?_) rfl (by kernel_rfl) (by kernel_rfl) (by kernel_rfl) (fun _ _ _ h => h) (Or.inl ⟨by rfl, ?_⟩) (by assumption) ?_
        rotate_left
        · intro w hSw
          (try dsimp only at hSw)
          go_simp
          (try with_reducible rfl)
        try simp only [Act.put, List.setIfInBounds_toArray, List.set_cons_zero, List.set_cons_succ]
        refine wpAnyH_take (i := 4) (oi := { dst := some 11, op := Op.fieldAddr 24 (Operand.tmp 1) 1, type := 0, pos := "law.go:51", after := #[], guard := none }) (v := ?_) rfl (by kernel_rfl) (by kernel_rfl) (by kernel_rfl) (fun _ _ _ h => h) (Or.inl ⟨by rfl, ?_⟩) (by assumption) ?_
        rotate_left
        · intro w hSw
          (try dsimp only at hSw)
          go_simp
          (try with_reducible rfl)
        try simp only [Act.put, List.setIfInBounds_toArray, List.set_cons_zero, List.set_cons_succ]
        refine wpAnyH_take (i := 5) (oi := { dst := some 12, op := Op.load 3 (Operand.tmp 11), type := 3, pos := "law.go:51", after := #[{ on := 4, ground := Ground.data }], guard := none }) (v := ?_) rfl (by kernel_rfl) (by kernel_rfl) (by kernel_rfl) (fun _ _ _ h => h) (Or.inl ⟨by rfl, ?_⟩) (by assumption) ?_
        rotate_left
        · intro w hSw
          (try dsimp only at hSw)
          go_simp
          (try with_reducible rfl)
        try simp only [Act.put, List.setIfInBounds_toArray, List.set_cons_zero, List.set_cons_succ]
        refine wpAnyH_take (i := 6) (oi := { dst := some 13, op := Op.binOp BinOp.geq 3 (Operand.tmp 12) (Operand.const (Value.int IntKind.i64 0)) 3, type := 4, pos := "law.go:51", after := #[{ on := 5, ground := Ground.data }], guard := none }) (v := ?_) rfl (by kernel_rfl) (by kernel_rfl) (by kernel_rfl) (fun _ _ _ h => h) (Or.inl ⟨by rfl, ?_⟩) (by assumption) ?_
        rotate_left
        · intro w hSw
          (try dsimp only at hSw)
          go_simp
          (try with_reducible rfl)
        try simp only [Act.put, List.setIfInBounds_toArray, List.set_cons_zero, List.set_cons_succ]
        refine wpAnyH_ready (rs := [3]) (by kernel_rfl) (by simp) ?_
        refine AllReadyH.cons (o := { dst := some 10, op := Op.call { callee := Callee.value (Operand.func 15), args := #[Operand.tmp 7, Operand.tmp 9], argTypes := #[26, 3] }, type := 4, pos := "law.go:51", after := #[{ on := 0, ground := Ground.data }, { on := 2, ground := Ground.data }], guard := none }) rfl (fun K hK => ?_) AllReadyH.nil
        go_simp
        go_at_call 15
        refine (has_is gI _).mono ?_
        rintro r w5 ⟨rfl, k5⟩
        refine hK.out _ _ (S5.call hH k5) fun hH5 => ?_
        try simp only [Act.put, List.setIfInBounds_toArray, List.set_cons_zero, List.set_cons_succ]
        refine wpAnyH_take (i := 7) (oi := { dst := some 14, op := Op.move (Operand.tmp 13), type := 4, pos := "law.go:51", after := #[{ on := 6, ground := Ground.data }, { on := 3, ground := Ground.chain }], guard := none }) (v := ?_) rfl (by kernel_rfl) (by kernel_rfl) (by kernel_rfl) (fun _ _ _ h => h) (Or.inl ⟨by rfl, ?_⟩) (by assumption) ?_
        rotate_left
        · intro w hSw
          (try dsimp only at hSw)
          go_simp
          (try with_reducible rfl)
        try simp only [Act.put, List.setIfInBounds_toArray, List.set_cons_zero, List.set_cons_succ]
        refine wpAnyH_take (i := 8) (oi := { dst := some 15, op := Op.fieldAddr 24 (Operand.tmp 1) 1, type := 0, pos := "law.go:51", after := #[{ on := 7, ground := Ground.guard }], guard := some (7, true) }) (v := undef) rfl (by kernel_rfl) (by kernel_rfl) (by kernel_rfl) (fun _ _ _ h => h) (Or.inr ⟨by rfl, rfl⟩) (by assumption) ?_
        try simp only [Act.put, List.setIfInBounds_toArray, List.set_cons_zero, List.set_cons_succ]
        refine wpAnyH_take (i := 9) (oi := { dst := some 16, op := Op.load 3 (Operand.tmp 15), type := 3, pos := "law.go:51", after := #[{ on := 8, ground := Ground.data }, { on := 7, ground := Ground.guard }], guard := some (7, true) }) (v := undef) rfl (by kernel_rfl) (by kernel_rfl) (by kernel_rfl) (fun _ _ _ h => h) (Or.inr ⟨by rfl, rfl⟩) (by assumption) ?_
        try simp only [Act.put, List.setIfInBounds_toArray, List.set_cons_zero, List.set_cons_succ]
        refine wpAnyH_take (i := 10) (oi := { dst := some 17, op := Op.binOp BinOp.leq 3 (Operand.tmp 16) (Operand.const (Value.int IntKind.i64 7)) 3, type := 4, pos := "law.go:51", after := #[{ on := 9, ground := Ground.data }, { on := 7, ground := Ground.guard }], guard := some (7, true) }) (v := undef) rfl (by kernel_rfl) (by kernel_rfl) (by kernel_rfl) (fun _ _ _ h => h) (Or.inr ⟨by rfl, rfl⟩) (by assumption) ?_
        try simp only [Act.put, List.setIfInBounds_toArray, List.set_cons_zero, List.set_cons_succ]
        refine wpAnyH_take (i := 11) (oi := { dst := some 18, op := Op.pick (Operand.tmp 14) (Operand.tmp 17) (Operand.const (Value.bool false)), type := 4, pos := "law.go:51", after := #[{ on := 7, ground := Ground.data }, { on := 10, ground := Ground.data }], guard := none }) (v := ?_) rfl (by kernel_rfl) (by kernel_rfl) (by kernel_rfl) (fun _ _ _ h => h) (Or.inl ⟨by rfl, ?_⟩) (by assumption) ?_
        rotate_left
        · intro w hSw
          (try dsimp only at hSw)
          go_simp
          (try with_reducible rfl)
        try simp only [Act.put, List.setIfInBounds_toArray, List.set_cons_zero, List.set_cons_succ]
        refine wpAnyH_take (i := 12) (oi := { dst := some 19, op := Op.move (Operand.tmp 18), type := 4, pos := "law.go:51", after := #[{ on := 11, ground := Ground.data }, { on := 7, ground := Ground.chain }], guard := none }) (v := ?_) rfl (by kernel_rfl) (by kernel_rfl) (by kernel_rfl) (fun _ _ _ h => h) (Or.inl ⟨by rfl, ?_⟩) (by assumption) ?_
        rotate_left
        · intro w hSw
          (try dsimp only at hSw)
          go_simp
          (try with_reducible rfl)
        try simp only [Act.put, List.setIfInBounds_toArray, List.set_cons_zero, List.set_cons_succ]
        refine wpAnyH_take (i := 13) (oi := { dst := some 20, op := Op.fieldAddr 24 (Operand.tmp 1) 0, type := 0, pos := "law.go:51", after := #[{ on := 12, ground := Ground.guard }], guard := some (12, true) }) (v := undef) rfl (by kernel_rfl) (by kernel_rfl) (by kernel_rfl) (fun _ _ _ h => h) (Or.inr ⟨by rfl, rfl⟩) (by assumption) ?_
        try simp only [Act.put, List.setIfInBounds_toArray, List.set_cons_zero, List.set_cons_succ]
        refine wpAnyH_take (i := 14) (oi := { dst := some 21, op := Op.load 22 (Operand.tmp 20), type := 22, pos := "law.go:51", after := #[{ on := 13, ground := Ground.data }, { on := 12, ground := Ground.guard }], guard := some (12, true) }) (v := undef) rfl (by kernel_rfl) (by kernel_rfl) (by kernel_rfl) (fun _ _ _ h => h) (Or.inr ⟨by rfl, rfl⟩) (by assumption) ?_
        try simp only [Act.put, List.setIfInBounds_toArray, List.set_cons_zero, List.set_cons_succ]
        refine wpAnyH_take (i := 15) (oi := { dst := some 22, op := Op.fieldAddr 24 (Operand.tmp 1) 1, type := 0, pos := "law.go:51", after := #[{ on := 12, ground := Ground.guard }], guard := some (12, true) }) (v := undef) rfl (by kernel_rfl) (by kernel_rfl) (by kernel_rfl) (fun _ _ _ h => h) (Or.inr ⟨by rfl, rfl⟩) (by assumption) ?_
        try simp only [Act.put, List.setIfInBounds_toArray, List.set_cons_zero, List.set_cons_succ]
        refine wpAnyH_take (i := 16) (oi := { dst := some 23, op := Op.load 3 (Operand.tmp 22), type := 3, pos := "law.go:51", after := #[{ on := 15, ground := Ground.data }, { on := 12, ground := Ground.guard }], guard := some (12, true) }) (v := undef) rfl (by kernel_rfl) (by kernel_rfl) (by kernel_rfl) (fun _ _ _ h => h) (Or.inr ⟨by rfl, rfl⟩) (by assumption) ?_
        try simp only [Act.put, List.setIfInBounds_toArray, List.set_cons_zero, List.set_cons_succ]
        refine wpAnyH_take (i := 17) (oi := { dst := some 24, op := Op.call { callee := Callee.value (Operand.func 16), args := #[Operand.tmp 21, Operand.tmp 23], argTypes := #[22, 3] }, type := 3, pos := "law.go:51", after := #[{ on := 14, ground := Ground.data }, { on := 16, ground := Ground.data }, { on := 12, ground := Ground.chain }, { on := 12, ground := Ground.guard }], guard := some (12, true) }) (v := undef) rfl (by kernel_rfl) (by kernel_rfl) (by kernel_rfl) (fun _ _ _ h => h) (Or.inr ⟨by rfl, rfl⟩) (by assumption) ?_
        try simp only [Act.put, List.setIfInBounds_toArray, List.set_cons_zero, List.set_cons_succ]
        refine wpAnyH_take (i := 18) (oi := { dst := some 25, op := Op.binOp BinOp.leq 3 (Operand.tmp 24) (Operand.const (Value.int IntKind.i64 127)) 3, type := 4, pos := "law.go:51", after := #[{ on := 17, ground := Ground.data }, { on := 12, ground := Ground.guard }], guard := some (12, true) }) (v := undef) rfl (by kernel_rfl) (by kernel_rfl) (by kernel_rfl) (fun _ _ _ h => h) (Or.inr ⟨by rfl, rfl⟩) (by assumption) ?_
        try simp only [Act.put, List.setIfInBounds_toArray, List.set_cons_zero, List.set_cons_succ]
        refine wpAnyH_take (i := 19) (oi := { dst := some 26, op := Op.pick (Operand.tmp 19) (Operand.tmp 25) (Operand.const (Value.bool false)), type := 4, pos := "law.go:51", after := #[{ on := 12, ground := Ground.data }, { on := 18, ground := Ground.data }], guard := none }) (v := ?_) rfl (by kernel_rfl) (by kernel_rfl) (by kernel_rfl) (fun _ _ _ h => h) (Or.inl ⟨by rfl, ?_⟩) (by assumption) ?_
        rotate_left
        · intro w hSw
          (try dsimp only at hSw)
          go_simp
          (try with_reducible rfl)
        try simp only [Act.put, List.setIfInBounds_toArray, List.set_cons_zero, List.set_cons_succ]
        refine wpAnyH_take (i := 20) (oi := { dst := some 27, op := Op.binOp BinOp.neq 4 (Operand.tmp 10) (Operand.tmp 26) 4, type := 4, pos := "law.go:51", after := #[{ on := 3, ground := Ground.data }, { on := 19, ground := Ground.data }], guard := none }) (v := ?_) rfl (by kernel_rfl) (by kernel_rfl) (by kernel_rfl) (fun _ _ _ h => h) (Or.inl ⟨by rfl, ?_⟩) (by assumption) ?_
        rotate_left
        · intro w hSw
          (try dsimp only at hSw)
          go_simp
          (try with_reducible rfl)
        try simp only [Act.put, List.setIfInBounds_toArray, List.set_cons_zero, List.set_cons_succ]
        refine wpAnyH_done (by kernel_rfl) ?_ _
        have hS2 : S5 w B1 B2 (.int .u64 (W : Int)) (.int .i64 i) (.int .i64 c) (.int .i64 tag) (.int .u64 (zF : Int)) w5 := by assumption
        go_wp2_with fail
        go_meet
        case rel => exact ⟨rfl, hS2⟩
  case rest =>
    obtain ⟨rfl, hS'⟩ := hcut
    clear hS gO gN
    have hS := hS'
    clear hS'
    have hTold : ∀ U, S5 w B1 B2 (.int .u64 (W : Int)) (.int .i64 i) (.int .i64 c) (.int .i64 tag) (.int .u64 (zF : Int)) U → ∀ (z : Int) (g0 g1 g2 g3 g4 g5 g6 g7 : Bool), ToldIs z g0 g1 g2 g3 g4 g5 g6 g7 → Calls Tryd.prog 24 #[.agg #[.int .u64 z], .agg #[.bool g0, .bool g1, .bool g2, .bool g3, .bool g4, .bool g5, .bool g6, .bool g7]] U fun e w' => e = .returned (.bool true) ∧ Kp U w' := fun U h _ _ _ _ _ _ _ _ _ q => told_is q (hT.kp (S5.kp h))
    go_wp2_with fail
    go_region_held3 (fun w' => w'.cell? ⟨B1, 0, none⟩ = some (.int .u64 (W : Int)) ∧ w'.cell? ⟨B1, 1, none⟩ = some (.int .i64 i) ∧ w'.cell? ⟨B1, 2, none⟩ = some (.int .i64 c) ∧ w'.cell? ⟨B1, 3, none⟩ = some (.int .i64 tag) ∧ w'.cell? ⟨B2, 0, none⟩ = some (.int .u64 (zF : Int)) ∧ Kp w w') (first | exact hS | assumption | (with_reducible (refine S5.drew ?_; assumption)) | (with_reducible (refine S5.call ?_ k5; assumption))) (first | (go_at_call 17; refine (empty_any _).mono ?_; rintro r w5 ⟨rfl, rfl⟩) | (go_at_call 18; refine (rempty_any _).mono ?_; rintro r w5 ⟨rfl, rfl⟩) | (go_at_call 19; refine (get_is q1 _).mono ?_; rintro r w5 ⟨rfl, rfl⟩) | (go_at_call 16; refine (rget_is q1 _).mono ?_; rintro r w5 ⟨rfl, rfl⟩))
    replace hS := S5.drew hS
    go_wp2_with fail
    go_region_held3 (fun w' => w'.cell? ⟨B1, 0, none⟩ = some (.int .u64 (W : Int)) ∧ w'.cell? ⟨B1, 1, none⟩ = some (.int .i64 i) ∧ w'.cell? ⟨B1, 2, none⟩ = some (.int .i64 c) ∧ w'.cell? ⟨B1, 3, none⟩ = some (.int .i64 tag) ∧ w'.cell? ⟨B2, 0, none⟩ = some (.int .u64 (zF : Int)) ∧ Kp w w') (first | exact hS | assumption | (with_reducible (refine S5.drew ?_; assumption)) | (with_reducible (refine S5.call ?_ k5; assumption))) (first | (go_at_call 20; refine (set_is q2 _).mono ?_; rintro r w5 ⟨rfl, k5⟩) | (go_at_call 21; refine (rput_is q2 _).mono ?_; rintro r w5 ⟨rfl, k5⟩) | (go_at_call 22; refine (q3 _).mono ?_; rintro r w5 ⟨rfl, k5⟩) | (go_at_call 23; refine (r3 _).mono ?_; rintro r w5 ⟨rfl, k5⟩))
    have hS2 : S5 w B1 B2 (.int .u64 (W : Int)) (.int .i64 i) (.int .i64 c) (.int .i64 tag) (.int .u64 (zF : Int)) w5 := by assumption
    clear hS
    have hS := hS2
    clear hS2
    go_wp2_with fail
    go_region_held3 (fun w' => w'.cell? ⟨B1, 0, none⟩ = some (.int .u64 (W : Int)) ∧ w'.cell? ⟨B1, 1, none⟩ = some (.int .i64 i) ∧ w'.cell? ⟨B1, 2, none⟩ = some (.int .i64 c) ∧ w'.cell? ⟨B1, 3, none⟩ = some (.int .i64 tag) ∧ w'.cell? ⟨B2, 0, none⟩ = some (.int .u64 (zF : Int)) ∧ Kp w w') (first | exact hS | assumption | (with_reducible (refine S5.drew ?_; assumption)) | (with_reducible (refine S5.call ?_ k5; assumption))) (first | (go_at_call 5; refine (qM _).mono ?_; rintro r w5 ⟨rfl, k5⟩) | (go_at_call 6; refine (rM _).mono ?_; rintro r w5 ⟨rfl, k5⟩) | (go_at_call 11; refine (qE _).mono ?_; rintro r w5 ⟨rfl, k5⟩) | (go_at_call 12; refine (rE _).mono ?_; rintro r w5 ⟨rfl, k5⟩) | (go_at_call 24; refine (hTold _ ?_ _ _ _ _ _ _ _ _ _ ?_).mono ?_; assumption; assumption; rintro r w5 ⟨rfl, k5⟩))
    have hS2 : S5 w B1 B2 (.int .u64 (W : Int)) (.int .i64 i) (.int .i64 c) (.int .i64 tag) (.int .u64 (zF : Int)) w5 := by assumption
    clear hS
    have hS := hS2
    clear hS2
    go_wp2_with fail
    go_region_held3 (fun w' => w'.cell? ⟨B1, 0, none⟩ = some (.int .u64 (W : Int)) ∧ w'.cell? ⟨B1, 1, none⟩ = some (.int .i64 i) ∧ w'.cell? ⟨B1, 2, none⟩ = some (.int .i64 c) ∧ w'.cell? ⟨B1, 3, none⟩ = some (.int .i64 tag) ∧ w'.cell? ⟨B2, 0, none⟩ = some (.int .u64 (zF : Int)) ∧ Kp w w') (first | exact hS | assumption | (with_reducible (refine S5.drew ?_; assumption)) | (with_reducible (refine S5.call ?_ k5; assumption))) (first | (go_at_call 9; refine (qV _).mono ?_; rintro r w5 ⟨rfl, k5⟩) | (go_at_call 10; refine (rV _).mono ?_; rintro r w5 ⟨rfl, k5⟩) | (go_at_call 7; refine (qF _).mono ?_; rintro r w5 ⟨rfl, k5⟩) | (go_at_call 8; refine (rF _).mono ?_; rintro r w5 ⟨rfl, k5⟩) | (go_at_call 24; refine (hTold _ ?_ _ _ _ _ _ _ _ _ _ ?_).mono ?_; assumption; assumption; rintro r w5 ⟨rfl, k5⟩))
    have hS2 : S5 w B1 B2 (.int .u64 (W : Int)) (.int .i64 i) (.int .i64 c) (.int .i64 tag) (.int .u64 (zF : Int)) w5 := by assumption
    clear hS
    have hS := hS2
    clear hS2
    go_wp2_with fail
    go_ret
    exact ⟨rfl, S5.kp hS⟩
theorem walk (b0 i0 c0 t0 : Int) (wb0 : (Lit.int .u64 b0).wf = true) (wi0 : (Lit.int .i64 i0).wf = true) (wc0 : (Lit.int .i64 c0).wf = true) (wt0 : (Lit.int .i64 t0).wf = true) (W : World) (hT : TabAt W) :
    Calls Tryd.prog 4 #[.agg #[.int .u64 b0, .int .i64 i0, .int .i64 c0, .int .i64 t0]] W fun e w' => e = .returned (.bool true) ∧ Below W.heap.size W w' := by
  obtain ⟨h, rfl, hh⟩ := u64_nat wb0
  exact core h i0 c0 t0 W hh hT
end ctrlExact
end Go.Proofs.YtbpgjlengpgnnabDoor
