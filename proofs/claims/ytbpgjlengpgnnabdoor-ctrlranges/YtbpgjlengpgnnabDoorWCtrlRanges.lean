import Derived.Test.YtbpgjlengpgnnabDoorCA3
import Derived.Deep.DeepCutAuto
import Derived.Deep.CutRange
import Derived.Laws.EntriesVeiled
import Derived.Maps.AppendAt
import Derived.Deep.CutBlock
namespace Go.Proofs.YtbpgjlengpgnnabDoor
open Go.RowKit Go.Shelf
namespace ctrlRanges
set_option linter.unusedVariables false

attribute [local go_sem] Oper.semAt_some
def Post (w : World) (e : Ending) (w' : World) : Prop := e = .returned (.bool true) ∧ Below w.heap.size w w'

/-- A set of the program's beside one of the reference's. -/
def Pair (z : Nat) (G : Nat → Bool) : Prop := ∃ m, m < 256 ∧ z = spread m ∧ G = hasM m
theorem pair_mk (p : Nat → Bool) (W : Nat) : Pair (spread (mk p W)) (hasM (mk p W)) := ⟨_, mk_lt _ _, rfl, rfl⟩
theorem four_03 {w : World} {b : Nat} {v0 v1 v2 v3 : Value} {t : TypeId} (h : w.heap[b]? = some (.cells #[v0, v1, v2, v3] t)) : w.cell? ⟨b, 0, none⟩ = some v0 ∧ w.cell? ⟨b, 1, none⟩ = some v1 ∧ w.cell? ⟨b, 3, none⟩ = some v3 := by
  simp [World.cell?, h]

theorem eq_nil_seq (W : World) (g : Nat) (x : Array Value) : (binOp .eql 35 (.func (.func g) #[] x) .nilFunc).run Tryd.prog W = .ok (.bool false) W := by
  rfl
theorem res4 (tmps : Array Value) (w : World) (B : Nat) (v : Value) (hp : tmps.getD 4 undef = .pointer (some ⟨B, 0, none⟩)) (hc : w.cell? ⟨B, 0, none⟩ = some v) : (results Tryd.f3 tmps).run Tryd.prog w = .ok v w := by
  have hp' : tmps[4]?.getD undef = .pointer (some ⟨B, 0, none⟩) := by simpa using hp
  simp [results, Tryd.results3, go_sem, hp', hc]
theorem kp_put {w W : World} (k : Kp w W) {l : Nat} (hl : w.heap.size ≤ l) (o : Obj) : Kp w (W.putObj l o) := by
  have g := grownBy_putObj' W l o
  exact ⟨g.os.trans k.os, g.tape.trans k.tape, g.output.trans k.output, Nat.le_trans k.size g.size, fun i hi => (g.block i (Nat.lt_of_lt_of_le hi k.size) (fun e => by cases e; omega)).trans (k.block i hi)⟩
theorem put_blk {W : World} {l q : Nat} {o o' : Obj} (h : W.heap[q]? = some o') (hne : q ≠ l) : (W.putObj l o).heap[q]? = some o' :=
  ((grownBy_putObj' W l o).block q (Array.getElem?_eq_some_iff.1 h).1 (fun e => hne (by cases e; rfl))).trans h
theorem set_blk {W : World} {l q : Nat} {v : Value} {o' : Obj} (h : W.heap[q]? = some o') (hne : q ≠ l) : (W.setCell ⟨l, 0, none⟩ v).heap[q]? = some o' := (Below.heap_setCell W ⟨l, 0, none⟩ v q hne).trans h
theorem Tryd.infoI2 : (Tryd.prog.info? 3).map (fun i => (i.zero, i.size, i.bytes)) = some (some (.int .i64 0), 1, 8) := by kernel_rfl

set_option maxRecDepth 100000 in
set_option maxHeartbeats 8000000 in
theorem core (W : Nat) (i c tag stop : Int) (w : World) (hw : W < 18446744073709551616) (hT : TabAt w) :
    Calls Tryd.prog 3 #[.agg #[.int .u64 (W : Int), .int .i64 i, .int .i64 c, .int .i64 tag], .int .i64 stop] w (Post w) := by
  obtain ⟨i0, hi, hz0, hz1, hz2⟩ := info_parts Tryd.infoI2
  have qF := full_any W hw
  have qV := vacant_any W hw
  have qE := mempty_any W hw
  have qM : MatchIs (W : Int) tag _ := ⟨W, hw, rfl, rfl⟩
  have rF := rfull_set W hw
  have rV := rvacant_set W hw
  have rE := rempty_set W hw
  have rM := rmatch_set W tag hw
  have uF := pair_mk (fun x => decide (x < 128)) W
  have uV := pair_mk (fun x => x == 128 || x == 254) W
  have uE := pair_mk (· == 128) W
  have uM := pair_mk (tagB tag) W
  unfold setV at qF qV qE
  unfold setA at rF rV rE rM
  generalize hasM (mk (fun x => decide (x < 128)) W) = GF at *
  generalize hasM (mk (fun x => x == 128 || x == 254) W) = GV at *
  generalize hasM (mk (fun x => x == 128) W) = GE at *
  generalize hasM (mk (tagB tag) W) = GM at *
  generalize spread (mk (fun x => decide (x < 128)) W) = zF at *
  generalize spread (mk (fun x => x == 128 || x == 254) W) = zV at *
  generalize spread (mk (fun x => x == 128) W) = zE at *
  generalize spread (mk (tagB tag) W) = zM at *
  refine (callsIn_wide (n := 8)).1 ?_
  refine callsIn_of_wp_marks Tryd.func3 rfl trivial ?_ rfl
  simp only [Tryd.ntmps3, List.size_toArray, List.length_cons, List.length_nil, Nat.reduceAdd, Nat.reduceSub, Array.replicate_succ, Array.replicate_zero, List.push_toArray, List.append_toArray, List.nil_append, List.cons_append]
  rw [wpIn_wide]
  go_wp2_with fail
  have k0 : Kp w (((w.alloc (Obj.cells #[Value.int IntKind.u64 ↑W, Value.int IntKind.i64 i, Value.int IntKind.i64 c, Value.int IntKind.i64 tag] 24)).alloc (Obj.cells #[Value.int IntKind.i64 stop] 3)).alloc (Obj.cells #[Value.bool false] 4)) := (((Kp.refl _).alloc _).alloc _).alloc _
  have hA := heap_old (heap_old (heap_new w (Obj.cells #[Value.int IntKind.u64 ↑W, Value.int IntKind.i64 i, Value.int IntKind.i64 c, Value.int IntKind.i64 tag] 24)) (Obj.cells #[Value.int IntKind.i64 stop] 3)) (Obj.cells #[Value.bool false] 4)
  have hSt : (((w.alloc (Obj.cells #[Value.int IntKind.u64 ↑W, Value.int IntKind.i64 i, Value.int IntKind.i64 c, Value.int IntKind.i64 tag] 24)).alloc (Obj.cells #[Value.int IntKind.i64 stop] 3)).alloc (Obj.cells #[Value.bool false] 4)).heap[w.heap.size + 1]? = some (.cells #[.int .i64 stop] 3) := by
    have := heap_old (heap_new (w.alloc (Obj.cells #[Value.int IntKind.u64 ↑W, Value.int IntKind.i64 i, Value.int IntKind.i64 c, Value.int IntKind.i64 tag] 24)) (Obj.cells #[Value.int IntKind.i64 stop] 3)) (Obj.cells #[Value.bool false] 4)
    simpa using this
  have hRs : (((w.alloc (Obj.cells #[Value.int IntKind.u64 ↑W, Value.int IntKind.i64 i, Value.int IntKind.i64 c, Value.int IntKind.i64 tag] 24)).alloc (Obj.cells #[Value.int IntKind.i64 stop] 3)).alloc (Obj.cells #[Value.bool false] 4)).heap[w.heap.size + 1 + 1]? = some (.cells #[.bool false] 4) := by
    have := heap_new ((w.alloc (Obj.cells #[Value.int IntKind.u64 ↑W, Value.int IntKind.i64 i, Value.int IntKind.i64 c, Value.int IntKind.i64 tag] 24)).alloc (Obj.cells #[Value.int IntKind.i64 stop] 3)) (Obj.cells #[Value.bool false] 4)
    simpa using this
  have hsz : (((w.alloc (Obj.cells #[Value.int IntKind.u64 ↑W, Value.int IntKind.i64 i, Value.int IntKind.i64 c, Value.int IntKind.i64 tag] 24)).alloc (Obj.cells #[Value.int IntKind.i64 stop] 3)).alloc (Obj.cells #[Value.bool false] 4)).heap.size = w.heap.size + 3 := by simp
  generalize (((w.alloc (Obj.cells #[Value.int IntKind.u64 ↑W, Value.int IntKind.i64 i, Value.int IntKind.i64 c, Value.int IntKind.i64 tag] 24)).alloc (Obj.cells #[Value.int IntKind.i64 stop] 3)).alloc (Obj.cells #[Value.bool false] 4)) = w2 at *
  obtain ⟨B1, hB1⟩ : ∃ B, B = w.heap.size + 1 := ⟨_, rfl⟩
  obtain ⟨B2, hB2⟩ : ∃ B, B = w.heap.size + 1 + 1 := ⟨_, rfl⟩
  obtain ⟨A0, hA0⟩ : ∃ B, B = w.heap.size := ⟨_, rfl⟩
  rw [← hB2] at hRs ⊢
  rw [← hB1] at hSt ⊢
  rw [← hA0] at hA ⊢
  have hAB : Aside (A0 = w.heap.size ∧ B1 = w.heap.size + 1 ∧ B2 = w.heap.size + 2 ∧ w2.heap.size = w.heap.size + 3) := ⟨hA0, hB1, hB2, hsz⟩
  clear hB1 hB2 hA0 hsz
  obtain ⟨a0, a1, a3⟩ := four_03 hA
  have mkS : ∀ w', Kp w2 w' → w'.cell? ⟨A0, 0, none⟩ = some (.int .u64 (W : Int)) ∧ w'.cell? ⟨A0, 3, none⟩ = some (.int .i64 tag) ∧ Kp w2 w' := fun w' k => ⟨k.cell a0, k.cell a3, k⟩
  have hT2 := hT.kp k0
  have k : Kp w2 w2 := Kp.refl _
  go_cut [5, 6] from 16 to 25 (fun s5 s6 wx => ∃ B5 B6 : Nat, s5 = .pointer (some ⟨B5, 0, none⟩) ∧ s6 = .pointer (some ⟨B6, 0, none⟩) ∧ Kp w2 wx ∧ w2.heap.size ≤ B5 ∧ w2.heap.size ≤ B6 ∧ B5 ≠ B6 ∧ wx.heap[B5]? = some (.cells #[.int .u64 (zM : Int)] 26) ∧ Bl wx B6 GM)
  case first =>
    clear qF qV qE rF rV rE uF uV uE uM hT2 hT hSt hRs hA a1 k0
    refine wp_region_noPanic ?_
    refine wp_region_held_drew (S := fun w' => w'.cell? ⟨A0, 0, none⟩ = some (.int .u64 (W : Int)) ∧ w'.cell? ⟨A0, 3, none⟩ = some (.int .i64 tag) ∧ Kp w2 w') (by kernel_rfl) (mkS _ k.drew) fun hH => ?_
    replace k := k.drew
    generalize w2.drew = W0 at *
    refine wpAnyH_take (i := 0) (oi := { dst := some 16, op := Op.fieldAddr 24 (Operand.tmp 2) 0, type := 0, pos := "law.go:167", after := #[], guard := none }) (v := ?_) rfl (by kernel_rfl) (by kernel_rfl) (by kernel_rfl) (fun _ _ _ h => h) (Or.inl ⟨by rfl, ?_⟩) (by assumption) ?_
    rotate_left
    · intro w hSw
      (try dsimp only at hSw)
      go_simp
      (try with_reducible rfl)
    try simp only [Act.put, List.setIfInBounds_toArray, List.set_cons_zero, List.set_cons_succ]
    refine wpAnyH_take (i := 1) (oi := { dst := some 17, op := Op.load 22 (Operand.tmp 16), type := 22, pos := "law.go:167", after := #[{ on := 0, ground := Ground.data }], guard := none }) (v := ?_) rfl (by kernel_rfl) (by kernel_rfl) (by kernel_rfl) (fun _ _ _ h => h) (Or.inl ⟨by rfl, ?_⟩) (by assumption) ?_
    rotate_left
    · intro w hSw
      (try dsimp only at hSw)
      go_simp
      (try with_reducible rfl)
    try simp only [Act.put, List.setIfInBounds_toArray, List.set_cons_zero, List.set_cons_succ]
    refine wpAnyH_take (i := 2) (oi := { dst := some 18, op := Op.fieldAddr 24 (Operand.tmp 2) 3, type := 0, pos := "law.go:167", after := #[], guard := none }) (v := ?_) rfl (by kernel_rfl) (by kernel_rfl) (by kernel_rfl) (fun _ _ _ h => h) (Or.inl ⟨by rfl, ?_⟩) (by assumption) ?_
    rotate_left
    · intro w hSw
      (try dsimp only at hSw)
      go_simp
      (try with_reducible rfl)
    try simp only [Act.put, List.setIfInBounds_toArray, List.set_cons_zero, List.set_cons_succ]
    refine wpAnyH_take (i := 3) (oi := { dst := some 19, op := Op.load 3 (Operand.tmp 18), type := 3, pos := "law.go:167", after := #[{ on := 2, ground := Ground.data }], guard := none }) (v := ?_) rfl (by kernel_rfl) (by kernel_rfl) (by kernel_rfl) (fun _ _ _ h => h) (Or.inl ⟨by rfl, ?_⟩) (by assumption) ?_
    rotate_left
    · intro w hSw
      (try dsimp only at hSw)
      go_simp
      (try with_reducible rfl)
    try simp only [Act.put, List.setIfInBounds_toArray, List.set_cons_zero, List.set_cons_succ]
    refine wpAnyH_take (i := 5) (oi := { dst := some 21, op := Op.fieldAddr 24 (Operand.tmp 2) 0, type := 0, pos := "law.go:167", after := #[], guard := none }) (v := ?_) rfl (by kernel_rfl) (by kernel_rfl) (by kernel_rfl) (fun _ _ _ h => h) (Or.inl ⟨by rfl, ?_⟩) (by assumption) ?_
    rotate_left
    · intro w hSw
      (try dsimp only at hSw)
      go_simp
      (try with_reducible rfl)
    try simp only [Act.put, List.setIfInBounds_toArray, List.set_cons_zero, List.set_cons_succ]
    refine wpAnyH_take (i := 6) (oi := { dst := some 22, op := Op.load 22 (Operand.tmp 21), type := 22, pos := "law.go:167", after := #[{ on := 5, ground := Ground.data }], guard := none }) (v := ?_) rfl (by kernel_rfl) (by kernel_rfl) (by kernel_rfl) (fun _ _ _ h => h) (Or.inl ⟨by rfl, ?_⟩) (by assumption) ?_
    rotate_left
    · intro w hSw
      (try dsimp only at hSw)
      go_simp
      (try with_reducible rfl)
    try simp only [Act.put, List.setIfInBounds_toArray, List.set_cons_zero, List.set_cons_succ]
    refine wpAnyH_take (i := 7) (oi := { dst := some 23, op := Op.fieldAddr 24 (Operand.tmp 2) 3, type := 0, pos := "law.go:167", after := #[], guard := none }) (v := ?_) rfl (by kernel_rfl) (by kernel_rfl) (by kernel_rfl) (fun _ _ _ h => h) (Or.inl ⟨by rfl, ?_⟩) (by assumption) ?_
    rotate_left
    · intro w hSw
      (try dsimp only at hSw)
      go_simp
      (try with_reducible rfl)
    try simp only [Act.put, List.setIfInBounds_toArray, List.set_cons_zero, List.set_cons_succ]
    refine wpAnyH_take (i := 8) (oi := { dst := some 24, op := Op.load 3 (Operand.tmp 23), type := 3, pos := "law.go:167", after := #[{ on := 7, ground := Ground.data }], guard := none }) (v := ?_) rfl (by kernel_rfl) (by kernel_rfl) (by kernel_rfl) (fun _ _ _ h => h) (Or.inl ⟨by rfl, ?_⟩) (by assumption) ?_
    rotate_left
    · intro w hSw
      (try dsimp only at hSw)
      go_simp
      (try with_reducible rfl)
    try simp only [Act.put, List.setIfInBounds_toArray, List.set_cons_zero, List.set_cons_succ]
    refine wpAnyH_ready (rs := [4, 10, 11]) (by kernel_rfl) (by simp) ?_
    refine AllReadyH.cons (o := { dst := some 20, op := Op.call { callee := Callee.value (Operand.func 5), args := #[Operand.tmp 17, Operand.tmp 19], argTypes := #[22, 3] }, type := 26, pos := "law.go:167", after := #[{ on := 1, ground := Ground.data }, { on := 3, ground := Ground.data }], guard := none }) rfl (fun K hK => ?_) ?_
    · go_simp
      go_at_call 5
      refine (match_is qM _).mono ?_
      rintro r W1 ⟨rfl, kc⟩
      refine hK.out _ _ (mkS _ (k.trans kc)) fun hH => ?_
      try simp only [Act.put, List.setIfInBounds_toArray, List.set_cons_zero, List.set_cons_succ]
      replace k := k.trans kc
      clear kc
      refine wpAnyH_ready (rs := [9, 10, 11]) (by kernel_rfl) (by simp) ?_
      refine AllReadyH.cons (o := { dst := some 25, op := Op.call { callee := Callee.value (Operand.func 6), args := #[Operand.tmp 22, Operand.tmp 24], argTypes := #[22, 3] }, type := 29, pos := "law.go:167", after := #[{ on := 6, ground := Ground.data }, { on := 8, ground := Ground.data }, { on := 4, ground := Ground.chain }], guard := none }) rfl (fun K hK => ?_) ?_
      · go_simp
        go_at_call 6
        refine (rM _).mono ?_
        rintro r W2 ⟨rfl, kc⟩
        refine hK.out _ _ (mkS _ (k.trans kc)) fun hH => ?_
        try simp only [Act.put, List.setIfInBounds_toArray, List.set_cons_zero, List.set_cons_succ]
        replace k := k.trans kc
        clear kc
        refine wpAnyH_ready (rs := [10, 11]) (by kernel_rfl) (by simp) ?_
        refine AllReadyH.cons (o := { dst := some 5, op := Op.alloc 26, type := 0, pos := "law.go:167", after := #[], guard := none }) rfl (fun K hK => ?_) ?_
        · go_simp
          refine hK.out _ _ (mkS _ (k.alloc _)) fun hH => ?_
          try simp only [Act.put, List.setIfInBounds_toArray, List.set_cons_zero, List.set_cons_succ]
          have hb5 : w2.heap.size ≤ W2.heap.size := k.size
          have hB5 := heap_new W2 (.cells #[.int .u64 0] 26)
          replace k := k.alloc (.cells #[.int .u64 0] 26)
          generalize W2.alloc (.cells #[.int .u64 0] 26) = W3 at *
          generalize W2.heap.size = B5 at *
          refine wpAnyH_ready (rs := [11]) (by kernel_rfl) (by simp) ?_
          refine AllReadyH.cons (o := { dst := some 6, op := Op.alloc 29, type := 0, pos := "law.go:167", after := #[], guard := none }) rfl (fun K hK => ?_) ?_
          · go_simp
            refine hK.out _ _ (mkS _ (k.alloc _)) fun hH => ?_
            try simp only [Act.put, List.setIfInBounds_toArray, List.set_cons_zero, List.set_cons_succ]
            have hb6 : w2.heap.size ≤ W3.heap.size := k.size
            have hB6 := Bl.new W3
            have hne : B5 ≠ W3.heap.size := fun q => by
              have := (Array.getElem?_eq_some_iff.1 hB5).1
              omega
            replace hB5 := ((Kp.refl _).alloc (.cells #[.bool false, .bool false, .bool false, .bool false, .bool false, .bool false, .bool false, .bool false] 29)).blk hB5
            replace k := k.alloc (.cells #[.bool false, .bool false, .bool false, .bool false, .bool false, .bool false, .bool false, .bool false] 29)
            generalize W3.alloc (.cells #[.bool false, .bool false, .bool false, .bool false, .bool false, .bool false, .bool false, .bool false] 29) = W4 at *
            generalize W3.heap.size = B6 at *
            refine wpAnyH_ready (rs := [12]) (by kernel_rfl) (by simp) ?_
            refine AllReadyH.cons (o := { dst := none, op := Op.store 26 (Operand.tmp 5) (Operand.tmp 20), type := 0, pos := "law.go:167", after := #[{ on := 10, ground := Ground.data }, { on := 4, ground := Ground.data }, { on := 9, ground := Ground.chain }, { on := 0, ground := Ground.phase }, { on := 1, ground := Ground.phase }, { on := 2, ground := Ground.phase }, { on := 3, ground := Ground.phase }, { on := 4, ground := Ground.phase }, { on := 5, ground := Ground.textOnly Departure.lateStores }, { on := 6, ground := Ground.textOnly Departure.lateStores }, { on := 7, ground := Ground.textOnly Departure.lateStores }, { on := 8, ground := Ground.textOnly Departure.lateStores }, { on := 9, ground := Ground.textOnly Departure.lateStoresUnsure }, { on := 10, ground := Ground.phase }, { on := 11, ground := Ground.phase }], guard := none }) rfl (fun K hK => ?_) AllReadyH.nil
            obtain ⟨c1, c2⟩ := one_cell hB5
            go_simp
            refine hK.out _ _ (mkS _ (Below.setCell k hb5 _)) fun hH => ?_
            try simp only [Act.put, List.setIfInBounds_toArray, List.set_cons_zero, List.set_cons_succ]
            clear c1 c2
            have hD5 := set_one hB5 0 (.int .u64 (zM : Int)) (by simp)
            have hD6 : Bl (W4.setCell ⟨B5, 0, none⟩ (.int .u64 (zM : Int))) B6 _ := (Below.heap_setCell W4 ⟨B5, 0, none⟩ (.int .u64 (zM : Int)) B6 (Ne.symm hne)).trans hB6
            have kd : Kp w2 (W4.setCell ⟨B5, 0, none⟩ (.int .u64 (zM : Int))) := Below.setCell k hb5 _
            clear hB5 hB6 k
            generalize W4.setCell ⟨B5, 0, none⟩ (.int .u64 (zM : Int)) = Wd at *
            refine wpAnyH_ready (rs := [13]) (by kernel_rfl) (by simp) ?_
            refine AllReadyH.cons (o := { dst := none, op := Op.store 29 (Operand.tmp 6) (Operand.tmp 25), type := 0, pos := "law.go:167", after := #[{ on := 11, ground := Ground.data }, { on := 9, ground := Ground.data }, { on := 12, ground := Ground.chain }, { on := 0, ground := Ground.phase }, { on := 1, ground := Ground.phase }, { on := 2, ground := Ground.phase }, { on := 3, ground := Ground.phase }, { on := 4, ground := Ground.phase }, { on := 5, ground := Ground.phase }, { on := 6, ground := Ground.phase }, { on := 7, ground := Ground.phase }, { on := 8, ground := Ground.phase }, { on := 9, ground := Ground.phase }, { on := 10, ground := Ground.phase }, { on := 11, ground := Ground.phase }, { on := 12, ground := Ground.phase }], guard := none }) rfl (fun K hK => ?_) AllReadyH.nil
            obtain ⟨a0', a1', a2', a3', a4', a5', a6', a7'⟩ := hD6.all
            obtain ⟨f0', f1', f2', f3', f4', f5', f6', f7'⟩ := hD6.thaw
            go_simp
            refine eight_set2 hD6 kd hb6 (g := GM) (P := fun w9 => K _ w9) fun w9 h9 k9 ho => ?_
            refine hK.out _ _ (mkS _ k9) fun hH => ?_
            try simp only [Act.put, List.setIfInBounds_toArray, List.set_cons_zero, List.set_cons_succ]
            refine wpAnyH_done (by kernel_rfl) (NoPanic.normal ?_) _
            have e5 := hide ((ho _ hne).trans hD5)
            have e6 := hide h9
            clear ho hD5 hD6 h9 hH hK a0' a1' a2' a3' a4' a5' a6' a7' f0' f1' f2' f3' f4' f5' f6' f7'
            go_wp2_with fail
            go_meet
            case rel => exact ⟨B5, B6, rfl, rfl, k9, hb5, hb6, hne, e5.out, e6.out⟩
          exact AllReadyH.nil
        refine AllReadyH.cons (o := { dst := some 6, op := Op.alloc 29, type := 0, pos := "law.go:167", after := #[], guard := none }) rfl (fun K hK => ?_) ?_
        · go_simp
          refine hK.out _ _ (mkS _ (k.alloc _)) fun hH => ?_
          try simp only [Act.put, List.setIfInBounds_toArray, List.set_cons_zero, List.set_cons_succ]
          have hb6 : w2.heap.size ≤ W2.heap.size := k.size
          have hB6 := Bl.new W2
          replace k := k.alloc (.cells #[.bool false, .bool false, .bool false, .bool false, .bool false, .bool false, .bool false, .bool false] 29)
          generalize W2.alloc (.cells #[.bool false, .bool false, .bool false, .bool false, .bool false, .bool false, .bool false, .bool false] 29) = W3 at *
          generalize W2.heap.size = B6 at *
          refine wpAnyH_ready (rs := [10]) (by kernel_rfl) (by simp) ?_
          refine AllReadyH.cons (o := { dst := some 5, op := Op.alloc 26, type := 0, pos := "law.go:167", after := #[], guard := none }) rfl (fun K hK => ?_) ?_
          · go_simp
            refine hK.out _ _ (mkS _ (k.alloc _)) fun hH => ?_
            try simp only [Act.put, List.setIfInBounds_toArray, List.set_cons_zero, List.set_cons_succ]
            have hb5 : w2.heap.size ≤ W3.heap.size := k.size
            have hB5 := heap_new W3 (.cells #[.int .u64 0] 26)
            have hne : W3.heap.size ≠ B6 := fun q => by
              have := (Array.getElem?_eq_some_iff.1 hB6).1
              omega
            replace hB6 := hB6.kp ((Kp.refl _).alloc (.cells #[.int .u64 0] 26))
            replace k := k.alloc (.cells #[.int .u64 0] 26)
            generalize W3.alloc (.cells #[.int .u64 0] 26) = W4 at *
            generalize W3.heap.size = B5 at *
            refine wpAnyH_ready (rs := [12]) (by kernel_rfl) (by simp) ?_
            refine AllReadyH.cons (o := { dst := none, op := Op.store 26 (Operand.tmp 5) (Operand.tmp 20), type := 0, pos := "law.go:167", after := #[{ on := 10, ground := Ground.data }, { on := 4, ground := Ground.data }, { on := 9, ground := Ground.chain }, { on := 0, ground := Ground.phase }, { on := 1, ground := Ground.phase }, { on := 2, ground := Ground.phase }, { on := 3, ground := Ground.phase }, { on := 4, ground := Ground.phase }, { on := 5, ground := Ground.textOnly Departure.lateStores }, { on := 6, ground := Ground.textOnly Departure.lateStores }, { on := 7, ground := Ground.textOnly Departure.lateStores }, { on := 8, ground := Ground.textOnly Departure.lateStores }, { on := 9, ground := Ground.textOnly Departure.lateStoresUnsure }, { on := 10, ground := Ground.phase }, { on := 11, ground := Ground.phase }], guard := none }) rfl (fun K hK => ?_) AllReadyH.nil
            obtain ⟨c1, c2⟩ := one_cell hB5
            go_simp
            refine hK.out _ _ (mkS _ (Below.setCell k hb5 _)) fun hH => ?_
            try simp only [Act.put, List.setIfInBounds_toArray, List.set_cons_zero, List.set_cons_succ]
            clear c1 c2
            have hD5 := set_one hB5 0 (.int .u64 (zM : Int)) (by simp)
            have hD6 : Bl (W4.setCell ⟨B5, 0, none⟩ (.int .u64 (zM : Int))) B6 _ := (Below.heap_setCell W4 ⟨B5, 0, none⟩ (.int .u64 (zM : Int)) B6 (Ne.symm hne)).trans hB6
            have kd : Kp w2 (W4.setCell ⟨B5, 0, none⟩ (.int .u64 (zM : Int))) := Below.setCell k hb5 _
            clear hB5 hB6 k
            generalize W4.setCell ⟨B5, 0, none⟩ (.int .u64 (zM : Int)) = Wd at *
            refine wpAnyH_ready (rs := [13]) (by kernel_rfl) (by simp) ?_
            refine AllReadyH.cons (o := { dst := none, op := Op.store 29 (Operand.tmp 6) (Operand.tmp 25), type := 0, pos := "law.go:167", after := #[{ on := 11, ground := Ground.data }, { on := 9, ground := Ground.data }, { on := 12, ground := Ground.chain }, { on := 0, ground := Ground.phase }, { on := 1, ground := Ground.phase }, { on := 2, ground := Ground.phase }, { on := 3, ground := Ground.phase }, { on := 4, ground := Ground.phase }, { on := 5, ground := Ground.phase }, { on := 6, ground := Ground.phase }, { on := 7, ground := Ground.phase }, { on := 8, ground := Ground.phase }, { on := 9, ground := Ground.phase }, { on := 10, ground := Ground.phase }, { on := 11, ground := Ground.phase }, { on := 12, ground := Ground.phase }], guard := none }) rfl (fun K hK => ?_) AllReadyH.nil
            obtain ⟨a0', a1', a2', a3', a4', a5', a6', a7'⟩ := hD6.all
            obtain ⟨f0', f1', f2', f3', f4', f5', f6', f7'⟩ := hD6.thaw
            go_simp
            refine eight_set2 hD6 kd hb6 (g := GM) (P := fun w9 => K _ w9) fun w9 h9 k9 ho => ?_
            refine hK.out _ _ (mkS _ k9) fun hH => ?_
            try simp only [Act.put, List.setIfInBounds_toArray, List.set_cons_zero, List.set_cons_succ]
            refine wpAnyH_done (by kernel_rfl) (NoPanic.normal ?_) _
            have e5 := hide ((ho _ hne).trans hD5)
            have e6 := hide h9
            clear ho hD5 hD6 h9 hH hK a0' a1' a2' a3' a4' a5' a6' a7' f0' f1' f2' f3' f4' f5' f6' f7'
            go_wp2_with fail
            go_meet
            case rel => exact ⟨B5, B6, rfl, rfl, k9, hb5, hb6, hne, e5.out, e6.out⟩
          exact AllReadyH.nil
        exact AllReadyH.nil
      refine AllReadyH.cons (o := { dst := some 5, op := Op.alloc 26, type := 0, pos := "law.go:167", after := #[], guard := none }) rfl (fun K hK => ?_) ?_
      · go_simp
        refine hK.out _ _ (mkS _ (k.alloc _)) fun hH => ?_
        try simp only [Act.put, List.setIfInBounds_toArray, List.set_cons_zero, List.set_cons_succ]
        have hb5 : w2.heap.size ≤ W1.heap.size := k.size
        have hB5 := heap_new W1 (.cells #[.int .u64 0] 26)
        replace k := k.alloc (.cells #[.int .u64 0] 26)
        generalize W1.alloc (.cells #[.int .u64 0] 26) = W2 at *
        generalize W1.heap.size = B5 at *
        refine wpAnyH_ready (rs := [9, 11]) (by kernel_rfl) (by simp) ?_
        refine AllReadyH.cons (o := { dst := some 25, op := Op.call { callee := Callee.value (Operand.func 6), args := #[Operand.tmp 22, Operand.tmp 24], argTypes := #[22, 3] }, type := 29, pos := "law.go:167", after := #[{ on := 6, ground := Ground.data }, { on := 8, ground := Ground.data }, { on := 4, ground := Ground.chain }], guard := none }) rfl (fun K hK => ?_) ?_
        · go_simp
          go_at_call 6
          refine (rM _).mono ?_
          rintro r W3 ⟨rfl, kc⟩
          refine hK.out _ _ (mkS _ (k.trans kc)) fun hH => ?_
          try simp only [Act.put, List.setIfInBounds_toArray, List.set_cons_zero, List.set_cons_succ]
          replace k := k.trans kc
          replace hB5 := kc.blk hB5
          clear kc
          refine wpAnyH_ready (rs := [11]) (by kernel_rfl) (by simp) ?_
          refine AllReadyH.cons (o := { dst := some 6, op := Op.alloc 29, type := 0, pos := "law.go:167", after := #[], guard := none }) rfl (fun K hK => ?_) ?_
          · go_simp
            refine hK.out _ _ (mkS _ (k.alloc _)) fun hH => ?_
            try simp only [Act.put, List.setIfInBounds_toArray, List.set_cons_zero, List.set_cons_succ]
            have hb6 : w2.heap.size ≤ W3.heap.size := k.size
            have hB6 := Bl.new W3
            have hne : B5 ≠ W3.heap.size := fun q => by
              have := (Array.getElem?_eq_some_iff.1 hB5).1
              omega
            replace hB5 := ((Kp.refl _).alloc (.cells #[.bool false, .bool false, .bool false, .bool false, .bool false, .bool false, .bool false, .bool false] 29)).blk hB5
            replace k := k.alloc (.cells #[.bool false, .bool false, .bool false, .bool false, .bool false, .bool false, .bool false, .bool false] 29)
            generalize W3.alloc (.cells #[.bool false, .bool false, .bool false, .bool false, .bool false, .bool false, .bool false, .bool false] 29) = W4 at *
            generalize W3.heap.size = B6 at *
            refine wpAnyH_ready (rs := [12]) (by kernel_rfl) (by simp) ?_
            refine AllReadyH.cons (o := { dst := none, op := Op.store 26 (Operand.tmp 5) (Operand.tmp 20), type := 0, pos := "law.go:167", after := #[{ on := 10, ground := Ground.data }, { on := 4, ground := Ground.data }, { on := 9, ground := Ground.chain }, { on := 0, ground := Ground.phase }, { on := 1, ground := Ground.phase }, { on := 2, ground := Ground.phase }, { on := 3, ground := Ground.phase }, { on := 4, ground := Ground.phase }, { on := 5, ground := Ground.textOnly Departure.lateStores }, { on := 6, ground := Ground.textOnly Departure.lateStores }, { on := 7, ground := Ground.textOnly Departure.lateStores }, { on := 8, ground := Ground.textOnly Departure.lateStores }, { on := 9, ground := Ground.textOnly Departure.lateStoresUnsure }, { on := 10, ground := Ground.phase }, { on := 11, ground := Ground.phase }], guard := none }) rfl (fun K hK => ?_) AllReadyH.nil
            obtain ⟨c1, c2⟩ := one_cell hB5
            go_simp
            refine hK.out _ _ (mkS _ (Below.setCell k hb5 _)) fun hH => ?_
            try simp only [Act.put, List.setIfInBounds_toArray, List.set_cons_zero, List.set_cons_succ]
            clear c1 c2
            have hD5 := set_one hB5 0 (.int .u64 (zM : Int)) (by simp)
            have hD6 : Bl (W4.setCell ⟨B5, 0, none⟩ (.int .u64 (zM : Int))) B6 _ := (Below.heap_setCell W4 ⟨B5, 0, none⟩ (.int .u64 (zM : Int)) B6 (Ne.symm hne)).trans hB6
            have kd : Kp w2 (W4.setCell ⟨B5, 0, none⟩ (.int .u64 (zM : Int))) := Below.setCell k hb5 _
            clear hB5 hB6 k
            generalize W4.setCell ⟨B5, 0, none⟩ (.int .u64 (zM : Int)) = Wd at *
            refine wpAnyH_ready (rs := [13]) (by kernel_rfl) (by simp) ?_
            refine AllReadyH.cons (o := { dst := none, op := Op.store 29 (Operand.tmp 6) (Operand.tmp 25), type := 0, pos := "law.go:167", after := #[{ on := 11, ground := Ground.data }, { on := 9, ground := Ground.data }, { on := 12, ground := Ground.chain }, { on := 0, ground := Ground.phase }, { on := 1, ground := Ground.phase }, { on := 2, ground := Ground.phase }, { on := 3, ground := Ground.phase }, { on := 4, ground := Ground.phase }, { on := 5, ground := Ground.phase }, { on := 6, ground := Ground.phase }, { on := 7, ground := Ground.phase }, { on := 8, ground := Ground.phase }, { on := 9, ground := Ground.phase }, { on := 10, ground := Ground.phase }, { on := 11, ground := Ground.phase }, { on := 12, ground := Ground.phase }], guard := none }) rfl (fun K hK => ?_) AllReadyH.nil
            obtain ⟨a0', a1', a2', a3', a4', a5', a6', a7'⟩ := hD6.all
            obtain ⟨f0', f1', f2', f3', f4', f5', f6', f7'⟩ := hD6.thaw
            go_simp
            refine eight_set2 hD6 kd hb6 (g := GM) (P := fun w9 => K _ w9) fun w9 h9 k9 ho => ?_
            refine hK.out _ _ (mkS _ k9) fun hH => ?_
            try simp only [Act.put, List.setIfInBounds_toArray, List.set_cons_zero, List.set_cons_succ]
            refine wpAnyH_done (by kernel_rfl) (NoPanic.normal ?_) _
            have e5 := hide ((ho _ hne).trans hD5)
            have e6 := hide h9
            clear ho hD5 hD6 h9 hH hK a0' a1' a2' a3' a4' a5' a6' a7' f0' f1' f2' f3' f4' f5' f6' f7'
            go_wp2_with fail
            go_meet
            case rel => exact ⟨B5, B6, rfl, rfl, k9, hb5, hb6, hne, e5.out, e6.out⟩
          exact AllReadyH.nil
        refine AllReadyH.cons (o := { dst := some 6, op := Op.alloc 29, type := 0, pos := "law.go:167", after := #[], guard := none }) rfl (fun K hK => ?_) ?_
        · go_simp
          refine hK.out _ _ (mkS _ (k.alloc _)) fun hH => ?_
          try simp only [Act.put, List.setIfInBounds_toArray, List.set_cons_zero, List.set_cons_succ]
          have hb6 : w2.heap.size ≤ W2.heap.size := k.size
          have hB6 := Bl.new W2
          have hne : B5 ≠ W2.heap.size := fun q => by
            have := (Array.getElem?_eq_some_iff.1 hB5).1
            omega
          replace hB5 := ((Kp.refl _).alloc (.cells #[.bool false, .bool false, .bool false, .bool false, .bool false, .bool false, .bool false, .bool false] 29)).blk hB5
          replace k := k.alloc (.cells #[.bool false, .bool false, .bool false, .bool false, .bool false, .bool false, .bool false, .bool false] 29)
          generalize W2.alloc (.cells #[.bool false, .bool false, .bool false, .bool false, .bool false, .bool false, .bool false, .bool false] 29) = W3 at *
          generalize W2.heap.size = B6 at *
          refine wpAnyH_ready (rs := [9]) (by kernel_rfl) (by simp) ?_
          refine AllReadyH.cons (o := { dst := some 25, op := Op.call { callee := Callee.value (Operand.func 6), args := #[Operand.tmp 22, Operand.tmp 24], argTypes := #[22, 3] }, type := 29, pos := "law.go:167", after := #[{ on := 6, ground := Ground.data }, { on := 8, ground := Ground.data }, { on := 4, ground := Ground.chain }], guard := none }) rfl (fun K hK => ?_) ?_
          · go_simp
            go_at_call 6
            refine (rM _).mono ?_
            rintro r W4 ⟨rfl, kc⟩
            refine hK.out _ _ (mkS _ (k.trans kc)) fun hH => ?_
            try simp only [Act.put, List.setIfInBounds_toArray, List.set_cons_zero, List.set_cons_succ]
            replace k := k.trans kc
            replace hB5 := kc.blk hB5
            replace hB6 := hB6.kp kc
            clear kc
            refine wpAnyH_ready (rs := [12]) (by kernel_rfl) (by simp) ?_
            refine AllReadyH.cons (o := { dst := none, op := Op.store 26 (Operand.tmp 5) (Operand.tmp 20), type := 0, pos := "law.go:167", after := #[{ on := 10, ground := Ground.data }, { on := 4, ground := Ground.data }, { on := 9, ground := Ground.chain }, { on := 0, ground := Ground.phase }, { on := 1, ground := Ground.phase }, { on := 2, ground := Ground.phase }, { on := 3, ground := Ground.phase }, { on := 4, ground := Ground.phase }, { on := 5, ground := Ground.textOnly Departure.lateStores }, { on := 6, ground := Ground.textOnly Departure.lateStores }, { on := 7, ground := Ground.textOnly Departure.lateStores }, { on := 8, ground := Ground.textOnly Departure.lateStores }, { on := 9, ground := Ground.textOnly Departure.lateStoresUnsure }, { on := 10, ground := Ground.phase }, { on := 11, ground := Ground.phase }], guard := none }) rfl (fun K hK => ?_) AllReadyH.nil
            obtain ⟨c1, c2⟩ := one_cell hB5
            go_simp
            refine hK.out _ _ (mkS _ (Below.setCell k hb5 _)) fun hH => ?_
            try simp only [Act.put, List.setIfInBounds_toArray, List.set_cons_zero, List.set_cons_succ]
            clear c1 c2
            have hD5 := set_one hB5 0 (.int .u64 (zM : Int)) (by simp)
            have hD6 : Bl (W4.setCell ⟨B5, 0, none⟩ (.int .u64 (zM : Int))) B6 _ := (Below.heap_setCell W4 ⟨B5, 0, none⟩ (.int .u64 (zM : Int)) B6 (Ne.symm hne)).trans hB6
            have kd : Kp w2 (W4.setCell ⟨B5, 0, none⟩ (.int .u64 (zM : Int))) := Below.setCell k hb5 _
            clear hB5 hB6 k
            generalize W4.setCell ⟨B5, 0, none⟩ (.int .u64 (zM : Int)) = Wd at *
            refine wpAnyH_ready (rs := [13]) (by kernel_rfl) (by simp) ?_
            refine AllReadyH.cons (o := { dst := none, op := Op.store 29 (Operand.tmp 6) (Operand.tmp 25), type := 0, pos := "law.go:167", after := #[{ on := 11, ground := Ground.data }, { on := 9, ground := Ground.data }, { on := 12, ground := Ground.chain }, { on := 0, ground := Ground.phase }, { on := 1, ground := Ground.phase }, { on := 2, ground := Ground.phase }, { on := 3, ground := Ground.phase }, { on := 4, ground := Ground.phase }, { on := 5, ground := Ground.phase }, { on := 6, ground := Ground.phase }, { on := 7, ground := Ground.phase }, { on := 8, ground := Ground.phase }, { on := 9, ground := Ground.phase }, { on := 10, ground := Ground.phase }, { on := 11, ground := Ground.phase }, { on := 12, ground := Ground.phase }], guard := none }) rfl (fun K hK => ?_) AllReadyH.nil
            obtain ⟨a0', a1', a2', a3', a4', a5', a6', a7'⟩ := hD6.all
            obtain ⟨f0', f1', f2', f3', f4', f5', f6', f7'⟩ := hD6.thaw
            go_simp
            refine eight_set2 hD6 kd hb6 (g := GM) (P := fun w9 => K _ w9) fun w9 h9 k9 ho => ?_
            refine hK.out _ _ (mkS _ k9) fun hH => ?_
            try simp only [Act.put, List.setIfInBounds_toArray, List.set_cons_zero, List.set_cons_succ]
            refine wpAnyH_done (by kernel_rfl) (NoPanic.normal ?_) _
            have e5 := hide ((ho _ hne).trans hD5)
            have e6 := hide h9
            clear ho hD5 hD6 h9 hH hK a0' a1' a2' a3' a4' a5' a6' a7' f0' f1' f2' f3' f4' f5' f6' f7'
            go_wp2_with fail
            go_meet
            case rel => exact ⟨B5, B6, rfl, rfl, k9, hb5, hb6, hne, e5.out, e6.out⟩
          exact AllReadyH.nil
        exact AllReadyH.nil
      refine AllReadyH.cons (o := { dst := some 6, op := Op.alloc 29, type := 0, pos := "law.go:167", after := #[], guard := none }) rfl (fun K hK => ?_) ?_
      · go_simp
        refine hK.out _ _ (mkS _ (k.alloc _)) fun hH => ?_
        try simp only [Act.put, List.setIfInBounds_toArray, List.set_cons_zero, List.set_cons_succ]
        have hb6 : w2.heap.size ≤ W1.heap.size := k.size
        have hB6 := Bl.new W1
        replace k := k.alloc (.cells #[.bool false, .bool false, .bool false, .bool false, .bool false, .bool false, .bool false, .bool false] 29)
        generalize W1.alloc (.cells #[.bool false, .bool false, .bool false, .bool false, .bool false, .bool false, .bool false, .bool false] 29) = W2 at *
        generalize W1.heap.size = B6 at *
        refine wpAnyH_ready (rs := [9, 10]) (by kernel_rfl) (by simp) ?_
        refine AllReadyH.cons (o := { dst := some 25, op := Op.call { callee := Callee.value (Operand.func 6), args := #[Operand.tmp 22, Operand.tmp 24], argTypes := #[22, 3] }, type := 29, pos := "law.go:167", after := #[{ on := 6, ground := Ground.data }, { on := 8, ground := Ground.data }, { on := 4, ground := Ground.chain }], guard := none }) rfl (fun K hK => ?_) ?_
        · go_simp
          go_at_call 6
          refine (rM _).mono ?_
          rintro r W3 ⟨rfl, kc⟩
          refine hK.out _ _ (mkS _ (k.trans kc)) fun hH => ?_
          try simp only [Act.put, List.setIfInBounds_toArray, List.set_cons_zero, List.set_cons_succ]
          replace k := k.trans kc
          replace hB6 := hB6.kp kc
          clear kc
          refine wpAnyH_ready (rs := [10]) (by kernel_rfl) (by simp) ?_
          refine AllReadyH.cons (o := { dst := some 5, op := Op.alloc 26, type := 0, pos := "law.go:167", after := #[], guard := none }) rfl (fun K hK => ?_) ?_
          · go_simp
            refine hK.out _ _ (mkS _ (k.alloc _)) fun hH => ?_
            try simp only [Act.put, List.setIfInBounds_toArray, List.set_cons_zero, List.set_cons_succ]
            have hb5 : w2.heap.size ≤ W3.heap.size := k.size
            have hB5 := heap_new W3 (.cells #[.int .u64 0] 26)
            have hne : W3.heap.size ≠ B6 := fun q => by
              have := (Array.getElem?_eq_some_iff.1 hB6).1
              omega
            replace hB6 := hB6.kp ((Kp.refl _).alloc (.cells #[.int .u64 0] 26))
            replace k := k.alloc (.cells #[.int .u64 0] 26)
            generalize W3.alloc (.cells #[.int .u64 0] 26) = W4 at *
            generalize W3.heap.size = B5 at *
            refine wpAnyH_ready (rs := [12]) (by kernel_rfl) (by simp) ?_
            refine AllReadyH.cons (o := { dst := none, op := Op.store 26 (Operand.tmp 5) (Operand.tmp 20), type := 0, pos := "law.go:167", after := #[{ on := 10, ground := Ground.data }, { on := 4, ground := Ground.data }, { on := 9, ground := Ground.chain }, { on := 0, ground := Ground.phase }, { on := 1, ground := Ground.phase }, { on := 2, ground := Ground.phase }, { on := 3, ground := Ground.phase }, { on := 4, ground := Ground.phase }, { on := 5, ground := Ground.textOnly Departure.lateStores }, { on := 6, ground := Ground.textOnly Departure.lateStores }, { on := 7, ground := Ground.textOnly Departure.lateStores }, { on := 8, ground := Ground.textOnly Departure.lateStores }, { on := 9, ground := Ground.textOnly Departure.lateStoresUnsure }, { on := 10, ground := Ground.phase }, { on := 11, ground := Ground.phase }], guard := none }) rfl (fun K hK => ?_) AllReadyH.nil
            obtain ⟨c1, c2⟩ := one_cell hB5
            go_simp
            refine hK.out _ _ (mkS _ (Below.setCell k hb5 _)) fun hH => ?_
            try simp only [Act.put, List.setIfInBounds_toArray, List.set_cons_zero, List.set_cons_succ]
            clear c1 c2
            have hD5 := set_one hB5 0 (.int .u64 (zM : Int)) (by simp)
            have hD6 : Bl (W4.setCell ⟨B5, 0, none⟩ (.int .u64 (zM : Int))) B6 _ := (Below.heap_setCell W4 ⟨B5, 0, none⟩ (.int .u64 (zM : Int)) B6 (Ne.symm hne)).trans hB6
            have kd : Kp w2 (W4.setCell ⟨B5, 0, none⟩ (.int .u64 (zM : Int))) := Below.setCell k hb5 _
            clear hB5 hB6 k
            generalize W4.setCell ⟨B5, 0, none⟩ (.int .u64 (zM : Int)) = Wd at *
            refine wpAnyH_ready (rs := [13]) (by kernel_rfl) (by simp) ?_
            refine AllReadyH.cons (o := { dst := none, op := Op.store 29 (Operand.tmp 6) (Operand.tmp 25), type := 0, pos := "law.go:167", after := #[{ on := 11, ground := Ground.data }, { on := 9, ground := Ground.data }, { on := 12, ground := Ground.chain }, { on := 0, ground := Ground.phase }, { on := 1, ground := Ground.phase }, { on := 2, ground := Ground.phase }, { on := 3, ground := Ground.phase }, { on := 4, ground := Ground.phase }, { on := 5, ground := Ground.phase }, { on := 6, ground := Ground.phase }, { on := 7, ground := Ground.phase }, { on := 8, ground := Ground.phase }, { on := 9, ground := Ground.phase }, { on := 10, ground := Ground.phase }, { on := 11, ground := Ground.phase }, { on := 12, ground := Ground.phase }], guard := none }) rfl (fun K hK => ?_) AllReadyH.nil
            obtain ⟨a0', a1', a2', a3', a4', a5', a6', a7'⟩ := hD6.all
            obtain ⟨f0', f1', f2', f3', f4', f5', f6', f7'⟩ := hD6.thaw
            go_simp
            refine eight_set2 hD6 kd hb6 (g := GM) (P := fun w9 => K _ w9) fun w9 h9 k9 ho => ?_
            refine hK.out _ _ (mkS _ k9) fun hH => ?_
            try simp only [Act.put, List.setIfInBounds_toArray, List.set_cons_zero, List.set_cons_succ]
            refine wpAnyH_done (by kernel_rfl) (NoPanic.normal ?_) _
            have e5 := hide ((ho _ hne).trans hD5)
            have e6 := hide h9
            clear ho hD5 hD6 h9 hH hK a0' a1' a2' a3' a4' a5' a6' a7' f0' f1' f2' f3' f4' f5' f6' f7'
            go_wp2_with fail
            go_meet
            case rel => exact ⟨B5, B6, rfl, rfl, k9, hb5, hb6, hne, e5.out, e6.out⟩
          exact AllReadyH.nil
        refine AllReadyH.cons (o := { dst := some 5, op := Op.alloc 26, type := 0, pos := "law.go:167", after := #[], guard := none }) rfl (fun K hK => ?_) ?_
        · go_simp
          refine hK.out _ _ (mkS _ (k.alloc _)) fun hH => ?_
          try simp only [Act.put, List.setIfInBounds_toArray, List.set_cons_zero, List.set_cons_succ]
          have hb5 : w2.heap.size ≤ W2.heap.size := k.size
          have hB5 := heap_new W2 (.cells #[.int .u64 0] 26)
          have hne : W2.heap.size ≠ B6 := fun q => by
            have := (Array.getElem?_eq_some_iff.1 hB6).1
            omega
          replace hB6 := hB6.kp ((Kp.refl _).alloc (.cells #[.int .u64 0] 26))
          replace k := k.alloc (.cells #[.int .u64 0] 26)
          generalize W2.alloc (.cells #[.int .u64 0] 26) = W3 at *
          generalize W2.heap.size = B5 at *
          refine wpAnyH_ready (rs := [9]) (by kernel_rfl) (by simp) ?_
          refine AllReadyH.cons (o := { dst := some 25, op := Op.call { callee := Callee.value (Operand.func 6), args := #[Operand.tmp 22, Operand.tmp 24], argTypes := #[22, 3] }, type := 29, pos := "law.go:167", after := #[{ on := 6, ground := Ground.data }, { on := 8, ground := Ground.data }, { on := 4, ground := Ground.chain }], guard := none }) rfl (fun K hK => ?_) ?_
          · go_simp
            go_at_call 6
            refine (rM _).mono ?_
            rintro r W4 ⟨rfl, kc⟩
            refine hK.out _ _ (mkS _ (k.trans kc)) fun hH => ?_
            try simp only [Act.put, List.setIfInBounds_toArray, List.set_cons_zero, List.set_cons_succ]
            replace k := k.trans kc
            replace hB5 := kc.blk hB5
            replace hB6 := hB6.kp kc
            clear kc
            refine wpAnyH_ready (rs := [12]) (by kernel_rfl) (by simp) ?_
            refine AllReadyH.cons (o := { dst := none, op := Op.store 26 (Operand.tmp 5) (Operand.tmp 20), type := 0, pos := "law.go:167", after := #[{ on := 10, ground := Ground.data }, { on := 4, ground := Ground.data }, { on := 9, ground := Ground.chain }, { on := 0, ground := Ground.phase }, { on := 1, ground := Ground.phase }, { on := 2, ground := Ground.phase }, { on := 3, ground := Ground.phase }, { on := 4, ground := Ground.phase }, { on := 5, ground := Ground.textOnly Departure.lateStores }, { on := 6, ground := Ground.textOnly Departure.lateStores }, { on := 7, ground := Ground.textOnly Departure.lateStores }, { on := 8, ground := Ground.textOnly Departure.lateStores }, { on := 9, ground := Ground.textOnly Departure.lateStoresUnsure }, { on := 10, ground := Ground.phase }, { on := 11, ground := Ground.phase }], guard := none }) rfl (fun K hK => ?_) AllReadyH.nil
            obtain ⟨c1, c2⟩ := one_cell hB5
            go_simp
            refine hK.out _ _ (mkS _ (Below.setCell k hb5 _)) fun hH => ?_
            try simp only [Act.put, List.setIfInBounds_toArray, List.set_cons_zero, List.set_cons_succ]
            clear c1 c2
            have hD5 := set_one hB5 0 (.int .u64 (zM : Int)) (by simp)
            have hD6 : Bl (W4.setCell ⟨B5, 0, none⟩ (.int .u64 (zM : Int))) B6 _ := (Below.heap_setCell W4 ⟨B5, 0, none⟩ (.int .u64 (zM : Int)) B6 (Ne.symm hne)).trans hB6
            have kd : Kp w2 (W4.setCell ⟨B5, 0, none⟩ (.int .u64 (zM : Int))) := Below.setCell k hb5 _
            clear hB5 hB6 k
            generalize W4.setCell ⟨B5, 0, none⟩ (.int .u64 (zM : Int)) = Wd at *
            refine wpAnyH_ready (rs := [13]) (by kernel_rfl) (by simp) ?_
            refine AllReadyH.cons (o := { dst := none, op := Op.store 29 (Operand.tmp 6) (Operand.tmp 25), type := 0, pos := "law.go:167", after := #[{ on := 11, ground := Ground.data }, { on := 9, ground := Ground.data }, { on := 12, ground := Ground.chain }, { on := 0, ground := Ground.phase }, { on := 1, ground := Ground.phase }, { on := 2, ground := Ground.phase }, { on := 3, ground := Ground.phase }, { on := 4, ground := Ground.phase }, { on := 5, ground := Ground.phase }, { on := 6, ground := Ground.phase }, { on := 7, ground := Ground.phase }, { on := 8, ground := Ground.phase }, { on := 9, ground := Ground.phase }, { on := 10, ground := Ground.phase }, { on := 11, ground := Ground.phase }, { on := 12, ground := Ground.phase }], guard := none }) rfl (fun K hK => ?_) AllReadyH.nil
            obtain ⟨a0', a1', a2', a3', a4', a5', a6', a7'⟩ := hD6.all
            obtain ⟨f0', f1', f2', f3', f4', f5', f6', f7'⟩ := hD6.thaw
            go_simp
            refine eight_set2 hD6 kd hb6 (g := GM) (P := fun w9 => K _ w9) fun w9 h9 k9 ho => ?_
            refine hK.out _ _ (mkS _ k9) fun hH => ?_
            try simp only [Act.put, List.setIfInBounds_toArray, List.set_cons_zero, List.set_cons_succ]
            refine wpAnyH_done (by kernel_rfl) (NoPanic.normal ?_) _
            have e5 := hide ((ho _ hne).trans hD5)
            have e6 := hide h9
            clear ho hD5 hD6 h9 hH hK a0' a1' a2' a3' a4' a5' a6' a7' f0' f1' f2' f3' f4' f5' f6' f7'
            go_wp2_with fail
            go_meet
            case rel => exact ⟨B5, B6, rfl, rfl, k9, hb5, hb6, hne, e5.out, e6.out⟩
          exact AllReadyH.nil
        exact AllReadyH.nil
      exact AllReadyH.nil
    refine AllReadyH.cons (o := { dst := some 5, op := Op.alloc 26, type := 0, pos := "law.go:167", after := #[], guard := none }) rfl (fun K hK => ?_) ?_
    · go_simp
      refine hK.out _ _ (mkS _ (k.alloc _)) fun hH => ?_
      try simp only [Act.put, List.setIfInBounds_toArray, List.set_cons_zero, List.set_cons_succ]
      have hb5 : w2.heap.size ≤ W0.heap.size := k.size
      have hB5 := heap_new W0 (.cells #[.int .u64 0] 26)
      replace k := k.alloc (.cells #[.int .u64 0] 26)
      generalize W0.alloc (.cells #[.int .u64 0] 26) = W1 at *
      generalize W0.heap.size = B5 at *
      refine wpAnyH_ready (rs := [4, 11]) (by kernel_rfl) (by simp) ?_
      refine AllReadyH.cons (o := { dst := some 20, op := Op.call { callee := Callee.value (Operand.func 5), args := #[Operand.tmp 17, Operand.tmp 19], argTypes := #[22, 3] }, type := 26, pos := "law.go:167", after := #[{ on := 1, ground := Ground.data }, { on := 3, ground := Ground.data }], guard := none }) rfl (fun K hK => ?_) ?_
      · go_simp
        go_at_call 5
        refine (match_is qM _).mono ?_
        rintro r W2 ⟨rfl, kc⟩
        refine hK.out _ _ (mkS _ (k.trans kc)) fun hH => ?_
        try simp only [Act.put, List.setIfInBounds_toArray, List.set_cons_zero, List.set_cons_succ]
        replace k := k.trans kc
        replace hB5 := kc.blk hB5
        clear kc
        refine wpAnyH_ready (rs := [9, 11]) (by kernel_rfl) (by simp) ?_
        refine AllReadyH.cons (o := { dst := some 25, op := Op.call { callee := Callee.value (Operand.func 6), args := #[Operand.tmp 22, Operand.tmp 24], argTypes := #[22, 3] }, type := 29, pos := "law.go:167", after := #[{ on := 6, ground := Ground.data }, { on := 8, ground := Ground.data }, { on := 4, ground := Ground.chain }], guard := none }) rfl (fun K hK => ?_) ?_
        · go_simp
          go_at_call 6
          refine (rM _).mono ?_
          rintro r W3 ⟨rfl, kc⟩
          refine hK.out _ _ (mkS _ (k.trans kc)) fun hH => ?_
          try simp only [Act.put, List.setIfInBounds_toArray, List.set_cons_zero, List.set_cons_succ]
          replace k := k.trans kc
          replace hB5 := kc.blk hB5
          clear kc
          refine wpAnyH_ready (rs := [11]) (by kernel_rfl) (by simp) ?_
          refine AllReadyH.cons (o := { dst := some 6, op := Op.alloc 29, type := 0, pos := "law.go:167", after := #[], guard := none }) rfl (fun K hK => ?_) ?_
          · go_simp
            refine hK.out _ _ (mkS _ (k.alloc _)) fun hH => ?_
            try simp only [Act.put, List.setIfInBounds_toArray, List.set_cons_zero, List.set_cons_succ]
            have hb6 : w2.heap.size ≤ W3.heap.size := k.size
            have hB6 := Bl.new W3
            have hne : B5 ≠ W3.heap.size := fun q => by
              have := (Array.getElem?_eq_some_iff.1 hB5).1
              omega
            replace hB5 := ((Kp.refl _).alloc (.cells #[.bool false, .bool false, .bool false, .bool false, .bool false, .bool false, .bool false, .bool false] 29)).blk hB5
            replace k := k.alloc (.cells #[.bool false, .bool false, .bool false, .bool false, .bool false, .bool false, .bool false, .bool false] 29)
            generalize W3.alloc (.cells #[.bool false, .bool false, .bool false, .bool false, .bool false, .bool false, .bool false, .bool false] 29) = W4 at *
            generalize W3.heap.size = B6 at *
            refine wpAnyH_ready (rs := [12]) (by kernel_rfl) (by simp) ?_
            refine AllReadyH.cons (o := { dst := none, op := Op.store 26 (Operand.tmp 5) (Operand.tmp 20), type := 0, pos := "law.go:167", after := #[{ on := 10, ground := Ground.data }, { on := 4, ground := Ground.data }, { on := 9, ground := Ground.chain }, { on := 0, ground := Ground.phase }, { on := 1, ground := Ground.phase }, { on := 2, ground := Ground.phase }, { on := 3, ground := Ground.phase }, { on := 4, ground := Ground.phase }, { on := 5, ground := Ground.textOnly Departure.lateStores }, { on := 6, ground := Ground.textOnly Departure.lateStores }, { on := 7, ground := Ground.textOnly Departure.lateStores }, { on := 8, ground := Ground.textOnly Departure.lateStores }, { on := 9, ground := Ground.textOnly Departure.lateStoresUnsure }, { on := 10, ground := Ground.phase }, { on := 11, ground := Ground.phase }], guard := none }) rfl (fun K hK => ?_) AllReadyH.nil
            obtain ⟨c1, c2⟩ := one_cell hB5
            go_simp
            refine hK.out _ _ (mkS _ (Below.setCell k hb5 _)) fun hH => ?_
            try simp only [Act.put, List.setIfInBounds_toArray, List.set_cons_zero, List.set_cons_succ]
            clear c1 c2
            have hD5 := set_one hB5 0 (.int .u64 (zM : Int)) (by simp)
            have hD6 : Bl (W4.setCell ⟨B5, 0, none⟩ (.int .u64 (zM : Int))) B6 _ := (Below.heap_setCell W4 ⟨B5, 0, none⟩ (.int .u64 (zM : Int)) B6 (Ne.symm hne)).trans hB6
            have kd : Kp w2 (W4.setCell ⟨B5, 0, none⟩ (.int .u64 (zM : Int))) := Below.setCell k hb5 _
            clear hB5 hB6 k
            generalize W4.setCell ⟨B5, 0, none⟩ (.int .u64 (zM : Int)) = Wd at *
            refine wpAnyH_ready (rs := [13]) (by kernel_rfl) (by simp) ?_
            refine AllReadyH.cons (o := { dst := none, op := Op.store 29 (Operand.tmp 6) (Operand.tmp 25), type := 0, pos := "law.go:167", after := #[{ on := 11, ground := Ground.data }, { on := 9, ground := Ground.data }, { on := 12, ground := Ground.chain }, { on := 0, ground := Ground.phase }, { on := 1, ground := Ground.phase }, { on := 2, ground := Ground.phase }, { on := 3, ground := Ground.phase }, { on := 4, ground := Ground.phase }, { on := 5, ground := Ground.phase }, { on := 6, ground := Ground.phase }, { on := 7, ground := Ground.phase }, { on := 8, ground := Ground.phase }, { on := 9, ground := Ground.phase }, { on := 10, ground := Ground.phase }, { on := 11, ground := Ground.phase }, { on := 12, ground := Ground.phase }], guard := none }) rfl (fun K hK => ?_) AllReadyH.nil
            obtain ⟨a0', a1', a2', a3', a4', a5', a6', a7'⟩ := hD6.all
            obtain ⟨f0', f1', f2', f3', f4', f5', f6', f7'⟩ := hD6.thaw
            go_simp
            refine eight_set2 hD6 kd hb6 (g := GM) (P := fun w9 => K _ w9) fun w9 h9 k9 ho => ?_
            refine hK.out _ _ (mkS _ k9) fun hH => ?_
            try simp only [Act.put, List.setIfInBounds_toArray, List.set_cons_zero, List.set_cons_succ]
            refine wpAnyH_done (by kernel_rfl) (NoPanic.normal ?_) _
            have e5 := hide ((ho _ hne).trans hD5)
            have e6 := hide h9
            clear ho hD5 hD6 h9 hH hK a0' a1' a2' a3' a4' a5' a6' a7' f0' f1' f2' f3' f4' f5' f6' f7'
            go_wp2_with fail
            go_meet
            case rel => exact ⟨B5, B6, rfl, rfl, k9, hb5, hb6, hne, e5.out, e6.out⟩
          exact AllReadyH.nil
        refine AllReadyH.cons (o := { dst := some 6, op := Op.alloc 29, type := 0, pos := "law.go:167", after := #[], guard := none }) rfl (fun K hK => ?_) ?_
        · go_simp
          refine hK.out _ _ (mkS _ (k.alloc _)) fun hH => ?_
          try simp only [Act.put, List.setIfInBounds_toArray, List.set_cons_zero, List.set_cons_succ]
          have hb6 : w2.heap.size ≤ W2.heap.size := k.size
          have hB6 := Bl.new W2
          have hne : B5 ≠ W2.heap.size := fun q => by
            have := (Array.getElem?_eq_some_iff.1 hB5).1
            omega
          replace hB5 := ((Kp.refl _).alloc (.cells #[.bool false, .bool false, .bool false, .bool false, .bool false, .bool false, .bool false, .bool false] 29)).blk hB5
          replace k := k.alloc (.cells #[.bool false, .bool false, .bool false, .bool false, .bool false, .bool false, .bool false, .bool false] 29)
          generalize W2.alloc (.cells #[.bool false, .bool false, .bool false, .bool false, .bool false, .bool false, .bool false, .bool false] 29) = W3 at *
          generalize W2.heap.size = B6 at *
          refine wpAnyH_ready (rs := [9]) (by kernel_rfl) (by simp) ?_
          refine AllReadyH.cons (o := { dst := some 25, op := Op.call { callee := Callee.value (Operand.func 6), args := #[Operand.tmp 22, Operand.tmp 24], argTypes := #[22, 3] }, type := 29, pos := "law.go:167", after := #[{ on := 6, ground := Ground.data }, { on := 8, ground := Ground.data }, { on := 4, ground := Ground.chain }], guard := none }) rfl (fun K hK => ?_) ?_
          · go_simp
            go_at_call 6
            refine (rM _).mono ?_
            rintro r W4 ⟨rfl, kc⟩
            refine hK.out _ _ (mkS _ (k.trans kc)) fun hH => ?_
            try simp only [Act.put, List.setIfInBounds_toArray, List.set_cons_zero, List.set_cons_succ]
            replace k := k.trans kc
            replace hB5 := kc.blk hB5
            replace hB6 := hB6.kp kc
            clear kc
            refine wpAnyH_ready (rs := [12]) (by kernel_rfl) (by simp) ?_
            refine AllReadyH.cons (o := { dst := none, op := Op.store 26 (Operand.tmp 5) (Operand.tmp 20), type := 0, pos := "law.go:167", after := #[{ on := 10, ground := Ground.data }, { on := 4, ground := Ground.data }, { on := 9, ground := Ground.chain }, { on := 0, ground := Ground.phase }, { on := 1, ground := Ground.phase }, { on := 2, ground := Ground.phase }, { on := 3, ground := Ground.phase }, { on := 4, ground := Ground.phase }, { on := 5, ground := Ground.textOnly Departure.lateStores }, { on := 6, ground := Ground.textOnly Departure.lateStores }, { on := 7, ground := Ground.textOnly Departure.lateStores }, { on := 8, ground := Ground.textOnly Departure.lateStores }, { on := 9, ground := Ground.textOnly Departure.lateStoresUnsure }, { on := 10, ground := Ground.phase }, { on := 11, ground := Ground.phase }], guard := none }) rfl (fun K hK => ?_) AllReadyH.nil
            obtain ⟨c1, c2⟩ := one_cell hB5
            go_simp
            refine hK.out _ _ (mkS _ (Below.setCell k hb5 _)) fun hH => ?_
            try simp only [Act.put, List.setIfInBounds_toArray, List.set_cons_zero, List.set_cons_succ]
            clear c1 c2
            have hD5 := set_one hB5 0 (.int .u64 (zM : Int)) (by simp)
            have hD6 : Bl (W4.setCell ⟨B5, 0, none⟩ (.int .u64 (zM : Int))) B6 _ := (Below.heap_setCell W4 ⟨B5, 0, none⟩ (.int .u64 (zM : Int)) B6 (Ne.symm hne)).trans hB6
            have kd : Kp w2 (W4.setCell ⟨B5, 0, none⟩ (.int .u64 (zM : Int))) := Below.setCell k hb5 _
            clear hB5 hB6 k
            generalize W4.setCell ⟨B5, 0, none⟩ (.int .u64 (zM : Int)) = Wd at *
            refine wpAnyH_ready (rs := [13]) (by kernel_rfl) (by simp) ?_
            refine AllReadyH.cons (o := { dst := none, op := Op.store 29 (Operand.tmp 6) (Operand.tmp 25), type := 0, pos := "law.go:167", after := #[{ on := 11, ground := Ground.data }, { on := 9, ground := Ground.data }, { on := 12, ground := Ground.chain }, { on := 0, ground := Ground.phase }, { on := 1, ground := Ground.phase }, { on := 2, ground := Ground.phase }, { on := 3, ground := Ground.phase }, { on := 4, ground := Ground.phase }, { on := 5, ground := Ground.phase }, { on := 6, ground := Ground.phase }, { on := 7, ground := Ground.phase }, { on := 8, ground := Ground.phase }, { on := 9, ground := Ground.phase }, { on := 10, ground := Ground.phase }, { on := 11, ground := Ground.phase }, { on := 12, ground := Ground.phase }], guard := none }) rfl (fun K hK => ?_) AllReadyH.nil
            obtain ⟨a0', a1', a2', a3', a4', a5', a6', a7'⟩ := hD6.all
            obtain ⟨f0', f1', f2', f3', f4', f5', f6', f7'⟩ := hD6.thaw
            go_simp
            refine eight_set2 hD6 kd hb6 (g := GM) (P := fun w9 => K _ w9) fun w9 h9 k9 ho => ?_
            refine hK.out _ _ (mkS _ k9) fun hH => ?_
            try simp only [Act.put, List.setIfInBounds_toArray, List.set_cons_zero, List.set_cons_succ]
            refine wpAnyH_done (by kernel_rfl) (NoPanic.normal ?_) _
            have e5 := hide ((ho _ hne).trans hD5)
            have e6 := hide h9
            clear ho hD5 hD6 h9 hH hK a0' a1' a2' a3' a4' a5' a6' a7' f0' f1' f2' f3' f4' f5' f6' f7'
            go_wp2_with fail
            go_meet
            case rel => exact ⟨B5, B6, rfl, rfl, k9, hb5, hb6, hne, e5.out, e6.out⟩
          exact AllReadyH.nil
        exact AllReadyH.nil
      refine AllReadyH.cons (o := { dst := some 6, op := Op.alloc 29, type := 0, pos := "law.go:167", after := #[], guard := none }) rfl (fun K hK => ?_) ?_
      · go_simp
        refine hK.out _ _ (mkS _ (k.alloc _)) fun hH => ?_
        try simp only [Act.put, List.setIfInBounds_toArray, List.set_cons_zero, List.set_cons_succ]
        have hb6 : w2.heap.size ≤ W1.heap.size := k.size
        have hB6 := Bl.new W1
        have hne : B5 ≠ W1.heap.size := fun q => by
          have := (Array.getElem?_eq_some_iff.1 hB5).1
          omega
        replace hB5 := ((Kp.refl _).alloc (.cells #[.bool false, .bool false, .bool false, .bool false, .bool false, .bool false, .bool false, .bool false] 29)).blk hB5
        replace k := k.alloc (.cells #[.bool false, .bool false, .bool false, .bool false, .bool false, .bool false, .bool false, .bool false] 29)
        generalize W1.alloc (.cells #[.bool false, .bool false, .bool false, .bool false, .bool false, .bool false, .bool false, .bool false] 29) = W2 at *
        generalize W1.heap.size = B6 at *
        refine wpAnyH_ready (rs := [4]) (by kernel_rfl) (by simp) ?_
        refine AllReadyH.cons (o := { dst := some 20, op := Op.call { callee := Callee.value (Operand.func 5), args := #[Operand.tmp 17, Operand.tmp 19], argTypes := #[22, 3] }, type := 26, pos := "law.go:167", after := #[{ on := 1, ground := Ground.data }, { on := 3, ground := Ground.data }], guard := none }) rfl (fun K hK => ?_) ?_
        · go_simp
          go_at_call 5
          refine (match_is qM _).mono ?_
          rintro r W3 ⟨rfl, kc⟩
          refine hK.out _ _ (mkS _ (k.trans kc)) fun hH => ?_
          try simp only [Act.put, List.setIfInBounds_toArray, List.set_cons_zero, List.set_cons_succ]
          replace k := k.trans kc
          replace hB5 := kc.blk hB5
          replace hB6 := hB6.kp kc
          clear kc
          refine wpAnyH_ready (rs := [9]) (by kernel_rfl) (by simp) ?_
          refine AllReadyH.cons (o := { dst := some 25, op := Op.call { callee := Callee.value (Operand.func 6), args := #[Operand.tmp 22, Operand.tmp 24], argTypes := #[22, 3] }, type := 29, pos := "law.go:167", after := #[{ on := 6, ground := Ground.data }, { on := 8, ground := Ground.data }, { on := 4, ground := Ground.chain }], guard := none }) rfl (fun K hK => ?_) ?_
          · go_simp
            go_at_call 6
            refine (rM _).mono ?_
            rintro r W4 ⟨rfl, kc⟩
            refine hK.out _ _ (mkS _ (k.trans kc)) fun hH => ?_
            try simp only [Act.put, List.setIfInBounds_toArray, List.set_cons_zero, List.set_cons_succ]
            replace k := k.trans kc
            replace hB5 := kc.blk hB5
            replace hB6 := hB6.kp kc
            clear kc
            refine wpAnyH_ready (rs := [12]) (by kernel_rfl) (by simp) ?_
            refine AllReadyH.cons (o := { dst := none, op := Op.store 26 (Operand.tmp 5) (Operand.tmp 20), type := 0, pos := "law.go:167", after := #[{ on := 10, ground := Ground.data }, { on := 4, ground := Ground.data }, { on := 9, ground := Ground.chain }, { on := 0, ground := Ground.phase }, { on := 1, ground := Ground.phase }, { on := 2, ground := Ground.phase }, { on := 3, ground := Ground.phase }, { on := 4, ground := Ground.phase }, { on := 5, ground := Ground.textOnly Departure.lateStores }, { on := 6, ground := Ground.textOnly Departure.lateStores }, { on := 7, ground := Ground.textOnly Departure.lateStores }, { on := 8, ground := Ground.textOnly Departure.lateStores }, { on := 9, ground := Ground.textOnly Departure.lateStoresUnsure }, { on := 10, ground := Ground.phase }, { on := 11, ground := Ground.phase }], guard := none }) rfl (fun K hK => ?_) AllReadyH.nil
            obtain ⟨c1, c2⟩ := one_cell hB5
            go_simp
            refine hK.out _ _ (mkS _ (Below.setCell k hb5 _)) fun hH => ?_
            try simp only [Act.put, List.setIfInBounds_toArray, List.set_cons_zero, List.set_cons_succ]
            clear c1 c2
            have hD5 := set_one hB5 0 (.int .u64 (zM : Int)) (by simp)
            have hD6 : Bl (W4.setCell ⟨B5, 0, none⟩ (.int .u64 (zM : Int))) B6 _ := (Below.heap_setCell W4 ⟨B5, 0, none⟩ (.int .u64 (zM : Int)) B6 (Ne.symm hne)).trans hB6
            have kd : Kp w2 (W4.setCell ⟨B5, 0, none⟩ (.int .u64 (zM : Int))) := Below.setCell k hb5 _
            clear hB5 hB6 k
            generalize W4.setCell ⟨B5, 0, none⟩ (.int .u64 (zM : Int)) = Wd at *
            refine wpAnyH_ready (rs := [13]) (by kernel_rfl) (by simp) ?_
            refine AllReadyH.cons (o := { dst := none, op := Op.store 29 (Operand.tmp 6) (Operand.tmp 25), type := 0, pos := "law.go:167", after := #[{ on := 11, ground := Ground.data }, { on := 9, ground := Ground.data }, { on := 12, ground := Ground.chain }, { on := 0, ground := Ground.phase }, { on := 1, ground := Ground.phase }, { on := 2, ground := Ground.phase }, { on := 3, ground := Ground.phase }, { on := 4, ground := Ground.phase }, { on := 5, ground := Ground.phase }, { on := 6, ground := Ground.phase }, { on := 7, ground := Ground.phase }, { on := 8, ground := Ground.phase }, { on := 9, ground := Ground.phase }, { on := 10, ground := Ground.phase }, { on := 11, ground := Ground.phase }, { on := 12, ground := Ground.phase }], guard := none }) rfl (fun K hK => ?_) AllReadyH.nil
            obtain ⟨a0', a1', a2', a3', a4', a5', a6', a7'⟩ := hD6.all
            obtain ⟨f0', f1', f2', f3', f4', f5', f6', f7'⟩ := hD6.thaw
            go_simp
            refine eight_set2 hD6 kd hb6 (g := GM) (P := fun w9 => K _ w9) fun w9 h9 k9 ho => ?_
            refine hK.out _ _ (mkS _ k9) fun hH => ?_
            try simp only [Act.put, List.setIfInBounds_toArray, List.set_cons_zero, List.set_cons_succ]
            refine wpAnyH_done (by kernel_rfl) (NoPanic.normal ?_) _
            have e5 := hide ((ho _ hne).trans hD5)
            have e6 := hide h9
            clear ho hD5 hD6 h9 hH hK a0' a1' a2' a3' a4' a5' a6' a7' f0' f1' f2' f3' f4' f5' f6' f7'
            go_wp2_with fail
            go_meet
            case rel => exact ⟨B5, B6, rfl, rfl, k9, hb5, hb6, hne, e5.out, e6.out⟩
          exact AllReadyH.nil
        exact AllReadyH.nil
      exact AllReadyH.nil
    refine AllReadyH.cons (o := { dst := some 6, op := Op.alloc 29, type := 0, pos := "law.go:167", after := #[], guard := none }) rfl (fun K hK => ?_) ?_
    · go_simp
      refine hK.out _ _ (mkS _ (k.alloc _)) fun hH => ?_
      try simp only [Act.put, List.setIfInBounds_toArray, List.set_cons_zero, List.set_cons_succ]
      have hb6 : w2.heap.size ≤ W0.heap.size := k.size
      have hB6 := Bl.new W0
      replace k := k.alloc (.cells #[.bool false, .bool false, .bool false, .bool false, .bool false, .bool false, .bool false, .bool false] 29)
      generalize W0.alloc (.cells #[.bool false, .bool false, .bool false, .bool false, .bool false, .bool false, .bool false, .bool false] 29) = W1 at *
      generalize W0.heap.size = B6 at *
      refine wpAnyH_ready (rs := [4, 10]) (by kernel_rfl) (by simp) ?_
      refine AllReadyH.cons (o := { dst := some 20, op := Op.call { callee := Callee.value (Operand.func 5), args := #[Operand.tmp 17, Operand.tmp 19], argTypes := #[22, 3] }, type := 26, pos := "law.go:167", after := #[{ on := 1, ground := Ground.data }, { on := 3, ground := Ground.data }], guard := none }) rfl (fun K hK => ?_) ?_
      · go_simp
        go_at_call 5
        refine (match_is qM _).mono ?_
        rintro r W2 ⟨rfl, kc⟩
        refine hK.out _ _ (mkS _ (k.trans kc)) fun hH => ?_
        try simp only [Act.put, List.setIfInBounds_toArray, List.set_cons_zero, List.set_cons_succ]
        replace k := k.trans kc
        replace hB6 := hB6.kp kc
        clear kc
        refine wpAnyH_ready (rs := [9, 10]) (by kernel_rfl) (by simp) ?_
        refine AllReadyH.cons (o := { dst := some 25, op := Op.call { callee := Callee.value (Operand.func 6), args := #[Operand.tmp 22, Operand.tmp 24], argTypes := #[22, 3] }, type := 29, pos := "law.go:167", after := #[{ on := 6, ground := Ground.data }, { on := 8, ground := Ground.data }, { on := 4, ground := Ground.chain }], guard := none }) rfl (fun K hK => ?_) ?_
        · go_simp
          go_at_call 6
          refine (rM _).mono ?_
          rintro r W3 ⟨rfl, kc⟩
          refine hK.out _ _ (mkS _ (k.trans kc)) fun hH => ?_
          try simp only [Act.put, List.setIfInBounds_toArray, List.set_cons_zero, List.set_cons_succ]
          replace k := k.trans kc
          replace hB6 := hB6.kp kc
          clear kc
          refine wpAnyH_ready (rs := [10]) (by kernel_rfl) (by simp) ?_
          refine AllReadyH.cons (o := { dst := some 5, op := Op.alloc 26, type := 0, pos := "law.go:167", after := #[], guard := none }) rfl (fun K hK => ?_) ?_
          · go_simp
            refine hK.out _ _ (mkS _ (k.alloc _)) fun hH => ?_
            try simp only [Act.put, List.setIfInBounds_toArray, List.set_cons_zero, List.set_cons_succ]
            have hb5 : w2.heap.size ≤ W3.heap.size := k.size
            have hB5 := heap_new W3 (.cells #[.int .u64 0] 26)
            have hne : W3.heap.size ≠ B6 := fun q => by
              have := (Array.getElem?_eq_some_iff.1 hB6).1
              omega
            replace hB6 := hB6.kp ((Kp.refl _).alloc (.cells #[.int .u64 0] 26))
            replace k := k.alloc (.cells #[.int .u64 0] 26)
            generalize W3.alloc (.cells #[.int .u64 0] 26) = W4 at *
            generalize W3.heap.size = B5 at *
            refine wpAnyH_ready (rs := [12]) (by kernel_rfl) (by simp) ?_
            refine AllReadyH.cons (o := { dst := none, op := Op.store 26 (Operand.tmp 5) (Operand.tmp 20), type := 0, pos := "law.go:167", after := #[{ on := 10, ground := Ground.data }, { on := 4, ground := Ground.data }, { on := 9, ground := Ground.chain }, { on := 0, ground := Ground.phase }, { on := 1, ground := Ground.phase }, { on := 2, ground := Ground.phase }, { on := 3, ground := Ground.phase }, { on := 4, ground := Ground.phase }, { on := 5, ground := Ground.textOnly Departure.lateStores }, { on := 6, ground := Ground.textOnly Departure.lateStores }, { on := 7, ground := Ground.textOnly Departure.lateStores }, { on := 8, ground := Ground.textOnly Departure.lateStores }, { on := 9, ground := Ground.textOnly Departure.lateStoresUnsure }, { on := 10, ground := Ground.phase }, { on := 11, ground := Ground.phase }], guard := none }) rfl (fun K hK => ?_) AllReadyH.nil
            obtain ⟨c1, c2⟩ := one_cell hB5
            go_simp
            refine hK.out _ _ (mkS _ (Below.setCell k hb5 _)) fun hH => ?_
            try simp only [Act.put, List.setIfInBounds_toArray, List.set_cons_zero, List.set_cons_succ]
            clear c1 c2
            have hD5 := set_one hB5 0 (.int .u64 (zM : Int)) (by simp)
            have hD6 : Bl (W4.setCell ⟨B5, 0, none⟩ (.int .u64 (zM : Int))) B6 _ := (Below.heap_setCell W4 ⟨B5, 0, none⟩ (.int .u64 (zM : Int)) B6 (Ne.symm hne)).trans hB6
            have kd : Kp w2 (W4.setCell ⟨B5, 0, none⟩ (.int .u64 (zM : Int))) := Below.setCell k hb5 _
            clear hB5 hB6 k
            generalize W4.setCell ⟨B5, 0, none⟩ (.int .u64 (zM : Int)) = Wd at *
            refine wpAnyH_ready (rs := [13]) (by kernel_rfl) (by simp) ?_
            refine AllReadyH.cons (o := { dst := none, op := Op.store 29 (Operand.tmp 6) (Operand.tmp 25), type := 0, pos := "law.go:167", after := #[{ on := 11, ground := Ground.data }, { on := 9, ground := Ground.data }, { on := 12, ground := Ground.chain }, { on := 0, ground := Ground.phase }, { on := 1, ground := Ground.phase }, { on := 2, ground := Ground.phase }, { on := 3, ground := Ground.phase }, { on := 4, ground := Ground.phase }, { on := 5, ground := Ground.phase }, { on := 6, ground := Ground.phase }, { on := 7, ground := Ground.phase }, { on := 8, ground := Ground.phase }, { on := 9, ground := Ground.phase }, { on := 10, ground := Ground.phase }, { on := 11, ground := Ground.phase }, { on := 12, ground := Ground.phase }], guard := none }) rfl (fun K hK => ?_) AllReadyH.nil
            obtain ⟨a0', a1', a2', a3', a4', a5', a6', a7'⟩ := hD6.all
            obtain ⟨f0', f1', f2', f3', f4', f5', f6', f7'⟩ := hD6.thaw
            go_simp
            refine eight_set2 hD6 kd hb6 (g := GM) (P := fun w9 => K _ w9) fun w9 h9 k9 ho => ?_
            refine hK.out _ _ (mkS _ k9) fun hH => ?_
            try simp only [Act.put, List.setIfInBounds_toArray, List.set_cons_zero, List.set_cons_succ]
            refine wpAnyH_done (by kernel_rfl) (NoPanic.normal ?_) _
            have e5 := hide ((ho _ hne).trans hD5)
            have e6 := hide h9
            clear ho hD5 hD6 h9 hH hK a0' a1' a2' a3' a4' a5' a6' a7' f0' f1' f2' f3' f4' f5' f6' f7'
            go_wp2_with fail
            go_meet
            case rel => exact ⟨B5, B6, rfl, rfl, k9, hb5, hb6, hne, e5.out, e6.out⟩
          exact AllReadyH.nil
        refine AllReadyH.cons (o := { dst := some 5, op := Op.alloc 26, type := 0, pos := "law.go:167", after := #[], guard := none }) rfl (fun K hK => ?_) ?_
        · go_simp
          refine hK.out _ _ (mkS _ (k.alloc _)) fun hH => ?_
          try simp only [Act.put, List.setIfInBounds_toArray, List.set_cons_zero, List.set_cons_succ]
          have hb5 : w2.heap.size ≤ W2.heap.size := k.size
          have hB5 := heap_new W2 (.cells #[.int .u64 0] 26)
          have hne : W2.heap.size ≠ B6 := fun q => by
            have := (Array.getElem?_eq_some_iff.1 hB6).1
            omega
          replace hB6 := hB6.kp ((Kp.refl _).alloc (.cells #[.int .u64 0] 26))
          replace k := k.alloc (.cells #[.int .u64 0] 26)
          generalize W2.alloc (.cells #[.int .u64 0] 26) = W3 at *
          generalize W2.heap.size = B5 at *
          refine wpAnyH_ready (rs := [9]) (by kernel_rfl) (by simp) ?_
          refine AllReadyH.cons (o := { dst := some 25, op := Op.call { callee := Callee.value (Operand.func 6), args := #[Operand.tmp 22, Operand.tmp 24], argTypes := #[22, 3] }, type := 29, pos := "law.go:167", after := #[{ on := 6, ground := Ground.data }, { on := 8, ground := Ground.data }, { on := 4, ground := Ground.chain }], guard := none }) rfl (fun K hK => ?_) ?_
          · go_simp
            go_at_call 6
            refine (rM _).mono ?_
            rintro r W4 ⟨rfl, kc⟩
            refine hK.out _ _ (mkS _ (k.trans kc)) fun hH => ?_
            try simp only [Act.put, List.setIfInBounds_toArray, List.set_cons_zero, List.set_cons_succ]
            replace k := k.trans kc
            replace hB5 := kc.blk hB5
            replace hB6 := hB6.kp kc
            clear kc
            refine wpAnyH_ready (rs := [12]) (by kernel_rfl) (by simp) ?_
            refine AllReadyH.cons (o := { dst := none, op := Op.store 26 (Operand.tmp 5) (Operand.tmp 20), type := 0, pos := "law.go:167", after := #[{ on := 10, ground := Ground.data }, { on := 4, ground := Ground.data }, { on := 9, ground := Ground.chain }, { on := 0, ground := Ground.phase }, { on := 1, ground := Ground.phase }, { on := 2, ground := Ground.phase }, { on := 3, ground := Ground.phase }, { on := 4, ground := Ground.phase }, { on := 5, ground := Ground.textOnly Departure.lateStores }, { on := 6, ground := Ground.textOnly Departure.lateStores }, { on := 7, ground := Ground.textOnly Departure.lateStores }, { on := 8, ground := Ground.textOnly Departure.lateStores }, { on := 9, ground := Ground.textOnly Departure.lateStoresUnsure }, { on := 10, ground := Ground.phase }, { on := 11, ground := Ground.phase }], guard := none }) rfl (fun K hK => ?_) AllReadyH.nil
            obtain ⟨c1, c2⟩ := one_cell hB5
            go_simp
            refine hK.out _ _ (mkS _ (Below.setCell k hb5 _)) fun hH => ?_
            try simp only [Act.put, List.setIfInBounds_toArray, List.set_cons_zero, List.set_cons_succ]
            clear c1 c2
            have hD5 := set_one hB5 0 (.int .u64 (zM : Int)) (by simp)
            have hD6 : Bl (W4.setCell ⟨B5, 0, none⟩ (.int .u64 (zM : Int))) B6 _ := (Below.heap_setCell W4 ⟨B5, 0, none⟩ (.int .u64 (zM : Int)) B6 (Ne.symm hne)).trans hB6
            have kd : Kp w2 (W4.setCell ⟨B5, 0, none⟩ (.int .u64 (zM : Int))) := Below.setCell k hb5 _
            clear hB5 hB6 k
            generalize W4.setCell ⟨B5, 0, none⟩ (.int .u64 (zM : Int)) = Wd at *
            refine wpAnyH_ready (rs := [13]) (by kernel_rfl) (by simp) ?_
            refine AllReadyH.cons (o := { dst := none, op := Op.store 29 (Operand.tmp 6) (Operand.tmp 25), type := 0, pos := "law.go:167", after := #[{ on := 11, ground := Ground.data }, { on := 9, ground := Ground.data }, { on := 12, ground := Ground.chain }, { on := 0, ground := Ground.phase }, { on := 1, ground := Ground.phase }, { on := 2, ground := Ground.phase }, { on := 3, ground := Ground.phase }, { on := 4, ground := Ground.phase }, { on := 5, ground := Ground.phase }, { on := 6, ground := Ground.phase }, { on := 7, ground := Ground.phase }, { on := 8, ground := Ground.phase }, { on := 9, ground := Ground.phase }, { on := 10, ground := Ground.phase }, { on := 11, ground := Ground.phase }, { on := 12, ground := Ground.phase }], guard := none }) rfl (fun K hK => ?_) AllReadyH.nil
            obtain ⟨a0', a1', a2', a3', a4', a5', a6', a7'⟩ := hD6.all
            obtain ⟨f0', f1', f2', f3', f4', f5', f6', f7'⟩ := hD6.thaw
            go_simp
            refine eight_set2 hD6 kd hb6 (g := GM) (P := fun w9 => K _ w9) fun w9 h9 k9 ho => ?_
            refine hK.out _ _ (mkS _ k9) fun hH => ?_
            try simp only [Act.put, List.setIfInBounds_toArray, List.set_cons_zero, List.set_cons_succ]
            refine wpAnyH_done (by kernel_rfl) (NoPanic.normal ?_) _
            have e5 := hide ((ho _ hne).trans hD5)
            have e6 := hide h9
            clear ho hD5 hD6 h9 hH hK a0' a1' a2' a3' a4' a5' a6' a7' f0' f1' f2' f3' f4' f5' f6' f7'
            go_wp2_with fail
            go_meet
            case rel => exact ⟨B5, B6, rfl, rfl, k9, hb5, hb6, hne, e5.out, e6.out⟩
          exact AllReadyH.nil
        exact AllReadyH.nil
      refine AllReadyH.cons (o := { dst := some 5, op := Op.alloc 26, type := 0, pos := "law.go:167", after := #[], guard := none }) rfl (fun K hK => ?_) ?_
      · go_simp
        refine hK.out _ _ (mkS _ (k.alloc _)) fun hH => ?_
        try simp only [Act.put, List.setIfInBounds_toArray, List.set_cons_zero, List.set_cons_succ]
        have hb5 : w2.heap.size ≤ W1.heap.size := k.size
        have hB5 := heap_new W1 (.cells #[.int .u64 0] 26)
        have hne : W1.heap.size ≠ B6 := fun q => by
          have := (Array.getElem?_eq_some_iff.1 hB6).1
          omega
        replace hB6 := hB6.kp ((Kp.refl _).alloc (.cells #[.int .u64 0] 26))
        replace k := k.alloc (.cells #[.int .u64 0] 26)
        generalize W1.alloc (.cells #[.int .u64 0] 26) = W2 at *
        generalize W1.heap.size = B5 at *
        refine wpAnyH_ready (rs := [4]) (by kernel_rfl) (by simp) ?_
        refine AllReadyH.cons (o := { dst := some 20, op := Op.call { callee := Callee.value (Operand.func 5), args := #[Operand.tmp 17, Operand.tmp 19], argTypes := #[22, 3] }, type := 26, pos := "law.go:167", after := #[{ on := 1, ground := Ground.data }, { on := 3, ground := Ground.data }], guard := none }) rfl (fun K hK => ?_) ?_
        · go_simp
          go_at_call 5
          refine (match_is qM _).mono ?_
          rintro r W3 ⟨rfl, kc⟩
          refine hK.out _ _ (mkS _ (k.trans kc)) fun hH => ?_
          try simp only [Act.put, List.setIfInBounds_toArray, List.set_cons_zero, List.set_cons_succ]
          replace k := k.trans kc
          replace hB5 := kc.blk hB5
          replace hB6 := hB6.kp kc
          clear kc
          refine wpAnyH_ready (rs := [9]) (by kernel_rfl) (by simp) ?_
          refine AllReadyH.cons (o := { dst := some 25, op := Op.call { callee := Callee.value (Operand.func 6), args := #[Operand.tmp 22, Operand.tmp 24], argTypes := #[22, 3] }, type := 29, pos := "law.go:167", after := #[{ on := 6, ground := Ground.data }, { on := 8, ground := Ground.data }, { on := 4, ground := Ground.chain }], guard := none }) rfl (fun K hK => ?_) ?_
          · go_simp
            go_at_call 6
            refine (rM _).mono ?_
            rintro r W4 ⟨rfl, kc⟩
            refine hK.out _ _ (mkS _ (k.trans kc)) fun hH => ?_
            try simp only [Act.put, List.setIfInBounds_toArray, List.set_cons_zero, List.set_cons_succ]
            replace k := k.trans kc
            replace hB5 := kc.blk hB5
            replace hB6 := hB6.kp kc
            clear kc
            refine wpAnyH_ready (rs := [12]) (by kernel_rfl) (by simp) ?_
            refine AllReadyH.cons (o := { dst := none, op := Op.store 26 (Operand.tmp 5) (Operand.tmp 20), type := 0, pos := "law.go:167", after := #[{ on := 10, ground := Ground.data }, { on := 4, ground := Ground.data }, { on := 9, ground := Ground.chain }, { on := 0, ground := Ground.phase }, { on := 1, ground := Ground.phase }, { on := 2, ground := Ground.phase }, { on := 3, ground := Ground.phase }, { on := 4, ground := Ground.phase }, { on := 5, ground := Ground.textOnly Departure.lateStores }, { on := 6, ground := Ground.textOnly Departure.lateStores }, { on := 7, ground := Ground.textOnly Departure.lateStores }, { on := 8, ground := Ground.textOnly Departure.lateStores }, { on := 9, ground := Ground.textOnly Departure.lateStoresUnsure }, { on := 10, ground := Ground.phase }, { on := 11, ground := Ground.phase }], guard := none }) rfl (fun K hK => ?_) AllReadyH.nil
            obtain ⟨c1, c2⟩ := one_cell hB5
            go_simp
            refine hK.out _ _ (mkS _ (Below.setCell k hb5 _)) fun hH => ?_
            try simp only [Act.put, List.setIfInBounds_toArray, List.set_cons_zero, List.set_cons_succ]
            clear c1 c2
            have hD5 := set_one hB5 0 (.int .u64 (zM : Int)) (by simp)
            have hD6 : Bl (W4.setCell ⟨B5, 0, none⟩ (.int .u64 (zM : Int))) B6 _ := (Below.heap_setCell W4 ⟨B5, 0, none⟩ (.int .u64 (zM : Int)) B6 (Ne.symm hne)).trans hB6
            have kd : Kp w2 (W4.setCell ⟨B5, 0, none⟩ (.int .u64 (zM : Int))) := Below.setCell k hb5 _
            clear hB5 hB6 k
            generalize W4.setCell ⟨B5, 0, none⟩ (.int .u64 (zM : Int)) = Wd at *
            refine wpAnyH_ready (rs := [13]) (by kernel_rfl) (by simp) ?_
            refine AllReadyH.cons (o := { dst := none, op := Op.store 29 (Operand.tmp 6) (Operand.tmp 25), type := 0, pos := "law.go:167", after := #[{ on := 11, ground := Ground.data }, { on := 9, ground := Ground.data }, { on := 12, ground := Ground.chain }, { on := 0, ground := Ground.phase }, { on := 1, ground := Ground.phase }, { on := 2, ground := Ground.phase }, { on := 3, ground := Ground.phase }, { on := 4, ground := Ground.phase }, { on := 5, ground := Ground.phase }, { on := 6, ground := Ground.phase }, { on := 7, ground := Ground.phase }, { on := 8, ground := Ground.phase }, { on := 9, ground := Ground.phase }, { on := 10, ground := Ground.phase }, { on := 11, ground := Ground.phase }, { on := 12, ground := Ground.phase }], guard := none }) rfl (fun K hK => ?_) AllReadyH.nil
            obtain ⟨a0', a1', a2', a3', a4', a5', a6', a7'⟩ := hD6.all
            obtain ⟨f0', f1', f2', f3', f4', f5', f6', f7'⟩ := hD6.thaw
            go_simp
            refine eight_set2 hD6 kd hb6 (g := GM) (P := fun w9 => K _ w9) fun w9 h9 k9 ho => ?_
            refine hK.out _ _ (mkS _ k9) fun hH => ?_
            try simp only [Act.put, List.setIfInBounds_toArray, List.set_cons_zero, List.set_cons_succ]
            refine wpAnyH_done (by kernel_rfl) (NoPanic.normal ?_) _
            have e5 := hide ((ho _ hne).trans hD5)
            have e6 := hide h9
            clear ho hD5 hD6 h9 hH hK a0' a1' a2' a3' a4' a5' a6' a7' f0' f1' f2' f3' f4' f5' f6' f7'
            go_wp2_with fail
            go_meet
            case rel => exact ⟨B5, B6, rfl, rfl, k9, hb5, hb6, hne, e5.out, e6.out⟩
          exact AllReadyH.nil
        exact AllReadyH.nil
      exact AllReadyH.nil
    exact AllReadyH.nil
  case rest =>
    obtain ⟨B5, B6, rfl, rfl, kx, hb5, hb6, hne, hB5, hB6⟩ := hcut
    clear qM rM k
    have k := kx
    clear kx
    have a1' := k.cell a1
    go_upto_block 0 with fail
    go_cut [5] from 28 to 51 (fun s5 wx => s5 = .pointer (some ⟨B5, 0, none⟩) ∧ ∃ (z : Nat) (G : Nat → Bool), Pair z G ∧ Kp w2 wx ∧ wx.heap[B5]? = some (.cells #[.int .u64 (z : Int)] 26) ∧ Bl wx B6 G)
    case first =>
      clear hT2 hT hSt hRs hA k0 a1
      by_cases h0 : i = 0
      · subst h0
        go_upto_region 4 with fail
        refine wp_region_noPanic ?_
        refine wp_region_held_drew (S := fun w' => w'.cell? ⟨A0, 0, none⟩ = some (.int .u64 (W : Int)) ∧ w'.cell? ⟨A0, 3, none⟩ = some (.int .i64 tag) ∧ Kp w2 w') (by kernel_rfl) (mkS _ k.drew) fun hH => ?_
        replace hB5 := ((Kp.refl wc).drew).blk hB5
        replace hB6 := hB6.kp ((Kp.refl wc).drew)
        replace k := k.drew
        generalize wc.drew = W0 at *
        refine wpAnyH_take (i := 0) (oi := { dst := some 30, op := Op.fieldAddr 24 (Operand.tmp 2) 0, type := 0, pos := "law.go:170", after := #[], guard := none }) (v := ?_) rfl (by kernel_rfl) (by kernel_rfl) (by kernel_rfl) (fun _ _ _ h => h) (Or.inl ⟨by rfl, ?_⟩) (by assumption) ?_
        rotate_left
        · intro w hSw
          (try dsimp only at hSw)
          go_simp
          (try with_reducible rfl)
        try simp only [Act.put, List.setIfInBounds_toArray, List.set_cons_zero, List.set_cons_succ]
        refine wpAnyH_take (i := 1) (oi := { dst := some 31, op := Op.load 22 (Operand.tmp 30), type := 22, pos := "law.go:170", after := #[{ on := 0, ground := Ground.data }], guard := none }) (v := ?_) rfl (by kernel_rfl) (by kernel_rfl) (by kernel_rfl) (fun _ _ _ h => h) (Or.inl ⟨by rfl, ?_⟩) (by assumption) ?_
        rotate_left
        · intro w hSw
          (try dsimp only at hSw)
          go_simp
          (try with_reducible rfl)
        try simp only [Act.put, List.setIfInBounds_toArray, List.set_cons_zero, List.set_cons_succ]
        refine wpAnyH_take (i := 3) (oi := { dst := some 33, op := Op.fieldAddr 24 (Operand.tmp 2) 0, type := 0, pos := "law.go:170", after := #[], guard := none }) (v := ?_) rfl (by kernel_rfl) (by kernel_rfl) (by kernel_rfl) (fun _ _ _ h => h) (Or.inl ⟨by rfl, ?_⟩) (by assumption) ?_
        rotate_left
        · intro w hSw
          (try dsimp only at hSw)
          go_simp
          (try with_reducible rfl)
        try simp only [Act.put, List.setIfInBounds_toArray, List.set_cons_zero, List.set_cons_succ]
        refine wpAnyH_take (i := 4) (oi := { dst := some 34, op := Op.load 22 (Operand.tmp 33), type := 22, pos := "law.go:170", after := #[{ on := 3, ground := Ground.data }], guard := none }) (v := ?_) rfl (by kernel_rfl) (by kernel_rfl) (by kernel_rfl) (fun _ _ _ h => h) (Or.inl ⟨by rfl, ?_⟩) (by assumption) ?_
        rotate_left
        · intro w hSw
          (try dsimp only at hSw)
          go_simp
          (try with_reducible rfl)
        try simp only [Act.put, List.setIfInBounds_toArray, List.set_cons_zero, List.set_cons_succ]
        refine wpAnyH_ready (rs := [2]) (by kernel_rfl) (by simp) ?_
        refine AllReadyH.cons (o := { dst := some 32, op := Op.call { callee := Callee.value (Operand.func 7), args := #[Operand.tmp 31], argTypes := #[22] }, type := 26, pos := "law.go:170", after := #[{ on := 1, ground := Ground.data }], guard := none }) rfl (fun K hK => ?_) AllReadyH.nil
        go_simp
        go_at_call 7
        refine (qF _).mono ?_
        rintro r W1 ⟨rfl, kc⟩
        refine hK.out _ _ (mkS _ (k.trans kc)) fun hH => ?_
        try simp only [Act.put, List.setIfInBounds_toArray, List.set_cons_zero, List.set_cons_succ]
        replace k := k.trans kc
        replace hB5 := kc.blk hB5
        replace hB6 := hB6.kp kc
        clear kc
        refine wpAnyH_ready (rs := [5]) (by kernel_rfl) (by simp) ?_
        refine AllReadyH.cons (o := { dst := some 35, op := Op.call { callee := Callee.value (Operand.func 8), args := #[Operand.tmp 34], argTypes := #[22] }, type := 29, pos := "law.go:170", after := #[{ on := 4, ground := Ground.data }, { on := 2, ground := Ground.chain }], guard := none }) rfl (fun K hK => ?_) AllReadyH.nil
        go_simp
        go_at_call 8
        refine (rF _).mono ?_
        rintro r W2 ⟨rfl, kc⟩
        refine hK.out _ _ (mkS _ (k.trans kc)) fun hH => ?_
        try simp only [Act.put, List.setIfInBounds_toArray, List.set_cons_zero, List.set_cons_succ]
        replace k := k.trans kc
        replace hB5 := kc.blk hB5
        replace hB6 := hB6.kp kc
        clear kc
        refine wpAnyH_ready (rs := [6]) (by kernel_rfl) (by simp) ?_
        refine AllReadyH.cons (o := { dst := none, op := Op.store 26 (Operand.tmp 5) (Operand.tmp 32), type := 0, pos := "law.go:170", after := #[{ on := 2, ground := Ground.data }, { on := 5, ground := Ground.chain }, { on := 0, ground := Ground.phase }, { on := 1, ground := Ground.phase }, { on := 2, ground := Ground.phase }, { on := 3, ground := Ground.textOnly Departure.lateStores }, { on := 4, ground := Ground.textOnly Departure.lateStores }, { on := 5, ground := Ground.textOnly Departure.lateStoresUnsure }], guard := none }) rfl (fun K hK => ?_) AllReadyH.nil
        obtain ⟨c1, c2⟩ := one_cell hB5
        go_simp
        refine hK.out _ _ (mkS _ (Below.setCell k hb5 _)) fun hH => ?_
        try simp only [Act.put, List.setIfInBounds_toArray, List.set_cons_zero, List.set_cons_succ]
        clear c1 c2
        have hD5 := set_one hB5 0 (.int .u64 (zF : Int)) (by simp)
        have hD6 : Bl (W2.setCell ⟨B5, 0, none⟩ (.int .u64 (zF : Int))) B6 _ := (Below.heap_setCell W2 ⟨B5, 0, none⟩ (.int .u64 (zF : Int)) B6 (Ne.symm hne)).trans hB6
        have kd : Kp w2 (W2.setCell ⟨B5, 0, none⟩ (.int .u64 (zF : Int))) := Below.setCell k hb5 _
        clear hB5 hB6 k
        generalize W2.setCell ⟨B5, 0, none⟩ (.int .u64 (zF : Int)) = Wd at *
        refine wpAnyH_ready (rs := [7]) (by kernel_rfl) (by simp) ?_
        refine AllReadyH.cons (o := { dst := none, op := Op.store 29 (Operand.tmp 6) (Operand.tmp 35), type := 0, pos := "law.go:170", after := #[{ on := 5, ground := Ground.data }, { on := 6, ground := Ground.chain }, { on := 0, ground := Ground.phase }, { on := 1, ground := Ground.phase }, { on := 2, ground := Ground.phase }, { on := 3, ground := Ground.phase }, { on := 4, ground := Ground.phase }, { on := 5, ground := Ground.phase }, { on := 6, ground := Ground.phase }], guard := none }) rfl (fun K hK => ?_) AllReadyH.nil
        obtain ⟨a0', a1', a2', a3', a4', a5', a6', a7'⟩ := hD6.all
        obtain ⟨f0', f1', f2', f3', f4', f5', f6', f7'⟩ := hD6.thaw
        go_simp
        refine eight_set2 hD6 kd hb6 (g := GF) (P := fun w9 => K _ w9) fun w9 h9 k9 ho => ?_
        refine hK.out _ _ (mkS _ k9) fun hH => ?_
        try simp only [Act.put, List.setIfInBounds_toArray, List.set_cons_zero, List.set_cons_succ]
        refine wpAnyH_done (by kernel_rfl) (NoPanic.normal ?_) _
        have e5 := hide ((ho _ hne).trans hD5)
        have e6 := hide h9
        clear ho hD5 hD6 h9 hH hK a0' a1' a2' a3' a4' a5' a6' a7' f0' f1' f2' f3' f4' f5' f6' f7'
        go_wp2_with fail
        go_meet
        case rel => exact ⟨rfl, _, _, uF, k9, e5.out, e6.out⟩
      · have h0' : (i == 0) = false := beq_eq_false_iff_ne.2 h0
        clear h0
        by_cases h1 : i = 1
        · subst h1
          go_upto_region 6 with fail
          refine wp_region_noPanic ?_
          refine wp_region_held_drew (S := fun w' => w'.cell? ⟨A0, 0, none⟩ = some (.int .u64 (W : Int)) ∧ w'.cell? ⟨A0, 3, none⟩ = some (.int .i64 tag) ∧ Kp w2 w') (by kernel_rfl) (mkS _ k.drew) fun hH => ?_
          replace hB5 := ((Kp.refl wc).drew).blk hB5
          replace hB6 := hB6.kp ((Kp.refl wc).drew)
          replace k := k.drew
          generalize wc.drew = W0 at *
          refine wpAnyH_take (i := 0) (oi := { dst := some 38, op := Op.fieldAddr 24 (Operand.tmp 2) 0, type := 0, pos := "law.go:172", after := #[], guard := none }) (v := ?_) rfl (by kernel_rfl) (by kernel_rfl) (by kernel_rfl) (fun _ _ _ h => h) (Or.inl ⟨by rfl, ?_⟩) (by assumption) ?_
          rotate_left
          · intro w hSw
            (try dsimp only at hSw)
            go_simp
            (try with_reducible rfl)
          try simp only [Act.put, List.setIfInBounds_toArray, List.set_cons_zero, List.set_cons_succ]
          refine wpAnyH_take (i := 1) (oi := { dst := some 39, op := Op.load 22 (Operand.tmp 38), type := 22, pos := "law.go:172", after := #[{ on := 0, ground := Ground.data }], guard := none }) (v := ?_) rfl (by kernel_rfl) (by kernel_rfl) (by kernel_rfl) (fun _ _ _ h => h) (Or.inl ⟨by rfl, ?_⟩) (by assumption) ?_
          rotate_left
          · intro w hSw
            (try dsimp only at hSw)
            go_simp
            (try with_reducible rfl)
          try simp only [Act.put, List.setIfInBounds_toArray, List.set_cons_zero, List.set_cons_succ]
          refine wpAnyH_take (i := 3) (oi := { dst := some 41, op := Op.fieldAddr 24 (Operand.tmp 2) 0, type := 0, pos := "law.go:172", after := #[], guard := none }) (v := ?_) rfl (by kernel_rfl) (by kernel_rfl) (by kernel_rfl) (fun _ _ _ h => h) (Or.inl ⟨by rfl, ?_⟩) (by assumption) ?_
          rotate_left
          · intro w hSw
            (try dsimp only at hSw)
            go_simp
            (try with_reducible rfl)
          try simp only [Act.put, List.setIfInBounds_toArray, List.set_cons_zero, List.set_cons_succ]
          refine wpAnyH_take (i := 4) (oi := { dst := some 42, op := Op.load 22 (Operand.tmp 41), type := 22, pos := "law.go:172", after := #[{ on := 3, ground := Ground.data }], guard := none }) (v := ?_) rfl (by kernel_rfl) (by kernel_rfl) (by kernel_rfl) (fun _ _ _ h => h) (Or.inl ⟨by rfl, ?_⟩) (by assumption) ?_
          rotate_left
          · intro w hSw
            (try dsimp only at hSw)
            go_simp
            (try with_reducible rfl)
          try simp only [Act.put, List.setIfInBounds_toArray, List.set_cons_zero, List.set_cons_succ]
          refine wpAnyH_ready (rs := [2]) (by kernel_rfl) (by simp) ?_
          refine AllReadyH.cons (o := { dst := some 40, op := Op.call { callee := Callee.value (Operand.func 9), args := #[Operand.tmp 39], argTypes := #[22] }, type := 26, pos := "law.go:172", after := #[{ on := 1, ground := Ground.data }], guard := none }) rfl (fun K hK => ?_) AllReadyH.nil
          go_simp
          go_at_call 9
          refine (qV _).mono ?_
          rintro r W1 ⟨rfl, kc⟩
          refine hK.out _ _ (mkS _ (k.trans kc)) fun hH => ?_
          try simp only [Act.put, List.setIfInBounds_toArray, List.set_cons_zero, List.set_cons_succ]
          replace k := k.trans kc
          replace hB5 := kc.blk hB5
          replace hB6 := hB6.kp kc
          clear kc
          refine wpAnyH_ready (rs := [5]) (by kernel_rfl) (by simp) ?_
          refine AllReadyH.cons (o := { dst := some 43, op := Op.call { callee := Callee.value (Operand.func 10), args := #[Operand.tmp 42], argTypes := #[22] }, type := 29, pos := "law.go:172", after := #[{ on := 4, ground := Ground.data }, { on := 2, ground := Ground.chain }], guard := none }) rfl (fun K hK => ?_) AllReadyH.nil
          go_simp
          go_at_call 10
          refine (rV _).mono ?_
          rintro r W2 ⟨rfl, kc⟩
          refine hK.out _ _ (mkS _ (k.trans kc)) fun hH => ?_
          try simp only [Act.put, List.setIfInBounds_toArray, List.set_cons_zero, List.set_cons_succ]
          replace k := k.trans kc
          replace hB5 := kc.blk hB5
          replace hB6 := hB6.kp kc
          clear kc
          refine wpAnyH_ready (rs := [6]) (by kernel_rfl) (by simp) ?_
          refine AllReadyH.cons (o := { dst := none, op := Op.store 26 (Operand.tmp 5) (Operand.tmp 40), type := 0, pos := "law.go:172", after := #[{ on := 2, ground := Ground.data }, { on := 5, ground := Ground.chain }, { on := 0, ground := Ground.phase }, { on := 1, ground := Ground.phase }, { on := 2, ground := Ground.phase }, { on := 3, ground := Ground.textOnly Departure.lateStores }, { on := 4, ground := Ground.textOnly Departure.lateStores }, { on := 5, ground := Ground.textOnly Departure.lateStoresUnsure }], guard := none }) rfl (fun K hK => ?_) AllReadyH.nil
          obtain ⟨c1, c2⟩ := one_cell hB5
          go_simp
          refine hK.out _ _ (mkS _ (Below.setCell k hb5 _)) fun hH => ?_
          try simp only [Act.put, List.setIfInBounds_toArray, List.set_cons_zero, List.set_cons_succ]
          clear c1 c2
          have hD5 := set_one hB5 0 (.int .u64 (zV : Int)) (by simp)
          have hD6 : Bl (W2.setCell ⟨B5, 0, none⟩ (.int .u64 (zV : Int))) B6 _ := (Below.heap_setCell W2 ⟨B5, 0, none⟩ (.int .u64 (zV : Int)) B6 (Ne.symm hne)).trans hB6
          have kd : Kp w2 (W2.setCell ⟨B5, 0, none⟩ (.int .u64 (zV : Int))) := Below.setCell k hb5 _
          clear hB5 hB6 k
          generalize W2.setCell ⟨B5, 0, none⟩ (.int .u64 (zV : Int)) = Wd at *
          refine wpAnyH_ready (rs := [7]) (by kernel_rfl) (by simp) ?_
          refine AllReadyH.cons (o := { dst := none, op := Op.store 29 (Operand.tmp 6) (Operand.tmp 43), type := 0, pos := "law.go:172", after := #[{ on := 5, ground := Ground.data }, { on := 6, ground := Ground.chain }, { on := 0, ground := Ground.phase }, { on := 1, ground := Ground.phase }, { on := 2, ground := Ground.phase }, { on := 3, ground := Ground.phase }, { on := 4, ground := Ground.phase }, { on := 5, ground := Ground.phase }, { on := 6, ground := Ground.phase }], guard := none }) rfl (fun K hK => ?_) AllReadyH.nil
          obtain ⟨a0', a1', a2', a3', a4', a5', a6', a7'⟩ := hD6.all
          obtain ⟨f0', f1', f2', f3', f4', f5', f6', f7'⟩ := hD6.thaw
          go_simp
          refine eight_set2 hD6 kd hb6 (g := GV) (P := fun w9 => K _ w9) fun w9 h9 k9 ho => ?_
          refine hK.out _ _ (mkS _ k9) fun hH => ?_
          try simp only [Act.put, List.setIfInBounds_toArray, List.set_cons_zero, List.set_cons_succ]
          refine wpAnyH_done (by kernel_rfl) (NoPanic.normal ?_) _
          have e5 := hide ((ho _ hne).trans hD5)
          have e6 := hide h9
          clear ho hD5 hD6 h9 hH hK a0' a1' a2' a3' a4' a5' a6' a7' f0' f1' f2' f3' f4' f5' f6' f7'
          go_wp2_with fail
          go_meet
          case rel => exact ⟨rfl, _, _, uV, k9, e5.out, e6.out⟩
        · have h1' : (i == 1) = false := beq_eq_false_iff_ne.2 h1
          clear h1
          by_cases h2 : i = 2
          · subst h2
            go_upto_region 8 with fail
            refine wp_region_noPanic ?_
            refine wp_region_held_drew (S := fun w' => w'.cell? ⟨A0, 0, none⟩ = some (.int .u64 (W : Int)) ∧ w'.cell? ⟨A0, 3, none⟩ = some (.int .i64 tag) ∧ Kp w2 w') (by kernel_rfl) (mkS _ k.drew) fun hH => ?_
            replace hB5 := ((Kp.refl wc).drew).blk hB5
            replace hB6 := hB6.kp ((Kp.refl wc).drew)
            replace k := k.drew
            generalize wc.drew = W0 at *
            refine wpAnyH_take (i := 0) (oi := { dst := some 46, op := Op.fieldAddr 24 (Operand.tmp 2) 0, type := 0, pos := "law.go:174", after := #[], guard := none }) (v := ?_) rfl (by kernel_rfl) (by kernel_rfl) (by kernel_rfl) (fun _ _ _ h => h) (Or.inl ⟨by rfl, ?_⟩) (by assumption) ?_
            rotate_left
            · intro w hSw
              (try dsimp only at hSw)
              go_simp
              (try with_reducible rfl)
            try simp only [Act.put, List.setIfInBounds_toArray, List.set_cons_zero, List.set_cons_succ]
            refine wpAnyH_take (i := 1) (oi := { dst := some 47, op := Op.load 22 (Operand.tmp 46), type := 22, pos := "law.go:174", after := #[{ on := 0, ground := Ground.data }], guard := none }) (v := ?_) rfl (by kernel_rfl) (by kernel_rfl) (by kernel_rfl) (fun _ _ _ h => h) (Or.inl ⟨by rfl, ?_⟩) (by assumption) ?_
            rotate_left
            · intro w hSw
              (try dsimp only at hSw)
              go_simp
              (try with_reducible rfl)
            try simp only [Act.put, List.setIfInBounds_toArray, List.set_cons_zero, List.set_cons_succ]
            refine wpAnyH_take (i := 3) (oi := { dst := some 49, op := Op.fieldAddr 24 (Operand.tmp 2) 0, type := 0, pos := "law.go:174", after := #[], guard := none }) (v := ?_) rfl (by kernel_rfl) (by kernel_rfl) (by kernel_rfl) (fun _ _ _ h => h) (Or.inl ⟨by rfl, ?_⟩) (by assumption) ?_
            rotate_left
            · intro w hSw
              (try dsimp only at hSw)
              go_simp
              (try with_reducible rfl)
            try simp only [Act.put, List.setIfInBounds_toArray, List.set_cons_zero, List.set_cons_succ]
            refine wpAnyH_take (i := 4) (oi := { dst := some 50, op := Op.load 22 (Operand.tmp 49), type := 22, pos := "law.go:174", after := #[{ on := 3, ground := Ground.data }], guard := none }) (v := ?_) rfl (by kernel_rfl) (by kernel_rfl) (by kernel_rfl) (fun _ _ _ h => h) (Or.inl ⟨by rfl, ?_⟩) (by assumption) ?_
            rotate_left
            · intro w hSw
              (try dsimp only at hSw)
              go_simp
              (try with_reducible rfl)
            try simp only [Act.put, List.setIfInBounds_toArray, List.set_cons_zero, List.set_cons_succ]
            refine wpAnyH_ready (rs := [2]) (by kernel_rfl) (by simp) ?_
            refine AllReadyH.cons (o := { dst := some 48, op := Op.call { callee := Callee.value (Operand.func 11), args := #[Operand.tmp 47], argTypes := #[22] }, type := 26, pos := "law.go:174", after := #[{ on := 1, ground := Ground.data }], guard := none }) rfl (fun K hK => ?_) AllReadyH.nil
            go_simp
            go_at_call 11
            refine (qE _).mono ?_
            rintro r W1 ⟨rfl, kc⟩
            refine hK.out _ _ (mkS _ (k.trans kc)) fun hH => ?_
            try simp only [Act.put, List.setIfInBounds_toArray, List.set_cons_zero, List.set_cons_succ]
            replace k := k.trans kc
            replace hB5 := kc.blk hB5
            replace hB6 := hB6.kp kc
            clear kc
            refine wpAnyH_ready (rs := [5]) (by kernel_rfl) (by simp) ?_
            refine AllReadyH.cons (o := { dst := some 51, op := Op.call { callee := Callee.value (Operand.func 12), args := #[Operand.tmp 50], argTypes := #[22] }, type := 29, pos := "law.go:174", after := #[{ on := 4, ground := Ground.data }, { on := 2, ground := Ground.chain }], guard := none }) rfl (fun K hK => ?_) AllReadyH.nil
            go_simp
            go_at_call 12
            refine (rE _).mono ?_
            rintro r W2 ⟨rfl, kc⟩
            refine hK.out _ _ (mkS _ (k.trans kc)) fun hH => ?_
            try simp only [Act.put, List.setIfInBounds_toArray, List.set_cons_zero, List.set_cons_succ]
            replace k := k.trans kc
            replace hB5 := kc.blk hB5
            replace hB6 := hB6.kp kc
            clear kc
            refine wpAnyH_ready (rs := [6]) (by kernel_rfl) (by simp) ?_
            refine AllReadyH.cons (o := { dst := none, op := Op.store 26 (Operand.tmp 5) (Operand.tmp 48), type := 0, pos := "law.go:174", after := #[{ on := 2, ground := Ground.data }, { on := 5, ground := Ground.chain }, { on := 0, ground := Ground.phase }, { on := 1, ground := Ground.phase }, { on := 2, ground := Ground.phase }, { on := 3, ground := Ground.textOnly Departure.lateStores }, { on := 4, ground := Ground.textOnly Departure.lateStores }, { on := 5, ground := Ground.textOnly Departure.lateStoresUnsure }], guard := none }) rfl (fun K hK => ?_) AllReadyH.nil
            obtain ⟨c1, c2⟩ := one_cell hB5
            go_simp
            refine hK.out _ _ (mkS _ (Below.setCell k hb5 _)) fun hH => ?_
            try simp only [Act.put, List.setIfInBounds_toArray, List.set_cons_zero, List.set_cons_succ]
            clear c1 c2
            have hD5 := set_one hB5 0 (.int .u64 (zE : Int)) (by simp)
            have hD6 : Bl (W2.setCell ⟨B5, 0, none⟩ (.int .u64 (zE : Int))) B6 _ := (Below.heap_setCell W2 ⟨B5, 0, none⟩ (.int .u64 (zE : Int)) B6 (Ne.symm hne)).trans hB6
            have kd : Kp w2 (W2.setCell ⟨B5, 0, none⟩ (.int .u64 (zE : Int))) := Below.setCell k hb5 _
            clear hB5 hB6 k
            generalize W2.setCell ⟨B5, 0, none⟩ (.int .u64 (zE : Int)) = Wd at *
            refine wpAnyH_ready (rs := [7]) (by kernel_rfl) (by simp) ?_
            refine AllReadyH.cons (o := { dst := none, op := Op.store 29 (Operand.tmp 6) (Operand.tmp 51), type := 0, pos := "law.go:174", after := #[{ on := 5, ground := Ground.data }, { on := 6, ground := Ground.chain }, { on := 0, ground := Ground.phase }, { on := 1, ground := Ground.phase }, { on := 2, ground := Ground.phase }, { on := 3, ground := Ground.phase }, { on := 4, ground := Ground.phase }, { on := 5, ground := Ground.phase }, { on := 6, ground := Ground.phase }], guard := none }) rfl (fun K hK => ?_) AllReadyH.nil
            obtain ⟨a0', a1', a2', a3', a4', a5', a6', a7'⟩ := hD6.all
            obtain ⟨f0', f1', f2', f3', f4', f5', f6', f7'⟩ := hD6.thaw
            go_simp
            refine eight_set2 hD6 kd hb6 (g := GE) (P := fun w9 => K _ w9) fun w9 h9 k9 ho => ?_
            refine hK.out _ _ (mkS _ k9) fun hH => ?_
            try simp only [Act.put, List.setIfInBounds_toArray, List.set_cons_zero, List.set_cons_succ]
            refine wpAnyH_done (by kernel_rfl) (NoPanic.normal ?_) _
            have e5 := hide ((ho _ hne).trans hD5)
            have e6 := hide h9
            clear ho hD5 hD6 h9 hH hK a0' a1' a2' a3' a4' a5' a6' a7' f0' f1' f2' f3' f4' f5' f6' f7'
            go_wp2_with fail
            go_meet
            case rel => exact ⟨rfl, _, _, uE, k9, e5.out, e6.out⟩
          · have h2' : (i == 2) = false := beq_eq_false_iff_ne.2 h2
            clear h2
            go_wp2_with fail
            go_meet
            case rel => exact ⟨rfl, _, _, uM, k, hB5, hB6⟩
    case rest =>
      obtain ⟨rfl, z, G, hP, kx, hx5, hx6⟩ := hcut
      clear qF qV qE rF rV rE uF uV uE uM k hB5 hB6 mkS a1'
      have k := kx
      have hB5 := hx5
      have hB6 := hx6
      clear kx hx5 hx6
      go_wp2_with fail
      have kb := (Kp.refl wc).alloc (.cells #[.slice none 0 0] 33)
      have bO := Boxed.new wc 33 (.slice none 0 0)
      have hlow : w2.heap.size ≤ wc.heap.size := k.size
      generalize wc.alloc (.cells #[.slice none 0 0] 33) = w3 at *
      obtain ⟨B7, hB7⟩ : ∃ B, B = wc.heap.size := ⟨_, rfl⟩
      rw [← hB7] at bO ⊢
      have hB7' : Aside (B7 = wc.heap.size) := hB7
      clear hB7
      go_loopg [8] 8 (fun g vk wr => ∃ k : Nat, g = 8 - k ∧ k ≤ 8 ∧ vk = .int .i64 (k : Int) ∧ Kp wc wr ∧ ∃ v, Boxed wr B7 33 v ∧ wr.ownsRow B7 3 1 v ((List.range k).filter G).length (((List.range k).filter G).map fun n : Nat => Value.int .i64 (n : Int)))
      case atStart => exact ⟨0, rfl, by decide, rfl, kb, _, bO, World.ownsRow_nil _ _ _ _⟩
      case round =>
        clear bO kb
        obtain ⟨j, rfl, hj, rfl, kr, v, hv, hrow⟩ := hrel
        by_cases hj8 : j < 8
        · have hj8' : (j : Int) < 8 := by omega
          obtain ⟨d1, -⟩ := (hB6.kp kr).at hj8
          have hc := hv.cell
          have hlen : ((List.range j).filter G).length ≤ 8 := Nat.le_trans (List.length_filter_le _ _) (by simp; omega)
          cases hG : G j
          · rw [hG] at d1
            have hA1 : Aside ((List.range (j + 1)).filter G = (List.range j).filter G) := by
              show (List.range (j + 1)).filter G = (List.range j).filter G
              rw [List.range_succ, List.filter_append]
              simp [hG]
            clear hG
            go_wp2_with fail
            go_roundg (8 - (j + 1))
            case measure => omega
            case rel => exact ⟨j + 1, rfl, by omega, by simp, kr, v, hv, by rw [hA1.out]; exact hrow⟩
          · rw [hG] at d1
            have hA1 : Aside ((List.range (j + 1)).filter G = (List.range j).filter G ++ [j]) := by
              show (List.range (j + 1)).filter G = (List.range j).filter G ++ [j]
              rw [List.range_succ, List.filter_append]
              simp [hG]
            clear hG
            generalize (List.range j).filter G = xs at *
            have hBs : B7 < wr.heap.size := hv.lt
            go_wp2_with (at_builtin; refine wpList_append_own _ rfl _ _ 33 rfl B7 3 i0 (.int .i64 0) 1 8 Tryd.underlying33 hi hz0 hz1 hz2 rfl (by decide) _ _ _ rfl (hrow.alloc _) ⟨wr.heap.size, 0, none⟩ 1 1 [.int .i64 (j : Int)] rfl rfl (cell_one_new _ _ _) (by simp [Value.oneCell']) (by unfold maxLen; omega) (by omega) (by simp; omega) ?_; intro v' w1 hown' hgrow _; obtain ⟨g', cap', rfl⟩ := ownsRow_succ hown'; obtain ⟨hv1, hv2, hr2, hk2, hb2⟩ := hv.appended (by decide) hrow (Nat.le_of_lt hBs) (Nat.le_refl _) hown' hgrow; have hc1 := hv1.cell; have hf1 := hv1.frozen)
            go_roundg (8 - (j + 1))
            case measure => omega
            case rel => exact ⟨j + 1, rfl, by omega, by simp, Below.trans kr (hb2.mono (Nat.le_of_eq hB7'.out.symm)), _, hv2, by rw [hA1.out, List.map_append, List.length_append]; exact hr2⟩
        · have hj8' : ¬ (j : Int) < 8 := by omega
          obtain rfl : j = 8 := by omega
          obtain ⟨m, hm, hz, hGm⟩ := hP
          have hxs : (List.range 8).filter G = slM m := by rw [hGm]; rfl
          rw [hxs] at hrow
          subst hz
          subst hGm
          replace hB5 := kr.blk hB5
          replace hB6 := hB6.kp kr
          have k2 : Kp w2 wr := k.trans kr
          have hsl : (slM m).length ≤ 8 := Nat.le_trans (List.length_filter_le _ _) (by simp)
          clear hxs kr k hj hj8'
          obtain ⟨c5, -⟩ := one_cell hB5
          have hne0 := fun W x => eq_nil_seq W 26 x
          go_wp2_with fail
          refine (all_call _ _).mono ?_
          rintro e wA ⟨rfl, rfl⟩
          go_wp2_with fail
          have hall := AllAt.of_row hv hrow
          have hN : w2.heap.size ≤ wr.heap.size := k2.size
          clear hv hrow
          have kA := (((Kp.refl wr).alloc (.cells #[.int .u64 ((spread m : Nat) : Int)] 26)).alloc (.cells #[.func (.func 26) #[] #[.pointer (some ⟨wr.heap.size, 0, none⟩)]] 35)).alloc (.cells #[.int .i64 0] 3)
          have hBA := heap_old (heap_old (heap_new wr (.cells #[.int .u64 ((spread m : Nat) : Int)] 26)) (.cells #[.func (.func 26) #[] #[.pointer (some ⟨wr.heap.size, 0, none⟩)]] 35)) (.cells #[.int .i64 0] 3)
          have hBQ := heap_old (heap_new (wr.alloc (.cells #[.int .u64 ((spread m : Nat) : Int)] 26)) (.cells #[.func (.func 26) #[] #[.pointer (some ⟨wr.heap.size, 0, none⟩)]] 35)) (.cells #[.int .i64 0] 3)
          have hBS := Boxed.new ((wr.alloc (.cells #[.int .u64 ((spread m : Nat) : Int)] 26)).alloc (.cells #[.func (.func 26) #[] #[.pointer (some ⟨wr.heap.size, 0, none⟩)]] 35)) 3 (.int .i64 0)
          have hs0 : (((wr.alloc (.cells #[.int .u64 ((spread m : Nat) : Int)] 26)).alloc (.cells #[.func (.func 26) #[] #[.pointer (some ⟨wr.heap.size, 0, none⟩)]] 35)).alloc (.cells #[.int .i64 0] 3)).heap.size = wr.heap.size + 3 := by simp
          simp only [World.size_alloc] at hBQ hBS
          generalize (((wr.alloc (.cells #[.int .u64 ((spread m : Nat) : Int)] 26)).alloc (.cells #[.func (.func 26) #[] #[.pointer (some ⟨wr.heap.size, 0, none⟩)]] 35)).alloc (.cells #[.int .i64 0] 3)) = W0 at *
          have hlt5 : B5 < wr.heap.size := (Array.getElem?_eq_some_iff.1 hB5).1
          have hlt6 : B6 < wr.heap.size := (Array.getElem?_eq_some_iff.1 hB6).1
          replace hall := hall.kp kA
          replace hB5 := kA.blk hB5
          replace hB6 := hB6.kp kA
          replace k2 := k2.trans kA
          have hT0 : TabAt W0 := hT2.kp k2
          have hSt0 := k2.blk hSt
          have hRs0 := k2.blk hRs
          obtain ⟨BA, hBAe⟩ : ∃ B, B = wr.heap.size := ⟨_, rfl⟩
          obtain ⟨BQ, hBQe⟩ : ∃ B, B = wr.heap.size + 1 := ⟨_, rfl⟩
          obtain ⟨BS, hBSe⟩ : ∃ B, B = wr.heap.size + 1 + 1 := ⟨_, rfl⟩
          rw [← hBSe] at hBS ⊢
          rw [← hBQe] at hBQ ⊢
          rw [← hBAe] at hBA hBQ hall hs0 ⊢
          have hnums : Aside (A0 = w.heap.size ∧ B1 = w.heap.size + 1 ∧ B2 = w.heap.size + 2 ∧ w2.heap.size = w.heap.size + 3 ∧ w2.heap.size ≤ BA ∧ BQ = BA + 1 ∧ BS = BA + 2 ∧ W0.heap.size = BA + 3 ∧ B5 < BA ∧ B6 < BA) := ⟨hAB.out.1, hAB.out.2.1, hAB.out.2.2.1, hAB.out.2.2.2, by omega, by omega, by omega, by omega, by omega, by omega⟩
          clear hAB hBAe hBQe hBSe hs0 hlt5 hlt6 hN kA hlow
          refine range_all (n := 8) (by omega) (lb := #[]) (Bs := BA) (m := m) rfl hm hT0 (one_cell hBA).1 rfl
            (fun a x => { tmps := (a.tmps.setIfInBounds 68 (.int .i64 (x : Int))).setIfInBounds 11 (.int .i64 (x : Int)), defers := [] })
            (fun pre W => (Boxed W BS 3 (.int .i64 (pre.length : Int)) ∧ pre <+: slM m) ∧ But BS W0 W)
            (fun c xs W => (c = .exit 3 ∧ (Boxed W BS 3 (.int .i64 (xs.length : Int)) ∧ (xs.length : Int) = stop) ∧ But BS W0 W) ∨ (c = .ret ∧ ¬ xs <+: slM m))
            ?hI ?hIx ⟨⟨hBS, List.nil_prefix⟩, But.refl _ _⟩
            (fun D W => (∃ sv : Nat, Boxed W BS 3 (.int .i64 (sv : Int)) ∧ ((sv : Int) = stop ∨ sv = (slM m).length)) ∧ But BS W0 W ∧ W0.heap.size ≤ D ∧ W.heap[D]? = some (.deferred (some [])))
            ?tail ?hassign ?hbody ?hdone ?hstop
          case hI => exact OwnFrom.and (OwnFrom.and (Own.from (boxed_own _ _ _) _) (ownFrom_pure _ _)) (But.own (Nat.le_refl _))
          case hIx =>
            intro c s X Y row hs hg hr
            rcases hs with ⟨h1, ⟨h2, h3⟩, h4⟩ | h
            · exact .inl ⟨h1, ⟨boxed_own BS 3 (fun (_ : Unit) => Value.int .i64 (s.length : Int)) () X Y row h2 hg (fun r e => (hr r e).2), h3⟩, But.own (β := Unit) (Nat.le_refl _) () X Y row h4 hg hr⟩
            · exact .inr h
          case hdone => exact fun D W hD hi hK => ⟨⟨_, hi.1.1, .inr rfl⟩, hi.2, hD, hK⟩
          case hstop =>
            rintro D c pre W hD hp (⟨rfl, ⟨h2, h3⟩, h4⟩ | ⟨_, h⟩) hK
            · exact ⟨⟨⟨_, h2, .inl h3⟩, h4, hD, hK⟩, fun a' W' h => by rw [wpIn_wide]; exact wp_exit h⟩
            · exact absurd hp h
          case hassign =>
            intro l x W K hK
            gi_wp2
            exact hK
          case hbody =>
            rintro l pre x W hl - ⟨⟨hS, hpre⟩, hbut⟩ hlen
            obtain ⟨e1, e2, e3, e4, e5, e6, e7, e8, e9, e10⟩ := hnums.out
            obtain ⟨gb, cap, c7, cx⟩ := (hall.but hbut (by omega)).read hlen
            have c5 := (one_cell (hbut.blk hB5 (by omega))).1
            have hbl : Bl W B6 (hasM m) := hbut.blk hB6 (by omega)
            obtain ⟨q0, q1, q2, q3, q4, q5, q6, q7⟩ := hbl.all
            have c1 := (one_cell (hbut.blk hSt0 (by omega))).1
            have hrs := hbut.blk hRs0 (by omega)
            obtain ⟨r1, r2⟩ := one_cell hrs
            have cS := hS.cell
            have fS := hS.frozen
            have hlen' : ¬ (((slM m).length : Nat) : Int) ≤ (pre.length : Int) := by omega
            have hlen2 : (pre.length : Int) < (((slM m).length : Nat) : Int) := by omega
            have hsx := hsl
            have hlast : Aside (pre ++ [x] <+: slM m ↔ x = (slM m)[pre.length]) := ⟨fun h => prefix_last h hlen, fun e => by rw [e]; exact prefix_snoc hpre hlen⟩
            have hI := is_true m hm
            unfold setV setA at hI
            obtain ⟨sx, hxe⟩ : ∃ sx, (slM m)[pre.length] = sx := ⟨_, rfl⟩
            rw [hxe] at cx hlast
            have hPW : Aside (Boxed W BS 3 (.int .i64 (pre.length : Int)) ∧ But BS W0 W ∧ pre.length < (slM m).length ∧ 0 < BS ∧ BS < W.heap.size ∧ (pre ++ [x]).length = pre.length + 1) := ⟨hS, hbut, hlen, by omega, hS.lt, by simp⟩
            have hS1 := hS.set (.int .i64 ((pre.length : Int) + 1))
            have hbut1 : But BS W0 (W.setCell ⟨BS, 0, none⟩ (.int .i64 ((pre.length : Int) + 1))) := hbut.setCell 0 _
            have c5' := (one_cell (hbut1.blk hB5 (by omega))).1
            obtain ⟨q0', q1', q2', q3', q4', q5', q6', q7'⟩ := Bl.all (hbut1.blk hB6 (by omega) : Bl _ B6 (hasM m))
            have c1' := (one_cell (hbut1.blk hSt0 (by omega))).1
            have cS' := hS1.cell
            have hst1 : Stay W (W.setCell ⟨BS, 0, none⟩ (.int .i64 ((pre.length : Int) + 1))) := stay_set hS (by decide) (by omega)
            have hX1 : Aside (Boxed _ BS 3 _ ∧ But BS W0 _ ∧ Stay W _) := ⟨hS1, hbut1, hst1⟩
            clear hS1 hbut1 hst1
            clear hxe e1 e2 e3 e4 e5 e6 e7 e8 e9 e10 hS hbut hlen hpre hrs hbl hsx
            generalize (slM m).length = N at *
            generalize pre.length = n at *
            dsimp only
            simp only [List.setIfInBounds_toArray, List.set_cons_zero, List.set_cons_succ]
            by_cases hxx : x = sx
            · subst hxx
              gi_wp2_with fail
              refine ⟨trivial, (CallsIn.inRound l (callsIn_wide.2 (hI _))).mono ?_⟩
              rintro e W5 ⟨rfl, kc⟩
              have cS5 := kc.cell cS'
              have c15 := kc.cell c1'
              have hkc : Aside (Kp _ W5) := kc
              clear kc c5' q0' q1' q2' q3' q4' q5' q6' q7' c1' cS' c5 q0 q1 q2 q3 q4 q5 q6 q7 c1 cS fS r1 r2 cx c7 hI
              by_cases hst : (n : Int) + 1 = stop
              · subst hst
                gi_wp2_with fail
                exact ⟨(keepsFrom_set _).trans (keepsFrom_kp hkc.out), .inl ⟨rfl, ⟨by rw [hPW.out.2.2.2.2.2]; exact hkc.out.blk hX1.out.1, by rw [hPW.out.2.2.2.2.2]; simp⟩, hX1.out.2.1.kp hkc.out⟩⟩
              · have hst' : ((n : Int) + 1 == stop) = false := beq_eq_false_iff_ne.2 hst
                gi_wp2_with fail
                exact ⟨(keepsFrom_set _).trans (keepsFrom_kp hkc.out), hX1.out.2.2.trans (Stay.kp hkc.out), ⟨by rw [hPW.out.2.2.2.2.2]; exact hkc.out.blk hX1.out.1, hlast.out.2 trivial⟩, hX1.out.2.1.kp hkc.out⟩
            · have hxx' : ((x : Int) == (sx : Int)) = false := beq_eq_false_iff_ne.2 (by omega)
              gi_wp2_with fail
              exact ⟨keepsFrom_set _, .inr ⟨rfl, fun h => hxx (hlast.out.1 h)⟩⟩
          case tail =>
            rintro D W ⟨⟨sv, hS, hsv⟩, hbut, hD, hK⟩
            obtain ⟨e1, e2, e3, e4, e5, e6, e7, e8, e9, e10⟩ := hnums.out
            have kW : Kp w2 W := hbut.to_kp k2 (by omega)
            have tW : TabAt W := hbut.tab (by omega) hT0
            have aW := hall.but hbut (by omega)
            have b5 := hbut.blk hB5 (by omega)
            have b6 : Bl W B6 (hasM m) := hbut.blk hB6 (by omega)
            have bA := hbut.blk hBA (by omega)
            have bQ := hbut.blk hBQ (by omega)
            have bR := hbut.blk hRs0 (by omega)
            have c1 := (one_cell (hbut.blk hSt0 (by omega))).1
            have cS := hS.cell
            obtain ⟨ga, cap, c7⟩ := aW.len
            have kG : Kp W (W.alloc (.cells #[.int .i64 0] 3)) := (Kp.refl _).alloc _
            have cQ := kG.cell (one_cell bQ).1
            have hG := Boxed.new W 3 (.int .i64 0)
            have hsz : W0.heap.size ≤ W.heap.size := hbut.size
            have hDl : D < W.heap.size := (Array.getElem?_eq_some_iff.1 hK).1
            have hK3 := kG.blk hK
            have hn3 : Aside (w2.heap.size = w.heap.size + 3 ∧ w2.heap.size ≤ BA ∧ B2 = w.heap.size + 2 ∧ W0.heap.size ≤ W.heap.size ∧ W0.heap.size = BA + 3 ∧ B5 < BA ∧ B6 < BA ∧ BQ = BA + 1 ∧ D < W.heap.size ∧ W0.heap.size ≤ D ∧ (W.alloc (.cells #[.int .i64 0] 3)).heap.size = W.heap.size + 1) := ⟨e4, e5, e3, hsz, e8, e9, e10, e6, hDl, hD, by simp⟩
            have hF : Aside (Kp w2 (W.alloc (.cells #[.int .i64 0] 3)) ∧ TabAt (W.alloc (.cells #[.int .i64 0] 3)) ∧ AllAt BA (W.alloc (.cells #[.int .i64 0] 3)) B7 m ∧ Boxed (W.alloc (.cells #[.int .i64 0] 3)) W.heap.size 3 (.int .i64 0) ∧ (W.alloc (.cells #[.int .i64 0] 3)).heap[D]? = some (.deferred (some []))) := ⟨kW.trans kG, tW.kp kG, aW.kp kG, hG, hK3⟩
            have h5 := kG.blk b5
            have h6 : Bl _ B6 (hasM m) := b6.kp kG
            have hA3 := kG.blk bA
            have hQ3 := kG.blk bQ
            have hR3 := kG.blk bR
            clear e1 e2 e3 e4 e5 e6 e7 e8 e9 e10 kW tW aW b5 b6 bA bQ bR hG hsz hDl hK3 kG hK hD hbut hS hBS hB5 hB6 hT0 hSt0 hRs0 hBA hBQ hall k2 hSt hRs hA a0 a1 a3 hT2 hne hb5 hb6 c5
            by_cases hst : (sv : Int) = stop
            · have hst' : ((sv : Int) != stop) = false := by simp [hst]
              clear hsv
              go_wp2_with fail
              clear hst' hst
              obtain ⟨kW, tW, aW, hG, hK3⟩ := hF.out
              clear hF cQ c7 cS c1
              generalize W.alloc (.cells #[.int .i64 0] 3) = W3 at *
              obtain ⟨BG, hBGe⟩ : ∃ B, B = W.heap.size := ⟨_, rfl⟩
              rw [← hBGe] at hG hn3 ⊢
              clear hBGe
              refine range_all (n := 8) (by omega) (lb := #[]) (Bs := BA) (m := m) rfl hm tW (one_cell hA3).1 rfl
                (fun a x => { tmps := (a.tmps.setIfInBounds 100 (.int .i64 (x : Int))).setIfInBounds 13 (.int .i64 (x : Int)), defers := [] })
                (fun pre W => (Boxed W BG 3 (.int .i64 (pre.length : Int)) ∧ pre <+: slM m) ∧ But BG W3 W)
                (fun c xs W => c = .ret ∧ ¬ xs <+: slM m)
                ?hI2 ?hIx2 ⟨⟨hG, List.nil_prefix⟩, But.refl _ _⟩
                (fun D' W' => Boxed W' BG 3 (.int .i64 ((slM m).length : Int)) ∧ But BG W3 W' ∧ W3.heap.size ≤ D' ∧ W'.heap[D']? = some (.deferred (some [])))
                ?tail2 ?hassign2 ?hbody2 ?hdone2 ?hstop2
              case hI2 => exact OwnFrom.and (OwnFrom.and (Own.from (boxed_own _ _ _) _) (ownFrom_pure _ _)) (But.own (Nat.le_refl _))
              case hIx2 =>
                intro c s X Y row hs hg hr
                exact hs
              case hdone2 => exact fun D W hD hi hK => ⟨hi.1.1, hi.2, hD, hK⟩
              case hstop2 =>
                rintro D c pre W hD hp ⟨_, h⟩ hK
                exact absurd hp h
              case hassign2 =>
                intro l x W K hK
                gi_wp2
                exact hK
              case hbody2 =>
                rintro l pre x X hl ⟨rr, hrr⟩ ⟨⟨hS, hpre⟩, hbut⟩ hlen
                obtain ⟨e1, e2, e3, e4, e5, e6, e7, e8, e9, e10, e11⟩ := hn3.out
                have hSlt := hS.lt
                have aX := aW.but hbut (by omega)
                obtain ⟨gb, cap, c7, cx⟩ := aX.read hlen
                obtain ⟨r1, r2⟩ := one_cell (hbut.blk hR3 (by omega))
                have cS := hS.cell
                have fS := hS.frozen
                have hlen' : ¬ (((slM m).length : Nat) : Int) ≤ (pre.length : Int) := by omega
                have hlen2 : (pre.length : Int) < (((slM m).length : Nat) : Int) := by omega
                have hlast : Aside (pre ++ [x] <+: slM m ↔ x = (slM m)[pre.length]) := ⟨fun h => prefix_last h hlen, fun e => by rw [e]; exact prefix_snoc hpre hlen⟩
                have kI : Kp (X.setCell ⟨BG, 0, none⟩ (.int .i64 ((pre.length : Int) + 1))) ((X.setCell ⟨BG, 0, none⟩ (.int .i64 ((pre.length : Int) + 1))).alloc (.cells #[.int .i64 0] 3)) := (Kp.refl _).alloc _
                have hbut2 : But BG W3 ((X.setCell ⟨BG, 0, none⟩ (.int .i64 ((pre.length : Int) + 1))).alloc (.cells #[.int .i64 0] 3)) := (hbut.setCell 0 _).kp kI
                have hS2 := kI.blk (hS.set (.int .i64 ((pre.length : Int) + 1)))
                have hI2 := Boxed.new (X.setCell ⟨BG, 0, none⟩ (.int .i64 ((pre.length : Int) + 1))) 3 (.int .i64 0)
                have hr2 := kI.blk (set_blk (v := .int .i64 ((pre.length : Int) + 1)) hrr (fun e => by rw [e, show X.heap[BG]? = _ from hS] at hrr; cases hrr))
                have hst2 : Stay X ((X.setCell ⟨BG, 0, none⟩ (.int .i64 ((pre.length : Int) + 1))).alloc (.cells #[.int .i64 0] 3)) := (stay_set hS (by decide) (by omega)).trans (Stay.kp kI)
                have hkf : KeepsFrom W3.heap.size X ((X.setCell ⟨BG, 0, none⟩ (.int .i64 ((pre.length : Int) + 1))).alloc (.cells #[.int .i64 0] 3)) := (keepsFrom_set _).trans (keepsFrom_kp kI)
                have cQ := (one_cell (hbut2.blk hQ3 (by omega))).1
                have hsX : (X.setCell ⟨BG, 0, none⟩ (.int .i64 ((pre.length : Int) + 1))).heap.size = X.heap.size := by simp [World.setCell]
                have hpl : (pre ++ [x]).length = pre.length + 1 := by simp
                have hM : Aside (BG < X.heap.size ∧ (X.setCell ⟨BG, 0, none⟩ (.int .i64 ((pre.length : Int) + 1))).heap.size = X.heap.size ∧ (pre ++ [x]).length = pre.length + 1 ∧ W3.heap.size ≤ X.heap.size) := ⟨hSlt, hsX, hpl, hbut.size⟩
                have hFx : Aside (But BG W3 _ ∧ Boxed _ BG 3 _ ∧ Boxed _ _ 3 _ ∧ _ ∧ Stay X _ ∧ KeepsFrom W3.heap.size X _) := ⟨hbut2, hS2, hI2, hr2, hst2, hkf⟩
                obtain ⟨sx, hxe⟩ : ∃ sx, (slM m)[pre.length] = sx := ⟨_, rfl⟩
                rw [hxe] at cx hlast
                clear hxe e1 e2 e3 e4 e5 e6 e7 e8 e9 e10 e11 hS hbut hlen hpre aX hSlt kI hbut2 hS2 hI2 hr2 hst2 hkf hsX hpl hl hrr
                generalize hNN : (slM m).length = N at *
                generalize pre.length = n at *
                have hNN' : Aside ((slM m).length = N) := hNN
                clear hNN
                dsimp only
                simp only [List.setIfInBounds_toArray, List.set_cons_zero, List.set_cons_succ]
                by_cases hxx : x = sx
                · subst hxx
                  gi_wp2_with fail
                  obtain ⟨m1, m2, m3, m4⟩ := hM.out
                  obtain ⟨f1, f2, f3, f4, f5, f6⟩ := hFx.out
                  have hsz2 : ((X.setCell ⟨BG, 0, none⟩ (.int .i64 ((n : Int) + 1))).alloc (.cells #[.int .i64 0] 3)).heap.size = X.heap.size + 1 := by rw [World.size_alloc, m2]
                  rw [m2] at f3
                  clear cQ c7 cx cS fS r1 r2 hlen2 hlen' hFx hM m2
                  generalize (X.setCell ⟨BG, 0, none⟩ (.int .i64 ((n : Int) + 1))).alloc (.cells #[.int .i64 0] 3) = X2 at *
                  obtain ⟨BI, hBI⟩ : ∃ B, B = X.heap.size := ⟨_, rfl⟩
                  rw [← hBI] at f3 m1 m4 hsz2 ⊢
                  obtain ⟨e1, e2, e3, e4, e5, e6, e7, e8, e9, e10, e11⟩ := hn3.out
                  have aX2 : AllAt BA X2 B7 m := aW.but f1 (by omega)
                  have tX2 : TabAt X2 := f1.tab (by omega) tW
                  have bA2 := f1.blk hA3 (by omega)
                  have bR2 := f1.blk hR3 (by omega)
                  have hnum4 : Aside (BG < BI ∧ W3.heap.size ≤ BI ∧ X2.heap.size = BI + 1 ∧ BA < BI ∧ B2 < BI ∧ 0 < BI) := ⟨m1, m4, hsz2, by omega, by omega, by omega⟩
                  have hfx : Aside (But BG W3 X2 ∧ Boxed X2 BG 3 (.int .i64 ((n : Int) + 1)) ∧ Boxed X2 BI 3 (.int .i64 0) ∧ Stay X X2 ∧ KeepsFrom W3.heap.size X X2) := ⟨f1, f2, f3, f5, f6⟩
                  clear e1 e2 e3 e4 e5 e6 e7 e8 e9 e10 e11 f1 f2 f5 f6 hBI m1 m4 hsz2
                  refine range_within (n := 6) rfl f4 (by omega) (Bs := BA) (m := m) rfl hm tX2 (one_cell bA2).1 rfl
                    (fun a x => { tmps := (a.tmps.setIfInBounds 116 (.int .i64 (x : Int))).setIfInBounds 15 (.int .i64 (x : Int)), defers := [] })
                    (fun pre W => (Boxed W BI 3 (.int .i64 (pre.length : Int)) ∧ pre <+: slM m) ∧ But BI X2 W)
                    (fun c xs W => c = .ret ∧ ¬ xs <+: slM m)
                    ?hI3 ?hIx3 ⟨⟨f3, List.nil_prefix⟩, But.refl _ _⟩
                    ?hassign3 ?hbody3 ?hdone3 ?hstop3
                  case hI3 => exact OwnFrom.and (OwnFrom.and (Own.from (boxed_own _ _ _) _) (ownFrom_pure _ _)) (But.own (Nat.le_refl _))
                  case hIx3 =>
                    intro c s X Y row hs hg hr
                    exact hs
                  case hstop3 =>
                    rintro c pre W hp ⟨_, h⟩
                    exact absurd hp h
                  case hassign3 =>
                    intro l x W K hK
                    gi_wp2
                    exact hK
                  case hbody3 =>
                    rintro l2 pre2 y Y hl2 ⟨⟨hS, hpre⟩, hbut⟩ hlen
                    obtain ⟨e1, e2, e3, e4, e5, e6⟩ := hnum4.out
                    obtain ⟨gb, cap, c7, cx⟩ := (aX2.but hbut (by omega)).read hlen
                    obtain ⟨r1, r2⟩ := one_cell (hbut.blk bR2 (by omega))
                    have cS := hS.cell
                    have fS := hS.frozen
                    have hlen' : ¬ (((slM m).length : Nat) : Int) ≤ (pre2.length : Int) := by omega
                    have hlen2 : (pre2.length : Int) < (((slM m).length : Nat) : Int) := by omega
                    have hsl2 : (slM m).length ≤ 8 := hNN'.out.symm ▸ hsl
                    have hlast2 : Aside (pre2 ++ [y] <+: slM m ↔ y = (slM m)[pre2.length]) := ⟨fun h => prefix_last h hlen, fun e => by rw [e]; exact prefix_snoc hpre hlen⟩
                    obtain ⟨sx, hxe⟩ : ∃ sx, (slM m)[pre2.length] = sx := ⟨_, rfl⟩
                    rw [hxe] at cx hlast2
                    have hYb : Aside (But BI X2 (Y.setCell ⟨BI, 0, none⟩ (.int .i64 ((pre2.length : Int) + 1))) ∧ Boxed (Y.setCell ⟨BI, 0, none⟩ (.int .i64 ((pre2.length : Int) + 1))) BI 3 (.int .i64 ((pre2.length : Int) + 1)) ∧ Stay Y (Y.setCell ⟨BI, 0, none⟩ (.int .i64 ((pre2.length : Int) + 1))) ∧ (pre2 ++ [y]).length = pre2.length + 1) := ⟨hbut.setCell 0 _, hS.set _, stay_set hS (by decide) (by omega), by simp⟩
                    clear hxe e1 e2 e3 e4 e5 e6 hS hbut hlen hpre
                    generalize (slM m).length = N2 at *
                    generalize pre2.length = n2 at *
                    dsimp only
                    simp only [List.setIfInBounds_toArray, List.set_cons_zero, List.set_cons_succ]
                    by_cases hyy : y = sx
                    · subst hyy
                      gi_wp2_with fail
                      exact ⟨keepsFrom_set _, hYb.out.2.2.1, ⟨by rw [hYb.out.2.2.2]; exact hYb.out.2.1, hlast2.out.2 trivial⟩, hYb.out.1⟩
                    · have hyy' : ((y : Int) == (sx : Int)) = false := beq_eq_false_iff_ne.2 (by omega)
                      gi_wp2_with fail
                      exact ⟨keepsFrom_set _, rfl, fun h => hyy (hlast2.out.1 h)⟩
                  case hdone3 =>
                    rintro Y ⟨⟨hS, -⟩, hbut⟩
                    obtain ⟨e1, e2, e3, e4, e5, e6⟩ := hnum4.out
                    obtain ⟨g1, g2, g3, g4, g5⟩ := hfx.out
                    have cS := hS.cell
                    obtain ⟨ga3, cap3, c7⟩ := (aX2.but hbut (by omega)).len
                    have hfin : Aside (ownPostG W3.heap.size Stay (fun pre W => (Boxed W BG 3 (.int .i64 (pre.length : Int)) ∧ pre <+: slM m) ∧ But BG W3 W) (fun c xs W => c = Code.ret ∧ ¬ xs <+: slM m) (pre ++ [x]) X Exit.normal { tmps := #[], defers := [] } Y) := ⟨g5.trans (keepsFrom_but hbut g3), g4.trans (stay_but hbut g3 (by decide) e6), ⟨by rw [m3]; exact hbut.blk g2 (by omega), hlast.out.2 trivial⟩, g1.trans2 hbut e2⟩
                    clear e1 e2 e3 e4 e5 e6 g1 g2 g3 g4 g5 hS hbut
                    gi_wp2_with fail
                    exact hfin.out
                · have hxx' : ((x : Int) == (sx : Int)) = false := beq_eq_false_iff_ne.2 (by omega)
                  gi_wp2_with fail
                  exact ⟨keepsFrom_set _, rfl, fun h => hxx (hlast.out.1 h)⟩
              case tail2 =>
                rintro D2 W' ⟨hS, hbut, hD2, hK2⟩
                obtain ⟨e1, e2, e3, e4, e5, e6, e7, e8, e9, e10, e11⟩ := hn3.out
                have kE : Kp w2 W' := hbut.to_kp kW (by omega)
                have cG := hS.cell
                have c5 := (one_cell (hbut.blk h5 (by omega))).1
                obtain ⟨q0, q1, q2, q3, q4, q5, q6, q7⟩ := Bl.all (hbut.blk h6 (by omega) : Bl _ B6 (hasM m))
                have hrs := hbut.blk hR3 (by omega)
                obtain ⟨ga2, cap2, c7⟩ := (aW.but hbut (by omega)).len
                have hK1 := hbut.blk hK3 (by omega)
                have hI := is_true m hm
                unfold setV setA at hI
                have hE : Aside (Kp w2 W' ∧ w.heap.size ≤ B2 ∧ D2 ≠ B2 ∧ D ≠ B2 ∧ D ≠ D2 ∧ w.heap.size ≤ D ∧ w.heap.size ≤ D2 ∧ W'.heap[D]? = some (.deferred (some [])) ∧ W'.heap[D2]? = some (.deferred (some [])) ∧ W'.heap[B2]? = some (.cells #[.bool false] 4)) := ⟨kE, by omega, fun e => (by rw [e, hrs] at hK2; cases hK2), fun e => (by rw [e, hrs] at hK1; cases hK1), by omega, by omega, by omega, hK1, hK2, hrs⟩
                clear e1 e2 e3 e4 e5 e6 e7 e8 e9 e10 e11 kE hS hrs hK1 hbut hK2 hD2 h5 h6 hA3 hQ3 hR3 kW tW aW hG hK3 hn3
                go_wp2_with fail
                refine (hI _).mono ?_
                rintro e W5 ⟨rfl, kc⟩
                obtain ⟨n1, n2, n3, n4, n5, n6, n7, n8, n9, n10⟩ := hE.out
                have hrs := kc.blk n10
                have hd1 := set_blk (v := .bool true) (kc.blk n8) n4
                have hd2 := set_blk (v := .bool true) (kc.blk n9) n3
                obtain ⟨r1, r2⟩ := one_cell hrs
                have r3 := set_one hrs 0 (.bool true) (by simp)
                have r4 := (one_cell (put_blk (l := D) (o := .deferred none) (put_blk (l := D2) (o := .deferred none) r3 n3.symm) n4.symm)).1
                have hfin : Aside (_ ∧ _ ∧ _ ∧ Kp w _) := ⟨hd2, put_blk (l := D2) (o := .deferred none) hd1 n5, r4, kp_put (kp_put (show Kp w (W5.setCell ⟨B2, 0, none⟩ (.bool true)) from Below.setCell ((k0.trans n1).trans kc) n2 _) n7 (.deferred none)) n6 (.deferred none)⟩
                clear kc hrs cG c5 q0 q1 q2 q3 q4 q5 q6 q7 c7 hI n1 n2 n3 n4 n5 n6 n7 n8 n9 n10 r3 r4 hd1 hd2
                go_wp2_with fail
                obtain ⟨d2, d1, r4, kf⟩ := hfin.out
                refine ⟨by simp, .inl ⟨_, _, rfl, run_takeDeferred d2, ?_⟩⟩
                refine ⟨by simp, .inl ⟨_, _, rfl, run_takeDeferred d1, ?_⟩⟩
                exact ⟨_, res4 _ _ B2 _ rfl r4, rfl, kf⟩
            · have hst' : ((sv : Int) != stop) = true := by simp [hst]
              obtain rfl : sv = (slM m).length := by
                rcases hsv with h | h
                · exact absurd h hst
                · exact h
              clear hsv
              go_wp2_with fail
              clear hst' hst
              obtain ⟨kW, tW, aW, hG, hK3⟩ := hF.out
              clear hF cQ c7 cS c1
              generalize W.alloc (.cells #[.int .i64 0] 3) = W3 at *
              obtain ⟨BG, hBGe⟩ : ∃ B, B = W.heap.size := ⟨_, rfl⟩
              rw [← hBGe] at hG hn3 ⊢
              clear hBGe
              refine range_all (n := 8) (by omega) (lb := #[]) (Bs := BA) (m := m) rfl hm tW (one_cell hA3).1 rfl
                (fun a x => { tmps := (a.tmps.setIfInBounds 100 (.int .i64 (x : Int))).setIfInBounds 13 (.int .i64 (x : Int)), defers := [] })
                (fun pre W => (Boxed W BG 3 (.int .i64 (pre.length : Int)) ∧ pre <+: slM m) ∧ But BG W3 W)
                (fun c xs W => c = .ret ∧ ¬ xs <+: slM m)
                ?hI2 ?hIx2 ⟨⟨hG, List.nil_prefix⟩, But.refl _ _⟩
                (fun D' W' => Boxed W' BG 3 (.int .i64 ((slM m).length : Int)) ∧ But BG W3 W' ∧ W3.heap.size ≤ D' ∧ W'.heap[D']? = some (.deferred (some [])))
                ?tail2 ?hassign2 ?hbody2 ?hdone2 ?hstop2
              case hI2 => exact OwnFrom.and (OwnFrom.and (Own.from (boxed_own _ _ _) _) (ownFrom_pure _ _)) (But.own (Nat.le_refl _))
              case hIx2 =>
                intro c s X Y row hs hg hr
                exact hs
              case hdone2 => exact fun D W hD hi hK => ⟨hi.1.1, hi.2, hD, hK⟩
              case hstop2 =>
                rintro D c pre W hD hp ⟨_, h⟩ hK
                exact absurd hp h
              case hassign2 =>
                intro l x W K hK
                gi_wp2
                exact hK
              case hbody2 =>
                rintro l pre x X hl ⟨rr, hrr⟩ ⟨⟨hS, hpre⟩, hbut⟩ hlen
                obtain ⟨e1, e2, e3, e4, e5, e6, e7, e8, e9, e10, e11⟩ := hn3.out
                have hSlt := hS.lt
                have aX := aW.but hbut (by omega)
                obtain ⟨gb, cap, c7, cx⟩ := aX.read hlen
                obtain ⟨r1, r2⟩ := one_cell (hbut.blk hR3 (by omega))
                have cS := hS.cell
                have fS := hS.frozen
                have hlen' : ¬ (((slM m).length : Nat) : Int) ≤ (pre.length : Int) := by omega
                have hlen2 : (pre.length : Int) < (((slM m).length : Nat) : Int) := by omega
                have hlast : Aside (pre ++ [x] <+: slM m ↔ x = (slM m)[pre.length]) := ⟨fun h => prefix_last h hlen, fun e => by rw [e]; exact prefix_snoc hpre hlen⟩
                have kI : Kp (X.setCell ⟨BG, 0, none⟩ (.int .i64 ((pre.length : Int) + 1))) ((X.setCell ⟨BG, 0, none⟩ (.int .i64 ((pre.length : Int) + 1))).alloc (.cells #[.int .i64 0] 3)) := (Kp.refl _).alloc _
                have hbut2 : But BG W3 ((X.setCell ⟨BG, 0, none⟩ (.int .i64 ((pre.length : Int) + 1))).alloc (.cells #[.int .i64 0] 3)) := (hbut.setCell 0 _).kp kI
                have hS2 := kI.blk (hS.set (.int .i64 ((pre.length : Int) + 1)))
                have hI2 := Boxed.new (X.setCell ⟨BG, 0, none⟩ (.int .i64 ((pre.length : Int) + 1))) 3 (.int .i64 0)
                have hr2 := kI.blk (set_blk (v := .int .i64 ((pre.length : Int) + 1)) hrr (fun e => by rw [e, show X.heap[BG]? = _ from hS] at hrr; cases hrr))
                have hst2 : Stay X ((X.setCell ⟨BG, 0, none⟩ (.int .i64 ((pre.length : Int) + 1))).alloc (.cells #[.int .i64 0] 3)) := (stay_set hS (by decide) (by omega)).trans (Stay.kp kI)
                have hkf : KeepsFrom W3.heap.size X ((X.setCell ⟨BG, 0, none⟩ (.int .i64 ((pre.length : Int) + 1))).alloc (.cells #[.int .i64 0] 3)) := (keepsFrom_set _).trans (keepsFrom_kp kI)
                have cQ := (one_cell (hbut2.blk hQ3 (by omega))).1
                have hsX : (X.setCell ⟨BG, 0, none⟩ (.int .i64 ((pre.length : Int) + 1))).heap.size = X.heap.size := by simp [World.setCell]
                have hpl : (pre ++ [x]).length = pre.length + 1 := by simp
                have hM : Aside (BG < X.heap.size ∧ (X.setCell ⟨BG, 0, none⟩ (.int .i64 ((pre.length : Int) + 1))).heap.size = X.heap.size ∧ (pre ++ [x]).length = pre.length + 1 ∧ W3.heap.size ≤ X.heap.size) := ⟨hSlt, hsX, hpl, hbut.size⟩
                have hFx : Aside (But BG W3 _ ∧ Boxed _ BG 3 _ ∧ Boxed _ _ 3 _ ∧ _ ∧ Stay X _ ∧ KeepsFrom W3.heap.size X _) := ⟨hbut2, hS2, hI2, hr2, hst2, hkf⟩
                obtain ⟨sx, hxe⟩ : ∃ sx, (slM m)[pre.length] = sx := ⟨_, rfl⟩
                rw [hxe] at cx hlast
                clear hxe e1 e2 e3 e4 e5 e6 e7 e8 e9 e10 e11 hS hbut hlen hpre aX hSlt kI hbut2 hS2 hI2 hr2 hst2 hkf hsX hpl hl hrr
                generalize hNN : (slM m).length = N at *
                generalize pre.length = n at *
                have hNN' : Aside ((slM m).length = N) := hNN
                clear hNN
                dsimp only
                simp only [List.setIfInBounds_toArray, List.set_cons_zero, List.set_cons_succ]
                by_cases hxx : x = sx
                · subst hxx
                  gi_wp2_with fail
                  obtain ⟨m1, m2, m3, m4⟩ := hM.out
                  obtain ⟨f1, f2, f3, f4, f5, f6⟩ := hFx.out
                  have hsz2 : ((X.setCell ⟨BG, 0, none⟩ (.int .i64 ((n : Int) + 1))).alloc (.cells #[.int .i64 0] 3)).heap.size = X.heap.size + 1 := by rw [World.size_alloc, m2]
                  rw [m2] at f3
                  clear cQ c7 cx cS fS r1 r2 hlen2 hlen' hFx hM m2
                  generalize (X.setCell ⟨BG, 0, none⟩ (.int .i64 ((n : Int) + 1))).alloc (.cells #[.int .i64 0] 3) = X2 at *
                  obtain ⟨BI, hBI⟩ : ∃ B, B = X.heap.size := ⟨_, rfl⟩
                  rw [← hBI] at f3 m1 m4 hsz2 ⊢
                  obtain ⟨e1, e2, e3, e4, e5, e6, e7, e8, e9, e10, e11⟩ := hn3.out
                  have aX2 : AllAt BA X2 B7 m := aW.but f1 (by omega)
                  have tX2 : TabAt X2 := f1.tab (by omega) tW
                  have bA2 := f1.blk hA3 (by omega)
                  have bR2 := f1.blk hR3 (by omega)
                  have hnum4 : Aside (BG < BI ∧ W3.heap.size ≤ BI ∧ X2.heap.size = BI + 1 ∧ BA < BI ∧ B2 < BI ∧ 0 < BI) := ⟨m1, m4, hsz2, by omega, by omega, by omega⟩
                  have hfx : Aside (But BG W3 X2 ∧ Boxed X2 BG 3 (.int .i64 ((n : Int) + 1)) ∧ Boxed X2 BI 3 (.int .i64 0) ∧ Stay X X2 ∧ KeepsFrom W3.heap.size X X2) := ⟨f1, f2, f3, f5, f6⟩
                  clear e1 e2 e3 e4 e5 e6 e7 e8 e9 e10 e11 f1 f2 f5 f6 hBI m1 m4 hsz2
                  refine range_within (n := 6) rfl f4 (by omega) (Bs := BA) (m := m) rfl hm tX2 (one_cell bA2).1 rfl
                    (fun a x => { tmps := (a.tmps.setIfInBounds 116 (.int .i64 (x : Int))).setIfInBounds 15 (.int .i64 (x : Int)), defers := [] })
                    (fun pre W => (Boxed W BI 3 (.int .i64 (pre.length : Int)) ∧ pre <+: slM m) ∧ But BI X2 W)
                    (fun c xs W => c = .ret ∧ ¬ xs <+: slM m)
                    ?hI3 ?hIx3 ⟨⟨f3, List.nil_prefix⟩, But.refl _ _⟩
                    ?hassign3 ?hbody3 ?hdone3 ?hstop3
                  case hI3 => exact OwnFrom.and (OwnFrom.and (Own.from (boxed_own _ _ _) _) (ownFrom_pure _ _)) (But.own (Nat.le_refl _))
                  case hIx3 =>
                    intro c s X Y row hs hg hr
                    exact hs
                  case hstop3 =>
                    rintro c pre W hp ⟨_, h⟩
                    exact absurd hp h
                  case hassign3 =>
                    intro l x W K hK
                    gi_wp2
                    exact hK
                  case hbody3 =>
                    rintro l2 pre2 y Y hl2 ⟨⟨hS, hpre⟩, hbut⟩ hlen
                    obtain ⟨e1, e2, e3, e4, e5, e6⟩ := hnum4.out
                    obtain ⟨gb, cap, c7, cx⟩ := (aX2.but hbut (by omega)).read hlen
                    obtain ⟨r1, r2⟩ := one_cell (hbut.blk bR2 (by omega))
                    have cS := hS.cell
                    have fS := hS.frozen
                    have hlen' : ¬ (((slM m).length : Nat) : Int) ≤ (pre2.length : Int) := by omega
                    have hlen2 : (pre2.length : Int) < (((slM m).length : Nat) : Int) := by omega
                    have hsl2 : (slM m).length ≤ 8 := hNN'.out.symm ▸ hsl
                    have hlast2 : Aside (pre2 ++ [y] <+: slM m ↔ y = (slM m)[pre2.length]) := ⟨fun h => prefix_last h hlen, fun e => by rw [e]; exact prefix_snoc hpre hlen⟩
                    obtain ⟨sx, hxe⟩ : ∃ sx, (slM m)[pre2.length] = sx := ⟨_, rfl⟩
                    rw [hxe] at cx hlast2
                    have hYb : Aside (But BI X2 (Y.setCell ⟨BI, 0, none⟩ (.int .i64 ((pre2.length : Int) + 1))) ∧ Boxed (Y.setCell ⟨BI, 0, none⟩ (.int .i64 ((pre2.length : Int) + 1))) BI 3 (.int .i64 ((pre2.length : Int) + 1)) ∧ Stay Y (Y.setCell ⟨BI, 0, none⟩ (.int .i64 ((pre2.length : Int) + 1))) ∧ (pre2 ++ [y]).length = pre2.length + 1) := ⟨hbut.setCell 0 _, hS.set _, stay_set hS (by decide) (by omega), by simp⟩
                    clear hxe e1 e2 e3 e4 e5 e6 hS hbut hlen hpre
                    generalize (slM m).length = N2 at *
                    generalize pre2.length = n2 at *
                    dsimp only
                    simp only [List.setIfInBounds_toArray, List.set_cons_zero, List.set_cons_succ]
                    by_cases hyy : y = sx
                    · subst hyy
                      gi_wp2_with fail
                      exact ⟨keepsFrom_set _, hYb.out.2.2.1, ⟨by rw [hYb.out.2.2.2]; exact hYb.out.2.1, hlast2.out.2 trivial⟩, hYb.out.1⟩
                    · have hyy' : ((y : Int) == (sx : Int)) = false := beq_eq_false_iff_ne.2 (by omega)
                      gi_wp2_with fail
                      exact ⟨keepsFrom_set _, rfl, fun h => hyy (hlast2.out.1 h)⟩
                  case hdone3 =>
                    rintro Y ⟨⟨hS, -⟩, hbut⟩
                    obtain ⟨e1, e2, e3, e4, e5, e6⟩ := hnum4.out
                    obtain ⟨g1, g2, g3, g4, g5⟩ := hfx.out
                    have cS := hS.cell
                    obtain ⟨ga3, cap3, c7⟩ := (aX2.but hbut (by omega)).len
                    have hfin : Aside (ownPostG W3.heap.size Stay (fun pre W => (Boxed W BG 3 (.int .i64 (pre.length : Int)) ∧ pre <+: slM m) ∧ But BG W3 W) (fun c xs W => c = Code.ret ∧ ¬ xs <+: slM m) (pre ++ [x]) X Exit.normal { tmps := #[], defers := [] } Y) := ⟨g5.trans (keepsFrom_but hbut g3), g4.trans (stay_but hbut g3 (by decide) e6), ⟨by rw [m3]; exact hbut.blk g2 (by omega), hlast.out.2 trivial⟩, g1.trans2 hbut e2⟩
                    clear e1 e2 e3 e4 e5 e6 g1 g2 g3 g4 g5 hS hbut
                    gi_wp2_with fail
                    exact hfin.out
                · have hxx' : ((x : Int) == (sx : Int)) = false := beq_eq_false_iff_ne.2 (by omega)
                  gi_wp2_with fail
                  exact ⟨keepsFrom_set _, rfl, fun h => hxx (hlast.out.1 h)⟩
              case tail2 =>
                rintro D2 W' ⟨hS, hbut, hD2, hK2⟩
                obtain ⟨e1, e2, e3, e4, e5, e6, e7, e8, e9, e10, e11⟩ := hn3.out
                have kE : Kp w2 W' := hbut.to_kp kW (by omega)
                have cG := hS.cell
                have c5 := (one_cell (hbut.blk h5 (by omega))).1
                obtain ⟨q0, q1, q2, q3, q4, q5, q6, q7⟩ := Bl.all (hbut.blk h6 (by omega) : Bl _ B6 (hasM m))
                have hrs := hbut.blk hR3 (by omega)
                obtain ⟨ga2, cap2, c7⟩ := (aW.but hbut (by omega)).len
                have hK1 := hbut.blk hK3 (by omega)
                have hI := is_true m hm
                unfold setV setA at hI
                have hE : Aside (Kp w2 W' ∧ w.heap.size ≤ B2 ∧ D2 ≠ B2 ∧ D ≠ B2 ∧ D ≠ D2 ∧ w.heap.size ≤ D ∧ w.heap.size ≤ D2 ∧ W'.heap[D]? = some (.deferred (some [])) ∧ W'.heap[D2]? = some (.deferred (some [])) ∧ W'.heap[B2]? = some (.cells #[.bool false] 4)) := ⟨kE, by omega, fun e => (by rw [e, hrs] at hK2; cases hK2), fun e => (by rw [e, hrs] at hK1; cases hK1), by omega, by omega, by omega, hK1, hK2, hrs⟩
                clear e1 e2 e3 e4 e5 e6 e7 e8 e9 e10 e11 kE hS hrs hK1 hbut hK2 hD2 h5 h6 hA3 hQ3 hR3 kW tW aW hG hK3 hn3
                go_wp2_with fail
                refine (hI _).mono ?_
                rintro e W5 ⟨rfl, kc⟩
                obtain ⟨n1, n2, n3, n4, n5, n6, n7, n8, n9, n10⟩ := hE.out
                have hrs := kc.blk n10
                have hd1 := set_blk (v := .bool true) (kc.blk n8) n4
                have hd2 := set_blk (v := .bool true) (kc.blk n9) n3
                obtain ⟨r1, r2⟩ := one_cell hrs
                have r3 := set_one hrs 0 (.bool true) (by simp)
                have r4 := (one_cell (put_blk (l := D) (o := .deferred none) (put_blk (l := D2) (o := .deferred none) r3 n3.symm) n4.symm)).1
                have hfin : Aside (_ ∧ _ ∧ _ ∧ Kp w _) := ⟨hd2, put_blk (l := D2) (o := .deferred none) hd1 n5, r4, kp_put (kp_put (show Kp w (W5.setCell ⟨B2, 0, none⟩ (.bool true)) from Below.setCell ((k0.trans n1).trans kc) n2 _) n7 (.deferred none)) n6 (.deferred none)⟩
                clear kc hrs cG c5 q0 q1 q2 q3 q4 q5 q6 q7 c7 hI n1 n2 n3 n4 n5 n6 n7 n8 n9 n10 r3 r4 hd1 hd2
                go_wp2_with fail
                obtain ⟨d2, d1, r4, kf⟩ := hfin.out
                refine ⟨by simp, .inl ⟨_, _, rfl, run_takeDeferred d2, ?_⟩⟩
                refine ⟨by simp, .inl ⟨_, _, rfl, run_takeDeferred d1, ?_⟩⟩
                exact ⟨_, res4 _ _ B2 _ rfl r4, rfl, kf⟩
theorem walk (b0 i0 c0 t0 a1 : Int) (wb0 : (Lit.int .u64 b0).wf = true) (wi0 : (Lit.int .i64 i0).wf = true) (wc0 : (Lit.int .i64 c0).wf = true) (wt0 : (Lit.int .i64 t0).wf = true) (w1 : (Lit.int .i64 a1).wf = true) (W : World) (hT : TabAt W) :
    Calls Tryd.prog 3 #[.agg #[.int .u64 b0, .int .i64 i0, .int .i64 c0, .int .i64 t0], .int .i64 a1] W fun e w' => e = .returned (.bool true) ∧ Below W.heap.size W w' := by
  obtain ⟨h, rfl, hh⟩ := u64_nat wb0
  exact core h i0 c0 t0 a1 W hh hT
end ctrlRanges
end Go.Proofs.YtbpgjlengpgnnabDoor
