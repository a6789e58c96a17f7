/-
  code: the law's lent, kept.
-/
import Derived.Test.YtnicbillhlhmmaaDoorCW17
import Derived.Deep.Cut
namespace Go.Proofs.YtnicbillhlhmmaaDoor
namespace Cw
open Go.RowKit
set_option linter.unusedVariables false
def mkV : List Value := [.int .i64 (-7), .int .i64 0, .int .i64 0]
/-- A copy, with a mark behind it. -/
def LentAt (W : World) (base : Nat) (v : Value) (is : List In) : Prop := ∃ g c cur, v = .slice (some ⟨g, 0, none⟩) is.length c ∧ is.length + 1 ≤ c ∧ base ≤ g ∧ W.heap[g]? = some (.cells cur 36) ∧ cur.size = c * 3 ∧ cur.toList.take (is.length * 3 + 3) = flatI is ++ mkV
theorem flatI_len (l : List In) : (flatI l).length = l.length * 3 := by
  induction l with
  | nil => rfl
  | cons x r ih => unfold flatI at ih ⊢; rw [List.flatMap_cons, List.length_append, ih, List.length_cons]; simp; omega
theorem flatI_at : ∀ (l : List In) (j : Nat) (hj : j < l.length), (flatI l)[j * 3]? = some (.int .i64 l[j].op) ∧ (flatI l)[j * 3 + 1]? = some (.int .i64 l[j].a) ∧ (flatI l)[j * 3 + 2]? = some (.int .i64 l[j].n) := by
  intro l
  induction l with
  | nil => intro j hj; simp at hj
  | cons x r ih =>
    intro j hj
    have e : flatI (x :: r) = .int .i64 x.op :: .int .i64 x.a :: .int .i64 x.n :: flatI r := rfl
    cases j with
    | zero => rw [e]; exact ⟨rfl, rfl, rfl⟩
    | succ j =>
      have := ih j (by simpa using hj)
      rw [e, show (j + 1) * 3 = j * 3 + 1 + 1 + 1 by omega]
      simpa using this
theorem LentAt.cell {W : World} {base g c : Nat} {is : List In} {cur : Array Value} (hg : W.heap[g]? = some (.cells cur 36)) (ht : cur.toList.take (is.length * 3 + 3) = flatI is ++ mkV) {j : Nat} {v : Value} (hj : (flatI is ++ mkV)[j]? = some v) : W.cell? ⟨g, j, none⟩ = some v := by
  rw [← ht, List.getElem?_take] at hj
  split at hj
  · simp only [World.cell?, hg]
    simpa using hj
  · cases hj
theorem LentAt.ins {W : World} {base : Nat} {v : Value} {is : List In} (h : LentAt W base v is) : InsV W v is := by
  obtain ⟨g, c, cur, e, hc, hb, hg, hs, ht⟩ := h
  refine ⟨_, c, e, fun j hj => ⟨g, 0, rfl, ?_⟩⟩
  obtain ⟨q0, q1, q2⟩ := flatI_at is j hj
  have hl := flatI_len is
  rw [Nat.zero_add]
  refine ⟨LentAt.cell (base := base) (c := c) hg ht ?_, LentAt.cell (base := base) (c := c) hg ht ?_, LentAt.cell (base := base) (c := c) hg ht ?_⟩
  · rw [List.getElem?_append_left (by omega)]; exact q0
  · rw [List.getElem?_append_left (by omega)]; exact q1
  · rw [List.getElem?_append_left (by omega)]; exact q2
theorem LentAt.mark {W : World} {base : Nat} {v : Value} {is : List In} (h : LentAt W base v is) : ∃ g c, v = .slice (some ⟨g, 0, none⟩) is.length c ∧ is.length + 1 ≤ c ∧ W.cell? ⟨g, is.length * 3, none⟩ = some (.int .i64 (-7)) ∧ W.cell? ⟨g, is.length * 3 + 1, none⟩ = some (.int .i64 0) ∧ W.cell? ⟨g, is.length * 3 + 2, none⟩ = some (.int .i64 0) := by
  obtain ⟨g, c, cur, e, hc, hb, hg, hs, ht⟩ := h
  have hl := flatI_len is
  refine ⟨g, c, e, hc, LentAt.cell (base := base) (c := c) hg ht ?_, LentAt.cell (base := base) (c := c) hg ht ?_, LentAt.cell (base := base) (c := c) hg ht ?_⟩
  · rw [List.getElem?_append_right (by omega), hl, Nat.sub_self]; rfl
  · rw [List.getElem?_append_right (by omega), hl, show is.length * 3 + 1 - is.length * 3 = 1 by omega]; rfl
  · rw [List.getElem?_append_right (by omega), hl, show is.length * 3 + 2 - is.length * 3 = 2 by omega]; rfl
theorem LentAt.keeps {W W' : World} {base : Nat} {v : Value} {is : List In} (h : LentAt W base v is) (k : Keeps W W' (fun _ => False)) : LentAt W' base v is := by
  obtain ⟨g, c, cur, e, hc, hb, hg, hs, ht⟩ := h
  exact ⟨g, c, cur, e, hc, hb, (k.block g (heap_lt hg) id).trans hg, hs, ht⟩
theorem infoInst' : ∃ i, Tryd.prog.info? 36 = some i ∧ i.zero = some (.agg #[.int .i64 0, .int .i64 0, .int .i64 0]) ∧ i.size = 3 ∧ i.bytes = 24 := by
  have hi := infoInst
  cases h : Tryd.prog.info? 36 with
  | none => rw [h] at hi; cases hi
  | some i =>
    rw [h] at hi
    simp at hi
    exact ⟨i, rfl, hi.1, hi.2.1, hi.2.2⟩
/-- Instructions laid behind none: a copy. -/
theorem copy_ins {W : World} {v : Value} {is : List In} (h : InsV W v is) (hl : is.length ≤ 1048576) :
    ∃ r W', (∀ ty, (Builtin.append_ #[22, 22] ty #[.slice none 0 0, v]).run Tryd.prog W = .ok r W') ∧ W'.ownsRow W.heap.size 36 3 r is.length (flatI is) ∧ Keeps W W' (fun _ => False) := by
  obtain ⟨p, c, rfl, f⟩ := h
  have hfl := flatI_len is
  by_cases h0 : is = []
  · subst h0
    refine ⟨.slice none 0 0, W, fun ty => ?_, ⟨rfl, Or.inl ⟨rfl, rfl⟩⟩, Keeps.refl _ _⟩
    obtain ⟨i, q1, q2, q3, q4⟩ := infoInst'
    cases p with
    | none => simp [Builtin.append_, run_underlying Tryd.underlying22, sizeOf, typeInfo, q1, Builtin.lenOf, Builtin.firstCells]
    | some a => simp [Builtin.append_, run_underlying Tryd.underlying22, sizeOf, typeInfo, q1, Builtin.lenOf, Builtin.firstCells, loadCells, loadCellsFrom]
  · obtain ⟨g, o, rfl, -⟩ := f 0 (List.length_pos_iff.2 h0)
    have hcs : ∀ j u, (flatI is)[j]? = some u → W.cell? ((⟨g, o, none⟩ : Addr).add j) = some u := fun j u hj => by
      obtain ⟨q, r, rfl, hr⟩ : ∃ q r, j = q * 3 + r ∧ r < 3 := ⟨j / 3, j % 3, by omega, by omega⟩
      have hlt : q * 3 + r < (flatI is).length := (List.getElem?_eq_some_iff.1 hj).1
      have hq : q < is.length := by omega
      obtain ⟨g', o', e, a0, a1, a2⟩ := f q hq
      injection e with e
      injection e with e1 e2 e3
      subst e1
      subst e2
      obtain ⟨q0, q1, q2⟩ := flatI_at is q hq
      rw [addr_add]
      match r, hr with
      | 0, _ =>
        rw [Nat.add_zero] at hj ⊢
        rw [q0] at hj
        rw [a0]
        exact hj
      | 1, _ =>
        rw [q1] at hj
        rw [← Nat.add_assoc, a1]
        exact hj
      | 2, _ =>
        rw [q2] at hj
        rw [← Nat.add_assoc, a2]
        exact hj
    obtain ⟨i, q1, q2, q3, q4⟩ := infoInst'
    obtain ⟨g2, cap, w', hr, h2, h3, h4, _⟩ := run_append_lies (P := Tryd.prog) (w := W) 22 0 W.heap.size 36 i _ 3 24 Tryd.underlying22 q1 q2 q3 q4 rfl (by decide) (.slice none 0 0) 0 [] ⟨rfl, Or.inl ⟨rfl, rfl⟩⟩ ⟨g, o, none⟩ is.length c (flatI is) hfl hcs
      (fun u hu => by
        unfold flatI at hu
        obtain ⟨x, -, hx⟩ := List.mem_flatMap.1 hu
        simp only [List.mem_cons, List.not_mem_nil, or_false] at hx
        rcases hx with e | e | e <;> rw [e] <;> rfl) (List.length_pos_iff.2 h0) (by simp only [maxLen]; omega) (by omega) (Nat.le_refl _) W.heap.size rfl
    rw [Nat.zero_add, List.nil_append] at *
    exact ⟨_, w', fun ty => hr, h2, ⟨h3.os, h3.tape, h3.output, h3.size, fun k hk _ => h3.block k hk (fun e => by cases e)⟩⟩
/-- What lent answers. -/
def LentP (v m : Int) (is : List In) (w : World) (e : Ending) (w' : World) : Prop := ∃ r, e = .returned (cdV v m r) ∧ LentAt w' w.heap.size r is ∧ Keeps w w' (fun _ => False)
set_option maxRecDepth 100000 in
set_option maxHeartbeats 2000000 in
theorem lent_any (v m : Int) (sl : Value) (is : List In) (w : World) (hs : InsV w sl is) (hl : is.length ≤ 1048576) : Calls Tryd.prog 5 #[cdV v m sl] w (LentP v m is w) := by
  obtain ⟨p, c, rfl, -⟩ := id hs
  obtain ⟨W0, hW0⟩ : ∃ W0, W0 = (w.alloc (.cells #[.int .i64 v, .int .i64 m, .slice p is.length c] 24)).alloc (.cells #[.int .i64 0, .int .i64 0, .slice none 0 0] 24) := ⟨_, rfl⟩
  have k0 : Keeps w W0 (fun _ => False) := by rw [hW0]; exact ((Keeps.refl _ _).alloc _).alloc _
  have hsz : W0.heap.size = w.heap.size + 1 + 1 := by rw [hW0]; simp
  have hbox : CdB W0 w.heap.size v m (.slice p is.length c) := by
    rw [hW0]
    exact (((Keeps.refl (w.alloc (.cells #[.int .i64 v, .int .i64 m, .slice p is.length c] 24)) (fun _ => False)).alloc _).block _ (heap_lt (heap_alloc_new w _)) id).trans (heap_alloc_new w _)
  have hres : CdB W0 (w.heap.size + 1) 0 0 (.slice none 0 0) := by
    rw [hW0]
    have := heap_alloc_new (w.alloc (.cells #[.int .i64 v, .int .i64 m, .slice p is.length c] 24)) (.cells #[.int .i64 0, .int .i64 0, .slice none 0 0] 24)
    rw [show (w.alloc (.cells #[.int .i64 v, .int .i64 m, .slice p is.length c] 24)).heap.size = w.heap.size + 1 by simp] at this
    exact this
  obtain ⟨r, W1, hap1, own1, k1⟩ := copy_ins (hs.keeps k0) hl
  have own1a := World.ownsRow.alloc own1 (.cells #[.int .i64 (-7), .int .i64 0, .int .i64 0] 36)
  obtain ⟨g2, c2, W2, hap2, own2, k2⟩ := append_row 22 36 _ 3 24 Tryd.underlying22 infoInst rfl (by decide) own1a (us := mkV) (heap_alloc_new W1 (.cells #[.int .i64 (-7), .int .i64 0, .int .i64 0] 36)) rfl (by simp [mkV, Value.oneCell']) (by omega) (by omega) (by have := k1.size; simp; omega)
  have kA : Keeps W1 (W1.alloc (.cells #[.int .i64 (-7), .int .i64 0, .int .i64 0] 36)) (fun _ => False) := (Keeps.refl _ _).alloc _
  have k02 : Keeps W0 W2 (fun _ => False) := (k1.trans kA (fun _ _ e => e)).trans k2 (fun q hq e => by have := (ownsRow_block own1a e).1; omega)
  have hbox2 : CdB W2 w.heap.size v m (.slice p is.length c) := (k02.block _ (heap_lt hbox) id).trans hbox
  have hres2 : CdB W2 (w.heap.size + 1) 0 0 (.slice none 0 0) := (k02.block _ (heap_lt hres) id).trans hres
  have hlent : LentAt W2 W0.heap.size (.slice (some ⟨g2, 0, none⟩) is.length c2) is ∧ is.length + 1 ≤ c2 := by
    rcases own2.2 with ⟨e, -⟩ | ⟨g, cap, cur, e1, e2, e3, e4, e5, e6, e7⟩
    · cases e
    · injection e1 with e1 _ e8
      injection e1 with e1
      injection e1 with e1
      subst e1
      subst e8
      exact ⟨⟨g2, c2, cur, rfl, e4, e2, e3, e6, by rw [show is.length * 3 + 3 = (is.length + 1) * 3 by omega]; exact e7⟩, e4⟩
  obtain ⟨rp, rl, rc, rfl⟩ := own_form own1
  have hbox1 : CdB W1 w.heap.size v m (.slice p is.length c) := (k1.block _ (heap_lt hbox) id).trans hbox
  obtain ⟨⟨b0, b1, b2⟩, -⟩ := hbox.cells
  obtain ⟨⟨c0, c1, c2'⟩, f0, f1, f2⟩ := hbox2.cells
  have hgb : w.heap.size ≠ g2 := fun e => by have := (ownsRow_block own2 (g := g2) rfl).1; omega
  have hgr : w.heap.size + 1 ≠ g2 := fun e => by have := (ownsRow_block own2 (g := g2) rfl).1; omega
  have HQ := hide (And.intro (k0.trans k02 (fun _ _ e => e)) (And.intro hbox2 (And.intro hres2 (And.intro hlent.1 (And.intro hsz (And.intro hgb hgr))))))
  have hc2 : (is.length : Int) ≤ (c2 : Int) := by have := hlent.2; omega
  clear hs k0 hsz hbox hres own1 k1 own1a own2 k2 kA k02 hbox2 hres2 hlent hbox1 hgb hgr
  unfold cdV
  go_enter Tryd.func5, Tryd.ntmps5
  go_upto_region 2 with fail
  rw [← hW0]
  clear hW0
  go_upto_region 4 with (at_builtin; first | (have _t := hap1; refine app_run _ rfl (.tmp 4) (.tmp 6) 22 rfl rfl rfl hap1 ?_; clear hap1) | (have _t := hap2; refine app_run _ rfl (.tmp 8) (.tmp 10) 22 rfl rfl rfl hap2 ?_; clear hap2))
  go_upto_region 5 with fail
  refine cd_set2 (P := fun W => Code.wp _ _ _ _ W) HQ.out.2.1 fun W3 h3 k3 => ?_
  have hres3 : CdB W3 (w.heap.size + 1) 0 0 (.slice none 0 0) := (k3.block _ (heap_lt HQ.out.2.2.1) (fun e => by omega)).trans HQ.out.2.2.1
  obtain ⟨⟨x0, x1, x2⟩, -⟩ := h3.cells
  obtain ⟨⟨y0, y1, y2⟩, z0, z1, z2⟩ := hres3.cells
  have H3 := hide (And.intro k3 hres3)
  clear k3 h3 hres3 b0 b1 b2 c0 c1 c2' f0 f1 f2
  go_wp2_with fail
  refine cd_set3 (P := fun W => bodyPost _ _ _ _ _ W) H3.out.2 fun W4 h4 k4 => ?_
  obtain ⟨⟨t0, t1, t2⟩, -⟩ := h4.cells
  refine bodyPost_ret (v := cdV v m (.slice (some ⟨g2, 0, none⟩) is.length c2)) (by simp [results, Tryd.results5, go_sem, t0, t1, t2, cdV]) rfl ?_
  obtain ⟨q1, q2, q3, q4, q5, q6, q7⟩ := HQ.out
  refine ⟨_, rfl, ?_, (q1.trans H3.out.1 (fun q hq e => by omega)).trans k4 (fun q hq e => by omega)⟩
  obtain ⟨g, cc, cur, e, hc, hb, hg, hz, ht⟩ := q4
  injection e with e1 _ e2
  injection e1 with e1
  injection e1 with e1
  subst e1
  subst e2
  exact ⟨g2, c2, cur, rfl, hc, by omega, (k4.block _ (Nat.lt_of_lt_of_le (heap_lt hg) H3.out.1.size) (fun e => q7 e.symm)).trans ((H3.out.1.block _ (heap_lt hg) (fun e => q6 e.symm)).trans hg), hz, ht⟩
set_option maxRecDepth 100000 in
set_option maxHeartbeats 2000000 in
theorem kept_any (v m : Int) (base : Nat) (r sl : Value) (is : List In) (w : World) (hr : LentAt w base r is) (hs : InsV w sl is) (hl : is.length ≤ 1048576) : Calls Tryd.prog 8 #[cdV v m r, cdV v m sl] w fun e w' => e = .returned (.bool true) ∧ Keeps w w' (fun _ => False) := by
  obtain ⟨p, c, rfl, -⟩ := id hs
  obtain ⟨g, c2, rfl, hc2, m0, m1, m2⟩ := hr.mark
  obtain ⟨W2, hW2⟩ : ∃ W2, W2 = (w.alloc (.cells #[.int .i64 v, .int .i64 m, .slice (some ⟨g, 0, none⟩) is.length c2] 24)).alloc (.cells #[.int .i64 v, .int .i64 m, .slice p is.length c] 24) := ⟨_, rfl⟩
  have k0 : Keeps w W2 (fun _ => False) := by rw [hW2]; exact ((Keeps.refl _ _).alloc _).alloc _
  have hb1 : CdB W2 w.heap.size v m (.slice (some ⟨g, 0, none⟩) is.length c2) := by
    rw [hW2]
    exact (((Keeps.refl (w.alloc (.cells #[.int .i64 v, .int .i64 m, .slice (some ⟨g, 0, none⟩) is.length c2] 24)) (fun _ => False)).alloc _).block _ (heap_lt (heap_alloc_new w _)) id).trans (heap_alloc_new w _)
  have hb2 : CdB W2 (w.heap.size + 1) v m (.slice p is.length c) := by
    rw [hW2]
    have := heap_alloc_new (w.alloc (.cells #[.int .i64 v, .int .i64 m, .slice (some ⟨g, 0, none⟩) is.length c2] 24)) (.cells #[.int .i64 v, .int .i64 m, .slice p is.length c] 24)
    rw [show (w.alloc (.cells #[.int .i64 v, .int .i64 m, .slice (some ⟨g, 0, none⟩) is.length c2] 24)).heap.size = w.heap.size + 1 by simp] at this
    exact this
  have hS := same_same v m _ _ is W2 (hr.ins.keeps k0) (hs.keeps k0) (by omega)
  have hc2' : (is.length : Int) + 1 ≤ (c2 : Int) := by omega
  have hN2 : (is.length : Int) ≤ 1048576 := by omega
  have HQ := hide (And.intro k0 (And.intro hb1 (And.intro hb2 (And.intro m0 (And.intro m1 m2)))))
  clear hs hr k0 hb1 hb2 m0 m1 m2 hl
  unfold cdV at hS ⊢
  go_enter Tryd.func8, Tryd.ntmps8
  go_wp2_with fail
  rw [← hW2]
  clear hW2
  refine hS.mono ?_
  rintro e w1 ⟨rfl, k1⟩
  obtain ⟨k0, hb1, hb2, m0, m1, m2⟩ := HQ.out
  have hb1' : CdB w1 w.heap.size v m (.slice (some ⟨g, 0, none⟩) is.length c2) := (k1.block _ (heap_lt hb1) id).trans hb1
  have hb2' : CdB w1 (w.heap.size + 1) v m (.slice p is.length c) := (k1.block _ (heap_lt hb2) id).trans hb2
  obtain ⟨⟨x0, x1, x2⟩, -⟩ := hb1'.cells
  obtain ⟨⟨y0, y1, y2⟩, -⟩ := hb2'.cells
  have n0 := keeps_at (k0.trans k1 (fun _ _ e => e)) m0
  have n1 := keeps_at (k0.trans k1 (fun _ _ e => e)) m1
  have n2 := keeps_at (k0.trans k1 (fun _ _ e => e)) m2
  have HK := hide (k0.trans k1 (fun _ _ e => e))
  have hNN : (is.length : Int) < (is.length : Int) + 1 := by omega
  clear hS k0 hb1 hb2 m0 m1 m2 hb1' hb2' k1 HQ
  go_wp2_with fail
  go_ret
  exact ⟨rfl, HK.out⟩
end Cw
end Go.Proofs.YtnicbillhlhmmaaDoor
