/-
  DirTables's walk.
-/
import Derived.Test.YtiacmlcoadcefaaDoorHDT2
namespace Go.Proofs.YtiacmlcoadcefaaDoor
open Go.RowKit Go.Shelf
set_option linter.unusedVariables false
namespace dirTables

attribute [local go_sem] Oper.semAt_some

theorem cells_of {w : World} {so : Option Addr} {cp : Nat} {zs : List Int} (h : InZ w (.slice so zs.length cp) zs) : ∀ j (hj : j < zs.length), ∃ b o, so = some ⟨b, o, none⟩ ∧ w.cell? ⟨b, o + j, none⟩ = some (.int .i64 zs[j]) := by
  obtain ⟨so', cp', e, hc⟩ := h.form
  injection e with e1 e2 e3
  subst e1
  exact hc
theorem alloc3 {w : World} {o1 o2 o3 : Obj} {P : World → Prop} (h : ∀ W0, W0.heap[w.heap.size]? = some o1 → W0.heap[w.heap.size + 1]? = some o2 → W0.heap[w.heap.size + 1 + 1]? = some o3 → W0.heap.size = w.heap.size + 3 → Keeps w W0 (fun _ => False) → P W0) : P (((w.alloc o1).alloc o2).alloc o3) := by
  refine alloc2 (P := fun W => P (W.alloc o3)) fun W h1 h2 h3 k => ?_
  refine h _ (heap_alloc_old h1 _) (heap_alloc_old h2 _) ?_ (by simp [h3]) (k.alloc _)
  have := heap_alloc_new W o3
  rwa [h3] at this
theorem start6 {W0 : World} {p off D : Nat} {P : World → Prop} (h : ∀ W, DirB W W0.heap.size p off D → Boxed W (W0.heap.size + 1) 22 (.slice none 0 0) → Boxed W (W0.heap.size + 2) 3 (.int .i64 0) → Boxed W (W0.heap.size + 3) 3 (.int .i64 0) → Boxed W (W0.heap.size + 4) 3 (.int .i64 (-1)) → Boxed W (W0.heap.size + 5) 4 (.bool false) → W.heap.size = W0.heap.size + 6 → Keeps W0 W (fun _ => False) → P W) :
    P ((((((W0.alloc (.cells #[.pointer (some ⟨p, 0, none⟩), .int .i64 (off : Int), .int .i64 (D : Int)] 25)).alloc (.cells #[.slice none 0 0] 22)).alloc (.cells #[.int .i64 0] 3)).alloc (.cells #[.int .i64 0] 3)).alloc (.cells #[.int .i64 (-1)] 3)).alloc (.cells #[.bool false] 4)) := by
  refine alloc3 (P := fun W => P (((W.alloc _).alloc _).alloc _)) fun W h1 h2 h3 h4 k => ?_
  refine alloc3 fun W1 g1 g2 g3 g4 k1 => ?_
  rw [h4] at g1 g2 g3 g4
  exact h W1 (k1.blk h1) (k1.blk h2) (k1.blk h3) g1 g2 g3 (by omega) (k.trans k1 (fun _ _ e => e))
theorem eq_nil_func (W : World) (g : Nat) (x : Array Value) : (binOp .eql 30 (.func (.func g) #[] x) .nilFunc).run Tryd.prog W = .ok (.bool false) W := by
  kernel_rfl
theorem res4 (tmps : Array Value) (w : World) (B : Nat) (v : Value) (hp : tmps.getD 4 undef = .pointer (some ⟨B, 0, none⟩)) (hc : w.cell? ⟨B, 0, none⟩ = some v) : (results Tryd.f3 tmps).run Tryd.prog w = .ok v w := by
  have hp' : tmps[4]?.getD undef = .pointer (some ⟨B, 0, none⟩) := by simpa using hp
  simp [results, Tryd.results3, go_sem, hp', hc]
theorem app_runIn {F : Fence} {n : Nat} {P : Program} (w : World) {ops : Array Oper} {rest : List Oper} {o : Oper} {a : Act} {Q : Exit → Act → World → Prop}
    (hgd : o.guard = none) (s x : Operand) (t : TypeId) (hop : o.op = Op.call { callee := Callee.builtin Builtin.append, args := #[s, x], argTypes := #[t, t] }) {v u v' : Value} {w' : World} (hs : a.eval s = v) (hx : a.eval x = u)
    (hrun : ∀ ty, (Builtin.append_ #[t, t] ty #[v, u]).run P w = .ok v' w') (hK : wpListIn F n P ops Q rest (a.put o.dst v') w') : wpListIn F n P ops Q (o :: rest) a w := by
  refine wpListIn_plain hgd fun K hK' => ?_
  unfold Oper.wpIn
  refine ⟨?_, ?_⟩
  · simp [Oper.about, hop, resolve, Target.leads, Sem.run_pure]
  · rw [Oper.semAt_plain F _ _ (by rw [hop]; intro c hc'; cases hc')]
    simp [execOp, hop, resolve, invoke, builtin, hs, hx, hrun, Result.andThen]
    exact hK' _ _ hK
theorem put_blk {W : World} {l q : Nat} {o o' : Obj} (h : W.heap[q]? = some o') (hne : q ≠ l) : (W.putObj l o).heap[q]? = some o' :=
  ((grownBy_putObj' W l o).block q (Array.getElem?_eq_some_iff.1 h).1 (fun e => hne (by cases e; rfl))).trans h
theorem set_blk {W : World} {l q : Nat} {v : Value} {o' : Obj} (h : W.heap[q]? = some o') (hne : q ≠ l) : (W.setCell ⟨l, 0, none⟩ v).heap[q]? = some o' := (Below.heap_setCell W ⟨l, 0, none⟩ v q hne).trans h
theorem take_more {zs : List Int} {j : Nat} {la : Int} (h : j < zs.length) (e : zs.getD j 0 = la) : zs.take j ++ [la] = zs.take (j + 1) := by
  rw [List.take_succ_eq_append_getElem h, ← e, List.getD_eq_getElem?_getD, List.getElem?_eq_getElem h]
  rfl
theorem box_true {w W : World} {b : Nat} (h : Boxed W b 4 (.bool false)) (k : Keeps w W (fun _ => False)) (hb : w.heap.size ≤ b) : (W.setCell ⟨b, 0, none⟩ (.bool true)).cell? ⟨b, 0, none⟩ = some (.bool true) ∧ Keeps w (W.setCell ⟨b, 0, none⟩ (.bool true)) (fun _ => False) :=
  ⟨(h.set (.bool true)).cell, k.trans (boxSet (b := b) W (.bool true)) (fun i hi e => by omega)⟩
def lenAt (W : World) (b : Nat) : Nat := match W.cell? ⟨b, 0, none⟩ with | some (.slice _ n _) => n | _ => 0
theorem len_tb {W0 W : World} {M p off D : Nat} {v : Value} {ys : List Int} {la n tl : Int} {st : Bool} (h : TB W0 W M p off D v ys la n tl st) : ∃ so cap, v = .slice so ys.length cap ∧ lenAt W (M + 1) = ys.length := by
  have hc := h.l.cell
  rcases h.row.2 with ⟨rfl, h2⟩ | ⟨g, cap, cur, rfl, -⟩
  · exact ⟨none, 0, by rw [h2], by simp [lenAt, hc, h2]⟩
  · exact ⟨_, cap, rfl, by simp [lenAt, hc]⟩

theorem row_at {W0 W : World} {M p off D : Nat} {so : Option Addr} {n0 cap : Nat} {ys : List Int} {la n tl : Int} {st : Bool} (h : TB W0 W M p off D (.slice so n0 cap) ys la n tl st) (hn : n0 = ys.length) {m : Nat} (hm : m < ys.length) : ∃ g, so = some ⟨g, 0, none⟩ ∧ W.cell? ⟨g, m, none⟩ = some (.int .i64 ys[m]) := by
  subst hn
  rcases h.row.2 with ⟨h1, h2⟩ | ⟨g, cap', cur, e1, -⟩
  · omega
  · injection e1 with e2 e3 e4
    subst e2
    have := row_cells h.row m hm
    rw [Nat.zero_add] at this
    exact ⟨g, rfl, this⟩
def TX (w2 : World) (M p off D : Nat) (zs : List Int) (c : Code) (W : World) : Prop := c = .exit 0 ∧ ∃ (v : Value) (j : Nat) (la tl : Int) (n : Nat), j ≤ zs.length ∧ 1 ≤ n ∧ Hid (TB w2 W M p off D v (zs.take j) la (n : Int) tl true)

set_option maxRecDepth 100000 in
set_option maxHeartbeats 2000000 in
theorem walk_no (sp : Int) (v : Value) (zs : List Int) (w : World) (hz : InZ w v zs) (hl : zs.length ≤ 17592186044000) (hd : depI zs.length < 0) :
    Calls Tryd.prog 3 #[v, .int .i64 sp] w fun e w' => Post w e w' := by
  obtain ⟨so, cap, rfl, -⟩ := hz.form
  have hM := fun W (k : Keeps w W (fun _ => False)) => made_no (.slice so zs.length cap) zs W (hz.keeps k) hl hd
  have hDp := fun W => depthOf_any zs.length W
  generalize depI zs.length = dq at *
  clear hz
  refine (callsIn_wide (n := 8)).1 ?_
  refine callsIn_of_wp_marks Tryd.func3 rfl trivial ?_ rfl
  simp only [Tryd.ntmps3, List.size_toArray, List.length_cons, List.length_nil, Nat.reduceAdd, Nat.reduceSub, Array.replicate_succ, Array.replicate_zero, List.push_toArray, List.append_toArray, List.nil_append, List.cons_append]
  rw [wpIn_wide]
  go_wp2_with fail
  refine alloc3 (P := fun W => Calls _ _ _ W _) fun WA bo bs br hzA KA => ?_
  (with_reducible refine (hM _ KA).mono ?_)
  rintro e w2 ⟨p, rfl, k2⟩
  have K3 := k2.alloc (.cells #[.pointer none, .int .i64 0, .int .i64 0] 25)
  have co := (one_cell (K3.blk bo)).1
  have br3 := K3.blk br
  obtain ⟨cr, fr⟩ := one_cell br3
  have KK := KA.trans K3 (fun _ _ e => e)
  clear hM k2 K3
  go_wp2_with fail
  (with_reducible refine (hDp _).mono ?_)
  rintro e w3 ⟨rfl, rfl⟩
  clear hDp
  go_wp2_with fail
  obtain ⟨b1, b2⟩ := box_true br3 KK (by omega)
  exact ⟨_, res4 _ _ _ _ rfl b1, rfl, b2.below (Nat.le_refl _) (fun _ _ e => e)⟩

set_option maxRecDepth 100000 in
set_option maxHeartbeats 8000000 in
theorem walk_yes (sp : Int) (v : Value) (zs : List Int) (w : World) (hT : TabAt w) (hz : InZ w v zs) (hl : zs.length ≤ 17592186044000) (hfit : ∀ j (h : j < zs.length), fitsI zs[j]) (hd : ¬ depI zs.length < 0) :
    Calls Tryd.prog 3 #[v, .int .i64 sp] w fun e w' => Post w e w' := by
  obtain ⟨so, cap, rfl, -⟩ := hz.form
  have hM := fun W (k : Keeps w W (fun _ => False)) => made_yes (.slice so zs.length cap) zs W (hT.keeps k) (hz.keeps k) hl hfit hd
  have HC := hide (cells_of hz)
  obtain ⟨-, -, -, -, h64, h1⟩ := depI_yes hd
  clear hz hT hfit hd hl
  refine (callsIn_wide (n := 8)).1 ?_
  refine callsIn_of_wp_marks Tryd.func3 rfl trivial ?_ rfl
  simp only [Tryd.ntmps3, List.size_toArray, List.length_cons, List.length_nil, Nat.reduceAdd, Nat.reduceSub, Array.replicate_succ, Array.replicate_zero, List.push_toArray, List.append_toArray, List.nil_append, List.cons_append]
  rw [wpIn_wide]
  go_wp2_with fail
  refine alloc3 (P := fun W => Calls _ _ _ W _) fun WA bo bs br hzA KA => ?_
  (with_reducible refine (hM _ KA).mono ?_)
  rintro e w2 ⟨p, off, D, d, rfl, hMd⟩
  have K2 := hMd.dir.own.keeps
  have bo2 := K2.blk bo
  have bs2 := K2.blk bs
  have br2 := K2.blk br
  have HK2 := hide (KA.trans K2 (fun _ _ e => e))
  have HDir := hide hMd.dir
  have hlt2 : w.heap.size + 3 ≤ w2.heap.size := by have := K2.size; omega
  clear hM hMd K2 bo bs br KA hzA
  go_wp2_with fail
  refine start6 (P := fun W => Calls _ _ _ W _) fun W6 g0 g1 g2 g3 g4 g5 hs6 k6 => ?_
  generalize hsM : w2.heap.size = M at hs6 hlt2 g0 g1 g2 g3 g4 g5 ⊢
  simp only [Nat.add_assoc, Nat.reduceAdd] at br2 ⊢
  (with_reducible refine (dtab_call p off D W6).mono ?_)
  rintro e W7 ⟨rfl, hW7⟩
  have K7 : Keeps W6 W7 (fun _ => False) := by rw [hW7]; exact (Keeps.refl _ _).alloc _
  have g6 : DirB W7 (M + 6) p off D := by rw [hW7, ← hs6]; exact heap_alloc_new _ _
  have hs7 : W7.heap.size = M + 7 := by rw [hW7]; simp; omega
  have H0 : Hid (∀ r, TB w2 ((W7.alloc (.deferred (some []))).alloc (.loop r)) M p off D (.slice none 0 0) [] 0 0 (-1) false) := fun r => by
    have kr : Keeps W7 ((W7.alloc (.deferred (some []))).alloc (.loop r)) (fun _ => False) := ((Keeps.refl _ _).alloc _).alloc _
    have k67 := K7.trans kr (fun _ _ e => e)
    exact ⟨k67.blk g0, k67.blk g1, k67.blk g2, k67.blk g3, k67.blk g4, k67.blk g5, kr.blk g6, World.ownsRow_nil _ _ _ _, k6.trans k67 (fun _ _ e => e), hsM, by simp; omega⟩
  rw [hs6]
  clear hW7 K7 g0 g1 g2 g3 g4 g5 g6 k6
  have hnil := eq_nil_func
  go_wp2_with fail
  clear hnil
  refine range_tiedT (n := 8) (by omega) (gf := 18) (lb := #[.pointer (some ⟨M + 6, 0, none⟩)]) rfl (enters_of Tryd.func18 (by kernel_rfl) rfl) (dtab_each 7 (by omega) p (M + 6) off D zs HDir.out.len HDir.out.dep) (fun _ => rfl)
    (fun a x a' W => a' = { tmps := (((a.tmps.setIfInBounds 35 (.int .i64 (x.1 : Int))).setIfInBounds 36 (.int .i64 x.2)).setIfInBounds 14 (.int .i64 (x.1 : Int))).setIfInBounds 15 (.int .i64 x.2), defers := [] })
    (fun _ _ _ _ _ h _ => h)
    (fun s W => s ≤ zs.length ∧ ∃ (v : Value) (n : Nat), n ≤ s ∧ (1 ≤ s → 1 ≤ n) ∧ Hid (TB w2 W M p off D v (zs.take (s - 1)) (lastA zs s) (n : Int) ((s : Int) - 1) false))
    (TX w2 M p off D zs)
    ?hR ?hI ?hIp ?hXp ?h0
    (fun W => ∃ (v : Value) (j n : Nat) (la tl : Int) (st : Bool), j ≤ zs.length ∧ 1 ≤ n ∧ (st = true ∨ (st = false ∧ ∀ k, j ≤ k → k < zs.length → zs.getD k 0 = la)) ∧ Hid (TB w2 W M p off D v (zs.take j) la (n : Int) tl st))
    ?tail ?hassign ?hbody ?hdone ?hstop
  case hR =>
    rintro s V ⟨hs, v, n, hn, hn1, HB⟩
    exact ⟨⟨_, _, _, HDir.out.stay HB.out.keep⟩, HB.out.q⟩
  case hI =>
    rintro s V V' ⟨hs, v, n, hn, hn1, HB⟩ k
    exact ⟨hs, v, n, hn, hn1, HB.out.stay k⟩
  case hIp =>
    rintro s V r o ⟨hs, v, n, hn, hn1, HB⟩ hr
    rw [hs7] at hr ⊢
    exact ⟨hs, v, n, hn, hn1, HB.out.put r hr o⟩
  case hXp =>
    rintro c V r o ⟨hc, v, j, la, tl, n, hj, hn1, HB⟩ hr
    rw [hs7] at hr ⊢
    exact ⟨hc, v, j, la, tl, n, hj, hn1, HB.out.put r hr o⟩
  case h0 => exact fun r => ⟨Nat.zero_le _, _, 0, Nat.le_refl _, fun h => absurd h (by omega), H0.out r⟩
  case hdone =>
    rintro s W hE ⟨hs, v, n, hn, hn1, HB⟩
    have hs1 : 1 ≤ s := by
      rcases Nat.eq_zero_or_pos s with e | e
      · exact absurd (Or.inl rfl) (hE 0 (by omega) (by omega))
      · exact e
    refine ⟨v, s - 1, n, lastA zs s, (s : Int) - 1, false, by omega, hn1 hs1, Or.inr ⟨rfl, fun k h1 h2 => ?_⟩, HB⟩
    have := norun_eq hE hs1 k h1 h2
    rw [this]
    simp only [lastA]
    rw [if_neg (by omega)]
  case hstop =>
    rintro c W ⟨rfl, v, j, la, tl, n, hj, hn1, HB⟩
    refine ⟨⟨v, j, n, la, tl, true, hj, hn1, Or.inl rfl, HB⟩, fun a' W' h => ?_⟩
    rw [wpIn_wide]
    exact wp_exit h
  case hassign =>
    rintro ⟨i, z⟩ s U K' ⟨hs, v, n, hn, hn1, HB⟩ hK'
    have hK2 := hide hK'
    clear hK'
    gi_wp2_with fail
    refine hK2.out _ _ (Keeps.refl _ _) ?_
    simp only [List.setIfInBounds_toArray, List.set_cons_zero, List.set_cons_succ]
  case hbody =>
    rw [hs7]
    clear hs7
    rintro ⟨i, z⟩ s a' W ⟨hs, v, n, hn, hn1, HB⟩ rfl ⟨q1, q2, q3, q4, q5⟩
    dsimp only at q1 q2 q3 q4 q5
    have HK0 : Hid (TK W w2 W M p off D v (zs.take (s - 1)) (lastA zs s) (n : Int) ((s : Int) - 1) false) := ⟨HB.out, fun _ _ => rfl⟩
    have hcs : (i = 0 ∧ n = 0 ∧ s = 0) ∨ (1 ≤ i ∧ 1 ≤ n ∧ 1 ≤ s ∧ (z == lastA zs s) = false) := by
      rcases Nat.eq_zero_or_pos s with e | e
      · refine Or.inl ⟨?_, by omega, e⟩
        rcases Nat.eq_zero_or_pos i with e' | e'
        · exact e'
        · exact absurd (Or.inl rfl) (q5 0 (by omega) e')
      · refine Or.inr ⟨by omega, hn1 e, e, ?_⟩
        have hr := q4.resolve_left (by omega)
        have hq := norun_eq (i := i) q5 e (i - 1) (by omega) (by omega)
        rw [hq] at hr
        simp only [lastA, if_neg (show ¬ s = 0 by omega), beq_eq_false_iff_ne, ne_eq]
        rw [q3]
        exact hr
    have hfill : Hid (∀ j, s - 1 ≤ j → j < i → zs.getD j 0 = lastA zs s) := fun j h1 h2 => by
      have e : 1 ≤ s := by
        rcases hcs with h | h
        · omega
        · exact h.2.2.1
      rw [norun_eq q5 e j h1 h2]
      simp only [lastA, if_neg (show ¬ s = 0 by omega)]
    have hlt : (zs.take (s - 1)).length = s - 1 := by rw [List.length_take]; omega
    obtain ⟨sv, cv, rfl, -⟩ := len_tb HB.out
    rw [hlt] at HB HK0
    have z1 : ¬ (i : Int) ≤ (s : Int) - 1 := by omega
    have z2 : ¬ (i : Int) < ((s - 1 : Nat) : Int) := by omega
    have z3 : ¬ (zs.length : Int) ≤ (i : Int) := by omega
    have hj0 : s - 1 ≤ i := by omega
    have Hz := hide q3
    have Hls := hide (lastA_succ zs i)
    have hn64 : n ≤ 64 := by omega
    simp only [List.setIfInBounds_toArray, List.set_cons_zero, List.set_cons_succ]
    rcases hcs with ⟨rfl, rfl, rfl⟩ | ⟨y1, y2, y3, y4⟩
    · have HK : Hid (TK W w2 W M p off D (.slice sv 0 cv) (zs.take 0) (lastA zs 0) 0 (-1) false) := HK0
      have Hni : Hid (0 ≤ 0) := Nat.le_refl 0
      clear hn hn1 q1 hs z1 z2 z3 HK0 hlt HB q4 q5 q3
      rw [show ((0 : Nat) : Int) = 0 from rfl]
      generalize lastA zs 0 = la at *
      have c8 := HK.out.tb.l.cell
      have c10 := HK.out.tb.n.cell
      have c9 := HK.out.tb.la.cell
      have c11 := HK.out.tb.tl.cell
      have c12 := HK.out.tb.st.cell
      have c2 := (one_cell (HK.out.tb.keep.blk bo2)).1
      have z3 : ¬ (zs.length : Int) ≤ 0 := by omega
      have z4 : ¬ zs = [] := fun e => by rw [e] at h1; simp at h1
      have z5 : ¬ zs.length = 0 := by omega
      gi_wp2_with fail
      clear c10 c9 c11 c12 c2 z3 z4 z5
      gi_loopw [] (fun wr => wr = W) (fun wr => 0)
      case atStart => rfl
      case round =>
          subst hrel
          have HK1 := hide (HK.out.set_tl 0)
          have HK2 := hide (HK1.out.set_la z)
          have HK3 := hide (HK2.out.set_n 1)
          have a1 := HK.out.tb.tl.cell
          have a2 := HK.out.tb.tl.frozen
          have a3 := HK1.out.tb.la.cell
          have a4 := HK1.out.tb.la.frozen
          have a5 := HK2.out.tb.n.cell
          have a6 := HK2.out.tb.n.frozen
          have a7 := HK3.out.tb.n.cell
          have a8 := (one_cell (HK3.out.tb.keep.blk bs2)).1
          by_cases hsp : 1 = sp
          · have HK4 := hide (HK3.out.set_st true)
            have a9 := HK3.out.tb.st.cell
            have a10 := HK3.out.tb.st.frozen
            subst hsp
            clear HK1 HK2 HK3 HK
            gi_wp2_with fail
            exact ⟨HK4.out.kd, rfl, _, 0, z, 0, 1, by omega, by omega, HK4.out.tb⟩
          · have hsp' : (1 == sp) = false := by simp [hsp]
            have HF : Hid (TB w2 (((wr.setCell ⟨M + 4, 0, none⟩ (.int .i64 0)).setCell ⟨M + 2, 0, none⟩ (.int .i64 z)).setCell ⟨M + 3, 0, none⟩ (.int .i64 (1))) M p off D (.slice sv 0 cv) (zs.take (0 + 1 - 1)) (lastA zs (0 + 1)) ((1 : Nat) : Int) (((0 + 1 : Nat) : Int) - 1) false) := by
              rw [Hls.out, ← Hz.out, show (((0 + 1 : Nat) : Int) - 1) = 0 by omega, show ((1 : Nat) : Int) = 1 by omega]
              exact HK3.out.tb
            have Hkd := hide HK3.out.kd
            clear HK1 HK2 HK3 HK
            gi_wp2_with fail
            exact ⟨Hkd.out, 0 + 1, rfl, by omega, _, 1, by have := Hni.out; omega, fun _ => by omega, HF⟩
    · have Hni : Hid (n ≤ i) := hide (by omega)
      have e1 : ((i : Int) == 0) = false := by simp; omega
      have e2 : (0 : Int) < (n : Int) := by omega
      have e3 : (0 : Int) < (i : Int) := by omega
      have e4 : ((n : Int) == 0) = false := by simp; omega
      generalize lastA zs s = la at *
      generalize s - 1 = j0 at *
      generalize (s : Int) - 1 = tl at *
      have c8 := HK0.out.tb.l.cell
      have c10 := HK0.out.tb.n.cell
      have c9 := HK0.out.tb.la.cell
      have c11 := HK0.out.tb.tl.cell
      have c12 := HK0.out.tb.st.cell
      have c2 := (one_cell (HK0.out.tb.keep.blk bo2)).1
      clear q3 q4 q5 hlt HB hn hn1 q1 hs y1 y2 y3
      gi_wp2_with fail
      clear c8 c9 c10 c11 c12 c2 z1 z2 z3 e1 e2 e3 e4 y4
      gi_loopw [] (fun wr => ∃ (v : Value) (j : Nat), j0 ≤ j ∧ j ≤ i ∧ Hid (TK W w2 wr M p off D v (zs.take j) la (n : Int) tl false)) (fun wr => i - lenAt wr (M + 1))
      case atStart => exact ⟨_, j0, Nat.le_refl _, hj0, HK0⟩
      case round =>
        obtain ⟨v, j, hj1, hj2, HK⟩ := hrel
        clear HK0
        have hlj : (zs.take j).length = j := by rw [List.length_take]; omega
        obtain ⟨sv', cv', rfl, hln⟩ := len_tb HK.out.tb
        rw [hlj] at hln HK
        have c8 := HK.out.tb.l.cell
        have c9 := HK.out.tb.la.cell
        have Hln := hide hln
        clear hln
        by_cases hji : j < i
        · have hji' : (j : Int) < (i : Int) := by omega
          obtain ⟨g, cp, w8, hap, l8, f8, hK8⟩ := HK.out.push la (by omega)
          rw [hlj] at hap hK8
          rw [take_more (by omega) (hfill.out j hj1 hji)] at hK8
          have HK8 := hide hK8
          clear hK8 HK hlj
          gi_wp2_with (first | (gi_at_builtin; have _t := hap; refine app_runIn _ rfl (.tmp 84) (.tmp 86) 22 rfl rfl rfl hap ?_; clear hap))
          go_roundw
          case rel => exact ⟨_, j + 1, by omega, by omega, HK8⟩
          case measure =>
            obtain ⟨-, -, -, e9⟩ := len_tb HK8.out.tb
            rw [e9, Hln.out, List.length_take]
            omega
        · have hji' : ¬ (j : Int) < (i : Int) := by omega
          obtain rfl : j = i := by omega
          have HK1 := hide (HK.out.set_tl (j : Int))
          have HK2 := hide (HK1.out.set_la z)
          have HK3 := hide (HK2.out.set_n ((n : Int) + 1))
          have a1 := HK.out.tb.tl.cell
          have a2 := HK.out.tb.tl.frozen
          have a3 := HK1.out.tb.la.cell
          have a4 := HK1.out.tb.la.frozen
          have a5 := HK2.out.tb.n.cell
          have a6 := HK2.out.tb.n.frozen
          have a7 := HK3.out.tb.n.cell
          have a8 := (one_cell (HK3.out.tb.keep.blk bs2)).1
          by_cases hsp : ((n : Int) + 1) = sp
          · have HK4 := hide (HK3.out.set_st true)
            have a9 := HK3.out.tb.st.cell
            have a10 := HK3.out.tb.st.frozen
            subst hsp
            clear HK1 HK2 HK3 HK
            gi_wp2_with fail
            exact ⟨HK4.out.kd, rfl, _, j, z, (j : Int), (n + 1), by omega, by omega, by rw [show (((n + 1) : Nat) : Int) = ((n : Int) + 1) by omega]; exact HK4.out.tb⟩
          · have hsp' : (((n : Int) + 1) == sp) = false := by simp [hsp]
            have HF : Hid (TB w2 (((wr.setCell ⟨M + 4, 0, none⟩ (.int .i64 (j : Int))).setCell ⟨M + 2, 0, none⟩ (.int .i64 z)).setCell ⟨M + 3, 0, none⟩ (.int .i64 (((n : Int) + 1)))) M p off D (.slice sv' j cv') (zs.take (j + 1 - 1)) (lastA zs (j + 1)) (((n + 1) : Nat) : Int) (((j + 1 : Nat) : Int) - 1) false) := by
              rw [Hls.out, ← Hz.out, show (((j + 1 : Nat) : Int) - 1) = (j : Int) by omega, show (((n + 1) : Nat) : Int) = ((n : Int) + 1) by omega]
              exact HK3.out.tb
            have Hkd := hide HK3.out.kd
            clear HK1 HK2 HK3 HK
            gi_wp2_with fail
            exact ⟨Hkd.out, j + 1, rfl, by omega, _, (n + 1), by have := Hni.out; omega, fun _ => by omega, HF⟩
  case tail =>
    rintro W ⟨v, j, n, la, tl, st, hj, hn, hst, HB⟩ hdf
    rw [hs7] at hdf ⊢
    clear hs7
    have hlt : (zs.take j).length = j := by rw [List.length_take]; omega
    obtain ⟨sv, cv, rfl, -⟩ := len_tb HB.out
    rw [hlt] at HB
    have HK0 : Hid (TK W w2 W M p off D (.slice sv j cv) (zs.take j) la (n : Int) tl st) := ⟨HB.out, fun _ _ => rfl⟩
    have c10 := HB.out.n.cell
    have hn' : ((n : Int) == 0) = false := by simp; omega
    have Hdf := hide hdf
    clear hlt HB hdf
    go_wp2_with fail
    clear c10 hn'
    go_loopw [] (fun wr => ∃ (v : Value) (j' : Nat), j ≤ j' ∧ j' ≤ zs.length ∧ Hid (TK W w2 wr M p off D v (zs.take j') la (n : Int) tl st)) (fun wr => zs.length - lenAt wr (M + 1))
    case atStart => exact ⟨_, j, Nat.le_refl _, hj, HK0⟩
    case round =>
      obtain ⟨v, j', hj1, hj2, HK⟩ := hrel
      clear HK0
      have hlj : (zs.take j').length = j' := by rw [List.length_take]; omega
      obtain ⟨sv', cv', rfl, hln⟩ := len_tb HK.out.tb
      rw [hlj] at hln HK
      have c8 := HK.out.tb.l.cell
      have c9 := HK.out.tb.la.cell
      have c12 := HK.out.tb.st.cell
      have c2 := (one_cell (HK.out.tb.keep.blk bo2)).1
      have Hln := hide hln
      clear hln
      rcases (show (st = false ∧ j' < zs.length ∧ ∀ k, j ≤ k → k < zs.length → zs.getD k 0 = la) ∨ st = true ∨ (st = false ∧ j' = zs.length) by
        rcases hst with e | ⟨e, f⟩
        · exact Or.inr (Or.inl e)
        · rcases Nat.lt_or_ge j' zs.length with q | q
          · exact Or.inl ⟨e, q, f⟩
          · exact Or.inr (Or.inr ⟨e, by omega⟩)) with ⟨rfl, hlt, hf⟩ | rfl | ⟨rfl, hjz⟩
      · have hlt' : (j' : Int) < (zs.length : Int) := by omega
        obtain ⟨g, cp, w8, hap, l8, f8, hK8⟩ := HK.out.push la (by omega)
        rw [hlj] at hap hK8
        rw [take_more hlt (hf j' hj1 hlt)] at hK8
        have HK8 := hide hK8
        clear hK8 HK hlj hf hst
        go_wp2_with (first | (at_builtin; have _t := hap; refine app_run _ rfl (.tmp 106) (.tmp 108) 22 rfl rfl rfl hap ?_; clear hap))
        go_roundw
        case rel => exact ⟨_, j' + 1, by omega, by omega, HK8⟩
        case measure =>
          obtain ⟨-, -, -, e9⟩ := len_tb HK8.out.tb
          rw [e9, Hln.out, List.length_take]
          omega
      all_goals
        try have hge : ¬ (j' : Int) < (zs.length : Int) := by omega
        try have hee := hide (show ((j' : Int) == (zs.length : Int)) = true by simp; omega)
        try clear hjz
        go_wp2_with fail
        clear c8 c9 c12 c2 Hln
        go_loopw [112] (fun vm wq => ∃ m : Nat, vm = .int .i64 (m : Int) ∧ m ≤ j' ∧ wr = wq) (fun vm _ => j' - (intOf vm).toNat)
        case atStart => exact ⟨0, rfl, Nat.zero_le _, rfl⟩
        case round =>
          obtain ⟨m, rfl, hm, rfl⟩ := hrel
          have c8 := HK.out.tb.l.cell
          have c2 := (one_cell (HK.out.tb.keep.blk bo2)).1
          by_cases hml : m < j'
          · have hml' : (m : Int) < (j' : Int) := by omega
            have hmz : m < zs.length := by omega
            have hmz' : (m : Int) < (zs.length : Int) := by omega
            obtain ⟨b, o, rfl, hcz⟩ := HC.out m hmz
            have hc3 := (HK2.out.trans HK.out.tb.keep (fun _ _ e => e)).cellK hcz
            obtain ⟨g, hg, hcy⟩ := row_at HK.out.tb (by rw [List.length_take]; omega) (show m < (zs.take j').length by rw [List.length_take]; omega)
            subst hg
            rw [List.getElem_take] at hcy
            generalize zs[m] = z at *
            clear HK
            go_wp2_with fail
            go_roundw
            case rel => exact ⟨m + 1, by go_num, by omega, by first | rfl | trivial⟩
            case measure => simp [intOf]; omega
          · have hml' : ¬ (m : Int) < (j' : Int) := by omega
            obtain rfl : m = j' := by omega
            have c12 := HK.out.tb.st.cell
            have br3 := HK.out.tb.keep.blk br2
            obtain ⟨cr, fr⟩ := one_cell br3
            have hdf3 : Hid (_) := hide (((HK.out.kd (M + 7) (Or.inl rfl))).trans Hdf.out)
            have hkk := hide (HK2.out.trans HK.out.tb.keep (fun _ _ e => e))
            have hsz := HK.out.tb.size
            have hbr := hide br3
            have c8b := c8
            clear br3 HK
            go_wp2_with fail
            try rw [hee.out]
            obtain ⟨b1, b2⟩ := box_true hbr.out hkk.out (by omega)
            have hd2 := set_blk (l := w.heap.size + 2) (v := .bool true) hdf3.out (by omega)
            have b3 := put_blk (l := M + 7) (o := .deferred none) ((show Boxed wr (w.heap.size + 2) 4 (.bool false) from hbr.out).set (.bool true)) (by omega)
            refine ⟨by simp, .inl ⟨_, _, rfl, run_takeDeferred hd2, ?_⟩⟩
            refine ⟨_, res4 _ _ _ _ rfl (one_cell b3).1, rfl, ?_⟩
            have kp : Keeps w ((wr.setCell ⟨w.heap.size + 2, 0, none⟩ (.bool true)).putObj (M + 7) (.deferred none)) (fun _ => False) := b2.trans ((Keeps.ofGrown (grownBy_putObj' _ (M + 7) _)).mono (fun i _ e => by cases e; rfl) : Keeps _ _ (fun i => i = M + 7)) (fun i hi e => by omega)
            exact kp.below (Nat.le_refl _) (fun _ _ e => e)
theorem walk (sp : Int) (v : Value) (zs : List Int) (w : World) (hT : TabAt w) (hz : InZ w v zs) (hl : zs.length ≤ 17592186044000) (hfit : ∀ j (h : j < zs.length), fitsI zs[j]) :
    Calls Tryd.prog 3 #[v, .int .i64 sp] w fun e w' => Post w e w' := by
  by_cases hd : depI zs.length < 0
  · exact walk_no sp v zs w hz hl hd
  · exact walk_yes sp v zs w hT hz hl hfit hd
end dirTables
end Go.Proofs.YtiacmlcoadcefaaDoor
