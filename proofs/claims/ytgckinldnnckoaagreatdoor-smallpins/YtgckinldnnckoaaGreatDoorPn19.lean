import Derived.Test.YtgckinldnnckoaaGreatDoorPn18
/-
  small's law: bench's walk, where a small one is made.
-/
namespace Go.Proofs.YtgckinldnnckoaaGreatDoor
open Go.RowKit Go.Shelf Ly Ct
set_option linter.unusedVariables false
theorem append_runS {P : Program} (w : World) {ops : Array Oper} {rest : List Oper} {o : Oper} {a : Act} {Q : Exit → Act → World → Prop}
    (hgd : o.guard = none) (s x : Operand) (t : TypeId) (hop : o.op = Op.call { callee := Callee.builtin Builtin.append, args := #[s, x], argTypes := #[t, t] }) {v u v' : Value} {w' : World} (hs : a.eval s = v) (hx : a.eval x = u)
    (hrun : (Builtin.append_ #[t, t] o.type #[v, u]).run P w = .ok v' w') (hK : wpList P ops Q rest (a.put o.dst v') w') : wpList P ops Q (o :: rest) a w := by
  refine wpList_plain hgd fun K hK' => ?_
  unfold Oper.wp
  simp [execOp, hop, resolve, invoke, builtin, hs, hx, hrun, Result.andThen]
  exact hK' _ _ hK
theorem fourS {W : World} {q : Nat} {a0 a1 a2 a3 : Value} {t : TypeId} (h : W.heap[q]? = some (.cells #[a0, a1, a2, a3] t)) : W.cell? ⟨q, 0, none⟩ = some a0 ∧ W.cell? ⟨q, 1, none⟩ = some a1 ∧ W.cell? ⟨q, 2, none⟩ = some a2 ∧ W.cell? ⟨q, 3, none⟩ = some a3 := by
  simp [World.cell?, h]
theorem nineS {W : World} {q : Nat} {a0 a1 a2 a3 a4 a5 a6 a7 a8 : Value} {t : TypeId} (h : W.heap[q]? = some (.cells #[a0, a1, a2, a3, a4, a5, a6, a7, a8] t)) : W.cell? ⟨q, 0, none⟩ = some a0 ∧ W.cell? ⟨q, 1, none⟩ = some a1 ∧ W.cell? ⟨q, 2, none⟩ = some a2 ∧ W.cell? ⟨q, 3, none⟩ = some a3 ∧ W.cell? ⟨q, 4, none⟩ = some a4 ∧ W.cell? ⟨q, 5, none⟩ = some a5 ∧ W.cell? ⟨q, 6, none⟩ = some a6 ∧ W.cell? ⟨q, 7, none⟩ = some a7 ∧ W.cell? ⟨q, 8, none⟩ = some a8 := by
  simp [World.cell?, h]
theorem elevenS {W : World} {q : Nat} {a0 a1 a2 a3 a4 a5 a6 a7 a8 a9 a10 : Value} {t : TypeId} (h : W.heap[q]? = some (.cells #[a0, a1, a2, a3, a4, a5, a6, a7, a8, a9, a10] t)) : W.cell? ⟨q, 0, none⟩ = some a0 ∧ W.cell? ⟨q, 1, none⟩ = some a1 ∧ W.cell? ⟨q, 2, none⟩ = some a2 ∧ W.cell? ⟨q, 3, none⟩ = some a3 ∧ W.cell? ⟨q, 4, none⟩ = some a4 ∧ W.cell? ⟨q, 5, none⟩ = some a5 ∧ W.cell? ⟨q, 6, none⟩ = some a6 ∧ W.cell? ⟨q, 7, none⟩ = some a7 ∧ W.cell? ⟨q, 8, none⟩ = some a8 ∧ W.cell? ⟨q, 9, none⟩ = some a9 ∧ W.cell? ⟨q, 10, none⟩ = some a10 := by
  simp [World.cell?, h]


set_option maxRecDepth 100000 in
set_option maxHeartbeats 8000000 in
theorem sbench_yes (lim : Nat) (LI : Int) (hLI : LI = (lim : Int)) (fs ts : Value) (a : Option Addr) (cap seed : Nat) (os : List Oc.Ovr) (l : Lay) (w : World) (hv : validB l = true) (hl1 : classN (32 + l.g.toNat) ≤ lim) (hl2 : lim ≤ 2097152) (hPar : ∀ W, Keeps w W (fun _ => False) → Calls Tryz.prog 13 #[fs] W fun r w' => r = .returned (.tuple #[.agg #[.int .i64 l.k, .int .i64 l.e, .int .i64 l.a, .int .i64 l.b, .int .i64 l.c, .int .i64 l.eo, .int .i64 l.bo, .int .i64 l.s, .int .i64 l.g], .int .i64 0]) ∧ Keeps W w' (fun _ => False)) (hO : Oc.RowO w (.slice a os.length cap) os) (h0 : Oc.scanN os os.length = 0) :
    Calls Tryz.prog 7 #[planV fs a os.length cap seed ts, .int .i64 LI] w fun e w' => SBench lim w l seed os e w' := by
  subst hLI
  have hfew := hide (over_few h0)
  have hRn : Hid (∀ W, Keeps w W (fun _ => False) → Calls Tryz.prog 25 #[.slice a os.length cap] W (Oc.RNewPost W os)) := fun W k => Oc.rnew_any a cap os W (hO.kp (k.below (Nat.le_refl _) (fun _ _ e => e)))
  have hOv : Hid (∀ W, Keeps w W (fun _ => False) → Oc.RowO W (.slice a os.length cap) os) := fun W k => hO.kp (k.below (Nat.le_refl _) (fun _ _ e => e))
  have hNew : Hid (∀ W, Calls Tryz.prog 26 #[.int .i64 (lim : Int)] W fun e w' => ∃ p, e = .returned (.tuple #[.pointer (some ⟨p, 0, none⟩), .int .i64 0]) ∧ Own W w' p (fun _ => False) (AD.fresh lim)) := fun W => own_new lim hl2
  have hNum := fun x W => snum_any x W
  have hSn : Hid (∀ {W : World} {p : Nat} {F : Nat → Prop}, Arena W p F (AD.fresh lim) → (∀ k, F k → k < W.heap.size) → _) := fun hA hFl => snew_fresh hv hl1 hl2 hA hFl
  have H0 := hide h0
  clear hO h0 hv hl1 hl2
  unfold planV SBench
  go_enter Tryz.func7, Tryz.ntmps7
  go_wp2_with fail
  refine alloc1 (P := fun W => Calls _ _ _ W _) fun W0 hb hz K0 => ?_
  (with_reducible refine (hPar _ K0).mono ?_)
  rintro r w1 ⟨rfl, k1⟩
  have k2 : Keeps w1 (w1.alloc (.cells #[.int .i64 l.k, .int .i64 l.e, .int .i64 l.a, .int .i64 l.b, .int .i64 l.c, .int .i64 l.eo, .int .i64 l.bo, .int .i64 l.s, .int .i64 l.g] 38)) (fun _ => False) := (Keeps.refl _ _).alloc _
  have hb2 := k2.blk (k1.blk hb)
  have hl2 := heap_alloc_new w1 (.cells #[.int .i64 l.k, .int .i64 l.e, .int .i64 l.a, .int .i64 l.b, .int .i64 l.c, .int .i64 l.eo, .int .i64 l.bo, .int .i64 l.s, .int .i64 l.g] 38)
  have q1 : (w1.alloc (.cells #[.int .i64 l.k, .int .i64 l.e, .int .i64 l.a, .int .i64 l.b, .int .i64 l.c, .int .i64 l.eo, .int .i64 l.bo, .int .i64 l.s, .int .i64 l.g] 38)).cell? ⟨w.heap.size, 1, none⟩ = some (.slice a os.length cap) := by simp only [World.cell?, hb2]; rfl
  have KK := hide ((K0.trans k1 (fun _ _ e => e)).trans k2 (fun _ _ e => e))
  have H2 := hide (And.intro hb2 hl2)
  clear hPar k1 k2 K0 hb hb2 hz hl2
  go_wp2_with fail
  generalize w1.alloc (.cells #[.int .i64 l.k, .int .i64 l.e, .int .i64 l.a, .int .i64 l.b, .int .i64 l.c, .int .i64 l.eo, .int .i64 l.bo, .int .i64 l.s, .int .i64 l.g] 38) = W2 at *
  generalize w1.heap.size = B1 at *
  (with_reducible refine (hRn.out _ KK.out).mono ?_)
  rintro r w3 ⟨k3, ⟨hs, rfl⟩ | ⟨hs, pp, rfl, -⟩⟩
  · exact absurd H0.out hs
  have K3 := hide (KK.out.trans (below_keeps k3) (fun _ _ e => e))
  have H3 := hide (And.intro ((below_keeps k3).blk H2.out.1) ((below_keeps k3).blk H2.out.2))
  clear KK k3 q1 hRn hs H2
  go_wp2_with fail
  (with_reducible refine (hNew.out _).mono ?_)
  rintro r w4 ⟨p, rfl, hO4⟩
  have Z3 := hide K3.out.size
  have K4 := hide (K3.out.trans hO4.keeps (fun _ _ e => e))
  have H4 := hide (And.intro (hO4.keeps.blk H3.out.1) (hO4.keeps.blk H3.out.2))
  have HO4 := hide hO4
  have HB3 := hide (And.intro (heap_lt H3.out.1) (heap_lt H3.out.2))
  have hb4 := H4.out.1
  have q4 : w4.cell? ⟨w.heap.size, 1, none⟩ = some (.slice a os.length cap) := by simp only [World.cell?, hb4]; rfl
  have q4' : (w4.alloc (.cells #[] 126)).cell? ⟨w.heap.size, 1, none⟩ = some (.slice a os.length cap) := by
    have := ((Keeps.refl w4 (fun _ => False)).alloc (.cells #[] 126)).blk hb4
    simp only [World.cell?, this]
    rfl
  obtain ⟨a5, c5, w5, r5, h5, k5⟩ := Oc.append_overs w4 (hOv.out _ K4.out) (by have := hfew.out; omega)
  clear hO4 hNew hb4 H3 K3
  generalize hB0 : w.heap.size = B0 at *
  go_wp2_with (first | (at_builtin; have _t := r5; refine append_runS _ rfl (.tmp 41) (.tmp 43) 23 rfl rfl rfl r5 ?_; clear r5))
  (with_reducible refine (Oc.new_at a5 c5 os w5 h5).mono ?_)
  rintro r w6 ⟨k6, ⟨hs, rfl⟩ | ⟨-, rfl, hOr⟩⟩
  · exact absurd H0.out hs
  have k46 := below_keeps (k5.trans k6)
  have own6 : Own w w6 p (fun k => k < w3.heap.size ∨ k = w5.heap.size + 1 ∨ k = w5.heap.size) (AD.fresh lim) := by
    have z5 := k5.size
    have z3 := Z3.out
    refine ⟨(HO4.out.arena.mono (fun i hi e => ⟨Nat.le_trans (show w.heap.size ≤ w3.heap.size by omega) e.1, fun x => ?_⟩)).keeps k46 (fun _ _ _ e => e), K4.out.trans k46 (fun _ _ e => e)⟩
    have := e.1
    omega
  have hn6 : w3.heap.size ≤ w6.heap.size := Nat.le_trans HO4.out.keeps.size k46.size
  have hq6 := heap_lt hOr.1
  have hm6 := hOr.2.lt
  have hqw : w.heap.size ≤ w5.heap.size := Nat.le_trans K4.out.size k5.size
  have hb6 := k46.blk H4.out.1
  have hl6 := k46.blk H4.out.2
  have HX := hide (And.intro own6 (And.intro hn6 (And.intro hq6 (And.intro hm6 (And.intro hOr hqw)))))
  have H6 := hide (And.intro hb6 hl6)
  have hS6 := hSn.out own6.here (fun k q => q.2)
  obtain ⟨l0, l1, l2, l3, l4, l5, l6, l7, l8⟩ := nineS hl6
  clear K4 H4 k46 own6 hn6 hq6 hm6 hOr hqw hb6 hl6 k5 k6 h5 HO4 Z3 hOv hSn q4 q4'
  generalize w5.heap.size = Q at *
  go_wp2_with fail
  (with_reducible refine (hNum _ _).mono ?_)
  rintro r wx ⟨rfl, rfl⟩
  go_wp2_with fail
  (with_reducible refine (hNum _ _).mono ?_)
  rintro r wy ⟨rfl, rfl⟩
  go_wp2_with fail
  (with_reducible refine hS6.mono ?_)
  rintro r W7 ⟨rfl, d7, hT7, hF7, hs7, hD7, hone7⟩
  have b7 := hT7.2.blkS H6.out.1 (fun q => q.1.2 (Or.inl HB3.out.1))
  have c7 := hT7.2.blkS H6.out.2 (fun q => q.1.2 (Or.inl HB3.out.2))
  have k78 : Keeps W7 (W7.alloc (Obj.cells #[.pointer (some ⟨p, 0, none⟩), .int .i64 l.k, .int .i64 l.e, .int .i64 l.a, .int .i64 l.b, .int .i64 l.c, .int .i64 l.eo, .int .i64 l.bo, .int .i64 l.s, .int .i64 l.g, .int .i64 (16 : Int)] 41)) (fun _ => False) := (Keeps.refl _ _).alloc _
  have b8 := k78.blk b7
  have c8 := k78.blk c7
  have s8 := heap_alloc_new W7 (Obj.cells #[.pointer (some ⟨p, 0, none⟩), .int .i64 l.k, .int .i64 l.e, .int .i64 l.a, .int .i64 l.b, .int .i64 l.c, .int .i64 l.eo, .int .i64 l.bo, .int .i64 l.s, .int .i64 l.g, .int .i64 (16 : Int)] 41)
  have z8 : (W7.alloc (Obj.cells #[.pointer (some ⟨p, 0, none⟩), .int .i64 l.k, .int .i64 l.e, .int .i64 l.a, .int .i64 l.b, .int .i64 l.c, .int .i64 l.eo, .int .i64 l.bo, .int .i64 l.s, .int .i64 l.g, .int .i64 (16 : Int)] 41)).heap.size = W7.heap.size + 1 := World.size_alloc _ _
  have hfin : Hid (∀ W9, W9.heap[(W7.alloc (Obj.cells #[.pointer (some ⟨p, 0, none⟩), .int .i64 l.k, .int .i64 l.e, .int .i64 l.a, .int .i64 l.b, .int .i64 l.c, .int .i64 l.eo, .int .i64 l.bo, .int .i64 l.s, .int .i64 l.g, .int .i64 (16 : Int)] 41)).heap.size]? = some (.cells (benT p l (Q + 1) fs (.slice a os.length cap) seed ts) 46) → Keeps (W7.alloc (Obj.cells #[.pointer (some ⟨p, 0, none⟩), .int .i64 l.k, .int .i64 l.e, .int .i64 l.a, .int .i64 l.b, .int .i64 l.c, .int .i64 l.eo, .int .i64 l.bo, .int .i64 l.s, .int .i64 l.g, .int .i64 (16 : Int)] 41)) W9 (fun _ => False) → ∃ (b p2 q2 m2 : Nat) (d : AD) (X : Nat → Prop), Ending.returned (.tuple #[.pointer (some ⟨(W7.alloc (Obj.cells #[.pointer (some ⟨p, 0, none⟩), .int .i64 l.k, .int .i64 l.e, .int .i64 l.a, .int .i64 l.b, .int .i64 l.c, .int .i64 l.eo, .int .i64 l.bo, .int .i64 l.s, .int .i64 l.g, .int .i64 (16 : Int)] 41)).heap.size, 0, none⟩), .bool true, .bool true]) = .returned (.tuple #[.pointer (some ⟨b, 0, none⟩), .bool true, .bool true]) ∧ SB (1, 0, 0, lim) w b p2 l 16 q2 m2 os.length seed X (Oc.mapN os os.length) d hdS (fun _ => GC.zero) (fun _ => GC.zero) 0 W9 ∧ q2 ≠ b ∧ m2 ≠ b ∧ w.heap.size ≤ b) := fun W9 hb9 k9 => by
    obtain ⟨own6, hn6, hq6, hm6, hOr, hqw⟩ := HX.out
    exact ⟨_, p, Q + 1, Q, d7, _, rfl, sb_new own6 hn6 hq6 hm6 hOr (by omega) (by omega) hT7 hF7 hs7 hD7 hone7 (by omega) (k78.trans k9 (fun _ _ e => e)) hb9⟩
  obtain ⟨p0, p1, p2, p3⟩ := fourS b8
  obtain ⟨m0, m1, m2, m3, m4, m5, m6, m7, m8⟩ := nineS c8
  obtain ⟨t0, t1, t2, t3, t4, t5, t6, t7, t8, t9, t10⟩ := elevenS s8
  clear b7 c7 k78 z8 hT7 hF7 hs7 hD7 hone7 HX H6 HB3 hS6 l0 l1 l2 l3 l4 l5 l6 l7 l8 hB0
  go_wp2_with fail
  generalize W7.alloc (Obj.cells #[.pointer (some ⟨p, 0, none⟩), .int .i64 l.k, .int .i64 l.e, .int .i64 l.a, .int .i64 l.b, .int .i64 l.c, .int .i64 l.eo, .int .i64 l.bo, .int .i64 l.s, .int .i64 l.g, .int .i64 (16 : Int)] 41) = W8 at *
  generalize W7.heap.size = B8 at *
  have S0 : (fun w' : World => w'.cell? ⟨B0, 0, none⟩ = some (fs) ∧ w'.cell? ⟨B0, 1, none⟩ = some (.slice a os.length cap) ∧ w'.cell? ⟨B0, 2, none⟩ = some (.int .u64 (seed : Int)) ∧ w'.cell? ⟨B0, 3, none⟩ = some (ts) ∧ w'.cell? ⟨B1, 0, none⟩ = some (.int .i64 l.k) ∧ w'.cell? ⟨B1, 1, none⟩ = some (.int .i64 l.e) ∧ w'.cell? ⟨B1, 2, none⟩ = some (.int .i64 l.a) ∧ w'.cell? ⟨B1, 3, none⟩ = some (.int .i64 l.b) ∧ w'.cell? ⟨B1, 4, none⟩ = some (.int .i64 l.c) ∧ w'.cell? ⟨B1, 5, none⟩ = some (.int .i64 l.eo) ∧ w'.cell? ⟨B1, 6, none⟩ = some (.int .i64 l.bo) ∧ w'.cell? ⟨B1, 7, none⟩ = some (.int .i64 l.s) ∧ w'.cell? ⟨B1, 8, none⟩ = some (.int .i64 l.g) ∧ w'.cell? ⟨B8, 0, none⟩ = some (.pointer (some ⟨p, 0, none⟩)) ∧ w'.cell? ⟨B8, 1, none⟩ = some (.int .i64 l.k) ∧ w'.cell? ⟨B8, 2, none⟩ = some (.int .i64 l.e) ∧ w'.cell? ⟨B8, 3, none⟩ = some (.int .i64 l.a) ∧ w'.cell? ⟨B8, 4, none⟩ = some (.int .i64 l.b) ∧ w'.cell? ⟨B8, 5, none⟩ = some (.int .i64 l.c) ∧ w'.cell? ⟨B8, 6, none⟩ = some (.int .i64 l.eo) ∧ w'.cell? ⟨B8, 7, none⟩ = some (.int .i64 l.bo) ∧ w'.cell? ⟨B8, 8, none⟩ = some (.int .i64 l.s) ∧ w'.cell? ⟨B8, 9, none⟩ = some (.int .i64 l.g) ∧ w'.cell? ⟨B8, 10, none⟩ = some (.int .i64 16)) W8.drew := ⟨p0, p1, p2, p3, m0, m1, m2, m3, m4, m5, m6, m7, m8, t0, t1, t2, t3, t4, t5, t6, t7, t8, t9, t10⟩
  have S1 : ∀ o, (fun w' : World => w'.cell? ⟨B0, 0, none⟩ = some (fs) ∧ w'.cell? ⟨B0, 1, none⟩ = some (.slice a os.length cap) ∧ w'.cell? ⟨B0, 2, none⟩ = some (.int .u64 (seed : Int)) ∧ w'.cell? ⟨B0, 3, none⟩ = some (ts) ∧ w'.cell? ⟨B1, 0, none⟩ = some (.int .i64 l.k) ∧ w'.cell? ⟨B1, 1, none⟩ = some (.int .i64 l.e) ∧ w'.cell? ⟨B1, 2, none⟩ = some (.int .i64 l.a) ∧ w'.cell? ⟨B1, 3, none⟩ = some (.int .i64 l.b) ∧ w'.cell? ⟨B1, 4, none⟩ = some (.int .i64 l.c) ∧ w'.cell? ⟨B1, 5, none⟩ = some (.int .i64 l.eo) ∧ w'.cell? ⟨B1, 6, none⟩ = some (.int .i64 l.bo) ∧ w'.cell? ⟨B1, 7, none⟩ = some (.int .i64 l.s) ∧ w'.cell? ⟨B1, 8, none⟩ = some (.int .i64 l.g) ∧ w'.cell? ⟨B8, 0, none⟩ = some (.pointer (some ⟨p, 0, none⟩)) ∧ w'.cell? ⟨B8, 1, none⟩ = some (.int .i64 l.k) ∧ w'.cell? ⟨B8, 2, none⟩ = some (.int .i64 l.e) ∧ w'.cell? ⟨B8, 3, none⟩ = some (.int .i64 l.a) ∧ w'.cell? ⟨B8, 4, none⟩ = some (.int .i64 l.b) ∧ w'.cell? ⟨B8, 5, none⟩ = some (.int .i64 l.c) ∧ w'.cell? ⟨B8, 6, none⟩ = some (.int .i64 l.eo) ∧ w'.cell? ⟨B8, 7, none⟩ = some (.int .i64 l.bo) ∧ w'.cell? ⟨B8, 8, none⟩ = some (.int .i64 l.s) ∧ w'.cell? ⟨B8, 9, none⟩ = some (.int .i64 l.g) ∧ w'.cell? ⟨B8, 10, none⟩ = some (.int .i64 16)) (W8.alloc o) := fun o => by
    have k : Keeps W8 (W8.alloc o) (fun _ => False) := (Keeps.refl _ _).alloc _
    obtain ⟨x0, x1, x2, x3⟩ := fourS (k.blk b8)
    obtain ⟨y0, y1, y2, y3, y4, y5, y6, y7, y8⟩ := nineS (k.blk c8)
    obtain ⟨z0, z1, z2, z3, z4, z5, z6, z7, z8, z9, z10⟩ := elevenS (k.blk s8)
    exact ⟨x0, x1, x2, x3, y0, y1, y2, y3, y4, y5, y6, y7, y8, z0, z1, z2, z3, z4, z5, z6, z7, z8, z9, z10⟩
  have S2 : ∀ o, (fun w' : World => w'.cell? ⟨B0, 0, none⟩ = some (fs) ∧ w'.cell? ⟨B0, 1, none⟩ = some (.slice a os.length cap) ∧ w'.cell? ⟨B0, 2, none⟩ = some (.int .u64 (seed : Int)) ∧ w'.cell? ⟨B0, 3, none⟩ = some (ts) ∧ w'.cell? ⟨B1, 0, none⟩ = some (.int .i64 l.k) ∧ w'.cell? ⟨B1, 1, none⟩ = some (.int .i64 l.e) ∧ w'.cell? ⟨B1, 2, none⟩ = some (.int .i64 l.a) ∧ w'.cell? ⟨B1, 3, none⟩ = some (.int .i64 l.b) ∧ w'.cell? ⟨B1, 4, none⟩ = some (.int .i64 l.c) ∧ w'.cell? ⟨B1, 5, none⟩ = some (.int .i64 l.eo) ∧ w'.cell? ⟨B1, 6, none⟩ = some (.int .i64 l.bo) ∧ w'.cell? ⟨B1, 7, none⟩ = some (.int .i64 l.s) ∧ w'.cell? ⟨B1, 8, none⟩ = some (.int .i64 l.g) ∧ w'.cell? ⟨B8, 0, none⟩ = some (.pointer (some ⟨p, 0, none⟩)) ∧ w'.cell? ⟨B8, 1, none⟩ = some (.int .i64 l.k) ∧ w'.cell? ⟨B8, 2, none⟩ = some (.int .i64 l.e) ∧ w'.cell? ⟨B8, 3, none⟩ = some (.int .i64 l.a) ∧ w'.cell? ⟨B8, 4, none⟩ = some (.int .i64 l.b) ∧ w'.cell? ⟨B8, 5, none⟩ = some (.int .i64 l.c) ∧ w'.cell? ⟨B8, 6, none⟩ = some (.int .i64 l.eo) ∧ w'.cell? ⟨B8, 7, none⟩ = some (.int .i64 l.bo) ∧ w'.cell? ⟨B8, 8, none⟩ = some (.int .i64 l.s) ∧ w'.cell? ⟨B8, 9, none⟩ = some (.int .i64 l.g) ∧ w'.cell? ⟨B8, 10, none⟩ = some (.int .i64 16)) (W8.alloc o).drew := fun o => S1 o
  have S3 : ∀ o, (fun w' : World => w'.cell? ⟨B0, 0, none⟩ = some (fs) ∧ w'.cell? ⟨B0, 1, none⟩ = some (.slice a os.length cap) ∧ w'.cell? ⟨B0, 2, none⟩ = some (.int .u64 (seed : Int)) ∧ w'.cell? ⟨B0, 3, none⟩ = some (ts) ∧ w'.cell? ⟨B1, 0, none⟩ = some (.int .i64 l.k) ∧ w'.cell? ⟨B1, 1, none⟩ = some (.int .i64 l.e) ∧ w'.cell? ⟨B1, 2, none⟩ = some (.int .i64 l.a) ∧ w'.cell? ⟨B1, 3, none⟩ = some (.int .i64 l.b) ∧ w'.cell? ⟨B1, 4, none⟩ = some (.int .i64 l.c) ∧ w'.cell? ⟨B1, 5, none⟩ = some (.int .i64 l.eo) ∧ w'.cell? ⟨B1, 6, none⟩ = some (.int .i64 l.bo) ∧ w'.cell? ⟨B1, 7, none⟩ = some (.int .i64 l.s) ∧ w'.cell? ⟨B1, 8, none⟩ = some (.int .i64 l.g) ∧ w'.cell? ⟨B8, 0, none⟩ = some (.pointer (some ⟨p, 0, none⟩)) ∧ w'.cell? ⟨B8, 1, none⟩ = some (.int .i64 l.k) ∧ w'.cell? ⟨B8, 2, none⟩ = some (.int .i64 l.e) ∧ w'.cell? ⟨B8, 3, none⟩ = some (.int .i64 l.a) ∧ w'.cell? ⟨B8, 4, none⟩ = some (.int .i64 l.b) ∧ w'.cell? ⟨B8, 5, none⟩ = some (.int .i64 l.c) ∧ w'.cell? ⟨B8, 6, none⟩ = some (.int .i64 l.eo) ∧ w'.cell? ⟨B8, 7, none⟩ = some (.int .i64 l.bo) ∧ w'.cell? ⟨B8, 8, none⟩ = some (.int .i64 l.s) ∧ w'.cell? ⟨B8, 9, none⟩ = some (.int .i64 l.g) ∧ w'.cell? ⟨B8, 10, none⟩ = some (.int .i64 16)) (W8.drew.alloc o) := fun o => S1 o
  have H8 := hide (And.intro b8 (And.intro c8 s8))
  clear b8 c8 s8
  go_region_held3 (fun w' : World => w'.cell? ⟨B0, 0, none⟩ = some (fs) ∧ w'.cell? ⟨B0, 1, none⟩ = some (.slice a os.length cap) ∧ w'.cell? ⟨B0, 2, none⟩ = some (.int .u64 (seed : Int)) ∧ w'.cell? ⟨B0, 3, none⟩ = some (ts) ∧ w'.cell? ⟨B1, 0, none⟩ = some (.int .i64 l.k) ∧ w'.cell? ⟨B1, 1, none⟩ = some (.int .i64 l.e) ∧ w'.cell? ⟨B1, 2, none⟩ = some (.int .i64 l.a) ∧ w'.cell? ⟨B1, 3, none⟩ = some (.int .i64 l.b) ∧ w'.cell? ⟨B1, 4, none⟩ = some (.int .i64 l.c) ∧ w'.cell? ⟨B1, 5, none⟩ = some (.int .i64 l.eo) ∧ w'.cell? ⟨B1, 6, none⟩ = some (.int .i64 l.bo) ∧ w'.cell? ⟨B1, 7, none⟩ = some (.int .i64 l.s) ∧ w'.cell? ⟨B1, 8, none⟩ = some (.int .i64 l.g) ∧ w'.cell? ⟨B8, 0, none⟩ = some (.pointer (some ⟨p, 0, none⟩)) ∧ w'.cell? ⟨B8, 1, none⟩ = some (.int .i64 l.k) ∧ w'.cell? ⟨B8, 2, none⟩ = some (.int .i64 l.e) ∧ w'.cell? ⟨B8, 3, none⟩ = some (.int .i64 l.a) ∧ w'.cell? ⟨B8, 4, none⟩ = some (.int .i64 l.b) ∧ w'.cell? ⟨B8, 5, none⟩ = some (.int .i64 l.c) ∧ w'.cell? ⟨B8, 6, none⟩ = some (.int .i64 l.eo) ∧ w'.cell? ⟨B8, 7, none⟩ = some (.int .i64 l.bo) ∧ w'.cell? ⟨B8, 8, none⟩ = some (.int .i64 l.s) ∧ w'.cell? ⟨B8, 9, none⟩ = some (.int .i64 l.g) ∧ w'.cell? ⟨B8, 10, none⟩ = some (.int .i64 16)) (first | with_reducible exact S0 | with_reducible exact S1 _ | with_reducible exact S2 _ | with_reducible exact S3 _ | with_reducible assumption) (first | (go_at_call 12; (with_reducible refine (hNum _ _).mono ?_); rintro r wq ⟨rfl, rfl⟩))
  all_goals
    clear S0 S1 S2 S3
    go_wp2_with fail
    refine bodyPost_ret (v := .tuple #[.pointer (some ⟨W8.heap.size, 0, none⟩), .bool true, .bool true]) (by simp [results, Tryz.results7, go_sem]) rfl ?_
    unfold benT at hfin
    refine hfin.out _ ?_ ?_
    · exact heap_alloc_new W8 _
    · first | exact ((Keeps.refl W8 (fun _ => False)).alloc _).drew | exact (Keeps.refl W8 (fun _ => False)).alloc _ | exact (Keeps.refl W8 (fun _ => False)).drew.alloc _
end Go.Proofs.YtgckinldnnckoaaGreatDoor
/-
  SmallHolds: its walk.
-/
namespace Go.Proofs.YtgckinldnnckoaaGreatDoor
open Go.RowKit Go.Shelf Ly Ct
set_option linter.unusedVariables false
/-- What bench answers, whatever plan. -/
def SBenchAny (lim : Nat) (w : World) (l : Lay) (seed : Nat) (os : List Oc.Ovr) (e : Ending) (w' : World) : Prop :=
  (e = .returned (.tuple #[.pointer none, .bool true, .bool false]) ∧ Keeps w w' (fun _ => False)) ∨ SBench lim w l seed os e w'
/-- A plan that came in, as it stays. -/
structure SPlan (w : World) (l : Lay) (fs : Value) (a : Option Addr) (cap seed : Nat) (os : List Oc.Ovr) (ta : Option Addr) (tc : Nat) (ss : List (Int × Int × Int)) : Prop where
  bench : ∀ W, Keeps w W (fun _ => False) → Calls Tryz.prog 7 #[planV fs a os.length cap seed (.slice ta ss.length tc), .int .i64 65536] W fun e w' => SBenchAny 65536 W l seed os e w'
  turns : ∀ i (hi : i < ss.length), ∃ tb tq, ta = some ⟨tb, tq, none⟩ ∧ ∀ W, Keeps w W (fun _ => False) → W.cell? ⟨tb, tq + i * 3, none⟩ = some (.int .i64 ss[i].1) ∧ W.cell? ⟨tb, tq + i * 3 + 1, none⟩ = some (.int .i64 ss[i].2.1) ∧ W.cell? ⟨tb, tq + i * 3 + 2, none⟩ = some (.int .i64 ss[i].2.2)
  few : ss.length ≤ 8796093022208
  fits : ∀ x ∈ ss, fitsI x.1 ∧ fitsI x.2.1 ∧ fitsI x.2.2
  tab : TabAt w
  odd : Oc.OddAt w
  sd : seed < 18446744073709551616
  gl : ∀ k x, Oc.mapN os os.length k = some x → x < 18446744073709551616
namespace smallHolds
set_option maxRecDepth 100000 in
set_option maxHeartbeats 8000000 in
theorem walk {w : World} {l : Lay} {fs : Value} {a : Option Addr} {cap seed : Nat} {os : List Oc.Ovr} {ta : Option Addr} {tc : Nat} {ss : List (Int × Int × Int)} (h : SPlan w l fs a cap seed os ta tc ss) :
    Calls Tryz.prog 3 #[planV fs a os.length cap seed (.slice ta ss.length tc)] w fun e w' => e = .returned (.bool true) ∧ Keeps w w' (fun _ => False) := by
  have hBe := hide h.bench
  have hfew := h.few
  have hFit := hide h.fits
  have hTn : Hid (∀ i (hi : i < ss.length), _) := fun i hi => h.turns i hi
  have HE : Hid (∀ W b q m, Keeps w W (fun _ => False) → q ≠ b → m ≠ b → W.heap.size ≤ b → SEnv W b q m seed (Oc.mapN os os.length)) := fun W b q m k h1 h2 h3 => ⟨h.tab.kp (k.below (Nat.le_refl _) (fun _ _ e => e)), h.odd.kp (k.below (Nat.le_refl _) (fun _ _ e => e)), h.sd, h.gl, h1, h2, h3⟩
  clear h
  unfold planV at hBe ⊢
  go_enter Tryz.func3, Tryz.ntmps3
  go_wp2_with fail
  refine alloc1 (P := fun W => Calls _ _ _ W _) fun W0 hb hz k0 => ?_
  (with_reducible refine (hBe.out _ k0).mono ?_)
  clear hBe
  rintro r w1 (⟨rfl, k1⟩ | ⟨b, p, q, m, d, X, rfl, hB, hqb, hmb, hwb⟩)
  · go_wp2_with fail
    go_ret
    exact ⟨rfl, k0.trans k1 (fun _ _ e => e)⟩
  · have hq3 : Hid (∀ W, Keeps W0 W (fun _ => False) → W.cell? ⟨w.heap.size, 3, none⟩ = some (.slice ta ss.length tc)) := fun W q => by
      have := q.blk hb
      simp only [World.cell?, this]
      rfl
    have HEn := hide (HE.out W0 b q m k0 hqb hmb hwb)
    have hH1 := sholds_any hB
    have HB1 := hide hB
    clear HE hB hb hz
    generalize w.heap.size = B0 at *
    go_wp2_with fail
    (with_reducible refine hH1.mono ?_)
    rintro r w2 ⟨rfl, k2⟩
    have hB2 := HB1.out.stay k2
    have q3 := hq3.out _ hB2.own.keeps
    have HB0 : Hid (∃ d f c ad, SB (1, 0, 0, 65536) W0 b p l 16 q m os.length seed X (Oc.mapN os os.length) d f c c ad w2 ∧ 0 ≤ ad ∧ ad ≤ 0) := ⟨_, _, _, _, hB2, Int.le_refl _, Int.le_refl _⟩
    clear HB1 hH1 hB2 k2 d
    go_wp2_with fail
    clear q3
    go_loopw [26] (fun v26 wr => ∃ i : Nat, v26 = .int .i64 (i : Int) ∧ i ≤ ss.length ∧ Hid (∃ d f c ad, SB (1, 0, 0, 65536) W0 b p l 16 q m os.length seed X (Oc.mapN os os.length) d f c c ad wr ∧ 0 ≤ ad ∧ ad ≤ (i : Int))) (fun v26 _ => ss.length - (intOf v26).toNat)
    case atStart => exact ⟨0, rfl, Nat.zero_le _, HB0⟩
    case round =>
      clear HB0
      obtain ⟨i, rfl, hi, HB⟩ := hrel
      by_cases hlt : i < ss.length
      · have hlt' : (i : Int) < (ss.length : Int) := by omega
        obtain ⟨tb, tq, hta, hcs⟩ := hTn.out i hlt
        have hfit := hide (hFit.out _ (List.getElem_mem hlt))
        obtain ⟨x1, x2, x3⟩ := hcs wr (k0.trans (by obtain ⟨_, _, _, _, q, -⟩ := HB.out; exact q.own.keeps) (fun _ _ e => e))
        subst hta
        clear hcs
        generalize ss[i].1 = y1 at *
        generalize ss[i].2.1 = y2 at *
        generalize ss[i].2.2 = y3 at *
        have hTu : Hid (∀ W, Keeps wr W (fun _ => False) → Calls Tryz.prog 9 #[.pointer (some ⟨b, 0, none⟩), .agg #[.int .i64 y1, .int .i64 y2, .int .i64 y3]] W fun e w' => e = .returned (.bool true) ∧ Hid (∃ d f c ad, SB (1, 0, 0, 65536) W0 b p l 16 q m os.length seed X (Oc.mapN os os.length) d f c c ad w' ∧ 0 ≤ ad ∧ ad ≤ ((i + 1 : Nat) : Int))) := fun W qk => by
          obtain ⟨d, f, c, ad, hB, ha0, had⟩ := HB.out
          refine (turn_any (hB.stay qk) HEn.out ha0 (by omega) y1 y2 y3 hfit.out.2.2).mono ?_
          rintro e w' ⟨rfl, d', f', c', ad', hB', h0', h1'⟩
          exact ⟨rfl, d', f', c', ad', hB', h0', by omega⟩
        clear HB hfit
        go_wp2_with fail
        refine alloc1 (P := fun W => Calls _ _ _ W _) fun W2 hb2 hz2 k2 => ?_
        (with_reducible refine (hTu.out _ k2).mono ?_)
        rintro e w3 ⟨rfl, HB3⟩
        have hH3 : Calls Tryz.prog 8 #[.pointer (some ⟨b, 0, none⟩)] w3 fun e w' => e = .returned (.bool true) ∧ Hid (∃ d f c ad, SB (1, 0, 0, 65536) W0 b p l 16 q m os.length seed X (Oc.mapN os os.length) d f c c ad w' ∧ 0 ≤ ad ∧ ad ≤ ((i + 1 : Nat) : Int)) := by
          obtain ⟨d, f, c, ad, hB, ha0, had⟩ := HB3.out
          refine (sholds_any hB).mono ?_
          rintro e w' ⟨rfl, k⟩
          exact ⟨rfl, d, f, c, ad, hB.stay k, ha0, had⟩
        clear hb2 hz2 k2 hTu x1 x2 x3 HB3
        go_wp2_with fail
        (with_reducible refine hH3.mono ?_)
        rintro e w4 ⟨rfl, HB4⟩
        clear hH3
        go_wp2_with fail
        go_roundw
        case rel => exact ⟨i + 1, by go_num, by omega, HB4⟩
        case measure => simp [intOf]; omega
      · obtain rfl : i = ss.length := by omega
        have hlt' : ¬ (ss.length : Int) < (ss.length : Int) := by omega
        obtain ⟨d, f, c, ad, hB, -, -⟩ := HB.out
        have HK := hide (k0.trans hB.own.keeps (fun _ _ e => e))
        clear HB hB
        go_wp2_with fail
        go_ret
        exact ⟨rfl, HK.out⟩
end smallHolds
end Go.Proofs.YtgckinldnnckoaaGreatDoor
/-
  small's law: ended (made by gensz.py).
-/
namespace Go.Proofs.YtgckinldnnckoaaGreatDoor
open Go.RowKit Go.Shelf Ly Ct
set_option linter.unusedVariables false
section
variable {hd : Int × Int × Int × Nat} {w0 : World} {b p : Nat} {l : Lay} {off q m nm seed : Nat} {X : Nat → Prop} {g : List UInt8 → Option Nat} {d : AD} {f : Nat → Int} {c cb : Nat → GC} {ad : Int} {w : World}
theorem own_live {w w1 : World} {p : Nat} {X : Nat → Prop} {d : AD} (h : Own w w1 p X d) : Calls Tryz.prog 16 #[.pointer (some ⟨p, 0, none⟩)] w1 fun e w' => e = .returned (.int .i64 (d.used : Int)) ∧ w' = w1 := by
  obtain ⟨c, hc, _⟩ := h.arena
  exact live_any hc

/-- What stands behind Free. -/
structure Ended (w0 : World) (b p : Nat) (l : Lay) (off q : Nat) (W : World) : Prop where
  keep : Keeps w0 W (fun _ => False)
  bn : (W.cell? ⟨b, 0, none⟩ = some (.pointer (some ⟨p, 0, none⟩)) ∧ W.cell? ⟨b, 9, none⟩ = some (.int .i64 l.g)) ∧ W.cell? ⟨b, 11, none⟩ = some (.pointer (some ⟨p, 0, none⟩)) ∧ W.cell? ⟨b, 12, none⟩ = some (.int .i64 l.k) ∧ W.cell? ⟨b, 13, none⟩ = some (.int .i64 l.e) ∧ W.cell? ⟨b, 14, none⟩ = some (.int .i64 l.a) ∧ W.cell? ⟨b, 15, none⟩ = some (.int .i64 l.b) ∧ W.cell? ⟨b, 16, none⟩ = some (.int .i64 l.c) ∧ W.cell? ⟨b, 17, none⟩ = some (.int .i64 l.eo) ∧ W.cell? ⟨b, 18, none⟩ = some (.int .i64 l.bo) ∧ W.cell? ⟨b, 19, none⟩ = some (.int .i64 l.s) ∧ W.cell? ⟨b, 20, none⟩ = some (.int .i64 l.g) ∧ W.cell? ⟨b, 21, none⟩ = some (.int .i64 (off : Int))
  orc : W.cell? ⟨b, 10, none⟩ = some (.pointer (some ⟨q, 0, none⟩))
  live : ∀ V, Keeps W V (fun _ => False) → Calls Tryz.prog 16 #[.pointer (some ⟨p, 0, none⟩)] V fun e w' => e = .returned (.int .i64 0) ∧ w' = V
  stat : ∀ V, Keeps W V (fun _ => False) → Calls Tryz.prog 11 #[.agg #[.pointer (some ⟨p, 0, none⟩), .int .i64 l.k, .int .i64 l.e, .int .i64 l.a, .int .i64 l.b, .int .i64 l.c, .int .i64 l.eo, .int .i64 l.bo, .int .i64 l.s, .int .i64 l.g, .int .i64 (off : Int)]] V fun e w' => e = .returned (.tuple #[.agg #[.int .i64 0, .int .i64 0, .int .i64 0, .bool false], .int .i64 24]) ∧ Keeps V w' (fun _ => False)
  find : ∀ V, Keeps W V (fun _ => False) → Calls Tryz.prog 34 #[.agg #[.pointer (some ⟨p, 0, none⟩), .int .i64 l.k, .int .i64 l.e, .int .i64 l.a, .int .i64 l.b, .int .i64 l.c, .int .i64 l.eo, .int .i64 l.bo, .int .i64 l.s, .int .i64 l.g, .int .i64 (off : Int)], .int .i64 (-1), .string ⟨#[]⟩] V fun e w' => e = .returned (.tuple #[.int .i64 0, .int .i64 24]) ∧ Keeps V w' (fun _ => False)
  get : ∀ V, Keeps W V (fun _ => False) → Calls Tryz.prog 35 #[.agg #[.pointer (some ⟨p, 0, none⟩), .int .i64 l.k, .int .i64 l.e, .int .i64 l.a, .int .i64 l.b, .int .i64 l.c, .int .i64 l.eo, .int .i64 l.bo, .int .i64 l.s, .int .i64 l.g, .int .i64 (off : Int)], .int .i64 (-1), .string ⟨#[]⟩] V fun e w' => e = .returned (.tuple #[.agg #[.int .i64 0, .int .i64 0, .string ⟨#[]⟩, .string ⟨#[]⟩, .int .i64 0], .int .i64 24]) ∧ Keeps V w' (fun _ => False)
  put : ∀ V, Keeps W V (fun _ => False) → Calls Tryz.prog 32 #[.agg #[.pointer (some ⟨p, 0, none⟩), .int .i64 l.k, .int .i64 l.e, .int .i64 l.a, .int .i64 l.b, .int .i64 l.c, .int .i64 l.eo, .int .i64 l.bo, .int .i64 l.s, .int .i64 l.g, .int .i64 (off : Int)], .int .i64 (-1), .string ⟨#[]⟩, .string ⟨#[]⟩, .int .i64 (-1)] V fun e w' => e = .returned (.tuple #[.int .i64 0, .int .i64 24]) ∧ Keeps V w' (fun _ => False)
  del : ∀ V, Keeps W V (fun _ => False) → Calls Tryz.prog 33 #[.agg #[.pointer (some ⟨p, 0, none⟩), .int .i64 l.k, .int .i64 l.e, .int .i64 l.a, .int .i64 l.b, .int .i64 l.c, .int .i64 l.eo, .int .i64 l.bo, .int .i64 l.s, .int .i64 l.g, .int .i64 (off : Int)], .int .i64 (-1), .string ⟨#[]⟩] V fun e w' => e = .returned (.tuple #[.bool false, .int .i64 24]) ∧ Keeps V w' (fun _ => False)
  cell : ∀ V, Keeps W V (fun _ => False) → Calls Tryz.prog 21 #[.agg #[.pointer (some ⟨p, 0, none⟩), .int .i64 l.k, .int .i64 l.e, .int .i64 l.a, .int .i64 l.b, .int .i64 l.c, .int .i64 l.eo, .int .i64 l.bo, .int .i64 l.s, .int .i64 l.g, .int .i64 (off : Int)], .int .i64 (-1)] V fun e w' => e = .returned (.tuple #[.agg #[.int .i64 0, .int .i64 0, .string ⟨#[]⟩, .string ⟨#[]⟩, .int .i64 0], .int .i64 24]) ∧ Keeps V w' (fun _ => False)
  pin : ∀ V, Keeps W V (fun _ => False) → Calls Tryz.prog 18 #[.agg #[.pointer (some ⟨p, 0, none⟩), .int .i64 l.k, .int .i64 l.e, .int .i64 l.a, .int .i64 l.b, .int .i64 l.c, .int .i64 l.eo, .int .i64 l.bo, .int .i64 l.s, .int .i64 l.g, .int .i64 (off : Int)], .int .i64 (-1)] V fun e w' => e = .returned (.tuple #[.int .i64 0, .int .i64 24]) ∧ Keeps V w' (fun _ => False)
  prom : ∀ V, Keeps W V (fun _ => False) → Calls Tryz.prog 15 #[.agg #[.pointer (some ⟨p, 0, none⟩), .int .i64 l.k, .int .i64 l.e, .int .i64 l.a, .int .i64 l.b, .int .i64 l.c, .int .i64 l.eo, .int .i64 l.bo, .int .i64 l.s, .int .i64 l.g, .int .i64 (off : Int)], .pointer (some ⟨q, 0, none⟩), .int .u64 0] V fun e w' => e = .returned (.tuple #[.agg #[.pointer none, .int .i64 0, .int .i64 0, .int .i64 0, .int .i64 0, .int .i64 0, .int .i64 0, .int .i64 0, .int .i64 0, .int .i64 0, .int .i64 0], .int .i64 24]) ∧ Keeps V w' (fun _ => False)
  free : ∀ V, Keeps W V (fun _ => False) → Calls Tryz.prog 53 #[.agg #[.pointer (some ⟨p, 0, none⟩), .int .i64 l.k, .int .i64 l.e, .int .i64 l.a, .int .i64 l.b, .int .i64 l.c, .int .i64 l.eo, .int .i64 l.bo, .int .i64 l.s, .int .i64 l.g, .int .i64 (off : Int)]] V fun e w' => e = .returned (.int .i64 24) ∧ Keeps V w' (fun _ => False)
  ret : ∀ V, Keeps W V (fun _ => False) → Calls Tryz.prog 19 #[.agg #[.pointer (some ⟨p, 0, none⟩), .int .i64 l.k, .int .i64 l.e, .int .i64 l.a, .int .i64 l.b, .int .i64 l.c, .int .i64 l.eo, .int .i64 l.bo, .int .i64 l.s, .int .i64 l.g, .int .i64 (off : Int)], .int .i64 1] V fun e w' => e = .returned (.int .i64 24) ∧ Keeps V w' (fun _ => False)
  next : ∀ V, Keeps W V (fun _ => False) → Calls Tryz.prog 20 #[.agg #[.pointer (some ⟨p, 0, none⟩), .int .i64 l.k, .int .i64 l.e, .int .i64 l.a, .int .i64 l.b, .int .i64 l.c, .int .i64 l.eo, .int .i64 l.bo, .int .i64 l.s, .int .i64 l.g, .int .i64 (off : Int)], .int .i64 1] V fun e w' => e = .returned (.int .i64 24) ∧ Keeps V w' (fun _ => False)
theorem Ended.stay {W V : World} (h : Ended w0 b p l off q W) (k : Keeps W V (fun _ => False)) : Ended w0 b p l off q V := by
  have t := fun {U : World} (z : Keeps V U (fun _ => False)) => k.trans z (fun _ _ e => e)
  obtain ⟨⟨a0, a9⟩, s0, s1, s2, s3, s4, s5, s6, s7, s8, s9, s10⟩ := h.bn
  have kc := fun {z j : Nat} {v : Value} (e : W.cell? ⟨z, j, none⟩ = some v) => keeps_cell k id e
  exact ⟨h.keep.trans k (fun _ _ e => e), ⟨⟨kc a0, kc a9⟩, kc s0, kc s1, kc s2, kc s3, kc s4, kc s5, kc s6, kc s7, kc s8, kc s9, kc s10⟩, kc h.orc, fun U z => h.live U (t z), fun U z => h.stat U (t z), fun U z => h.find U (t z), fun U z => h.get U (t z), fun U z => h.put U (t z), fun U z => h.del U (t z), fun U z => h.cell U (t z), fun U z => h.pin U (t z), fun U z => h.prom U (t z), fun U z => h.free U (t z), fun U z => h.ret U (t z), fun U z => h.next U (t z)⟩
theorem sb_ends (h : SB hd w0 b p l off q m nm seed X g d f c cb ad w) (W : World) (k : Keeps w W (fun _ => False)) : Calls Tryz.prog 53 #[.agg #[.pointer (some ⟨p, 0, none⟩), .int .i64 l.k, .int .i64 l.e, .int .i64 l.a, .int .i64 l.b, .int .i64 l.c, .int .i64 l.eo, .int .i64 l.bo, .int .i64 l.s, .int .i64 l.g, .int .i64 (off : Int)]] W fun e w' => e = .returned (.int .i64 0) ∧ Ended w0 b p l off q w' := by
  have hh := h.stay k
  have hvm := valid_more h.valid
  have hz : d.lv (off : Int) = some ((classN (32 + l.g.toNat) : Nat) : Int) := by rw [h.one.lv, upd_same]
  have ho := h.sm.off_le h.fine
  refine (sfree_yes hh.own hh.fine hh.xl hh.sm hz).mono ?_
  rintro e w' ⟨rfl, d', hg, hF, hO, hK⟩
  have hB := h.one.gone hg
  have hbn := hh.bn.keeps hK (fun e => e.1.2 hh.xb)
  have A := fun V (z : Keeps w' V (fun _ => False)) => hO.here.keeps z (fun _ _ _ e => e)
  refine ⟨rfl, hO.keeps, ⟨hbn.ar, hbn.small⟩, hbn.nums.2.2.1, fun V z => ?_, fun V z => sstat_no (A V z) hF l off hB.good ho.1, fun V z => sfind_dead (A V z) hF l hB.good ho.1 _ _, fun V z => sget_dead (A V z) hF l hB.good ho.1 _ _, fun V z => sput_dead (A V z) hF l hB.good ho.1 _ _ _ _, fun V z => sdelete_dead (A V z) hF l hB.good ho.1 _ _, fun V z => scell_dead (A V z) hF l hB.good ho.1 _, fun V z => spin_dead (A V z) hF l hB.good ho.1 _, fun V z => spromote_dead (A V z) hF l hB.good ho.1 q 0, fun V z => sfree_dead (A V z) hF l hB.good ho.1, fun V z => sretire_dead (A V z) hF l hB.good ho.1 _, fun V z => snext_dead (A V z) hF l hB.good ho.1 _⟩
  have := own_live (hO.stay z)
  rw [hB.used] at this
  exact this
end
end Go.Proofs.YtgckinldnnckoaaGreatDoor
/-
  small's law: ended, its walk (made by gensz.py).
-/
namespace Go.Proofs.YtgckinldnnckoaaGreatDoor
open Go.RowKit Go.Shelf Ly Ct
set_option linter.unusedVariables false
section
variable {hd : Int × Int × Int × Nat} {w0 : World} {b p : Nat} {l : Lay} {off q m nm seed : Nat} {X : Nat → Prop} {g : List UInt8 → Option Nat} {d : AD} {f : Nat → Int} {c cb : Nat → GC} {ad : Int} {w : World}
set_option maxRecDepth 100000 in
set_option maxHeartbeats 8000000 in
theorem sended (h : SB hd w0 b p l off q m nm seed X g d f c cb ad w) : Calls Tryz.prog 24 #[.pointer (some ⟨b, 0, none⟩)] w fun e w' => e = .returned (.bool true) ∧ Keeps w0 w' (fun _ => False) := by
  have hvm := valid_more h.valid
  have hLv : Hid (∀ W, Keeps w W (fun _ => False) → Calls Tryz.prog 16 #[.pointer (some ⟨p, 0, none⟩)] W fun e w' => e = .returned (.int .i64 ((classN (32 + l.g.toNat) : Nat) : Int)) ∧ w' = W) := fun W k => by
    have := own_live (h.own.stay k)
    rw [h.one.used] at this
    exact this
  have hCl : Hid (∀ W, Calls Tryz.prog 14 #[.int .i64 (32 + l.g)] W fun e w' => e = .returned (.int .i64 ((classN (32 + l.g.toNat) : Nat) : Int)) ∧ w' = W) := fun W => by
    have := r2class_any (32 + l.g) W
    have e : classI (32 + l.g) = ((classN (32 + l.g.toNat) : Nat) : Int) := by
      unfold classI
      rw [if_pos (by omega), show (32 + l.g).toNat = 32 + l.g.toNat by omega]
    rw [e] at this
    exact this
  have hFr : Hid (∀ W, Keeps w W (fun _ => False) → Calls Tryz.prog 53 #[.agg #[.pointer (some ⟨p, 0, none⟩), .int .i64 l.k, .int .i64 l.e, .int .i64 l.a, .int .i64 l.b, .int .i64 l.c, .int .i64 l.eo, .int .i64 l.bo, .int .i64 l.s, .int .i64 l.g, .int .i64 (off : Int)]] W fun e w' => e = .returned (.int .i64 0) ∧ Ended w0 b p l off q w') := fun W k => sb_ends h W k
  have hNum := fun x W => snum_any x W
  have S0 : (fun w' : World => (w'.cell? ⟨b, 0, none⟩ = some (.pointer (some ⟨p, 0, none⟩)) ∧ w'.cell? ⟨b, 9, none⟩ = some (.int .i64 l.g)) ∧ w'.cell? ⟨b, 11, none⟩ = some (.pointer (some ⟨p, 0, none⟩)) ∧ w'.cell? ⟨b, 12, none⟩ = some (.int .i64 l.k) ∧ w'.cell? ⟨b, 13, none⟩ = some (.int .i64 l.e) ∧ w'.cell? ⟨b, 14, none⟩ = some (.int .i64 l.a) ∧ w'.cell? ⟨b, 15, none⟩ = some (.int .i64 l.b) ∧ w'.cell? ⟨b, 16, none⟩ = some (.int .i64 l.c) ∧ w'.cell? ⟨b, 17, none⟩ = some (.int .i64 l.eo) ∧ w'.cell? ⟨b, 18, none⟩ = some (.int .i64 l.bo) ∧ w'.cell? ⟨b, 19, none⟩ = some (.int .i64 l.s) ∧ w'.cell? ⟨b, 20, none⟩ = some (.int .i64 l.g) ∧ w'.cell? ⟨b, 21, none⟩ = some (.int .i64 (off : Int))) w.drew := ⟨h.bn.ar, h.bn.small⟩
  have KD : Keeps w w.drew (fun _ => False) := (Keeps.refl _ _).drew
  have hw1 : wrap64 (32 + l.g) = 32 + l.g := by unfold wrap64; omega
  have hw2 : IntKind.i64.wrap (32 + l.g) = 32 + l.g := by rw [IntKind.wrap_i64]; omega
  generalize ((classN (32 + l.g.toNat) : Nat) : Int) = cN at *
  clear h hvm
  go_enter Tryz.func24, Tryz.ntmps24
  go_wp2_with fail
  go_region_held3 (fun w' : World => (w'.cell? ⟨b, 0, none⟩ = some (.pointer (some ⟨p, 0, none⟩)) ∧ w'.cell? ⟨b, 9, none⟩ = some (.int .i64 l.g)) ∧ w'.cell? ⟨b, 11, none⟩ = some (.pointer (some ⟨p, 0, none⟩)) ∧ w'.cell? ⟨b, 12, none⟩ = some (.int .i64 l.k) ∧ w'.cell? ⟨b, 13, none⟩ = some (.int .i64 l.e) ∧ w'.cell? ⟨b, 14, none⟩ = some (.int .i64 l.a) ∧ w'.cell? ⟨b, 15, none⟩ = some (.int .i64 l.b) ∧ w'.cell? ⟨b, 16, none⟩ = some (.int .i64 l.c) ∧ w'.cell? ⟨b, 17, none⟩ = some (.int .i64 l.eo) ∧ w'.cell? ⟨b, 18, none⟩ = some (.int .i64 l.bo) ∧ w'.cell? ⟨b, 19, none⟩ = some (.int .i64 l.s) ∧ w'.cell? ⟨b, 20, none⟩ = some (.int .i64 l.g) ∧ w'.cell? ⟨b, 21, none⟩ = some (.int .i64 (off : Int))) (first | with_reducible exact S0 | with_reducible assumption)
    (first | (go_at_call 16; (with_reducible refine (hLv.out _ KD).mono ?_); rintro r wA ⟨rfl, rfl⟩) | (go_at_call 14; (with_reducible refine (hCl.out _).mono ?_); rintro r wA ⟨rfl, rfl⟩) | (go_at_call 53; (with_reducible refine (hFr.out _ KD).mono ?_); rintro r w5 ⟨rfl, hE⟩; have SA := hE.bn) | (go_at_call 12; (with_reducible refine (hNum _ _).mono ?_); rintro r wN ⟨rfl, rfl⟩) | (go_at_call 16; (with_reducible refine (hE.live _ (Keeps.refl _ _)).mono ?_); rintro r wA ⟨rfl, rfl⟩))
  have HE := hide hE
  clear hE SA S0 KD hLv hCl hFr hw1 hw2
  obtain ⟨⟨a0, a9⟩, s0, s1, s2, s3, s4, s5, s6, s7, s8, s9, s10⟩ := HE.out.bn
  have hC := HE.out.stat _ (Keeps.refl _ _)
  go_wp2_with fail
  (with_reducible refine hC.mono ?_)
  rintro r V ⟨rfl, kV⟩
  clear hC a0 a9 s0 s1 s2 s3 s4 s5 s6 s7 s8 s9 s10
  go_upto_region 5 with fail
  refine alloc1 (P := fun W => Code.wp _ _ _ _ W) fun W2 hb2 hz2 k2 => ?_
  replace HE := hide (HE.out.stay (kV.trans k2 (fun _ _ e => e)))
  clear kV k2 hb2 hz2
  obtain ⟨⟨a0, a9⟩, s0, s1, s2, s3, s4, s5, s6, s7, s8, s9, s10⟩ := HE.out.bn
  have hC := HE.out.find _ (Keeps.refl _ _)
  go_wp2_with fail
  (with_reducible refine hC.mono ?_)
  rintro r V ⟨rfl, kV⟩
  clear hC a0 a9 s0 s1 s2 s3 s4 s5 s6 s7 s8 s9 s10
  go_upto_region 6 with fail
  replace HE := hide (HE.out.stay kV)
  clear kV
  obtain ⟨⟨a0, a9⟩, s0, s1, s2, s3, s4, s5, s6, s7, s8, s9, s10⟩ := HE.out.bn
  have hC := HE.out.get _ (Keeps.refl _ _)
  go_wp2_with fail
  (with_reducible refine hC.mono ?_)
  rintro r V ⟨rfl, kV⟩
  clear hC a0 a9 s0 s1 s2 s3 s4 s5 s6 s7 s8 s9 s10
  go_upto_region 7 with fail
  refine alloc1 (P := fun W => Code.wp _ _ _ _ W) fun W2 hb2 hz2 k2 => ?_
  replace HE := hide (HE.out.stay (kV.trans k2 (fun _ _ e => e)))
  clear kV k2 hb2 hz2
  obtain ⟨⟨a0, a9⟩, s0, s1, s2, s3, s4, s5, s6, s7, s8, s9, s10⟩ := HE.out.bn
  have hC := HE.out.put _ (Keeps.refl _ _)
  go_wp2_with fail
  (with_reducible refine hC.mono ?_)
  rintro r V ⟨rfl, kV⟩
  clear hC a0 a9 s0 s1 s2 s3 s4 s5 s6 s7 s8 s9 s10
  go_upto_region 8 with fail
  replace HE := hide (HE.out.stay kV)
  clear kV
  obtain ⟨⟨a0, a9⟩, s0, s1, s2, s3, s4, s5, s6, s7, s8, s9, s10⟩ := HE.out.bn
  have hC := HE.out.del _ (Keeps.refl _ _)
  go_wp2_with fail
  (with_reducible refine hC.mono ?_)
  rintro r V ⟨rfl, kV⟩
  clear hC a0 a9 s0 s1 s2 s3 s4 s5 s6 s7 s8 s9 s10
  go_upto_region 9 with fail
  replace HE := hide (HE.out.stay kV)
  clear kV
  obtain ⟨⟨a0, a9⟩, s0, s1, s2, s3, s4, s5, s6, s7, s8, s9, s10⟩ := HE.out.bn
  have hC := HE.out.cell _ (Keeps.refl _ _)
  go_wp2_with fail
  (with_reducible refine hC.mono ?_)
  rintro r V ⟨rfl, kV⟩
  clear hC a0 a9 s0 s1 s2 s3 s4 s5 s6 s7 s8 s9 s10
  go_upto_region 10 with fail
  refine alloc1 (P := fun W => Code.wp _ _ _ _ W) fun W2 hb2 hz2 k2 => ?_
  replace HE := hide (HE.out.stay (kV.trans k2 (fun _ _ e => e)))
  clear kV k2 hb2 hz2
  obtain ⟨⟨a0, a9⟩, s0, s1, s2, s3, s4, s5, s6, s7, s8, s9, s10⟩ := HE.out.bn
  have hC := HE.out.pin _ (Keeps.refl _ _)
  go_wp2_with fail
  (with_reducible refine hC.mono ?_)
  rintro r V ⟨rfl, kV⟩
  clear hC a0 a9 s0 s1 s2 s3 s4 s5 s6 s7 s8 s9 s10
  go_upto_region 11 with fail
  replace HE := hide (HE.out.stay kV)
  clear kV
  have SS : ∀ W, Keeps V W (fun _ => False) → (fun w' : World => (w'.cell? ⟨b, 11, none⟩ = some (.pointer (some ⟨p, 0, none⟩)) ∧ w'.cell? ⟨b, 12, none⟩ = some (.int .i64 l.k) ∧ w'.cell? ⟨b, 13, none⟩ = some (.int .i64 l.e) ∧ w'.cell? ⟨b, 14, none⟩ = some (.int .i64 l.a) ∧ w'.cell? ⟨b, 15, none⟩ = some (.int .i64 l.b) ∧ w'.cell? ⟨b, 16, none⟩ = some (.int .i64 l.c) ∧ w'.cell? ⟨b, 17, none⟩ = some (.int .i64 l.eo) ∧ w'.cell? ⟨b, 18, none⟩ = some (.int .i64 l.bo) ∧ w'.cell? ⟨b, 19, none⟩ = some (.int .i64 l.s) ∧ w'.cell? ⟨b, 20, none⟩ = some (.int .i64 l.g) ∧ w'.cell? ⟨b, 21, none⟩ = some (.int .i64 (off : Int))) ∧ w'.cell? ⟨b, 10, none⟩ = some (.pointer (some ⟨q, 0, none⟩))) W := fun W k => ⟨(HE.out.stay k).bn.2, (HE.out.stay k).orc⟩
  have k0 : Keeps V V.drew (fun _ => False) := (Keeps.refl _ _).drew
  have k1 : ∀ o, Keeps V (V.drew.alloc o) (fun _ => False) := fun o => k0.alloc o
  have k2 : ∀ o, Keeps V (V.alloc o).drew (fun _ => False) := fun o => ((Keeps.refl _ _).alloc o).drew
  go_wp2_with fail
  go_region_held3 (fun w' : World => (w'.cell? ⟨b, 11, none⟩ = some (.pointer (some ⟨p, 0, none⟩)) ∧ w'.cell? ⟨b, 12, none⟩ = some (.int .i64 l.k) ∧ w'.cell? ⟨b, 13, none⟩ = some (.int .i64 l.e) ∧ w'.cell? ⟨b, 14, none⟩ = some (.int .i64 l.a) ∧ w'.cell? ⟨b, 15, none⟩ = some (.int .i64 l.b) ∧ w'.cell? ⟨b, 16, none⟩ = some (.int .i64 l.c) ∧ w'.cell? ⟨b, 17, none⟩ = some (.int .i64 l.eo) ∧ w'.cell? ⟨b, 18, none⟩ = some (.int .i64 l.bo) ∧ w'.cell? ⟨b, 19, none⟩ = some (.int .i64 l.s) ∧ w'.cell? ⟨b, 20, none⟩ = some (.int .i64 l.g) ∧ w'.cell? ⟨b, 21, none⟩ = some (.int .i64 (off : Int))) ∧ w'.cell? ⟨b, 10, none⟩ = some (.pointer (some ⟨q, 0, none⟩))) (first | with_reducible exact SS _ k0 | with_reducible exact SS _ (k2 _) | with_reducible assumption | with_reducible exact SS _ (KV.alloc _) | exact SS _ (Keeps.setCell (Keeps.setCell (Keeps.setCell (Keeps.setCell (Keeps.setCell (Keeps.setCell (Keeps.setCell (Keeps.setCell (Keeps.setCell (Keeps.setCell (Keeps.setCell KV ⟨V.heap.size, 0, none⟩ (fun h => absurd h (Nat.lt_irrefl _)) _) ⟨V.heap.size, 1, none⟩ (fun h => absurd h (Nat.lt_irrefl _)) _) ⟨V.heap.size, 2, none⟩ (fun h => absurd h (Nat.lt_irrefl _)) _) ⟨V.heap.size, 3, none⟩ (fun h => absurd h (Nat.lt_irrefl _)) _) ⟨V.heap.size, 4, none⟩ (fun h => absurd h (Nat.lt_irrefl _)) _) ⟨V.heap.size, 5, none⟩ (fun h => absurd h (Nat.lt_irrefl _)) _) ⟨V.heap.size, 6, none⟩ (fun h => absurd h (Nat.lt_irrefl _)) _) ⟨V.heap.size, 7, none⟩ (fun h => absurd h (Nat.lt_irrefl _)) _) ⟨V.heap.size, 8, none⟩ (fun h => absurd h (Nat.lt_irrefl _)) _) ⟨V.heap.size, 9, none⟩ (fun h => absurd h (Nat.lt_irrefl _)) _) ⟨V.heap.size, 10, none⟩ (fun h => absurd h (Nat.lt_irrefl _)) _) | exact SS _ (Keeps.setCell (Keeps.setCell (Keeps.setCell (Keeps.setCell (Keeps.setCell (Keeps.setCell (Keeps.setCell (Keeps.setCell (Keeps.setCell (Keeps.setCell (Keeps.setCell (KV.alloc _) ⟨V1.heap.size, 0, none⟩ (fun h => absurd h (Nat.not_lt_of_le KV.size)) _) ⟨V1.heap.size, 1, none⟩ (fun h => absurd h (Nat.not_lt_of_le KV.size)) _) ⟨V1.heap.size, 2, none⟩ (fun h => absurd h (Nat.not_lt_of_le KV.size)) _) ⟨V1.heap.size, 3, none⟩ (fun h => absurd h (Nat.not_lt_of_le KV.size)) _) ⟨V1.heap.size, 4, none⟩ (fun h => absurd h (Nat.not_lt_of_le KV.size)) _) ⟨V1.heap.size, 5, none⟩ (fun h => absurd h (Nat.not_lt_of_le KV.size)) _) ⟨V1.heap.size, 6, none⟩ (fun h => absurd h (Nat.not_lt_of_le KV.size)) _) ⟨V1.heap.size, 7, none⟩ (fun h => absurd h (Nat.not_lt_of_le KV.size)) _) ⟨V1.heap.size, 8, none⟩ (fun h => absurd h (Nat.not_lt_of_le KV.size)) _) ⟨V1.heap.size, 9, none⟩ (fun h => absurd h (Nat.not_lt_of_le KV.size)) _) ⟨V1.heap.size, 10, none⟩ (fun h => absurd h (Nat.not_lt_of_le KV.size)) _))
    (first | (go_at_call 15; (with_reducible refine (HE.out.prom _ k0).mono ?_); rintro r V1 ⟨rfl, kV⟩; have KV := k0.trans kV (fun _ _ e => e); have SA := SS _ KV) | (go_at_call 15; (with_reducible refine (HE.out.prom _ (k2 _)).mono ?_); rintro r V1 ⟨rfl, kV⟩; have KV := (k2 _).trans kV (fun _ _ e => e); have SA := SS _ KV; have hbV := (kV.blk (show ((V.alloc (.cells #[.pointer none, .int .i64 0, .int .i64 0, .int .i64 0, .int .i64 0, .int .i64 0, .int .i64 0, .int .i64 0, .int .i64 0, .int .i64 0, .int .i64 0] 61)).drew).heap[V.heap.size]? = some (.cells #[.pointer none, .int .i64 0, .int .i64 0, .int .i64 0, .int .i64 0, .int .i64 0, .int .i64 0, .int .i64 0, .int .i64 0, .int .i64 0, .int .i64 0] 61) from heap_alloc_new _ _)); obtain ⟨⟨d0, d1, d2, d3, d4, d5, d6, d7, d8, d9, d10⟩, f0, f1, f2, f3, f4, f5, f6, f7, f8, f9, f10⟩ := eleven_cells hbV))
  · refine alloc1 (P := fun W => Exit.then _ _ Exit.normal _ W) fun w9 hb9 hz9 k9 => ?_
    replace HE := hide (HE.out.stay (KV.trans k9 (fun _ _ e => e)))
    clear k0 k1 k2 SS KV SA kV hb9 hz9 k9
    obtain ⟨⟨a0, a9⟩, s0, s1, s2, s3, s4, s5, s6, s7, s8, s9, s10⟩ := HE.out.bn
    have hC := HE.out.free _ (Keeps.refl _ _)
    go_wp2_with (go_at_call 12; (with_reducible refine (hNum _ _).mono ?_); rintro r wN ⟨rfl, rfl⟩)
    (with_reducible refine hC.mono ?_)
    rintro r V3 ⟨rfl, kV3⟩
    replace HE := hide (HE.out.stay kV3)
    clear hC a0 a9 s0 s1 s2 s3 s4 s5 s6 s7 s8 s9 s10 kV3
    obtain ⟨⟨a0, a9⟩, s0, s1, s2, s3, s4, s5, s6, s7, s8, s9, s10⟩ := HE.out.bn
    have hC := HE.out.ret _ (Keeps.refl _ _)
    go_wp2_with (go_at_call 12; (with_reducible refine (hNum _ _).mono ?_); rintro r wN ⟨rfl, rfl⟩)
    (with_reducible refine hC.mono ?_)
    rintro r V3 ⟨rfl, kV3⟩
    replace HE := hide (HE.out.stay kV3)
    clear hC a0 a9 s0 s1 s2 s3 s4 s5 s6 s7 s8 s9 s10 kV3
    obtain ⟨⟨a0, a9⟩, s0, s1, s2, s3, s4, s5, s6, s7, s8, s9, s10⟩ := HE.out.bn
    have hC := HE.out.next _ (Keeps.refl _ _)
    go_wp2_with (go_at_call 12; (with_reducible refine (hNum _ _).mono ?_); rintro r wN ⟨rfl, rfl⟩)
    (with_reducible refine hC.mono ?_)
    rintro r V3 ⟨rfl, kV3⟩
    replace HE := hide (HE.out.stay kV3)
    clear hC a0 a9 s0 s1 s2 s3 s4 s5 s6 s7 s8 s9 s10 kV3
    obtain ⟨⟨a0, a9⟩, s0, s1, s2, s3, s4, s5, s6, s7, s8, s9, s10⟩ := HE.out.bn
    have hC := HE.out.live _ (Keeps.refl _ _)
    have HK := hide HE.out.keep
    go_wp2_with (go_at_call 12; (with_reducible refine (hNum _ _).mono ?_); rintro r wN ⟨rfl, rfl⟩)
    (with_reducible refine hC.mono ?_)
    rintro r V3 ⟨rfl, rfl⟩
    go_wp2_with fail
    go_ret
    exact ⟨rfl, HK.out⟩
  · refine eleven_set hbV KV (fun h => absurd h (Nat.lt_irrefl _)) (P := fun w9 => Exit.then _ _ Exit.normal _ w9) fun w9 h9 k9 _ => ?_
    replace HE := hide (HE.out.stay k9)
    clear k0 k1 k2 SS KV SA kV hbV d0 d1 d2 d3 d4 d5 d6 d7 d8 d9 d10 f0 f1 f2 f3 f4 f5 f6 f7 f8 f9 f10
    obtain ⟨⟨a0, a9⟩, s0, s1, s2, s3, s4, s5, s6, s7, s8, s9, s10⟩ := HE.out.bn
    have hC := HE.out.free _ (Keeps.refl _ _)
    go_wp2_with (go_at_call 12; (with_reducible refine (hNum _ _).mono ?_); rintro r wN ⟨rfl, rfl⟩)
    (with_reducible refine hC.mono ?_)
    rintro r V3 ⟨rfl, kV3⟩
    replace HE := hide (HE.out.stay kV3)
    clear hC a0 a9 s0 s1 s2 s3 s4 s5 s6 s7 s8 s9 s10 kV3
    obtain ⟨⟨a0, a9⟩, s0, s1, s2, s3, s4, s5, s6, s7, s8, s9, s10⟩ := HE.out.bn
    have hC := HE.out.ret _ (Keeps.refl _ _)
    go_wp2_with (go_at_call 12; (with_reducible refine (hNum _ _).mono ?_); rintro r wN ⟨rfl, rfl⟩)
    (with_reducible refine hC.mono ?_)
    rintro r V3 ⟨rfl, kV3⟩
    replace HE := hide (HE.out.stay kV3)
    clear hC a0 a9 s0 s1 s2 s3 s4 s5 s6 s7 s8 s9 s10 kV3
    obtain ⟨⟨a0, a9⟩, s0, s1, s2, s3, s4, s5, s6, s7, s8, s9, s10⟩ := HE.out.bn
    have hC := HE.out.next _ (Keeps.refl _ _)
    go_wp2_with (go_at_call 12; (with_reducible refine (hNum _ _).mono ?_); rintro r wN ⟨rfl, rfl⟩)
    (with_reducible refine hC.mono ?_)
    rintro r V3 ⟨rfl, kV3⟩
    replace HE := hide (HE.out.stay kV3)
    clear hC a0 a9 s0 s1 s2 s3 s4 s5 s6 s7 s8 s9 s10 kV3
    obtain ⟨⟨a0, a9⟩, s0, s1, s2, s3, s4, s5, s6, s7, s8, s9, s10⟩ := HE.out.bn
    have hC := HE.out.live _ (Keeps.refl _ _)
    have HK := hide HE.out.keep
    go_wp2_with (go_at_call 12; (with_reducible refine (hNum _ _).mono ?_); rintro r wN ⟨rfl, rfl⟩)
    (with_reducible refine hC.mono ?_)
    rintro r V3 ⟨rfl, rfl⟩
    go_wp2_with fail
    go_ret
    exact ⟨rfl, HK.out⟩
end
end Go.Proofs.YtgckinldnnckoaaGreatDoor
