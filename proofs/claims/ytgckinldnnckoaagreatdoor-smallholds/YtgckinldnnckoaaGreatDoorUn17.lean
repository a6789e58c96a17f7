import Derived.Test.YtgckinldnnckoaaGreatDoorRows
import Derived.ProofKit
import Derived.LaidMore
import Derived.OpenShut
import Derived.Stop.Joined
import Derived.Lib.LaidTab
import Derived.Test.YtgckinldnnckoaaGreatDoorChecked
import Derived.WalkKit
import Derived.Below
import Derived.IntWalk
import Derived.Laws.Bits64
import Derived.Laws.BitsAll
import Derived.Deep.QuietTactic
import Derived.BigQuiet
import Derived.Test.YtgckinldnnckoaaGreatDoorUn16
/-
  small's law: bench's walk, where a small one is made.
-/
namespace Go.Proofs.YtgckinldnnckoaaGreatDoor
open Go.RowKit Go.Shelf Ly Ct
set_option linter.unusedVariables false
theorem append_runS {P : Program} (w : World) {ops : Array Oper} {rest : List Oper} {o : Oper} {a : Act} {Q : Exit → Act → World → Prop}
    (hgd : o.guard = none) (s x : Operand) (t : TypeId) (hop : o.op = Op.call { callee := Callee.builtin Builtin.append, args := #[s, x], argTypes := #[t, t] }) {v u v' : Value} {w' : World} (hs : a.eval s = v) (hx : a.eval x = u)
    (hrun : (Builtin.append_ #[t, t] o.type #[v, u]).run P w = .ok v' w') (hK : wpList P ops Q rest (a.put o.dst v') w') : wpList P ops Q (o :: rest) a w := by
  refine wpList_plain hgd fun K hK' => ?_
  unfold Oper.wp
  simp [execOp, hop, resolve, invoke, builtin, hs, hx, hrun, Result.andThen]
  exact hK' _ _ hK
theorem fourS {W : World} {q : Nat} {a0 a1 a2 a3 : Value} {t : TypeId} (h : W.heap[q]? = some (.cells #[a0, a1, a2, a3] t)) : W.cell? ⟨q, 0, none⟩ = some a0 ∧ W.cell? ⟨q, 1, none⟩ = some a1 ∧ W.cell? ⟨q, 2, none⟩ = some a2 ∧ W.cell? ⟨q, 3, none⟩ = some a3 := by
  simp [World.cell?, h]
theorem nineS {W : World} {q : Nat} {a0 a1 a2 a3 a4 a5 a6 a7 a8 : Value} {t : TypeId} (h : W.heap[q]? = some (.cells #[a0, a1, a2, a3, a4, a5, a6, a7, a8] t)) : W.cell? ⟨q, 0, none⟩ = some a0 ∧ W.cell? ⟨q, 1, none⟩ = some a1 ∧ W.cell? ⟨q, 2, none⟩ = some a2 ∧ W.cell? ⟨q, 3, none⟩ = some a3 ∧ W.cell? ⟨q, 4, none⟩ = some a4 ∧ W.cell? ⟨q, 5, none⟩ = some a5 ∧ W.cell? ⟨q, 6, none⟩ = some a6 ∧ W.cell? ⟨q, 7, none⟩ = some a7 ∧ W.cell? ⟨q, 8, none⟩ = some a8 := by
  simp [World.cell?, h]
theorem elevenS {W : World} {q : Nat} {a0 a1 a2 a3 a4 a5 a6 a7 a8 a9 a10 : Value} {t : TypeId} (h : W.heap[q]? = some (.cells #[a0, a1, a2, a3, a4, a5, a6, a7, a8, a9, a10] t)) : W.cell? ⟨q, 0, none⟩ = some a0 ∧ W.cell? ⟨q, 1, none⟩ = some a1 ∧ W.cell? ⟨q, 2, none⟩ = some a2 ∧ W.cell? ⟨q, 3, none⟩ = some a3 ∧ W.cell? ⟨q, 4, none⟩ = some a4 ∧ W.cell? ⟨q, 5, none⟩ = some a5 ∧ W.cell? ⟨q, 6, none⟩ = some a6 ∧ W.cell? ⟨q, 7, none⟩ = some a7 ∧ W.cell? ⟨q, 8, none⟩ = some a8 ∧ W.cell? ⟨q, 9, none⟩ = some a9 ∧ W.cell? ⟨q, 10, none⟩ = some a10 := by
  simp [World.cell?, h]


set_option maxRecDepth 100000 in
set_option maxHeartbeats 8000000 in
theorem sbench_yes (fs ts : Value) (a : Option Addr) (cap seed : Nat) (os : List Oc.Ovr) (l : Lay) (w : World) (hv : validB l = true) (hPar : ∀ W, Keeps w W (fun _ => False) → Calls Tryz.prog 13 #[fs] W fun r w' => r = .returned (.tuple #[.agg #[.int .i64 l.k, .int .i64 l.e, .int .i64 l.a, .int .i64 l.b, .int .i64 l.c, .int .i64 l.eo, .int .i64 l.bo, .int .i64 l.s, .int .i64 l.g], .int .i64 0]) ∧ Keeps W w' (fun _ => False)) (hO : Oc.RowO w (.slice a os.length cap) os) (h0 : Oc.scanN os os.length = 0) :
    Calls Tryz.prog 7 #[planV fs a os.length cap seed ts, .int .i64 65536] w fun e w' => SBench w l seed os e w' := by
  have hfew := hide (over_few h0)
  have hRn : Hid (∀ W, Keeps w W (fun _ => False) → Calls Tryz.prog 25 #[.slice a os.length cap] W (Oc.RNewPost W os)) := fun W k => Oc.rnew_any a cap os W (hO.kp (k.below (Nat.le_refl _) (fun _ _ e => e)))
  have hOv : Hid (∀ W, Keeps w W (fun _ => False) → Oc.RowO W (.slice a os.length cap) os) := fun W k => hO.kp (k.below (Nat.le_refl _) (fun _ _ e => e))
  have hNew : Hid (∀ W, Calls Tryz.prog 26 #[.int .i64 65536] W fun e w' => ∃ p, e = .returned (.tuple #[.pointer (some ⟨p, 0, none⟩), .int .i64 0]) ∧ Own W w' p (fun _ => False) (AD.fresh 65536)) := fun W => own_new 65536 (by omega)
  have hNum := fun x W => snum_any x W
  have hSn : Hid (∀ {W : World} {p : Nat} {F : Nat → Prop}, Arena W p F (AD.fresh 65536) → (∀ k, F k → k < W.heap.size) → _) := fun hA hFl => snew_fresh hv hA hFl
  have H0 := hide h0
  clear hO h0 hv
  unfold planV SBench
  go_enter Tryz.func7, Tryz.ntmps7
  go_wp2_with fail
  refine alloc1 (P := fun W => Calls _ _ _ W _) fun W0 hb hz K0 => ?_
  (with_reducible refine (hPar _ K0).mono ?_)
  rintro r w1 ⟨rfl, k1⟩
  have k2 : Keeps w1 (w1.alloc (.cells #[.int .i64 l.k, .int .i64 l.e, .int .i64 l.a, .int .i64 l.b, .int .i64 l.c, .int .i64 l.eo, .int .i64 l.bo, .int .i64 l.s, .int .i64 l.g] 38)) (fun _ => False) := (Keeps.refl _ _).alloc _
  have hb2 := k2.blk (k1.blk hb)
  have hl2 := heap_alloc_new w1 (.cells #[.int .i64 l.k, .int .i64 l.e, .int .i64 l.a, .int .i64 l.b, .int .i64 l.c, .int .i64 l.eo, .int .i64 l.bo, .int .i64 l.s, .int .i64 l.g] 38)
  have q1 : (w1.alloc (.cells #[.int .i64 l.k, .int .i64 l.e, .int .i64 l.a, .int .i64 l.b, .int .i64 l.c, .int .i64 l.eo, .int .i64 l.bo, .int .i64 l.s, .int .i64 l.g] 38)).cell? ⟨w.heap.size, 1, none⟩ = some (.slice a os.length cap) := by simp only [World.cell?, hb2]; rfl
  have KK := hide ((K0.trans k1 (fun _ _ e => e)).trans k2 (fun _ _ e => e))
  have H2 := hide (And.intro hb2 hl2)
  clear hPar k1 k2 K0 hb hb2 hz hl2
  go_wp2_with fail
  generalize w1.alloc (.cells #[.int .i64 l.k, .int .i64 l.e, .int .i64 l.a, .int .i64 l.b, .int .i64 l.c, .int .i64 l.eo, .int .i64 l.bo, .int .i64 l.s, .int .i64 l.g] 38) = W2 at *
  generalize w1.heap.size = B1 at *
  (with_reducible refine (hRn.out _ KK.out).mono ?_)
  rintro r w3 ⟨k3, ⟨hs, rfl⟩ | ⟨hs, pp, rfl, -⟩⟩
  · exact absurd H0.out hs
  have K3 := hide (KK.out.trans (below_keeps k3) (fun _ _ e => e))
  have H3 := hide (And.intro ((below_keeps k3).blk H2.out.1) ((below_keeps k3).blk H2.out.2))
  clear KK k3 q1 hRn hs H2
  go_wp2_with fail
  (with_reducible refine (hNew.out _).mono ?_)
  rintro r w4 ⟨p, rfl, hO4⟩
  have Z3 := hide K3.out.size
  have K4 := hide (K3.out.trans hO4.keeps (fun _ _ e => e))
  have H4 := hide (And.intro (hO4.keeps.blk H3.out.1) (hO4.keeps.blk H3.out.2))
  have HO4 := hide hO4
  have HB3 := hide (And.intro (heap_lt H3.out.1) (heap_lt H3.out.2))
  have hb4 := H4.out.1
  have q4 : w4.cell? ⟨w.heap.size, 1, none⟩ = some (.slice a os.length cap) := by simp only [World.cell?, hb4]; rfl
  have q4' : (w4.alloc (.cells #[] 126)).cell? ⟨w.heap.size, 1, none⟩ = some (.slice a os.length cap) := by
    have := ((Keeps.refl w4 (fun _ => False)).alloc (.cells #[] 126)).blk hb4
    simp only [World.cell?, this]
    rfl
  obtain ⟨a5, c5, w5, r5, h5, k5⟩ := Oc.append_overs w4 (hOv.out _ K4.out) (by have := hfew.out; omega)
  clear hO4 hNew hb4 H3 K3
  generalize hB0 : w.heap.size = B0 at *
  go_wp2_with (first | (at_builtin; have _t := r5; refine append_runS _ rfl (.tmp 41) (.tmp 43) 23 rfl rfl rfl r5 ?_; clear r5))
  (with_reducible refine (Oc.new_at a5 c5 os w5 h5).mono ?_)
  rintro r w6 ⟨k6, ⟨hs, rfl⟩ | ⟨-, rfl, hOr⟩⟩
  · exact absurd H0.out hs
  have k46 := below_keeps (k5.trans k6)
  have own6 : Own w w6 p (fun k => k < w3.heap.size ∨ k = w5.heap.size + 1 ∨ k = w5.heap.size) (AD.fresh 65536) := by
    have z5 := k5.size
    have z3 := Z3.out
    refine ⟨(HO4.out.arena.mono (fun i hi e => ⟨Nat.le_trans (show w.heap.size ≤ w3.heap.size by omega) e.1, fun x => ?_⟩)).keeps k46 (fun _ _ _ e => e), K4.out.trans k46 (fun _ _ e => e)⟩
    have := e.1
    omega
  have hn6 : w3.heap.size ≤ w6.heap.size := Nat.le_trans HO4.out.keeps.size k46.size
  have hq6 := heap_lt hOr.1
  have hm6 := hOr.2.lt
  have hqw : w.heap.size ≤ w5.heap.size := Nat.le_trans K4.out.size k5.size
  have hb6 := k46.blk H4.out.1
  have hl6 := k46.blk H4.out.2
  have HX := hide (And.intro own6 (And.intro hn6 (And.intro hq6 (And.intro hm6 (And.intro hOr hqw)))))
  have H6 := hide (And.intro hb6 hl6)
  have hS6 := hSn.out own6.here (fun k q => q.2)
  obtain ⟨l0, l1, l2, l3, l4, l5, l6, l7, l8⟩ := nineS hl6
  clear K4 H4 k46 own6 hn6 hq6 hm6 hOr hqw hb6 hl6 k5 k6 h5 HO4 Z3 hOv hSn q4 q4'
  generalize w5.heap.size = Q at *
  go_wp2_with fail
  (with_reducible refine (hNum _ _).mono ?_)
  rintro r wx ⟨rfl, rfl⟩
  go_wp2_with fail
  (with_reducible refine (hNum _ _).mono ?_)
  rintro r wy ⟨rfl, rfl⟩
  go_wp2_with fail
  (with_reducible refine hS6.mono ?_)
  rintro r W7 ⟨rfl, d7, hT7, hF7, hs7, hD7⟩
  have b7 := hT7.2.blkS H6.out.1 (fun q => q.1.2 (Or.inl HB3.out.1))
  have c7 := hT7.2.blkS H6.out.2 (fun q => q.1.2 (Or.inl HB3.out.2))
  have k78 : Keeps W7 (W7.alloc (Obj.cells #[.pointer (some ⟨p, 0, none⟩), .int .i64 l.k, .int .i64 l.e, .int .i64 l.a, .int .i64 l.b, .int .i64 l.c, .int .i64 l.eo, .int .i64 l.bo, .int .i64 l.s, .int .i64 l.g, .int .i64 (16 : Int)] 41)) (fun _ => False) := (Keeps.refl _ _).alloc _
  have b8 := k78.blk b7
  have c8 := k78.blk c7
  have s8 := heap_alloc_new W7 (Obj.cells #[.pointer (some ⟨p, 0, none⟩), .int .i64 l.k, .int .i64 l.e, .int .i64 l.a, .int .i64 l.b, .int .i64 l.c, .int .i64 l.eo, .int .i64 l.bo, .int .i64 l.s, .int .i64 l.g, .int .i64 (16 : Int)] 41)
  have z8 : (W7.alloc (Obj.cells #[.pointer (some ⟨p, 0, none⟩), .int .i64 l.k, .int .i64 l.e, .int .i64 l.a, .int .i64 l.b, .int .i64 l.c, .int .i64 l.eo, .int .i64 l.bo, .int .i64 l.s, .int .i64 l.g, .int .i64 (16 : Int)] 41)).heap.size = W7.heap.size + 1 := World.size_alloc _ _
  have hfin : Hid (∀ W9, W9.heap[(W7.alloc (Obj.cells #[.pointer (some ⟨p, 0, none⟩), .int .i64 l.k, .int .i64 l.e, .int .i64 l.a, .int .i64 l.b, .int .i64 l.c, .int .i64 l.eo, .int .i64 l.bo, .int .i64 l.s, .int .i64 l.g, .int .i64 (16 : Int)] 41)).heap.size]? = some (.cells (benT p l (Q + 1) fs (.slice a os.length cap) seed ts) 46) → Keeps (W7.alloc (Obj.cells #[.pointer (some ⟨p, 0, none⟩), .int .i64 l.k, .int .i64 l.e, .int .i64 l.a, .int .i64 l.b, .int .i64 l.c, .int .i64 l.eo, .int .i64 l.bo, .int .i64 l.s, .int .i64 l.g, .int .i64 (16 : Int)] 41)) W9 (fun _ => False) → ∃ (b p2 q2 m2 : Nat) (d : AD) (X : Nat → Prop), Ending.returned (.tuple #[.pointer (some ⟨(W7.alloc (Obj.cells #[.pointer (some ⟨p, 0, none⟩), .int .i64 l.k, .int .i64 l.e, .int .i64 l.a, .int .i64 l.b, .int .i64 l.c, .int .i64 l.eo, .int .i64 l.bo, .int .i64 l.s, .int .i64 l.g, .int .i64 (16 : Int)] 41)).heap.size, 0, none⟩), .bool true, .bool true]) = .returned (.tuple #[.pointer (some ⟨b, 0, none⟩), .bool true, .bool true]) ∧ SB w b p2 l 16 q2 m2 os.length seed X (Oc.mapN os os.length) d hdS (fun _ => GC.zero) (fun _ => GC.zero) 0 W9 ∧ q2 ≠ b ∧ m2 ≠ b ∧ w.heap.size ≤ b) := fun W9 hb9 k9 => by
    obtain ⟨own6, hn6, hq6, hm6, hOr, hqw⟩ := HX.out
    exact ⟨_, p, Q + 1, Q, d7, _, rfl, sb_new own6 hn6 hq6 hm6 hOr (by omega) (by omega) hT7 hF7 hs7 hD7 (by omega) (k78.trans k9 (fun _ _ e => e)) hb9⟩
  obtain ⟨p0, p1, p2, p3⟩ := fourS b8
  obtain ⟨m0, m1, m2, m3, m4, m5, m6, m7, m8⟩ := nineS c8
  obtain ⟨t0, t1, t2, t3, t4, t5, t6, t7, t8, t9, t10⟩ := elevenS s8
  clear b7 c7 k78 z8 hT7 hF7 hs7 hD7 HX H6 HB3 hS6 l0 l1 l2 l3 l4 l5 l6 l7 l8 hB0
  go_wp2_with fail
  generalize W7.alloc (Obj.cells #[.pointer (some ⟨p, 0, none⟩), .int .i64 l.k, .int .i64 l.e, .int .i64 l.a, .int .i64 l.b, .int .i64 l.c, .int .i64 l.eo, .int .i64 l.bo, .int .i64 l.s, .int .i64 l.g, .int .i64 (16 : Int)] 41) = W8 at *
  generalize W7.heap.size = B8 at *
  have S0 : (fun w' : World => w'.cell? ⟨B0, 0, none⟩ = some (fs) ∧ w'.cell? ⟨B0, 1, none⟩ = some (.slice a os.length cap) ∧ w'.cell? ⟨B0, 2, none⟩ = some (.int .u64 (seed : Int)) ∧ w'.cell? ⟨B0, 3, none⟩ = some (ts) ∧ w'.cell? ⟨B1, 0, none⟩ = some (.int .i64 l.k) ∧ w'.cell? ⟨B1, 1, none⟩ = some (.int .i64 l.e) ∧ w'.cell? ⟨B1, 2, none⟩ = some (.int .i64 l.a) ∧ w'.cell? ⟨B1, 3, none⟩ = some (.int .i64 l.b) ∧ w'.cell? ⟨B1, 4, none⟩ = some (.int .i64 l.c) ∧ w'.cell? ⟨B1, 5, none⟩ = some (.int .i64 l.eo) ∧ w'.cell? ⟨B1, 6, none⟩ = some (.int .i64 l.bo) ∧ w'.cell? ⟨B1, 7, none⟩ = some (.int .i64 l.s) ∧ w'.cell? ⟨B1, 8, none⟩ = some (.int .i64 l.g) ∧ w'.cell? ⟨B8, 0, none⟩ = some (.pointer (some ⟨p, 0, none⟩)) ∧ w'.cell? ⟨B8, 1, none⟩ = some (.int .i64 l.k) ∧ w'.cell? ⟨B8, 2, none⟩ = some (.int .i64 l.e) ∧ w'.cell? ⟨B8, 3, none⟩ = some (.int .i64 l.a) ∧ w'.cell? ⟨B8, 4, none⟩ = some (.int .i64 l.b) ∧ w'.cell? ⟨B8, 5, none⟩ = some (.int .i64 l.c) ∧ w'.cell? ⟨B8, 6, none⟩ = some (.int .i64 l.eo) ∧ w'.cell? ⟨B8, 7, none⟩ = some (.int .i64 l.bo) ∧ w'.cell? ⟨B8, 8, none⟩ = some (.int .i64 l.s) ∧ w'.cell? ⟨B8, 9, none⟩ = some (.int .i64 l.g) ∧ w'.cell? ⟨B8, 10, none⟩ = some (.int .i64 16)) W8.drew := ⟨p0, p1, p2, p3, m0, m1, m2, m3, m4, m5, m6, m7, m8, t0, t1, t2, t3, t4, t5, t6, t7, t8, t9, t10⟩
  have S1 : ∀ o, (fun w' : World => w'.cell? ⟨B0, 0, none⟩ = some (fs) ∧ w'.cell? ⟨B0, 1, none⟩ = some (.slice a os.length cap) ∧ w'.cell? ⟨B0, 2, none⟩ = some (.int .u64 (seed : Int)) ∧ w'.cell? ⟨B0, 3, none⟩ = some (ts) ∧ w'.cell? ⟨B1, 0, none⟩ = some (.int .i64 l.k) ∧ w'.cell? ⟨B1, 1, none⟩ = some (.int .i64 l.e) ∧ w'.cell? ⟨B1, 2, none⟩ = some (.int .i64 l.a) ∧ w'.cell? ⟨B1, 3, none⟩ = some (.int .i64 l.b) ∧ w'.cell? ⟨B1, 4, none⟩ = some (.int .i64 l.c) ∧ w'.cell? ⟨B1, 5, none⟩ = some (.int .i64 l.eo) ∧ w'.cell? ⟨B1, 6, none⟩ = some (.int .i64 l.bo) ∧ w'.cell? ⟨B1, 7, none⟩ = some (.int .i64 l.s) ∧ w'.cell? ⟨B1, 8, none⟩ = some (.int .i64 l.g) ∧ w'.cell? ⟨B8, 0, none⟩ = some (.pointer (some ⟨p, 0, none⟩)) ∧ w'.cell? ⟨B8, 1, none⟩ = some (.int .i64 l.k) ∧ w'.cell? ⟨B8, 2, none⟩ = some (.int .i64 l.e) ∧ w'.cell? ⟨B8, 3, none⟩ = some (.int .i64 l.a) ∧ w'.cell? ⟨B8, 4, none⟩ = some (.int .i64 l.b) ∧ w'.cell? ⟨B8, 5, none⟩ = some (.int .i64 l.c) ∧ w'.cell? ⟨B8, 6, none⟩ = some (.int .i64 l.eo) ∧ w'.cell? ⟨B8, 7, none⟩ = some (.int .i64 l.bo) ∧ w'.cell? ⟨B8, 8, none⟩ = some (.int .i64 l.s) ∧ w'.cell? ⟨B8, 9, none⟩ = some (.int .i64 l.g) ∧ w'.cell? ⟨B8, 10, none⟩ = some (.int .i64 16)) (W8.alloc o) := fun o => by
    have k : Keeps W8 (W8.alloc o) (fun _ => False) := (Keeps.refl _ _).alloc _
    obtain ⟨x0, x1, x2, x3⟩ := fourS (k.blk b8)
    obtain ⟨y0, y1, y2, y3, y4, y5, y6, y7, y8⟩ := nineS (k.blk c8)
    obtain ⟨z0, z1, z2, z3, z4, z5, z6, z7, z8, z9, z10⟩ := elevenS (k.blk s8)
    exact ⟨x0, x1, x2, x3, y0, y1, y2, y3, y4, y5, y6, y7, y8, z0, z1, z2, z3, z4, z5, z6, z7, z8, z9, z10⟩
  have S2 : ∀ o, (fun w' : World => w'.cell? ⟨B0, 0, none⟩ = some (fs) ∧ w'.cell? ⟨B0, 1, none⟩ = some (.slice a os.length cap) ∧ w'.cell? ⟨B0, 2, none⟩ = some (.int .u64 (seed : Int)) ∧ w'.cell? ⟨B0, 3, none⟩ = some (ts) ∧ w'.cell? ⟨B1, 0, none⟩ = some (.int .i64 l.k) ∧ w'.cell? ⟨B1, 1, none⟩ = some (.int .i64 l.e) ∧ w'.cell? ⟨B1, 2, none⟩ = some (.int .i64 l.a) ∧ w'.cell? ⟨B1, 3, none⟩ = some (.int .i64 l.b) ∧ w'.cell? ⟨B1, 4, none⟩ = some (.int .i64 l.c) ∧ w'.cell? ⟨B1, 5, none⟩ = some (.int .i64 l.eo) ∧ w'.cell? ⟨B1, 6, none⟩ = some (.int .i64 l.bo) ∧ w'.cell? ⟨B1, 7, none⟩ = some (.int .i64 l.s) ∧ w'.cell? ⟨B1, 8, none⟩ = some (.int .i64 l.g) ∧ w'.cell? ⟨B8, 0, none⟩ = some (.pointer (some ⟨p, 0, none⟩)) ∧ w'.cell? ⟨B8, 1, none⟩ = some (.int .i64 l.k) ∧ w'.cell? ⟨B8, 2, none⟩ = some (.int .i64 l.e) ∧ w'.cell? ⟨B8, 3, none⟩ = some (.int .i64 l.a) ∧ w'.cell? ⟨B8, 4, none⟩ = some (.int .i64 l.b) ∧ w'.cell? ⟨B8, 5, none⟩ = some (.int .i64 l.c) ∧ w'.cell? ⟨B8, 6, none⟩ = some (.int .i64 l.eo) ∧ w'.cell? ⟨B8, 7, none⟩ = some (.int .i64 l.bo) ∧ w'.cell? ⟨B8, 8, none⟩ = some (.int .i64 l.s) ∧ w'.cell? ⟨B8, 9, none⟩ = some (.int .i64 l.g) ∧ w'.cell? ⟨B8, 10, none⟩ = some (.int .i64 16)) (W8.alloc o).drew := fun o => S1 o
  have S3 : ∀ o, (fun w' : World => w'.cell? ⟨B0, 0, none⟩ = some (fs) ∧ w'.cell? ⟨B0, 1, none⟩ = some (.slice a os.length cap) ∧ w'.cell? ⟨B0, 2, none⟩ = some (.int .u64 (seed : Int)) ∧ w'.cell? ⟨B0, 3, none⟩ = some (ts) ∧ w'.cell? ⟨B1, 0, none⟩ = some (.int .i64 l.k) ∧ w'.cell? ⟨B1, 1, none⟩ = some (.int .i64 l.e) ∧ w'.cell? ⟨B1, 2, none⟩ = some (.int .i64 l.a) ∧ w'.cell? ⟨B1, 3, none⟩ = some (.int .i64 l.b) ∧ w'.cell? ⟨B1, 4, none⟩ = some (.int .i64 l.c) ∧ w'.cell? ⟨B1, 5, none⟩ = some (.int .i64 l.eo) ∧ w'.cell? ⟨B1, 6, none⟩ = some (.int .i64 l.bo) ∧ w'.cell? ⟨B1, 7, none⟩ = some (.int .i64 l.s) ∧ w'.cell? ⟨B1, 8, none⟩ = some (.int .i64 l.g) ∧ w'.cell? ⟨B8, 0, none⟩ = some (.pointer (some ⟨p, 0, none⟩)) ∧ w'.cell? ⟨B8, 1, none⟩ = some (.int .i64 l.k) ∧ w'.cell? ⟨B8, 2, none⟩ = some (.int .i64 l.e) ∧ w'.cell? ⟨B8, 3, none⟩ = some (.int .i64 l.a) ∧ w'.cell? ⟨B8, 4, none⟩ = some (.int .i64 l.b) ∧ w'.cell? ⟨B8, 5, none⟩ = some (.int .i64 l.c) ∧ w'.cell? ⟨B8, 6, none⟩ = some (.int .i64 l.eo) ∧ w'.cell? ⟨B8, 7, none⟩ = some (.int .i64 l.bo) ∧ w'.cell? ⟨B8, 8, none⟩ = some (.int .i64 l.s) ∧ w'.cell? ⟨B8, 9, none⟩ = some (.int .i64 l.g) ∧ w'.cell? ⟨B8, 10, none⟩ = some (.int .i64 16)) (W8.drew.alloc o) := fun o => S1 o
  have H8 := hide (And.intro b8 (And.intro c8 s8))
  clear b8 c8 s8
  go_region_held3 (fun w' : World => w'.cell? ⟨B0, 0, none⟩ = some (fs) ∧ w'.cell? ⟨B0, 1, none⟩ = some (.slice a os.length cap) ∧ w'.cell? ⟨B0, 2, none⟩ = some (.int .u64 (seed : Int)) ∧ w'.cell? ⟨B0, 3, none⟩ = some (ts) ∧ w'.cell? ⟨B1, 0, none⟩ = some (.int .i64 l.k) ∧ w'.cell? ⟨B1, 1, none⟩ = some (.int .i64 l.e) ∧ w'.cell? ⟨B1, 2, none⟩ = some (.int .i64 l.a) ∧ w'.cell? ⟨B1, 3, none⟩ = some (.int .i64 l.b) ∧ w'.cell? ⟨B1, 4, none⟩ = some (.int .i64 l.c) ∧ w'.cell? ⟨B1, 5, none⟩ = some (.int .i64 l.eo) ∧ w'.cell? ⟨B1, 6, none⟩ = some (.int .i64 l.bo) ∧ w'.cell? ⟨B1, 7, none⟩ = some (.int .i64 l.s) ∧ w'.cell? ⟨B1, 8, none⟩ = some (.int .i64 l.g) ∧ w'.cell? ⟨B8, 0, none⟩ = some (.pointer (some ⟨p, 0, none⟩)) ∧ w'.cell? ⟨B8, 1, none⟩ = some (.int .i64 l.k) ∧ w'.cell? ⟨B8, 2, none⟩ = some (.int .i64 l.e) ∧ w'.cell? ⟨B8, 3, none⟩ = some (.int .i64 l.a) ∧ w'.cell? ⟨B8, 4, none⟩ = some (.int .i64 l.b) ∧ w'.cell? ⟨B8, 5, none⟩ = some (.int .i64 l.c) ∧ w'.cell? ⟨B8, 6, none⟩ = some (.int .i64 l.eo) ∧ w'.cell? ⟨B8, 7, none⟩ = some (.int .i64 l.bo) ∧ w'.cell? ⟨B8, 8, none⟩ = some (.int .i64 l.s) ∧ w'.cell? ⟨B8, 9, none⟩ = some (.int .i64 l.g) ∧ w'.cell? ⟨B8, 10, none⟩ = some (.int .i64 16)) (first | with_reducible exact S0 | with_reducible exact S1 _ | with_reducible exact S2 _ | with_reducible exact S3 _ | with_reducible assumption) (first | (go_at_call 12; (with_reducible refine (hNum _ _).mono ?_); rintro r wq ⟨rfl, rfl⟩))
  all_goals
    clear S0 S1 S2 S3
    go_wp2_with fail
    refine bodyPost_ret (v := .tuple #[.pointer (some ⟨W8.heap.size, 0, none⟩), .bool true, .bool true]) (by simp [results, Tryz.results7, go_sem]) rfl ?_
    unfold benT at hfin
    refine hfin.out _ ?_ ?_
    · exact heap_alloc_new W8 _
    · first | exact ((Keeps.refl W8 (fun _ => False)).alloc _).drew | exact (Keeps.refl W8 (fun _ => False)).alloc _ | exact (Keeps.refl W8 (fun _ => False)).drew.alloc _
end Go.Proofs.YtgckinldnnckoaaGreatDoor
/-
  SmallHolds: its walk.
-/
namespace Go.Proofs.YtgckinldnnckoaaGreatDoor
open Go.RowKit Go.Shelf Ly Ct
set_option linter.unusedVariables false
/-- What bench answers, whatever plan. -/
def SBenchAny (w : World) (l : Lay) (seed : Nat) (os : List Oc.Ovr) (e : Ending) (w' : World) : Prop :=
  (e = .returned (.tuple #[.pointer none, .bool true, .bool false]) ∧ Keeps w w' (fun _ => False)) ∨ SBench w l seed os e w'
/-- A plan that came in, as it stays. -/
structure SPlan (w : World) (l : Lay) (fs : Value) (a : Option Addr) (cap seed : Nat) (os : List Oc.Ovr) (ta : Option Addr) (tc : Nat) (ss : List (Int × Int × Int)) : Prop where
  bench : ∀ W, Keeps w W (fun _ => False) → Calls Tryz.prog 7 #[planV fs a os.length cap seed (.slice ta ss.length tc), .int .i64 65536] W fun e w' => SBenchAny W l seed os e w'
  turns : ∀ i (hi : i < ss.length), ∃ tb tq, ta = some ⟨tb, tq, none⟩ ∧ ∀ W, Keeps w W (fun _ => False) → W.cell? ⟨tb, tq + i * 3, none⟩ = some (.int .i64 ss[i].1) ∧ W.cell? ⟨tb, tq + i * 3 + 1, none⟩ = some (.int .i64 ss[i].2.1) ∧ W.cell? ⟨tb, tq + i * 3 + 2, none⟩ = some (.int .i64 ss[i].2.2)
  few : ss.length ≤ 8796093022208
  fits : ∀ x ∈ ss, fitsI x.1 ∧ fitsI x.2.1 ∧ fitsI x.2.2
  tab : TabAt w
  odd : Oc.OddAt w
  sd : seed < 18446744073709551616
  gl : ∀ k x, Oc.mapN os os.length k = some x → x < 18446744073709551616
namespace smallHolds
set_option maxRecDepth 100000 in
set_option maxHeartbeats 8000000 in
theorem walk {w : World} {l : Lay} {fs : Value} {a : Option Addr} {cap seed : Nat} {os : List Oc.Ovr} {ta : Option Addr} {tc : Nat} {ss : List (Int × Int × Int)} (h : SPlan w l fs a cap seed os ta tc ss) :
    Calls Tryz.prog 3 #[planV fs a os.length cap seed (.slice ta ss.length tc)] w fun e w' => e = .returned (.bool true) ∧ Keeps w w' (fun _ => False) := by
  have hBe := hide h.bench
  have hfew := h.few
  have hFit := hide h.fits
  have hTn : Hid (∀ i (hi : i < ss.length), _) := fun i hi => h.turns i hi
  have HE : Hid (∀ W b q m, Keeps w W (fun _ => False) → q ≠ b → m ≠ b → W.heap.size ≤ b → SEnv W b q m seed (Oc.mapN os os.length)) := fun W b q m k h1 h2 h3 => ⟨h.tab.kp (k.below (Nat.le_refl _) (fun _ _ e => e)), h.odd.kp (k.below (Nat.le_refl _) (fun _ _ e => e)), h.sd, h.gl, h1, h2, h3⟩
  clear h
  unfold planV at hBe ⊢
  go_enter Tryz.func3, Tryz.ntmps3
  go_wp2_with fail
  refine alloc1 (P := fun W => Calls _ _ _ W _) fun W0 hb hz k0 => ?_
  (with_reducible refine (hBe.out _ k0).mono ?_)
  clear hBe
  rintro r w1 (⟨rfl, k1⟩ | ⟨b, p, q, m, d, X, rfl, hB, hqb, hmb, hwb⟩)
  · go_wp2_with fail
    go_ret
    exact ⟨rfl, k0.trans k1 (fun _ _ e => e)⟩
  · have hq3 : Hid (∀ W, Keeps W0 W (fun _ => False) → W.cell? ⟨w.heap.size, 3, none⟩ = some (.slice ta ss.length tc)) := fun W q => by
      have := q.blk hb
      simp only [World.cell?, this]
      rfl
    have HEn := hide (HE.out W0 b q m k0 hqb hmb hwb)
    have hH1 := sholds_any hB
    have HB1 := hide hB
    clear HE hB hb hz
    generalize w.heap.size = B0 at *
    go_wp2_with fail
    (with_reducible refine hH1.mono ?_)
    rintro r w2 ⟨rfl, k2⟩
    have hB2 := HB1.out.stay k2
    have q3 := hq3.out _ hB2.own.keeps
    have HB0 : Hid (∃ d f c ad, SB W0 b p l 16 q m os.length seed X (Oc.mapN os os.length) d f c c ad w2 ∧ 0 ≤ ad ∧ ad ≤ 0) := ⟨_, _, _, _, hB2, Int.le_refl _, Int.le_refl _⟩
    clear HB1 hH1 hB2 k2 d
    go_wp2_with fail
    clear q3
    go_loopw [26] (fun v26 wr => ∃ i : Nat, v26 = .int .i64 (i : Int) ∧ i ≤ ss.length ∧ Hid (∃ d f c ad, SB W0 b p l 16 q m os.length seed X (Oc.mapN os os.length) d f c c ad wr ∧ 0 ≤ ad ∧ ad ≤ (i : Int))) (fun v26 _ => ss.length - (intOf v26).toNat)
    case atStart => exact ⟨0, rfl, Nat.zero_le _, HB0⟩
    case round =>
      clear HB0
      obtain ⟨i, rfl, hi, HB⟩ := hrel
      by_cases hlt : i < ss.length
      · have hlt' : (i : Int) < (ss.length : Int) := by omega
        obtain ⟨tb, tq, hta, hcs⟩ := hTn.out i hlt
        have hfit := hide (hFit.out _ (List.getElem_mem hlt))
        obtain ⟨x1, x2, x3⟩ := hcs wr (k0.trans (by obtain ⟨_, _, _, _, q, -⟩ := HB.out; exact q.own.keeps) (fun _ _ e => e))
        subst hta
        clear hcs
        generalize ss[i].1 = y1 at *
        generalize ss[i].2.1 = y2 at *
        generalize ss[i].2.2 = y3 at *
        have hTu : Hid (∀ W, Keeps wr W (fun _ => False) → Calls Tryz.prog 9 #[.pointer (some ⟨b, 0, none⟩), .agg #[.int .i64 y1, .int .i64 y2, .int .i64 y3]] W fun e w' => e = .returned (.bool true) ∧ Hid (∃ d f c ad, SB W0 b p l 16 q m os.length seed X (Oc.mapN os os.length) d f c c ad w' ∧ 0 ≤ ad ∧ ad ≤ ((i + 1 : Nat) : Int))) := fun W qk => by
          obtain ⟨d, f, c, ad, hB, ha0, had⟩ := HB.out
          refine (turn_any (hB.stay qk) HEn.out ha0 (by omega) y1 y2 y3 hfit.out.2.2).mono ?_
          rintro e w' ⟨rfl, d', f', c', ad', hB', h0', h1'⟩
          exact ⟨rfl, d', f', c', ad', hB', h0', by omega⟩
        clear HB hfit
        go_wp2_with fail
        refine alloc1 (P := fun W => Calls _ _ _ W _) fun W2 hb2 hz2 k2 => ?_
        (with_reducible refine (hTu.out _ k2).mono ?_)
        rintro e w3 ⟨rfl, HB3⟩
        have hH3 : Calls Tryz.prog 8 #[.pointer (some ⟨b, 0, none⟩)] w3 fun e w' => e = .returned (.bool true) ∧ Hid (∃ d f c ad, SB W0 b p l 16 q m os.length seed X (Oc.mapN os os.length) d f c c ad w' ∧ 0 ≤ ad ∧ ad ≤ ((i + 1 : Nat) : Int)) := by
          obtain ⟨d, f, c, ad, hB, ha0, had⟩ := HB3.out
          refine (sholds_any hB).mono ?_
          rintro e w' ⟨rfl, k⟩
          exact ⟨rfl, d, f, c, ad, hB.stay k, ha0, had⟩
        clear hb2 hz2 k2 hTu x1 x2 x3 HB3
        go_wp2_with fail
        (with_reducible refine hH3.mono ?_)
        rintro e w4 ⟨rfl, HB4⟩
        clear hH3
        go_wp2_with fail
        go_roundw
        case rel => exact ⟨i + 1, by go_num, by omega, HB4⟩
        case measure => simp [intOf]; omega
      · obtain rfl : i = ss.length := by omega
        have hlt' : ¬ (ss.length : Int) < (ss.length : Int) := by omega
        obtain ⟨d, f, c, ad, hB, -, -⟩ := HB.out
        have HK := hide (k0.trans hB.own.keeps (fun _ _ e => e))
        clear HB hB
        go_wp2_with fail
        go_ret
        exact ⟨rfl, HK.out⟩
end smallHolds
end Go.Proofs.YtgckinldnnckoaaGreatDoor
/-
  What the given conditions on the table of math/bits and on oracle.odd tell (made by gensraw.py).
-/
namespace Go.Proofs.YtgckinldnnckoaaGreatDoor
open Go.ChangeShapes Go.WideShapes Go.ChangeAt Go.WideMaps Go.WideElems Go.RowKit Ct

theorem own : ownKnob Tryz.prog.godebug = none := by kernel_rfl
theorem laidOut : laidOutB Tryz.prog = true := by kernel_rfl
theorem gTab : Tryz.prog.globalNamed "math/bits.deBruijn64tab" = some 1 := by kernel_rfl
theorem tTab : (Tryz.prog.globals[1]?).map (·.type) = some 249 := by kernel_rfl
theorem listedTab : (Rows.laid_math_bits_deBruijn64tab : DataW Unit) = Lib.tabData .u8 (tabL.map fun n : Nat => (n : Int)) := rfl

theorem gOdd : Tryz.prog.globalNamed "larder/oracle.odd" = some 0 := by kernel_rfl
theorem tOdd : (Tryz.prog.globals[0]?).map (·.type) = some 184 := by kernel_rfl
theorem listedOdd (H : Type) : (Rows.laid_larder_oracle_odd : DataW H) = .agg [.lit (.int .u64 13234230157428861123), .lit (.int .u64 11329751410908088055)] := rfl

def laidO : List (String × DataW Unit) := [("math/bits.deBruijn64tab", Rows.laid_math_bits_deBruijn64tab), ("larder/oracle.odd", Rows.laid_larder_oracle_odd)]
theorem door_met (os : Os) (args : Array Value) : laidMetH Tryz.prog laidO ((World.doorLaid Tryz.prog 400 os).forCall (fun _ _ => 0) ⟨#[], args, []⟩).memory :=
  laidMetH_of_parts3 (fuel := 8) (laidMet_of_run' 8 (by kernel_rfl) (by kernel_rfl)) (by kernel_rfl) (by kernel_rfl)

theorem tab_of {W : World} (h : laidMetH Tryz.prog laidO W) : TabAt W := by
  rw [MakeChecks.laidMetH_plain _ _ _ (by kernel_rfl)] at h
  have h2 : laidMet Tryz.prog (("math/bits.deBruijn64tab", Lib.tabData .u8 (tabL.map fun n : Nat => (n : Int))) :: [("larder/oracle.odd", Rows.laid_larder_oracle_odd)]) W := h
  have t := Lib.tabIs_of_head gTab tTab Tryz.underlying249 Tryz.underlying5 (by kernel_rfl) (by kernel_rfl) h2
  intro k hk
  have e := t.cell gTab k (by rw [List.length_map]; exact hk)
  rw [e]
  congr 2
  have : (tabL.map fun n : Nat => (n : Int)).getD k 0 = ((tabL.getD k 0 : Nat) : Int) := by
    simp [List.getD]
    cases tabL[k]? <;> rfl
  exact this

set_option maxRecDepth 100000 in
theorem odd_of {W : World} (h : laidMetH Tryz.prog laidO W) : Oc.OddAt W := by
  rw [MakeChecks.laidMetH_plain _ _ _ (by kernel_rfl)] at h
  obtain ⟨ps, ⟨g9, t9, cs9, f9, p9, q9, hg9, ht9, hv9, hd9, ⟨g0, t0, cs0, f0, p0, q0, hg0, ht0, hv0, hd0, _, _⟩, _⟩, _, _⟩ := h
  obtain rfl := Option.some.inj (gOdd.symm.trans hg0)
  obtain rfl := Option.some.inj (tOdd.symm.trans ht0)
  obtain ⟨xs, m1, rfl, hx1, hlen, hn, hel⟩ := DataW.trod_array Tryz.underlying184 hd0
  have c22 : Tryz.prog.cellsOf 24 = 1 := by kernel_rfl
  have h0 := hel 0 (by decide)
  have h1 := hel 1 (by decide)
  rw [listedOdd] at hx1
  simp only [Prod.mk.injEq, DataW.agg.injEq] at hx1
  match xs, hn, hx1, h0, h1 with
  | [x0, x1], _, hx1, h0, h1 =>
    simp only [List.map_cons, List.map_nil, List.cons.injEq] at hx1
    obtain ⟨k0, e0, f0, _⟩ := DataW.trod_int Tryz.underlying24 (show DataW.trod _ Tryz.prog W 0 _ false m1 24 _ = some x0 from h0)
    obtain ⟨k1, e1, f1, _⟩ := DataW.trod_int Tryz.underlying24 (show DataW.trod _ Tryz.prog W 0 _ false m1 24 _ = some x1 from h1)
    have hk0 : k0 = 13234230157428861123 := by rw [f0] at hx1; simpa using hx1.1.1.symm
    have hk1 : k1 = 11329751410908088055 := by rw [f1] at hx1; simpa using hx1.1.2.1.symm
    subst hk0 hk1
    have t0 := World.var?_cell hg0 hv0 0
    have t1 := World.var?_cell hg0 hv0 1
    obtain ⟨l1⟩ := cs0
    rw [c22] at e0 e1
    match l1, e0, e1 with
    | c :: d :: _, e0, e1 =>
      simp at e0 e1
      subst e0 e1
      exact ⟨by simpa using t0, by simpa using t1⟩
end Go.Proofs.YtgckinldnnckoaaGreatDoor
/-
  The parts of a hash as numbers.
-/
namespace Go.Proofs.YtgckinldnnckoaaGreatDoor.Op

def bitN (h : Nat) (d : Int) : Nat := if 0 ≤ d ∧ d < 64 then h / 2 ^ (63 - d.toNat) % 2 else 0
def topN (h : Nat) (d : Int) : Nat := if 1 ≤ d ∧ d ≤ 6 then h / 2 ^ (64 - d.toNat) else 0
/-- The first i bits from the highest on. -/
def headN (h i : Nat) : Nat := h / 2 ^ (64 - i)
theorem bitN_lt (h : Nat) (d : Int) : bitN h d < 2 := by
  unfold bitN
  split
  · exact Nat.mod_lt _ (by decide)
  · decide
theorem headN_zero {h : Nat} (hh : h < 18446744073709551616) : headN h 0 = 0 := by
  unfold headN
  exact Nat.div_eq_of_lt hh
theorem headN_all (h : Nat) : headN h 64 = h := by
  unfold headN
  simp
theorem headN_succ (h i : Nat) (hi : i < 64) : headN h (i + 1) = 2 * headN h i + bitN h (i : Int) := by
  unfold headN bitN
  rw [if_pos ⟨by omega, by omega⟩, Int.toNat_natCast]
  have e : 64 - i = (63 - i) + 1 := by omega
  have e2 : 64 - (i + 1) = 63 - i := by omega
  rw [e2, e, Nat.pow_succ, ← Nat.div_div_eq_div_mul]
  omega
theorem headN_lt (h i : Nat) (hh : h < 18446744073709551616) (hi : i ≤ 64) : headN h i < 2 ^ i := by
  unfold headN
  rw [Nat.div_lt_iff_lt_mul (Nat.two_pow_pos _), ← Nat.pow_add, show i + (64 - i) = 64 by omega]
  exact hh
theorem topN_head (h : Nat) (i : Nat) (hh : h < 18446744073709551616) (hi : i ≤ 6) : topN h (i : Int) = headN h i := by
  unfold topN
  by_cases h0 : i = 0
  · subst h0
    rw [headN_zero hh]
    rfl
  · rw [if_pos ⟨by omega, by omega⟩, Int.toNat_natCast]
    rfl
theorem topN_lt (h : Nat) (d : Int) (hh : h < 18446744073709551616) : topN h d < 64 := by
  unfold topN
  split
  · rename_i hd
    obtain ⟨d1, d6⟩ := hd
    have := headN_lt h d.toNat hh (by omega)
    unfold headN at this
    have h2 : (2 : Nat) ^ d.toNat ≤ 2 ^ 6 := Nat.pow_le_pow_right (by decide) (by omega)
    omega
  · decide
/-- The highest bit dropped i times. -/
def dropN (h i : Nat) : Nat := h * 2 ^ i % 18446744073709551616
theorem dropN_zero {h : Nat} (hh : h < 18446744073709551616) : dropN h 0 = h := by
  unfold dropN
  rw [Nat.pow_zero, Nat.mul_one, Nat.mod_eq_of_lt hh]
theorem dropN_succ (h i : Nat) : dropN h (i + 1) = dropN h i % 9223372036854775808 * 2 := by
  unfold dropN
  rw [Nat.pow_succ, ← Nat.mul_assoc]
  omega
theorem dropN_lt (h i : Nat) : dropN h i < 18446744073709551616 := Nat.mod_lt _ (by decide)
theorem dropN_bit (h i : Nat) (hi : i < 64) : dropN h i / 9223372036854775808 = bitN h (i : Int) := by
  unfold dropN bitN
  rw [if_pos ⟨by omega, by omega⟩, Int.toNat_natCast]
  have e : (18446744073709551616 : Nat) = 9223372036854775808 * 2 := by decide
  rw [e, Nat.mod_mul_right_div_self]
  have e2 : (9223372036854775808 : Nat) = 2 ^ (63 - i) * 2 ^ i := by
    rw [← Nat.pow_add, show 63 - i + i = 63 by omega]
  rw [e2, Nat.mul_div_mul_right _ _ (Nat.two_pow_pos _)]
end Go.Proofs.YtgckinldnnckoaaGreatDoor.Op
/-
  The parts of a hash: Tag, Home, Top, Bit.
-/
namespace Go.Proofs.YtgckinldnnckoaaGreatDoor.Op
open Go.RowKit
set_option linter.unusedVariables false

theorem u64_nat {n : Int} (h : (Lit.int .u64 n).wf = true) : ∃ m : Nat, n = (m : Int) ∧ m < 18446744073709551616 := by
  have h2 : 0 ≤ n ∧ n < 18446744073709551616 := by
    have e1 : IntKind.u64.min = 0 := rfl
    have e2 : IntKind.u64.max = 18446744073709551615 := rfl
    simp only [Lit.wf, decide_eq_true_eq, Bool.and_eq_true] at h
    rw [e1, e2] at h
    omega
  exact ⟨n.toNat, by omega, by omega⟩


set_option maxHeartbeats 400000 in
theorem tag_any (h : Nat) (hh : h < 18446744073709551616) (w : World) :
    Calls Tryz.prog 73 #[.int .u64 (h : Int)] w fun e w' => e = .returned (.int .i64 ((h : Int) % 128)) ∧ w' = w := by
  go_enter Tryz.func73, Tryz.ntmps73
  go_wp2_with fail
  go_ret
  exact ⟨rfl, rfl⟩

set_option maxHeartbeats 400000 in
theorem home_any (h : Nat) (hh : h < 18446744073709551616) (w : World) :
    Calls Tryz.prog 110 #[.int .u64 (h : Int)] w fun e w' => e = .returned (.int .u64 ((h : Int) / 128)) ∧ w' = w := by
  go_enter Tryz.func110, Tryz.ntmps110
  go_wp2_with fail
  go_ret
  exact ⟨rfl, rfl⟩
end Go.Proofs.YtgckinldnnckoaaGreatDoor.Op
namespace Go.Proofs.YtgckinldnnckoaaGreatDoor.Ly
open Go.RowKit

theorem up_step {x a n : Int} (ha : a = 1 ∨ a = 2 ∨ a = 4 ∨ a = 8) (hn : n % a = 0) (h1 : x ≤ n) (h2 : n < x + a) : n = up x a := by
  unfold up
  rcases ha with rfl | rfl | rfl | rfl <;> omega

set_option maxHeartbeats 1000000 in
theorem ref_raised (x a : Int) (w : World) (h0 : 0 ≤ x) (h1 : x ≤ 300) (ha : a = 1 ∨ a = 2 ∨ a = 4 ∨ a = 8) :
    Calls Tryz.prog 41 #[.int .i64 x, .int .i64 a] w fun e w' => e = .returned (.int .i64 (up x a)) ∧ w' = w := by
  have a1 : 1 ≤ a := by omega
  have a8 : a ≤ 8 := by omega
  have hU : Hid (∀ n : Int, n % a = 0 → x ≤ n → n < x + a → n = up x a) := fun n e1 e2 e3 => up_step ha e1 e2 e3
  have hM : Hid (∀ n : Int, n % a = 0 → (n + a) % a = 0) := fun n e => by rw [Int.add_emod_right]; exact e
  generalize up x a = U at *
  clear ha
  go_enter Tryz.func41, Tryz.ntmps41
  go_wp2_with fail
  go_loop [5] (fun v => ∃ n : Int, v = .int .i64 n ∧ Hid (n % a = 0) ∧ 0 ≤ n ∧ n < x + a) (fun v => (x - intOf v).toNat)
  case atStart => exact ⟨0, rfl, Int.zero_emod a, by omega, by omega⟩
  case round =>
    obtain ⟨n, rfl, hn, n0, n1⟩ := hrel
    by_cases hlt : n < x
    · go_wp2_with fail
      go_round
      case rel => exact ⟨n + a, rfl, hM.out n hn.out, by omega, by omega⟩
      case measure => simp [intOf]; omega
    · have e := hU.out n hn.out (by omega) n1
      subst e
      go_wp2_with fail
      go_ret
      exact ⟨rfl, rfl⟩

set_option maxHeartbeats 1000000 in
theorem ref_power8 (x : Int) (w : World) :
    Calls Tryz.prog 40 #[.int .i64 x, .int .i64 1, .int .i64 8] w fun e w' => e = .returned (.bool (pw x 1 8)) ∧ w' = w := by
  have hT : Hid (pw x 1 8 = true ↔ x = 1 ∨ x = 2 ∨ x = 4 ∨ x = 8) := pw8
  generalize pw x 1 8 = V at *
  go_enter Tryz.func40, Tryz.ntmps40
  go_wp2_with fail
  go_loop [7] (fun v => ∃ p : Int, v = .int .i64 p ∧ 1 ≤ p ∧ p ≤ 16 ∧ Hid ((p = 1 ∨ p = 2 ∨ p = 4 ∨ p = 8 ∨ p = 16) ∧ (1 < p → x ≠ 1) ∧ (2 < p → x ≠ 2) ∧ (4 < p → x ≠ 4) ∧ (8 < p → x ≠ 8))) (fun v => (100 - intOf v).toNat)
  case atStart => exact ⟨1, rfl, by omega, by omega, by omega, by omega, by omega, by omega, by omega⟩
  case round =>
    obtain ⟨p, rfl, p1, p2, hp⟩ := hrel
    by_cases hle : p ≤ 8
    · by_cases he : p = x
      · have hV : V = true := hT.out.2 (by have := hp.out; omega)
        subst hV
        subst he
        go_wp2_with fail
        go_ret
        exact ⟨rfl, rfl⟩
      · have he' : (p == x) = false := by simpa using he
        go_wp2_with fail
        go_round
        case rel => exact ⟨2 * p, rfl, by omega, by omega, by have := hp.out; omega, by have := hp.out; omega, by have := hp.out; omega, by have := hp.out; omega, by have := hp.out; omega⟩
        case measure => simp [intOf]; omega
    · have hV : V = false := by
        cases hv : V
        · rfl
        · have := hT.out.1 hv
          have := hp.out
          omega
      subst hV
      go_wp2_with fail
      go_ret
      exact ⟨rfl, rfl⟩

set_option maxHeartbeats 1000000 in
theorem ref_powerCap (x : Int) (w : World) :
    Calls Tryz.prog 40 #[.int .i64 x, .int .i64 16, .int .i64 1024] w fun e w' => e = .returned (.bool (pw x 16 1024)) ∧ w' = w := by
  have hT : Hid (pw x 16 1024 = true ↔ x = 16 ∨ x = 32 ∨ x = 64 ∨ x = 128 ∨ x = 256 ∨ x = 512 ∨ x = 1024) := pwCap
  generalize pw x 16 1024 = V at *
  go_enter Tryz.func40, Tryz.ntmps40
  go_wp2_with fail
  go_loop [7] (fun v => ∃ p : Int, v = .int .i64 p ∧ 16 ≤ p ∧ p ≤ 2048 ∧ Hid ((p = 16 ∨ p = 32 ∨ p = 64 ∨ p = 128 ∨ p = 256 ∨ p = 512 ∨ p = 1024 ∨ p = 2048) ∧ (16 < p → x ≠ 16) ∧ (32 < p → x ≠ 32) ∧ (64 < p → x ≠ 64) ∧ (128 < p → x ≠ 128) ∧ (256 < p → x ≠ 256) ∧ (512 < p → x ≠ 512) ∧ (1024 < p → x ≠ 1024))) (fun v => (10000 - intOf v).toNat)
  case atStart => exact ⟨16, rfl, by omega, by omega, by omega, by omega, by omega, by omega, by omega, by omega, by omega, by omega⟩
  case round =>
    obtain ⟨p, rfl, p1, p2, hp⟩ := hrel
    by_cases hle : p ≤ 1024
    · by_cases he : p = x
      · have hV : V = true := hT.out.2 (by have := hp.out; omega)
        subst hV
        subst he
        go_wp2_with fail
        go_ret
        exact ⟨rfl, rfl⟩
      · have he' : (p == x) = false := by simpa using he
        go_wp2_with fail
        go_round
        case rel => exact ⟨2 * p, rfl, by omega, by omega, by have := hp.out; omega, by have := hp.out; omega, by have := hp.out; omega, by have := hp.out; omega, by have := hp.out; omega, by have := hp.out; omega, by have := hp.out; omega, by have := hp.out; omega⟩
        case measure => simp [intOf]; omega
    · have hV : V = false := by
        cases hv : V
        · rfl
        · have := hT.out.1 hv
          have := hp.out
          omega
      subst hV
      go_wp2_with fail
      go_ret
      exact ⟨rfl, rfl⟩

theorem ref_fits (x a : Int) (w : World) (h0 : 0 ≤ x) (h1 : x ≤ 128) :
    Calls Tryz.prog 39 #[.int .i64 x, .int .i64 a] w fun e w' => e = .returned (.bool (al x a)) ∧ w' = w := by
  have hp := ref_power8 a w
  cases hq : pw a 1 8
  · have e : al x a = false := by unfold al; rw [hq]; rfl
    rw [hq] at hp
    rw [e]
    go_enter Tryz.func39, Tryz.ntmps39
    go_wp2_with fail
    refine hp.mono ?_
    rintro e w' ⟨rfl, rfl⟩
    clear hp
    go_wp2_with fail
    go_ret
    exact ⟨rfl, rfl⟩
  · have ha := pw8.1 hq
    have hr := ref_raised x a w h0 (by omega) ha
    have e : al x a = (up x a == x) := by
      unfold al
      rw [hq, Bool.true_and, Bool.eq_iff_iff, decide_eq_true_iff, beq_iff_eq]
      unfold up
      rcases ha with rfl | rfl | rfl | rfl <;> omega
    rw [hq] at hp
    rw [e]
    go_enter Tryz.func39, Tryz.ntmps39
    go_wp2_with fail
    refine hp.mono ?_
    rintro e w' ⟨rfl, rfl⟩
    clear hp
    go_wp2_with fail
    refine hr.mono ?_
    rintro e w' ⟨rfl, rfl⟩
    clear hr
    go_wp2_with fail
    go_ret
    exact ⟨rfl, rfl⟩
end Go.Proofs.YtgckinldnnckoaaGreatDoor.Ly
namespace Go.Proofs.YtgckinldnnckoaaGreatDoor.Ly
open Go.RowKit

theorem ref_parse_wrong (v : Option Addr) (n cap : Nat) (w : World) (h : n ≠ 5) :
    Calls Tryz.prog 13 #[.slice v n cap] w fun r w' => r = .returned (.tuple #[Lay.zero.val, .int .i64 30]) ∧ Kp w w' := by
  have h' : ((n : Int) != 5) = true := by simp; omega
  go_enter Tryz.func13, Tryz.ntmps13
  go_wp2_with fail
  refine bodyPost_ret (v := .tuple #[Lay.zero.val, .int .i64 30]) (by simp [results, Tryz.results13, go_sem, Lay.val, Lay.zero]) rfl ⟨rfl, ?_⟩
  repeat first | exact Below.refl _ _ | refine Below.alloc ?_ (by simp <;> omega) _ | refine Below.setCell ?_ (by simp <;> omega) _

theorem alloc_any {w : World} {o : Obj} {P : World → Prop} (h : ∀ W, W.heap[w.heap.size]? = some o → Kp w W → P W) : P (w.alloc o) := h _ (heap_new _ _) ((Kp.refl w).alloc _)

set_option maxHeartbeats 8000000 in
theorem ref_parse_err (g o cap : Nat) (k e a b c : Int) (w : World) (h0 : w.cell? ⟨g, o, none⟩ = some (.int .i64 k)) (h1 : w.cell? ⟨g, o + 1, none⟩ = some (.int .i64 e))
    (h2 : w.cell? ⟨g, o + 2, none⟩ = some (.int .i64 a)) (h3 : w.cell? ⟨g, o + 3, none⟩ = some (.int .i64 b)) (h4 : w.cell? ⟨g, o + 4, none⟩ = some (.int .i64 c)) (hE : ¬ errN k e a b c = 0) :
    Calls Tryz.prog 13 #[.slice (some ⟨g, o, none⟩) 5 cap] w fun r w' => r = .returned (.tuple #[Lay.zero.val, .int .i64 (errN k e a b c)]) ∧ Kp w w' := by
  have hg : g < w.heap.size := by
    refine Nat.lt_of_not_le fun hn => ?_
    rw [World.cell?, Array.getElem?_eq_none hn] at h0
    cases h0
  by_cases hk : k < 1 ∨ 128 < k
  · have he : errN k e a b c = 31 := by unfold errN; rw [if_pos hk]
    rw [he]
    clear hE he
    rcases hk with hk | hk
    · go_enter Tryz.func13, Tryz.ntmps13
      go_wp2_with fail
      refine bodyPost_ret (v := .tuple #[Lay.zero.val, .int .i64 31]) (by simp [results, Tryz.results13, go_sem, Lay.val, Lay.zero]) rfl ⟨rfl, ?_⟩
      repeat first | exact Below.refl _ _ | refine Below.alloc ?_ (by simp <;> omega) _ | refine Below.setCell ?_ (by simp <;> omega) _
    · have hk' : ¬ k < 1 := by omega
      go_enter Tryz.func13, Tryz.ntmps13
      go_wp2_with fail
      refine bodyPost_ret (v := .tuple #[Lay.zero.val, .int .i64 31]) (by simp [results, Tryz.results13, go_sem, Lay.val, Lay.zero]) rfl ⟨rfl, ?_⟩
      repeat first | exact Below.refl _ _ | refine Below.alloc ?_ (by simp <;> omega) _ | refine Below.setCell ?_ (by simp <;> omega) _
  have hk1 : ¬ k < 1 := fun h => hk (Or.inl h)
  have hk2 : ¬ 128 < k := fun h => hk (Or.inr h)
  by_cases hm : e < 0 ∨ 128 < e
  · have he : errN k e a b c = 32 := by unfold errN; rw [if_neg hk, if_pos hm]
    rw [he]
    clear hE he hk
    rcases hm with hm | hm
    · go_enter Tryz.func13, Tryz.ntmps13
      go_wp2_with fail
      refine bodyPost_ret (v := .tuple #[Lay.zero.val, .int .i64 32]) (by simp [results, Tryz.results13, go_sem, Lay.val, Lay.zero]) rfl ⟨rfl, ?_⟩
      repeat first | exact Below.refl _ _ | refine Below.alloc ?_ (by simp <;> omega) _ | refine Below.setCell ?_ (by simp <;> omega) _
    · have hm' : ¬ e < 0 := by omega
      go_enter Tryz.func13, Tryz.ntmps13
      go_wp2_with fail
      refine bodyPost_ret (v := .tuple #[Lay.zero.val, .int .i64 32]) (by simp [results, Tryz.results13, go_sem, Lay.val, Lay.zero]) rfl ⟨rfl, ?_⟩
      repeat first | exact Below.refl _ _ | refine Below.alloc ?_ (by simp <;> omega) _ | refine Below.setCell ?_ (by simp <;> omega) _
  have hm1 : ¬ e < 0 := fun h => hm (Or.inl h)
  have hm2 : ¬ 128 < e := fun h => hm (Or.inr h)
  have hA := fun W => ref_fits k a W (by omega) (by omega)
  have hB := fun W => ref_fits e b W (by omega) (by omega)
  have hC := fun W => ref_powerCap c W
  cases hqa : al k a
  · have he : errN k e a b c = 33 := by unfold errN; rw [if_neg hk, if_neg hm, if_pos (Or.inl hqa)]
    rw [he]
    simp only [hqa] at hA
    clear hk hm hC hqa he hE
    go_enter Tryz.func13, Tryz.ntmps13
    go_wp2_with fail
    refine alloc_any (P := fun W => Code.wp _ _ _ _ W) fun W hB0 kW => ?_
    replace h0 := kW.cell h0
    replace h1 := kW.cell h1
    replace h2 := kW.cell h2
    replace h3 := kW.cell h3
    replace h4 := kW.cell h4
    obtain ⟨b0, b1, b2, b3, b4, b5, b6, b7, b8, f0, f1, f2, f3, f4, f5, f6, f7, f8⟩ := (Kp.refl W).nine hB0
    go_region_held3 (fun w' => w'.cell? ⟨g, o, none⟩ = some (.int .i64 k) ∧ w'.cell? ⟨g, o + 1, none⟩ = some (.int .i64 e) ∧ w'.cell? ⟨g, o + 2, none⟩ = some (.int .i64 a) ∧ w'.cell? ⟨g, o + 3, none⟩ = some (.int .i64 b) ∧ w'.cell? ⟨g, o + 4, none⟩ = some (.int .i64 c)) (go_keep) (first | (go_at_call 39; refine (hA _).mono ?_; rintro r w5 ⟨rfl, rfl⟩))
    go_wp2_with fail
    go_region_held3 (fun w' => w'.cell? ⟨g, o, none⟩ = some (.int .i64 k) ∧ w'.cell? ⟨g, o + 1, none⟩ = some (.int .i64 e) ∧ w'.cell? ⟨g, o + 2, none⟩ = some (.int .i64 a) ∧ w'.cell? ⟨g, o + 3, none⟩ = some (.int .i64 b) ∧ w'.cell? ⟨g, o + 4, none⟩ = some (.int .i64 c)) (go_keep) (first | (go_at_call 39; refine (hB _).mono ?_; rintro r w5 ⟨rfl, rfl⟩))
    go_wp2_with fail
    clear b0 b1 b2 b3 b4 b5 b6 b7 b8 f0 f1 f2 f3 f4 f5 f6 f7 f8
    refine nine_set hB0 kW (Nat.le_refl _) (P := fun w9 => bodyPost _ _ _ _ _ w9.drew.drew) fun w9 h9 k9 => ?_
    obtain ⟨b0, b1, b2, b3, b4, b5, b6, b7, b8, -⟩ := (Kp.refl (w9.drew.drew)).nine h9
    refine bodyPost_ret (v := .tuple #[Lay.zero.val, .int .i64 33]) (by simp [results, Tryz.results13, go_sem, Lay.val, Lay.zero, b0, b1, b2, b3, b4, b5, b6, b7, b8]) rfl ⟨rfl, k9.drew.drew⟩
  cases hqb : al e b
  · have he : errN k e a b c = 33 := by unfold errN; rw [if_neg hk, if_neg hm, if_pos (Or.inr hqb)]
    rw [he]
    simp only [hqa] at hA
    simp only [hqb] at hB
    clear hk hm hC hqa hqb he hE
    go_enter Tryz.func13, Tryz.ntmps13
    go_wp2_with fail
    refine alloc_any (P := fun W => Code.wp _ _ _ _ W) fun W hB0 kW => ?_
    replace h0 := kW.cell h0
    replace h1 := kW.cell h1
    replace h2 := kW.cell h2
    replace h3 := kW.cell h3
    replace h4 := kW.cell h4
    obtain ⟨b0, b1, b2, b3, b4, b5, b6, b7, b8, f0, f1, f2, f3, f4, f5, f6, f7, f8⟩ := (Kp.refl W).nine hB0
    go_region_held3 (fun w' => w'.cell? ⟨g, o, none⟩ = some (.int .i64 k) ∧ w'.cell? ⟨g, o + 1, none⟩ = some (.int .i64 e) ∧ w'.cell? ⟨g, o + 2, none⟩ = some (.int .i64 a) ∧ w'.cell? ⟨g, o + 3, none⟩ = some (.int .i64 b) ∧ w'.cell? ⟨g, o + 4, none⟩ = some (.int .i64 c)) (go_keep) (first | (go_at_call 39; refine (hA _).mono ?_; rintro r w5 ⟨rfl, rfl⟩))
    go_wp2_with fail
    go_region_held3 (fun w' => w'.cell? ⟨g, o, none⟩ = some (.int .i64 k) ∧ w'.cell? ⟨g, o + 1, none⟩ = some (.int .i64 e) ∧ w'.cell? ⟨g, o + 2, none⟩ = some (.int .i64 a) ∧ w'.cell? ⟨g, o + 3, none⟩ = some (.int .i64 b) ∧ w'.cell? ⟨g, o + 4, none⟩ = some (.int .i64 c)) (go_keep) (first | (go_at_call 39; refine (hB _).mono ?_; rintro r w5 ⟨rfl, rfl⟩))
    go_wp2_with fail
    clear b0 b1 b2 b3 b4 b5 b6 b7 b8 f0 f1 f2 f3 f4 f5 f6 f7 f8
    refine nine_set hB0 kW (Nat.le_refl _) (P := fun w9 => bodyPost _ _ _ _ _ w9.drew.drew) fun w9 h9 k9 => ?_
    obtain ⟨b0, b1, b2, b3, b4, b5, b6, b7, b8, -⟩ := (Kp.refl (w9.drew.drew)).nine h9
    refine bodyPost_ret (v := .tuple #[Lay.zero.val, .int .i64 33]) (by simp [results, Tryz.results13, go_sem, Lay.val, Lay.zero, b0, b1, b2, b3, b4, b5, b6, b7, b8]) rfl ⟨rfl, k9.drew.drew⟩
  have hno : ¬ (al k a = false ∨ al e b = false) := by rw [hqa, hqb]; simp
  cases hqc : pw c 16 1024
  · have he : errN k e a b c = 34 := by unfold errN; rw [if_neg hk, if_neg hm, if_neg hno, if_pos hqc]
    rw [he]
    simp only [hqa] at hA
    simp only [hqb] at hB
    simp only [hqc] at hC
    clear hk hm hno hqa hqb hqc he hE
    go_enter Tryz.func13, Tryz.ntmps13
    go_wp2_with fail
    refine alloc_any (P := fun W => Code.wp _ _ _ _ W) fun W hB0 kW => ?_
    replace h0 := kW.cell h0
    replace h1 := kW.cell h1
    replace h2 := kW.cell h2
    replace h3 := kW.cell h3
    replace h4 := kW.cell h4
    obtain ⟨b0, b1, b2, b3, b4, b5, b6, b7, b8, f0, f1, f2, f3, f4, f5, f6, f7, f8⟩ := (Kp.refl W).nine hB0
    go_region_held3 (fun w' => w'.cell? ⟨g, o, none⟩ = some (.int .i64 k) ∧ w'.cell? ⟨g, o + 1, none⟩ = some (.int .i64 e) ∧ w'.cell? ⟨g, o + 2, none⟩ = some (.int .i64 a) ∧ w'.cell? ⟨g, o + 3, none⟩ = some (.int .i64 b) ∧ w'.cell? ⟨g, o + 4, none⟩ = some (.int .i64 c)) (go_keep) (first | (go_at_call 39; refine (hA _).mono ?_; rintro r w5 ⟨rfl, rfl⟩))
    go_wp2_with fail
    go_region_held3 (fun w' => w'.cell? ⟨g, o, none⟩ = some (.int .i64 k) ∧ w'.cell? ⟨g, o + 1, none⟩ = some (.int .i64 e) ∧ w'.cell? ⟨g, o + 2, none⟩ = some (.int .i64 a) ∧ w'.cell? ⟨g, o + 3, none⟩ = some (.int .i64 b) ∧ w'.cell? ⟨g, o + 4, none⟩ = some (.int .i64 c)) (go_keep) (first | (go_at_call 39; refine (hB _).mono ?_; rintro r w5 ⟨rfl, rfl⟩))
    go_wp2_with fail
    refine (hC _).mono ?_
    rintro r w5 ⟨rfl, rfl⟩
    go_wp2_with fail
    clear b0 b1 b2 b3 b4 b5 b6 b7 b8 f0 f1 f2 f3 f4 f5 f6 f7 f8
    refine nine_set hB0 kW (Nat.le_refl _) (P := fun w9 => bodyPost _ _ _ _ _ w9.drew.drew) fun w9 h9 k9 => ?_
    obtain ⟨b0, b1, b2, b3, b4, b5, b6, b7, b8, -⟩ := (Kp.refl (w9.drew.drew)).nine h9
    refine bodyPost_ret (v := .tuple #[Lay.zero.val, .int .i64 34]) (by simp [results, Tryz.results13, go_sem, Lay.val, Lay.zero, b0, b1, b2, b3, b4, b5, b6, b7, b8]) rfl ⟨rfl, k9.drew.drew⟩
  · have he : errN k e a b c = 0 := by unfold errN; rw [if_neg hk, if_neg hm, if_neg hno, if_neg (by rw [hqc]; simp)]
    exact absurd he hE

set_option maxHeartbeats 8000000 in
theorem ref_parse_ok (g o cap : Nat) (k e a b c : Int) (w : World) (h0 : w.cell? ⟨g, o, none⟩ = some (.int .i64 k)) (h1 : w.cell? ⟨g, o + 1, none⟩ = some (.int .i64 e))
    (h2 : w.cell? ⟨g, o + 2, none⟩ = some (.int .i64 a)) (h3 : w.cell? ⟨g, o + 3, none⟩ = some (.int .i64 b)) (h4 : w.cell? ⟨g, o + 4, none⟩ = some (.int .i64 c)) (hE : errN k e a b c = 0) :
    Calls Tryz.prog 13 #[.slice (some ⟨g, o, none⟩) 5 cap] w fun r w' => r = .returned (.tuple #[(laidD k e a b c).val, .int .i64 0]) ∧ Kp w w' := by
  obtain ⟨e1, e2, e3, e4, e5, e6, e7⟩ := errN_zero hE
  have hbb := (al_one e6).1
  have sb := slot_bound e1 e2 e3 e4 hbb
  have hA := fun W => ref_fits k a W (by omega) (by omega)
  have hB := fun W => ref_fits e b W (by omega) (by omega)
  have hC := fun W => ref_powerCap c W
  have hR := fun W => ref_raised k b W (by omega) (by omega) hbb
  have hR2 := fun W => ref_raised (up k b + e) 8 W (by omega) (by omega) (by omega)
  simp only [e5] at hA
  simp only [e6] at hB
  simp only [e7] at hC
  have hk1 : ¬ k < 1 := by omega
  have hk2 : ¬ 128 < k := by omega
  have hm1 : ¬ e < 0 := by omega
  have hm2 : ¬ 128 < e := by omega
  have hg : g < w.heap.size := by
    refine Nat.lt_of_not_le fun hn => ?_
    rw [World.cell?, Array.getElem?_eq_none hn] at h0
    cases h0
  have hL : Hid ((laidD k e a b c).val = .agg #[.int .i64 k, .int .i64 e, .int .i64 a, .int .i64 b, .int .i64 c, .int .i64 (up k b), .int .i64 (up (up k b + e) 8), .int .i64 (up (up k b + e) 8 + 8), .int .i64 (8 + 8 * (up (up k b + e) 8 + 8))]) := rfl
  generalize (laidD k e a b c).val = LV at *
  generalize up k b = X at *
  generalize up (X + e) 8 = Y at *
  have s1 : 1 ≤ X := sb.1
  have s2 : X ≤ 135 := sb.2.1
  have s3 : 1 ≤ Y := sb.2.2.1
  have s4 : Y ≤ 270 := sb.2.2.2.1
  clear sb hE e5 e6 e7 hbb
  go_enter Tryz.func13, Tryz.ntmps13
  go_wp2_with fail
  refine alloc_any (P := fun W => Code.wp _ _ _ _ W) fun W hB0 kW => ?_
  replace h0 := kW.cell h0
  replace h1 := kW.cell h1
  replace h2 := kW.cell h2
  replace h3 := kW.cell h3
  replace h4 := kW.cell h4
  obtain ⟨b0, b1, b2, b3, b4, b5, b6, b7, b8, f0, f1, f2, f3, f4, f5, f6, f7, f8⟩ := (Kp.refl W).nine hB0
  go_region_held3 (fun w' => w'.cell? ⟨g, o, none⟩ = some (.int .i64 k) ∧ w'.cell? ⟨g, o + 1, none⟩ = some (.int .i64 e) ∧ w'.cell? ⟨g, o + 2, none⟩ = some (.int .i64 a) ∧ w'.cell? ⟨g, o + 3, none⟩ = some (.int .i64 b) ∧ w'.cell? ⟨g, o + 4, none⟩ = some (.int .i64 c)) (go_keep) (first | (go_at_call 39; refine (hA _).mono ?_; rintro r w5 ⟨rfl, rfl⟩))
  go_wp2_with fail
  go_region_held3 (fun w' => w'.cell? ⟨g, o, none⟩ = some (.int .i64 k) ∧ w'.cell? ⟨g, o + 1, none⟩ = some (.int .i64 e) ∧ w'.cell? ⟨g, o + 2, none⟩ = some (.int .i64 a) ∧ w'.cell? ⟨g, o + 3, none⟩ = some (.int .i64 b) ∧ w'.cell? ⟨g, o + 4, none⟩ = some (.int .i64 c)) (go_keep) (first | (go_at_call 39; refine (hB _).mono ?_; rintro r w5 ⟨rfl, rfl⟩))
  go_wp2_with fail
  refine (hC _).mono ?_
  rintro r w5 ⟨rfl, rfl⟩
  go_wp2_with fail
  go_region_held3 (fun w' => w'.cell? ⟨g, o, none⟩ = some (.int .i64 k) ∧ w'.cell? ⟨g, o + 1, none⟩ = some (.int .i64 e) ∧ w'.cell? ⟨g, o + 2, none⟩ = some (.int .i64 a) ∧ w'.cell? ⟨g, o + 3, none⟩ = some (.int .i64 b) ∧ w'.cell? ⟨g, o + 4, none⟩ = some (.int .i64 c)) (go_keep) (fail)
  refine alloc_any (w := W) (P := fun Z => Exit.then _ _ _ _ Z.drew.drew.drew) fun Z hZ kZ => ?_
  have hBZ := kZ.blk hB0
  have kwZ := kW.trans kZ
  have hne : W.heap.size ≠ w.heap.size := by
    have := (Array.getElem?_eq_some_iff.1 hB0).1
    omega
  have hle : w.heap.size ≤ W.heap.size := kW.size
  clear hA hB hC h0 h1 h2 h3 h4 b0 b1 b2 b3 b4 b5 b6 b7 b8 f0 f1 f2 f3 f4 f5 f6 f7 f8 kZ kW hB0
  generalize W.heap.size = lb at *
  obtain ⟨b0, b1, b2, b3, b4, b5, b6, b7, b8, f0, f1, f2, f3, f4, f5, f6, f7, f8⟩ := (Kp.refl Z).nine hZ
  go_wp2_with fail
  refine (hR _).mono ?_
  rintro r w5 ⟨rfl, rfl⟩
  go_wp2_with fail
  refine (hR2 _).mono ?_
  rintro r w5 ⟨rfl, rfl⟩
  go_wp2_with fail
  have hZ4 : ((((Z.setCell ⟨lb, 5, none⟩ (.int .i64 X)).setCell ⟨lb, 6, none⟩ (.int .i64 Y)).setCell ⟨lb, 7, none⟩ (.int .i64 (Y + 8))).setCell ⟨lb, 8, none⟩ (.int .i64 8)).heap[lb]? = some (.cells #[.int .i64 k, .int .i64 e, .int .i64 a, .int .i64 b, .int .i64 c, .int .i64 X, .int .i64 Y, .int .i64 (Y + 8), .int .i64 8] 38) :=
    set_one (set_one (set_one (set_one hZ 5 _ (by simp)) 6 _ (by simp)) 7 _ (by simp)) 8 _ (by simp)
  have hB4 : ((((Z.setCell ⟨lb, 5, none⟩ (.int .i64 X)).setCell ⟨lb, 6, none⟩ (.int .i64 Y)).setCell ⟨lb, 7, none⟩ (.int .i64 (Y + 8))).setCell ⟨lb, 8, none⟩ (.int .i64 8)).heap[w.heap.size]? = some (.cells #[.int .i64 0, .int .i64 0, .int .i64 0, .int .i64 0, .int .i64 0, .int .i64 0, .int .i64 0, .int .i64 0, .int .i64 0] 38) := by
    rw [Below.heap_setCell _ _ _ _ (Ne.symm hne), Below.heap_setCell _ _ _ _ (Ne.symm hne), Below.heap_setCell _ _ _ _ (Ne.symm hne), Below.heap_setCell _ _ _ _ (Ne.symm hne)]
    exact hBZ
  have k4 : Kp w ((((Z.setCell ⟨lb, 5, none⟩ (.int .i64 X)).setCell ⟨lb, 6, none⟩ (.int .i64 Y)).setCell ⟨lb, 7, none⟩ (.int .i64 (Y + 8))).setCell ⟨lb, 8, none⟩ (.int .i64 8)) :=
    Below.setCell (Below.setCell (Below.setCell (Below.setCell kwZ hle _) hle _) hle _) hle _
  clear hZ hBZ kwZ b0 b1 b2 b3 b4 b5 b6 b7 b8 f0 f1 f2 f3 f4 f5 f6 f7 f8 hR hR2
  go_loopw [8] (fun v wr => ∃ (i : Nat) (G : Int), v = .int .i64 (i : Int) ∧ i ≤ 8 ∧ Hid (G = 8 + i * (Y + 8)) ∧ 0 ≤ G ∧ G ≤ 8 + 278 * i ∧ wr.heap[lb]? = some (.cells #[.int .i64 k, .int .i64 e, .int .i64 a, .int .i64 b, .int .i64 c, .int .i64 X, .int .i64 Y, .int .i64 (Y + 8), .int .i64 G] 38) ∧ wr.heap[w.heap.size]? = some (.cells #[.int .i64 0, .int .i64 0, .int .i64 0, .int .i64 0, .int .i64 0, .int .i64 0, .int .i64 0, .int .i64 0, .int .i64 0] 38) ∧ Kp w wr) (fun v _ => 8 - (intOf v).toNat)
  case atStart => exact ⟨0, 8, rfl, by omega, (by simp : (8 : Int) = 8 + ((0 : Nat) : Int) * (Y + 8)), by omega, by omega, hZ4, hB4, k4.drew.drew.drew⟩
  case round =>
    obtain ⟨i, G, rfl, hi, hG, G0, G1, hl, hz, kr⟩ := hrel
    clear hZ4 hB4 k4
    obtain ⟨b0, b1, b2, b3, b4, b5, b6, b7, b8, f0, f1, f2, f3, f4, f5, f6, f7, f8⟩ := (Kp.refl wr).nine hl
    by_cases h8 : i < 8
    · have h8' : (i : Int) < 8 := by omega
      go_wp2_with fail
      go_roundw
      case rel =>
        refine ⟨i + 1, G + (Y + 8), rfl, by omega, ?_, by omega, by omega, set_one hl 8 _ (by simp), ?_, Below.setCell kr hle _⟩
        · show G + (Y + 8) = _
          rw [hG.out]
          push_cast
          rw [Int.add_mul]
          omega
        · rw [Below.heap_setCell _ _ _ _ (Ne.symm hne)]
          exact hz
      case measure => simp [intOf]; omega
    · have h8' : ¬ (i : Int) < 8 := by omega
      have hi8 : i = 8 := by omega
      subst hi8
      obtain ⟨d0, d1, d2, d3, d4, d5, d6, d7, d8, g0, g1, g2, g3, g4, g5, g6, g7, g8⟩ := (Kp.refl wr).nine hz
      go_wp2_with fail
      refine nine_set hz kr (Nat.le_refl _) (P := fun w9 => bodyPost _ _ _ _ _ w9) fun w9 h9 k9 => ?_
      obtain ⟨u0, u1, u2, u3, u4, u5, u6, u7, u8, -⟩ := (Kp.refl w9).nine h9
      refine bodyPost_ret (v := .tuple #[LV, .int .i64 0]) (by rw [hL.out, show 8 + 8 * (Y + 8) = G by rw [hG.out]; rfl]; simp [results, Tryz.results13, go_sem, u0, u1, u2, u3, u4, u5, u6, u7, u8]) rfl ⟨rfl, k9⟩

theorem ref_parse_five (g o cap : Nat) (k e a b c : Int) (w : World) (h0 : w.cell? ⟨g, o, none⟩ = some (.int .i64 k)) (h1 : w.cell? ⟨g, o + 1, none⟩ = some (.int .i64 e))
    (h2 : w.cell? ⟨g, o + 2, none⟩ = some (.int .i64 a)) (h3 : w.cell? ⟨g, o + 3, none⟩ = some (.int .i64 b)) (h4 : w.cell? ⟨g, o + 4, none⟩ = some (.int .i64 c)) :
    Calls Tryz.prog 13 #[.slice (some ⟨g, o, none⟩) 5 cap] w fun r w' => r = .returned (.tuple #[(parseD [k, e, a, b, c]).1.val, .int .i64 (parseD [k, e, a, b, c]).2]) ∧ Kp w w' := by
  by_cases hE : errN k e a b c = 0
  · have hP : parseD [k, e, a, b, c] = (laidD k e a b c, 0) := if_pos hE
    rw [hP]
    exact ref_parse_ok g o cap k e a b c w h0 h1 h2 h3 h4 hE
  · have hP : parseD [k, e, a, b, c] = (Lay.zero, errN k e a b c) := if_neg hE
    rw [hP]
    exact ref_parse_err g o cap k e a b c w h0 h1 h2 h3 h4 hE
end Go.Proofs.YtgckinldnnckoaaGreatDoor.Ly
