import Derived.Test.YtmdnknbolgedgaaGreatDoorRows
import Derived.RangeFuncBox
import Derived.RangeFuncLeaves
import Derived.RangeFuncWrites
import Derived.RangeFuncNested
import Derived.Shelf.Abstract
import Derived.OwnWalkIn
import Derived.TacticsInMore
import Derived.LoopNIn
import Derived.LoopIn
import Derived.Sort.LoopGhostIn
import Derived.WalkKit
import Derived.Below
import Derived.Test.YtmdnknbolgedgaaGreatDoorUn10
/-
  place, Cell.
-/
namespace Go.Proofs.YtmdnknbolgedgaaGreatDoor
open Go.RowKit Go.Shelf Ly Ct
set_option linter.unusedVariables false

set_option maxRecDepth 100000 in
set_option maxHeartbeats 1000000 in
theorem place_any (p : Nat) (l : Lay) (off gr : Int) (f : Nat → Int) (s : Nat) (w : World) (hv : validB l = true) (hg : f 7 = gr) (h0 : 0 ≤ gr) (h1 : gr ≤ 134217728) (hs : s < 65536) :
    Calls Tryz.prog 42 #[.agg #[.pointer (some ⟨p, 0, none⟩), .int .i64 l.k, .int .i64 l.e, .int .i64 l.a, .int .i64 l.b, .int .i64 l.c, .int .i64 l.eo, .int .i64 l.bo, .int .i64 l.s, .int .i64 l.g, .int .i64 off], statV f, .int .i64 (s : Int)] w fun e w' => e = .returned (.tuple #[.agg #[.pointer (some ⟨p, 0, none⟩), .int .i64 l.k, .int .i64 l.e, .int .i64 l.a, .int .i64 l.b, .int .i64 l.c, .int .i64 l.eo, .int .i64 l.bo, .int .i64 l.s, .int .i64 l.g, .int .i64 (gr + ((s / 8 : Nat) : Int) * l.g)], .int .i64 ((s % 8 : Nat) : Int)]) ∧ Keeps w w' (fun _ => False) := by
  have hvm := valid_more hv
  have hG := fun W => tgroup_any p l off gr ((s / 8 : Nat) : Int) W h0 h1 (by omega) (by omega) (by omega) (by omega)
  have hd : ((s : Int)).tdiv 8 = ((s / 8 : Nat) : Int) := by rw [Int.tdiv_eq_ediv_of_nonneg (by omega)]; omega
  have hm : ((s : Int)).tmod 8 = ((s % 8 : Nat) : Int) := by rw [Int.tmod_eq_emod_of_nonneg (by omega)]; omega
  have hs' : (s : Int) < 65536 := by omega
  have hwq : wrap64 ((s / 8 : Nat) : Int) = ((s / 8 : Nat) : Int) := by unfold wrap64; omega
  have hwm : wrap64 ((s % 8 : Nat) : Int) = ((s % 8 : Nat) : Int) := by unfold wrap64; omega
  unfold statV
  rw [hg]
  generalize f 0 = f0 at *
  generalize f 1 = f1 at *
  generalize f 2 = f2 at *
  generalize f 3 = f3 at *
  generalize f 4 = f4 at *
  generalize f 5 = f5 at *
  generalize f 6 = f6 at *
  generalize ((s / 8 : Nat) : Int) = q at *
  generalize ((s % 8 : Nat) : Int) = m at *
  generalize gr + q * l.g = y at *
  clear hvm hv
  go_enter Tryz.func42, Tryz.ntmps42
  go_wp2_with fail
  refine alloc3 (P := fun W => Calls _ _ _ W _) fun W0 hb hst hr hz K0 => ?_
  (with_reducible refine (hG _).mono ?_)
  rintro r w1 ⟨rfl, k1⟩
  have hr1 := k1.blk hr
  have K1 : Keeps w w1 (fun _ => False) := K0.trans k1 (fun _ _ e => e)
  obtain ⟨⟨d0, d1, d2, d3, d4, d5, d6, d7, d8, d9, d10⟩, g0, g1, g2, g3, g4, g5, g6, g7, g8, g9, g10⟩ := eleven_cells hr1
  clear hG
  go_wp2_with fail
  refine eleven_set hr1 K1 (fun h => by omega) (P := fun w9 => bodyPost _ _ _ _ _ w9) fun w9 h9 k9 _ => ?_
  obtain ⟨⟨e0, e1, e2, e3, e4, e5, e6, e7, e8, e9, e10⟩, -⟩ := eleven_cells h9
  exact bodyPost_ret (v := .tuple #[.agg #[.pointer (some ⟨p, 0, none⟩), .int .i64 l.k, .int .i64 l.e, .int .i64 l.a, .int .i64 l.b, .int .i64 l.c, .int .i64 l.eo, .int .i64 l.bo, .int .i64 l.s, .int .i64 l.g, .int .i64 y], .int .i64 m]) (by simp [results, Tryz.results42, go_sem, e0, e1, e2, e3, e4, e5, e6, e7, e8, e9, e10]) rfl ⟨rfl, k9⟩

set_option maxRecDepth 100000 in
set_option maxHeartbeats 1000000 in
/-- Cell, of a slot that is there. -/
theorem tcell_yes {w : World} {p : Nat} {F : Nat → Prop} {d : AD} {l : Lay} {off gr G : Nat} {f : Nat → Int} {c : Nat → GC} (hA : Arena w p F d) (hF : d.Fine) (h : TabD d l off gr G f c) (h4 : f 4 = ((8 * G : Nat) : Int)) (h7 : f 7 = (gr : Int)) (s : Nat) (hs : s < 8 * G) :
    Calls Tryz.prog 31 #[.agg #[.pointer (some ⟨p, 0, none⟩), .int .i64 l.k, .int .i64 l.e, .int .i64 l.a, .int .i64 l.b, .int .i64 l.c, .int .i64 l.eo, .int .i64 l.bo, .int .i64 l.s, .int .i64 l.g, .int .i64 (off : Int)], .int .i64 (s : Int)] w fun e w' => CellPost w (c s) 0 e w' := by
  have hfew := h.few
  have ho := h.off_le hF
  have hv := valid_more h.valid
  have hi : s / 8 < G := by omega
  have hgl := h.glen
  have hin := h.in hi
  have hmo := hF.most
  have hSt := fun W (k : Keeps w W (fun _ => False)) => tstat_tab (hA.keeps k (fun _ _ _ e => e)) hF h
  have hPl := fun W => place_any p l (off : Int) (gr : Int) f s W h.valid h7 (by omega) (by omega) (by omega)
  have e : ((gr + s / 8 * l.g.toNat : Nat) : Int) = (gr : Int) + ((s / 8 : Nat) : Int) * l.g := by
    rw [Int.natCast_add, Int.natCast_mul, Int.toNat_of_nonneg (by omega)]
  have hCe := fun W (k : Keeps w W (fun _ => False)) => cell_any (hA.keeps k (fun _ _ _ e => e)) hF l ((gr : Int) + ((s / 8 : Nat) : Int) * l.g) ((s % 8 : Nat) : Int) (by rw [← e]; exact fitsI_mk (by omega) (by omega)) (fitsI_mk (by omega) (by omega))
  have hcv : cellV d l ((gr : Int) + ((s / 8 : Nat) : Int) * l.g) ((s % 8 : Nat) : Int) = (c s, 0) := by
    rw [← e, (h.grp (s / 8) hi).cell (by omega)]
    rw [show 8 * (s / 8) + s % 8 = s by omega]
  rw [hcv] at hCe
  generalize c s = x at *
  have hlt : ¬ (s : Int) < 0 := by omega
  have hlt2 : ¬ f 4 ≤ (s : Int) := by rw [h4]; omega
  generalize ((s / 8 : Nat) : Int) = q at *
  generalize ((s % 8 : Nat) : Int) = m at *
  generalize (gr : Int) + q * l.g = y at *
  clear hA h hv hcv e h4 h7
  unfold statV at hSt hPl
  unfold CellPost at *
  unfold GC.val at *
  go_enter Tryz.func31, Tryz.ntmps31
  go_wp2_with fail
  refine alloc2 (P := fun W => Calls _ _ _ W _) fun W0 hb hr hz K0 => ?_
  (with_reducible refine (hSt _ K0).mono ?_)
  rintro r w1 ⟨rfl, k1⟩
  have K1 : Keeps w w1 (fun _ => False) := K0.trans k1 (fun _ _ e => e)
  have k2 : Keeps w1 (w1.alloc (.cells #[.int .i64 (f 3), .int .i64 (f 4), .int .i64 (f 5), .int .i64 (f 6), .int .i64 (f 1), .int .i64 (f 2), .bool (f 0 == 4), .int .i64 (f 7)] 64)) (fun _ => False) := (Keeps.refl _ _).alloc _
  obtain ⟨c0, c1, c2, c3, c4, c5, c6, c7, c8, c9, c10⟩ := c11_of (k2.blk (k1.blk hb))
  obtain ⟨⟨t0, t1, t2, t3, t4, t5, t6, t7⟩, -⟩ := st8_cells (heap_alloc_new w1 (.cells #[.int .i64 (f 3), .int .i64 (f 4), .int .i64 (f 5), .int .i64 (f 6), .int .i64 (f 1), .int .i64 (f 2), .bool (f 0 == 4), .int .i64 (f 7)] 64))
  have hr2 := k2.blk (k1.blk hr)
  have K2 : Keeps w (w1.alloc (.cells #[.int .i64 (f 3), .int .i64 (f 4), .int .i64 (f 5), .int .i64 (f 6), .int .i64 (f 1), .int .i64 (f 2), .bool (f 0 == 4), .int .i64 (f 7)] 64)) (fun _ => False) := K1.trans k2 (fun _ _ e => e)
  clear hSt
  go_wp2_with fail
  (with_reducible refine (hPl _).mono ?_)
  rintro r w3 ⟨rfl, k3⟩
  have hr3 := k3.blk hr2
  have K3 : Keeps w w3 (fun _ => False) := K2.trans k3 (fun _ _ e => e)
  have k4 : Keeps w3 (w3.alloc (.cells #[.pointer (some ⟨p, 0, none⟩), .int .i64 l.k, .int .i64 l.e, .int .i64 l.a, .int .i64 l.b, .int .i64 l.c, .int .i64 l.eo, .int .i64 l.bo, .int .i64 l.s, .int .i64 l.g, .int .i64 y] 109)) (fun _ => False) := (Keeps.refl _ _).alloc _
  obtain ⟨b0, b1, b2, b3, b4, b5, b6, b7, b8, b9, b10⟩ := grp_cells (heap_alloc_new w3 (.cells #[.pointer (some ⟨p, 0, none⟩), .int .i64 l.k, .int .i64 l.e, .int .i64 l.a, .int .i64 l.b, .int .i64 l.c, .int .i64 l.eo, .int .i64 l.bo, .int .i64 l.s, .int .i64 l.g, .int .i64 y] 109))
  have hr4 := k4.blk hr3
  have K4 : Keeps w (w3.alloc (.cells #[.pointer (some ⟨p, 0, none⟩), .int .i64 l.k, .int .i64 l.e, .int .i64 l.a, .int .i64 l.b, .int .i64 l.c, .int .i64 l.eo, .int .i64 l.bo, .int .i64 l.s, .int .i64 l.g, .int .i64 y] 109)) (fun _ => False) := K3.trans k4 (fun _ _ e => e)
  have hCe4 := hCe _ K4
  clear hPl hCe c0 c1 c2 c3 c4 c5 c6 c7 c8 c9 c10 t0 t1 t2 t3 t4 t5 t6 t7
  go_wp2_with fail
  (with_reducible refine hCe4.mono ?_)
  rintro r w5 ⟨rfl, k5⟩
  have hr5 := k5.blk hr4
  have K5 : Keeps w w5 (fun _ => False) := K4.trans k5 (fun _ _ e => e)
  obtain ⟨d0, d1, d2, d3, d4, f0, f1, f2, f3, f4⟩ := five_cells hr5
  clear hCe4 b0 b1 b2 b3 b4 b5 b6 b7 b8 b9 b10
  go_wp2_with fail
  refine five_set hr5 K5 (fun h => by omega) (P := fun w9 => bodyPost _ _ _ _ _ w9) fun w9 h9 k9 _ => ?_
  obtain ⟨e0, e1, e2, e3, e4, -⟩ := five_cells h9
  exact bodyPost_ret (v := .tuple #[.agg #[.int .i64 x.kind, .int .i64 x.tag, .string x.key, .string x.elem, .int .i64 x.birth], .int .i64 0]) (by simp [results, Tryz.results31, go_sem, e0, e1, e2, e3, e4]) rfl ⟨rfl, k9⟩
end Go.Proofs.YtmdnknbolgedgaaGreatDoor
/-
  Rest and All of a set, and a range over it (where the reference of stage 5 is not there).
-/
namespace Go.Proofs.YtmdnknbolgedgaaGreatDoor.Ct
open Go.RowKit Go.Shelf
set_option linter.unusedVariables false

attribute [local go_sem] Oper.semAt_some

/-- The set without its lowest slot. -/
def rstM (m : Nat) : Nat := if m = 0 then 0 else m - 2 ^ firM m
theorem rst_lt : ∀ m, m < 256 → rstM m < 256 := by decide +kernel
theorem rst_has : ∀ m, m < 256 → ∀ j, j < 8 → hasM (rstM m) j = if j = firM m then false else hasM m j := by decide +kernel
def rest1 (x : Int) : Int := bits BinOp.and IntKind.u64 x (IntKind.u64.wrap (x - 1))
theorem rest_all : ∀ m, m < 256 → rest1 ((spread m : Nat) : Int) = ((spread (rstM m) : Nat) : Int) := by decide +kernel
theorem rst_same : ∀ m, m < 256 → firM m = 8 → rstM m = m := by decide +kernel

set_option maxHeartbeats 1000000 in
theorem rest_walk (z r : Int) (h : bits BinOp.and IntKind.u64 z (IntKind.u64.wrap (z - 1)) = r) (w : World) :
    Calls Tryz.prog 111 #[.agg #[.int .u64 z]] w fun e w' => e = .returned (.agg #[.int .u64 r]) ∧ Kp w w' := by
  go_enter Tryz.func111, Tryz.ntmps111
  go_wp2_with fail
  exact bodyPost_ret (v := .agg #[.int .u64 r]) (by simp [results, Tryz.results111, go_sem]) rfl ⟨rfl, ((Kp.refl _).alloc _).alloc _⟩

def RestIs (z r : Int) : Prop := ∃ m, m < 256 ∧ z = ((spread m : Nat) : Int) ∧ r = ((spread (rstM m) : Nat) : Int)
theorem rest_is {z r : Int} (q : RestIs z r) (w : World) :
    Calls Tryz.prog 111 #[.agg #[.int .u64 z]] w fun e w' => e = .returned (.agg #[.int .u64 r]) ∧ Kp w w' := by
  obtain ⟨m, hm, rfl, rfl⟩ := q
  exact rest_walk _ _ (rest_all m hm) w

/-- The slots of a set, in rising order. -/
def slM (m : Nat) : List Nat := (List.range 8).filter (fun i => hasM m i)
theorem sl_zero : ∀ m, m < 256 → cntM m = 0 → slM m = [] := by decide +kernel
theorem sl_cons : ∀ m, m < 256 → 0 < cntM m → slM m = firM m :: slM (rstM m) := by decide +kernel
theorem cnt_rst : ∀ m, m < 256 → 0 < cntM m → cntM (rstM m) + 1 = cntM m := by decide +kernel

/-- Sets stay as they are, and the table. -/
def Stay (W W' : World) : Prop := (∀ (q : Nat) (cs : Array Value), W.heap[q]? = some (Obj.cells cs 142) → W'.heap[q]? = some (Obj.cells cs 142)) ∧ (TabAt W → TabAt W')
theorem Stay.refl (W : World) : Stay W W := ⟨fun _ _ h => h, fun h => h⟩
theorem Stay.trans {A B C : World} (h : Stay A B) (k : Stay B C) : Stay A C := ⟨fun q cs e => k.1 q cs (h.1 q cs e), fun t => k.2 (h.2 t)⟩
theorem Stay.kp {W W' : World} (k : Kp W W') : Stay W W' := ⟨fun _ _ h => k.blk h, fun t => t.kp k⟩

theorem abides_kp {β : Type} {B : Nat} {J : β → World → Prop} (h : AbidesFrom B J) {s : β} {W W' : World} (hJ : J s W) (k : Kp W W') : J s W' :=
  h s W W' none hJ ⟨k.os, k.tape, k.output, k.size, fun i hi _ => k.block i hi⟩ (fun r e => by cases e)

set_option maxHeartbeats 1000000 in
theorem all_call (z : Int) (w : World) :
    Calls Tryz.prog 74 #[.agg #[.int .u64 z]] w fun e w' => e = .returned (.func (.func 110) #[] #[.pointer (some ⟨w.heap.size, 0, none⟩)]) ∧ w' = w.alloc (.cells #[.int .u64 z] 142) := by
  go_enter Tryz.func74, Tryz.ntmps74
  go_wp2
  go_ret
  exact ⟨rfl, rfl⟩

set_option maxRecDepth 100000 in
set_option maxHeartbeats 4000000 in
theorem all_each (n : Nat) (hn : 1 ≤ n) (l Bs B m : Nat) (hm : m < 256) (J Jx : List Nat → World → Prop) (hAb : AbidesFrom B J)
    (hY : ∀ pre (x : Nat) W, J pre W → pre.length < (slM m).length → YieldAt Fence.wide (n - 1) Tryz.prog l #[.int .i64 (x : Int)] W fun e W' =>
      (e = .returned (.bool true) ∧ J (pre ++ [x]) W' ∧ Stay W W') ∨ (e = .returned (.bool false) ∧ Jx (pre ++ [x]) W'))
    (W : World) (hBs : W.cell? ⟨Bs, 0, none⟩ = some (.int .u64 ((spread m : Nat) : Int))) (hT : TabAt W) (hJ0 : J [] W) :
    CallsIn Fence.wide n Tryz.prog 110 #[.func (.yield l) #[] #[], .pointer (some ⟨Bs, 0, none⟩)] W fun e W' => (∃ v, e = .returned v) ∧
      ((∃ ys, ys = slM m ∧ J ys W') ∨ (∃ pre, pre <+: slM m ∧ Jx pre W')) := by
  have hro : Fence.wide.round = none := rfl
  refine callsIn_of_wp Tryz.func110 rfl trivial ?_ hro
  simp only [Tryz.ntmps110, List.size_toArray, List.length_cons, List.length_nil, Nat.reduceAdd, Nat.reduceSub, Array.replicate_succ, Array.replicate_zero, List.push_toArray, List.append_toArray, List.nil_append, List.cons_append]
  gi_wp2_with fail
  have hL := heap_new W (.cells #[.int .u64 ((spread m : Nat) : Int)] 142)
  have kA : Kp W (W.alloc (.cells #[.int .u64 ((spread m : Nat) : Int)] 142)) := (Kp.refl _).alloc _
  have hJ1 := abides_kp hAb hJ0 kA
  have hT1 := hT.kp kA
  clear hJ0 hT hBs kA
  generalize W.alloc (.cells #[.int .u64 ((spread m : Nat) : Int)] 142) = W1 at *
  generalize W.heap.size = Bl at *
  gi_loopg [3] (cntM m) (fun g v3 wr => ∃ (Bl m' : Nat) (pre : List Nat), g = cntM m' ∧ m' < 256 ∧ v3 = .pointer (some ⟨Bl, 0, none⟩) ∧ wr.heap[Bl]? = some (.cells #[.int .u64 ((spread m' : Nat) : Int)] 142) ∧ pre ++ slM m' = slM m ∧ J pre wr ∧ TabAt wr)
  case atStart => exact ⟨Bl, m, [], rfl, hm, rfl, hL, rfl, hJ1, hT1⟩
  case round =>
    clear hL hJ1 hT1
    obtain ⟨Bl, m', pre, rfl, hm', rfl, hL, hpre, hJ, hT⟩ := hrel
    have hz := sl_zero m' hm'
    have hc := sl_cons m' hm'
    have hd := cnt_rst m' hm'
    have n1 : CntIs ((spread m' : Nat) : Int) ((cntM m' : Nat) : Int) := ⟨m', hm', rfl, rfl⟩
    have f1 : FirstIs ((spread m' : Nat) : Int) ((firM m' : Nat) : Int) := ⟨m', hm', rfl, rfl⟩
    have r1 : RestIs ((spread m' : Nat) : Int) ((spread (rstM m') : Nat) : Int) := ⟨m', hm', rfl, rfl⟩
    have hlt' := rst_lt m' hm'
    obtain ⟨c1, c2⟩ := one_cell hL
    by_cases h0 : cntM m' = 0
    · have HZ := hide (hz h0)
      have HP := hide hpre
      have HJ := hide hJ
      rw [h0] at n1
      clear hz hc hd f1 r1 hlt' hJ hpre h0
      gi_wp2_with fail
      refine ⟨trivial, (callsIn_wide.2 (count_is n1 _)).mono ?_⟩
      rintro e W2 ⟨rfl, k2⟩
      gi_wp2_with fail
      go_end0
      exact ⟨⟨_, rfl⟩, .inl ⟨pre, by rw [← HP.out, HZ.out, List.append_nil], abides_kp hAb HJ.out k2⟩⟩
    · have hp : 0 < cntM m' := by omega
      have hp' : 0 < ((cntM m' : Nat) : Int) := by omega
      have HC := hide (hc hp)
      have HP := hide hpre
      have HD := hide (hd hp)
      have hlen : pre.length < (slM m).length := by
        rw [← hpre, hc hp]
        simp
      clear hz hc hd hpre h0 hp
      generalize firM m' = F at *
      generalize spread m' = z at *
      generalize cntM m' = C at *
      gi_wp2_with fail
      refine ⟨trivial, (callsIn_wide.2 (count_is n1 _)).mono ?_⟩
      rintro e W2 ⟨rfl, k2⟩
      replace hL := k2.blk hL
      replace hJ := abides_kp hAb hJ k2
      replace hT := hT.kp k2
      clear k2 c1 c2
      obtain ⟨c1, c2⟩ := one_cell hL
      gi_wp2_with fail
      refine ⟨trivial, (callsIn_wide.2 (first_is f1 hT)).mono ?_⟩
      rintro e W3 ⟨rfl, k3⟩
      replace hL := k3.blk hL
      replace hJ := abides_kp hAb hJ k3
      replace hT := hT.kp k3
      clear k3 c1 c2 n1 f1
      obtain ⟨fn, tmps, assign, body, hy, hRd⟩ := hY pre F W3 hJ hlen
      clear hJ
      gi_wp2
      refine hRd.mono ?_
      rintro e W4 (⟨rfl, hJ4, hk4⟩ | ⟨rfl, hJx4⟩)
      · replace hL := hk4.1 _ _ hL
        replace hT := hk4.2 hT
        clear hk4 hRd hy
        obtain ⟨c1, c2⟩ := one_cell hL
        have HJ := hide hJ4
        clear hJ4
        gi_wp2_with fail
        refine ⟨trivial, (callsIn_wide.2 (rest_is r1 _)).mono ?_⟩
        rintro e W5 ⟨rfl, k5⟩
        have hN := k5.blk (heap_new W4 (.cells #[.int .u64 (z : Int)] 142))
        have kk : Kp W4 W5 := ((Kp.refl W4).alloc _).trans k5
        have hN2 : (W5.setCell ⟨W4.heap.size, 0, none⟩ (.int .u64 ((spread (rstM m') : Nat) : Int))).heap[W4.heap.size]? = some (.cells #[.int .u64 ((spread (rstM m') : Nat) : Int)] 142) := set_one hN 0 _ (by simp)
        have kk2 : Kp W4 (W5.setCell ⟨W4.heap.size, 0, none⟩ (.int .u64 ((spread (rstM m') : Nat) : Int))) := Below.setCell kk (Nat.le_refl _) _
        obtain ⟨e1, e2⟩ := one_cell hN
        clear c1 c2 k5 hL kk
        gi_wp2_with fail
        gi_roundg (cntM (rstM m'))
        case measure => have := HD.out; omega
        case rel => exact ⟨_, rstM m', pre ++ [F], rfl, hlt', rfl, hN2, by rw [List.append_assoc, ← HP.out, HC.out]; rfl, abides_kp hAb HJ.out kk2, hT.kp kk2⟩
      · have HX : Hid (∃ pre, pre <+: slM m ∧ Jx pre W4) := ⟨_, ⟨slM (rstM m'), by rw [List.append_assoc, ← HP.out, HC.out]; rfl⟩, hJx4⟩
        clear HC HP HD hJx4 hRd hy
        gi_wp2
        refine bodyPost_ret (results_none rfl _ _ _) rfl ?_
        exact ⟨⟨_, rfl⟩, .inr HX.out⟩

/-- A range over All gives the slots in rising order, or stops behind some of them. -/
theorem all_stops (n : Nat) (hn : 1 ≤ n) (Bs m : Nat) (hm : m < 256) (w : World) (hT : TabAt w) (hc : w.cell? ⟨Bs, 0, none⟩ = some (.int .u64 ((spread m : Nat) : Int))) :
    SeqStopsK Fence.wide n Tryz.prog 110 #[.pointer (some ⟨Bs, 0, none⟩)] (fun x : Nat => #[Value.int .i64 (x : Int)]) Stay (fun ys => ys = slM m) (fun pre => pre <+: slM m) (slM m).length w := fun l J Jx W hW hAb _ hY h0 =>
  all_each n hn l Bs W.heap.size m hm J Jx hAb hY W (Kp.cell hW hc) (TabAt.kp hT hW) h0
end Go.Proofs.YtmdnknbolgedgaaGreatDoor.Ct
/-
  A group searched for a key: which slot is the first that has it.
-/
namespace Go.Proofs.YtmdnknbolgedgaaGreatDoor
open Go.RowKit Go.Shelf Ly Ct
set_option linter.unusedVariables false

/-- Is slot i full with that tag and key? -/
def mtC (c : Nat → GC) (tag : Int) (key : ByteArray) (i : Nat) : Bool := decide ((c i).kind = 2 ∧ (c i).tag = tag ∧ (c i).key = key)
/-- The lowest of the last f of eight slots with M; 8: there is none. -/
def low (M : Nat → Bool) : Nat → Nat
  | 0 => 8
  | f + 1 => if M (7 - f) then 7 - f else low M f
theorem low_spec (M : Nat → Bool) : ∀ f, f ≤ 8 → low M f ≤ 8 ∧ (low M f < 8 → M (low M f) = true ∧ 8 - f ≤ low M f) ∧ ∀ z, 8 - f ≤ z → z < low M f → M z = false
  | 0, _ => ⟨Nat.le_refl _, fun h => absurd h (Nat.lt_irrefl _), fun z h1 h2 => by simp only [low] at h2; omega⟩
  | f + 1, hf => by
    obtain ⟨h1, h2, h3⟩ := low_spec M f (by omega)
    unfold low
    cases hM : M (7 - f)
    · rw [if_neg (by simp)]
      refine ⟨h1, fun h => ⟨(h2 h).1, by have := (h2 h).2; omega⟩, fun z hz1 hz2 => ?_⟩
      by_cases e : z = 7 - f
      · rw [e]; exact hM
      · exact h3 z (by omega) hz2
    · rw [if_pos rfl]
      exact ⟨by omega, fun _ => ⟨hM, by omega⟩, fun z hz1 hz2 => by omega⟩
theorem low_is {M : Nat → Bool} {y : Nat} (hy : y < 8) (h1 : M y = true) (h2 : ∀ z, z < y → M z = false) : low M 8 = y := by
  obtain ⟨a, b, c⟩ := low_spec M 8 (Nat.le_refl _)
  rcases Nat.lt_trichotomy (low M 8) y with h | h | h
  · have := (b (by omega)).1
    rw [h2 _ h] at this
    cases this
  · exact h
  · have := c y (by omega) h
    rw [h1] at this
    cases this
theorem low_none {M : Nat → Bool} (h : ∀ z, z < 8 → M z = false) : low M 8 = 8 := by
  obtain ⟨a, b, c⟩ := low_spec M 8 (Nat.le_refl _)
  by_cases hl : low M 8 < 8
  · have := (b hl).1
    rw [h _ hl] at this
    cases this
  · omega
def slChk (m k : Nat) : Bool := !(decide (k < (slM m).length)) || (decide ((slM m).getD k 0 < 8) && hasM m ((slM m).getD k 0) && (List.range 8).all (fun z => !(decide (z < (slM m).getD k 0)) || !(hasM m z) || decide (z ∈ (slM m).take k)))
theorem sl_chk : ∀ m, m < 256 → ∀ k, k < 8 → slChk m k = true := by decide +kernel
theorem sl_take {m : Nat} (hm : m < 256) {k : Nat} (hk8 : k < 8) (hk : k < (slM m).length) : (slM m)[k] < 8 ∧ hasM m (slM m)[k] = true ∧ ∀ z, z < 8 → z < (slM m)[k] → hasM m z = true → z ∈ (slM m).take k := by
  have h := sl_chk m hm k hk8
  have e : (slM m).getD k 0 = (slM m)[k] := by simp [List.getD, hk]
  unfold slChk at h
  rw [e, decide_eq_true hk] at h
  simp only [Bool.not_true, Bool.false_or, Bool.and_eq_true, decide_eq_true_eq, List.all_eq_true, Bool.or_eq_true, Bool.not_eq_true', decide_eq_false_iff_not, List.mem_range] at h
  refine ⟨h.1.1, h.1.2, fun z h8 hz hh => ?_⟩
  rcases h.2 z h8 with (q | q) | q
  · exact absurd hz q
  · rw [hh] at q; cases q
  · exact q
theorem sl_len : ∀ m, m < 256 → (slM m).length ≤ 8 := by decide +kernel
theorem sl_mem {m z : Nat} (hz : z < 8) (h : hasM m z = true) : z ∈ slM m := by
  unfold slM
  rw [List.mem_filter]
  exact ⟨List.mem_range.2 hz, h⟩

/-- The set that Match makes: just the slots that are full with that tag. -/
theorem match_has {d : AD} {l : Lay} {off : Nat} {c : Nat → GC} (h : GroupAt d l off c) {tag : Int} (h1 : tag ≤ 127) (h0 : 0 ≤ tag) {i : Nat} (hi : i < 8) : hasM (mk (tagB tag) (wordN d off)) i = decide ((c i).kind = 2 ∧ (c i).tag = tag) := by
  rw [hasM_mk _ _ hi, h.word i hi]
  unfold tagB
  have ho := h.ok i hi
  rcases ho with q | q | q
  · rw [q]
    have : GC.mark GC.zero = 128 := rfl
    rw [this]
    exact decide_eq_decide.2 ⟨fun e => by omega, fun e => by exact absurd e.1 (by decide)⟩
  · rw [q]
    have : GC.mark GC.gone = 254 := rfl
    rw [this]
    exact decide_eq_decide.2 ⟨fun e => by omega, fun e => by exact absurd e.1 (by decide)⟩
  · unfold GC.mark
    rw [if_pos q.1]
    exact decide_eq_decide.2 ⟨fun e => ⟨q.1, by omega⟩, fun e => by have := e.2; omega⟩

section
variable {d : AD} {l : Lay} {off : Nat} {c : Nat → GC}
/-- The range over the slots with the tag stops at the first that has the key. -/
theorem hit_stop (h : GroupAt d l off c) {tag : Int} (h1 : tag ≤ 127) (h0 : 0 ≤ tag) {key : ByteArray} {ps : List Nat} {y : Nat} (hp : ps ++ [y] <+: slM (mk (tagB tag) (wordN d off))) (hn : ∀ z, z ∈ ps → (c z).key ≠ key) (hy : (c y).key = key) : y < 8 ∧ low (mtC c tag key) 8 = y := by
  have hm := mk_lt (tagB tag) (wordN d off)
  have hlen := sl_len _ hm
  have hl := hp.length_le
  rw [List.length_append, List.length_singleton] at hl
  have hps : ps.length < (slM (mk (tagB tag) (wordN d off))).length := by omega
  obtain ⟨t, ht⟩ := hp
  have hget : (slM (mk (tagB tag) (wordN d off)))[ps.length] = y := by
    have : (slM (mk (tagB tag) (wordN d off)))[ps.length]? = some y := by
      rw [← ht, List.append_assoc, List.getElem?_append_right (Nat.le_refl _), Nat.sub_self]
      rfl
    exact (List.getElem?_eq_some_iff.1 this).2
  have htk : (slM (mk (tagB tag) (wordN d off))).take ps.length = ps := by
    rw [← ht, List.append_assoc, List.take_left]
  obtain ⟨s1, s2, s3⟩ := sl_take hm (by omega) hps
  rw [hget] at s1 s2 s3
  rw [htk] at s3
  refine ⟨s1, low_is s1 ?_ (fun z hz => ?_)⟩
  · have := match_has h h1 h0 s1
    rw [this] at s2
    have s4 := of_decide_eq_true s2
    exact decide_eq_true ⟨s4.1, s4.2, hy⟩
  · refine decide_eq_false fun q => ?_
    have hz8 : z < 8 := by omega
    have : hasM (mk (tagB tag) (wordN d off)) z = true := by rw [match_has h h1 h0 hz8]; exact decide_eq_true ⟨q.1, q.2.1⟩
    exact hn z (s3 z hz8 hz this) q.2.2
theorem hit_done (h : GroupAt d l off c) {tag : Int} (h1 : tag ≤ 127) (h0 : 0 ≤ tag) {key : ByteArray} (hn : ∀ z, z ∈ slM (mk (tagB tag) (wordN d off)) → (c z).key ≠ key) : low (mtC c tag key) 8 = 8 := by
  refine low_none fun z hz => decide_eq_false fun q => ?_
  have : hasM (mk (tagB tag) (wordN d off)) z = true := by rw [match_has h h1 h0 hz]; exact decide_eq_true ⟨q.1, q.2.1⟩
  exact hn z (sl_mem hz this) q.2.2
end

/-- The cells of a group of a table. -/
def grpC (c : Nat → GC) (g : Nat) : Nat → GC := fun j => c (8 * g + j)
/-- The slot of the key in a group (8: none), the first vacant slot (8: none), has it an empty slot? -/
def hitG (c : Nat → GC) (tag : Int) (key : ByteArray) (g : Nat) : Nat := low (mtC (grpC c g) tag key) 8
def vacG (c : Nat → GC) (g : Nat) : Nat := low (fun j => decide ((grpC c g j).kind ≠ 2)) 8
def empG (c : Nat → GC) (g : Nat) : Bool := (List.range 8).any (fun j => decide ((grpC c g j).kind = 0))
/-- What a search has seen: the groups that were looked at, the key's slot, the first vacant slot. -/
structure Srch where
  probes : Nat
  slot : Option Nat
  vac : Option Nat
def meetV (v : Option Nat) (c : Nat → GC) (g : Nat) : Option Nat := match v with
  | some x => some x
  | none => if vacG c g < 8 then some (8 * g + vacG c g) else none
/-- The way of a hash, up to the key or to a group with an empty slot. -/
def srch (c : Nat → GC) (tag : Int) (key : ByteArray) : List Nat → Nat → Option Nat → Srch
  | [], n, v => ⟨n, none, v⟩
  | g :: gs, n, v => if hitG c tag key g < 8 then ⟨n + 1, some (8 * g + hitG c tag key g), v⟩ else if empG c g then ⟨n + 1, none, meetV v c g⟩ else srch c tag key gs (n + 1) (meetV v c g)
end Go.Proofs.YtmdnknbolgedgaaGreatDoor
/-
  What the control word says of a group's cells.
-/
namespace Go.Proofs.YtmdnknbolgedgaaGreatDoor
open Go.RowKit Go.Shelf Ly Ct
set_option linter.unusedVariables false

theorem fir_low : ∀ m, m < 256 → firM m = low (hasM m) 8 := by decide +kernel
theorem cnt_any : ∀ m, m < 256 → decide (0 < cntM m) = (List.range 8).any (hasM m) := by decide +kernel
theorem low_congr {M N : Nat → Bool} (h : ∀ i, i < 8 → M i = N i) : low M 8 = low N 8 := by
  rcases Nat.lt_or_ge (low N 8) 8 with h8 | h8
  · obtain ⟨_, h2, h3⟩ := low_spec N 8 (Nat.le_refl _)
    refine low_is h8 ?_ (fun z hz => ?_)
    · rw [h _ h8]
      exact (h2 h8).1
    · rw [h z (by omega)]
      exact h3 z (by omega) hz
  · obtain ⟨h1, _, h3⟩ := low_spec N 8 (Nat.le_refl _)
    have e : low N 8 = 8 := by omega
    rw [e]
    refine low_none fun z hz => ?_
    rw [h z hz]
    exact h3 z (by omega) (by omega)
section
variable {d : AD} {l : Lay} {off : Nat} {c : Nat → GC}
theorem vac_has (h : GroupAt d l off c) {i : Nat} (hi : i < 8) : hasM (mk (fun x => x == 128 || x == 254) (wordN d off)) i = decide ((c i).kind ≠ 2) := by
  rw [hasM_mk _ _ hi, h.word i hi]
  rcases h.ok i hi with q | q | q
  · rw [q]
    rfl
  · rw [q]
    rfl
  · have hm : (c i).mark = (c i).tag.toNat := if_pos q.1
    have h1 := q.2.1
    have h2 := q.2.2.1
    rw [hm, decide_eq_false (fun e => e q.1)]
    generalize (c i).tag = t at *
    have e1 : (t.toNat == 128) = false := by simp; omega
    have e2 : (t.toNat == 254) = false := by simp; omega
    rw [e1, e2]
    rfl
theorem emp_has (h : GroupAt d l off c) {i : Nat} (hi : i < 8) : hasM (mk (· == 128) (wordN d off)) i = decide ((c i).kind = 0) := by
  rw [hasM_mk _ _ hi, h.word i hi]
  rcases h.ok i hi with q | q | q
  · rw [q]
    rfl
  · rw [q]
    rfl
  · have hm : (c i).mark = (c i).tag.toNat := if_pos q.1
    have h1 := q.2.1
    have h2 := q.2.2.1
    have hk := q.1
    rw [hm, decide_eq_false (fun e => by omega)]
    generalize (c i).tag = t at *
    have e1 : (t.toNat == 128) = false := by simp; omega
    exact e1
theorem fir_vac (h : GroupAt d l off c) : firM (mk (fun x => x == 128 || x == 254) (wordN d off)) = low (fun j => decide ((c j).kind ≠ 2)) 8 := by
  rw [fir_low _ (mk_lt _ _)]
  exact low_congr fun i hi => vac_has h hi
theorem any_emp (h : GroupAt d l off c) : decide (0 < cntM (mk (· == 128) (wordN d off))) = (List.range 8).any (fun j => decide ((c j).kind = 0)) := by
  rw [cnt_any _ (mk_lt _ _)]
  have : ∀ n, n ≤ 8 → (List.range n).any (hasM (mk (· == 128) (wordN d off))) = (List.range n).any (fun j => decide ((c j).kind = 0)) := fun n => by
    induction n with
    | zero => intro _; rfl
    | succ n ih =>
      intro hn
      rw [List.range_succ, List.any_append, List.any_append, ih (by omega)]
      simp only [List.any_cons, List.any_nil, Bool.or_false]
      rw [emp_has h (by omega)]
  exact this 8 (Nat.le_refl _)
end
end Go.Proofs.YtmdnknbolgedgaaGreatDoor
/-
  A search, as data: by the steps of its way.
-/
namespace Go.Proofs.YtmdnknbolgedgaaGreatDoor
open Go.RowKit Go.Shelf Ly Ct
set_option linter.unusedVariables false

/-- The search from step s on; m: which group is met at a step. -/
def srchN (c : Nat → GC) (tag : Int) (key : ByteArray) (m : Nat → Nat) : Nat → Nat → Option Nat → Srch
  | 0, s, v => ⟨s, none, v⟩
  | f + 1, s, v => if hitG c tag key (m s) < 8 then ⟨s + 1, some (8 * m s + hitG c tag key (m s)), v⟩ else if empG c (m s) then ⟨s + 1, none, meetV v c (m s)⟩ else srchN c tag key m f (s + 1) (meetV v c (m s))
def srchT (c : Nat → GC) (tag : Int) (key : ByteArray) (m : Nat → Nat) (G : Nat) : Srch := srchN c tag key m G 0 none
def vacS (c : Nat → GC) (m : Nat → Nat) : Nat → Option Nat
  | 0 => none
  | s + 1 => meetV (vacS c m s) c (m s)
/-- The first s groups of the way have neither the key nor an empty slot. -/
def goes (c : Nat → GC) (tag : Int) (key : ByteArray) (m : Nat → Nat) (s : Nat) : Prop := ∀ i, i < s → ¬ hitG c tag key (m i) < 8 ∧ empG c (m i) = false
section
variable {c : Nat → GC} {tag : Int} {key : ByteArray} {m : Nat → Nat} {G : Nat}
theorem goes_zero : goes c tag key m 0 := fun i h => absurd h (Nat.not_lt_zero _)
theorem goes_succ {s : Nat} (h : goes c tag key m s) (h1 : ¬ hitG c tag key (m s) < 8) (h2 : empG c (m s) = false) : goes c tag key m (s + 1) := fun i hi => by
  rcases Nat.lt_or_ge i s with q | q
  · exact h i q
  · obtain rfl : i = s := by omega
    exact ⟨h1, h2⟩
theorem srch_at : ∀ s, goes c tag key m s → s ≤ G → srchT c tag key m G = srchN c tag key m (G - s) s (vacS c m s)
  | 0, _, _ => rfl
  | s + 1, h, hs => by
    rw [srch_at s (fun i hi => h i (by omega)) (by omega)]
    obtain ⟨h1, h2⟩ := h s (Nat.lt_succ_self s)
    rw [show G - s = (G - (s + 1)) + 1 by omega]
    rw [srchN, if_neg h1, h2, if_neg (by decide)]
    rfl
theorem srch_hit {s : Nat} (h : goes c tag key m s) (hs : s < G) (h1 : hitG c tag key (m s) < 8) : srchT c tag key m G = ⟨s + 1, some (8 * m s + hitG c tag key (m s)), vacS c m s⟩ := by
  rw [srch_at s h (by omega), show G - s = (G - (s + 1)) + 1 by omega, srchN, if_pos h1]
theorem srch_emp {s : Nat} (h : goes c tag key m s) (hs : s < G) (h1 : ¬ hitG c tag key (m s) < 8) (h2 : empG c (m s) = true) : srchT c tag key m G = ⟨s + 1, none, vacS c m (s + 1)⟩ := by
  rw [srch_at s h (by omega), show G - s = (G - (s + 1)) + 1 by omega, srchN, if_neg h1, if_pos h2]
  rfl
theorem srch_end (h : goes c tag key m G) : srchT c tag key m G = ⟨G, none, vacS c m G⟩ := by
  rw [srch_at G h (Nat.le_refl _), Nat.sub_self]
  rfl
end
def optI : Option Nat → Int
  | some s => (s : Int)
  | none => -1
def vacE (c : Nat → GC) : Option Nat → Bool
  | some s => decide ((c s).kind = 0)
  | none => false
/-- The cells of a sought: the header's words by f, the groups looked at, the key's slot and cell, the first vacant slot, is it empty? -/
def sghC (f : Nat → Int) (n : Nat) (s : Int) (x : GC) (v : Int) (e : Bool) : Array Value :=
  #[.int .i64 (f 3), .int .i64 (f 4), .int .i64 (f 5), .int .i64 (f 6), .int .i64 (f 1), .int .i64 (f 2), .bool (f 0 == 4), .int .i64 (f 7), .int .i64 (n : Int), .int .i64 s, .int .i64 x.kind, .int .i64 x.tag, .string x.key, .string x.elem, .int .i64 x.birth, .int .i64 v, .bool e]
theorem met_sgh {d : AD} {l : Lay} {off : Nat} {c : Nat → GC} {i : Nat} (h : GroupAt d l off (grpC c i)) (f : Nat → Int) (n : Nat) (s : Int) (x : GC) (v : Option Nat) :
    metC (sghC f n s x (optI v) (vacE c v)) (optI v) (wordN d off) i = sghC f n s x (optI (meetV v c i)) (vacE c (meetV v c i)) := by
  unfold metC
  rw [fir_vac h]
  have hv : low (fun j => decide ((grpC c i j).kind ≠ 2)) 8 = vacG c i := rfl
  rw [hv]
  cases v with
  | some y =>
    rw [if_neg (by simp only [optI]; omega)]
    rfl
  | none =>
    by_cases h8 : vacG c i < 8
    · rw [if_pos ⟨by simp only [optI]; omega, h8⟩]
      have e1 : meetV none c i = some (8 * i + vacG c i) := by simp only [meetV]; rw [if_pos h8]
      have e2 : hasM (mk (· == 128) (wordN d off)) (vacG c i) = decide ((c (8 * i + vacG c i)).kind = 0) := emp_has h h8
      rw [e1, e2]
      simp only [sghC, List.setIfInBounds_toArray, List.set_cons_zero, List.set_cons_succ, optI, vacE]
      rw [show (i * 8 + vacG c i : Nat) = 8 * i + vacG c i by omega]
    · rw [if_neg (fun q => h8 q.2)]
      have e1 : meetV none c i = none := by simp only [meetV]; rw [if_neg h8]
      rw [e1]
theorem emp_is {d : AD} {l : Lay} {off : Nat} {c : Nat → GC} {i : Nat} (h : GroupAt d l off (grpC c i)) : decide (0 < cntM (mk (· == 128) (wordN d off))) = empG c i := any_emp h
theorem slot_any {c : Nat → GC} {m : Nat → Nat} : ∀ s x, vacS c m s = some x → ∃ i, i < s ∧ x = 8 * m i + vacG c (m i) ∧ vacG c (m i) < 8
  | 0, x, h => by cases h
  | s + 1, x, h => by
    unfold vacS at h
    cases hv : vacS c m s with
    | some y =>
      rw [hv] at h
      obtain ⟨i, h1, h2, h3⟩ := slot_any s y hv
      have : y = x := by simpa [meetV] using h
      exact ⟨i, by omega, by omega, h3⟩
    | none =>
      rw [hv] at h
      simp only [meetV] at h
      by_cases h8 : vacG c (m s) < 8
      · rw [if_pos h8] at h
        exact ⟨s, by omega, by simpa using h.symm, h8⟩
      · rw [if_neg h8] at h
        cases h
end Go.Proofs.YtmdnknbolgedgaaGreatDoor
/-
  Where a search ends.
-/
namespace Go.Proofs.YtmdnknbolgedgaaGreatDoor
open Go.RowKit Go.Shelf Ly Ct
set_option linter.unusedVariables false

section
variable {c : Nat → GC} {tag : Int} {key : ByteArray} {m : Nat → Nat}
theorem srchN_slot : ∀ (f s : Nat) (v : Option Nat) (x : Nat), (srchN c tag key m f s v).slot = some x → ∃ i, s ≤ i ∧ i < s + f ∧ x = 8 * m i + hitG c tag key (m i) ∧ hitG c tag key (m i) < 8
  | 0, s, v, x, h => by cases h
  | f + 1, s, v, x, h => by
    unfold srchN at h
    split at h
    · rename_i h8
      exact ⟨s, Nat.le_refl _, by omega, (Option.some.inj h).symm, h8⟩
    · split at h
      · cases h
      · obtain ⟨i, h1, h2, h3⟩ := srchN_slot f (s + 1) _ x h
        exact ⟨i, by omega, by omega, h3⟩
theorem srchN_vac : ∀ (f s : Nat) (v : Option Nat) (x : Nat), (srchN c tag key m f s v).vac = some x → v = some x ∨ ∃ i, i < s + f ∧ x = 8 * m i + vacG c (m i) ∧ vacG c (m i) < 8
  | 0, s, v, x, h => Or.inl h
  | f + 1, s, v, x, h => by
    have meet : meetV v c (m s) = some x → v = some x ∨ ∃ i, i < s + (f + 1) ∧ x = 8 * m i + vacG c (m i) ∧ vacG c (m i) < 8 := fun q => by
      cases v with
      | some y => exact Or.inl q
      | none =>
        simp only [meetV] at q
        by_cases h8 : vacG c (m s) < 8
        · rw [if_pos h8] at q
          exact Or.inr ⟨s, by omega, (Option.some.inj q).symm, h8⟩
        · rw [if_neg h8] at q
          cases q
    unfold srchN at h
    split at h
    · exact Or.inl h
    · split at h
      · exact meet h
      · rcases srchN_vac f (s + 1) _ x h with q | ⟨i, h1, h2⟩
        · exact meet q
        · exact Or.inr ⟨i, by omega, h2⟩
theorem hit_cell {g : Nat} (h : hitG c tag key g < 8) : (c (8 * g + hitG c tag key g)).kind = 2 ∧ (c (8 * g + hitG c tag key g)).tag = tag ∧ (c (8 * g + hitG c tag key g)).key = key := by
  obtain ⟨_, h2, _⟩ := low_spec (mtC (grpC c g) tag key) 8 (Nat.le_refl _)
  have := (h2 h).1
  exact of_decide_eq_true this
theorem vac_cell {g : Nat} (h : vacG c g < 8) : (c (8 * g + vacG c g)).kind ≠ 2 := by
  obtain ⟨_, h2, _⟩ := low_spec (fun j => decide ((grpC c g j).kind ≠ 2)) 8 (Nat.le_refl _)
  have := (h2 h).1
  exact of_decide_eq_true this
/-- The slot that is answered has the key. -/
theorem srch_slot {G s : Nat} (hm : ∀ i, i < G → m i < G) (h : (srchT c tag key m G).slot = some s) : s < 8 * G ∧ (c s).kind = 2 ∧ (c s).tag = tag ∧ (c s).key = key := by
  obtain ⟨i, -, h1, rfl, h2⟩ := srchN_slot G 0 none s h
  have := hm i (by omega)
  exact ⟨by omega, hit_cell h2⟩
theorem srch_vac {G s : Nat} (hm : ∀ i, i < G → m i < G) (h : (srchT c tag key m G).vac = some s) : s < 8 * G ∧ (c s).kind ≠ 2 := by
  rcases srchN_vac G 0 none s h with q | ⟨i, h1, rfl, h2⟩
  · cases q
  · have := hm i (by omega)
    exact ⟨by omega, vac_cell h2⟩
end
end Go.Proofs.YtmdnknbolgedgaaGreatDoor
/-
  What a call on a table leaves: only bytes of its two blocks are turned.
-/
namespace Go.Proofs.YtmdnknbolgedgaaGreatDoor
open Go.RowKit Go.Shelf Ly Ct
set_option linter.unusedVariables false

/-- Only bytes of the header at off and of n bytes at gr are turned. -/
structure Alt (d d' : AD) (off gr n : Nat) : Prop where
  data : d' = d.bytes d'.bs
  len : d'.bs.length = d.bs.length
  out : ∀ j, j < off ∨ off + 64 ≤ j → j < gr ∨ gr + n ≤ j → d'.bs[j]? = d.bs[j]?
section
variable {d d1 d2 : AD} {l : Lay} {off gr n G : Nat} {f : Nat → Int} {c : Nat → GC}
theorem Alt.refl (d : AD) (off gr n : Nat) : Alt d d off gr n := ⟨rfl, rfl, fun _ _ _ => rfl⟩
theorem Alt.trans (h : Alt d d1 off gr n) (k : Alt d1 d2 off gr n) : Alt d d2 off gr n := ⟨by rw [k.data, h.data]; rfl, k.len.trans h.len, fun j h1 h2 => (k.out j h1 h2).trans (h.out j h1 h2)⟩
theorem Alt.head (h : Touch d d1 off 64) : Alt d d1 off gr n := ⟨h.data, h.len, fun j h1 _ => h.out j h1⟩
theorem Alt.grp {i g : Nat} (hi : i < G) (h : Touch d d1 (gr + i * g) g) : Alt d d1 off gr (G * g) := ⟨h.data, h.len, fun j _ h2 => h.out j (by
  have := mul_apart (s := g) hi
  have h3 : i * g + g ≤ G * g := by omega
  omega)⟩
theorem Alt.fine (h : Alt d d1 off gr n) (F : d.Fine) : d1.Fine := by
  rw [h.data]
  exact F.bytes h.len
theorem Alt.small (h : Alt d d1 off gr n) (F : d.small) : d1.small := by
  rw [h.data]
  exact F
/-- A table behind a call: the arena is turned, only in the table's two blocks, and it is that table. -/
def TabT (w w' : World) (p : Nat) (F : Nat → Prop) (d : AD) (l : Lay) (off gr G : Nat) (f : Nat → Int) (c : Nat → GC) : Prop := ∃ d', Turned w w' p F d' ∧ Alt d d' off gr (G * l.g.toNat) ∧ TabD d' l off gr G f c
end
section
variable {w w0 w1 w2 : World} {p : Nat} {F : Nat → Prop} {d : AD} {l : Lay} {off gr G : Nat} {f f1 f2 : Nat → Int} {c c1 c2 : Nat → GC}
theorem TabT.pre (k : Keeps w w0 (fun _ => False)) (h : TabT w0 w1 p F d l off gr G f c) : TabT w w1 p F d l off gr G f c := by
  obtain ⟨d', h1, h2, h3⟩ := h
  exact ⟨d', h1.pre k, h2, h3⟩
theorem TabT.post (h : TabT w w1 p F d l off gr G f c) (k : Keeps w1 w2 (fun _ => False)) : TabT w w2 p F d l off gr G f c := by
  obtain ⟨d', h1, h2, h3⟩ := h
  exact ⟨d', h1.post k, h2, h3⟩
theorem TabT.same (hA : Arena w p F d) (h : TabD d l off gr G f c) (k : Keeps w w1 (fun _ => False)) : TabT w w1 p F d l off gr G f c := ⟨d, hA.same k, Alt.refl _ _ _ _, h⟩
theorem updC_grp {k : Nat} (j : Nat) (hj : j < 8) (x : GC) : ∀ n, updG c k (updC (fun i => c (8 * k + i)) j x) n = if n = 8 * k + j then x else c n := fun n => by
  unfold updG updC
  by_cases e : n / 8 = k
  · rw [if_pos e]
    by_cases e2 : n = 8 * k + j
    · rw [if_pos e2, if_pos (by omega)]
    · rw [if_neg e2, if_neg (by omega)]
      show c (8 * k + n % 8) = c n
      rw [show 8 * k + n % 8 = n by omega]
  · rw [if_neg e, if_neg (by omega)]
end
/-- One cell is another. -/
def updN (c : Nat → GC) (s : Nat) (x : GC) : Nat → GC := fun n => if n = s then x else c n
theorem updG_updC (c : Nat → GC) (s : Nat) (x : GC) : updG c (s / 8) (updC (fun i => c (8 * (s / 8) + i)) (s % 8) x) = updN c s x := by
  funext n
  rw [updC_grp (s % 8) (by omega)]
  unfold updN
  rw [show 8 * (s / 8) + s % 8 = s by omega]
end Go.Proofs.YtmdnknbolgedgaaGreatDoor
/-
  The order of a table's groups, as data: the document's words of chapter 7, as functions of numbers. Nothing here names the program.
-/
namespace Go.Proofs.YtmdnknbolgedgaaGreatDoor.Pb
open Go.RowKit

theorem hide {p : Prop} (h : p) : Hid p := h

/-- A power of two from lo to hi. -/
def pw (n lo hi : Int) : Bool := decide (lo ≤ n ∧ n ≤ hi ∧ (n.toNat &&& (n.toNat - 1)) = 0)
theorem two_pow_of {n : Nat} (h0 : n ≠ 0) (h : n &&& (n - 1) = 0) : ∃ k, n = 2 ^ k := (Nat.and_sub_one_eq_zero_iff_isPowerOfTwo h0).1 h
theorem pow_and (k : Nat) : 2 ^ k &&& (2 ^ k - 1) = 0 := (Nat.and_sub_one_eq_zero_iff_isPowerOfTwo (by have := Nat.two_pow_pos k; omega)).2 ⟨k, rfl⟩
theorem pw_iff {n lo hi : Int} (hlo : 1 ≤ lo) : pw n lo hi = true ↔ lo ≤ n ∧ n ≤ hi ∧ ∃ k : Nat, n = ((2 ^ k : Nat) : Int) := by
  unfold pw
  rw [decide_eq_true_iff]
  constructor
  · rintro ⟨h1, h2, h3⟩
    obtain ⟨m, rfl⟩ := Int.eq_ofNat_of_zero_le (show 0 ≤ n by omega)
    obtain ⟨k, hk⟩ := two_pow_of (n := m) (by omega) h3
    exact ⟨h1, h2, k, by rw [hk]⟩
  · rintro ⟨h1, h2, k, rfl⟩
    exact ⟨h1, h2, pow_and k⟩
theorem and_pred (m : Nat) (h1 : 1 ≤ m) (h2 : m ≤ 1000000) : bits .and .i64 (m : Int) ((m : Int) - 1) = ((m &&& (m - 1) : Nat) : Int) := by
  have e : (m : Int) - 1 = ((m - 1 : Nat) : Int) := by omega
  rw [e]
  show IntKind.i64.wrap ((BitVec.ofInt 64 (m : Int) &&& BitVec.ofInt 64 ((m - 1 : Nat) : Int)).toNat : Int) = _
  have ha : (m &&& (m - 1)) ≤ m := Nat.and_le_left
  rw [BitVec.toNat_and, BitVec.ofInt_natCast, BitVec.ofInt_natCast, BitVec.toNat_ofNat, BitVec.toNat_ofNat, Nat.mod_eq_of_lt (by omega), Nat.mod_eq_of_lt (by omega), IntKind.wrap_i64]
  omega

/-- A number of groups that is valid. -/
theorem pwG {n : Int} (h : pw n 1 8192 = true) : ∃ k : Nat, k ≤ 13 ∧ n = ((2 ^ k : Nat) : Int) := by
  obtain ⟨h1, h2, k, rfl⟩ := (pw_iff (by omega)).1 h
  refine ⟨k, Nat.le_of_not_lt fun hk => ?_, rfl⟩
  have := Nat.pow_le_pow_right (n := 2) (by omega) (show 14 ≤ k by omega)
  omega
theorem pwG_pow {k : Nat} (h : k ≤ 13) : pw ((2 ^ k : Nat) : Int) 1 8192 = true := by
  refine (pw_iff (by omega)).2 ⟨?_, ?_, k, rfl⟩
  · have := Nat.two_pow_pos k; omega
  · have := Nat.pow_le_pow_right (n := 2) (by omega) h; omega
theorem pow_bounds {k : Nat} (h : k ≤ 13) : 1 ≤ 2 ^ k ∧ 2 ^ k ≤ 8192 := by
  have := Nat.two_pow_pos k
  have := Nat.pow_le_pow_right (n := 2) (by omega) h
  omega

/-- The group at step n. -/
def metN (h G n : Nat) : Nat := (h + n * (n + 1) / 2) % G
theorem metN_lt {h G n : Nat} (hG : 1 ≤ G) : metN h G n < G := Nat.mod_lt _ hG
theorem metN_zero (h G : Nat) : metN h G 0 = h % G := by simp [metN]
theorem tri_succ (n : Nat) : (n + 1) * (n + 1 + 1) / 2 = n * (n + 1) / 2 + (n + 1) := by
  have e : (n + 1) * (n + 1 + 1) = n * (n + 1) + (n + 1) * 2 := by
    rw [Nat.add_mul, Nat.mul_add, Nat.mul_add]; omega
  rw [e, Nat.add_mul_div_right _ _ (by omega)]
theorem metN_succ (h G n : Nat) : metN h G (n + 1) = (metN h G n + (n + 1)) % G := by
  unfold metN
  rw [tri_succ, Nat.mod_add_mod, Nat.add_assoc]
theorem tri_even (n : Nat) : n * (n + 1) / 2 * 2 = n * (n + 1) := by
  have h : n * (n + 1) % 2 = 0 := by
    rw [Nat.mul_mod]
    rcases Nat.mod_two_eq_zero_or_one n with h | h
    · rw [h, Nat.zero_mul]
    · rw [Nat.add_mod, h]
  omega
/-- Every home's remainder alone counts. -/
theorem metN_mod (h G n : Nat) : metN (h % G) G n = metN h G n := by
  unfold metN
  rw [Nat.mod_add_mod]
theorem wrap_mod {a k : Nat} (h : k ≤ 64) : a % 18446744073709551616 % 2 ^ k = a % 2 ^ k := by
  rw [show (18446744073709551616 : Nat) = 2 ^ 64 by rfl]
  exact Nat.mod_mod_of_dvd _ (Nat.pow_dvd_pow 2 h)

/-- Triangular numbers below a power of two are all different. -/
theorem odd_dvd {k a b : Nat} (ho : b % 2 = 1) (h : 2 ^ k ∣ a * b) : 2 ^ k ∣ a := by
  have hc : Nat.Coprime (2 ^ k) b := Nat.Coprime.pow_left k (by
    have : Nat.gcd 2 b = 1 := by rw [Nat.gcd_rec, ho]; rfl
    exact this)
  exact hc.dvd_of_dvd_mul_right h
theorem metN_lt_ne {h k m n : Nat} (hmn : m < n) (hn : n < 2 ^ k) : metN h (2 ^ k) m ≠ metN h (2 ^ k) n := by
  intro e
  unfold metN at e
  have hle : m * (m + 1) / 2 ≤ n * (n + 1) / 2 := Nat.div_le_div_right (Nat.mul_le_mul (by omega) (by omega))
  have hd : 2 ^ k ∣ (n * (n + 1) / 2 - m * (m + 1) / 2) := by
    have := Nat.dvd_of_mod_eq_zero (Nat.sub_mod_eq_zero_of_mod_eq e.symm)
    rwa [Nat.add_sub_add_left] at this
  have hd2 : 2 ^ (k + 1) ∣ (n - m) * (n + m + 1) := by
    have h1 : 2 ^ k * 2 ∣ (n * (n + 1) / 2 - m * (m + 1) / 2) * 2 := Nat.mul_dvd_mul_right hd 2
    have e1 : (n * (n + 1) / 2 - m * (m + 1) / 2) * 2 = (n - m) * (n + m + 1) := by
      rw [Nat.sub_mul, tri_even, tri_even]
      obtain ⟨d, rfl⟩ : ∃ d, n = m + d := ⟨n - m, by omega⟩
      rw [Nat.add_sub_cancel_left]
      have e2 : (m + d) * (m + d + 1) = m * (m + 1) + d * (m + d + m + 1) := by
        simp only [Nat.add_mul, Nat.mul_add, Nat.mul_one]
        have := Nat.mul_comm m d
        omega
      rw [e2, Nat.add_sub_cancel_left]
    rw [e1] at h1
    exact h1
  have hp : 2 ^ (k + 1) = 2 ^ k * 2 := Nat.pow_succ 2 k
  rcases Nat.mod_two_eq_zero_or_one (n - m) with h0 | h0
  · have ho : (n + m + 1) % 2 = 1 := by omega
    have := Nat.le_of_dvd (by omega) (odd_dvd ho hd2)
    omega
  · rw [Nat.mul_comm] at hd2
    have := Nat.le_of_dvd (by omega) (odd_dvd h0 hd2)
    omega
theorem metN_inj {h k m n : Nat} (hm : m < 2 ^ k) (hn : n < 2 ^ k) (e : metN h (2 ^ k) m = metN h (2 ^ k) n) : m = n := by
  rcases Nat.lt_trichotomy m n with h1 | h1 | h1
  · exact absurd e (metN_lt_ne h1 hn)
  · exact h1
  · exact absurd e.symm (metN_lt_ne h1 hm)

/-- As many places as things: what is one to one meets all. -/
theorem no_inj : ∀ (G : Nat) (f : Nat → Nat), (∀ i, i < G + 1 → f i < G) → (∀ i j, i < G + 1 → j < G + 1 → f i = f j → i = j) → False
  | 0, f, h1, _ => by have := h1 0 (by omega); omega
  | G + 1, f, h1, h2 => by
    refine no_inj G (fun i => if f i = G then f (G + 1) else f i) (fun i hi => ?_) (fun i j hi hj e => ?_)
    · have a := h1 i (by omega)
      have b := h1 (G + 1) (by omega)
      show (if f i = G then f (G + 1) else f i) < G
      split
      · rename_i he
        have : f (G + 1) ≠ G := fun e => by have := h2 i (G + 1) (by omega) (by omega) (he.trans e.symm); omega
        omega
      · omega
    · have a : f i ≠ f (G + 1) := fun e => by have := h2 i (G + 1) (by omega) (by omega) e; omega
      have b : f j ≠ f (G + 1) := fun e => by have := h2 j (G + 1) (by omega) (by omega) e; omega
      split at e <;> split at e
      · rename_i x y; exact h2 i j (by omega) (by omega) (x.trans y.symm)
      · exact absurd e.symm b
      · exact absurd e a
      · exact h2 i j (by omega) (by omega) e
theorem inj_onto {G : Nat} {f : Nat → Nat} (h1 : ∀ i, i < G → f i < G) (h2 : ∀ i j, i < G → j < G → f i = f j → i = j) {x : Nat} (hx : x < G) : ∃ i, i < G ∧ f i = x := by
  apply Classical.byContradiction
  intro hn
  have hne : ∀ i, i < G → f i ≠ x := fun i hi e => hn ⟨i, hi, e⟩
  obtain ⟨g, rfl⟩ : ∃ g, G = g + 1 := ⟨G - 1, by omega⟩
  refine no_inj g (fun i => if f i = g then x else f i) (fun i hi => ?_) (fun i j hi hj e => ?_)
  · have a := h1 i hi
    have b := hne i hi
    show (if f i = g then x else f i) < g
    split <;> omega
  · have a := hne i hi
    have b := hne j hj
    split at e <;> split at e
    · rename_i y z; exact h2 i j hi hj (y.trans z.symm)
    · exact absurd e.symm b
    · exact absurd e a
    · exact h2 i j hi hj e
theorem metN_onto {h k x : Nat} (hx : x < 2 ^ k) : ∃ i, i < 2 ^ k ∧ metN h (2 ^ k) i = x :=
  inj_onto (f := metN h (2 ^ k)) (fun i hi => metN_lt (by omega)) (fun i j hi hj e => metN_inj hi hj e) hx

/-- How many slots may be full. -/
def mostN (s : Int) : Int := if pw s 8 65536 then s / 8 * 7 else 0
/-- The least table, from p on. -/
def slF (n : Int) : Nat → Int → Int
  | 0, _ => 0
  | f + 1, p => if n ≤ p / 8 * 7 then p else slF n f (2 * p)
def slotsN (n : Int) : Int := if n < 0 then 0 else slF n 14 8

theorem pwS_yes : ∀ j, j < 14 → pw ((8 * 2 ^ j : Nat) : Int) 8 65536 = true := by decide
theorem pwS_no : pw ((8 * 2 ^ 14 : Nat) : Int) 8 65536 = false := by decide
theorem pow_int (j : Nat) : ((8 * 2 ^ (j + 1) : Nat) : Int) = 2 * ((8 * 2 ^ j : Nat) : Int) := by
  rw [Nat.pow_succ]; omega
theorem pow_le14 : ∀ {j : Nat}, j ≤ 14 → 8 ≤ ((8 * 2 ^ j : Nat) : Int) ∧ ((8 * 2 ^ j : Nat) : Int) ≤ 131072 := by
  intro j hj
  have := Nat.two_pow_pos j
  have := Nat.pow_le_pow_right (n := 2) (by omega) hj
  omega
theorem pow_le13 {j : Nat} (hj : j ≤ 13) : ((8 * 2 ^ j : Nat) : Int) ≤ 65536 := by
  have := Nat.pow_le_pow_right (n := 2) (by omega) hj
  omega
theorem slF_spec (n : Int) (hn : n ≤ 57344) : ∀ f j, f + j = 14 → (j = 0 ∨ 7 * (2 ^ (j - 1) : Nat) < n) →
    ∃ i, i < 14 ∧ slF n f ((8 * 2 ^ j : Nat) : Int) = ((8 * 2 ^ i : Nat) : Int) ∧ n ≤ 7 * (2 ^ i : Nat) ∧ (i = 0 ∨ 7 * (2 ^ (i - 1) : Nat) < n)
  | 0, j, hj, h => by
    exfalso
    obtain rfl : j = 14 := by omega
    rcases h with h | h
    · omega
    · have : (7 * ((2 ^ (14 - 1) : Nat) : Int)) = 57344 := by decide
      omega
  | f + 1, j, hj, h => by
    unfold slF
    have e : ((8 * 2 ^ j : Nat) : Int) / 8 * 7 = 7 * (2 ^ j : Nat) := by omega
    rw [e]
    by_cases hle : n ≤ 7 * (2 ^ j : Nat)
    · rw [if_pos hle]
      exact ⟨j, by omega, rfl, hle, h⟩
    · rw [if_neg hle, ← pow_int]
      exact slF_spec n hn f (j + 1) (by omega) (Or.inr (by rw [Nat.add_sub_cancel]; omega))
theorem slF_no (n : Int) (hn : 57344 < n) : ∀ f j, f + j = 14 → slF n f ((8 * 2 ^ j : Nat) : Int) = 0
  | 0, _, _ => rfl
  | f + 1, j, hj => by
    unfold slF
    have e : ((8 * 2 ^ j : Nat) : Int) / 8 * 7 = 7 * (2 ^ j : Nat) := by omega
    have := Nat.pow_le_pow_right (n := 2) (by omega) (show j ≤ 13 by omega)
    rw [e, if_neg (by omega), ← pow_int]
    exact slF_no n hn f (j + 1) (by omega)
end Go.Proofs.YtmdnknbolgedgaaGreatDoor.Pb
