/-
  All of a set, and a range over it.
-/
import Derived.Test.YtbpgjlengpgnnabDoorCR4
import Derived.Test.YtbpgjlengpgnnabDoorRows
import Derived.RangeFuncBox
import Derived.RangeFuncLeaves
import Derived.RangeFuncWrites
import Derived.RangeFuncNested
import Derived.Shelf.Abstract
import Derived.OwnWalkIn
import Derived.TacticsInMore
import Derived.LoopNIn
import Derived.LoopIn
import Derived.Sort.LoopGhostIn
namespace Go.Proofs.YtbpgjlengpgnnabDoor
open Go.RowKit Go.Shelf
set_option linter.unusedVariables false

attribute [local go_sem] Oper.semAt_some

/-- The slots of a set, in rising order. -/
def slM (m : Nat) : List Nat := (List.range 8).filter (fun i => hasM m i)
theorem sl_zero : ∀ m, m < 256 → cntM m = 0 → slM m = [] := by decide +kernel
theorem sl_cons : ∀ m, m < 256 → 0 < cntM m → slM m = firM m :: slM (rstM m) := by decide +kernel
theorem cnt_rst : ∀ m, m < 256 → 0 < cntM m → cntM (rstM m) + 1 = cntM m := by decide +kernel

/-- Sets stay as they are, and the table. -/
def Stay (W W' : World) : Prop := (∀ (q : Nat) (cs : Array Value), W.heap[q]? = some (Obj.cells cs 26) → W'.heap[q]? = some (Obj.cells cs 26)) ∧ (TabAt W → TabAt W')
theorem Stay.refl (W : World) : Stay W W := ⟨fun _ _ h => h, fun h => h⟩
theorem Stay.trans {A B C : World} (h : Stay A B) (k : Stay B C) : Stay A C := ⟨fun q cs e => k.1 q cs (h.1 q cs e), fun t => k.2 (h.2 t)⟩
theorem Stay.kp {W W' : World} (k : Kp W W') : Stay W W' := ⟨fun _ _ h => k.blk h, fun t => t.kp k⟩

theorem abides_kp {β : Type} {B : Nat} {J : β → World → Prop} (h : AbidesFrom B J) {s : β} {W W' : World} (hJ : J s W) (k : Kp W W') : J s W' :=
  h s W W' none hJ ⟨k.os, k.tape, k.output, k.size, fun i hi _ => k.block i hi⟩ (fun r e => by cases e)

set_option maxHeartbeats 1000000 in
theorem all_call (z : Int) (w : World) :
    Calls Tryd.prog 13 #[.agg #[.int .u64 z]] w fun e w' => e = .returned (.func (.func 26) #[] #[.pointer (some ⟨w.heap.size, 0, none⟩)]) ∧ w' = w.alloc (.cells #[.int .u64 z] 26) := by
  go_enter Tryd.func13, Tryd.ntmps13
  go_wp2
  go_ret
  exact ⟨rfl, rfl⟩

set_option maxRecDepth 100000 in
set_option maxHeartbeats 4000000 in
theorem all_each (n : Nat) (hn : 1 ≤ n) (l Bs B m : Nat) (hm : m < 256) (J Jx : List Nat → World → Prop) (hAb : AbidesFrom B J)
    (hY : ∀ pre (x : Nat) W, J pre W → pre.length < (slM m).length → YieldAt Fence.wide (n - 1) Tryd.prog l #[.int .i64 (x : Int)] W fun e W' =>
      (e = .returned (.bool true) ∧ J (pre ++ [x]) W' ∧ Stay W W') ∨ (e = .returned (.bool false) ∧ Jx (pre ++ [x]) W'))
    (W : World) (hBs : W.cell? ⟨Bs, 0, none⟩ = some (.int .u64 ((spread m : Nat) : Int))) (hT : TabAt W) (hJ0 : J [] W) :
    CallsIn Fence.wide n Tryd.prog 26 #[.func (.yield l) #[] #[], .pointer (some ⟨Bs, 0, none⟩)] W fun e W' => (∃ v, e = .returned v) ∧
      ((∃ ys, ys = slM m ∧ J ys W') ∨ (∃ pre, pre <+: slM m ∧ Jx pre W')) := by
  have hro : Fence.wide.round = none := rfl
  refine callsIn_of_wp Tryd.func26 rfl trivial ?_ hro
  simp only [Tryd.ntmps26, List.size_toArray, List.length_cons, List.length_nil, Nat.reduceAdd, Nat.reduceSub, Array.replicate_succ, Array.replicate_zero, List.push_toArray, List.append_toArray, List.nil_append, List.cons_append]
  gi_wp2_with fail
  have hL := heap_new W (.cells #[.int .u64 ((spread m : Nat) : Int)] 26)
  have kA : Kp W (W.alloc (.cells #[.int .u64 ((spread m : Nat) : Int)] 26)) := (Kp.refl _).alloc _
  have hJ1 := abides_kp hAb hJ0 kA
  have hT1 := hT.kp kA
  clear hJ0 hT hBs kA
  generalize W.alloc (.cells #[.int .u64 ((spread m : Nat) : Int)] 26) = W1 at *
  generalize W.heap.size = Bl at *
  gi_loopg [3] (cntM m) (fun g v3 wr => ∃ (Bl m' : Nat) (pre : List Nat), g = cntM m' ∧ m' < 256 ∧ v3 = .pointer (some ⟨Bl, 0, none⟩) ∧ wr.heap[Bl]? = some (.cells #[.int .u64 ((spread m' : Nat) : Int)] 26) ∧ pre ++ slM m' = slM m ∧ J pre wr ∧ TabAt wr)
  case atStart => exact ⟨Bl, m, [], rfl, hm, rfl, hL, rfl, hJ1, hT1⟩
  case round =>
    clear hL hJ1 hT1
    obtain ⟨Bl, m', pre, rfl, hm', rfl, hL, hpre, hJ, hT⟩ := hrel
    have hz := sl_zero m' hm'
    have hc := sl_cons m' hm'
    have hd := cnt_rst m' hm'
    have n1 : CntIs ((spread m' : Nat) : Int) ((cntM m' : Nat) : Int) := ⟨m', hm', rfl, rfl⟩
    have f1 : FirstIs ((spread m' : Nat) : Int) ((firM m' : Nat) : Int) := ⟨m', hm', rfl, rfl⟩
    have r1 : RestIs ((spread m' : Nat) : Int) ((spread (rstM m') : Nat) : Int) := ⟨m', hm', rfl, rfl⟩
    have hlt' := rst_lt m' hm'
    obtain ⟨c1, c2⟩ := one_cell hL
    by_cases h0 : cntM m' = 0
    · have HZ := hide (hz h0)
      have HP := hide hpre
      have HJ := hide hJ
      rw [h0] at n1
      clear hz hc hd f1 r1 hlt' hJ hpre h0
      gi_wp2_with fail
      refine ⟨trivial, (callsIn_wide.2 (count_is n1 _)).mono ?_⟩
      rintro e W2 ⟨rfl, k2⟩
      gi_wp2_with fail
      go_end0
      exact ⟨⟨_, rfl⟩, .inl ⟨pre, by rw [← HP.out, HZ.out, List.append_nil], abides_kp hAb HJ.out k2⟩⟩
    · have hp : 0 < cntM m' := by omega
      have hp' : 0 < ((cntM m' : Nat) : Int) := by omega
      have HC := hide (hc hp)
      have HP := hide hpre
      have HD := hide (hd hp)
      have hlen : pre.length < (slM m).length := by
        rw [← hpre, hc hp]
        simp
      clear hz hc hd hpre h0 hp
      generalize firM m' = F at *
      generalize spread m' = z at *
      generalize cntM m' = C at *
      gi_wp2_with fail
      refine ⟨trivial, (callsIn_wide.2 (count_is n1 _)).mono ?_⟩
      rintro e W2 ⟨rfl, k2⟩
      replace hL := k2.blk hL
      replace hJ := abides_kp hAb hJ k2
      replace hT := hT.kp k2
      clear k2 c1 c2
      obtain ⟨c1, c2⟩ := one_cell hL
      gi_wp2_with fail
      refine ⟨trivial, (callsIn_wide.2 (first_is f1 hT)).mono ?_⟩
      rintro e W3 ⟨rfl, k3⟩
      replace hL := k3.blk hL
      replace hJ := abides_kp hAb hJ k3
      replace hT := hT.kp k3
      clear k3 c1 c2 n1 f1
      obtain ⟨fn, tmps, assign, body, hy, hRd⟩ := hY pre F W3 hJ hlen
      clear hJ
      gi_wp2
      refine hRd.mono ?_
      rintro e W4 (⟨rfl, hJ4, hk4⟩ | ⟨rfl, hJx4⟩)
      · replace hL := hk4.1 _ _ hL
        replace hT := hk4.2 hT
        clear hk4 hRd hy
        obtain ⟨c1, c2⟩ := one_cell hL
        have HJ := hide hJ4
        clear hJ4
        gi_wp2_with fail
        refine ⟨trivial, (callsIn_wide.2 (rest_is r1 _)).mono ?_⟩
        rintro e W5 ⟨rfl, k5⟩
        have hN := k5.blk (heap_new W4 (.cells #[.int .u64 (z : Int)] 26))
        have kk : Kp W4 W5 := ((Kp.refl W4).alloc _).trans k5
        have hN2 : (W5.setCell ⟨W4.heap.size, 0, none⟩ (.int .u64 ((spread (rstM m') : Nat) : Int))).heap[W4.heap.size]? = some (.cells #[.int .u64 ((spread (rstM m') : Nat) : Int)] 26) := set_one hN 0 _ (by simp)
        have kk2 : Kp W4 (W5.setCell ⟨W4.heap.size, 0, none⟩ (.int .u64 ((spread (rstM m') : Nat) : Int))) := Below.setCell kk (Nat.le_refl _) _
        obtain ⟨e1, e2⟩ := one_cell hN
        clear c1 c2 k5 hL kk
        gi_wp2_with fail
        gi_roundg (cntM (rstM m'))
        case measure => have := HD.out; omega
        case rel => exact ⟨_, rstM m', pre ++ [F], rfl, hlt', rfl, hN2, by rw [List.append_assoc, ← HP.out, HC.out]; rfl, abides_kp hAb HJ.out kk2, hT.kp kk2⟩
      · have HX : Hid (∃ pre, pre <+: slM m ∧ Jx pre W4) := ⟨_, ⟨slM (rstM m'), by rw [List.append_assoc, ← HP.out, HC.out]; rfl⟩, hJx4⟩
        clear HC HP HD hJx4 hRd hy
        gi_wp2
        refine bodyPost_ret (results_none rfl _ _ _) rfl ?_
        exact ⟨⟨_, rfl⟩, .inr HX.out⟩

/-- A range over All gives the slots in rising order, or stops behind some of them. -/
theorem all_stops (n : Nat) (hn : 1 ≤ n) (Bs m : Nat) (hm : m < 256) (w : World) (hT : TabAt w) (hc : w.cell? ⟨Bs, 0, none⟩ = some (.int .u64 ((spread m : Nat) : Int))) :
    SeqStopsK Fence.wide n Tryd.prog 26 #[.pointer (some ⟨Bs, 0, none⟩)] (fun x : Nat => #[Value.int .i64 (x : Int)]) Stay (fun ys => ys = slM m) (fun pre => pre <+: slM m) (slM m).length w := fun l J Jx W hW hAb _ hY h0 =>
  all_each n hn l Bs W.heap.size m hm J Jx hAb hY W (Kp.cell hW hc) (TabAt.kp hT hW) h0
end Go.Proofs.YtbpgjlengpgnnabDoor
