/-
  Order, and a range over it.
-/
import Derived.Test.YtkjbhhfnhpnifaaPR1
import Derived.RangeFuncBox
import Derived.RangeFuncLeaves
import Derived.RangeFuncWrites
import Derived.RangeFuncNested
import Derived.Shelf.Abstract
import Derived.OwnWalkIn
import Derived.TacticsInMore
import Derived.LoopNIn
import Derived.LoopIn
import Derived.Sort.LoopGhostIn
namespace Go.Proofs.Ytkjbhhfnhpnifaa
open Go.RowKit Go.Shelf
set_option linter.unusedVariables false

attribute [local go_sem] Oper.semAt_some

/-- What was there stays; what is new may be anything. -/
def Kp (w w' : World) : Prop := Below w.heap.size w w'
theorem Kp.refl (w : World) : Kp w w := Below.refl _ _
theorem Kp.trans {w w1 w2 : World} (h : Kp w w1) (k : Kp w1 w2) : Kp w w2 := Below.trans h (Below.mono k h.size)
theorem Kp.alloc {w w1 : World} (h : Kp w w1) (o : Obj) : Kp w (w1.alloc o) := Below.alloc h h.size o
theorem Kp.drew {w w1 : World} (h : Kp w w1) : Kp w w1.drew := Below.drew h
theorem Kp.blk {w w1 : World} (h : Kp w w1) {q : Nat} {o : Obj} (hq : w.heap[q]? = some o) : w1.heap[q]? = some o := (h.block q (Array.getElem?_eq_some_iff.1 hq).1).trans hq
theorem Kp.cell {w w1 : World} (h : Kp w w1) {p : Addr} {v : Value} (hp : w.cell? p = some v) : w1.cell? p = some v := by
  have : p.block < w.heap.size := by
    refine Nat.lt_of_not_le fun hn => ?_
    rw [World.cell?, Array.getElem?_eq_none hn] at hp
    cases hp
  exact (Below.cell h this).trans hp
theorem heap_new (w : World) (o : Obj) : (w.alloc o).heap[w.heap.size]? = some o := World.alloc_heap_new w o
theorem heap_old {w : World} {q : Nat} {o o' : Obj} (h : w.heap[q]? = some o') : (w.alloc o).heap[q]? = some o' := ((Kp.refl w).alloc o).blk h
theorem one_cell {w : World} {b : Nat} {v : Value} {t : TypeId} (h : w.heap[b]? = some (.cells #[v] t)) : w.cell? ⟨b, 0, none⟩ = some v ∧ w.frozen? ⟨b, 0, none⟩ = false := by
  constructor
  · simp [World.cell?, h]
  · simp [World.frozen?, h]

/-- The groups in their order. -/
def ordN (h : Nat) (g : Int) : List Nat := if pw g 1 8192 = true then (List.range g.toNat).map (metN h g.toNat) else []
theorem ordN_no {h : Nat} {g : Int} (hq : pw g 1 8192 = false) : ordN h g = [] := by unfold ordN; rw [hq]; rfl
theorem ordN_yes {h k : Nat} (hk : k ≤ 13) : ordN h ((2 ^ k : Nat) : Int) = (List.range (2 ^ k)).map (metN h (2 ^ k)) := by unfold ordN; rw [pwG_pow hk]; rfl

/-- Two blocks stay as they are. -/
def Stay (b c : Nat) (W W' : World) : Prop := ∀ (q : Nat) (o : Obj), q = b ∨ q = c → W.heap[q]? = some o → W'.heap[q]? = some o
theorem Stay.refl (b c : Nat) (W : World) : Stay b c W W := fun _ _ _ h => h
theorem Stay.trans {b c : Nat} {A B C : World} (h : Stay b c A B) (k : Stay b c B C) : Stay b c A C := fun q o hq e => k q o hq (h q o hq e)
theorem Stay.kp {b c : Nat} {W W' : World} (k : Kp W W') : Stay b c W W' := fun _ _ _ h => k.blk h

theorem abides_kp {β : Type} {B : Nat} {J : β → World → Prop} (h : AbidesFrom B J) {s : β} {W W' : World} (hJ : J s W) (k : Kp W W') : J s W' :=
  h s W W' none hJ ⟨k.os, k.tape, k.output, k.size, fun i hi _ => k.block i hi⟩ (fun r e => by cases e)

set_option maxHeartbeats 1000000 in
theorem order_call (h g : Int) (w : World) :
    Calls Try.prog 10 #[.int .u64 h, .int .i64 g] w fun e w' => e = .returned (.func (.func 19) #[] #[.pointer (some ⟨w.heap.size + 1, 0, none⟩), .pointer (some ⟨w.heap.size, 0, none⟩)]) ∧ w' = (w.alloc (.cells #[.int .u64 h] 22)).alloc (.cells #[.int .i64 g] 3) := by
  go_enter Try.func10, Try.ntmps10
  go_wp2
  go_ret
  exact ⟨by simp, rfl⟩

set_option maxRecDepth 100000 in
set_option maxHeartbeats 4000000 in
theorem order_each (n : Nat) (hn : 1 ≤ n) (l Bg Bh B h : Nat) (g : Int) (hh : h < 18446744073709551616) (J Jx : List Nat → World → Prop) (hAb : AbidesFrom B J)
    (hY : ∀ pre (x : Nat) W, J pre W → pre.length < (ordN h g).length → YieldAt Fence.wide (n - 1) Try.prog l #[.int .i64 (x : Int)] W fun e W' =>
      (e = .returned (.bool true) ∧ J (pre ++ [x]) W' ∧ Stay Bg Bh W W') ∨ (e = .returned (.bool false) ∧ Jx (pre ++ [x]) W'))
    (W : World) (hg : W.heap[Bg]? = some (.cells #[.int .i64 g] 3)) (hb : W.heap[Bh]? = some (.cells #[.int .u64 (h : Int)] 22)) (hJ0 : J [] W) :
    CallsIn Fence.wide n Try.prog 19 #[.func (.yield l) #[] #[], .pointer (some ⟨Bg, 0, none⟩), .pointer (some ⟨Bh, 0, none⟩)] W fun e W' => (∃ v, e = .returned v) ∧
      ((∃ ys, ys = ordN h g ∧ J ys W') ∨ (∃ pre, pre <+: ordN h g ∧ Jx pre W')) := by
  have hro : Fence.wide.round = none := rfl
  obtain ⟨c1, c2⟩ := one_cell hg
  obtain ⟨d1, d2⟩ := one_cell hb
  have hI := isGroups_any g W
  cases hq : pw g 1 8192
  · have hO := hide (ordN_no (h := h) hq)
    rw [hq] at hI
    have HJ := hide hJ0
    clear hY hJ0
    refine callsIn_of_wp Try.func19 rfl trivial ?_ hro
    simp only [Try.ntmps19, List.size_toArray, List.length_cons, List.length_nil, Nat.reduceAdd, Nat.reduceSub, Array.replicate_succ, Array.replicate_zero, List.push_toArray, List.append_toArray, List.nil_append, List.cons_append]
    gi_wp2_with fail
    refine ⟨trivial, (callsIn_wide.2 hI).mono ?_⟩
    rintro e W2 ⟨rfl, rfl⟩
    gi_wp2_with fail
    refine bodyPost_ret (results_none rfl _ _ _) rfl ?_
    exact ⟨⟨_, rfl⟩, .inl ⟨[], hO.out.symm, HJ.out⟩⟩
  · obtain ⟨k, hk, rfl⟩ := pwG hq
    rw [hq] at hI
    have hm := met_any h k
    have hL := ordN_yes (h := h) hk
    have hlen : (ordN h ((2 ^ k : Nat) : Int)).length = 2 ^ k := by rw [hL]; simp
    obtain ⟨g1, g2⟩ := pow_bounds hk
    clear hq
    have hL' : Hid (∀ i, i < 2 ^ k → (List.range (i + 1)).map (metN h (2 ^ k)) <+: ordN h ((2 ^ k : Nat) : Int)) := fun i hi => by
      rw [hL]
      have := List.take_prefix (i + 1) ((List.range (2 ^ k)).map (metN h (2 ^ k)))
      rwa [← List.map_take, List.take_range, Nat.min_eq_left (by omega)] at this
    have hE : Hid (ordN h ((2 ^ k : Nat) : Int) = (List.range (2 ^ k)).map (metN h (2 ^ k))) := hL
    clear hL
    generalize ordN h ((2 ^ k : Nat) : Int) = L at *
    have hmm : Hid (∀ (i : Nat) (w : World), i < 2 ^ k → Calls Try.prog 21 #[.int .u64 (h : Int), .int .i64 ((2 ^ k : Nat) : Int), .int .i64 (i : Int)] w fun e w' => e = .returned (.int .i64 ((metN h (2 ^ k) i : Nat) : Int)) ∧ w' = w) := fun i w hi => hm i w hk hi hh
    clear hm
    generalize 2 ^ k = G at *
    refine callsIn_of_wp Try.func19 rfl trivial ?_ hro
    simp only [Try.ntmps19, List.size_toArray, List.length_cons, List.length_nil, Nat.reduceAdd, Nat.reduceSub, Array.replicate_succ, Array.replicate_zero, List.push_toArray, List.append_toArray, List.nil_append, List.cons_append]
    gi_wp2_with fail
    refine ⟨trivial, (callsIn_wide.2 hI).mono ?_⟩
    rintro e W2 ⟨rfl, rfl⟩
    gi_wp2_with fail
    clear c1 c2 d1 d2 hI
    gi_loopg [9] G (fun gm v9 wr => ∃ i : Nat, gm = G - i ∧ i ≤ G ∧ v9 = .int .i64 (i : Int) ∧ wr.heap[Bg]? = some (.cells #[.int .i64 (G : Int)] 3) ∧ wr.heap[Bh]? = some (.cells #[.int .u64 (h : Int)] 22) ∧ J ((List.range i).map (metN h G)) wr)
    case atStart => exact ⟨0, rfl, by omega, rfl, hg, hb, hJ0⟩
    case round =>
      clear hg hb hJ0
      obtain ⟨i, rfl, hi, rfl, hg, hb, hJ⟩ := hrel
      obtain ⟨c1, c2⟩ := one_cell hg
      obtain ⟨d1, d2⟩ := one_cell hb
      by_cases hlt : i < G
      · have hlt' : (i : Int) < (G : Int) := by omega
        have hm := hmm.out i wr hlt
        have hsn : (List.range (i + 1)).map (metN h G) = (List.range i).map (metN h G) ++ [metN h G i] := by rw [List.range_succ, List.map_append]; rfl
        have hplen : ((List.range i).map (metN h G)).length < L.length := by rw [hlen]; simpa using hlt
        obtain ⟨fn, tmps, assign, body, hy, hRd⟩ := hY _ (metN h G i) wr hJ hplen
        rw [← hsn] at hRd
        have HL := hide (hL'.out i hlt)
        generalize metN h G i = X at *
        clear hJ hplen hY hsn
        gi_wp2_with fail
        refine ⟨trivial, (callsIn_wide.2 hm).mono ?_⟩
        rintro e W2 ⟨rfl, rfl⟩
        gi_wp2
        refine hRd.mono ?_
        rintro e W4 (⟨rfl, hJ4, hk4⟩ | ⟨rfl, hJx4⟩)
        · have HJ := hide hJ4
          have hg4 := hk4 _ _ (.inl rfl) hg
          have hb4 := hk4 _ _ (.inr rfl) hb
          clear hJ4 hk4 hRd hy hm
          gi_wp2_with fail
          gi_roundg (G - (i + 1))
          case measure => omega
          case rel => exact ⟨i + 1, rfl, by omega, rfl, hg4, hb4, HJ.out⟩
        · have HX : Hid (∃ pre, pre <+: L ∧ Jx pre W4) := ⟨_, HL.out, hJx4⟩
          clear HL hJx4 hRd hy hm
          gi_wp2
          refine bodyPost_ret (results_none rfl _ _ _) rfl ?_
          exact ⟨⟨_, rfl⟩, .inr HX.out⟩
      · obtain rfl : i = G := by omega
        have HJ := hide hJ
        clear hJ hY
        gi_wp2_with fail
        go_end0
        exact ⟨⟨_, rfl⟩, .inl ⟨_, hE.out.symm, HJ.out⟩⟩

/-- A range over Order gives the groups in their order, or stops behind some of them. -/
theorem order_stops (n : Nat) (hn : 1 ≤ n) (Bg Bh h : Nat) (g : Int) (hh : h < 18446744073709551616) (w : World) (hg : w.heap[Bg]? = some (.cells #[.int .i64 g] 3)) (hb : w.heap[Bh]? = some (.cells #[.int .u64 (h : Int)] 22)) :
    SeqStopsK Fence.wide n Try.prog 19 #[.pointer (some ⟨Bg, 0, none⟩), .pointer (some ⟨Bh, 0, none⟩)] (fun x : Nat => #[Value.int .i64 (x : Int)]) (Stay Bg Bh) (fun ys => ys = ordN h g) (fun pre => pre <+: ordN h g) (ordN h g).length w := fun l J Jx W hW hAb _ hY h0 =>
  order_each n hn l Bg Bh W.heap.size h g hh J Jx hAb hY W (Kp.blk hW hg) (Kp.blk hW hb) h0
end Go.Proofs.Ytkjbhhfnhpnifaa
