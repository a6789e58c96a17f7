import Derived.Test.YtmdnknbolgedgaaGreatDoorRows
import Derived.RangeFuncBox
import Derived.RangeFuncLeaves
import Derived.RangeFuncWrites
import Derived.RangeFuncNested
import Derived.Shelf.Abstract
import Derived.OwnWalkIn
import Derived.TacticsInMore
import Derived.LoopNIn
import Derived.LoopIn
import Derived.Sort.LoopGhostIn
import Derived.Test.YtmdnknbolgedgaaGreatDoorTn9
/-
  SetNext, Retire, Pin.
-/
namespace Go.Proofs.YtmdnknbolgedgaaGreatDoor
open Go.RowKit Go.Shelf Ly Ct
set_option linter.unusedVariables false

section
variable {w : World} {p : Nat} {F : Nat → Prop} {d : AD} {l : Lay} {off gr G : Nat} {f : Nat → Int} {c : Nat → GC}
/-- What a call leaves that lays words of the header alone. -/
def HeadPost (w : World) (p : Nat) (F : Nat → Prop) (d : AD) (l : Lay) (off gr G : Nat) (f : Nat → Int) (c : Nat → GC) (w' : World) : Prop := ∃ d', Turned w w' p F d' ∧ d'.Fine ∧ TabD d' l off gr G f c ∧ Touch d d' off 64
theorem tset_tab (hA : Arena w p F d) (hF : d.Fine) (hFl : ∀ k, F k → k < w.heap.size) (h : TabD d l off gr G f c) (i : Nat) (hi : i < 8) (v : Int) (hv : fitsI v) :
    Calls Tryz.prog 46 #[.agg #[.pointer (some ⟨p, 0, none⟩), .int .i64 l.k, .int .i64 l.e, .int .i64 l.a, .int .i64 l.b, .int .i64 l.c, .int .i64 l.eo, .int .i64 l.bo, .int .i64 l.s, .int .i64 l.g, .int .i64 (off : Int)], .int .i64 (i : Int), .int .i64 v] w fun e w' => e = .returned (.int .i64 0) ∧ HeadPost w p F d l off gr G (updI f i v) c w' := by
  have ho := h.off_le hF
  obtain ⟨e1, h1, h2⟩ := h.set hi hv
  have := tset_any hA hF hFl l (off : Int) (i : Int) v (by omega) (by omega) (by omega) (by omega)
  rw [e1] at this
  refine this.mono ?_
  rintro e w' ⟨rfl, hT⟩
  exact ⟨rfl, _, hT, h2.fine hF, h1, h2⟩
theorem tstat_tab (hA : Arena w p F d) (hF : d.Fine) (h : TabD d l off gr G f c) :
    Calls Tryz.prog 23 #[.agg #[.pointer (some ⟨p, 0, none⟩), .int .i64 l.k, .int .i64 l.e, .int .i64 l.a, .int .i64 l.b, .int .i64 l.c, .int .i64 l.eo, .int .i64 l.bo, .int .i64 l.s, .int .i64 l.g, .int .i64 (off : Int)]] w fun e w' => e = .returned (.tuple #[statV f, .int .i64 0]) ∧ Keeps w w' (fun _ => False) := by
  have ho := h.off_le hF
  have := stat_yes hA hF l off h.good ho.1
  have e : statV (hdr d off) = statV f := by
    unfold statV
    rw [h.head 0 (by omega), h.head 1 (by omega), h.head 2 (by omega), h.head 3 (by omega), h.head 4 (by omega), h.head 5 (by omega), h.head 6 (by omega), h.head 7 (by omega)]
  rw [e] at this
  exact this
end

set_option maxHeartbeats 1000000 in
theorem tnext_any {w : World} {p : Nat} {F : Nat → Prop} {d : AD} {l : Lay} {off gr G : Nat} {f : Nat → Int} {c : Nat → GC} (hA : Arena w p F d) (hF : d.Fine) (hFl : ∀ k, F k → k < w.heap.size) (h : TabD d l off gr G f c) (v : Int) (hv : fitsI v) :
    Calls Tryz.prog 21 #[.agg #[.pointer (some ⟨p, 0, none⟩), .int .i64 l.k, .int .i64 l.e, .int .i64 l.a, .int .i64 l.b, .int .i64 l.c, .int .i64 l.eo, .int .i64 l.bo, .int .i64 l.s, .int .i64 l.g, .int .i64 (off : Int)], .int .i64 v] w fun e w' => e = .returned (.int .i64 0) ∧ HeadPost w p F d l off gr G (updI f 2 v) c w' := by
  have hSt := fun W (k : Keeps w W (fun _ => False)) => tstat_tab (hA.keeps k (fun _ _ _ e => e)) hF h
  have hSe : Hid (∀ W (k : Keeps w W (fun _ => False)), Calls Tryz.prog 46 #[.agg #[.pointer (some ⟨p, 0, none⟩), .int .i64 l.k, .int .i64 l.e, .int .i64 l.a, .int .i64 l.b, .int .i64 l.c, .int .i64 l.eo, .int .i64 l.bo, .int .i64 l.s, .int .i64 l.g, .int .i64 (off : Int)], .int .i64 2, .int .i64 v] W fun e w' => e = .returned (.int .i64 0) ∧ HeadPost w p F d l off gr G (updI f 2 v) c w') := fun W k => by
    refine (tset_tab (hA.keeps k (fun _ _ _ e => e)) hF (fun i hi => Nat.lt_of_lt_of_le (hFl i hi) k.size) h 2 (by omega) v hv).mono ?_
    rintro e w' ⟨rfl, d', hT, h2⟩
    exact ⟨rfl, d', Turned.pre k hT, h2⟩
  unfold statV at hSt
  clear hA h
  go_enter Tryz.func21, Tryz.ntmps21
  go_wp2_with fail
  refine alloc1 (P := fun W => Calls _ _ _ W _) fun W0 hb hz K0 => ?_
  (with_reducible refine (hSt _ K0).mono ?_)
  rintro r w1 ⟨rfl, k1⟩
  have K1 : Keeps w w1 (fun _ => False) := K0.trans k1 (fun _ _ e => e)
  have k2 : Keeps w1 (w1.alloc (.cells #[.int .i64 (f 3), .int .i64 (f 4), .int .i64 (f 5), .int .i64 (f 6), .int .i64 (f 1), .int .i64 (f 2), .bool (f 0 == 4), .int .i64 (f 7)] 64)) (fun _ => False) := (Keeps.refl _ _).alloc _
  obtain ⟨c0, c1, c2, c3, c4, c5, c6, c7, c8, c9, c10⟩ := c11_of (k2.blk (k1.blk hb))
  have hSe1 := hSe.out _ (K1.trans k2 (fun _ _ e => e))
  clear hSt hSe
  go_wp2_with fail
  (with_reducible refine hSe1.mono ?_)
  rintro r w2 ⟨rfl, hP⟩
  have HP := hide hP
  clear hP hSe1 c0 c1 c2 c3 c4 c5 c6 c7 c8 c9 c10
  go_wp2_with fail
  go_ret
  exact ⟨rfl, HP.out⟩

set_option maxHeartbeats 1000000 in
theorem tretire_any {w : World} {p : Nat} {F : Nat → Prop} {d : AD} {l : Lay} {off gr G : Nat} {f : Nat → Int} {c : Nat → GC} (hA : Arena w p F d) (hF : d.Fine) (hFl : ∀ k, F k → k < w.heap.size) (h : TabD d l off gr G f c) (v : Int) (hv : fitsI v) :
    Calls Tryz.prog 20 #[.agg #[.pointer (some ⟨p, 0, none⟩), .int .i64 l.k, .int .i64 l.e, .int .i64 l.a, .int .i64 l.b, .int .i64 l.c, .int .i64 l.eo, .int .i64 l.bo, .int .i64 l.s, .int .i64 l.g, .int .i64 (off : Int)], .int .i64 v] w fun e w' => e = .returned (.int .i64 0) ∧ HeadPost w p F d l off gr G (updI (updI f 2 v) 0 4) c w' := by
  have hnB : ¬ F w.heap.size := fun q => Nat.lt_irrefl _ (hFl _ q)
  have hNx : Hid (∀ W (k : Keeps w W (fun _ => False)), Calls Tryz.prog 21 #[.agg #[.pointer (some ⟨p, 0, none⟩), .int .i64 l.k, .int .i64 l.e, .int .i64 l.a, .int .i64 l.b, .int .i64 l.c, .int .i64 l.eo, .int .i64 l.bo, .int .i64 l.s, .int .i64 l.g, .int .i64 (off : Int)], .int .i64 v] W fun e w' => e = .returned (.int .i64 0) ∧ HeadPost W p F d l off gr G (updI f 2 v) c w') := fun W k =>
    tnext_any (hA.keeps k (fun _ _ _ e => e)) hF (fun i hi => Nat.lt_of_lt_of_le (hFl i hi) k.size) h v hv
  clear hA h
  go_enter Tryz.func20, Tryz.ntmps20
  go_wp2_with fail
  refine alloc1 (P := fun W => Calls _ _ _ W _) fun W0 hb hz K0 => ?_
  (with_reducible refine (hNx.out _ K0).mono ?_)
  rintro r w1 ⟨rfl, d1, hT1, hF1, h1, ht1⟩
  have hb1 := (hT1.2.block w.heap.size (by omega) hnB).trans hb
  obtain ⟨c0, c1, c2, c3, c4, c5, c6, c7, c8, c9, c10⟩ := c11_of hb1
  have hSe := tset_tab hT1.arena hF1 (fun _ q => q.2) h1 0 (by omega) 4 (fitsI_mk (by omega) (by omega))
  rw [show ((0 : Nat) : Int) = 0 from rfl] at hSe
  have HT := hide hT1
  have HT1 := hide ht1
  clear hNx hT1 h1 ht1
  go_wp2_with fail
  (with_reducible refine hSe.mono ?_)
  rintro r w2 ⟨rfl, d2, hT2, hF2, h2, ht2⟩
  have HP : Hid (HeadPost w p F d l off gr G (updI (updI f 2 v) 0 4) c w2) := ⟨d2, Turned.pre K0 (HT.out.then hT2), hF2, h2, HT1.out.trans ht2⟩
  clear hSe hT2 h2 ht2 HT HT1 c0 c1 c2 c3 c4 c5 c6 c7 c8 c9 c10
  go_wp2_with fail
  go_ret
  exact ⟨rfl, HP.out⟩
end Go.Proofs.YtmdnknbolgedgaaGreatDoor
/-
  Pin.
-/
namespace Go.Proofs.YtmdnknbolgedgaaGreatDoor
open Go.RowKit Go.Shelf Ly Ct
set_option linter.unusedVariables false

set_option maxRecDepth 100000 in
set_option maxHeartbeats 1000000 in
theorem tpin_no {w : World} {p : Nat} {F : Nat → Prop} {d : AD} {l : Lay} {off gr G : Nat} {f : Nat → Int} {c : Nat → GC} (hA : Arena w p F d) (hF : d.Fine) (h : TabD d l off gr G f c) (b : Int) (hb9 : fitsI b) (h0 : 0 ≤ f 1) (h62 : f 1 ≤ 4611686018427387904) (hno : b < -(f 1) ∨ 4611686018427387904 - f 1 < b) :
    Calls Tryz.prog 19 #[.agg #[.pointer (some ⟨p, 0, none⟩), .int .i64 l.k, .int .i64 l.e, .int .i64 l.a, .int .i64 l.b, .int .i64 l.c, .int .i64 l.eo, .int .i64 l.bo, .int .i64 l.s, .int .i64 l.g, .int .i64 (off : Int)], .int .i64 b] w fun e w' => e = .returned (.tuple #[.int .i64 0, .int .i64 83]) ∧ Keeps w w' (fun _ => False) := by
  have hSt := fun W (k : Keeps w W (fun _ => False)) => tstat_tab (hA.keeps k (fun _ _ _ e => e)) hF h
  unfold statV at hSt
  clear hA h
  generalize f 1 = f1 at *
  generalize f 0 = f0 at *
  generalize f 2 = f2 at *
  generalize f 3 = f3 at *
  generalize f 4 = f4 at *
  generalize f 5 = f5 at *
  generalize f 6 = f6 at *
  generalize f 7 = f7 at *
  have w1 : IntKind.i64.wrap (-f1) = -f1 := by rw [IntKind.wrap_i64]; omega
  have w2 : IntKind.i64.wrap (4611686018427387904 - f1) = 4611686018427387904 - f1 := by rw [IntKind.wrap_i64]; omega
  by_cases hlo : b < -f1
  · go_enter Tryz.func19, Tryz.ntmps19
    go_wp2_with fail
    refine alloc1 (P := fun W => Calls _ _ _ W _) fun W0 hb hz K0 => ?_
    (with_reducible refine (hSt _ K0).mono ?_)
    rintro r w1' ⟨rfl, k1⟩
    have K1 : Keeps w w1' (fun _ => False) := K0.trans k1 (fun _ _ e => e)
    clear hSt
    go_wp2_with fail
    go_ret2
    exact ⟨rfl, K1.alloc _⟩
  · have hhi : 4611686018427387904 - f1 < b := by omega
    go_enter Tryz.func19, Tryz.ntmps19
    go_wp2_with fail
    refine alloc1 (P := fun W => Calls _ _ _ W _) fun W0 hb hz K0 => ?_
    (with_reducible refine (hSt _ K0).mono ?_)
    rintro r w1' ⟨rfl, k1⟩
    have K1 : Keeps w w1' (fun _ => False) := K0.trans k1 (fun _ _ e => e)
    clear hSt
    go_wp2_with fail
    go_ret2
    exact ⟨rfl, K1.alloc _⟩

/-- The struct's cells, and one cell more. -/
abbrev C12 (b p : Nat) (l : Lay) (off : Int) (e : Nat) (v : Value) (W : World) : Prop := W.cell? ⟨b, 0, none⟩ = some (.pointer (some ⟨p, 0, none⟩)) ∧ W.cell? ⟨b, 1, none⟩ = some (.int .i64 l.k) ∧ W.cell? ⟨b, 2, none⟩ = some (.int .i64 l.e) ∧ W.cell? ⟨b, 3, none⟩ = some (.int .i64 l.a) ∧ W.cell? ⟨b, 4, none⟩ = some (.int .i64 l.b) ∧ W.cell? ⟨b, 5, none⟩ = some (.int .i64 l.c) ∧ W.cell? ⟨b, 6, none⟩ = some (.int .i64 l.eo) ∧ W.cell? ⟨b, 7, none⟩ = some (.int .i64 l.bo) ∧ W.cell? ⟨b, 8, none⟩ = some (.int .i64 l.s) ∧ W.cell? ⟨b, 9, none⟩ = some (.int .i64 l.g) ∧ W.cell? ⟨b, 10, none⟩ = some (.int .i64 off) ∧ W.cell? ⟨e, 4, none⟩ = some v
theorem c12_of {W : World} {b p e : Nat} {l : Lay} {off : Int} {v : Value} (h : C11 b p l off W) (h2 : W.cell? ⟨e, 4, none⟩ = some v) : C12 b p l off e v W := by
  obtain ⟨c0, c1, c2, c3, c4, c5, c6, c7, c8, c9, c10⟩ := h
  exact ⟨c0, c1, c2, c3, c4, c5, c6, c7, c8, c9, c10, h2⟩
theorem c12_keeps {W W1 : World} {b p e : Nat} {l : Lay} {off : Int} {v : Value} {S : Nat → Prop} (k : Keeps W W1 S) (hS : ¬ S b) (hE : ¬ S e) (h : C12 b p l off e v W) : C12 b p l off e v W1 := by
  obtain ⟨c0, c1, c2, c3, c4, c5, c6, c7, c8, c9, c10, h2⟩ := h
  refine c12_of (c11_keeps k hS ⟨c0, c1, c2, c3, c4, c5, c6, c7, c8, c9, c10⟩) ?_
  have : e < W.heap.size := by
    refine Nat.lt_of_not_le fun hn => ?_
    rw [World.cell?, Array.getElem?_eq_none hn] at h2
    cases h2
  exact (World.cell?_of_block (w := W) (a := ⟨e, 4, none⟩) (k.block e this hE)).trans h2

set_option maxRecDepth 100000 in
set_option maxHeartbeats 1000000 in
theorem tpin_yes {w : World} {p : Nat} {F : Nat → Prop} {d : AD} {l : Lay} {off gr G : Nat} {f : Nat → Int} {c : Nat → GC} (hA : Arena w p F d) (hF : d.Fine) (hFl : ∀ k, F k → k < w.heap.size) (h : TabD d l off gr G f c) (b : Int) (h0 : 0 ≤ f 1) (h62 : f 1 ≤ 4611686018427387904) (hlo : -(f 1) ≤ b) (hhi : b ≤ 4611686018427387904 - f 1) :
    Calls Tryz.prog 19 #[.agg #[.pointer (some ⟨p, 0, none⟩), .int .i64 l.k, .int .i64 l.e, .int .i64 l.a, .int .i64 l.b, .int .i64 l.c, .int .i64 l.eo, .int .i64 l.bo, .int .i64 l.s, .int .i64 l.g, .int .i64 (off : Int)], .int .i64 b] w fun e w' => e = .returned (.tuple #[.int .i64 (f 1 + b), .int .i64 0]) ∧ HeadPost w p F d l off gr G (updI f 1 (f 1 + b)) c w' := by
  have hSt := fun W (k : Keeps w W (fun _ => False)) => tstat_tab (hA.keeps k (fun _ _ _ e => e)) hF h
  have hSe : Hid (∀ W (k : Keeps w W (fun _ => False)), Calls Tryz.prog 46 #[.agg #[.pointer (some ⟨p, 0, none⟩), .int .i64 l.k, .int .i64 l.e, .int .i64 l.a, .int .i64 l.b, .int .i64 l.c, .int .i64 l.eo, .int .i64 l.bo, .int .i64 l.s, .int .i64 l.g, .int .i64 (off : Int)], .int .i64 1, .int .i64 (f 1 + b)] W fun e w' => e = .returned (.int .i64 0) ∧ HeadPost W p F d l off gr G (updI f 1 (f 1 + b)) c w') := fun W k =>
    tset_tab (hA.keeps k (fun _ _ _ e => e)) hF (fun i hi => Nat.lt_of_lt_of_le (hFl i hi) k.size) h 1 (by omega) (f 1 + b) (fitsI_mk (by omega) (by omega))
  unfold statV at hSt
  have hnB : ¬ F w.heap.size := fun q => Nat.lt_irrefl _ (hFl _ q)
  clear hA h
  obtain ⟨ff, hff⟩ : ∃ ff, updI f 1 (f 1 + b) = ff := ⟨_, rfl⟩
  rw [hff] at hSe ⊢
  clear hff
  generalize f 1 = f1 at *
  generalize f 0 = f0 at *
  generalize f 2 = f2 at *
  generalize f 3 = f3 at *
  generalize f 4 = f4 at *
  generalize f 5 = f5 at *
  generalize f 6 = f6 at *
  generalize f 7 = f7 at *
  have w1 : IntKind.i64.wrap (-f1) = -f1 := by rw [IntKind.wrap_i64]; omega
  have w2 : IntKind.i64.wrap (4611686018427387904 - f1) = 4611686018427387904 - f1 := by rw [IntKind.wrap_i64]; omega
  have w3 : IntKind.i64.wrap (f1 + b) = f1 + b := by rw [IntKind.wrap_i64]; omega
  have g1 : ¬ b < -f1 := by omega
  have g2 : ¬ 4611686018427387904 - f1 < b := by omega
  go_enter Tryz.func19, Tryz.ntmps19
  go_wp2_with fail
  refine alloc1 (P := fun W => Calls _ _ _ W _) fun W0 hb hz K0 => ?_
  (with_reducible refine (hSt _ K0).mono ?_)
  rintro r w1' ⟨rfl, k1⟩
  have K1 : Keeps w w1' (fun _ => False) := K0.trans k1 (fun _ _ e => e)
  have hnE : ¬ F w1'.heap.size := fun q => by have := hFl _ q; have := K1.size; omega
  have k2 : Keeps w1' (w1'.alloc (.cells #[.int .i64 f3, .int .i64 f4, .int .i64 f5, .int .i64 f6, .int .i64 f1, .int .i64 f2, .bool (f0 == 4), .int .i64 f7] 64)) (fun _ => False) := (Keeps.refl _ _).alloc _
  have hst := heap_alloc_new w1' (.cells #[.int .i64 f3, .int .i64 f4, .int .i64 f5, .int .i64 f6, .int .i64 f1, .int .i64 f2, .bool (f0 == 4), .int .i64 f7] 64)
  have C1 : C12 w.heap.size p l (off : Int) w1'.heap.size (.int .i64 f1) (w1'.alloc (.cells #[.int .i64 f3, .int .i64 f4, .int .i64 f5, .int .i64 f6, .int .i64 f1, .int .i64 f2, .bool (f0 == 4), .int .i64 f7] 64)) := c12_of (c11_of (k2.blk (k1.blk hb))) (st8_cells hst).1.2.2.2.2.1
  have K2 : Keeps w (w1'.alloc (.cells #[.int .i64 f3, .int .i64 f4, .int .i64 f5, .int .i64 f6, .int .i64 f1, .int .i64 f2, .bool (f0 == 4), .int .i64 f7] 64)) (fun _ => False) := K1.trans k2 (fun _ _ e => e)
  have hSe2 := hSe.out _ K2.drew
  clear hSt hSe
  go_wp2_with fail
  go_region_held3 (fun w' => w'.cell? ⟨w.heap.size, 0, none⟩ = some (.pointer (some ⟨p, 0, none⟩)) ∧ w'.cell? ⟨w.heap.size, 1, none⟩ = some (.int .i64 l.k) ∧ w'.cell? ⟨w.heap.size, 2, none⟩ = some (.int .i64 l.e) ∧ w'.cell? ⟨w.heap.size, 3, none⟩ = some (.int .i64 l.a) ∧ w'.cell? ⟨w.heap.size, 4, none⟩ = some (.int .i64 l.b) ∧ w'.cell? ⟨w.heap.size, 5, none⟩ = some (.int .i64 l.c) ∧ w'.cell? ⟨w.heap.size, 6, none⟩ = some (.int .i64 l.eo) ∧ w'.cell? ⟨w.heap.size, 7, none⟩ = some (.int .i64 l.bo) ∧ w'.cell? ⟨w.heap.size, 8, none⟩ = some (.int .i64 l.s) ∧ w'.cell? ⟨w.heap.size, 9, none⟩ = some (.int .i64 l.g) ∧ w'.cell? ⟨w.heap.size, 10, none⟩ = some (.int .i64 off) ∧ w'.cell? ⟨w1'.heap.size, 4, none⟩ = some (.int .i64 f1)) (first | exact c12_keeps (Keeps.refl _ (fun _ => False)).drew id id C1 | exact c12_keeps hT2.2 hnB hnE (by assumption) | assumption)
    (first | (go_at_call 46; (with_reducible refine hSe2.mono ?_); rintro r w3 ⟨rfl, d2, hT2, hF2, h2, ht2⟩))
  all_goals (have HP : Hid (HeadPost w p F d l off gr G ff c w3) := ⟨d2, Turned.pre K2.drew hT2, hF2, h2, ht2⟩)
  all_goals clear hT2 h2 ht2 hSe2
  all_goals go_wp2_with fail
  all_goals go_ret2
  all_goals exact ⟨rfl, HP.out⟩
end Go.Proofs.YtmdnknbolgedgaaGreatDoor
/-
  First: the lowest slot of a set, by the table of math/bits.
-/
namespace Go.Proofs.YtmdnknbolgedgaaGreatDoor.Ct
open Go.RowKit
set_option linter.unusedVariables false

def tabL : List Nat := [0, 1, 56, 2, 57, 49, 28, 3, 61, 58, 42, 50, 38, 29, 17, 4, 62, 47, 59, 36, 45, 43, 51, 22, 53, 39, 33, 30, 24, 18, 12, 5, 63, 55, 48, 27, 60, 41, 37, 16, 46, 35, 44, 21, 52, 32, 23, 11, 54, 26, 40, 15, 34, 20, 31, 10, 25, 14, 19, 9, 13, 8, 7, 6]
/-- The table where the program lays it. -/
def TabAt (w : World) : Prop := ∀ k, k < 64 → w.cell? ⟨0, k, none⟩ = some (.int .u8 ((tabL.getD k 0 : Nat) : Int))
theorem TabAt.kp {w w' : World} (h : TabAt w) (k : Kp w w') : TabAt w' := fun i hi => k.cell (h i hi)

/-- The lowest slot; 8: there is none. -/
def firM (m : Nat) : Nat := if m % 2 = 1 then 0 else if m / 2 % 2 = 1 then 1 else if m / 4 % 2 = 1 then 2 else if m / 8 % 2 = 1 then 3 else if m / 16 % 2 = 1 then 4 else if m / 32 % 2 = 1 then 5 else if m / 64 % 2 = 1 then 6 else if m / 128 % 2 = 1 then 7 else 8
def low1 (x : Int) : Int := bits BinOp.and IntKind.u64 x (IntKind.u64.wrap (-x))
def low2 (x : Int) : Int := IntKind.u64.wrap (x * 285870213051353865)
def low3 (x : Int) : Int := x / 288230376151711744
theorem low_all : ∀ m, m < 256 → 0 < m → (((spread m : Nat) : Int) == 0) = false ∧ 0 ≤ low3 (low2 (low1 ((spread m : Nat) : Int))) ∧ low3 (low2 (low1 ((spread m : Nat) : Int))) < 64 ∧ tabL.getD (low3 (low2 (low1 ((spread m : Nat) : Int)))).toNat 0 = 8 * firM m + 7 := by decide +kernel

set_option maxHeartbeats 400000 in
theorem tz_walk (X L P I V : Int) (w : World) (h0 : (X == 0) = false) (h1 : bits BinOp.and IntKind.u64 X (IntKind.u64.wrap (-X)) = L) (h2 : IntKind.u64.wrap (L * 285870213051353865) = P) (h3 : P / 288230376151711744 = I) (hI : 0 ≤ I) (hI' : I < 64)
    (hc : w.cell? ⟨0, I.toNat, none⟩ = some (.int .u8 V)) (hV : 0 ≤ V) (hV' : V < 64) :
    Calls Tryz.prog 140 #[.int .u64 X] w fun e w' => e = .returned (.int .i64 V) ∧ w' = w := by
  go_enter Tryz.func140, Tryz.ntmps140
  go_wp2_with fail
  go_ret
  exact ⟨rfl, rfl⟩

set_option maxHeartbeats 400000 in
theorem tz_zero (w : World) :
    Calls Tryz.prog 140 #[.int .u64 0] w fun e w' => e = .returned (.int .i64 64) ∧ w' = w := by
  go_enter Tryz.func140, Tryz.ntmps140
  go_wp2_with fail
  go_ret
  exact ⟨rfl, rfl⟩

theorem firM_lt : ∀ m, m < 256 → 0 < m → firM m < 8 := by decide +kernel
theorem firM_le : ∀ m, m < 256 → firM m ≤ 8 := by decide +kernel

set_option maxHeartbeats 400000 in
theorem first_walk (z t f : Int) (w : World) (hT : ∀ w', Kp w w' → Calls Tryz.prog 140 #[.int .u64 z] w' fun e w'' => e = .returned (.int .i64 t) ∧ w'' = w') (hf : wrap64 (t.tdiv 8) = f) :
    Calls Tryz.prog 112 #[.agg #[.int .u64 z]] w fun e w' => e = .returned (.int .i64 f) ∧ Kp w w' := by
  go_enter Tryz.func112, Tryz.ntmps112
  go_wp2_with fail
  refine (hT _ ((Kp.refl _).alloc _)).mono ?_
  rintro e w' ⟨rfl, rfl⟩
  go_wp2_with fail
  go_ret
  exact ⟨by rw [← hf]; rfl, (Kp.refl _).alloc _⟩

def FirstIs (z f : Int) : Prop := ∃ m, m < 256 ∧ z = ((spread m : Nat) : Int) ∧ f = ((firM m : Nat) : Int)
theorem first_is {z f : Int} (q : FirstIs z f) {w : World} (ht : TabAt w) :
    Calls Tryz.prog 112 #[.agg #[.int .u64 z]] w fun e w' => e = .returned (.int .i64 f) ∧ Kp w w' := by
  obtain ⟨m, hm, rfl, rfl⟩ := q
  by_cases h0 : 0 < m
  · obtain ⟨a1, a2, a3, a4⟩ := low_all m hm h0
    have hl := firM_lt m hm h0
    refine first_walk _ ((8 * firM m + 7 : Nat) : Int) _ w (fun w' k => tz_walk _ _ _ _ _ w' a1 rfl rfl rfl a2 a3 ?_ (by omega) (by omega)) ?_
    · rw [← a4]
      exact ht.kp k _ (by show Int.toNat (low3 (low2 (low1 ((spread m : Nat) : Int)))) < 64; omega)
    · rw [Int.tdiv_eq_ediv_of_nonneg (by omega)]
      unfold wrap64
      omega
  · obtain rfl : m = 0 := by omega
    exact first_walk 0 64 8 w (fun w' _ => tz_zero w') (by decide +kernel)
end Go.Proofs.YtmdnknbolgedgaaGreatDoor.Ct
/-
  hasEmpty.
-/
namespace Go.Proofs.YtmdnknbolgedgaaGreatDoor
open Go.RowKit Go.Shelf Ly Ct
set_option linter.unusedVariables false

set_option maxHeartbeats 1000000 in
theorem hasEmpty_any (W : Nat) (hw : W < 18446744073709551616) (w : World) :
    Calls Tryz.prog 58 #[.int .u64 (W : Int)] w fun e w' => e = .returned (.bool (decide (0 < cntM (mk (· == 128) W)))) ∧ Keeps w w' (fun _ => False) := by
  have hE := fun V => mempty_any W hw V
  have hC := fun V => count_any (mk (· == 128) W) (mk_lt _ _) V
  unfold setV at hE hC
  generalize cntM (mk (· == 128) W) = n at *
  generalize spread (mk (· == 128) W) = M at *
  by_cases h0 : 0 < n
  · have h0' : (0 : Int) < (n : Int) := by omega
    rw [decide_eq_true h0]
    go_enter Tryz.func58, Tryz.ntmps58
    go_wp2_with fail
    refine (hE _).mono ?_
    rintro r w1 ⟨rfl, k1⟩
    go_wp2_with fail
    refine (hC _).mono ?_
    rintro r w2 ⟨rfl, k2⟩
    have K : Keeps w w2 (fun _ => False) := (Keeps.ofKp k1).trans (Keeps.ofKp k2) (fun _ _ e => e)
    go_wp2_with fail
    go_ret
    exact ⟨rfl, K⟩
  · have h0' : ¬ (0 : Int) < (n : Int) := by omega
    rw [decide_eq_false h0]
    go_enter Tryz.func58, Tryz.ntmps58
    go_wp2_with fail
    refine (hE _).mono ?_
    rintro r w1 ⟨rfl, k1⟩
    go_wp2_with fail
    refine (hC _).mono ?_
    rintro r w2 ⟨rfl, k2⟩
    have K : Keeps w w2 (fun _ => False) := (Keeps.ofKp k1).trans (Keeps.ofKp k2) (fun _ _ e => e)
    go_wp2_with fail
    go_ret
    exact ⟨rfl, K⟩
end Go.Proofs.YtmdnknbolgedgaaGreatDoor
/-
  meet.
-/
namespace Go.Proofs.YtmdnknbolgedgaaGreatDoor
open Go.RowKit Go.Shelf Ly Ct
set_option linter.unusedVariables false

/-- What meet leaves of the cells of a sought: the first vacant slot of the group i, if none was met. -/
def metC (cs : Array Value) (va : Int) (W i : Nat) : Array Value :=
  if va < 0 ∧ firM (mk (fun x => x == 128 || x == 254) W) < 8 then (cs.setIfInBounds 15 (.int .i64 ((i * 8 + firM (mk (fun x => x == 128 || x == 254) W) : Nat) : Int))).setIfInBounds 16 (.bool (hasM (mk (· == 128) W) (firM (mk (fun x => x == 128 || x == 254) W)))) else cs
theorem set_row {w : World} {q : Nat} {cs : Array Value} {t : TypeId} (h : w.heap[q]? = some (.cells cs t)) (i : Nat) (v : Value) : (w.setCell ⟨q, i, none⟩ v).heap[q]? = some (.cells (cs.setIfInBounds i v) t) := by
  have hlt := heap_lt h
  have hv := (Array.getElem?_eq_some_iff.1 h).2
  simp only [World.setCell, Array.getElem?_modify]
  simp [hlt, hv]

set_option maxRecDepth 100000 in
set_option maxHeartbeats 1000000 in
theorem meet_any (W i : Nat) (hw : W < 18446744073709551616) (hi : i ≤ 8192) (w : World) (hT : TabAt w) (B : Nat) (cs : Array Value) (va : Int) (em : Bool) (hB : w.heap[B]? = some (.cells cs 103)) (h15 : cs[15]? = some (.int .i64 va)) (h16 : cs[16]? = some (.bool em)) :
    Calls Tryz.prog 75 #[.pointer (some ⟨B, 0, none⟩), .int .u64 (W : Int), .int .i64 (i : Int)] w fun e w' => (∃ v, e = .returned v) ∧ w'.heap[B]? = some (.cells (metC cs va W i) 103) ∧ Keeps w w' (fun k => k = B) := by
  have hV := fun V => vacant_any W hw V
  have hm := mk_lt (fun x => x == 128 || x == 254) W
  have hf8 := firM_le _ hm
  have hF : ∀ V, Keeps w V (fun _ => False) → Calls Tryz.prog 112 #[setV (mk (fun x => x == 128 || x == 254) W)] V fun e w' => e = .returned (.int .i64 ((firM (mk (fun x => x == 128 || x == 254) W) : Nat) : Int)) ∧ Ct.Kp V w' := fun V k =>
    first_is ⟨_, hm, rfl, rfl⟩ (hT.kp (k.below (Nat.le_refl _) (fun _ _ e => e)))
  have hE := fun V => mempty_any W hw V
  have hH : firM (mk (fun x => x == 128 || x == 254) W) < 8 → ∀ V, Calls Tryz.prog 78 #[.agg #[.int .u64 ((spread (mk (· == 128) W) : Nat) : Int)], .int .i64 ((firM (mk (fun x => x == 128 || x == 254) W) : Nat) : Int)] V fun e w' => e = .returned (.bool (hasM (mk (· == 128) W) (firM (mk (fun x => x == 128 || x == 254) W)))) ∧ Ct.Kp V w' := fun h8 V =>
    has_is (Or.inl ⟨mk (· == 128) W, firM (mk (fun x => x == 128 || x == 254) W), rfl, rfl, h8, rfl⟩) V
  unfold setV at hV hF hE
  unfold metC
  generalize hasM (mk (· == 128) W) (firM (mk (fun x => x == 128 || x == 254) W)) = hb at *
  generalize firM (mk (fun x => x == 128 || x == 254) W) = n at *
  generalize spread (mk (fun x => x == 128 || x == 254) W) = Mv at *
  generalize spread (mk (· == 128) W) = Me at *
  clear hm
  have hsz : 16 < cs.size := by
    refine Nat.lt_of_not_le fun hn => ?_
    rw [Array.getElem?_eq_none hn] at h16
    cases h16
  have hBl := heap_lt hB
  have hc : ∀ W2, Keeps w W2 (fun _ => False) → W2.cell? ⟨B, 15, none⟩ = some (.int .i64 va) ∧ W2.cell? ⟨B, 16, none⟩ = some (.bool em) ∧ W2.frozen? ⟨B, 15, none⟩ = false ∧ W2.frozen? ⟨B, 16, none⟩ = false ∧ W2.heap[B]? = some (.cells cs 103) := fun W2 k => by
    have e := (k.block B hBl id).trans hB
    refine ⟨?_, ?_, ?_, ?_, e⟩
    · simp [World.cell?, e, h15]
    · simp [World.cell?, e, h16]
    · simp [World.frozen?, e]
    · simp [World.frozen?, e]
  by_cases h0 : va < 0
  · by_cases h8 : n < 8
    · rw [if_pos ⟨h0, h8⟩]
      have h8' : (n : Int) < 8 := by omega
      have hHn := hH h8
      have hi' : (i : Int) ≤ 8192 := by omega
      have hcast : ((i * 8 + n : Nat) : Int) = (i : Int) * 8 + (n : Int) := by omega
      rw [hcast]
      clear hH hT
      go_enter Tryz.func75, Tryz.ntmps75
      go_wp2_with fail
      refine (hV _).mono ?_
      rintro r w1 ⟨rfl, k1⟩
      go_wp2_with fail
      refine (hF _ (Keeps.ofKp k1)).mono ?_
      rintro r w2 ⟨rfl, k2⟩
      have K2 : Keeps w w2 (fun _ => False) := (Keeps.ofKp k1).trans (Keeps.ofKp k2) (fun _ _ e => e)
      obtain ⟨c15, c16, f15, f16, hB2⟩ := hc w2 K2
      clear hV hF
      go_wp2_with fail
      obtain ⟨W3, hW3⟩ : ∃ W3, W3 = w2.setCell ⟨B, 15, none⟩ (.int .i64 ((i : Int) * 8 + (n : Int))) := ⟨_, rfl⟩
      have hB3 : W3.heap[B]? = some (.cells (cs.setIfInBounds 15 (.int .i64 ((i : Int) * 8 + (n : Int)))) 103) := by rw [hW3]; exact set_row hB2 15 _
      have K2' : Keeps w w2 (fun k => k = B) := K2.mono (fun _ _ e => e.elim)
      have K3 : Keeps w W3 (fun k => k = B) := by rw [hW3]; exact K2'.setCell ⟨B, 15, none⟩ (fun _ => rfl) _
      rw [← hW3]
      clear hW3 c15 c16 f15 f16 hB2 K2 K2'
      refine (hE _).mono ?_
      rintro r w4 ⟨rfl, k4⟩
      go_wp2_with fail
      refine (hHn _).mono ?_
      rintro r w5 ⟨rfl, k5⟩
      have k35 : Keeps W3 w5 (fun _ => False) := (Keeps.ofKp k4).trans (Keeps.ofKp k5) (fun _ _ e => e)
      have hB5 := k35.blk hB3
      have K5 : Keeps w w5 (fun k => k = B) := K3.trans (k35.mono (fun _ _ e => e.elim)) (fun _ _ e => e)
      have c16 : w5.cell? ⟨B, 16, none⟩ = some (.bool em) := by
        simp only [World.cell?, hB5]
        simp [h16]
      have f16 : w5.frozen? ⟨B, 16, none⟩ = false := by simp [World.frozen?, hB5]
      have HF : Hid ((w5.setCell ⟨B, 16, none⟩ (.bool hb)).heap[B]? = some (.cells ((cs.setIfInBounds 15 (.int .i64 ((i : Int) * 8 + (n : Int)))).setIfInBounds 16 (.bool hb)) 103) ∧ Keeps w (w5.setCell ⟨B, 16, none⟩ (.bool hb)) (fun k => k = B)) := ⟨set_row hB5 16 _, K5.setCell ⟨B, 16, none⟩ (fun _ => rfl) _⟩
      clear hB3 hB5 K3 K5 k35 hE hHn
      go_wp2_with fail
      go_end0
      exact ⟨⟨_, rfl⟩, HF.out⟩
    · rw [if_neg (fun q => h8 q.2)]
      have h8' : ¬ (n : Int) < 8 := by omega
      clear hH hT
      go_enter Tryz.func75, Tryz.ntmps75
      go_wp2_with fail
      refine (hV _).mono ?_
      rintro r w1 ⟨rfl, k1⟩
      go_wp2_with fail
      refine (hF _ (Keeps.ofKp k1)).mono ?_
      rintro r w2 ⟨rfl, k2⟩
      have K2 : Keeps w w2 (fun _ => False) := (Keeps.ofKp k1).trans (Keeps.ofKp k2) (fun _ _ e => e)
      obtain ⟨c15, c16, f15, f16, hB2⟩ := hc w2 K2
      have HF : Hid (w2.heap[B]? = some (.cells cs 103) ∧ Keeps w w2 (fun k => k = B)) := ⟨hB2, K2.mono (fun _ _ e => e.elim)⟩
      clear hV hF hB2 K2
      go_wp2_with fail
      go_end0
      exact ⟨⟨_, rfl⟩, HF.out⟩
  · rw [if_neg (fun q => h0 q.1)]
    clear hH hT
    go_enter Tryz.func75, Tryz.ntmps75
    go_wp2_with fail
    refine (hV _).mono ?_
    rintro r w1 ⟨rfl, k1⟩
    go_wp2_with fail
    refine (hF _ (Keeps.ofKp k1)).mono ?_
    rintro r w2 ⟨rfl, k2⟩
    have K2 : Keeps w w2 (fun _ => False) := (Keeps.ofKp k1).trans (Keeps.ofKp k2) (fun _ _ e => e)
    obtain ⟨c15, c16, f15, f16, hB2⟩ := hc w2 K2
    have HF : Hid (w2.heap[B]? = some (.cells cs 103) ∧ Keeps w w2 (fun k => k = B)) := ⟨hB2, K2.mono (fun _ _ e => e.elim)⟩
    clear hV hF hB2 K2
    go_wp2_with fail
    go_end0
    exact ⟨⟨_, rfl⟩, HF.out⟩
end Go.Proofs.YtmdnknbolgedgaaGreatDoor
/-
  place, Cell.
-/
namespace Go.Proofs.YtmdnknbolgedgaaGreatDoor
open Go.RowKit Go.Shelf Ly Ct
set_option linter.unusedVariables false

set_option maxRecDepth 100000 in
set_option maxHeartbeats 1000000 in
theorem place_any (p : Nat) (l : Lay) (off gr : Int) (f : Nat → Int) (s : Nat) (w : World) (hv : validB l = true) (hg : f 7 = gr) (h0 : 0 ≤ gr) (h1 : gr ≤ 134217728) (hs : s < 65536) :
    Calls Tryz.prog 42 #[.agg #[.pointer (some ⟨p, 0, none⟩), .int .i64 l.k, .int .i64 l.e, .int .i64 l.a, .int .i64 l.b, .int .i64 l.c, .int .i64 l.eo, .int .i64 l.bo, .int .i64 l.s, .int .i64 l.g, .int .i64 off], statV f, .int .i64 (s : Int)] w fun e w' => e = .returned (.tuple #[.agg #[.pointer (some ⟨p, 0, none⟩), .int .i64 l.k, .int .i64 l.e, .int .i64 l.a, .int .i64 l.b, .int .i64 l.c, .int .i64 l.eo, .int .i64 l.bo, .int .i64 l.s, .int .i64 l.g, .int .i64 (gr + ((s / 8 : Nat) : Int) * l.g)], .int .i64 ((s % 8 : Nat) : Int)]) ∧ Keeps w w' (fun _ => False) := by
  have hvm := valid_more hv
  have hG := fun W => tgroup_any p l off gr ((s / 8 : Nat) : Int) W h0 h1 (by omega) (by omega) (by omega) (by omega)
  have hd : ((s : Int)).tdiv 8 = ((s / 8 : Nat) : Int) := by rw [Int.tdiv_eq_ediv_of_nonneg (by omega)]; omega
  have hm : ((s : Int)).tmod 8 = ((s % 8 : Nat) : Int) := by rw [Int.tmod_eq_emod_of_nonneg (by omega)]; omega
  have hs' : (s : Int) < 65536 := by omega
  have hwq : wrap64 ((s / 8 : Nat) : Int) = ((s / 8 : Nat) : Int) := by unfold wrap64; omega
  have hwm : wrap64 ((s % 8 : Nat) : Int) = ((s % 8 : Nat) : Int) := by unfold wrap64; omega
  unfold statV
  rw [hg]
  generalize f 0 = f0 at *
  generalize f 1 = f1 at *
  generalize f 2 = f2 at *
  generalize f 3 = f3 at *
  generalize f 4 = f4 at *
  generalize f 5 = f5 at *
  generalize f 6 = f6 at *
  generalize ((s / 8 : Nat) : Int) = q at *
  generalize ((s % 8 : Nat) : Int) = m at *
  generalize gr + q * l.g = y at *
  clear hvm hv
  go_enter Tryz.func42, Tryz.ntmps42
  go_wp2_with fail
  refine alloc3 (P := fun W => Calls _ _ _ W _) fun W0 hb hst hr hz K0 => ?_
  (with_reducible refine (hG _).mono ?_)
  rintro r w1 ⟨rfl, k1⟩
  have hr1 := k1.blk hr
  have K1 : Keeps w w1 (fun _ => False) := K0.trans k1 (fun _ _ e => e)
  obtain ⟨⟨d0, d1, d2, d3, d4, d5, d6, d7, d8, d9, d10⟩, g0, g1, g2, g3, g4, g5, g6, g7, g8, g9, g10⟩ := eleven_cells hr1
  clear hG
  go_wp2_with fail
  refine eleven_set hr1 K1 (fun h => by omega) (P := fun w9 => bodyPost _ _ _ _ _ w9) fun w9 h9 k9 _ => ?_
  obtain ⟨⟨e0, e1, e2, e3, e4, e5, e6, e7, e8, e9, e10⟩, -⟩ := eleven_cells h9
  exact bodyPost_ret (v := .tuple #[.agg #[.pointer (some ⟨p, 0, none⟩), .int .i64 l.k, .int .i64 l.e, .int .i64 l.a, .int .i64 l.b, .int .i64 l.c, .int .i64 l.eo, .int .i64 l.bo, .int .i64 l.s, .int .i64 l.g, .int .i64 y], .int .i64 m]) (by simp [results, Tryz.results42, go_sem, e0, e1, e2, e3, e4, e5, e6, e7, e8, e9, e10]) rfl ⟨rfl, k9⟩

set_option maxRecDepth 100000 in
set_option maxHeartbeats 1000000 in
/-- Cell, of a slot that is there. -/
theorem tcell_yes {w : World} {p : Nat} {F : Nat → Prop} {d : AD} {l : Lay} {off gr G : Nat} {f : Nat → Int} {c : Nat → GC} (hA : Arena w p F d) (hF : d.Fine) (h : TabD d l off gr G f c) (h4 : f 4 = ((8 * G : Nat) : Int)) (h7 : f 7 = (gr : Int)) (s : Nat) (hs : s < 8 * G) :
    Calls Tryz.prog 31 #[.agg #[.pointer (some ⟨p, 0, none⟩), .int .i64 l.k, .int .i64 l.e, .int .i64 l.a, .int .i64 l.b, .int .i64 l.c, .int .i64 l.eo, .int .i64 l.bo, .int .i64 l.s, .int .i64 l.g, .int .i64 (off : Int)], .int .i64 (s : Int)] w fun e w' => CellPost w (c s) 0 e w' := by
  have hfew := h.few
  have ho := h.off_le hF
  have hv := valid_more h.valid
  have hi : s / 8 < G := by omega
  have hgl := h.glen
  have hin := h.in hi
  have hmo := hF.most
  have hSt := fun W (k : Keeps w W (fun _ => False)) => tstat_tab (hA.keeps k (fun _ _ _ e => e)) hF h
  have hPl := fun W => place_any p l (off : Int) (gr : Int) f s W h.valid h7 (by omega) (by omega) (by omega)
  have e : ((gr + s / 8 * l.g.toNat : Nat) : Int) = (gr : Int) + ((s / 8 : Nat) : Int) * l.g := by
    rw [Int.natCast_add, Int.natCast_mul, Int.toNat_of_nonneg (by omega)]
  have hCe := fun W (k : Keeps w W (fun _ => False)) => cell_any (hA.keeps k (fun _ _ _ e => e)) hF l ((gr : Int) + ((s / 8 : Nat) : Int) * l.g) ((s % 8 : Nat) : Int) (by rw [← e]; exact fitsI_mk (by omega) (by omega)) (fitsI_mk (by omega) (by omega))
  have hcv : cellV d l ((gr : Int) + ((s / 8 : Nat) : Int) * l.g) ((s % 8 : Nat) : Int) = (c s, 0) := by
    rw [← e, (h.grp (s / 8) hi).cell (by omega)]
    rw [show 8 * (s / 8) + s % 8 = s by omega]
  rw [hcv] at hCe
  generalize c s = x at *
  have hlt : ¬ (s : Int) < 0 := by omega
  have hlt2 : ¬ f 4 ≤ (s : Int) := by rw [h4]; omega
  generalize ((s / 8 : Nat) : Int) = q at *
  generalize ((s % 8 : Nat) : Int) = m at *
  generalize (gr : Int) + q * l.g = y at *
  clear hA h hv hcv e h4 h7
  unfold statV at hSt hPl
  unfold CellPost at *
  unfold GC.val at *
  go_enter Tryz.func31, Tryz.ntmps31
  go_wp2_with fail
  refine alloc2 (P := fun W => Calls _ _ _ W _) fun W0 hb hr hz K0 => ?_
  (with_reducible refine (hSt _ K0).mono ?_)
  rintro r w1 ⟨rfl, k1⟩
  have K1 : Keeps w w1 (fun _ => False) := K0.trans k1 (fun _ _ e => e)
  have k2 : Keeps w1 (w1.alloc (.cells #[.int .i64 (f 3), .int .i64 (f 4), .int .i64 (f 5), .int .i64 (f 6), .int .i64 (f 1), .int .i64 (f 2), .bool (f 0 == 4), .int .i64 (f 7)] 64)) (fun _ => False) := (Keeps.refl _ _).alloc _
  obtain ⟨c0, c1, c2, c3, c4, c5, c6, c7, c8, c9, c10⟩ := c11_of (k2.blk (k1.blk hb))
  obtain ⟨⟨t0, t1, t2, t3, t4, t5, t6, t7⟩, -⟩ := st8_cells (heap_alloc_new w1 (.cells #[.int .i64 (f 3), .int .i64 (f 4), .int .i64 (f 5), .int .i64 (f 6), .int .i64 (f 1), .int .i64 (f 2), .bool (f 0 == 4), .int .i64 (f 7)] 64))
  have hr2 := k2.blk (k1.blk hr)
  have K2 : Keeps w (w1.alloc (.cells #[.int .i64 (f 3), .int .i64 (f 4), .int .i64 (f 5), .int .i64 (f 6), .int .i64 (f 1), .int .i64 (f 2), .bool (f 0 == 4), .int .i64 (f 7)] 64)) (fun _ => False) := K1.trans k2 (fun _ _ e => e)
  clear hSt
  go_wp2_with fail
  (with_reducible refine (hPl _).mono ?_)
  rintro r w3 ⟨rfl, k3⟩
  have hr3 := k3.blk hr2
  have K3 : Keeps w w3 (fun _ => False) := K2.trans k3 (fun _ _ e => e)
  have k4 : Keeps w3 (w3.alloc (.cells #[.pointer (some ⟨p, 0, none⟩), .int .i64 l.k, .int .i64 l.e, .int .i64 l.a, .int .i64 l.b, .int .i64 l.c, .int .i64 l.eo, .int .i64 l.bo, .int .i64 l.s, .int .i64 l.g, .int .i64 y] 109)) (fun _ => False) := (Keeps.refl _ _).alloc _
  obtain ⟨b0, b1, b2, b3, b4, b5, b6, b7, b8, b9, b10⟩ := grp_cells (heap_alloc_new w3 (.cells #[.pointer (some ⟨p, 0, none⟩), .int .i64 l.k, .int .i64 l.e, .int .i64 l.a, .int .i64 l.b, .int .i64 l.c, .int .i64 l.eo, .int .i64 l.bo, .int .i64 l.s, .int .i64 l.g, .int .i64 y] 109))
  have hr4 := k4.blk hr3
  have K4 : Keeps w (w3.alloc (.cells #[.pointer (some ⟨p, 0, none⟩), .int .i64 l.k, .int .i64 l.e, .int .i64 l.a, .int .i64 l.b, .int .i64 l.c, .int .i64 l.eo, .int .i64 l.bo, .int .i64 l.s, .int .i64 l.g, .int .i64 y] 109)) (fun _ => False) := K3.trans k4 (fun _ _ e => e)
  have hCe4 := hCe _ K4
  clear hPl hCe c0 c1 c2 c3 c4 c5 c6 c7 c8 c9 c10 t0 t1 t2 t3 t4 t5 t6 t7
  go_wp2_with fail
  (with_reducible refine hCe4.mono ?_)
  rintro r w5 ⟨rfl, k5⟩
  have hr5 := k5.blk hr4
  have K5 : Keeps w w5 (fun _ => False) := K4.trans k5 (fun _ _ e => e)
  obtain ⟨d0, d1, d2, d3, d4, f0, f1, f2, f3, f4⟩ := five_cells hr5
  clear hCe4 b0 b1 b2 b3 b4 b5 b6 b7 b8 b9 b10
  go_wp2_with fail
  refine five_set hr5 K5 (fun h => by omega) (P := fun w9 => bodyPost _ _ _ _ _ w9) fun w9 h9 k9 _ => ?_
  obtain ⟨e0, e1, e2, e3, e4, -⟩ := five_cells h9
  exact bodyPost_ret (v := .tuple #[.agg #[.int .i64 x.kind, .int .i64 x.tag, .string x.key, .string x.elem, .int .i64 x.birth], .int .i64 0]) (by simp [results, Tryz.results31, go_sem, e0, e1, e2, e3, e4]) rfl ⟨rfl, k9⟩
end Go.Proofs.YtmdnknbolgedgaaGreatDoor
/-
  Rest and All of a set, and a range over it (where the reference of stage 5 is not there).
-/
namespace Go.Proofs.YtmdnknbolgedgaaGreatDoor.Ct
open Go.RowKit Go.Shelf
set_option linter.unusedVariables false

attribute [local go_sem] Oper.semAt_some

/-- The set without its lowest slot. -/
def rstM (m : Nat) : Nat := if m = 0 then 0 else m - 2 ^ firM m
theorem rst_lt : ∀ m, m < 256 → rstM m < 256 := by decide +kernel
theorem rst_has : ∀ m, m < 256 → ∀ j, j < 8 → hasM (rstM m) j = if j = firM m then false else hasM m j := by decide +kernel
def rest1 (x : Int) : Int := bits BinOp.and IntKind.u64 x (IntKind.u64.wrap (x - 1))
theorem rest_all : ∀ m, m < 256 → rest1 ((spread m : Nat) : Int) = ((spread (rstM m) : Nat) : Int) := by decide +kernel
theorem rst_same : ∀ m, m < 256 → firM m = 8 → rstM m = m := by decide +kernel

set_option maxHeartbeats 1000000 in
theorem rest_walk (z r : Int) (h : bits BinOp.and IntKind.u64 z (IntKind.u64.wrap (z - 1)) = r) (w : World) :
    Calls Tryz.prog 111 #[.agg #[.int .u64 z]] w fun e w' => e = .returned (.agg #[.int .u64 r]) ∧ Kp w w' := by
  go_enter Tryz.func111, Tryz.ntmps111
  go_wp2_with fail
  exact bodyPost_ret (v := .agg #[.int .u64 r]) (by simp [results, Tryz.results111, go_sem]) rfl ⟨rfl, ((Kp.refl _).alloc _).alloc _⟩

def RestIs (z r : Int) : Prop := ∃ m, m < 256 ∧ z = ((spread m : Nat) : Int) ∧ r = ((spread (rstM m) : Nat) : Int)
theorem rest_is {z r : Int} (q : RestIs z r) (w : World) :
    Calls Tryz.prog 111 #[.agg #[.int .u64 z]] w fun e w' => e = .returned (.agg #[.int .u64 r]) ∧ Kp w w' := by
  obtain ⟨m, hm, rfl, rfl⟩ := q
  exact rest_walk _ _ (rest_all m hm) w

/-- The slots of a set, in rising order. -/
def slM (m : Nat) : List Nat := (List.range 8).filter (fun i => hasM m i)
theorem sl_zero : ∀ m, m < 256 → cntM m = 0 → slM m = [] := by decide +kernel
theorem sl_cons : ∀ m, m < 256 → 0 < cntM m → slM m = firM m :: slM (rstM m) := by decide +kernel
theorem cnt_rst : ∀ m, m < 256 → 0 < cntM m → cntM (rstM m) + 1 = cntM m := by decide +kernel

/-- Sets stay as they are, and the table. -/
def Stay (W W' : World) : Prop := (∀ (q : Nat) (cs : Array Value), W.heap[q]? = some (Obj.cells cs 142) → W'.heap[q]? = some (Obj.cells cs 142)) ∧ (TabAt W → TabAt W')
theorem Stay.refl (W : World) : Stay W W := ⟨fun _ _ h => h, fun h => h⟩
theorem Stay.trans {A B C : World} (h : Stay A B) (k : Stay B C) : Stay A C := ⟨fun q cs e => k.1 q cs (h.1 q cs e), fun t => k.2 (h.2 t)⟩
theorem Stay.kp {W W' : World} (k : Kp W W') : Stay W W' := ⟨fun _ _ h => k.blk h, fun t => t.kp k⟩

theorem abides_kp {β : Type} {B : Nat} {J : β → World → Prop} (h : AbidesFrom B J) {s : β} {W W' : World} (hJ : J s W) (k : Kp W W') : J s W' :=
  h s W W' none hJ ⟨k.os, k.tape, k.output, k.size, fun i hi _ => k.block i hi⟩ (fun r e => by cases e)

set_option maxHeartbeats 1000000 in
theorem all_call (z : Int) (w : World) :
    Calls Tryz.prog 74 #[.agg #[.int .u64 z]] w fun e w' => e = .returned (.func (.func 110) #[] #[.pointer (some ⟨w.heap.size, 0, none⟩)]) ∧ w' = w.alloc (.cells #[.int .u64 z] 142) := by
  go_enter Tryz.func74, Tryz.ntmps74
  go_wp2
  go_ret
  exact ⟨rfl, rfl⟩

set_option maxRecDepth 100000 in
set_option maxHeartbeats 4000000 in
theorem all_each (n : Nat) (hn : 1 ≤ n) (l Bs B m : Nat) (hm : m < 256) (J Jx : List Nat → World → Prop) (hAb : AbidesFrom B J)
    (hY : ∀ pre (x : Nat) W, J pre W → pre.length < (slM m).length → YieldAt Fence.wide (n - 1) Tryz.prog l #[.int .i64 (x : Int)] W fun e W' =>
      (e = .returned (.bool true) ∧ J (pre ++ [x]) W' ∧ Stay W W') ∨ (e = .returned (.bool false) ∧ Jx (pre ++ [x]) W'))
    (W : World) (hBs : W.cell? ⟨Bs, 0, none⟩ = some (.int .u64 ((spread m : Nat) : Int))) (hT : TabAt W) (hJ0 : J [] W) :
    CallsIn Fence.wide n Tryz.prog 110 #[.func (.yield l) #[] #[], .pointer (some ⟨Bs, 0, none⟩)] W fun e W' => (∃ v, e = .returned v) ∧
      ((∃ ys, ys = slM m ∧ J ys W') ∨ (∃ pre, pre <+: slM m ∧ Jx pre W')) := by
  have hro : Fence.wide.round = none := rfl
  refine callsIn_of_wp Tryz.func110 rfl trivial ?_ hro
  simp only [Tryz.ntmps110, List.size_toArray, List.length_cons, List.length_nil, Nat.reduceAdd, Nat.reduceSub, Array.replicate_succ, Array.replicate_zero, List.push_toArray, List.append_toArray, List.nil_append, List.cons_append]
  gi_wp2_with fail
  have hL := heap_new W (.cells #[.int .u64 ((spread m : Nat) : Int)] 142)
  have kA : Kp W (W.alloc (.cells #[.int .u64 ((spread m : Nat) : Int)] 142)) := (Kp.refl _).alloc _
  have hJ1 := abides_kp hAb hJ0 kA
  have hT1 := hT.kp kA
  clear hJ0 hT hBs kA
  generalize W.alloc (.cells #[.int .u64 ((spread m : Nat) : Int)] 142) = W1 at *
  generalize W.heap.size = Bl at *
  gi_loopg [3] (cntM m) (fun g v3 wr => ∃ (Bl m' : Nat) (pre : List Nat), g = cntM m' ∧ m' < 256 ∧ v3 = .pointer (some ⟨Bl, 0, none⟩) ∧ wr.heap[Bl]? = some (.cells #[.int .u64 ((spread m' : Nat) : Int)] 142) ∧ pre ++ slM m' = slM m ∧ J pre wr ∧ TabAt wr)
  case atStart => exact ⟨Bl, m, [], rfl, hm, rfl, hL, rfl, hJ1, hT1⟩
  case round =>
    clear hL hJ1 hT1
    obtain ⟨Bl, m', pre, rfl, hm', rfl, hL, hpre, hJ, hT⟩ := hrel
    have hz := sl_zero m' hm'
    have hc := sl_cons m' hm'
    have hd := cnt_rst m' hm'
    have n1 : CntIs ((spread m' : Nat) : Int) ((cntM m' : Nat) : Int) := ⟨m', hm', rfl, rfl⟩
    have f1 : FirstIs ((spread m' : Nat) : Int) ((firM m' : Nat) : Int) := ⟨m', hm', rfl, rfl⟩
    have r1 : RestIs ((spread m' : Nat) : Int) ((spread (rstM m') : Nat) : Int) := ⟨m', hm', rfl, rfl⟩
    have hlt' := rst_lt m' hm'
    obtain ⟨c1, c2⟩ := one_cell hL
    by_cases h0 : cntM m' = 0
    · have HZ := hide (hz h0)
      have HP := hide hpre
      have HJ := hide hJ
      rw [h0] at n1
      clear hz hc hd f1 r1 hlt' hJ hpre h0
      gi_wp2_with fail
      refine ⟨trivial, (callsIn_wide.2 (count_is n1 _)).mono ?_⟩
      rintro e W2 ⟨rfl, k2⟩
      gi_wp2_with fail
      go_end0
      exact ⟨⟨_, rfl⟩, .inl ⟨pre, by rw [← HP.out, HZ.out, List.append_nil], abides_kp hAb HJ.out k2⟩⟩
    · have hp : 0 < cntM m' := by omega
      have hp' : 0 < ((cntM m' : Nat) : Int) := by omega
      have HC := hide (hc hp)
      have HP := hide hpre
      have HD := hide (hd hp)
      have hlen : pre.length < (slM m).length := by
        rw [← hpre, hc hp]
        simp
      clear hz hc hd hpre h0 hp
      generalize firM m' = F at *
      generalize spread m' = z at *
      generalize cntM m' = C at *
      gi_wp2_with fail
      refine ⟨trivial, (callsIn_wide.2 (count_is n1 _)).mono ?_⟩
      rintro e W2 ⟨rfl, k2⟩
      replace hL := k2.blk hL
      replace hJ := abides_kp hAb hJ k2
      replace hT := hT.kp k2
      clear k2 c1 c2
      obtain ⟨c1, c2⟩ := one_cell hL
      gi_wp2_with fail
      refine ⟨trivial, (callsIn_wide.2 (first_is f1 hT)).mono ?_⟩
      rintro e W3 ⟨rfl, k3⟩
      replace hL := k3.blk hL
      replace hJ := abides_kp hAb hJ k3
      replace hT := hT.kp k3
      clear k3 c1 c2 n1 f1
      obtain ⟨fn, tmps, assign, body, hy, hRd⟩ := hY pre F W3 hJ hlen
      clear hJ
      gi_wp2
      refine hRd.mono ?_
      rintro e W4 (⟨rfl, hJ4, hk4⟩ | ⟨rfl, hJx4⟩)
      · replace hL := hk4.1 _ _ hL
        replace hT := hk4.2 hT
        clear hk4 hRd hy
        obtain ⟨c1, c2⟩ := one_cell hL
        have HJ := hide hJ4
        clear hJ4
        gi_wp2_with fail
        refine ⟨trivial, (callsIn_wide.2 (rest_is r1 _)).mono ?_⟩
        rintro e W5 ⟨rfl, k5⟩
        have hN := k5.blk (heap_new W4 (.cells #[.int .u64 (z : Int)] 142))
        have kk : Kp W4 W5 := ((Kp.refl W4).alloc _).trans k5
        have hN2 : (W5.setCell ⟨W4.heap.size, 0, none⟩ (.int .u64 ((spread (rstM m') : Nat) : Int))).heap[W4.heap.size]? = some (.cells #[.int .u64 ((spread (rstM m') : Nat) : Int)] 142) := set_one hN 0 _ (by simp)
        have kk2 : Kp W4 (W5.setCell ⟨W4.heap.size, 0, none⟩ (.int .u64 ((spread (rstM m') : Nat) : Int))) := Below.setCell kk (Nat.le_refl _) _
        obtain ⟨e1, e2⟩ := one_cell hN
        clear c1 c2 k5 hL kk
        gi_wp2_with fail
        gi_roundg (cntM (rstM m'))
        case measure => have := HD.out; omega
        case rel => exact ⟨_, rstM m', pre ++ [F], rfl, hlt', rfl, hN2, by rw [List.append_assoc, ← HP.out, HC.out]; rfl, abides_kp hAb HJ.out kk2, hT.kp kk2⟩
      · have HX : Hid (∃ pre, pre <+: slM m ∧ Jx pre W4) := ⟨_, ⟨slM (rstM m'), by rw [List.append_assoc, ← HP.out, HC.out]; rfl⟩, hJx4⟩
        clear HC HP HD hJx4 hRd hy
        gi_wp2
        refine bodyPost_ret (results_none rfl _ _ _) rfl ?_
        exact ⟨⟨_, rfl⟩, .inr HX.out⟩

/-- A range over All gives the slots in rising order, or stops behind some of them. -/
theorem all_stops (n : Nat) (hn : 1 ≤ n) (Bs m : Nat) (hm : m < 256) (w : World) (hT : TabAt w) (hc : w.cell? ⟨Bs, 0, none⟩ = some (.int .u64 ((spread m : Nat) : Int))) :
    SeqStopsK Fence.wide n Tryz.prog 110 #[.pointer (some ⟨Bs, 0, none⟩)] (fun x : Nat => #[Value.int .i64 (x : Int)]) Stay (fun ys => ys = slM m) (fun pre => pre <+: slM m) (slM m).length w := fun l J Jx W hW hAb _ hY h0 =>
  all_each n hn l Bs W.heap.size m hm J Jx hAb hY W (Kp.cell hW hc) (TabAt.kp hT hW) h0
end Go.Proofs.YtmdnknbolgedgaaGreatDoor.Ct
/-
  A group searched for a key: which slot is the first that has it.
-/
namespace Go.Proofs.YtmdnknbolgedgaaGreatDoor
open Go.RowKit Go.Shelf Ly Ct
set_option linter.unusedVariables false

/-- Is slot i full with that tag and key? -/
def mtC (c : Nat → GC) (tag : Int) (key : ByteArray) (i : Nat) : Bool := decide ((c i).kind = 2 ∧ (c i).tag = tag ∧ (c i).key = key)
/-- The lowest of the last f of eight slots with M; 8: there is none. -/
def low (M : Nat → Bool) : Nat → Nat
  | 0 => 8
  | f + 1 => if M (7 - f) then 7 - f else low M f
theorem low_spec (M : Nat → Bool) : ∀ f, f ≤ 8 → low M f ≤ 8 ∧ (low M f < 8 → M (low M f) = true ∧ 8 - f ≤ low M f) ∧ ∀ z, 8 - f ≤ z → z < low M f → M z = false
  | 0, _ => ⟨Nat.le_refl _, fun h => absurd h (Nat.lt_irrefl _), fun z h1 h2 => by simp only [low] at h2; omega⟩
  | f + 1, hf => by
    obtain ⟨h1, h2, h3⟩ := low_spec M f (by omega)
    unfold low
    cases hM : M (7 - f)
    · rw [if_neg (by simp)]
      refine ⟨h1, fun h => ⟨(h2 h).1, by have := (h2 h).2; omega⟩, fun z hz1 hz2 => ?_⟩
      by_cases e : z = 7 - f
      · rw [e]; exact hM
      · exact h3 z (by omega) hz2
    · rw [if_pos rfl]
      exact ⟨by omega, fun _ => ⟨hM, by omega⟩, fun z hz1 hz2 => by omega⟩
theorem low_is {M : Nat → Bool} {y : Nat} (hy : y < 8) (h1 : M y = true) (h2 : ∀ z, z < y → M z = false) : low M 8 = y := by
  obtain ⟨a, b, c⟩ := low_spec M 8 (Nat.le_refl _)
  rcases Nat.lt_trichotomy (low M 8) y with h | h | h
  · have := (b (by omega)).1
    rw [h2 _ h] at this
    cases this
  · exact h
  · have := c y (by omega) h
    rw [h1] at this
    cases this
theorem low_none {M : Nat → Bool} (h : ∀ z, z < 8 → M z = false) : low M 8 = 8 := by
  obtain ⟨a, b, c⟩ := low_spec M 8 (Nat.le_refl _)
  by_cases hl : low M 8 < 8
  · have := (b hl).1
    rw [h _ hl] at this
    cases this
  · omega
def slChk (m k : Nat) : Bool := !(decide (k < (slM m).length)) || (decide ((slM m).getD k 0 < 8) && hasM m ((slM m).getD k 0) && (List.range 8).all (fun z => !(decide (z < (slM m).getD k 0)) || !(hasM m z) || decide (z ∈ (slM m).take k)))
theorem sl_chk : ∀ m, m < 256 → ∀ k, k < 8 → slChk m k = true := by decide +kernel
theorem sl_take {m : Nat} (hm : m < 256) {k : Nat} (hk8 : k < 8) (hk : k < (slM m).length) : (slM m)[k] < 8 ∧ hasM m (slM m)[k] = true ∧ ∀ z, z < 8 → z < (slM m)[k] → hasM m z = true → z ∈ (slM m).take k := by
  have h := sl_chk m hm k hk8
  have e : (slM m).getD k 0 = (slM m)[k] := by simp [List.getD, hk]
  unfold slChk at h
  rw [e, decide_eq_true hk] at h
  simp only [Bool.not_true, Bool.false_or, Bool.and_eq_true, decide_eq_true_eq, List.all_eq_true, Bool.or_eq_true, Bool.not_eq_true', decide_eq_false_iff_not, List.mem_range] at h
  refine ⟨h.1.1, h.1.2, fun z h8 hz hh => ?_⟩
  rcases h.2 z h8 with (q | q) | q
  · exact absurd hz q
  · rw [hh] at q; cases q
  · exact q
theorem sl_len : ∀ m, m < 256 → (slM m).length ≤ 8 := by decide +kernel
theorem sl_mem {m z : Nat} (hz : z < 8) (h : hasM m z = true) : z ∈ slM m := by
  unfold slM
  rw [List.mem_filter]
  exact ⟨List.mem_range.2 hz, h⟩

/-- The set that Match makes: just the slots that are full with that tag. -/
theorem match_has {d : AD} {l : Lay} {off : Nat} {c : Nat → GC} (h : GroupAt d l off c) {tag : Int} (h1 : tag ≤ 127) (h0 : 0 ≤ tag) {i : Nat} (hi : i < 8) : hasM (mk (tagB tag) (wordN d off)) i = decide ((c i).kind = 2 ∧ (c i).tag = tag) := by
  rw [hasM_mk _ _ hi, h.word i hi]
  unfold tagB
  have ho := h.ok i hi
  rcases ho with q | q | q
  · rw [q]
    have : GC.mark GC.zero = 128 := rfl
    rw [this]
    exact decide_eq_decide.2 ⟨fun e => by omega, fun e => by exact absurd e.1 (by decide)⟩
  · rw [q]
    have : GC.mark GC.gone = 254 := rfl
    rw [this]
    exact decide_eq_decide.2 ⟨fun e => by omega, fun e => by exact absurd e.1 (by decide)⟩
  · unfold GC.mark
    rw [if_pos q.1]
    exact decide_eq_decide.2 ⟨fun e => ⟨q.1, by omega⟩, fun e => by have := e.2; omega⟩

section
variable {d : AD} {l : Lay} {off : Nat} {c : Nat → GC}
/-- The range over the slots with the tag stops at the first that has the key. -/
theorem hit_stop (h : GroupAt d l off c) {tag : Int} (h1 : tag ≤ 127) (h0 : 0 ≤ tag) {key : ByteArray} {ps : List Nat} {y : Nat} (hp : ps ++ [y] <+: slM (mk (tagB tag) (wordN d off))) (hn : ∀ z, z ∈ ps → (c z).key ≠ key) (hy : (c y).key = key) : y < 8 ∧ low (mtC c tag key) 8 = y := by
  have hm := mk_lt (tagB tag) (wordN d off)
  have hlen := sl_len _ hm
  have hl := hp.length_le
  rw [List.length_append, List.length_singleton] at hl
  have hps : ps.length < (slM (mk (tagB tag) (wordN d off))).length := by omega
  obtain ⟨t, ht⟩ := hp
  have hget : (slM (mk (tagB tag) (wordN d off)))[ps.length] = y := by
    have : (slM (mk (tagB tag) (wordN d off)))[ps.length]? = some y := by
      rw [← ht, List.append_assoc, List.getElem?_append_right (Nat.le_refl _), Nat.sub_self]
      rfl
    exact (List.getElem?_eq_some_iff.1 this).2
  have htk : (slM (mk (tagB tag) (wordN d off))).take ps.length = ps := by
    rw [← ht, List.append_assoc, List.take_left]
  obtain ⟨s1, s2, s3⟩ := sl_take hm (by omega) hps
  rw [hget] at s1 s2 s3
  rw [htk] at s3
  refine ⟨s1, low_is s1 ?_ (fun z hz => ?_)⟩
  · have := match_has h h1 h0 s1
    rw [this] at s2
    have s4 := of_decide_eq_true s2
    exact decide_eq_true ⟨s4.1, s4.2, hy⟩
  · refine decide_eq_false fun q => ?_
    have hz8 : z < 8 := by omega
    have : hasM (mk (tagB tag) (wordN d off)) z = true := by rw [match_has h h1 h0 hz8]; exact decide_eq_true ⟨q.1, q.2.1⟩
    exact hn z (s3 z hz8 hz this) q.2.2
theorem hit_done (h : GroupAt d l off c) {tag : Int} (h1 : tag ≤ 127) (h0 : 0 ≤ tag) {key : ByteArray} (hn : ∀ z, z ∈ slM (mk (tagB tag) (wordN d off)) → (c z).key ≠ key) : low (mtC c tag key) 8 = 8 := by
  refine low_none fun z hz => decide_eq_false fun q => ?_
  have : hasM (mk (tagB tag) (wordN d off)) z = true := by rw [match_has h h1 h0 hz]; exact decide_eq_true ⟨q.1, q.2.1⟩
  exact hn z (sl_mem hz this) q.2.2
end

/-- The cells of a group of a table. -/
def grpC (c : Nat → GC) (g : Nat) : Nat → GC := fun j => c (8 * g + j)
/-- The slot of the key in a group (8: none), the first vacant slot (8: none), has it an empty slot? -/
def hitG (c : Nat → GC) (tag : Int) (key : ByteArray) (g : Nat) : Nat := low (mtC (grpC c g) tag key) 8
def vacG (c : Nat → GC) (g : Nat) : Nat := low (fun j => decide ((grpC c g j).kind ≠ 2)) 8
def empG (c : Nat → GC) (g : Nat) : Bool := (List.range 8).any (fun j => decide ((grpC c g j).kind = 0))
/-- What a search has seen: the groups that were looked at, the key's slot, the first vacant slot. -/
structure Srch where
  probes : Nat
  slot : Option Nat
  vac : Option Nat
def meetV (v : Option Nat) (c : Nat → GC) (g : Nat) : Option Nat := match v with
  | some x => some x
  | none => if vacG c g < 8 then some (8 * g + vacG c g) else none
/-- The way of a hash, up to the key or to a group with an empty slot. -/
def srch (c : Nat → GC) (tag : Int) (key : ByteArray) : List Nat → Nat → Option Nat → Srch
  | [], n, v => ⟨n, none, v⟩
  | g :: gs, n, v => if hitG c tag key g < 8 then ⟨n + 1, some (8 * g + hitG c tag key g), v⟩ else if empG c g then ⟨n + 1, none, meetV v c g⟩ else srch c tag key gs (n + 1) (meetV v c g)
end Go.Proofs.YtmdnknbolgedgaaGreatDoor
/-
  What the control word says of a group's cells.
-/
namespace Go.Proofs.YtmdnknbolgedgaaGreatDoor
open Go.RowKit Go.Shelf Ly Ct
set_option linter.unusedVariables false

theorem fir_low : ∀ m, m < 256 → firM m = low (hasM m) 8 := by decide +kernel
theorem cnt_any : ∀ m, m < 256 → decide (0 < cntM m) = (List.range 8).any (hasM m) := by decide +kernel
theorem low_congr {M N : Nat → Bool} (h : ∀ i, i < 8 → M i = N i) : low M 8 = low N 8 := by
  rcases Nat.lt_or_ge (low N 8) 8 with h8 | h8
  · obtain ⟨_, h2, h3⟩ := low_spec N 8 (Nat.le_refl _)
    refine low_is h8 ?_ (fun z hz => ?_)
    · rw [h _ h8]
      exact (h2 h8).1
    · rw [h z (by omega)]
      exact h3 z (by omega) hz
  · obtain ⟨h1, _, h3⟩ := low_spec N 8 (Nat.le_refl _)
    have e : low N 8 = 8 := by omega
    rw [e]
    refine low_none fun z hz => ?_
    rw [h z hz]
    exact h3 z (by omega) (by omega)
section
variable {d : AD} {l : Lay} {off : Nat} {c : Nat → GC}
theorem vac_has (h : GroupAt d l off c) {i : Nat} (hi : i < 8) : hasM (mk (fun x => x == 128 || x == 254) (wordN d off)) i = decide ((c i).kind ≠ 2) := by
  rw [hasM_mk _ _ hi, h.word i hi]
  rcases h.ok i hi with q | q | q
  · rw [q]
    rfl
  · rw [q]
    rfl
  · have hm : (c i).mark = (c i).tag.toNat := if_pos q.1
    have h1 := q.2.1
    have h2 := q.2.2.1
    rw [hm, decide_eq_false (fun e => e q.1)]
    generalize (c i).tag = t at *
    have e1 : (t.toNat == 128) = false := by simp; omega
    have e2 : (t.toNat == 254) = false := by simp; omega
    rw [e1, e2]
    rfl
theorem emp_has (h : GroupAt d l off c) {i : Nat} (hi : i < 8) : hasM (mk (· == 128) (wordN d off)) i = decide ((c i).kind = 0) := by
  rw [hasM_mk _ _ hi, h.word i hi]
  rcases h.ok i hi with q | q | q
  · rw [q]
    rfl
  · rw [q]
    rfl
  · have hm : (c i).mark = (c i).tag.toNat := if_pos q.1
    have h1 := q.2.1
    have h2 := q.2.2.1
    have hk := q.1
    rw [hm, decide_eq_false (fun e => by omega)]
    generalize (c i).tag = t at *
    have e1 : (t.toNat == 128) = false := by simp; omega
    exact e1
theorem fir_vac (h : GroupAt d l off c) : firM (mk (fun x => x == 128 || x == 254) (wordN d off)) = low (fun j => decide ((c j).kind ≠ 2)) 8 := by
  rw [fir_low _ (mk_lt _ _)]
  exact low_congr fun i hi => vac_has h hi
theorem any_emp (h : GroupAt d l off c) : decide (0 < cntM (mk (· == 128) (wordN d off))) = (List.range 8).any (fun j => decide ((c j).kind = 0)) := by
  rw [cnt_any _ (mk_lt _ _)]
  have : ∀ n, n ≤ 8 → (List.range n).any (hasM (mk (· == 128) (wordN d off))) = (List.range n).any (fun j => decide ((c j).kind = 0)) := fun n => by
    induction n with
    | zero => intro _; rfl
    | succ n ih =>
      intro hn
      rw [List.range_succ, List.any_append, List.any_append, ih (by omega)]
      simp only [List.any_cons, List.any_nil, Bool.or_false]
      rw [emp_has h (by omega)]
  exact this 8 (Nat.le_refl _)
end
end Go.Proofs.YtmdnknbolgedgaaGreatDoor
