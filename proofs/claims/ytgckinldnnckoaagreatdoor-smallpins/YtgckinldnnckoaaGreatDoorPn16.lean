import Derived.Test.YtgckinldnnckoaaGreatDoorPn15
/-
  small: Free of one that is there; what a dead one is, as data.
-/
namespace Go.Proofs.YtgckinldnnckoaaGreatDoor
open Go.RowKit Go.Shelf Ly Ct
set_option linter.unusedVariables false
theorem own_moreZ {w w1 W : World} {p : Nat} {X : Nat → Prop} {d : AD} (h : Own w w1 p X d) (k : Keeps w1 W (fun _ => False)) : Own w W p (fun i => X i ∨ (w1.heap.size ≤ i ∧ i < W.heap.size)) d :=
  ⟨(h.here.keeps k (fun _ _ _ e => e)).mono (fun i hi e => ⟨e.1.1, fun q => q.elim e.1.2 (fun q => by omega)⟩), h.keeps.trans k (fun _ _ e => e)⟩
/-- Behind Free of a small one that was alone. -/
structure Bare (d : AD) (off : Nat) (l : Lay) : Prop where
  used : d.used = 0
  good : d.goodB (off : Int) 8 = false
theorem One.gone {d d' : AD} {off : Nat} {l : Lay} {lim : Nat} (h : One d off l lim) (g : Gone d (off : Int) d') : Bare d' off l := by
  obtain ⟨s, hs, rfl⟩ := g
  rw [h.lv, upd_same] at hs
  have es : s = classN (32 + l.g.toNat) := by
    have := Option.some.inj hs
    omega
  subst es
  refine ⟨?_, ?_⟩
  · show d.used - _ = 0
    rw [h.used]
    omega
  · cases e : (d.gone (off : Int) (classN (32 + l.g.toNat))).goodB (off : Int) 8 with
    | false => rfl
    | true =>
      obtain ⟨x, hx, hl, -⟩ := AD.goodB_true e
      have hx : x ∈ d.L := hx
      rw [h.L] at hx
      simp only [List.mem_cons, List.not_mem_nil, or_false] at hx
      subst hx
      have hl : upd d.lv (off : Int) none ((off : Nat) : Int) = _ := hl
      rw [upd_same] at hl
      cases hl
def SFree (w w1 : World) (p : Nat) (X : Nat → Prop) (d : AD) (off : Nat) (e : Ending) (w' : World) : Prop :=
  e = .returned (.int .i64 0) ∧ ∃ d', Gone d (off : Int) d' ∧ d'.Fine ∧ Own w w' p X d' ∧ Keeps w1 w' (fun k => (w.heap.size ≤ k ∧ ¬ X k) ∧ k < w1.heap.size)
set_option maxRecDepth 100000 in
set_option maxHeartbeats 1000000 in
theorem sfree_yes {w w1 : World} {p : Nat} {X : Nat → Prop} {d : AD} {l : Lay} {off : Nat} {f : Nat → Int} {c : Nat → GC} (h : Own w w1 p X d) (hF : d.Fine) (hX : ∀ k, X k → k < w1.heap.size) (hs : SmD d l off f c) {s : Int} (hz : d.lv (off : Int) = some s) :
    Calls Tryz.prog 53 #[.agg #[.pointer (some ⟨p, 0, none⟩), .int .i64 l.k, .int .i64 l.e, .int .i64 l.a, .int .i64 l.b, .int .i64 l.c, .int .i64 l.eo, .int .i64 l.bo, .int .i64 l.s, .int .i64 l.g, .int .i64 (off : Int)]] w1 fun e w' => SFree w w1 p X d off e w' := by
  have hSt := fun W (k : Keeps w1 W (fun _ => False)) => sstat_sm (h.here.keeps k (fun _ _ _ e => e)) hF hs
  have hFr : Hid (∀ W, Keeps w1 W (fun _ => False) → Calls Tryz.prog 87 #[.pointer (some ⟨p, 0, none⟩), .slice (some ⟨W.heap.size, 0, none⟩) 1 1] (W.alloc (.cells #[.int .i64 (off : Int)] 3)) fun e w' => SFree w w1 p X d off e w') := fun W k => by
    refine (own_free1 (own_moreZ h k) hF (off : Int) s hz (fun i hi => hi.elim (fun e => by have := hX _ e; have := k.size; omega) (fun e => e.2))).mono ?_
    rintro e w2 ⟨rfl, d', hg, ho, k2⟩
    refine ⟨rfl, d', hg, ?_, ho.less (fun k _ _ e => Or.inl e), (k.mono (fun _ _ e => e.elim)).trans k2 (fun i hi e => ⟨⟨e.1.1, fun q => e.1.2 (Or.inl q)⟩, hi⟩)⟩
    exact hF.gones (zs := [(off : Int)]) ⟨d', hg, rfl⟩
  unfold statS at hSt
  clear h hs hz
  generalize f 0 = f0 at *
  generalize f 1 = f1 at *
  generalize f 2 = f2 at *
  generalize f 3 = f3 at *
  go_enter Tryz.func53, Tryz.ntmps53
  go_wp2_with fail
  refine alloc1 (P := fun W => Calls _ _ _ W _) fun W0 hb hz K0 => ?_
  (with_reducible refine (hSt _ K0).mono ?_)
  rintro r w2 ⟨rfl, k1⟩
  have K1 : Keeps w1 w2 (fun _ => False) := K0.trans k1 (fun _ _ e => e)
  have k2 : Keeps w2 (w2.alloc (.cells #[.int .i64 f3, .int .i64 f1, .int .i64 f2, .bool (f0 == 3)] 51)) (fun _ => False) := (Keeps.refl _ _).alloc _
  obtain ⟨c0, c1, c2, c3, c4, c5, c6, c7, c8, c9, c10⟩ := c11_of (k2.blk (k1.blk hb))
  have hF3 := hFr.out _ (K1.trans k2 (fun _ _ e => e))
  rw [World.size_alloc] at hF3
  clear hSt hFr
  go_wp2_with fail
  (with_reducible refine hF3.mono ?_)
  rintro r w4 hP
  obtain ⟨rfl, hP2⟩ := hP
  have HP : Hid (SFree w w1 p X d off (.returned (.int .i64 0)) w4) := ⟨rfl, hP2⟩
  clear hP2 hF3 c0 c1 c2 c3 c4 c5 c6 c7 c8 c9 c10
  go_wp2_with fail
  go_ret
  exact HP.out
end Go.Proofs.YtgckinldnnckoaaGreatDoor
/-
  small: Pin (made by gensm.py)
-/
namespace Go.Proofs.YtgckinldnnckoaaGreatDoor
open Go.RowKit Go.Shelf Ly Ct
set_option linter.unusedVariables false

set_option maxRecDepth 100000 in
set_option maxHeartbeats 1000000 in
theorem spin_no {w : World} {p : Nat} {F : Nat → Prop} {d : AD} {l : Lay} {off : Nat} {f : Nat → Int} {c : Nat → GC} (hA : Arena w p F d) (hF : d.Fine) (h : SmD d l off f c) (b : Int) (hb9 : fitsI b) (h0 : 0 ≤ f 1) (h62 : f 1 ≤ 4611686018427387904) (hno : b < -(f 1) ∨ 4611686018427387904 - f 1 < b) :
    Calls Tryz.prog 18 #[.agg #[.pointer (some ⟨p, 0, none⟩), .int .i64 l.k, .int .i64 l.e, .int .i64 l.a, .int .i64 l.b, .int .i64 l.c, .int .i64 l.eo, .int .i64 l.bo, .int .i64 l.s, .int .i64 l.g, .int .i64 (off : Int)], .int .i64 b] w fun e w' => e = .returned (.tuple #[.int .i64 0, .int .i64 83]) ∧ Keeps w w' (fun _ => False) := by
  have hSt := fun W (k : Keeps w W (fun _ => False)) => sstat_sm (hA.keeps k (fun _ _ _ e => e)) hF h
  unfold statS at hSt
  clear hA h
  generalize f 1 = f1 at *
  generalize f 0 = f0 at *
  generalize f 2 = f2 at *
  generalize f 3 = f3 at *
  have w1 : IntKind.i64.wrap (-f1) = -f1 := by rw [IntKind.wrap_i64]; omega
  have w2 : IntKind.i64.wrap (4611686018427387904 - f1) = 4611686018427387904 - f1 := by rw [IntKind.wrap_i64]; omega
  by_cases hlo : b < -f1
  · go_enter Tryz.func18, Tryz.ntmps18
    go_wp2_with fail
    refine alloc1 (P := fun W => Calls _ _ _ W _) fun W0 hb hz K0 => ?_
    (with_reducible refine (hSt _ K0).mono ?_)
    rintro r w1' ⟨rfl, k1⟩
    have K1 : Keeps w w1' (fun _ => False) := K0.trans k1 (fun _ _ e => e)
    clear hSt
    go_wp2_with fail
    go_ret2
    exact ⟨rfl, K1.alloc _⟩
  · have hhi : 4611686018427387904 - f1 < b := by omega
    go_enter Tryz.func18, Tryz.ntmps18
    go_wp2_with fail
    refine alloc1 (P := fun W => Calls _ _ _ W _) fun W0 hb hz K0 => ?_
    (with_reducible refine (hSt _ K0).mono ?_)
    rintro r w1' ⟨rfl, k1⟩
    have K1 : Keeps w w1' (fun _ => False) := K0.trans k1 (fun _ _ e => e)
    clear hSt
    go_wp2_with fail
    go_ret2
    exact ⟨rfl, K1.alloc _⟩

/-- The struct's cells, and one cell more. -/
abbrev C12s (b p : Nat) (l : Lay) (off : Int) (e : Nat) (v : Value) (W : World) : Prop := W.cell? ⟨b, 0, none⟩ = some (.pointer (some ⟨p, 0, none⟩)) ∧ W.cell? ⟨b, 1, none⟩ = some (.int .i64 l.k) ∧ W.cell? ⟨b, 2, none⟩ = some (.int .i64 l.e) ∧ W.cell? ⟨b, 3, none⟩ = some (.int .i64 l.a) ∧ W.cell? ⟨b, 4, none⟩ = some (.int .i64 l.b) ∧ W.cell? ⟨b, 5, none⟩ = some (.int .i64 l.c) ∧ W.cell? ⟨b, 6, none⟩ = some (.int .i64 l.eo) ∧ W.cell? ⟨b, 7, none⟩ = some (.int .i64 l.bo) ∧ W.cell? ⟨b, 8, none⟩ = some (.int .i64 l.s) ∧ W.cell? ⟨b, 9, none⟩ = some (.int .i64 l.g) ∧ W.cell? ⟨b, 10, none⟩ = some (.int .i64 off) ∧ W.cell? ⟨e, 1, none⟩ = some v
theorem c12s_of {W : World} {b p e : Nat} {l : Lay} {off : Int} {v : Value} (h : C11 b p l off W) (h2 : W.cell? ⟨e, 1, none⟩ = some v) : C12s b p l off e v W := by
  obtain ⟨c0, c1, c2, c3, c4, c5, c6, c7, c8, c9, c10⟩ := h
  exact ⟨c0, c1, c2, c3, c4, c5, c6, c7, c8, c9, c10, h2⟩
theorem c12s_keeps {W W1 : World} {b p e : Nat} {l : Lay} {off : Int} {v : Value} {S : Nat → Prop} (k : Keeps W W1 S) (hS : ¬ S b) (hE : ¬ S e) (h : C12s b p l off e v W) : C12s b p l off e v W1 := by
  obtain ⟨c0, c1, c2, c3, c4, c5, c6, c7, c8, c9, c10, h2⟩ := h
  refine c12s_of (c11_keeps k hS ⟨c0, c1, c2, c3, c4, c5, c6, c7, c8, c9, c10⟩) ?_
  have : e < W.heap.size := by
    refine Nat.lt_of_not_le fun hn => ?_
    rw [World.cell?, Array.getElem?_eq_none hn] at h2
    cases h2
  exact (World.cell?_of_block (w := W) (a := ⟨e, 1, none⟩) (k.block e this hE)).trans h2

set_option maxRecDepth 100000 in
set_option maxHeartbeats 1000000 in
theorem spin_yes {w : World} {p : Nat} {F : Nat → Prop} {d : AD} {l : Lay} {off : Nat} {f : Nat → Int} {c : Nat → GC} (hA : Arena w p F d) (hF : d.Fine) (hFl : ∀ k, F k → k < w.heap.size) (h : SmD d l off f c) (b : Int) (h0 : 0 ≤ f 1) (h62 : f 1 ≤ 4611686018427387904) (hlo : -(f 1) ≤ b) (hhi : b ≤ 4611686018427387904 - f 1) :
    Calls Tryz.prog 18 #[.agg #[.pointer (some ⟨p, 0, none⟩), .int .i64 l.k, .int .i64 l.e, .int .i64 l.a, .int .i64 l.b, .int .i64 l.c, .int .i64 l.eo, .int .i64 l.bo, .int .i64 l.s, .int .i64 l.g, .int .i64 (off : Int)], .int .i64 b] w fun e w' => e = .returned (.tuple #[.int .i64 (f 1 + b), .int .i64 0]) ∧ HeadS w p F d l off (updI f 1 (f 1 + b)) c w' := by
  have hSt := fun W (k : Keeps w W (fun _ => False)) => sstat_sm (hA.keeps k (fun _ _ _ e => e)) hF h
  have hSe : Hid (∀ W (k : Keeps w W (fun _ => False)), Calls Tryz.prog 48 #[.agg #[.pointer (some ⟨p, 0, none⟩), .int .i64 l.k, .int .i64 l.e, .int .i64 l.a, .int .i64 l.b, .int .i64 l.c, .int .i64 l.eo, .int .i64 l.bo, .int .i64 l.s, .int .i64 l.g, .int .i64 (off : Int)], .int .i64 1, .int .i64 (f 1 + b)] W fun e w' => e = .returned (.int .i64 0) ∧ HeadS W p F d l off (updI f 1 (f 1 + b)) c w') := fun W k =>
    sset_sm (hA.keeps k (fun _ _ _ e => e)) hF (fun i hi => Nat.lt_of_lt_of_le (hFl i hi) k.size) h 1 (by omega) (f 1 + b) (fitsI_mk (by omega) (by omega))
  unfold statS at hSt
  have hnB : ¬ F w.heap.size := fun q => Nat.lt_irrefl _ (hFl _ q)
  clear hA h
  obtain ⟨ff, hff⟩ : ∃ ff, updI f 1 (f 1 + b) = ff := ⟨_, rfl⟩
  rw [hff] at hSe ⊢
  clear hff
  generalize f 1 = f1 at *
  generalize f 0 = f0 at *
  generalize f 2 = f2 at *
  generalize f 3 = f3 at *
  have w1 : IntKind.i64.wrap (-f1) = -f1 := by rw [IntKind.wrap_i64]; omega
  have w2 : IntKind.i64.wrap (4611686018427387904 - f1) = 4611686018427387904 - f1 := by rw [IntKind.wrap_i64]; omega
  have w3 : IntKind.i64.wrap (f1 + b) = f1 + b := by rw [IntKind.wrap_i64]; omega
  have g1 : ¬ b < -f1 := by omega
  have g2 : ¬ 4611686018427387904 - f1 < b := by omega
  go_enter Tryz.func18, Tryz.ntmps18
  go_wp2_with fail
  refine alloc1 (P := fun W => Calls _ _ _ W _) fun W0 hb hz K0 => ?_
  (with_reducible refine (hSt _ K0).mono ?_)
  rintro r w1' ⟨rfl, k1⟩
  have K1 : Keeps w w1' (fun _ => False) := K0.trans k1 (fun _ _ e => e)
  have hnE : ¬ F w1'.heap.size := fun q => by have := hFl _ q; have := K1.size; omega
  have k2 : Keeps w1' (w1'.alloc (.cells #[.int .i64 f3, .int .i64 f1, .int .i64 f2, .bool (f0 == 3)] 51)) (fun _ => False) := (Keeps.refl _ _).alloc _
  have hst := heap_alloc_new w1' (.cells #[.int .i64 f3, .int .i64 f1, .int .i64 f2, .bool (f0 == 3)] 51)
  have C1 : C12s w.heap.size p l (off : Int) w1'.heap.size (.int .i64 f1) (w1'.alloc (.cells #[.int .i64 f3, .int .i64 f1, .int .i64 f2, .bool (f0 == 3)] 51)) := c12s_of (c11_of (k2.blk (k1.blk hb))) (st4_cells hst).1.2.1
  have K2 : Keeps w (w1'.alloc (.cells #[.int .i64 f3, .int .i64 f1, .int .i64 f2, .bool (f0 == 3)] 51)) (fun _ => False) := K1.trans k2 (fun _ _ e => e)
  have hSe2 := hSe.out _ K2.drew
  clear hSt hSe
  go_wp2_with fail
  go_region_held3 (fun w' => w'.cell? ⟨w.heap.size, 0, none⟩ = some (.pointer (some ⟨p, 0, none⟩)) ∧ w'.cell? ⟨w.heap.size, 1, none⟩ = some (.int .i64 l.k) ∧ w'.cell? ⟨w.heap.size, 2, none⟩ = some (.int .i64 l.e) ∧ w'.cell? ⟨w.heap.size, 3, none⟩ = some (.int .i64 l.a) ∧ w'.cell? ⟨w.heap.size, 4, none⟩ = some (.int .i64 l.b) ∧ w'.cell? ⟨w.heap.size, 5, none⟩ = some (.int .i64 l.c) ∧ w'.cell? ⟨w.heap.size, 6, none⟩ = some (.int .i64 l.eo) ∧ w'.cell? ⟨w.heap.size, 7, none⟩ = some (.int .i64 l.bo) ∧ w'.cell? ⟨w.heap.size, 8, none⟩ = some (.int .i64 l.s) ∧ w'.cell? ⟨w.heap.size, 9, none⟩ = some (.int .i64 l.g) ∧ w'.cell? ⟨w.heap.size, 10, none⟩ = some (.int .i64 off) ∧ w'.cell? ⟨w1'.heap.size, 1, none⟩ = some (.int .i64 f1)) (first | exact c12s_keeps (Keeps.refl _ (fun _ => False)).drew id id C1 | exact c12s_keeps hT2.2 hnB hnE (by assumption) | assumption)
    (first | (go_at_call 48; (with_reducible refine hSe2.mono ?_); rintro r w3 ⟨rfl, d2, hT2, hF2, h2, ht2⟩))
  all_goals (have HP : Hid (HeadS w p F d l off ff c w3) := ⟨d2, Turned.pre K2.drew hT2, hF2, h2, ht2⟩)
  all_goals clear hT2 h2 ht2 hSe2
  all_goals go_wp2_with fail
  all_goals go_ret2
  all_goals exact ⟨rfl, HP.out⟩
end Go.Proofs.YtgckinldnnckoaaGreatDoor
/-
  small's law: what a turn changes, as data.
-/
namespace Go.Proofs.YtgckinldnnckoaaGreatDoor
open Go.RowKit Go.Shelf Ly Ct
set_option linter.unusedVariables false
theorem low_congr {M N : Nat → Bool} (h : ∀ i, i < 8 → M i = N i) : ∀ f, f ≤ 8 → low M f = low N f
  | 0, _ => rfl
  | f + 1, hf => by
    rw [low, low, h _ (by omega), low_congr h f (by omega)]
def fl1 (x : GC) : Nat := if x.kind = 2 then 1 else 0
theorem cntF_upd (c : Nat → GC) (i : Nat) (x : GC) : ∀ n, (n ≤ i → cntF (updC c i x) n = cntF c n) ∧ (i < n → cntF (updC c i x) n + fl1 (c i) = cntF c n + fl1 x)
  | 0 => ⟨fun _ => rfl, fun h => absurd h (Nat.not_lt_zero _)⟩
  | n + 1 => by
    obtain ⟨h1, h2⟩ := cntF_upd c i x n
    refine ⟨fun h => ?_, fun h => ?_⟩
    · have e : updC c i x n = c n := by unfold updC; rw [if_neg (by omega)]
      rw [cntF, cntF, e, h1 (by omega)]
    · by_cases e : n = i
      · subst e
        have e2 : updC c n x n = x := by unfold updC; rw [if_pos rfl]
        rw [cntF, cntF, e2, h1 (Nat.le_refl _)]
        unfold fl1
        omega
      · have e2 : updC c i x n = c n := by unfold updC; rw [if_neg e]
        have := h2 (by omega)
        rw [cntF, cntF, e2]
        omega
theorem setA {W : World} {B : Nat} {cs : Array Value} {t : TypeId} (h : W.heap[B]? = some (.cells cs t)) (k : Nat) (a : Value) : (W.setCell ⟨B, k, none⟩ a).heap[B]? = some (.cells (cs.setIfInBounds k a) t) := by
  simp [World.setCell, Array.getElem?_modify, h]
theorem getS {cs : Array Value} {k j : Nat} {a : Value} (h : k ≠ j) : (cs.setIfInBounds k a)[j]? = cs[j]? := Array.getElem?_setIfInBounds_ne h
theorem getT {cs : Array Value} {k : Nat} {a : Value} (h : k < cs.size) : (cs.setIfInBounds k a)[k]? = some a := by
  rw [Array.getElem?_setIfInBounds_self]
  simp [h]
section
variable {cs : Array Value} {b p : Nat} {l : Lay} {off q seed : Nat} {c : Nat → GC} {ad : Int} {W : World}
/-- One cell of the eight is another. -/
theorem BC.put (h : BC cs p l off q seed c ad) {i : Nat} (hi : i < 8) (x : GC) : BC (((((cs.setIfInBounds (26 + i * 5) (.int .i64 x.kind)).setIfInBounds (26 + i * 5 + 1) (.int .i64 x.tag)).setIfInBounds (26 + i * 5 + 2) (.string x.key)).setIfInBounds (26 + i * 5 + 3) (.string x.elem)).setIfInBounds (26 + i * 5 + 4) (.int .i64 x.birth)) p l off q seed (updC c i x) ad := by
  have ho : ∀ j, (j < 26 + i * 5 ∨ 26 + i * 5 + 4 < j) → (((((cs.setIfInBounds (26 + i * 5) (.int .i64 x.kind)).setIfInBounds (26 + i * 5 + 1) (.int .i64 x.tag)).setIfInBounds (26 + i * 5 + 2) (.string x.key)).setIfInBounds (26 + i * 5 + 3) (.string x.elem)).setIfInBounds (26 + i * 5 + 4) (.int .i64 x.birth))[j]? = cs[j]? := fun j hj => by
    rw [getS (by omega), getS (by omega), getS (by omega), getS (by omega), getS (by omega)]
  have hz := h.size
  refine ⟨by simp [hz], ?_, ?_, ?_, ?_, ?_, ?_, ?_, ?_, ?_, ?_, ?_, ?_, ?_, ?_, ?_, fun j hj => ?_, ?_, ?_, ?_⟩
  · rw [ho _ (by omega)]; exact h.lk
  · rw [ho _ (by omega)]; exact h.le
  · rw [ho _ (by omega)]; exact h.orc
  · rw [ho _ (by omega)]; exact h.s0
  · rw [ho _ (by omega)]; exact h.s1
  · rw [ho _ (by omega)]; exact h.s2
  · rw [ho _ (by omega)]; exact h.s3
  · rw [ho _ (by omega)]; exact h.s4
  · rw [ho _ (by omega)]; exact h.s5
  · rw [ho _ (by omega)]; exact h.s6
  · rw [ho _ (by omega)]; exact h.s7
  · rw [ho _ (by omega)]; exact h.s8
  · rw [ho _ (by omega)]; exact h.s9
  · rw [ho _ (by omega)]; exact h.s10
  · rw [ho _ (by omega)]; exact h.sd
  · by_cases e : j = i
    · subst e
      have e2 : updC c j x j = x := by unfold updC; rw [if_pos rfl]
      rw [e2]
      refine ⟨?_, ?_, ?_, ?_, ?_⟩
      · rw [getS (by omega), getS (by omega), getS (by omega), getS (by omega), getT (by omega)]
      · rw [getS (by omega), getS (by omega), getS (by omega), getT (by simp; omega)]
      · rw [getS (by omega), getS (by omega), getT (by simp; omega)]
      · rw [getS (by omega), getT (by simp; omega)]
      · rw [getT (by simp; omega)]
    · have e2 : updC c i x j = c j := by unfold updC; rw [if_neg e]
      obtain ⟨a0, a1, a2, a3, a4⟩ := h.cell j hj
      rw [e2, ho _ (by omega), ho _ (by omega), ho _ (by omega), ho _ (by omega), ho _ (by omega)]
      exact ⟨a0, a1, a2, a3, a4⟩
  · rw [ho _ (by omega)]; exact h.ad
  · rw [ho _ (by omega)]; exact h.a0
  · rw [ho _ (by omega)]; exact h.lg
theorem BC.same (h : BC cs p l off q seed c ad) {c2 : Nat → GC} (e : ∀ i, i < 8 → c2 i = c i) : BC cs p l off q seed c2 ad := ⟨h.size, h.lk, h.le, h.orc, h.s0, h.s1, h.s2, h.s3, h.s4, h.s5, h.s6, h.s7, h.s8, h.s9, h.s10, h.sd, fun i hi => by rw [e i hi]; exact h.cell i hi, h.ad, h.a0, h.lg⟩
/-- One elem of the eight is another. -/
theorem BC.elem (h : BC cs p l off q seed c ad) {i : Nat} (hi : i < 8) (y : ByteArray) : BC (cs.setIfInBounds (26 + i * 5 + 3) (.string y)) p l off q seed (updC c i { c i with elem := y }) ad := by
  have ho : ∀ j, j ≠ 26 + i * 5 + 3 → (cs.setIfInBounds (26 + i * 5 + 3) (.string y))[j]? = cs[j]? := fun j hj => getS (fun e => hj e.symm)
  have hz := h.size
  refine ⟨by simp [hz], ?_, ?_, ?_, ?_, ?_, ?_, ?_, ?_, ?_, ?_, ?_, ?_, ?_, ?_, ?_, fun j hj => ?_, ?_, ?_, ?_⟩
  · rw [ho _ (by omega)]; exact h.lk
  · rw [ho _ (by omega)]; exact h.le
  · rw [ho _ (by omega)]; exact h.orc
  · rw [ho _ (by omega)]; exact h.s0
  · rw [ho _ (by omega)]; exact h.s1
  · rw [ho _ (by omega)]; exact h.s2
  · rw [ho _ (by omega)]; exact h.s3
  · rw [ho _ (by omega)]; exact h.s4
  · rw [ho _ (by omega)]; exact h.s5
  · rw [ho _ (by omega)]; exact h.s6
  · rw [ho _ (by omega)]; exact h.s7
  · rw [ho _ (by omega)]; exact h.s8
  · rw [ho _ (by omega)]; exact h.s9
  · rw [ho _ (by omega)]; exact h.s10
  · rw [ho _ (by omega)]; exact h.sd
  · obtain ⟨a0, a1, a2, a3, a4⟩ := h.cell j hj
    by_cases e : j = i
    · subst e
      have e2 : updC c j { c j with elem := y } j = { c j with elem := y } := by unfold updC; rw [if_pos rfl]
      rw [e2]
      refine ⟨?_, ?_, ?_, ?_, ?_⟩
      · rw [ho _ (by omega)]; exact a0
      · rw [ho _ (by omega)]; exact a1
      · rw [ho _ (by omega)]; exact a2
      · rw [getT (by omega)]
      · rw [ho _ (by omega)]; exact a4
    · have e2 : updC c i { c i with elem := y } j = c j := by unfold updC; rw [if_neg e]
      rw [e2, ho _ (by omega), ho _ (by omega), ho _ (by omega), ho _ (by omega), ho _ (by omega)]
      exact ⟨a0, a1, a2, a3, a4⟩
  · rw [ho _ (by omega)]; exact h.ad
  · rw [ho _ (by omega)]; exact h.a0
  · rw [ho _ (by omega)]; exact h.lg
theorem BC.added (h : BC cs p l off q seed c ad) (n : Int) : BC (cs.setIfInBounds 66 (.int .i64 n)) p l off q seed c n := by
  have ho : ∀ j, j ≠ 66 → (cs.setIfInBounds 66 (.int .i64 n))[j]? = cs[j]? := fun j hj => getS (fun e => hj e.symm)
  have hz := h.size
  refine ⟨by simp [hz], ?_, ?_, ?_, ?_, ?_, ?_, ?_, ?_, ?_, ?_, ?_, ?_, ?_, ?_, ?_, fun j hj => ?_, getT (by omega), ?_, ?_⟩
  · rw [ho _ (by omega)]; exact h.lk
  · rw [ho _ (by omega)]; exact h.le
  · rw [ho _ (by omega)]; exact h.orc
  · rw [ho _ (by omega)]; exact h.s0
  · rw [ho _ (by omega)]; exact h.s1
  · rw [ho _ (by omega)]; exact h.s2
  · rw [ho _ (by omega)]; exact h.s3
  · rw [ho _ (by omega)]; exact h.s4
  · rw [ho _ (by omega)]; exact h.s5
  · rw [ho _ (by omega)]; exact h.s6
  · rw [ho _ (by omega)]; exact h.s7
  · rw [ho _ (by omega)]; exact h.s8
  · rw [ho _ (by omega)]; exact h.s9
  · rw [ho _ (by omega)]; exact h.s10
  · rw [ho _ (by omega)]; exact h.sd
  · obtain ⟨a0, a1, a2, a3, a4⟩ := h.cell j hj
    rw [ho _ (by omega), ho _ (by omega), ho _ (by omega), ho _ (by omega), ho _ (by omega)]
    exact ⟨a0, a1, a2, a3, a4⟩
  · rw [ho _ (by omega)]; exact h.a0
  · rw [ho _ (by omega)]; exact h.lg
theorem BN.elem (h : BN b p l off q seed c ad W) {i : Nat} (hi : i < 8) (y : ByteArray) : BN b p l off q seed (updC c i { c i with elem := y }) ad (W.setCell ⟨b, 26 + i * 5 + 3, none⟩ (.string y)) := by
  obtain ⟨cs, h1, h2⟩ := h
  exact ⟨_, setA h1 _ _, h2.elem hi y⟩
theorem BN.put (h : BN b p l off q seed c ad W) {i : Nat} (hi : i < 8) (x : GC) : BN b p l off q seed (updC c i x) ad (((((W.setCell ⟨b, 26 + i * 5, none⟩ (.int .i64 x.kind)).setCell ⟨b, 26 + i * 5 + 1, none⟩ (.int .i64 x.tag)).setCell ⟨b, 26 + i * 5 + 2, none⟩ (.string x.key)).setCell ⟨b, 26 + i * 5 + 3, none⟩ (.string x.elem)).setCell ⟨b, 26 + i * 5 + 4, none⟩ (.int .i64 x.birth)) := by
  obtain ⟨cs, h1, h2⟩ := h
  exact ⟨_, setA (setA (setA (setA (setA h1 _ _) _ _) _ _) _ _) _ _, h2.put hi x⟩
theorem BN.added (h : BN b p l off q seed c ad W) (n : Int) : BN b p l off q seed c n (W.setCell ⟨b, 66, none⟩ (.int .i64 n)) := by
  obtain ⟨cs, h1, h2⟩ := h
  exact ⟨_, setA h1 _ _, h2.added n⟩
theorem BN.frozen (h : BN b p l off q seed c ad W) (j : Nat) : W.frozen? ⟨b, j, none⟩ = false := by
  obtain ⟨cs, h1, -⟩ := h
  simp [World.frozen?, h1]
end
section
variable {hd : Int × Int × Int × Nat} {w0 : World} {b p : Nat} {l : Lay} {off q m nm seed : Nat} {X : Nat → Prop} {g : List UInt8 → Option Nat} {d d' : AD} {f f' : Nat → Int} {c c' cb cb' : Nat → GC} {ad ad' : Int} {W W' : World}
/-- The arena has turned: the small one's cells are others, the Bench stands. -/
theorem SB.turn (h : SB hd w0 b p l off q m nm seed X g d f c cb ad W) (ht : Turned W W' p (fun k => (w0.heap.size ≤ k ∧ ¬ X k) ∧ k < W.heap.size) d') (hto : Touch d d' off (32 + l.g.toNat)) (hs : SmD d' l off f' c') (h0 : f' 0 = hd.1) (h1 : f' 1 = hd.2.1) (h2 : f' 2 = hd.2.2.1) (h3 : f' 3 = ((cntF c' 8 : Nat) : Int)) (htg : ∀ i, i < 8 → (c' i).kind = 2 → (c' i).tag = ((tagF g seed (c' i).key : Nat) : Int)) (hk : ∀ i, i < 8 → c' i = GC.zero ∨ (c' i).kind = 2) : SB hd w0 b p l off q m nm seed X g d' f' c' cb ad W' := by
  have hx : ∀ k, X k → ¬ ((w0.heap.size ≤ k ∧ ¬ X k) ∧ k < W.heap.size) := fun k hk e => e.1.2 hk
  exact ⟨h.own.turn ht h.xl, hto.fine h.fine, hto.small h.sml, hs, h.bn.keeps ht.2 (hx b h.xb), orc_keeps h.orc ht.2 (hx q h.xq) (hx m h.xm), h.xb, h.xq, h.xm, fun i hi => Nat.lt_of_lt_of_le (h.xl i hi) ht.2.size, h0, h1, h2, h3, htg, hk, h.one.touch hto⟩
/-- The Bench's block has turned, nothing else. -/
theorem SB.bench (h : SB hd w0 b p l off q m nm seed X g d f c cb ad W) (k : Keeps W W' (fun i => i = b)) (hb : BN b p l off q seed cb' ad' W') (hqb : q ≠ b) (hmb : m ≠ b) (hw : w0.heap.size ≤ b) : SB hd w0 b p l off q m nm seed X g d f c cb' ad' W' :=
  ⟨⟨h.own.arena.keeps k (fun i _ hi e => hi.2 (by rw [e]; exact h.xb)), h.own.keeps.trans k (fun i hi e => by omega)⟩, h.fine, h.sml, h.sm, hb, orc_keeps h.orc k hqb hmb, h.xb, h.xq, h.xm, fun i hi => Nat.lt_of_lt_of_le (h.xl i hi) k.size, h.f0, h.f1, h.f2, h.f3, h.tags, h.kinds, h.one⟩
theorem SB.findEq (h : SB hd w0 b p l off q m nm seed X g d f c cb ad W) (key : ByteArray) : low (mtC c ((tagF g seed key : Nat) : Int) key) 8 = low (mkC c key) 8 := low_congr (fun i hi => by
  unfold mtC mkC
  refine decide_eq_decide.2 ⟨fun e => ⟨e.1, e.2.2⟩, fun e => ⟨e.1, ?_, e.2⟩⟩
  rw [h.tags i hi e.1, e.2]) 8 (Nat.le_refl _)
theorem SB.emp (h : SB hd w0 b p l off q m nm seed X g d f c cb ad W) : empL c = low (vcC c) 8 := low_congr (fun i hi => by
  unfold vcC
  refine decide_eq_decide.2 ⟨fun e => by rw [e]; decide, fun e => ?_⟩
  rcases h.kinds i hi with q | q
  · rw [q]; rfl
  · exact absurd q e) 8 (Nat.le_refl _)
end
end Go.Proofs.YtgckinldnnckoaaGreatDoor
