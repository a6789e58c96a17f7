import Derived.Test.YtdhphakjkgfngaaGreatDoorGn10
/-
  Widen of dir (made by gendr7.py).
-/
namespace Go.Proofs.YtdhphakjkgfngaaGreatDoor
open Go.RowKit Go.Shelf
set_option linter.unusedVariables false

abbrev set3 (w : World) (b : Nat) (v0 v1 v2 : Value) : World := ((w.setCell ⟨b, 0, none⟩ v0).setCell ⟨b, 1, none⟩ v1).setCell ⟨b, 2, none⟩ v2
theorem set3_keeps (w : World) (b : Nat) (v0 v1 v2 : Value) : Keeps w (set3 w b v0 v1 v2) (fun i => i = b) :=
  (((Keeps.refl w (fun i => i = b)).setCell _ (fun _ => rfl) _).setCell _ (fun _ => rfl) _).setCell _ (fun _ => rfl) _
theorem c3_set3 {W : World} {b bl p off D : Nat} {x0 x1 x2 : Value} (hne : ¬ b = bl) (h : C3 W b p off D) : C3 (set3 W bl x0 x1 x2) b p off D := c3_keeps (set3_keeps W bl x0 x1 x2) hne h
theorem c6_set3 {W : World} {b b2 bl p off D o2 D2 : Nat} {x0 x1 x2 : Value} (hne : ¬ b = bl) (hne2 : ¬ b2 = bl) (h : C3 W b p off D ∧ C3 W b2 p o2 D2) : C3 (set3 W bl x0 x1 x2) b p off D ∧ C3 (set3 W bl x0 x1 x2) b2 p o2 D2 := ⟨c3_set3 hne h.1, c3_set3 hne2 h.2⟩
theorem c3_alloc {W : World} {b p off D : Nat} (h : C3 W b p off D) (o : Obj) : C3 (W.alloc o) b p off D := c3_keeps ((Keeps.refl W (fun _ => False)).alloc o) id h
theorem heap_new_drew (w : World) (o : Obj) : ((w.alloc o).drew).heap[w.heap.size]? = some o := heap_alloc_new w o
theorem heap_alloc_old {w : World} {b : Nat} {x : Obj} (h : w.heap[b]? = some x) (o : Obj) : (w.alloc o).heap[b]? = some x := (Below.heap_alloc w o b (heap_lt h)).trans h
theorem Keeps.blkF {w w1 : World} {S : Nat → Prop} (h : Keeps w w1 S) {b : Nat} {x : Obj} (hb : w.heap[b]? = some x) (hS : ¬ S b) : w1.heap[b]? = some x := (h.block b (heap_lt hb) hS).trans hb

theorem set3_any {w : World} {b : Nat} {u0 u1 u2 v0 v1 v2 : Value} {t : TypeId} (h : w.heap[b]? = some (.cells #[u0, u1, u2] t)) {P : World → Prop} (hP : ∀ W, W.heap[b]? = some (.cells #[v0, v1, v2] t) → Keeps w W (fun i => i = b) → P W) : P (set3 w b v0 v1 v2) :=
  three_set h (Keeps.refl w (fun i => i = b)) (fun _ => rfl) fun W h9 k9 _ _ => hP W h9 k9
/-- A directory that is freed leaves another one as it is. -/
theorem DirD.gone {d d' : AD} {off o : Nat} {ts : List Int} (h : DirD d off ts) (hg : Gone d (o : Int) d') (hne : off ≠ o) : DirD d' off ts := by
  obtain ⟨c, h1, h2, h3⟩ := h.blk
  refine ⟨⟨c, by rw [hg.L]; exact h1, by rw [hg.lv]; unfold upd; rw [if_neg (by omega)]; exact h2, h3⟩, fun i hi => by rw [hg.bs]; exact h.ent i hi⟩

set_option maxRecDepth 100000 in
set_option maxHeartbeats 4000000 in
theorem dwiden_room {w w1 : World} {p : Nat} {X : Nat → Prop} {d : AD} {off D : Nat} {ts : List Int} (h : DirO w w1 p X d off D ts) (hD : D < 6) (hr : d.limit < d.used + classN (16 * ts.length)) :
    Calls Tryz.prog 14 #[.agg #[.pointer (some ⟨p, 0, none⟩), .int .i64 (off : Int), .int .i64 (D : Int)]] w1 fun e w' => e = .returned (.tuple #[.agg #[.pointer none, .int .i64 0, .int .i64 0], .int .i64 22]) ∧ Keeps w1 w' (fun _ => False) := by
  have hn2 : ¬ depI (2 * ts.length) < 0 := by
    rw [h.len, show 2 * 2 ^ D = 2 ^ (D + 1) by rw [Nat.pow_succ, Nat.mul_comm], depI_pow (D + 1) (by omega)]
    omega
  have hN : ∀ W, Keeps w1 W (fun _ => False) → ∀ b, w1.heap.size ≤ b → b < W.heap.size → InZ W (.slice (some ⟨b, 0, none⟩) (2 * ts.length) (2 * ts.length)) (dbl ts) → Calls Tryz.prog 11 #[.pointer (some ⟨p, 0, none⟩), .slice (some ⟨b, 0, none⟩) (2 * ts.length) (2 * ts.length)] W fun e w' => e = .returned (.tuple #[.agg #[.pointer none, .int .i64 0, .int .i64 0], .int .i64 22]) ∧ Keeps W w' (fun k => (w.heap.size ≤ k ∧ ¬ X k) ∧ k < w1.heap.size) ∧ Keeps W w' (fun _ => False) := fun W k b _ _ _ => (dnew_room (h.own.stay k) h.fine (2 * ts.length) _ _ hn2 (by rw [show 8 * (2 * ts.length) = 16 * ts.length by omega]; exact hr)).mono (fun e w' q => ⟨q.1, q.2.mono (fun _ _ e => e.elim), q.2⟩)
  have hFn : ∀ k, w1.heap.size ≤ k → ¬ (fun k => (w.heap.size ≤ k ∧ ¬ X k) ∧ k < w1.heap.size) k := fun k q e => by have := e.2; omega
  clear hr hn2
  have hV := fun W => dvalid_any p off D W (by omega)
  have hE := fun W => dentries_any p off D W (by omega)
  have hlen := h.len
  rw [← hlen] at hE
  obtain ⟨l1, l2, l3⟩ := h.low
  have hL := fun W (k : Keeps w1 W (fun _ => False)) => dlist_any (h.stay k) 0 ts.length (by omega)
  obtain ⟨c, hc1, hc2, hc3⟩ := h.dir.blk
  have hS := fun W (k : Keeps w1 W (fun _ => False)) => let ⟨A, hA, _⟩ := (h.own.stay k).arena; size_any hA (off : Int) (fitsI_mk (by omega) (by omega))
  rw [hc2] at hS
  have h6 : ((D : Int) == 6) = false := by simp; omega
  rw [List.drop_zero, List.take_length, show ((0 : Nat) : Int) = 0 from rfl] at hL
  simp only [Option.getD_some, Option.isSome_some, if_true] at hS
  have hTw := fun W (v : Value) (q : InZ W v ts) => twice_any q (by omega)
  clear hc1 hc2 hc3 hlen h
  go_enter Tryz.func14, Tryz.ntmps14
  go_wp2_with fail
  refine alloc2 (P := fun W => Calls _ _ _ W _) fun W0 hb hr hz K0 => ?_
  (with_reducible refine (hV _).mono ?_)
  rintro e w2 ⟨rfl, k2⟩
  have B2 := k2.blk hb
  have R2 := k2.blk hr
  have K2 : Keeps w1 w2 (fun _ => False) := K0.trans k2 (fun _ _ e => e)
  obtain ⟨⟨c0, c1, c2⟩, -⟩ := three_cells B2
  clear hV k2 hb hr
  go_wp2_with fail
  have C1 : C3 w2 w1.heap.size p off D := ⟨c0, c1, c2⟩
  go_region_held3 (fun w' => w'.cell? ⟨w1.heap.size, 0, none⟩ = some (.pointer (some ⟨p, 0, none⟩)) ∧ w'.cell? ⟨w1.heap.size, 1, none⟩ = some (.int .i64 (off : Int)) ∧ w'.cell? ⟨w1.heap.size, 2, none⟩ = some (.int .i64 (D : Int))) (first | exact c3_drew C1 | exact c3_keeps kE id (by assumption) | exact c3_keeps kL id (by assumption) | assumption)
    (first | (go_at_call 20; (with_reducible refine (hE _).mono ?_); rintro r wE ⟨rfl, kE⟩) | (go_at_call 29; have K3 : Keeps w1 wE (fun _ => False) := (K2.drew).trans kE (fun _ _ e => e); (with_reducible refine (hL _ K3).mono ?_); rintro r wL ⟨v, rfl, hIn, kL⟩))
  have K4 : Keeps w1 wL (fun _ => False) := K3.trans kL (fun _ _ e => e)
  have BL := (((Keeps.refl w2 (fun _ => False)).drew.trans kE (fun _ _ e => e)).trans kL (fun _ _ e => e)).blk B2
  have RL := (((Keeps.refl w2 (fun _ => False)).drew.trans kE (fun _ _ e => e)).trans kL (fun _ _ e => e)).blk R2
  have hsz2 : w1.heap.size + 1 < wL.heap.size := heap_lt RL
  clear c0 c1 c2 C1 B2 R2 hE hL kE kL K2 K3
  obtain ⟨⟨c0, c1, c2⟩, -⟩ := three_cells BL
  have hS4 := hS wL K4
  clear hS
  go_wp2_with fail
  (with_reducible refine hS4.mono ?_)
  rintro e w5 ⟨rfl, rfl⟩
  clear hS4
  go_wp2_with fail
  have C1 : C3 w5 w1.heap.size p off D := ⟨c0, c1, c2⟩
  have hT2 : ∀ W b, Keeps w5 W (fun _ => False) → W.heap.size = b → Calls Tryz.prog 31 #[v] W fun e w' => e = .returned (.slice (some ⟨b, 0, none⟩) (2 * ts.length) (2 * ts.length)) ∧ InZ w' (.slice (some ⟨b, 0, none⟩) (2 * ts.length) (2 * ts.length)) (dbl ts) ∧ Keeps W w' (fun _ => False) ∧ b < w'.heap.size := fun W b k hb => by subst hb; exact hTw W v (hIn.keeps k)
  clear c0 c1 c2 hTw
  have kD : Keeps w5 w5.drew (fun _ => False) := (Keeps.refl w5 (fun _ => False)).drew
  go_region_held3 (fun w' => w'.cell? ⟨w1.heap.size, 0, none⟩ = some (.pointer (some ⟨p, 0, none⟩)) ∧ w'.cell? ⟨w1.heap.size, 1, none⟩ = some (.int .i64 (off : Int)) ∧ w'.cell? ⟨w1.heap.size, 2, none⟩ = some (.int .i64 (D : Int))) (first | with_reducible exact c3_set3 hne.out (by with_reducible assumption) | with_reducible assumption | with_reducible exact c3_drew C1 | with_reducible exact c3_drew (c3_alloc C1 _) | with_reducible exact c3_keeps kT id (by with_reducible assumption) | with_reducible exact c3_keeps kN (hFn _ (Nat.le_refl _)) (by with_reducible assumption) | with_reducible exact c3_alloc (by with_reducible assumption) _ | with_reducible exact c3_alloc (c3_keeps kN (hFn _ (Nat.le_refl _)) (c3_keeps kT id (c3_drew C1))) _)
    (first | (go_at_call 31; (with_reducible refine (hT2 _ w5.heap.size kD rfl).mono ?_); rintro r wT ⟨rfl, hI2, kT, hsT⟩) | (go_at_call 31; (with_reducible refine (hT2 _ (w5.heap.size + 1) (((Keeps.refl w5 (fun _ => False)).alloc _).drew) (by simp)).mono ?_); rintro r wT ⟨rfl, hI2, kT, hsT⟩) | (go_at_call 11; have hq := kT.blk (heap_new_drew _ _); have KT : Keeps w1 wT (fun _ => False) := ((K4.alloc _).drew).trans kT (fun _ _ e => e); (with_reducible refine (hN _ KT _ (by omega) hsT hI2).mono ?_); rintro r wN ⟨rfl, kN, G⟩; have hbl := kN.blkF hq (hFn _ (by omega)); obtain ⟨⟨a0, a1, a2⟩, f0, f1, f2⟩ := three_cells hbl; have hne : Hid (¬ w1.heap.size = w5.heap.size) := hide (by omega); replace hbl := hide hbl) | (go_at_call 11; have KT : Keeps w1 wT (fun _ => False) := (K4.drew).trans kT (fun _ _ e => e); (with_reducible refine (hN (wT.alloc _) (KT.alloc _) _ (by omega) (by simp; omega) (hI2.keeps ((Keeps.refl wT (fun _ => False)).alloc _))).mono ?_); rintro r wN ⟨rfl, kN, G⟩; have hsz5 := kT.size; have hbl := kN.blkF (heap_alloc_new wT _) (hFn _ (Nat.le_trans (Nat.le_of_lt (Nat.lt_of_succ_lt hsz2)) (show w5.heap.size ≤ wT.heap.size from hsz5))); obtain ⟨⟨a0, a1, a2⟩, f0, f1, f2⟩ := three_cells hbl; have hne : Hid (¬ w1.heap.size = wT.heap.size) := hide (Nat.ne_of_lt (Nat.lt_of_lt_of_le (Nat.lt_of_succ_lt hsz2) (show w5.heap.size ≤ wT.heap.size from hsz5))); replace hbl := hide hbl) | (go_at_call 11; have KT : Keeps w1 wT (fun _ => False) := (K4.drew).trans kT (fun _ _ e => e); (with_reducible refine (hN _ KT _ (by omega) hsT hI2).mono ?_); rintro r wN ⟨rfl, kN, G⟩))
  · refine alloc1 (P := fun W => Exit.then _ _ _ _ W) fun WL hl hz9 K9 => ?_
    have KW : Keeps w5 WL (fun _ => False) := (((kD.trans kT (fun _ _ e => e))).trans G (fun _ _ e => e)).trans (K9) (fun _ _ e => e.elim)
    have RW := KW.blk RL
    clear hT2 hN hFn kT kN G
    obtain ⟨⟨x0, x1, x2⟩, g0, g1, g2⟩ := three_cells RW
    have KQ : Keeps w1 WL (fun _ => False) := K4.trans KW (fun _ _ e => e)
    go_wp2_with fail
    refine three_set RW KQ (fun h => by omega) (P := fun w9 => bodyPost _ _ _ _ _ w9) fun w9 h9 k9 _ _ => ?_
    obtain ⟨⟨d0, d1, d2⟩, -⟩ := three_cells h9
    exact bodyPost_ret (v := .tuple #[.agg #[.pointer none, .int .i64 0, .int .i64 0], .int .i64 22]) (by simp [results, Tryz.results14, go_sem, d0, d1, d2]) rfl ⟨rfl, k9⟩
  · have hsz5 : w5.heap.size ≤ wT.heap.size := kT.size
    refine set3_any hbl.out (P := fun W => Exit.then _ _ _ _ W) fun WL hl K9 => ?_
    have KW : Keeps w5 WL (fun _ => False) := ((((kD.trans kT (fun _ _ e => e)).alloc _)).trans G (fun _ _ e => e)).trans K9 (fun i hi e => by omega)
    have RW := KW.blk RL
    clear hT2 hN hFn kT kN G
    obtain ⟨⟨x0, x1, x2⟩, g0, g1, g2⟩ := three_cells RW
    have KQ : Keeps w1 WL (fun _ => False) := K4.trans KW (fun _ _ e => e)
    go_wp2_with fail
    refine three_set RW KQ (fun h => by omega) (P := fun w9 => bodyPost _ _ _ _ _ w9) fun w9 h9 k9 _ _ => ?_
    obtain ⟨⟨d0, d1, d2⟩, -⟩ := three_cells h9
    exact bodyPost_ret (v := .tuple #[.agg #[.pointer none, .int .i64 0, .int .i64 0], .int .i64 22]) (by simp [results, Tryz.results14, go_sem, d0, d1, d2]) rfl ⟨rfl, k9⟩
  · refine set3_any hbl.out (P := fun W => Exit.then _ _ _ _ W) fun WL hl K9 => ?_
    have KW : Keeps w5 WL (fun _ => False) := (((((Keeps.refl w5 (fun _ => False)).alloc _).drew.trans kT (fun _ _ e => e))).trans G (fun _ _ e => e)).trans K9 (fun i hi e => by omega)
    have RW := KW.blk RL
    clear hT2 hN hFn kT kN G
    obtain ⟨⟨x0, x1, x2⟩, g0, g1, g2⟩ := three_cells RW
    have KQ : Keeps w1 WL (fun _ => False) := K4.trans KW (fun _ _ e => e)
    go_wp2_with fail
    refine three_set RW KQ (fun h => by omega) (P := fun w9 => bodyPost _ _ _ _ _ w9) fun w9 h9 k9 _ _ => ?_
    obtain ⟨⟨d0, d1, d2⟩, -⟩ := three_cells h9
    exact bodyPost_ret (v := .tuple #[.agg #[.pointer none, .int .i64 0, .int .i64 0], .int .i64 22]) (by simp [results, Tryz.results14, go_sem, d0, d1, d2]) rfl ⟨rfl, k9⟩

/-- What Widen leaves. -/
def WidenPost (w w1 : World) (p : Nat) (X : Nat → Prop) (d : AD) (off D : Nat) (ts : List Int) (e : Ending) (w' : World) : Prop :=
  ∃ (o2 : Nat) (d1 d2 d3 : AD), e = .returned (.tuple #[.agg #[.pointer (some ⟨p, 0, none⟩), .int .i64 (o2 : Int), .int .i64 (((D + 1 : Nat)) : Int)], .int .i64 0]) ∧ TookB d d1 o2 (classN (16 * ts.length)) ∧ Wr d1 d2 o2 (16 * ts.length) ∧ Gone d2 (off : Int) d3 ∧ DirO w w' p X d3 o2 (D + 1) (dbl ts) ∧ Keeps w1 w' (fun k => (w.heap.size ≤ k ∧ ¬ X k) ∧ k < w1.heap.size)
def NewIn (w w1 W : World) (p : Nat) (X : Nat → Prop) (d : AD) (D o2 : Nat) (ts : List Int) (w' : World) : Prop :=
  ∃ d1 d2, TookB d d1 o2 (classN (16 * ts.length)) ∧ DirO w w' p (fun i => X i ∨ (w1.heap.size ≤ i ∧ i < W.heap.size)) d2 o2 (D + 1) (dbl ts) ∧ Wr d1 d2 o2 (16 * ts.length)
theorem new_in {w w1 : World} {p : Nat} {X : Nat → Prop} {d : AD} {off D : Nat} {ts : List Int} (h : DirO w w1 p X d off D ts) (hX : ∀ k, X k → k < w1.heap.size) (hT : TabAt w) (hD : D < 6) (hr : d.used + classN (16 * ts.length) ≤ d.limit) (W : World) (k : Keeps w1 W (fun _ => False)) (b : Nat) (hb1 : w1.heap.size ≤ b) (hb2 : b < W.heap.size) (hz : InZ W (.slice (some ⟨b, 0, none⟩) (2 * ts.length) (2 * ts.length)) (dbl ts)) :
    Calls Tryz.prog 11 #[.pointer (some ⟨p, 0, none⟩), .slice (some ⟨b, 0, none⟩) (2 * ts.length) (2 * ts.length)] W fun e w' => e = .returned (.tuple #[.agg #[.pointer (some ⟨p, 0, none⟩), .int .i64 (((listT d (classN (16 * ts.length))).1 : Nat) : Int), .int .i64 (((D + 1 : Nat)) : Int)], .int .i64 0]) ∧ Keeps W w' (fun k => (w.heap.size ≤ k ∧ ¬ X k) ∧ k < w1.heap.size) ∧ NewIn w w1 W p X d D (listT d (classN (16 * ts.length))).1 ts w' := by
  have hl := dbl_length ts
  have e16 : 8 * (2 * ts.length) = 16 * ts.length := by omega
  have hdep : depI (dbl ts).length = ((D + 1 : Nat) : Int) := by
    rw [hl, h.len, show 2 * 2 ^ D = 2 ^ (D + 1) by rw [Nat.pow_succ, Nat.mul_comm], depI_pow (D + 1) (by omega)]
  have hc := dnew_yes (h.own.own_more k) h.fine h.well (fun i hi => hi.elim (fun e => by have := hX i e; have := k.size; omega) (fun e => e.2)) hT _ (dbl ts) hz (fun i hi => Or.inr (Or.inr (by
    have e' : b = i := by simpa [Value.ownBlock] using hi
    subst e'
    exact ⟨hb1, hb2⟩))) (fun i hi => by rw [dbl_get hi]; exact h.fit _ _) (by rw [hdep]; omega) (by rw [hl, e16]; exact hr)
  refine hc.mono ?_
  rintro e w' ⟨D2, o2, d1, d2, hD2, ho2, rfl, hB, hD3, hW, k2⟩
  rw [hdep] at hD2
  obtain rfl : D + 1 = D2 := by exact_mod_cast hD2
  rw [hl, e16] at ho2 hB hW
  subst ho2
  exact ⟨rfl, k2.mono (fun i hi e => ⟨⟨e.1.1, fun q => e.1.2 (Or.inl q)⟩, Nat.lt_of_not_le fun q => e.1.2 (Or.inr ⟨q, hi⟩)⟩), d1, d2, hB, hD3, hW⟩

set_option maxRecDepth 100000 in
set_option maxHeartbeats 4000000 in
theorem dwiden_yes {w w1 : World} {p : Nat} {X : Nat → Prop} {d : AD} {off D : Nat} {ts : List Int} (h : DirO w w1 p X d off D ts) (hX : ∀ k, X k → k < w1.heap.size) (hT : TabAt w) (hD : D < 6) (hr : d.used + classN (16 * ts.length) ≤ d.limit) :
    Calls Tryz.prog 14 #[.agg #[.pointer (some ⟨p, 0, none⟩), .int .i64 (off : Int), .int .i64 (D : Int)]] w1 fun e w' => WidenPost w w1 p X d off D ts e w' := by
  have hN := new_in h hX hT hD hr
  generalize (listT d (classN (16 * ts.length))).1 = o2 at *
  have hFn : ∀ k, w1.heap.size ≤ k → ¬ (fun k => (w.heap.size ≤ k ∧ ¬ X k) ∧ k < w1.heap.size) k := fun k q e => by have := e.2; omega
  have HH := hide h
  obtain ⟨D2, hD2⟩ : ∃ D2, D2 = D + 1 := ⟨_, rfl⟩
  rw [← hD2] at hN
  have HD2 := hide hD2
  clear hr hD2
  have hV := fun W => dvalid_any p off D W (by omega)
  have hE := fun W => dentries_any p off D W (by omega)
  have hlen := h.len
  rw [← hlen] at hE
  obtain ⟨l1, l2, l3⟩ := h.low
  have hL := fun W (k : Keeps w1 W (fun _ => False)) => dlist_any (h.stay k) 0 ts.length (by omega)
  obtain ⟨c, hc1, hc2, hc3⟩ := h.dir.blk
  have hS := fun W (k : Keeps w1 W (fun _ => False)) => let ⟨A, hA, _⟩ := (h.own.stay k).arena; size_any hA (off : Int) (fitsI_mk (by omega) (by omega))
  rw [hc2] at hS
  have h6 : ((D : Int) == 6) = false := by simp; omega
  rw [List.drop_zero, List.take_length, show ((0 : Nat) : Int) = 0 from rfl] at hL
  simp only [Option.getD_some, Option.isSome_some, if_true] at hS
  have hTw := fun W (v : Value) (q : InZ W v ts) => twice_any q (by omega)
  clear hc1 hc2 hc3 hlen h
  go_enter Tryz.func14, Tryz.ntmps14
  go_wp2_with fail
  refine alloc2 (P := fun W => Calls _ _ _ W _) fun W0 hb hr hz K0 => ?_
  (with_reducible refine (hV _).mono ?_)
  rintro e w2 ⟨rfl, k2⟩
  have B2 := k2.blk hb
  have R2 := k2.blk hr
  have K2 : Keeps w1 w2 (fun _ => False) := K0.trans k2 (fun _ _ e => e)
  obtain ⟨⟨c0, c1, c2⟩, -⟩ := three_cells B2
  clear hV k2 hb hr
  go_wp2_with fail
  have C1 : C3 w2 w1.heap.size p off D := ⟨c0, c1, c2⟩
  go_region_held3 (fun w' => w'.cell? ⟨w1.heap.size, 0, none⟩ = some (.pointer (some ⟨p, 0, none⟩)) ∧ w'.cell? ⟨w1.heap.size, 1, none⟩ = some (.int .i64 (off : Int)) ∧ w'.cell? ⟨w1.heap.size, 2, none⟩ = some (.int .i64 (D : Int))) (first | exact c3_drew C1 | exact c3_keeps kE id (by assumption) | exact c3_keeps kL id (by assumption) | assumption)
    (first | (go_at_call 20; (with_reducible refine (hE _).mono ?_); rintro r wE ⟨rfl, kE⟩) | (go_at_call 29; have K3 : Keeps w1 wE (fun _ => False) := (K2.drew).trans kE (fun _ _ e => e); (with_reducible refine (hL _ K3).mono ?_); rintro r wL ⟨v, rfl, hIn, kL⟩))
  have K4 : Keeps w1 wL (fun _ => False) := K3.trans kL (fun _ _ e => e)
  have BL := (((Keeps.refl w2 (fun _ => False)).drew.trans kE (fun _ _ e => e)).trans kL (fun _ _ e => e)).blk B2
  have RL := (((Keeps.refl w2 (fun _ => False)).drew.trans kE (fun _ _ e => e)).trans kL (fun _ _ e => e)).blk R2
  have hsz2 : w1.heap.size + 1 < wL.heap.size := heap_lt RL
  clear c0 c1 c2 C1 B2 R2 hE hL kE kL K2 K3
  obtain ⟨⟨c0, c1, c2⟩, -⟩ := three_cells BL
  have hS4 := hS wL K4
  clear hS
  go_wp2_with fail
  (with_reducible refine hS4.mono ?_)
  rintro e w5 ⟨rfl, rfl⟩
  clear hS4
  go_wp2_with fail
  have C1 : C3 w5 w1.heap.size p off D := ⟨c0, c1, c2⟩
  have hT2 : ∀ W b, Keeps w5 W (fun _ => False) → W.heap.size = b → Calls Tryz.prog 31 #[v] W fun e w' => e = .returned (.slice (some ⟨b, 0, none⟩) (2 * ts.length) (2 * ts.length)) ∧ InZ w' (.slice (some ⟨b, 0, none⟩) (2 * ts.length) (2 * ts.length)) (dbl ts) ∧ Keeps W w' (fun _ => False) ∧ b < w'.heap.size := fun W b k hb => by subst hb; exact hTw W v (hIn.keeps k)
  clear c0 c1 c2 hTw
  have kD : Keeps w5 w5.drew (fun _ => False) := (Keeps.refl w5 (fun _ => False)).drew
  go_region_held3 (fun w' => w'.cell? ⟨w1.heap.size, 0, none⟩ = some (.pointer (some ⟨p, 0, none⟩)) ∧ w'.cell? ⟨w1.heap.size, 1, none⟩ = some (.int .i64 (off : Int)) ∧ w'.cell? ⟨w1.heap.size, 2, none⟩ = some (.int .i64 (D : Int))) (first | with_reducible exact c3_set3 hne.out (by with_reducible assumption) | with_reducible assumption | with_reducible exact c3_drew C1 | with_reducible exact c3_drew (c3_alloc C1 _) | with_reducible exact c3_keeps kT id (by with_reducible assumption) | with_reducible exact c3_keeps kN (hFn _ (Nat.le_refl _)) (by with_reducible assumption) | with_reducible exact c3_alloc (by with_reducible assumption) _ | with_reducible exact c3_alloc (c3_keeps kN (hFn _ (Nat.le_refl _)) (c3_keeps kT id (c3_drew C1))) _)
    (first | (go_at_call 31; (with_reducible refine (hT2 _ w5.heap.size kD rfl).mono ?_); rintro r wT ⟨rfl, hI2, kT, hsT⟩) | (go_at_call 31; (with_reducible refine (hT2 _ (w5.heap.size + 1) (((Keeps.refl w5 (fun _ => False)).alloc _).drew) (by simp)).mono ?_); rintro r wT ⟨rfl, hI2, kT, hsT⟩) | (go_at_call 11; have hq := kT.blk (heap_new_drew _ _); have KT : Keeps w1 wT (fun _ => False) := ((K4.alloc _).drew).trans kT (fun _ _ e => e); (with_reducible refine (hN _ KT _ (by omega) hsT hI2).mono ?_); rintro r wN ⟨rfl, kN, G⟩; have hbl := kN.blkF hq (hFn _ (by omega)); obtain ⟨⟨a0, a1, a2⟩, f0, f1, f2⟩ := three_cells hbl; have hne : Hid (¬ w1.heap.size = w5.heap.size) := hide (by omega); replace hbl := hide hbl) | (go_at_call 11; have KT : Keeps w1 wT (fun _ => False) := (K4.drew).trans kT (fun _ _ e => e); (with_reducible refine (hN (wT.alloc _) (KT.alloc _) _ (by omega) (by simp; omega) (hI2.keeps ((Keeps.refl wT (fun _ => False)).alloc _))).mono ?_); rintro r wN ⟨rfl, kN, G⟩; have hsz5 := kT.size; have hbl := kN.blkF (heap_alloc_new wT _) (hFn _ (Nat.le_trans (Nat.le_of_lt (Nat.lt_of_succ_lt hsz2)) (show w5.heap.size ≤ wT.heap.size from hsz5))); obtain ⟨⟨a0, a1, a2⟩, f0, f1, f2⟩ := three_cells hbl; have hne : Hid (¬ w1.heap.size = wT.heap.size) := hide (Nat.ne_of_lt (Nat.lt_of_lt_of_le (Nat.lt_of_succ_lt hsz2) (show w5.heap.size ≤ wT.heap.size from hsz5))); replace hbl := hide hbl) | (go_at_call 11; have KT : Keeps w1 wT (fun _ => False) := (K4.drew).trans kT (fun _ _ e => e); (with_reducible refine (hN _ KT _ (by omega) hsT hI2).mono ?_); rintro r wN ⟨rfl, kN, G⟩))
  · refine alloc1 (P := fun W => Exit.then _ _ _ _ W) fun WL hl hz9 K9 => ?_
    have KW : Keeps w5 WL (fun k => (w.heap.size ≤ k ∧ ¬ X k) ∧ k < w1.heap.size) := (((kD.trans kT (fun _ _ e => e)).mono (fun _ _ e => e.elim)).trans kN (fun i hi e => e)).trans (K9) (fun _ _ e => e.elim)
    obtain ⟨d1, d2, hB, hDN, hWr⟩ := G
    have hO : DirO w WL p (fun k => X k ∨ k = w1.heap.size ∨ k = w1.heap.size + 1 ∨ k = wN.heap.size) d2 o2 (D + 1) (dbl ts) := by
      have s5 : w5.heap.size ≤ wT.heap.size := kT.size
      have sN := kN.size
      refine (hDN.grow K9).less (fun k e => ?_)
      rcases e with e | e | e | e
      · exact Or.inl (Or.inl e)
      · exact Or.inl (Or.inr (by omega))
      · exact Or.inl (Or.inr (by omega))
      · exact Or.inr (by omega)
    have RW := KW.blkF RL (hFn _ (Nat.le_succ _))
    have BW := KW.blkF BL (hFn _ (Nat.le_refl _))
    obtain ⟨cb, hb1, hb2, hb3⟩ := (HH.out.dir.took HH.out.fine hB).1.blk
    have hlv : d2.lv (off : Int) = some (cb : Int) := by rw [hWr.same.2.1]; exact hb2
    have hYlt : ∀ k, (X k ∨ k = w1.heap.size ∨ k = w1.heap.size + 1 ∨ k = wN.heap.size) → k < WL.heap.size := fun k hk => by
      have q1 := heap_lt BW
      have q2 := heap_lt RW
      have q3 := heap_lt hl
      rcases hk with e | e | e | e
      · have := hX k e
        omega
      · omega
      · omega
      · omega
    have hFr := dfree_any (hO.own.stay (Keeps.refl WL (fun _ => False)).drew) hO.fine off D cb hlv hYlt
    have C6 : C3 WL w1.heap.size p off D ∧ C3 WL wN.heap.size p o2 D2 := ⟨c3_of BW, c3_of hl⟩
    have S6 : C3 WL.drew w1.heap.size p off D ∧ C3 WL.drew wN.heap.size p o2 D2 := ⟨c3_drew C6.1, c3_drew C6.2⟩
    have HP : Hid (∀ w9 w', DFreePost w WL.drew p (fun k => X k ∨ k = w1.heap.size ∨ k = w1.heap.size + 1 ∨ k = wN.heap.size) d2 off (.returned (.int .i64 0)) w9 → Keeps w9 w' (fun i => i = w1.heap.size + 1) → WidenPost w w1 p X d off D ts (.returned (.tuple #[.agg #[.pointer (some ⟨p, 0, none⟩), .int .i64 (o2 : Int), .int .i64 (D2 : Int)], .int .i64 0])) w') := fun w9 w' hpost k9 => by
      obtain ⟨-, d3, hg, ho3, k3⟩ := hpost
      have hne := (HH.out.dir.took HH.out.fine hB).2
      have hsw := HH.out.own.keeps.size
      have o4 : Own w w' p X d3 := (ho3.kept k9 (fun i e => Or.inr (Or.inr (Or.inl e))) (fun i e => by omega)).less (fun i _ _ e => Or.inl e)
      refine ⟨o2, d1, d2, d3, by rw [HD2.out], hB, hWr, hg, ⟨o4, hO.fine.gone hg, hO.well.gone hO.fine hg, hO.dir.gone hg hne, hO.len, hO.dep, hO.fit⟩, ?_⟩
      exact ((((K4.mono (fun _ _ e => e.elim)).trans KW (fun i hi e => e)).trans ((Keeps.refl WL (fun _ => False)).drew.mono (fun _ _ e => e.elim)) (fun i hi e => e)).trans k3 (fun i hi e => ⟨⟨e.1.1, fun q => e.1.2 (Or.inl q)⟩, hi⟩)).trans k9 (fun i hi e => by omega)
    have hsz5w : w1.heap.size + 1 < WL.heap.size := heap_lt RW
    have hx1 : Hid (¬ w1.heap.size = w1.heap.size + 1) := hide (by omega)
    have hx2 : Hid (¬ wN.heap.size = w1.heap.size + 1) := hide (fun e => (show w1.heap.size + 1 ≠ wN.heap.size from (by have s5 : w5.heap.size ≤ wT.heap.size := kT.size; have sN := kN.size; omega)) e.symm)
    have hRW : WL.drew.heap[w1.heap.size + 1]? = some (.cells #[.pointer none, .int .i64 0, .int .i64 0] 26) := RW
    have H1 := hide (And.intro hB (And.intro hWr hO))
    clear hT2 hN hFn kT kN hB hWr hO hlv hb1 hb2 hb3 KW BW hl
    go_wp2_with fail
    go_region_held3 (fun w' => C3 w' w1.heap.size p off D ∧ C3 w' wN.heap.size p o2 D2) (first | with_reducible assumption | with_reducible exact S6 | with_reducible exact c6_set3 hx1.out hx2.out (by with_reducible assumption))
      (first | (go_at_call 32; (with_reducible refine hFr.mono ?_); rintro r wF ⟨rfl, hFP⟩; have kF := hFP.choose_spec.2.2; have T6 : C3 wF w1.heap.size p off D ∧ C3 wF wN.heap.size p o2 D2 := ⟨c3_keeps kF (fun q => q.1.2 (Or.inr (Or.inl rfl))) S6.1, c3_keeps kF (fun q => q.1.2 (Or.inr (Or.inr (Or.inr rfl)))) S6.2⟩; have RF := kF.blkF hRW (fun q => q.1.2 (Or.inr (Or.inr (Or.inl rfl)))); obtain ⟨⟨y0, y1, y2⟩, g0, g1, g2⟩ := three_cells RF))
    refine set3_any RF (P := fun W => Exit.then _ _ _ _ W) fun W9 h9 k9 => ?_
    have HF := hide (HP.out wF W9 ⟨rfl, hFP⟩ k9)
    obtain ⟨⟨z0, z1, z2⟩, -⟩ := three_cells h9
    clear HP hFP hFr y0 y1 y2 g0 g1 g2 RF kF T6 S6 C6 hYlt
    go_wp2_with fail
    exact bodyPost_ret (v := .tuple #[.agg #[.pointer (some ⟨p, 0, none⟩), .int .i64 (o2 : Int), .int .i64 (D2 : Int)], .int .i64 0]) (by simp [results, Tryz.results14, go_sem, z0, z1, z2]) rfl HF.out
  · have hsz5 : w5.heap.size ≤ wT.heap.size := kT.size
    refine set3_any hbl.out (P := fun W => Exit.then _ _ _ _ W) fun WL hl K9 => ?_
    have KW : Keeps w5 WL (fun k => (w.heap.size ≤ k ∧ ¬ X k) ∧ k < w1.heap.size) := ((((kD.trans kT (fun _ _ e => e)).alloc _).mono (fun _ _ e => e.elim)).trans kN (fun i hi e => e)).trans K9 (fun i hi e => by omega)
    obtain ⟨d1, d2, hB, hDN, hWr⟩ := G
    have hO : DirO w WL p (fun k => X k ∨ k = w1.heap.size ∨ k = w1.heap.size + 1 ∨ k = wT.heap.size) d2 o2 (D + 1) (dbl ts) := by
      have s5 := kT.size
      have sw := HH.out.own.keeps.size
      have s6 : w5.heap.size ≤ wT.heap.size := by first | exact s5 | (have : (w5.heap.size + 1) ≤ wT.heap.size := (by simpa using s5); omega)
      refine (hDN.kept K9 (fun i e => Or.inr (by simp; omega)) (fun i e => by omega)).less (fun k e => ?_)
      rcases e with e | e | e | e
      · exact Or.inl e
      · exact Or.inr (by simp; omega)
      · exact Or.inr (by simp; omega)
      · exact Or.inr (by simp; omega)
    have RW := KW.blkF RL (hFn _ (Nat.le_succ _))
    have BW := KW.blkF BL (hFn _ (Nat.le_refl _))
    obtain ⟨cb, hb1, hb2, hb3⟩ := (HH.out.dir.took HH.out.fine hB).1.blk
    have hlv : d2.lv (off : Int) = some (cb : Int) := by rw [hWr.same.2.1]; exact hb2
    have hYlt : ∀ k, (X k ∨ k = w1.heap.size ∨ k = w1.heap.size + 1 ∨ k = wT.heap.size) → k < WL.heap.size := fun k hk => by
      have q1 := heap_lt BW
      have q2 := heap_lt RW
      have q3 := heap_lt hl
      rcases hk with e | e | e | e
      · have := hX k e
        omega
      · omega
      · omega
      · omega
    have hFr := dfree_any (hO.own.stay (Keeps.refl WL (fun _ => False)).drew) hO.fine off D cb hlv hYlt
    have C6 : C3 WL w1.heap.size p off D ∧ C3 WL wT.heap.size p o2 D2 := ⟨c3_of BW, c3_of hl⟩
    have S6 : C3 WL.drew w1.heap.size p off D ∧ C3 WL.drew wT.heap.size p o2 D2 := ⟨c3_drew C6.1, c3_drew C6.2⟩
    have HP : Hid (∀ w9 w', DFreePost w WL.drew p (fun k => X k ∨ k = w1.heap.size ∨ k = w1.heap.size + 1 ∨ k = wT.heap.size) d2 off (.returned (.int .i64 0)) w9 → Keeps w9 w' (fun i => i = w1.heap.size + 1) → WidenPost w w1 p X d off D ts (.returned (.tuple #[.agg #[.pointer (some ⟨p, 0, none⟩), .int .i64 (o2 : Int), .int .i64 (D2 : Int)], .int .i64 0])) w') := fun w9 w' hpost k9 => by
      obtain ⟨-, d3, hg, ho3, k3⟩ := hpost
      have hne := (HH.out.dir.took HH.out.fine hB).2
      have hsw := HH.out.own.keeps.size
      have o4 : Own w w' p X d3 := (ho3.kept k9 (fun i e => Or.inr (Or.inr (Or.inl e))) (fun i e => by omega)).less (fun i _ _ e => Or.inl e)
      refine ⟨o2, d1, d2, d3, by rw [HD2.out], hB, hWr, hg, ⟨o4, hO.fine.gone hg, hO.well.gone hO.fine hg, hO.dir.gone hg hne, hO.len, hO.dep, hO.fit⟩, ?_⟩
      exact ((((K4.mono (fun _ _ e => e.elim)).trans KW (fun i hi e => e)).trans ((Keeps.refl WL (fun _ => False)).drew.mono (fun _ _ e => e.elim)) (fun i hi e => e)).trans k3 (fun i hi e => ⟨⟨e.1.1, fun q => e.1.2 (Or.inl q)⟩, hi⟩)).trans k9 (fun i hi e => by omega)
    have hsz5w : w1.heap.size + 1 < WL.heap.size := heap_lt RW
    have hx1 : Hid (¬ w1.heap.size = w1.heap.size + 1) := hide (by omega)
    have hx2 : Hid (¬ wT.heap.size = w1.heap.size + 1) := hide (fun e => (show w1.heap.size + 1 ≠ wT.heap.size from (by omega)) e.symm)
    have hRW : WL.drew.heap[w1.heap.size + 1]? = some (.cells #[.pointer none, .int .i64 0, .int .i64 0] 26) := RW
    have H1 := hide (And.intro hB (And.intro hWr hO))
    clear hT2 hN hFn kT kN hB hWr hO hlv hb1 hb2 hb3 KW BW hl
    go_wp2_with fail
    go_region_held3 (fun w' => C3 w' w1.heap.size p off D ∧ C3 w' wT.heap.size p o2 D2) (first | with_reducible assumption | with_reducible exact S6 | with_reducible exact c6_set3 hx1.out hx2.out (by with_reducible assumption))
      (first | (go_at_call 32; (with_reducible refine hFr.mono ?_); rintro r wF ⟨rfl, hFP⟩; have kF := hFP.choose_spec.2.2; have T6 : C3 wF w1.heap.size p off D ∧ C3 wF wT.heap.size p o2 D2 := ⟨c3_keeps kF (fun q => q.1.2 (Or.inr (Or.inl rfl))) S6.1, c3_keeps kF (fun q => q.1.2 (Or.inr (Or.inr (Or.inr rfl)))) S6.2⟩; have RF := kF.blkF hRW (fun q => q.1.2 (Or.inr (Or.inr (Or.inl rfl)))); obtain ⟨⟨y0, y1, y2⟩, g0, g1, g2⟩ := three_cells RF))
    refine set3_any RF (P := fun W => Exit.then _ _ _ _ W) fun W9 h9 k9 => ?_
    have HF := hide (HP.out wF W9 ⟨rfl, hFP⟩ k9)
    obtain ⟨⟨z0, z1, z2⟩, -⟩ := three_cells h9
    clear HP hFP hFr y0 y1 y2 g0 g1 g2 RF kF T6 S6 C6 hYlt
    go_wp2_with fail
    exact bodyPost_ret (v := .tuple #[.agg #[.pointer (some ⟨p, 0, none⟩), .int .i64 (o2 : Int), .int .i64 (D2 : Int)], .int .i64 0]) (by simp [results, Tryz.results14, go_sem, z0, z1, z2]) rfl HF.out
  · refine set3_any hbl.out (P := fun W => Exit.then _ _ _ _ W) fun WL hl K9 => ?_
    have KW : Keeps w5 WL (fun k => (w.heap.size ≤ k ∧ ¬ X k) ∧ k < w1.heap.size) := (((((Keeps.refl w5 (fun _ => False)).alloc _).drew.trans kT (fun _ _ e => e)).mono (fun _ _ e => e.elim)).trans kN (fun i hi e => e)).trans K9 (fun i hi e => by omega)
    obtain ⟨d1, d2, hB, hDN, hWr⟩ := G
    have hO : DirO w WL p (fun k => X k ∨ k = w1.heap.size ∨ k = w1.heap.size + 1 ∨ k = w5.heap.size) d2 o2 (D + 1) (dbl ts) := by
      have s5 := kT.size
      have sw := HH.out.own.keeps.size
      have s6 : w5.heap.size ≤ wT.heap.size := by first | exact s5 | (have : (w5.heap.size + 1) ≤ wT.heap.size := (by simpa using s5); omega)
      refine (hDN.kept K9 (fun i e => Or.inr (by omega)) (fun i e => by omega)).less (fun k e => ?_)
      rcases e with e | e | e | e
      · exact Or.inl e
      · exact Or.inr (by omega)
      · exact Or.inr (by omega)
      · exact Or.inr (by omega)
    have RW := KW.blkF RL (hFn _ (Nat.le_succ _))
    have BW := KW.blkF BL (hFn _ (Nat.le_refl _))
    obtain ⟨cb, hb1, hb2, hb3⟩ := (HH.out.dir.took HH.out.fine hB).1.blk
    have hlv : d2.lv (off : Int) = some (cb : Int) := by rw [hWr.same.2.1]; exact hb2
    have hYlt : ∀ k, (X k ∨ k = w1.heap.size ∨ k = w1.heap.size + 1 ∨ k = w5.heap.size) → k < WL.heap.size := fun k hk => by
      have q1 := heap_lt BW
      have q2 := heap_lt RW
      have q3 := heap_lt hl
      rcases hk with e | e | e | e
      · have := hX k e
        omega
      · omega
      · omega
      · omega
    have hFr := dfree_any (hO.own.stay (Keeps.refl WL (fun _ => False)).drew) hO.fine off D cb hlv hYlt
    have C6 : C3 WL w1.heap.size p off D ∧ C3 WL w5.heap.size p o2 D2 := ⟨c3_of BW, c3_of hl⟩
    have S6 : C3 WL.drew w1.heap.size p off D ∧ C3 WL.drew w5.heap.size p o2 D2 := ⟨c3_drew C6.1, c3_drew C6.2⟩
    have HP : Hid (∀ w9 w', DFreePost w WL.drew p (fun k => X k ∨ k = w1.heap.size ∨ k = w1.heap.size + 1 ∨ k = w5.heap.size) d2 off (.returned (.int .i64 0)) w9 → Keeps w9 w' (fun i => i = w1.heap.size + 1) → WidenPost w w1 p X d off D ts (.returned (.tuple #[.agg #[.pointer (some ⟨p, 0, none⟩), .int .i64 (o2 : Int), .int .i64 (D2 : Int)], .int .i64 0])) w') := fun w9 w' hpost k9 => by
      obtain ⟨-, d3, hg, ho3, k3⟩ := hpost
      have hne := (HH.out.dir.took HH.out.fine hB).2
      have hsw := HH.out.own.keeps.size
      have o4 : Own w w' p X d3 := (ho3.kept k9 (fun i e => Or.inr (Or.inr (Or.inl e))) (fun i e => by omega)).less (fun i _ _ e => Or.inl e)
      refine ⟨o2, d1, d2, d3, by rw [HD2.out], hB, hWr, hg, ⟨o4, hO.fine.gone hg, hO.well.gone hO.fine hg, hO.dir.gone hg hne, hO.len, hO.dep, hO.fit⟩, ?_⟩
      exact ((((K4.mono (fun _ _ e => e.elim)).trans KW (fun i hi e => e)).trans ((Keeps.refl WL (fun _ => False)).drew.mono (fun _ _ e => e.elim)) (fun i hi e => e)).trans k3 (fun i hi e => ⟨⟨e.1.1, fun q => e.1.2 (Or.inl q)⟩, hi⟩)).trans k9 (fun i hi e => by omega)
    have hsz5w : w1.heap.size + 1 < WL.heap.size := heap_lt RW
    have hx1 : Hid (¬ w1.heap.size = w1.heap.size + 1) := hide (by omega)
    have hx2 : Hid (¬ w5.heap.size = w1.heap.size + 1) := hide (fun e => (show w1.heap.size + 1 ≠ w5.heap.size from (by omega)) e.symm)
    have hRW : WL.drew.heap[w1.heap.size + 1]? = some (.cells #[.pointer none, .int .i64 0, .int .i64 0] 26) := RW
    have H1 := hide (And.intro hB (And.intro hWr hO))
    clear hT2 hN hFn kT kN hB hWr hO hlv hb1 hb2 hb3 KW BW hl
    go_wp2_with fail
    go_region_held3 (fun w' => C3 w' w1.heap.size p off D ∧ C3 w' w5.heap.size p o2 D2) (first | with_reducible assumption | with_reducible exact S6 | with_reducible exact c6_set3 hx1.out hx2.out (by with_reducible assumption))
      (first | (go_at_call 32; (with_reducible refine hFr.mono ?_); rintro r wF ⟨rfl, hFP⟩; have kF := hFP.choose_spec.2.2; have T6 : C3 wF w1.heap.size p off D ∧ C3 wF w5.heap.size p o2 D2 := ⟨c3_keeps kF (fun q => q.1.2 (Or.inr (Or.inl rfl))) S6.1, c3_keeps kF (fun q => q.1.2 (Or.inr (Or.inr (Or.inr rfl)))) S6.2⟩; have RF := kF.blkF hRW (fun q => q.1.2 (Or.inr (Or.inr (Or.inl rfl)))); obtain ⟨⟨y0, y1, y2⟩, g0, g1, g2⟩ := three_cells RF))
    refine set3_any RF (P := fun W => Exit.then _ _ _ _ W) fun W9 h9 k9 => ?_
    have HF := hide (HP.out wF W9 ⟨rfl, hFP⟩ k9)
    obtain ⟨⟨z0, z1, z2⟩, -⟩ := three_cells h9
    clear HP hFP hFr y0 y1 y2 g0 g1 g2 RF kF T6 S6 C6 hYlt
    go_wp2_with fail
    exact bodyPost_ret (v := .tuple #[.agg #[.pointer (some ⟨p, 0, none⟩), .int .i64 (o2 : Int), .int .i64 (D2 : Int)], .int .i64 0]) (by simp [results, Tryz.results14, go_sem, z0, z1, z2]) rfl HF.out
end Go.Proofs.YtdhphakjkgfngaaGreatDoor
/-
  What the statements on dir ask of the arena, and New of a copied list.
-/
namespace Go.Proofs.YtdhphakjkgfngaaGreatDoor
open Go.RowKit Go.Shelf
set_option linter.unusedVariables false

theorem dsize {w w1 : World} {p : Nat} {X : Nat → Prop} {d : AD} (h : Own w w1 p X d) (off : Int) (ho : fitsI off) : Calls Tryz.prog 30 #[.pointer (some ⟨p, 0, none⟩), .int .i64 off] w1 fun e w' => e = .returned (.tuple #[.int .i64 ((d.lv off).getD 0), .int .i64 (if (d.lv off).isSome then 0 else 23)]) ∧ w' = w1 := by
  obtain ⟨c, hc, _⟩ := h.arena
  exact size_any hc off ho

theorem dclass (k n : Nat) (z : Int) (hz : ((k * n : Nat) : Int) = z) (w : World) (h1 : 1 ≤ k * n) (h2 : k * n ≤ 1048576) : Calls Tryz.prog 47 #[.int .i64 z] w fun e w' => e = .returned (.int .i64 (classN (k * n) : Int)) ∧ w' = w := by
  subst hz
  exact class_yes (k * n) w h1 h2

theorem row_cells {W : World} {B g cap : Nat} {os : List Int} (h : W.ownsRow B 3 1 (.slice (some ⟨g, 0, none⟩) os.length cap) os.length (os.map cellI)) : ∀ j (hj : j < os.length), W.cell? ⟨g, 0 + j, none⟩ = some (.int .i64 os[j]) := fun j hj => by
  have := h.cells (g := g) rfl j (cellI os[j]) (by rw [List.getElem?_map, List.getElem?_eq_getElem hj]; rfl)
  rw [addr_add] at this
  simpa [cellI] using this
theorem row_in {W : World} {B g cap : Nat} {os : List Int} (h : W.ownsRow B 3 1 (.slice (some ⟨g, 0, none⟩) os.length cap) os.length (os.map cellI)) : InZ W (.slice (some ⟨g, 0, none⟩) os.length cap) os :=
  Or.inr ⟨⟨g, 0, none⟩, cap, rfl, fun j hj => by rw [addr_add]; exact row_cells h j hj, fun _ => ⟨g, 0, rfl, (h.lt g rfl).2⟩⟩
/-- New of a list that was copied. -/
theorem new_copy {w W W' : World} {p : Nat} {d : AD} (O : Own w W p (fun _ => False) d) (hF : d.Fine) (hW : d.Well) (hT : TabAt w) (k : Keeps W W' (fun _ => False)) (a c : Nat) (ha : W.heap.size ≤ a) (zs : List Int) (hr : W'.ownsRow W.heap.size 3 1 (.slice (some ⟨a, 0, none⟩) zs.length c) zs.length (zs.map cellI))
    (hfit : ∀ i (h : i < zs.length), fitsI zs[i]) (hn : ¬ depI zs.length < 0) (hu : d.used + classN (8 * zs.length) ≤ d.limit) :
    Calls Tryz.prog 11 #[.pointer (some ⟨p, 0, none⟩), .slice (some ⟨a, 0, none⟩) zs.length c] W' fun e w' => DNewPost w W' p (fun i => i = a) d zs e w' := by
  have hlt := (hr.lt a rfl).2
  exact dnew_yes ((O.own_more k).less (fun i _ _ e => Or.inr (by subst e; exact ⟨ha, hlt⟩))) hF hW (fun i e => by subst e; exact hlt) hT _ zs (row_in hr) (fun b hb => Or.inr (by
    have e' : a = b := by simpa [Value.ownBlock] using hb
    exact e'.symm)) hfit hn hu
/-- A new directory as a statement has it. -/
structure Made (w w' : World) (p off D : Nat) (d : AD) (zs : List Int) (L : Nat) : Prop where
  dir : DirO w w' p (fun _ => False) d off D zs
  dep : depI zs.length = D
  used : d.used = classN (8 * zs.length)
  limit : d.limit = L
  lv : d.lv (off : Int) = some (classN (8 * zs.length) : Int)
theorem made_of {w W' w' : World} {p a L : Nat} {zs : List Int} {e : Ending} (h : DNewPost w W' p (fun i => i = a) (AD.fresh L) zs e w') : ∃ (off D : Nat) (d : AD), e = .returned (.tuple #[.agg #[.pointer (some ⟨p, 0, none⟩), .int .i64 (off : Int), .int .i64 (D : Int)], .int .i64 0]) ∧ Made w w' p off D d zs L := by
  obtain ⟨D, off, d1, d', h1, -, rfl, hB, hD, hW, k⟩ := h
  obtain ⟨s1, s2, s3, s4, s5⟩ := hW.same
  refine ⟨off, D, d', rfl, hD.less (fun _ (e : False) => e.elim), h1, ?_, ?_, ?_⟩
  · rw [s3, hB.used]
    show 0 + _ = _
    omega
  · rw [s4, hB.limit]
    rfl
  · rw [s2]
    exact hB.lv
theorem Made.stay {w w1 w2 : World} {p off D L : Nat} {d : AD} {zs : List Int} (h : Made w w1 p off D d zs L) (k : Keeps w1 w2 (fun _ => False)) : Made w w2 p off D d zs L := ⟨h.dir.stay k, h.dep, h.used, h.limit, h.lv⟩
theorem Made.below {w w1 : World} {p off D L : Nat} {d : AD} {zs : List Int} (h : Made w w1 p off D d zs L) : Below w.heap.size w w1 := h.dir.own.keeps.below (Nat.le_refl _) (fun _ _ e => e)
theorem fresh_well (n : Nat) : (AD.fresh n).Well := ⟨fun x xs h => by simp [AD.fresh] at h, fun y hy => by simp [AD.fresh] at hy, fun c => by simp [AD.fresh, classSum]⟩
/-- A builtin append whose run is known. -/
theorem app_run {P : Program} (w : World) {ops : Array Oper} {rest : List Oper} {o : Oper} {a : Act} {Q : Exit → Act → World → Prop}
    (hgd : o.guard = none) (s x : Operand) (t : TypeId) (hop : o.op = Op.call { callee := Callee.builtin Builtin.append, args := #[s, x], argTypes := #[t, t] }) {v u v' : Value} {w' : World} (hs : a.eval s = v) (hx : a.eval x = u)
    (hrun : ∀ ty, (Builtin.append_ #[t, t] ty #[v, u]).run P w = .ok v' w') (hK : wpList P ops Q rest (a.put o.dst v') w') : wpList P ops Q (o :: rest) a w := by
  refine wpList_plain hgd fun K hK' => ?_
  unfold Oper.wp
  simp [execOp, hop, resolve, invoke, builtin, hs, hx, hrun, Result.andThen]
  exact hK' _ _ hK
theorem InZ.copyB {W : World} {v : Value} {zs : List Int} (h : InZ W v zs) (hn : zs.length ≤ 17592186044000) :
    ∃ a c W', (∀ ty, (Builtin.append_ #[29, 29] ty #[.slice (some ⟨W.heap.size, 0, none⟩) 0 0, v]).run Tryz.prog (W.alloc (.cells #[] 3)) = .ok (.slice (some ⟨a, 0, none⟩) zs.length c) W') ∧ W'.ownsRow W.heap.size 3 1 (.slice (some ⟨a, 0, none⟩) zs.length c) zs.length (zs.map cellI) ∧ W.heap.size ≤ a ∧ Keeps W W' (fun _ => False) := by
  have hi : (Tryz.prog.info? 3).map (fun i => (i.zero, i.size, i.bytes)) = some (some (.int .i64 0), 1, 8) := by kernel_rfl
  obtain ⟨i, q1, q2, q3, q4⟩ := info_parts hi
  have k0 : Keeps W (W.alloc (.cells #[] 3)) (fun _ => False) := (Keeps.refl _ _).alloc _
  have own0 : (W.alloc (.cells #[] 3)).ownsRow W.heap.size 3 1 (.slice (some ⟨W.heap.size, 0, none⟩) 0 0) 0 [] := World.ownsRow_made W #[] 0 (Nat.le_refl _) (by simp only [maxLen]; omega) (by simp)
  have h0 := h.keeps k0
  rcases h0 with ⟨rfl, rfl⟩ | ⟨a, cap, rfl, hc, _⟩
  · have r1 := fun ty => run_append_owned_none (P := Tryz.prog) (w := W.alloc (.cells #[] 3)) W.heap.size 29 ty 3 i 1 Tryz.underlying29 q1 _ 0 [] own0
    exact ⟨_, _, _, r1, own0, Nat.le_refl _, k0⟩
  · obtain ⟨v', w2, hr, hown, hgr, hnil, hloc⟩ := run_append_own_at (P := Tryz.prog) (W.alloc (.cells #[] 3)) W.heap.size 29 0 3 i (.int .i64 0) 1 8 Tryz.underlying29 q1 q2 q3 q4 rfl (by omega) _ 0 [] own0 a zs.length cap (zs.map cellI) (by simp)
      (fun j u hu => by
        rw [List.getElem?_map] at hu
        obtain ⟨z, hz, rfl⟩ := Option.map_eq_some_iff.1 hu
        obtain ⟨hj, rfl⟩ := List.getElem?_eq_some_iff.1 hz
        exact hc j hj) cellI_one (by simp only [maxLen]; omega) (by omega) (by simp)
    rw [Nat.zero_add, List.nil_append] at hown
    have K : Keeps W w2 (fun _ => False) := k0.trans ((Keeps.ofGrown hgr).mono (fun i hi e => by
      have e' : W.heap.size = i := by simpa [Value.ownBlock] using e
      exact e'.symm)) (fun i hi e => by
        have e' : i = W.heap.size := e
        omega)
    obtain ⟨_, hh | ⟨g', cap', cur', e1, g2, _⟩⟩ := id hown
    · exact absurd (hnil.1 hh.1).1 (by simp)
    · subst e1
      exact ⟨g', cap', w2, fun ty => hr, hown, g2, K⟩
def Post (w : World) (e : Ending) (w' : World) : Prop := e = .returned (.bool true) ∧ Below w.heap.size w w'
end Go.Proofs.YtdhphakjkgfngaaGreatDoor
