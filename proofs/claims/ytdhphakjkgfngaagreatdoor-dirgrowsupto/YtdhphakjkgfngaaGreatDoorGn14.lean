import Derived.Laws.Bits64
import Derived.Deep.Slices
import Derived.Deep.SlicePairs
import Derived.OrdersHeld
import Derived.OwnWalkIn
import Derived.Test.YtdhphakjkgfngaaGreatDoorGn13
/-
  The law's splits.
-/
namespace Go.Proofs.YtdhphakjkgfngaaGreatDoor
open Go.RowKit Go.Shelf
set_option linter.unusedVariables false

theorem alloc3 {w : World} {o1 o2 o3 : Obj} {P : World → Prop} (h : ∀ W0, W0.heap[w.heap.size]? = some o1 → W0.heap[w.heap.size + 1]? = some o2 → W0.heap[w.heap.size + 1 + 1]? = some o3 → W0.heap.size = w.heap.size + 3 → Keeps w W0 (fun _ => False) → P W0) : P (((w.alloc o1).alloc o2).alloc o3) := by
  refine alloc2 (P := fun W => P (W.alloc o3)) fun W h1 h2 h3 k => ?_
  refine h _ (heap_alloc_old h1 _) (heap_alloc_old h2 _) ?_ (by simp [h3]) (k.alloc _)
  have := heap_alloc_new W o3
  rwa [h3] at this
/-- p's three cells. -/
abbrev P3 (W : World) (b : Nat) (m : PD) : Prop := W.cell? ⟨b, 0, none⟩ = some (.int .i64 m.t) ∧ W.cell? ⟨b, 1, none⟩ = some (.int .i64 (m.e : Int)) ∧ W.cell? ⟨b, 2, none⟩ = some (.int .u64 (m.b : Int))
theorem p3_keeps {W W1 : World} {b : Nat} {m : PD} {S : Nat → Prop} (k : Keeps W W1 S) (hS : ¬ S b) (h : P3 W b m) : P3 W1 b m := c3v_keeps k hS h

theorem wrap_one (e : Nat) (h : e ≤ 1000) : IntKind.i64.wrap ((e : Int) + 1) = (e : Int) + 1 := by rw [IntKind.wrap_i64]; omega
theorem wrap_sum (F Q : Nat) (h : F + Q ≤ 1000) : IntKind.i64.wrap ((F : Int) + IntKind.i64.wrap (Q : Int)) = ((F + Q : Nat) : Int) := by
  have e1 : IntKind.i64.wrap (Q : Int) = (Q : Int) := by rw [IntKind.wrap_i64]; omega
  rw [e1, IntKind.wrap_i64]
  omega

set_option maxRecDepth 100000 in
set_option maxHeartbeats 4000000 in
theorem splits_any {w w1 : World} {p : Nat} {X : Nat → Prop} {d : AD} {off D : Nat} {ts : List Int} (h : Dio w w1 p X d off D ts) (hX : ∀ k, X k → k < w1.heap.size) (hT : TabAt w) {ms : List PD} (c : Coh D ts ms) {i : Nat} (hi : i < ms.length) (he : ms[i].e < 6)
    (hash : Nat) (hh : hash < 18446744073709551616) (ho : hasN ms[i] hash) (t1 t2 : Int) (f1 : fitsI t1) (f2 : fitsI t2) :
    Calls Tryz.prog 6 #[.agg #[.pointer (some ⟨p, 0, none⟩), .int .i64 (off : Int), .int .i64 (D : Int)], .agg #[.int .i64 ms[i].t, .int .i64 (ms[i].e : Int), .int .u64 (ms[i].b : Int)], .int .u64 (hash : Int), .int .i64 t1, .int .i64 t2] w1 fun r w' => SplitsPost w w1 p X (splitL ms i t1 t2) r w' := by
  have hde := (c.ent _ (List.getElem_mem hi)).1
  have HFin : Hid (∀ D4 ts4, Coh D4 ts4 ms → ms[i].e < D4 → Coh D4 (putR (putR ts4 (ms[i].b * 2 ^ (D4 - ms[i].e)) (2 ^ (D4 - (ms[i].e + 1))) t1) (ms[i].b * 2 ^ (D4 - ms[i].e) + 2 ^ (D4 - (ms[i].e + 1))) (2 ^ (D4 - (ms[i].e + 1))) t2) (splitL ms i t1 t2)) := fun D4 ts4 c4 h4 => c4.split hi h4 t1 t2
  have HPk : Hid (∀ D4 ts4, Coh D4 ts4 ms → ts4.getD (headN hash D4) 0 = ms[i].t) := fun D4 ts4 c4 => c4.pick hh (List.getElem_mem hi) ho
  have HO := hide ho
  generalize ms[i] = m at *
  have HH := hide h
  have HC := hide c
  have HX := hide hX
  have HT := hide hT
  have hDe := fun W => dDepth_any p off D W
  have hD6 := c.dep
  have hsz := h.dir.own.keeps.size
  clear h c hX hT ho
  go_enter Tryz.func6, Tryz.ntmps6
  go_wp2_with fail
  refine alloc3 (P := fun W => Code.wp _ _ _ _ W) fun W0 b5 b6 b10 hz K0 => ?_
  generalize hN : w1.heap.size = N at *
  have S0 : C3 W0.drew N p off D ∧ P3 W0.drew (N + 1) m := ⟨c3_drew (c3_of b5), (three_cells (show W0.drew.heap[N + 1]? = _ from b6)).1⟩
  have hwe : IntKind.i64.wrap (m.e : Int) = (m.e : Int) := by rw [IntKind.wrap_i64]; omega
  go_region_held3 (fun w' => C3 w' N p off D ∧ P3 w' (N + 1) m) (first | with_reducible assumption | with_reducible exact S0)
    (first | (go_at_call 9; (with_reducible refine (hDe _).mono ?_); rintro r wA ⟨rfl, kA⟩; have SA : C3 wA N p off D ∧ P3 wA (N + 1) m := ⟨c3_keeps kA id S0.1, p3_keeps kA id S0.2⟩))
  have KA : Keeps W0 wA (fun _ => False) := (Keeps.refl W0 (fun _ => False)).drew.trans kA (fun _ _ e => e)
  have B5 := KA.blk b5
  have B6 := KA.blk b6
  have B10 := KA.blk b10
  have K1A : Keeps w1 wA (fun _ => False) := K0.trans KA (fun _ _ e => e)
  have hszA := KA.size
  have HDA : Hid (Dio w wA p (fun i => X i ∨ (N ≤ i ∧ i < N + 3)) d off D ts) := ((HH.out.grow K0).stay KA).less (fun k e => by rw [hN, hz]; exact e)
  have HXA : Hid (∀ k, (X k ∨ (N ≤ k ∧ k < N + 3)) → k < wA.heap.size) := fun k e => by
    rcases e with e | e
    · have := HX.out k e
      omega
    · omega
  clear S0 SA kA hDe b5 b6 b10 KA hwe
  by_cases hw : m.e = D
  focus
    have hw' : ((m.e : Int) == (D : Int)) = true := by simp; omega
    rw [hw']
    clear hw'
    have hWd := HDA.out.widen HXA.out HT.out (by omega)
    have hD5 : D < 6 := by omega
    have HW := hide hw
    clear hw
    obtain ⟨⟨c0, c1, c2⟩, -⟩ := three_cells B5
    have hin : ∀ k, N ≤ k → k < N + 3 → ¬ ((w.heap.size ≤ k ∧ ¬ (X k ∨ (N ≤ k ∧ k < N + 3))) ∧ k < wA.heap.size) := fun k h1 h2 e => e.1.2 (Or.inr ⟨h1, h2⟩)
    go_wp2_with fail
    (with_reducible refine hWd.mono ?_)
    rintro r w3 ⟨off4, d4, rfl, hD3, k3⟩
    obtain ⟨D4, hD4⟩ : ∃ D4, D4 = D + 1 := ⟨_, rfl⟩
    rw [← hD4] at hD3 ⊢
    have HC4 : Hid (Coh D4 (dbl ts) ms) := by rw [hD4]; exact HC.out.widen hD5
    have hlt4 : m.e < D4 := by have := HW.out; omega
    clear hD4
    have K4 : Keeps w3 (w3.alloc (.cells #[.pointer (some ⟨p, 0, none⟩), .int .i64 (off4 : Int), .int .i64 (D4 : Int)] 26)) (fun _ => False) := (Keeps.refl _ _).alloc _
    have y5 := K4.blk (k3.blkF B5 (hin _ (by omega) (by omega)))
    have y6 := K4.blk (k3.blkF B6 (hin _ (by omega) (by omega)))
    have y10 := K4.blk (k3.blkF B10 (hin _ (by omega) (by omega)))
    have yw := heap_alloc_new w3 (.cells #[.pointer (some ⟨p, 0, none⟩), .int .i64 (off4 : Int), .int .i64 (D4 : Int)] 26)
    obtain ⟨⟨x0, x1, x2⟩, g0, g1, g2⟩ := three_cells y5
    obtain ⟨⟨z0, z1, z2⟩, -⟩ := three_cells yw
    have Hy5 := hide y5
    have q5 : (set3 (w3.alloc (.cells #[.pointer (some ⟨p, 0, none⟩), .int .i64 (off4 : Int), .int .i64 (D4 : Int)] 26)) N (.pointer (some ⟨p, 0, none⟩)) (.int .i64 (off4 : Int)) (.int .i64 (D4 : Int))).heap[N]? = some (.cells #[.pointer (some ⟨p, 0, none⟩), .int .i64 (off4 : Int), .int .i64 (D4 : Int)] 26) := set3_any Hy5.out (P := fun W => W.heap[N]? = some (.cells #[.pointer (some ⟨p, 0, none⟩), .int .i64 (off4 : Int), .int .i64 (D4 : Int)] 26)) (fun W h _ => h)
    obtain ⟨⟨q0, q1, q2⟩, -⟩ := three_cells q5
    clear hWd c0 c1 c2 HC y5 q5
    go_wp2_with fail
    clear q0 q1 q2
    refine set3_any Hy5.out (P := fun W => Calls _ _ _ W _) fun W4 h4 k4 => ?_
    have HK4 : Hid (Keeps w1 W4 (fun k => (w.heap.size ≤ k ∧ ¬ X k) ∧ k < w1.heap.size)) := (((K1A.mono (fun _ _ e => e.elim)).trans k3 (fun i hi e => ⟨⟨e.1.1, fun q => e.1.2 (Or.inl q)⟩, hi⟩)).trans (K4.mono (fun _ _ e => e.elim)) (fun _ _ e => e)).trans k4 (fun i hi e => by omega)
    have HD4 : Hid (Dio w W4 p (fun i => X i ∨ (N ≤ i ∧ i < N + 3)) d4 off4 D4 (dbl ts)) := (hD3.stay K4).kept k4 (fun i e => Or.inr (by omega)) (fun i e => by omega)
    have B6' := k4.blkF y6 (by omega)
    have B10' := k4.blkF y10 (by omega)
    have hsz4 : N + 3 ≤ W4.heap.size := by have := k3.size; have := K4.size; have := k4.size; omega
    obtain ⟨ts4, hts4⟩ : ∃ t, t = dbl ts := ⟨_, rfl⟩
    rw [← hts4] at HD4 HC4
    clear x0 x1 x2 g0 g1 g2 z0 z1 z2 Hy5 yw y6 y10 k4 k3 K4 hD3 HDA HXA hts4 B5 B6 B10 HW hin K1A hD5
    have B6 := B6'
    have B10 := B10'
    have B5 := h4
    clear B6' B10' h4
  rotate_left
  focus
    have hw' : ((m.e : Int) == (D : Int)) = false := by simp; omega
    rw [hw']
    have hlt4 : m.e < D := by omega
    obtain ⟨⟨c0, c1, c2⟩, -⟩ := three_cells B5
    go_wp2_with fail
    have HK4 : Hid (Keeps w1 wA (fun k => (w.heap.size ≤ k ∧ ¬ X k) ∧ k < w1.heap.size)) := K1A.mono (fun _ _ e => e.elim)
    have HD4 := HDA
    have HC4 := HC
    have hsz4 : N + 3 ≤ wA.heap.size := by omega
    clear c0 c1 c2 hw hw' HDA HXA HC K1A
    obtain ⟨W4, hW4⟩ : ∃ W, W = wA := ⟨_, rfl⟩
    obtain ⟨off4, hoff4⟩ : ∃ W, W = off := ⟨_, rfl⟩
    obtain ⟨D4, hD4⟩ : ∃ W, W = D := ⟨_, rfl⟩
    obtain ⟨ts4, hts4⟩ : ∃ W, W = ts := ⟨_, rfl⟩
    obtain ⟨d4, hd4⟩ : ∃ W, W = d := ⟨_, rfl⟩
    rw [← hW4, ← hd4, ← hoff4, ← hD4, ← hts4] at HD4
    rw [← hD4, ← hts4] at HC4
    rw [← hW4] at HK4 hsz4 B6 B10 B5 ⊢
    rw [← hoff4, ← hD4] at B5 ⊢
    rw [← hD4] at hlt4
    clear hW4 hoff4 hD4 hts4 hd4
  rotate_left
  all_goals
    have hlen4 := HD4.out.dir.len
    have hD46 := HC4.out.dep
    have hat : headN hash D4 < ts4.length := by rw [hlen4]; exact headN_lt hash D4 hh (by omega)
    have hPk := dpick_any HD4.out.dir hash hh hat
    have htm : ts4[headN hash D4] = m.t := by
      rw [← HPk.out D4 ts4 HC4.out, List.getD_eq_getElem?_getD, List.getElem?_eq_getElem hat]
      rfl
    rw [htm] at hPk
    have hq : headN hash D4 / 2 ^ (D4 - m.e) = m.b := by rw [← head_divD (by omega) (by omega)]; exact HO.out
    have hRn := fun W => drun_yes p off4 D4 m.e (headN hash D4) W hD46 (by rw [← hlen4]; exact hat) (by omega)
    have hrf : runF D4 m.e (headN hash D4) = m.b * 2 ^ (D4 - m.e) := by unfold runF; rw [hq]
    have hin4 := run_in (D := D4) (e := m.e) (i := headN hash D4) (by rw [← hlen4]; exact hat) (by omega)
    rw [hrf] at hRn hin4
    have e1 : 2 ^ (D4 - m.e) = 2 * 2 ^ (D4 - (m.e + 1)) := by rw [show D4 - m.e = (D4 - (m.e + 1)) + 1 by omega, Nat.pow_succ]; omega
    have hr1 : runF D4 (m.e + 1) (m.b * 2 ^ (D4 - m.e)) = m.b * 2 ^ (D4 - m.e) := runF_mul _ _ _ (2 * m.b) (by rw [e1, Nat.mul_comm 2 m.b, Nat.mul_assoc])
    have hr2 : runF D4 (m.e + 1) (m.b * 2 ^ (D4 - m.e) + 2 ^ (D4 - (m.e + 1))) = m.b * 2 ^ (D4 - m.e) + 2 ^ (D4 - (m.e + 1)) := runF_mul _ _ _ (2 * m.b + 1) (by rw [e1, Nat.add_mul, Nat.mul_comm 2 m.b, Nat.mul_assoc, Nat.one_mul])
    have hp64 : 2 ^ D4 ≤ 64 := pow_le6 hD46
    have hQ1 := pow_pos' (D4 - (m.e + 1))
    have HF := hide (HFin.out D4 ts4 HC4.out hlt4)
    clear htm hat hq hrf HFin HPk HO HC4
    generalize hFg : m.b * 2 ^ (D4 - m.e) = Fi at *
    rw [e1] at hRn hin4
    generalize hQg : 2 ^ (D4 - (m.e + 1)) = Q at *
    obtain ⟨⟨c0, c1, c2⟩, -⟩ := three_cells B5
    obtain ⟨⟨x0, x1, x2⟩, -⟩ := three_cells B6
    have Hg := hide (And.intro hFg (And.intro hQg e1))
    have Hr := hide (And.intro hr1 hr2)
    clear hFg hQg e1 hr1 hr2
    (with_reducible refine hPk.mono ?_)
    rintro r W5 ⟨rfl, k5⟩
    have C5 := c3_keeps k5 id (⟨c0, c1, c2⟩ : C3 W4 N p off4 D4)
    have P5 := p3_keeps k5 id (⟨x0, x1, x2⟩ : P3 W4 (N + 1) m)
    obtain ⟨c0', c1', c2'⟩ := C5
    obtain ⟨x0', x1', x2'⟩ := P5
    clear hPk c0 c1 c2 x0 x1 x2
    generalize headN hash D4 = at0 at *
    go_wp2_with fail
    (with_reducible refine (hRn _).mono ?_)
    rintro r W6 ⟨rfl, k6⟩
    clear hRn c0' c1' c2' x0' x1' x2'
    have K46 : Keeps W4 W6 (fun _ => False) := k5.trans k6 (fun _ _ e => e)
    have hn2 : ¬ (2 * (Q : Int)) < 2 := by omega
    have hn2' : ¬ 2 * Q < 2 := by omega
    go_wp2_with fail
    have HK6 : Hid (Keeps w1 W6.drew (fun k => (w.heap.size ≤ k ∧ ¬ X k) ∧ k < w1.heap.size)) := (HK4.out.trans (K46.mono (fun _ _ e => e.elim)) (fun _ _ e => e)).drew
    have KD : Keeps W4 W6.drew (fun _ => False) := K46.drew
    have HD6 := hide (HD4.out.stay KD)
    have b6 := KD.blk B6
    have b5 := KD.blk B5
    have Hb10 := hide (KD.blk B10)
    have hXl : Hid (∀ W : World, W6.drew.heap.size ≤ W.heap.size → ∀ k, (X k ∨ (N ≤ k ∧ k < N + 3)) → k < W.heap.size) := fun W hW k e => by
      have h1 := KD.size
      have h2 := HK4.out.size
      rcases e with e | e
      · have := HX.out k e
        omega
      · omega
    have hin : Hid (∀ U : World, ∀ k, N ≤ k → k < N + 3 → ¬ ((w.heap.size ≤ k ∧ ¬ (X k ∨ (N ≤ k ∧ k < N + 3))) ∧ k < U.heap.size)) := fun U k h1 h2 e => e.1.2 (Or.inr ⟨h1, h2⟩)
    have hFQ : Fi + Q ≤ 1000 := by omega
    have hP1 := HD6.out.place (hXl.out _ (Nat.le_refl _)) Fi (m.e + 1) (by omega) (by omega) Hr.out.1 t1 f1
    have HP2 : Hid (∀ (wA : World) (d5 : AD), W6.drew.heap.size ≤ wA.heap.size → Dio w wA p (fun i => X i ∨ (N ≤ i ∧ i < N + 3)) d5 off4 D4 (putR ts4 Fi Q t1) → Calls Tryz.prog 16 #[.agg #[.pointer (some ⟨p, 0, none⟩), .int .i64 (off4 : Int), .int .i64 (D4 : Int)], .int .i64 (IntKind.i64.wrap ((Fi : Int) + IntKind.i64.wrap (Q : Int))), .int .i64 ((m.e : Int) + 1), .int .i64 t2] wA fun r w' => r = .returned (.int .i64 0) ∧ ∃ d', Dio w w' p (fun i => X i ∨ (N ≤ i ∧ i < N + 3)) d' off4 D4 (putR (putR ts4 Fi Q t1) (Fi + Q) Q t2) ∧ Keeps wA w' (fun k => (w.heap.size ≤ k ∧ ¬ (X k ∨ (N ≤ k ∧ k < N + 3))) ∧ k < wA.heap.size)) := fun wA d5 hs hd => by
      have := hd.place (hXl.out _ hs) (Fi + Q) (m.e + 1) (by omega) (by omega) Hr.out.2 t2 f2
      have ew := wrap_sum Fi Q hFQ
      rw [Hg.out.2.1, show ((m.e + 1 : Nat) : Int) = (m.e : Int) + 1 by omega] at this
      rw [ew]
      exact this
    rw [Hg.out.2.1, show ((m.e + 1 : Nat) : Int) = (m.e : Int) + 1 by omega] at hP1
    have hwe : IntKind.i64.wrap ((m.e : Int) + 1) = (m.e : Int) + 1 := wrap_one m.e (by omega)
    have S12 : C3 W6.drew N p off4 D4 ∧ P3 W6.drew (N + 1) m := ⟨c3_of b5, (three_cells b6).1⟩
    clear B5 B6 B10 b5 b6 k5 k6 K46
    have hne1 : Hid (¬ N = N + 1 + 1 ∧ ¬ N + 1 = N + 1 + 1) := hide ⟨by omega, by omega⟩
    have j0 := hide (fun U : World => hin.out U N (by omega) (by omega))
    have j1 := hide (fun U : World => hin.out U (N + 1) (by omega) (by omega))
    have j2 := hide (fun U : World => hin.out U (N + 1 + 1) (by omega) (by omega))
    clear hlen4 hp64 hin4 hn2 hn2' hin hQ1 hlt4 hD46
    go_region_held3 (fun w' => C3 w' N p off4 D4 ∧ P3 w' (N + 1) m) (first | with_reducible assumption | with_reducible exact S12 | with_reducible exact ⟨c3_set3 hne1.out.1 SB.1, p3_keeps (set3_keeps _ _ _ _ _) hne1.out.2 SB.2⟩)
      (first | (go_at_call 16; (with_reducible refine hP1.mono ?_); rintro r wA ⟨rfl, d5, hD5, kA⟩; have SA : C3 wA N p off4 D4 ∧ P3 wA (N + 1) m := ⟨c3_keeps kA (j0.out _) S12.1, p3_keeps kA (j1.out _) S12.2⟩) | (go_at_call 16; (with_reducible refine (HP2.out _ _ kA.size hD5).mono ?_); rintro r wB ⟨rfl, d6, hD6b, kB⟩; have SB : C3 wB N p off4 D4 ∧ P3 wB (N + 1) m := ⟨c3_keeps kB (j0.out _) SA.1, p3_keeps kB (j1.out _) SA.2⟩; have bB := kB.blkF (kA.blkF Hb10.out (j2.out _)) (j2.out _); obtain ⟨⟨y0, y1, y2⟩, g0, g1, g2⟩ := three_cells bB; replace bB := hide bB))
    refine set3_any bB.out (P := fun W => Exit.then _ _ _ _ W) fun W9 h9 k9 => ?_
    obtain ⟨⟨z0, z1, z2⟩, -⟩ := three_cells h9
    have HFin : Hid (SplitsPost w w1 p X (splitL ms i t1 t2) (.returned (.tuple #[.agg #[.pointer (some ⟨p, 0, none⟩), .int .i64 (off4 : Int), .int .i64 (D4 : Int)], .bool true])) W9) := by
      refine ⟨off4, D4, d6, _, rfl, (hD6b.kept k9 (fun i e => Or.inr (by omega)) (fun i e => by omega)).less (fun i e => Or.inl e), HF.out, ?_⟩
      have h1 := HK6.out.size
      refine ((HK6.out.trans kA (fun i hi e => ⟨⟨e.1.1, fun q => e.1.2 (Or.inl q)⟩, hi⟩)).trans kB (fun i hi e => ⟨⟨e.1.1, fun q => e.1.2 (Or.inl q)⟩, hi⟩)).trans k9 (fun i hi e => by omega)
    clear S12 SA SB kA kB hD5 hD6b HP2 hP1 y0 y1 y2 g0 g1 g2 bB k9 HF
    go_wp2_with fail
    exact bodyPost_ret (v := .tuple #[.agg #[.pointer (some ⟨p, 0, none⟩), .int .i64 (off4 : Int), .int .i64 (D4 : Int)], .bool true]) (by simp [results, Tryz.results6, go_sem, z0, z1, z2]) rfl HFin.out
end Go.Proofs.YtdhphakjkgfngaaGreatDoor
/-
  DirGrows' variables: the directory's copy, the model's row; one table of it replaced by two; rows of hashes.
-/
namespace Go.Proofs.YtdhphakjkgfngaaGreatDoor
open Go.RowKit Go.Shelf
set_option linter.unusedVariables false

theorem appP {W : World} {B : Nat} {vr : Value} {M : List PD} (hr : W.ownsRow B 32 3 vr M.length (cellsP M)) (hB : B ≤ W.heap.size) (news : List PD) (a : Addr) (m c : Nat) (hm : m = news.length) (hnews : ∀ q u, (cellsP news)[q]? = some u → W.cell? (a.add q) = some u) (hM : M.length + news.length ≤ 1000) :
    ∃ v' w', (∀ ty, (Builtin.append_ #[33, 33] ty #[vr, .slice (some a) m c]).run Tryz.prog W = .ok v' w') ∧ w'.ownsRow B 32 3 v' (M ++ news).length (cellsP (M ++ news)) ∧ Keeps W w' (fun k => vr.ownBlock = some k) ∧ (v'.ownBlock = vr.ownBlock ∨ v'.ownBlock = some W.heap.size) := by
  subst hm
  have hi : (Tryz.prog.info? 32).map (fun i => (i.zero, i.size, i.bytes)) = some (some (.agg #[.int .i64 0, .int .i64 0, .int .u64 0]), 3, 24) := by kernel_rfl
  obtain ⟨i, h1, h2, h3, h4⟩ := info_parts hi
  obtain ⟨v', w', hrun, hown, hgr, -, hloc⟩ := run_append_own_at (P := Tryz.prog) W B 33 0 32 i (.agg #[.int .i64 0, .int .i64 0, .int .u64 0]) 3 24 Tryz.underlying33 h1 h2 h3 h4 rfl (by decide) vr M.length (cellsP M) hr a news.length c (cellsP news) (cellsP_length news) hnews cellsP_one' (by simp only [maxLen]; omega) (by omega) hB
  refine ⟨v', w', fun ty => hrun, ?_, Keeps.ofGrown hgr, hloc⟩
  rw [cellsP_append, List.length_append]
  exact hown

/-- The variables in the first loop. -/
structure Gw (w W : World) (p Bd Bm : Nat) (v : Value) (ms : List PD) (d : AD) (off D : Nat) (ts : List Int) : Prop where
  dio : Dio w W p (fun i => (i = Bd ∨ i = Bm) ∨ v.ownBlock = some i) d off D ts
  box : DirB W Bd p off D
  mod : Boxed W Bm 33 v
  row : W.ownsRow (Bd + 1) 32 3 v ms.length (cellsP ms)
  o1 : w.heap.size ≤ Bd
  o3 : Bd < Bm
  ne : v.ownBlock ≠ some Bm
section
variable {w W W' : World} {p Bd Bm : Nat} {v : Value} {ms : List PD} {d : AD} {off D : Nat} {ts : List Int}
theorem Gw.lt (h : Gw w W p Bd Bm v ms d off D ts) : ∀ k, ((k = Bd ∨ k = Bm) ∨ v.ownBlock = some k) → k < W.heap.size := fun k hk => by
  rcases hk with (e | e) | e
  · rw [e]; exact heap_lt h.box
  · rw [e]; exact h.mod.lt
  · exact (h.row.lt k e).2
theorem Gw.stay (h : Gw w W p Bd Bm v ms d off D ts) (k : Keeps W W' (fun _ => False)) : Gw w W' p Bd Bm v ms d off D ts :=
  ⟨h.dio.stay k, k.blk h.box, k.blk h.mod, row_kept h.row (fun b hb => k.block b (h.row.lt b hb).2 id), h.o1, h.o3, h.ne⟩
theorem Gw.rowP (h : Gw w W p Bd Bm v ms d off D ts) (ht : Tile 0 ms) : RowP W v ms := by
  refine RowP.of h.row ?_
  rcases ms with _ | ⟨m, r⟩
  · simp [Tile] at ht
  · simp
theorem Gw.cap {g cap : Nat} (h : Gw w W p Bd Bm (.slice (some ⟨g, 0, none⟩) ms.length cap) ms d off D ts) : ms.length ≤ cap := by
  rcases h.row.2 with ⟨e, e0⟩ | ⟨g', cap', cur, e, -, -, hc, -⟩
  · cases e
  · cases e; exact hc
/-- Another directory behind a call, and its copy. -/
theorem Gw.turn {d' : AD} {off' D' : Nat} {ts' : List Int} {X : Nat → Prop} {w2 w3 : World} (h : Gw w W p Bd Bm v ms d off D ts) (hX : ∀ k, ((k = Bd ∨ k = Bm) ∨ v.ownBlock = some k) → X k) (hd : Dio w w2 p X d' off' D' ts') (k : Keeps W w2 (fun k => (w.heap.size ≤ k ∧ ¬ X k) ∧ k < W.heap.size)) (hb : DirB w3 Bd p off' D') (k3 : Keeps w2 w3 (fun i => i = Bd)) : Gw w w3 p Bd Bm v ms d' off' D' ts' := by
  have hnB : v.ownBlock ≠ some Bd := fun e => by have := (h.row.lt Bd e).1; omega
  have h3 := h.o3
  refine ⟨(hd.less hX).kept k3 (fun i e => Or.inl (Or.inl e)) (fun i e => by rw [e]; exact h.o1), hb, ?_, ?_, h.o1, h.o3, h.ne⟩
  · exact k3.blkF (k.blkF h.mod (fun e => e.1.2 (hX _ (Or.inl (Or.inr rfl))))) (by omega)
  · exact row_kept (row_kept h.row (fun b hb => k.block b (h.row.lt b hb).2 (fun e => e.1.2 (hX _ (Or.inr hb))))) (fun b hb => k3.block b (Nat.lt_of_lt_of_le (h.row.lt b hb).2 k.size) (fun e => hnB (by rw [hb, e])))
abbrev RunA (v a : Value) (W : World) (v' : Value) (w' : World) : Prop := ∀ ty, (Builtin.append_ #[33, 33] ty #[v, a]).run Tryz.prog W = .ok v' w'
/-- The i-th table is two. -/
theorem Gw.step (h : Gw w W p Bd Bm v ms d off D ts) {g cap : Nat} (hv : v = .slice (some ⟨g, 0, none⟩) ms.length cap) {i : Nat} (hi : i < ms.length) (hl : ms.length ≤ 64) (t1 t2 : Int) (c1 c2 : Nat) :
    ∃ v1 Wa, RunA (.slice (some ⟨W.heap.size, 0, none⟩) 0 0) (.slice (some ⟨g, 0, none⟩) i c1) (W.alloc (.cells #[] 32)) v1 Wa ∧ Keeps W Wa (fun _ => False) ∧
    ∃ v2 Wb, RunA v1 (.slice (some ⟨Wa.heap.size, 0, none⟩) 2 2) (Wa.alloc (.cells #[.int .i64 t1, .int .i64 ((ms[i].e : Int) + 1), .int .u64 (2 * (ms[i].b : Int)), .int .i64 t2, .int .i64 ((ms[i].e : Int) + 1), .int .u64 (2 * (ms[i].b : Int) + 1)] 32)) v2 Wb ∧ Keeps W Wb (fun _ => False) ∧
    ∃ g3 cap3 Wc, RunA v2 (.slice (if cap = i + 1 then some ⟨g, 0, none⟩ else some ⟨g, (i + 1) * 3, none⟩) (ms.length - (i + 1)) c2) Wb (.slice (some ⟨g3, 0, none⟩) (splitL ms i t1 t2).length cap3) Wc ∧ Keeps W Wc (fun _ => False) ∧
      Gw w (Wc.setCell ⟨Bm, 0, none⟩ (.slice (some ⟨g3, 0, none⟩) (splitL ms i t1 t2).length cap3)) p Bd Bm (.slice (some ⟨g3, 0, none⟩) (splitL ms i t1 t2).length cap3) (splitL ms i t1 t2) d off D ts := by
  have hBd := heap_lt h.box
  have hsrc : ∀ q u, (cellsP ms)[q]? = some u → W.cell? ⟨g, q, none⟩ = some u := fun q u hq => by
    have := h.row.cells (g := g) (by rw [hv]; rfl) _ _ hq
    rw [addr_add, Nat.zero_add] at this
    exact this
  have hsplit : ∀ j, cellsP ms = cellsP (ms.take j) ++ cellsP (ms.drop j) := fun j => by rw [← cellsP_append, List.take_append_drop]
  have k0 : Keeps W (W.alloc (.cells #[] 32)) (fun _ => False) := (Keeps.refl _ _).alloc _
  have own0 : (W.alloc (.cells #[] 32)).ownsRow W.heap.size 32 3 (.slice (some ⟨W.heap.size, 0, none⟩) 0 0) ([] : List PD).length (cellsP []) := World.ownsRow_made W #[] 0 (Nat.le_refl _) (by simp only [maxLen]; omega) (by simp)
  obtain ⟨v1, Wa, r1, ho1, k1, l1⟩ := appP own0 (by simp) (ms.take i) ⟨g, 0, none⟩ i c1 (by rw [List.length_take]; omega) (fun q u hq => by
    rw [addr_add, Nat.zero_add]
    refine k0.cellK (hsrc q u ?_)
    rw [hsplit i, List.getElem?_append_left (List.getElem?_eq_some_iff.1 hq).1]
    exact hq) (by simp; omega)
  have kA : Keeps W Wa (fun _ => False) := k0.trans k1 (fun j hj e => by simp [Value.ownBlock] at e; omega)
  rw [List.nil_append] at ho1
  have f1 : ∀ k, v1.ownBlock = some k → W.heap.size ≤ k := fun k e => (ho1.lt k e).1
  have kb0 : Keeps Wa (Wa.alloc (.cells #[.int .i64 t1, .int .i64 ((ms[i].e : Int) + 1), .int .u64 (2 * (ms[i].b : Int)), .int .i64 t2, .int .i64 ((ms[i].e : Int) + 1), .int .u64 (2 * (ms[i].b : Int) + 1)] 32)) (fun _ => False) := (Keeps.refl _ _).alloc _
  have hb : ms[i]! = ms[i] := getElem!_pos ms i hi
  obtain ⟨v2, Wb, r2, ho2, k2, l2⟩ := appP (ho1.alloc (.cells #[.int .i64 t1, .int .i64 ((ms[i].e : Int) + 1), .int .u64 (2 * (ms[i].b : Int)), .int .i64 t2, .int .i64 ((ms[i].e : Int) + 1), .int .u64 (2 * (ms[i].b : Int) + 1)] 32)) (by simp; have := kA.size; omega) [⟨t1, ms[i].e + 1, 2 * ms[i].b⟩, ⟨t2, ms[i].e + 1, 2 * ms[i].b + 1⟩] ⟨Wa.heap.size, 0, none⟩ 2 2 rfl (fun q u hq => by
    have hblk : (Wa.alloc (.cells #[.int .i64 t1, .int .i64 ((ms[i].e : Int) + 1), .int .u64 (2 * (ms[i].b : Int)), .int .i64 t2, .int .i64 ((ms[i].e : Int) + 1), .int .u64 (2 * (ms[i].b : Int) + 1)] 32)).heap[Wa.heap.size]? = some (.cells #[.int .i64 t1, .int .i64 ((ms[i].e : Int) + 1), .int .u64 (2 * (ms[i].b : Int)), .int .i64 t2, .int .i64 ((ms[i].e : Int) + 1), .int .u64 (2 * (ms[i].b : Int) + 1)] 32) := heap_alloc_new _ _
    rw [addr_add, Nat.zero_add]
    have e6 : cellsP [⟨t1, ms[i].e + 1, 2 * ms[i].b⟩, ⟨t2, ms[i].e + 1, 2 * ms[i].b + 1⟩] = [.int .i64 t1, .int .i64 ((ms[i].e : Int) + 1), .int .u64 (2 * (ms[i].b : Int)), .int .i64 t2, .int .i64 ((ms[i].e : Int) + 1), .int .u64 (2 * (ms[i].b : Int) + 1)] := by simp [cellsP]
    rw [e6] at hq
    unfold World.cell?
    rw [hblk]
    simpa using hq) (by simp; omega)
  have kB : Keeps W Wb (fun _ => False) := (kA.trans kb0 (fun _ _ e => e)).trans k2 (fun j hj e => by have := f1 j e; omega)
  have f2 : ∀ k, v2.ownBlock = some k → W.heap.size ≤ k := fun k e => (ho2.lt k e).1
  have hcap : ms.length ≤ cap := by
    rcases h.row.2 with ⟨e, e0⟩ | ⟨g', cap', cur, e, -, -, hc, -⟩
    · rw [e] at hv; cases hv
    · rw [e] at hv; cases hv; exact hc
  have hx : ∃ v3 Wc, RunA v2 (.slice (if cap = i + 1 then some ⟨g, 0, none⟩ else some ⟨g, (i + 1) * 3, none⟩) (ms.length - (i + 1)) c2) Wb v3 Wc ∧ Wc.ownsRow W.heap.size 32 3 v3 (splitL ms i t1 t2).length (cellsP (splitL ms i t1 t2)) ∧ Keeps Wb Wc (fun k => v2.ownBlock = some k) := by
    have hsl : splitL ms i t1 t2 = ms.take i ++ [⟨t1, ms[i].e + 1, 2 * ms[i].b⟩, ⟨t2, ms[i].e + 1, 2 * ms[i].b + 1⟩] ++ ms.drop (i + 1) := by unfold splitL; rw [hb]
    have hlen2 : (ms.take i ++ [⟨t1, ms[i].e + 1, 2 * ms[i].b⟩, ⟨t2, ms[i].e + 1, 2 * ms[i].b + 1⟩] : List PD).length ≤ 100 := by simp; omega
    by_cases hc : cap = i + 1
    · rw [if_pos hc]
      obtain ⟨v3, Wc, r3, ho3, k3, l3⟩ := appP ho2 kB.size (ms.drop (i + 1)) ⟨g, 0, none⟩ (ms.length - (i + 1)) c2 (by rw [List.length_drop]) (fun q u hq => by
        rw [List.drop_eq_nil_of_le (by omega)] at hq
        simp [cellsP] at hq) (by rw [List.length_drop]; omega)
      exact ⟨v3, Wc, r3, by rw [hsl]; exact ho3, k3⟩
    · rw [if_neg hc]
      obtain ⟨v3, Wc, r3, ho3, k3, l3⟩ := appP ho2 kB.size (ms.drop (i + 1)) ⟨g, (i + 1) * 3, none⟩ (ms.length - (i + 1)) c2 (by rw [List.length_drop]) (fun q u hq => by
        rw [addr_add]
        refine kB.cellK (hsrc _ u ?_)
        rw [hsplit (i + 1), List.getElem?_append_right (by rw [cellsP_length, List.length_take]; omega), cellsP_length, List.length_take, Nat.min_eq_left (by omega), Nat.add_sub_cancel_left]
        exact hq) (by rw [List.length_drop]; omega)
      exact ⟨v3, Wc, r3, by rw [hsl]; exact ho3, k3⟩
  obtain ⟨v3, Wc, r3, ho3, k3⟩ := hx
  have kC : Keeps W Wc (fun _ => False) := kB.trans k3 (fun j hj e => by have := f2 j e; omega)
  rcases id ho3.2 with ⟨e, e0⟩ | ⟨g3, cap3, cur, e, hb3, -⟩
  · exfalso
    unfold splitL at e0
    simp at e0
  subst e
  refine ⟨v1, Wa, r1, kA, v2, Wb, r2, kB, g3, cap3, Wc, r3, kC, ?_⟩
  have hm := h.mod
  have hml := heap_lt hm
  have h3 := h.o3
  have h1 := h.o1
  have kS : Keeps Wc (Wc.setCell ⟨Bm, 0, none⟩ (.slice (some ⟨g3, 0, none⟩) (splitL ms i t1 t2).length cap3)) (fun i => i = Bm) := boxSet Wc _
  have hg3 : W.heap.size ≤ g3 := (ho3.lt g3 rfl).1
  have hg3c : g3 < Wc.heap.size := (ho3.lt g3 rfl).2
  refine ⟨((h.dio.grow kC).less (Y := fun j => (j = Bd ∨ j = Bm) ∨ (Value.slice (some ⟨g3, 0, none⟩) (splitL ms i t1 t2).length cap3).ownBlock = some j) (fun j e => ?_)).kept kS (fun j e => Or.inl (Or.inr e)) (fun j e => by omega), kS.blkF (kC.blk h.box) (by omega), (show Boxed Wc Bm 33 v from kC.blk hm).set _, ?_, h1, h3, ?_⟩
  · rcases e with e | e
    · exact Or.inl (Or.inl e)
    · have e' : g3 = j := by simpa [Value.ownBlock] using e
      exact Or.inr (by omega)
  · have ho4 : Wc.ownsRow (Bd + 1) 32 3 (.slice (some ⟨g3, 0, none⟩) (splitL ms i t1 t2).length cap3) (splitL ms i t1 t2).length (cellsP (splitL ms i t1 t2)) := by
      refine ⟨ho3.1, ?_⟩
      rcases ho3.2 with ⟨e, _⟩ | ⟨g', c', cur', e, hb', r⟩
      · cases e
      · exact Or.inr ⟨g', c', cur', e, by omega, r⟩
    refine row_kept ho4 (fun b hb => kS.block b (ho4.lt b hb).2 (fun e => ?_))
    have e' : g3 = b := by simpa [Value.ownBlock] using hb
    omega
  · intro e
    have e' : g3 = Bm := by simpa [Value.ownBlock] using e
    omega
end
end Go.Proofs.YtdhphakjkgfngaaGreatDoor
/-
  For DirGrows: rows of hashes; which one has a hash, told in one way; where the runs are met.
-/
namespace Go.Proofs.YtdhphakjkgfngaaGreatDoor
open Go.RowKit Go.Shelf
set_option linter.unusedVariables false

def cellU (n : Nat) : Value := .int .u64 (n : Int)
theorem cellU_one : ∀ {xs : List Nat}, ∀ u ∈ xs.map cellU, u.oneCell' = true := by
  intro xs u hu
  obtain ⟨x, -, rfl⟩ := List.mem_map.1 hu
  rfl
theorem InU.keeps {w w' : World} {v : Value} {hs : List Nat} (h : InU w v hs) (k : Keeps w w' (fun _ => False)) : InU w' v hs := by
  rcases h with h | ⟨a, cap, e, hc, hb⟩
  · exact Or.inl h
  · refine Or.inr ⟨a, cap, e, fun j hj => ?_, fun h0 => ?_⟩
    · obtain ⟨b, o, rfl, _⟩ := hb (by omega)
      have := hc j hj
      rw [addr_add] at this ⊢
      exact k.cellK this
    · obtain ⟨b, o, e, hlt⟩ := hb h0
      exact ⟨b, o, e, Nat.lt_of_lt_of_le hlt k.size⟩
theorem InU.copyU {W : World} {v : Value} {zs : List Nat} (h : InU W v zs) (hn : zs.length ≤ 1048576) :
    ∃ a c W', (∀ ty, (Builtin.append_ #[23, 23] ty #[.slice (some ⟨W.heap.size, 0, none⟩) 0 0, v]).run Tryz.prog (W.alloc (.cells #[] 30)) = .ok (.slice (some ⟨a, 0, none⟩) zs.length c) W') ∧ W'.ownsRow W.heap.size 30 1 (.slice (some ⟨a, 0, none⟩) zs.length c) zs.length (zs.map cellU) ∧ Keeps W W' (fun _ => False) := by
  have hi : (Tryz.prog.info? 30).map (fun i => (i.zero, i.size, i.bytes)) = some (some (.int .u64 0), 1, 8) := by kernel_rfl
  obtain ⟨i, q1, q2, q3, q4⟩ := info_parts hi
  have k0 : Keeps W (W.alloc (.cells #[] 30)) (fun _ => False) := (Keeps.refl _ _).alloc _
  have own0 : (W.alloc (.cells #[] 30)).ownsRow W.heap.size 30 1 (.slice (some ⟨W.heap.size, 0, none⟩) 0 0) 0 [] := World.ownsRow_made W #[] 0 (Nat.le_refl _) (by simp only [maxLen]; omega) (by simp)
  have h0 := h.keeps k0
  rcases h0 with ⟨rfl, rfl⟩ | ⟨a, cap, rfl, hc, _⟩
  · have r1 := fun ty => run_append_owned_none (P := Tryz.prog) (w := W.alloc (.cells #[] 30)) W.heap.size 23 ty 30 i 1 Tryz.underlying23 q1 _ 0 [] own0
    exact ⟨_, _, _, r1, own0, k0⟩
  · obtain ⟨v', w2, hr, hown, hgr, hnil, hloc⟩ := run_append_own_at (P := Tryz.prog) (W.alloc (.cells #[] 30)) W.heap.size 23 0 30 i (.int .u64 0) 1 8 Tryz.underlying23 q1 q2 q3 q4 rfl (by omega) _ 0 [] own0 a zs.length cap (zs.map cellU) (by simp)
      (fun j u hu => by
        rw [List.getElem?_map] at hu
        obtain ⟨z, hz, rfl⟩ := Option.map_eq_some_iff.1 hu
        obtain ⟨hj, rfl⟩ := List.getElem?_eq_some_iff.1 hz
        exact hc j hj) cellU_one (by simp only [maxLen]; omega) (by omega) (by simp)
    rw [Nat.zero_add, List.nil_append] at hown
    have K : Keeps W w2 (fun _ => False) := k0.trans ((Keeps.ofGrown hgr).mono (fun i hi e => by
      have e' : W.heap.size = i := by simpa [Value.ownBlock] using e
      exact e'.symm)) (fun i hi e => by
        have e' : i = W.heap.size := e
        omega)
    obtain ⟨_, hh | ⟨g', cap', cur', e1, g2, _⟩⟩ := id hown
    · exact absurd (hnil.1 hh.1).1 (by simp)
    · subst e1
      exact ⟨g', cap', w2, fun ty => hr, hown, K⟩
theorem push3U {W : World} {B : Nat} {v : Value} {ys : List Nat} (hr : W.ownsRow B 30 1 v ys.length (ys.map cellU)) (hB : B ≤ W.heap.size) (hn : ys.length ≤ 100000000) (x y z : Nat) :
    ∃ g c W', (∀ ty, (Builtin.append_ #[23, 23] ty #[v, .slice (some ⟨W.heap.size, 0, none⟩) 3 3]).run Tryz.prog (W.alloc (.cells #[.int .u64 (x : Int), .int .u64 (y : Int), .int .u64 (z : Int)] 30)) = .ok (.slice (some ⟨g, 0, none⟩) (ys.length + 3) c) W') ∧ W'.ownsRow B 30 1 (.slice (some ⟨g, 0, none⟩) (ys.length + 3) c) (ys ++ [x, y, z]).length ((ys ++ [x, y, z]).map cellU) ∧ Keeps W W' (fun k => v.ownBlock = some k) := by
  have hi : (Tryz.prog.info? 30).map (fun i => (i.zero, i.size, i.bytes)) = some (some (.int .u64 0), 1, 8) := by kernel_rfl
  obtain ⟨i, q1, q2, q3, q4⟩ := info_parts hi
  have hblk := heap_alloc_new W (.cells #[.int .u64 (x : Int), .int .u64 (y : Int), .int .u64 (z : Int)] 30)
  obtain ⟨v', w2, hrun, hown, hgr, hnil, hloc⟩ := run_append_own_at (P := Tryz.prog) (W.alloc (.cells #[.int .u64 (x : Int), .int .u64 (y : Int), .int .u64 (z : Int)] 30)) B 23 0 30 i (.int .u64 0) 1 8 Tryz.underlying23 q1 q2 q3 q4 rfl (by omega) v ys.length (ys.map cellU) (hr.alloc _) ⟨W.heap.size, 0, none⟩ 3 3 ([x, y, z].map cellU) (by simp)
    (fun j u hu => by
      rw [addr_add, Nat.zero_add]
      unfold World.cell?
      rw [hblk]
      simpa [cellU] using hu) cellU_one (by simp only [maxLen]; omega) (by omega) (by simp; omega)
  have hown2 : w2.ownsRow B 30 1 v' (ys ++ [x, y, z]).length ((ys ++ [x, y, z]).map cellU) := by
    rw [List.map_append, List.length_append]
    exact hown
  rcases id hown.2 with ⟨e, e0⟩ | ⟨g, c, cur, e, -⟩
  · omega
  · subst e
    exact ⟨g, c, w2, fun ty => hrun, hown2, ((Keeps.refl W _).alloc _).trans (Keeps.ofGrown hgr) (fun _ _ e => e)⟩
theorem rowU_form {W : World} {B : Nat} {v : Value} {ys : List Nat} (h : W.ownsRow B 30 1 v ys.length (ys.map cellU)) : ∃ so cap, v = .slice so ys.length cap ∧ ∀ j (hj : j < ys.length), ∃ g, so = some ⟨g, 0, none⟩ ∧ W.cell? ⟨g, j, none⟩ = some (.int .u64 ((ys[j] : Nat) : Int)) := by
  rcases id h.2 with ⟨h1, h2⟩ | ⟨g, cap, cur, e1, -⟩
  · exact ⟨none, 0, by rw [h2]; exact h1, fun j hj => by omega⟩
  · refine ⟨_, cap, e1, fun j hj => ⟨g, rfl, ?_⟩⟩
    have := h.cells (g := g) (by rw [e1]; rfl) j (cellU ys[j]) (by rw [List.getElem?_map, List.getElem?_eq_getElem hj]; rfl)
    rw [addr_add, Nat.zero_add] at this
    exact this
theorem owner_is {w : World} {v : Value} {ms : List PD} (hR : RowP w v ms) (ht : Tile 0 ms) (h : Nat) (hh : h < 18446744073709551616) {i : Nat} (hi : i < ms.length) (ho : hasN ms[i] h) :
    Calls Tryz.prog 5 #[v, .int .u64 (h : Int)] w fun r w' => r = .returned (.int .i64 (i : Int)) ∧ Keeps w w' (fun _ => False) := by
  refine (owner_any hR ht h hh).mono ?_
  rintro r w' ⟨j, hj, hoj, rfl, k⟩
  have : j = i := tile_one ht hj hi ((hasN_iff (tile_bits ht hj).1).1 hoj) ((hasN_iff (tile_bits ht hi).1).1 ho)
  subst this
  exact ⟨rfl, k⟩
theorem owner_ex {ms : List PD} (ht : Tile 0 ms) (h : Nat) (hh : h < 18446744073709551616) : ∃ i, ∃ hi : i < ms.length, hasN ms[i] h := by
  obtain ⟨i, hi, h3⟩ := tile_has ht (headN h 6) (Nat.zero_le _) (headN_lt h 6 hh (by omega))
  exact ⟨i, hi, (hasN_iff (tile_bits ht hi).1).2 h3⟩
theorem xor_nat (h c : Nat) (hh : h < 18446744073709551616) (hc : c < 18446744073709551616) : bits BinOp.xor IntKind.u64 (h : Int) (c : Int) = ((h ^^^ c : Nat) : Int) ∧ h ^^^ c < 18446744073709551616 :=
  ⟨bits_xor_u64_nat h c hh hc, Nat.xor_lt_two_pow (n := 64) hh hc⟩
/-- Where the next run is looked for, n of them given. -/
def posN (D : Nat) (ms : List PD) (n : Nat) : Nat := if n = 0 then 0 else startN D (ms.getD (n - 1) default) + 1
theorem posN_le {D : Nat} {ts : List Int} {ms : List PD} (c : Coh D ts ms) {n : Nat} (hn : n < ms.length) : posN D ms n ≤ startN D ms[n] := by
  unfold posN
  split
  · omega
  · rename_i h0
    have e : ms.getD (n - 1) default = ms[n - 1] := by rw [List.getD_eq_getElem?_getD, List.getElem?_eq_getElem (by omega)]; rfl
    rw [e]
    have := c.start_mono (i := n - 1) (j := n) (by omega) hn
    have := pow_pos' (D - ms[n - 1].e)
    omega
theorem next_run {D : Nat} {ts : List Int} {ms : List PD} {N : Int} (c : Coh D ts ms) (hd : Diff N ms) {n : Nat} (hn : n ≤ ms.length) {x : Nat × Int} (hx : GxT ts x (posN D ms n)) : ∃ h : n < ms.length, x.1 = startN D ms[n] ∧ x.2 = ms[n].t ∧ x.1 + 1 = posN D ms (n + 1) := by
  obtain ⟨q1, q2, q3, q4, q5⟩ := hx
  obtain ⟨k, hk, hxk⟩ := (c.run1_iff hd q2).1 q4
  have hkn : ¬ k < n := fun q => by
    have e : ms.getD (n - 1) default = ms[n - 1] := by rw [List.getD_eq_getElem?_getD, List.getElem?_eq_getElem (by omega)]; rfl
    unfold posN at q1
    rw [if_neg (by omega), e] at q1
    by_cases e2 : k = n - 1
    · subst e2
      omega
    · have := c.start_mono (i := k) (j := n - 1) (by omega) (by omega)
      have := pow_pos' (D - ms[k].e)
      omega
  have hn2 : n < ms.length := by omega
  refine ⟨hn2, ?_⟩
  have e3 : k = n := by
    refine Classical.byContradiction fun hne => ?_
    have h1 := c.start_mono (i := n) (j := k) (by omega) hk
    have h2 := pow_pos' (D - ms[n].e)
    exact q5 (startN D ms[n]) (posN_le c hn2) (by omega) ((c.run1_iff hd (c.start_lt hn2).1).2 ⟨n, hn2, rfl⟩)
  subst e3
  refine ⟨hxk, ?_, ?_⟩
  · rw [q3, hxk]
    exact (c.ent _ (List.getElem_mem hk)).2 _ (c.start_lt hk).1 (c.start_lt hk).2
  · unfold posN
    rw [if_neg (by omega), hxk, List.getD_eq_getElem?_getD, Nat.add_sub_cancel, List.getElem?_eq_getElem hk]
    rfl
theorem runs_done {D : Nat} {ts : List Int} {ms : List PD} {N : Int} (c : Coh D ts ms) (hd : Diff N ms) {n : Nat} (hn : n ≤ ms.length) (hE : ExT ts (posN D ms n)) : n = ms.length := by
  refine Classical.byContradiction fun hne => ?_
  have hn2 : n < ms.length := by omega
  exact hE (startN D ms[n]) (posN_le c hn2) (c.start_lt hn2).1 ((c.run1_iff hd (c.start_lt hn2).1).2 ⟨n, hn2, rfl⟩)
end Go.Proofs.YtdhphakjkgfngaaGreatDoor
/-
  For DirGrows: the count beside a range over Tables.
-/
namespace Go.Proofs.YtdhphakjkgfngaaGreatDoor
open Go.RowKit Go.Shelf
set_option linter.unusedVariables false

theorem wrap_nat (n : Nat) (h : n ≤ 1000) : IntKind.i64.wrap (n : Int) = (n : Int) := by rw [IntKind.wrap_i64]; omega
theorem wrap_mul (b S x : Nat) (h : x = b * 2 ^ S) (hx : x ≤ 1000) : IntKind.i64.wrap ((b : Int) * 2 ^ S) = (x : Int) := by
  have e : ((b : Int) * 2 ^ S) = (x : Int) := by rw [h, Int.natCast_mul, Int.natCast_pow]; rfl
  rw [e]
  exact wrap_nat x hx
structure Bx1 (R : Prop) : Prop where
  out : R
theorem twice {R G : Prop} (h : Bx1 R → G) (r : R) : G := h ⟨r⟩
structure CT (W6 W : World) (Bq p off D n : Nat) : Prop where
  q : DirB W Bq p off D
  c : Boxed W (Bq + 1) 3 (.int .i64 (n : Int))
  keep : Keeps W6 W (fun _ => False)
  size : W6.heap.size = Bq
  big : Bq + 4 ≤ W.heap.size
section
variable {Wb W6 W W' : World} {Bq p off D n : Nat}
theorem CT.stay (h : CT W6 W Bq p off D n) (k : Keeps W W' (fun _ => False)) : CT W6 W' Bq p off D n := ⟨k.blk h.q, k.blk h.c, h.keep.trans k (fun _ _ e => e), h.size, Nat.le_trans h.big k.size⟩
theorem CT.put (h : CT W6 W Bq p off D n) (o : Obj) : CT W6 (W.putObj (Bq + 2 + 1) o) Bq p off D n := by
  have k : Keeps W (W.putObj (Bq + 2 + 1) o) (fun i => i = Bq + 2 + 1) := (Keeps.ofGrown (grownBy_putObj' W (Bq + 2 + 1) o)).mono (fun i _ e => by cases e; rfl)
  have hs := h.size
  exact ⟨k.blkF h.q (by omega), k.blkF h.c (by omega), h.keep.trans k (fun i hi e => by omega), h.size, Nat.le_trans h.big k.size⟩
theorem CT.set (h : CT W6 W Bq p off D n) (m : Nat) : CT W6 (W.setCell ⟨Bq + 1, 0, none⟩ (.int .i64 (m : Int))) Bq p off D m := by
  have k := boxSet (b := Bq + 1) W (.int .i64 (m : Int))
  have hs := h.size
  exact ⟨k.blkF h.q (by omega), h.c.set _, h.keep.trans k (fun i hi e => by omega), h.size, Nat.le_trans h.big k.size⟩
end
theorem eq_nil_func (W : World) (g : Nat) (x : Array Value) : (binOp .eql 43 (.func (.func g) #[] x) .nilFunc).run Tryz.prog W = .ok (.bool false) W := by
  kernel_rfl
theorem box_true {w W : World} {b : Nat} (h : Boxed W b 4 (.bool false)) (k : Keeps w W (fun _ => False)) (hb : w.heap.size ≤ b) : (W.setCell ⟨b, 0, none⟩ (.bool true)).cell? ⟨b, 0, none⟩ = some (.bool true) ∧ Keeps w (W.setCell ⟨b, 0, none⟩ (.bool true)) (fun _ => False) :=
  ⟨(h.set (.bool true)).cell, k.trans (boxSet (b := b) W (.bool true)) (fun i hi e => by omega)⟩
theorem put_blk {W : World} {l q : Nat} {o o' : Obj} (h : W.heap[q]? = some o') (hne : q ≠ l) : (W.putObj l o).heap[q]? = some o' :=
  ((grownBy_putObj' W l o).block q (Array.getElem?_eq_some_iff.1 h).1 (fun e => hne (by cases e; rfl))).trans h
theorem set_blk {W : World} {l q : Nat} {v : Value} {o' : Obj} (h : W.heap[q]? = some o') (hne : q ≠ l) : (W.setCell ⟨l, 0, none⟩ v).heap[q]? = some o' := (Below.heap_setCell W ⟨l, 0, none⟩ v q hne).trans h

theorem res4 (tmps : Array Value) (w : World) (B : Nat) (v : Value) (hp : tmps.getD 4 undef = .pointer (some ⟨B, 0, none⟩)) (hc : w.cell? ⟨B, 0, none⟩ = some v) : (results Tryz.f3 tmps).run Tryz.prog w = .ok v w := by
  have hp' : tmps[4]?.getD undef = .pointer (some ⟨B, 0, none⟩) := by simpa using hp
  simp [results, Tryz.results3, go_sem, hp', hc]
end Go.Proofs.YtdhphakjkgfngaaGreatDoor
/-
  Lists of splits (a hash each) that came in.
-/
namespace Go.Proofs.YtdhphakjkgfngaaGreatDoor
open Go.ChangeShapes Go.WideShapes Go.ChangeAt Go.RowKit
set_option linter.unusedVariables false

set_option maxRecDepth 100000 in
theorem open_splits {H : Type} {enc : TypeId × Value → H} {w : World} {held : Bool} {base : Nat} {v : Value} {d : DataW H} {ps : List MemPlace} (h : DataW.Trod enc Tryz.prog w 0 (fun _ => true) held 22 v d ps) (hv : Value.okWide Tryz.prog w .any base 22 v) :
    ∃ xs : List Nat, InU w v xs ∧ (∀ j (h : j < xs.length), xs[j] < 18446744073709551616) ∧ xs.length ≤ Rows.uptoBulk d ∧ True := by
  obtain ⟨a0, l0, c0, rfl⟩ := okWide_slice Tryz.underlying22 hv
  obtain ⟨fuel, hf⟩ := h
  rcases Go.Deep.open_slice Tryz.underlying22 hf with ⟨hcs, _⟩ | ⟨a, len, cap, m, n', D, Pl, hcs, _, hl, hm, hmm, hy, hc⟩
  · have hcs' : Value.slice a0 l0 c0 = .slice none 0 0 := by simpa [Value.cells] using hcs
    rw [hcs']
    exact ⟨[], Or.inl ⟨rfl, rfl⟩, fun j hj => by simp at hj, Nat.zero_le _, trivial⟩
  · have hcs' : Value.slice a0 l0 c0 = .slice (some a) len cap := by simpa [Value.cells] using hcs
    rw [hcs']
    have ce : Tryz.prog.cellsOf 35 = 1 := by kernel_rfl
    have hmc : m = cap := by simpa using hmm
    subst hmc
    simp only [Prod.mk.injEq] at hy
    obtain ⟨rfl, _⟩ := hy
    have hn := length_le ((List.range len).map D)
    rw [List.length_map, List.length_range] at hn
    obtain ⟨f, hf⟩ := Go.Deep.choose_lt (α := Nat) (n := len) (p := fun i x => w.cell? (a.add i) = some (.int .u64 (x : Int)) ∧ x < 18446744073709551616) (fun i hi => by
      obtain ⟨cs', h1, h2⟩ := hc i (by omega)
      rw [ce] at h1
      obtain ⟨_, hlen, hcell⟩ := World.cells?_some h1
      obtain ⟨xs, k, hk, hxy, _, hxl, hf⟩ := DataW.trod_struct Tryz.underlying35 h2
      match xs, hxl, cs', hlen with
      | [y0], _, [v0], _ =>
        have g0 := hf 0 _ rfl
        have z3 : Tryz.prog.cellsOf 30 = 1 := by kernel_rfl
        simp [z3] at g0
        have e0 := hcell 0 (by omega)
        rw [Go.Deep.add_add] at e0
        obtain ⟨X0, u0, _, q0⟩ := DataW.trod_int Tryz.underlying30 g0
        simp only [List.cons.injEq, and_true] at u0
        subst u0
        obtain ⟨y, rfl, hy⟩ := u64_nat q0
        exact ⟨y, by simpa using e0, hy⟩)
    refine ⟨(List.range len).map f, Or.inr ⟨a, m, by rw [List.length_map, List.length_range], fun j hj => ?_, fun h0 => ?_⟩, fun j hj => ?_, ?_, trivial⟩
    · have hj' : j < len := by simpa using hj
      rw [(hf j hj').1]
      simp
    · rw [List.length_map, List.length_range] at h0
      exact plain_of_cell (w := w) (a := a) (hf 0 h0).1
    · have hj' : j < len := by simpa using hj
      simpa using (hf j hj').2
    · rw [List.length_map, List.length_range]
      simp only [Rows.uptoBulk]
      omega
end Go.Proofs.YtdhphakjkgfngaaGreatDoor
/-
  A region inside a round of a range over a function, from the region's laws outside of one: what 'wpAnyH' (a load taken first where nobody writes its cell) gives may be used within the round.
-/
namespace Go.Proofs.YtdhphakjkgfngaaGreatDoor
open Go
set_option linter.unusedVariables false

section
variable {P : Program} {ops : Array Oper} {Q : Exit → Act → World → Prop} {md : Region.Mode} {S : World → Prop} {n l : Nat}

theorem callsIn_round {f : FuncId} {args : Array Value} {w : World} {R : Ending → World → Prop} (h : Calls P f args w R) : CallsIn (Fence.wide.inRound l) n P f args w R :=
  ⟨trivial, fun cs _ => let ⟨e, w', fr, r, s, x⟩ := h cs; ⟨e, w', fr, r, by rw [fenced_inRound]; exact comesIn_wide.2 s, x⟩⟩

theorem rowsIn_round {row : String} {args : Array Value} {w : World} {R : Value → World → Prop} (h : Rows P row args w R) : RowsIn (Fence.wide.inRound l) n P row args w R :=
  fun c cs _ => let ⟨v, w', r, s⟩ := h c cs; ⟨v, w', r, by rw [fenced_inRound]; exact stepsIn_wide.2 s⟩

theorem wp_inRound {o : Oper} {a : Act} {w : World} {K : Act → World → Prop} (hd : ∀ c, o.op ≠ .defer c) (h : o.wp P a w K Q) : o.wpIn (Fence.wide.inRound l) n P a w K Q := by
  unfold Oper.wpIn
  refine ⟨fun _ _ => trivial, ?_⟩
  rw [Oper.semAt_plain _ _ _ hd]
  unfold Oper.wp at h
  generalize (execOp a.eval o).run P w = r at *
  cases r with
  | ok x w' =>
    cases x <;> simp only [Oper.upon] at h <;> simp only [Oper.uponIn] <;>
      first
        | exact h
        | exact ⟨fun e => by simp [Fence.wide] at e, callsIn_round h⟩
        | exact ⟨fun e => by simp [Fence.wide] at e, rowsIn_round h⟩
  | halt x w' => cases x <;> simp only [Oper.upon] at h <;> simp only [Oper.uponIn] <;> exact h

theorem wpOp_inRound {i : Nat} {a : Act} {w : World} {K : Act → World → Prop} (hl : ¬ LetsOut Q) (hd : ∀ (o : Oper), ops[i]? = some o → ∀ c, o.op ≠ .defer c)
    (h : wpOp P ops Q i K a w) : wpOpIn (Fence.wide.inRound l) n P ops Q i K a w := by
  unfold wpOp at h
  unfold wpOpIn
  cases ho : ops[i]? with
  | none => simpa [ho] using h
  | some o =>
    simp only [ho] at h ⊢
    split
    · rename_i hw
      simp only [hw, if_true] at h
      rcases h with h | ⟨_, h⟩
      · exact wp_inRound (hd o ho) h
      · exact absurd h hl
    · rename_i hw
      simp only [hw] at h
      exact ⟨fun _ _ => trivial, h⟩

theorem wpAny_inRound (hl : ¬ LetsOut Q) (hd : ∀ (i : Nat) (o : Oper), ops[i]? = some o → ∀ c, o.op ≠ .defer c) : ∀ (fuel : Nat) (listed : Array Bool) (a : Act) (w : World),
    wpAny P md ops Q fuel listed a w → wpAnyIn (Fence.wide.inRound l) n P md ops Q fuel listed a w
  | 0, _, _, _, h => h
  | fuel + 1, _, _, _, h => ⟨h.1, fun i hi => wpOpIn_mono (fun a' w' h' => wpAny_inRound hl hd fuel _ a' w' h') (wpOp_inRound hl (hd i) (h.2 i hi))⟩

/-- Begin a region with a held condition, inside a round. -/
theorem wpIn_region_held {id : Nat} {a : Act} {w : World} (S : World → Prop) (hm : P.follows .mixedOrders = true) (hl : ¬ LetsOut Q) (hd : ∀ (i : Nat) (o : Oper), ops[i]? = some o → ∀ c, o.op ≠ .defer c)
    (h : wpAnyH P .any ops Q S ops.size (Array.replicate ops.size false) a { w with drawn := w.drawn + 1 }) :
    (Code.region id ops true).wpIn (Fence.wide.inRound l) n P Q a w :=
  wpIn_region_any hm (wpAny_inRound hl hd _ _ _ _ (wpAny_of_held _ _ _ _ h))

/-- The post of an exit that is the usual one alone. -/
def Only (Q : Exit → Act → World → Prop) : Exit → Act → World → Prop
  | .normal, a, w => Q .normal a w
  | _, _, _ => False
theorem Only.imp : ∀ (e : Exit) (a : Act) (w : World), Only Q e a w → Q e a w := fun e a w h => by
  cases e <;> first | exact h | exact (h : False).elim
theorem Only.normal {a : Act} {w : World} (h : Q .normal a w) : Only Q .normal a w := h
theorem Only.shut : ¬ LetsOut (Only Q) := fun ⟨_, _, h⟩ => h

/-- The same for whatever post: nothing but the usual exit is met on the way. -/
theorem wpIn_region_only {id : Nat} {a : Act} {w : World} (S : World → Prop) (hm : P.follows .mixedOrders = true) (hd : ∀ (i : Nat) (o : Oper), ops[i]? = some o → ∀ c, o.op ≠ .defer c) (hS : S w.drew)
    (h : S w.drew → wpAnyH P .any ops (Only Q) S ops.size (Array.replicate ops.size false) a w.drew) :
    (Code.region id ops true).wpIn (Fence.wide.inRound l) n P Q a w :=
  wpIn_mono (wpIn_region_held S hm Only.shut hd (h hS)) Only.imp

def noDefers (ops : Array Oper) : Bool := ops.all fun o => match o.op with | .defer _ => false | _ => true
theorem noDefers_spec (h : noDefers ops = true) : ∀ (i : Nat) (o : Oper), ops[i]? = some o → ∀ c, o.op ≠ .defer c := by
  intro i o ho c hc
  obtain ⟨hi, e⟩ := Array.getElem?_eq_some_iff.1 ho
  have h2 := Array.all_eq_true.1 h i hi
  rw [e, hc] at h2
  simp at h2
end

end Go.Proofs.YtdhphakjkgfngaaGreatDoor
