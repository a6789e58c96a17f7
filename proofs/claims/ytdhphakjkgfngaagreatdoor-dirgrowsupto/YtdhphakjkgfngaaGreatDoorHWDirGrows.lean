/-
  DirGrows's walk.
-/
import Derived.Test.YtdhphakjkgfngaaGreatDoorGn14
import Derived.Deep.RegionHeld
namespace Go.Proofs.YtdhphakjkgfngaaGreatDoor
open Go.RowKit Go.Shelf
set_option linter.unusedVariables false
namespace dirGrows

attribute [local go_sem] Oper.semAt_some

theorem ucells {w : World} {so : Option Addr} {cp : Nat} {hs : List Nat} (h : InU w (.slice so hs.length cp) hs) : ∀ j (hj : j < hs.length), ∃ b o, so = some ⟨b, o, none⟩ ∧ w.cell? ⟨b, o + j, none⟩ = some (.int .u64 ((hs[j] : Nat) : Int)) := by
  obtain ⟨so', cp', e, hc⟩ := h.form
  injection e with e1 e2 e3
  subst e1
  exact hc
theorem start_in (w : World) : InZ ((w.alloc (.cells #[.bool false] 4)).alloc (.cells #[.int .i64 1] 3)) (.slice (some ⟨w.heap.size + 1, 0, none⟩) 1 1) [1] := by
  have h : ((w.alloc (.cells #[.bool false] 4)).alloc (.cells #[.int .i64 1] 3)).heap[w.heap.size + 1]? = some (.cells #[.int .i64 1] 3) := by
    have := heap_alloc_new (w.alloc (.cells #[.bool false] 4)) (.cells #[.int .i64 1] 3)
    simpa using this
  refine Or.inr ⟨⟨w.heap.size + 1, 0, none⟩, 1, rfl, fun j hj => ?_, fun _ => ⟨_, _, rfl, heap_lt h⟩⟩
  rw [addr_add]
  have hj0 : j = 0 := by simp at hj; omega
  subst hj0
  exact (one_cell h).1
theorem coh_start : Coh 0 [1] [⟨1, 0, 0⟩] := by
  refine ⟨⟨by decide, by decide, rfl⟩, by decide, rfl, fun m hm => ?_⟩
  simp at hm
  subst hm
  refine ⟨by decide, fun j hj _ => ?_⟩
  have : j = 0 := by simp at hj; omega
  subst this
  rfl
theorem diff_start : Diff 2 [⟨1, 0, 0⟩] := ⟨by simp, fun m hm => by simp at hm; subst hm; decide⟩
/-- The first loop's state. -/
def St (w W : World) (p Bd Bm n : Nat) (v : Value) (ms : List PD) : Prop := ∃ d off D ts, Gw w W p Bd Bm v ms d off D ts ∧ Coh D ts ms ∧ Diff (2 * (n : Int) + 2) ms

set_option maxRecDepth 100000 in
set_option maxHeartbeats 64000000 in
theorem walk (v u : Value) (ss hs : List Nat) (w : World) (hT : TabAt w) (hv : InU w v ss) (hsl : ss.length ≤ 1048576) (hss : ∀ j (h : j < ss.length), ss[j] < 18446744073709551616) (hu : InU w u hs) (hul : hs.length ≤ 1048576) (hus : ∀ j (h : j < hs.length), hs[j] < 18446744073709551616) :
    Calls Tryz.prog 3 #[v, u] w fun e w' => Post w e w' := by
  obtain ⟨sv, cv, rfl, -⟩ := hv.form
  obtain ⟨su, cu, rfl, -⟩ := hu.form
  have HV := hide (ucells hv)
  have HU := hide hu
  have HSS := hide hss
  have HUS := hide hus
  have HT := hide hT
  have hM := made_yes (.slice (some ⟨w.heap.size + 1, 0, none⟩) 1 1) [1] ((w.alloc (.cells #[.bool false] 4)).alloc (.cells #[.int .i64 1] 3)) (hT.keeps (((Keeps.refl w _).alloc _).alloc _)) (start_in w) (by simp) (fun j hj => by simp at hj; subst hj; exact fitsI_mk (by simp) (by simp)) (by decide)
  clear hv hu hss hus hT
  refine (callsIn_wide (n := 8)).1 ?_
  refine callsIn_of_wp_marks Tryz.func3 rfl trivial ?_ rfl
  simp only [Tryz.ntmps3, List.size_toArray, List.length_cons, List.length_nil, Nat.reduceAdd, Nat.reduceSub, Array.replicate_succ, Array.replicate_zero, List.push_toArray, List.append_toArray, List.nil_append, List.cons_append]
  rw [wpIn_wide]
  go_wp2_with fail
  have br0 : ((w.alloc (.cells #[.bool false] 4)).alloc (.cells #[.int .i64 1] 3)).heap[w.heap.size]? = some (.cells #[.bool false] 4) := heap_alloc_old (heap_alloc_new w _) _
  have KA : Keeps w ((w.alloc (.cells #[.bool false] 4)).alloc (.cells #[.int .i64 1] 3)) (fun _ => False) := ((Keeps.refl w _).alloc _).alloc _
  have hsA : ((w.alloc (.cells #[.bool false] 4)).alloc (.cells #[.int .i64 1] 3)).heap.size = w.heap.size + 2 := by simp
  generalize (w.alloc (.cells #[.bool false] 4)).alloc (.cells #[.int .i64 1] 3) = WA at *
  (with_reducible refine hM.mono ?_)
  rintro e w2 ⟨p, off, D, d, rfl, hMd⟩
  clear hM
  obtain rfl : D = 0 := by have := hMd.dep; simp [depI] at this; omega
  have K2 := hMd.dir.own.keeps
  have hlt2 := K2.size
  have hG0 : Gw WA (((w2.alloc (.cells #[.pointer (some ⟨p, 0, none⟩), .int .i64 (off : Int), .int .i64 ((0 : Nat) : Int)] 26)).alloc (.cells #[.int .i64 1, .int .i64 0, .int .u64 0] 32)).alloc (.cells #[.slice (some ⟨w2.heap.size + 1, 0, none⟩) 1 1] 33)) p w2.heap.size (w2.heap.size + 1 + 1) (.slice (some ⟨w2.heap.size + 1, 0, none⟩) 1 1) [⟨1, 0, 0⟩] d off 0 [1] := by
    refine alloc3 (P := fun W => Gw WA W p w2.heap.size (w2.heap.size + 1 + 1) (.slice (some ⟨w2.heap.size + 1, 0, none⟩) 1 1) [⟨1, 0, 0⟩] d off 0 [1]) fun W b1 b2 b3 hz K => ?_
    refine ⟨⟨(hMd.dir.grow K).less (fun k e => ?_), hMd.used, hMd.limit, hMd.lv⟩, b1, b3, ⟨by simp [cellsP], Or.inr ⟨w2.heap.size + 1, 1, _, rfl, by omega, b2, by simp, by simp only [maxLen]; omega, by simp, by simp [cellsP]⟩⟩, hlt2, by omega, by simp [Value.ownBlock]⟩
    rcases e with (e | e) | e
    · exact Or.inr (by omega)
    · exact Or.inr (by omega)
    · have e' : w2.heap.size + 1 = k := by simpa [Value.ownBlock] using e
      exact Or.inr (by omega)
  have HG0 := hide hG0
  have HTA := hide (HT.out.keeps KA)
  have HKA := hide KA
  have Hbr := hide br0
  rw [show ((0 : Nat) : Int) = 0 from rfl] at HG0 ⊢
  clear hG0 hMd K2 br0 KA HT
  go_wp2_with fail
  generalize (((w2.alloc (.cells #[.pointer (some ⟨p, 0, none⟩), .int .i64 (off : Int), .int .i64 0] 26)).alloc (.cells #[.int .i64 1, .int .i64 0, .int .u64 0] 32)).alloc (.cells #[.slice (some ⟨w2.heap.size + 1, 0, none⟩) 1 1] 33)) = W3 at *
  generalize hBm : w2.heap.size + 1 + 1 = Bm at *
  generalize hBd : w2.heap.size = Bd at *
  clear hBm hBd
  go_loopw [40] (fun vi wr => ∃ (n : Nat) (v : Value) (ms : List PD), vi = .int .i64 (n : Int) ∧ n ≤ ss.length ∧ Hid (St WA wr p Bd Bm n v ms)) (fun vi _ => ss.length - (intOf vi).toNat)
  case atStart => exact ⟨0, _, _, rfl, Nat.zero_le _, d, off, 0, [1], HG0.out, coh_start, diff_start⟩
  case round =>
    clear HG0
    obtain ⟨n, v, ms, rfl, hn, HSt⟩ := hrel
    by_cases hlt : n < ss.length
    · have hlt' : (n : Int) < (ss.length : Int) := by omega
      obtain ⟨d, off, D, ts, hG, hC, hDf⟩ := HSt.out
      obtain ⟨b, o, rfl, hcell⟩ := HV.out n hlt
      have hhs := HSS.out n hlt
      have hcw := (HKA.out.trans hG.dio.dir.own.keeps (fun _ _ e => e)).cellK hcell
      obtain ⟨g, cap, rfl, -⟩ := hG.rowP hC.tile
      have hml := tile_le hC.tile
      generalize ss[n] = h at *
      have K1 : Keeps wr (wr.alloc (.cells #[.int .u64 (h : Int)] 35)) (fun _ => False) := (Keeps.refl _ _).alloc _
      have hG1 := hG.stay K1
      have hOw := owner_any (hG1.rowP hC.tile) hC.tile h hhs
      have m1 := hG1.mod.cell
      have HG1 := hide hG1
      have HC := hide hC
      have HDf := hide hDf
      clear hG1 hG hC hDf HSt hcell
      go_wp2_with fail
      (with_reducible refine hOw.mono ?_)
      rintro r W2 ⟨i, hi, ho, rfl, k2⟩
      have HG2 := hide (HG1.out.stay k2)
      have hsB := k2.blk (heap_alloc_new wr (.cells #[.int .u64 (h : Int)] 35))
      have hi' : (i : Int) < (ms.length : Int) := by omega
      have m2 := HG2.out.mod.cell
      obtain ⟨g', cap', hgc, hrc⟩ := HG2.out.rowP HC.out.tile
      cases hgc
      obtain ⟨e0, e1, e2⟩ := cellsP_get ms i hi
      have x0 := hrc _ _ e0
      have x1 := hrc _ _ e1
      have x2 := hrc _ _ e2
      obtain ⟨he6, hb6⟩ := tile_bits HC.out.tile hi
      have hb64 : ms[i].b < 64 := Nat.lt_of_lt_of_le hb6 (pow_le6 he6)
      have HO := hide ho
      clear hOw m1 K1 HG1 k2 hcw e0 e1 e2 hrc ho hb6
      by_cases h6 : ms[i].e = 6
      · have h6' : ((ms[i].e : Int) == 6) = true := by simp; omega
        have HSt2 : Hid (∀ W, Keeps W2 W (fun _ => False) → St WA W p Bd Bm (n + 1) (.slice (some ⟨g, 0, none⟩) ms.length cap) ms) := fun W k => ⟨d, off, D, ts, HG2.out.stay k, HC.out, HDf.out.1, fun m hm => by have := HDf.out.2 m hm; omega⟩
        clear h6 HO
        generalize ms[i].t = mt at *
        generalize ms[i].e = me at *
        generalize ms[i].b = mb at *
        go_wp2_with fail
        go_roundw
        case rel => exact ⟨n + 1, _, ms, by go_num, by omega, HSt2.out _ ((Keeps.refl _ _).alloc _)⟩
        case measure => simp [intOf]; omega
      · have h6' : ((ms[i].e : Int) == 6) = false := by simp; omega
        have f1 : fitsI (2 * (n : Int) + 2) := fitsI_mk (by omega) (by omega)
        have f2 : fitsI (2 * (n : Int) + 3) := fitsI_mk (by omega) (by omega)
        have HSp : Hid (∀ W3, Keeps W2 W3 (fun _ => False) → Calls Tryz.prog 6 #[.agg #[.pointer (some ⟨p, 0, none⟩), .int .i64 (off : Int), .int .i64 (D : Int)], .agg #[.int .i64 ms[i].t, .int .i64 (ms[i].e : Int), .int .u64 (ms[i].b : Int)], .int .u64 (h : Int), .int .i64 (2 * (n : Int) + 2), .int .i64 (2 * (n : Int) + 3)] W3 fun r w' => SplitsPost WA W3 p (fun k => ((k = Bd ∨ k = Bm) ∨ (Value.slice (some ⟨g, 0, none⟩) ms.length cap).ownBlock = some k) ∨ (W2.heap.size ≤ k ∧ k < W3.heap.size)) (splitL ms i (2 * (n : Int) + 2) (2 * (n : Int) + 3)) r w') := fun W3 k3 =>
          splits_any (HG2.out.dio.grow k3) (fun k hk => hk.elim (fun e => Nat.lt_of_lt_of_le (HG2.out.lt k e) k3.size) (fun e => e.2)) HTA.out HC.out hi (by omega) h hhs HO.out _ _ f1 f2
        have HDf2 : Hid (Diff (2 * ((n + 1 : Nat) : Int) + 2) (splitL ms i (2 * (n : Int) + 2) (2 * (n : Int) + 3))) := by
          have := HDf.out.split i
          rw [show 2 * (n : Int) + 2 + 2 = 2 * ((n + 1 : Nat) : Int) + 2 by omega, show 2 * (n : Int) + 2 + 1 = 2 * (n : Int) + 3 by omega] at this
          exact this
        have hStep := fun W d off D ts (hG : Gw WA W p Bd Bm (.slice (some ⟨g, 0, none⟩) ms.length cap) ms d off D ts) => hG.step rfl hi (by omega) (2 * (n : Int) + 2) (2 * (n : Int) + 3) cap (cap - (i + 1))
        have HStep := hide hStep
        clear h6 HO hStep HDf HC
        generalize ms[i].t = mt at *
        generalize ms[i].e = me at *
        generalize ms[i].b = mb at *
        have b5 := HG2.out.box
        obtain ⟨⟨c0, c1, c2⟩, -⟩ := three_cells b5
        have hs0 := (one_cell hsB).1
        have HsB := hide hsB
        have K3 : Keeps W2 (((W2.alloc (.cells #[.int .i64 mt, .int .i64 (me : Int), .int .u64 (mb : Int)] 32)).alloc (.cells #[.int .i64 (2 * (n : Int) + 2), .int .i64 ((me : Int) + 1), .int .u64 (2 * (mb : Int))] 32)).alloc (.cells #[.int .i64 (2 * (n : Int) + 3), .int .i64 ((me : Int) + 1), .int .u64 (2 * (mb : Int) + 1)] 32)) (fun _ => False) := (((Keeps.refl _ _).alloc _).alloc _).alloc _
        have d0 := K3.cellK c0
        have d1 := K3.cellK c1
        have d2 := K3.cellK c2
        have hs3 := K3.cellK hs0
        clear f1 f2 b5 hsB c0 c1 c2 hs0 K3
        go_wp2_with fail
        refine alloc3 (P := fun W => Calls _ _ _ W _) fun W3 bp bl bh hz3 K3 => ?_
        (with_reducible refine (HSp.out W3 K3).mono ?_)
        rintro r W4 ⟨off4, D4, d4, ts4, rfl, hdio, hcoh, k4⟩
        have hG3 := HG2.out.stay K3
        have hlow : Bd < W2.heap.size := HG2.out.lt Bd (Or.inl (Or.inl rfl))
        have bl4 := k4.blkF bl (fun e => e.1.2 (Or.inr ⟨by omega, by omega⟩))
        have bh4 := k4.blkF bh (fun e => e.1.2 (Or.inr ⟨by omega, by omega⟩))
        have bB4 := k4.blkF hG3.box (fun e => e.1.2 (Or.inl (Or.inl (Or.inl rfl))))
        have q5 : (set3 W4 Bd (.pointer (some ⟨p, 0, none⟩)) (.int .i64 (off4 : Int)) (.int .i64 (D4 : Int))).heap[Bd]? = some (.cells #[.pointer (some ⟨p, 0, none⟩), .int .i64 (off4 : Int), .int .i64 (D4 : Int)] 26) := set3_any bB4 (P := fun W => W.heap[Bd]? = some (.cells #[.pointer (some ⟨p, 0, none⟩), .int .i64 (off4 : Int), .int .i64 (D4 : Int)] 26)) (fun W h _ => h)
        have hG5 := hG3.turn (fun k e => Or.inl e) hdio k4 q5 (set3_keeps _ _ _ _ _)
        obtain ⟨v1, Wa, hap1, kA, v2, Wb, hap2, kB, g3, cap3, Wc, hap3, kC, hG6⟩ := HStep.out _ d4 off4 D4 ts4 hG5
        have bl5 := (set3_keeps W4 Bd (.pointer (some ⟨p, 0, none⟩)) (.int .i64 (off4 : Int)) (.int .i64 (D4 : Int))).blkF bl4 (by omega)
        have bh5 := (set3_keeps W4 Bd (.pointer (some ⟨p, 0, none⟩)) (.int .i64 (off4 : Int)) (.int .i64 (D4 : Int))).blkF bh4 (by omega)
        obtain ⟨⟨l0, l1, l2⟩, -⟩ := three_cells (kA.blk bl5)
        obtain ⟨⟨y0, y1, y2⟩, -⟩ := three_cells (kA.blk bh5)
        have m5 := (hG5.stay ((Keeps.refl _ (fun _ => False)).alloc (.cells #[] 32))).mod.cell
        have mB := (hG5.stay kB).mod.cell
        have mC := (hG5.stay kC).mod.cell
        have mF := (hG5.stay kC).mod.frozen
        obtain ⟨⟨z0, z1, z2⟩, g0, g1, g2⟩ := three_cells bB4
        have HSt2 : Hid (St WA _ p Bd Bm (n + 1) _ (splitL ms i (2 * (n : Int) + 2) (2 * (n : Int) + 3))) := ⟨d4, off4, D4, ts4, hG6, hcoh, HDf2.out⟩
        have hsz5 : (set3 W4 Bd (.pointer (some ⟨p, 0, none⟩)) (.int .i64 (off4 : Int)) (.int .i64 (D4 : Int))).heap.size = W4.heap.size := by simp [set3, World.setCell]
        rw [hsz5] at hap1
        clear hsz5
        have hcap := HG2.out.cap
        have hc1 : i ≤ cap := by omega
        have hc2 : (i : Int) ≤ (cap : Int) := by omega
        have hc3 : i + 1 ≤ ms.length := by omega
        have hc4 : (i : Int) + 1 ≤ (ms.length : Int) := by omega
        have hc5 : ms.length ≤ cap := hcap
        have hslen : (splitL ms i (2 * (n : Int) + 2) (2 * (n : Int) + 3)).length = (splitL ms i (2 * (n : Int) + 2) (2 * (n : Int) + 3)).length := rfl
        clear hslen hG6 hcoh hG5 bl5 bh5 q5 bl4 bh4 bB4 hG3 hdio k4 HStep HDf2 HSp d0 d1 d2 hs3 bp bl bh hz3 K3 kA kB kC HsB x0 x1 x2 m2 h6' hlow
        go_wp2_with (first | (at_builtin; have _t := hap1; refine app_run _ rfl (.tmp 91) (.tmp 94) 33 rfl rfl rfl hap1 ?_; clear hap1 _t) | (at_builtin; have _t := hap2; refine app_run _ rfl (.tmp 96) (.tmp 99) 33 rfl rfl rfl hap2 ?_; clear hap2 _t) | (at_builtin; have _t := hap3; refine app_run _ rfl (.tmp 101) (.tmp 105) 33 rfl rfl rfl hap3 ?_; clear hap3 _t))
        all_goals go_roundw
        all_goals first | exact ⟨n + 1, _, _, by go_num, by omega, HSt2⟩ | (simp [intOf]; omega)
    · have hlt' : ¬ (n : Int) < (ss.length : Int) := by omega
      obtain rfl : n = ss.length := by omega
      obtain ⟨d, off, D, ts, hG, hC, hDf⟩ := HSt.out
      obtain ⟨g, cap, rfl, -⟩ := hG.rowP hC.tile
      have hKw := HKA.out.trans hG.dio.dir.own.keeps (fun _ _ e => e)
      obtain ⟨a0, c0, W2, hap, hrow0, k2⟩ := (HU.out.keeps hKw).copyU hul
      obtain ⟨W1, hW1⟩ : ∃ W1, W1 = wr := ⟨_, rfl⟩
      rw [← hW1] at hG hKw hap hrow0 k2 ⊢
      clear hW1
      have HG := hide hG
      have HC := hide hC
      have HDf := hide hDf
      have HKw := hide hKw
      have Hrow0 := hide hrow0
      have Hk2 := hide k2
      have hs1 := k2.size
      clear hG hC hDf hKw hrow0 k2 HSt
      go_wp2_with (first | (at_builtin; have _t := hap; refine app_run _ rfl (.tmp 108) (.tmp 109) 23 rfl rfl rfl hap ?_; clear hap _t))
      go_loopw [16, 113] (fun va vi wr => ∃ (j : Nat) (ys : List Nat), vi = .int .i64 (j : Int) ∧ j ≤ ss.length ∧ ys.length = hs.length + 3 * j ∧ (∀ k (h : k < ys.length), ys[k] < 18446744073709551616) ∧ wr.ownsRow W1.heap.size 30 1 va ys.length (ys.map cellU) ∧ Keeps W1 wr (fun _ => False)) (fun _ vi _ => ss.length - (intOf vi).toNat)
      case atStart => exact ⟨0, hs, rfl, Nat.zero_le _, by omega, HUS.out, Hrow0.out, Hk2.out⟩
      case round =>
        obtain ⟨j, ys, rfl, hj, hyl, hyb, hR, kr⟩ := hrel
        clear Hrow0 Hk2
        have HYB := hide hyb
        clear hyb
        by_cases hlt2 : j < ss.length
        · have hlt2' : (j : Int) < (ss.length : Int) := by omega
          obtain ⟨b, o, rfl, hcell⟩ := HV.out j hlt2
          have hcw := (HKw.out.trans kr (fun _ _ e => e)).cellK hcell
          have hhs := HSS.out j hlt2
          generalize ss[j] = h at *
          obtain ⟨x1, x2⟩ := xor_nat h 9223372036854775808 hhs (by decide)
          obtain ⟨x3, x4⟩ := xor_nat h 288230376151711744 hhs (by decide)
          rw [show ((9223372036854775808 : Nat) : Int) = 9223372036854775808 from rfl] at x1
          rw [show ((288230376151711744 : Nat) : Int) = 288230376151711744 from rfl] at x3
          have hb0 : W1.heap.size ≤ (wr.alloc (.cells #[.int .u64 (h : Int)] 35)).heap.size := by have := kr.size; simp; omega
          obtain ⟨g9, c9, W9, hap9, hR9, k9⟩ := push3U (hR.alloc (.cells #[.int .u64 (h : Int)] 35)) hb0 (by omega) h (h ^^^ 9223372036854775808) (h ^^^ 288230376151711744)
          have HYB2 : Hid (∀ k (hk : k < (ys ++ [h, h ^^^ 9223372036854775808, h ^^^ 288230376151711744]).length), (ys ++ [h, h ^^^ 9223372036854775808, h ^^^ 288230376151711744])[k] < 18446744073709551616) := fun k hk => by
            have hm := List.getElem_mem hk
            rcases List.mem_append.1 hm with q | q
            · obtain ⟨k', hk', e'⟩ := List.getElem_of_mem q
              rw [← e']
              exact HYB.out k' hk'
            · simp only [List.mem_cons, List.not_mem_nil, or_false] at q
              rcases q with q | q | q
              · rw [q]; exact hhs
              · rw [q]; exact x2
              · rw [q]; exact x4
          have HK9 : Hid (Keeps W1 W9 (fun _ => False)) := (kr.trans ((Keeps.refl wr (fun _ => False)).alloc _) (fun _ _ e => e)).trans k9 (fun i hi e => by have := (hR.lt i e).1; omega)
          have HR9 := hide hR9
          rw [show (wr.alloc (.cells #[.int .u64 (h : Int)] 35)).heap.size = wr.heap.size + 1 by simp] at hap9
          clear hR kr hR9 k9 hcell HYB x2 x4 hb0
          generalize h ^^^ 9223372036854775808 = y1 at *
          generalize h ^^^ 288230376151711744 = y2 at *
          go_wp2_with (first | (at_builtin; have _t := hap9; refine app_run _ rfl (.tmp 117) (.tmp 126) 23 rfl rfl rfl hap9 ?_; clear hap9 _t))
          go_roundw
          case rel => exact ⟨j + 1, ys ++ [h, y1, y2], by go_num, by omega, by simp; omega, HYB2.out, by simpa [hyl] using HR9.out, HK9.out⟩
          case measure => simp [intOf]; omega
        · have hlt2' : ¬ (j : Int) < (ss.length : Int) := by omega
          obtain ⟨W5, hW5⟩ : ∃ W5, W5 = wr := ⟨_, rfl⟩
          rw [← hW5] at hR kr ⊢
          clear hW5
          obtain ⟨sy, cy, rfl, hyc⟩ := rowU_form hR
          have HYC := hide hyc
          have HG5 := hide (HG.out.stay kr)
          have hyl2 : ys.length ≤ 4194304 := by omega
          clear hyc hR HG hyl
          go_wp2_with fail
          go_loopw [131] (fun vk wq => ∃ k : Nat, vk = .int .i64 (k : Int) ∧ k ≤ ys.length ∧ Keeps W5 wq (fun _ => False)) (fun vk _ => ys.length - (intOf vk).toNat)
          case atStart => exact ⟨0, rfl, Nat.zero_le _, Keeps.refl _ _⟩
          case round =>
            obtain ⟨k, rfl, hk, kq⟩ := hrel
            have HGq := hide (HG5.out.stay kq)
            by_cases hlt3 : k < ys.length
            · have hlt3' : (k : Int) < (ys.length : Int) := by omega
              obtain ⟨gy, rfl, hcy⟩ := HYC.out k hlt3
              have hcq := kq.cellK hcy
              have hhy := HYB.out k hlt3
              generalize ys[k] = h at *
              obtain ⟨i, hi, ho⟩ := owner_ex HC.out.tile h hhy
              have hin : headN h D < ts.length := by rw [HC.out.len]; exact headN_lt h D hhy (by have := HC.out.dep; omega)
              have hP := dpick_any HGq.out.dio.dir h hhy hin
              have hz : ts[headN h D] = ms[i].t := by
                rw [← HC.out.pick hhy (List.getElem_mem hi) ho, List.getD_eq_getElem?_getD, List.getElem?_eq_getElem hin]
                rfl
              rw [hz] at hP
              have HOw : Hid (∀ W, Keeps wr W (fun _ => False) → Calls Tryz.prog 5 #[.slice (some ⟨g, 0, none⟩) ms.length cap, .int .u64 (h : Int)] W fun r w' => r = .returned (.int .i64 (i : Int)) ∧ Keeps W w' (fun _ => False)) := fun W kk => owner_is ((HGq.out.stay kk).rowP HC.out.tile) HC.out.tile h hhy hi ho
              have HS : Hid (∀ W, Keeps wr W (fun _ => False) → W.cell? ⟨Bm, 0, none⟩ = some (.slice (some ⟨g, 0, none⟩) ms.length cap) ∧ W.cell? ⟨g, i * 3, none⟩ = some (.int .i64 ms[i].t)) := fun W kk => by
                refine ⟨(HGq.out.stay kk).mod.cell, ?_⟩
                obtain ⟨g', cap', hgc, hrc⟩ := (HGq.out.stay kk).rowP HC.out.tile
                cases hgc
                exact hrc _ _ (cellsP_get ms i hi).1
              obtain ⟨⟨c0', c1', c2'⟩, -⟩ := three_cells HGq.out.box
              have hi' : (i : Int) < (ms.length : Int) := by omega
              clear hz hin ho hcy
              generalize ms[i].t = z at *
              generalize headN h D = m at *
              go_wp2_with fail
              (with_reducible refine hP.mono ?_)
              rintro r W6 ⟨rfl, k6⟩
              have KD : Keeps wr W6.drew (fun _ => False) := k6.drew
              have S0 := HS.out _ KD
              have hOw := HOw.out _ KD
              clear hP c0' c1' c2' hcq
              go_wp2_with fail
              go_region_held3 (fun w' => w'.cell? ⟨Bm, 0, none⟩ = some (.slice (some ⟨g, 0, none⟩) ms.length cap) ∧ w'.cell? ⟨g, i * 3, none⟩ = some (.int .i64 z)) (first | with_reducible assumption | with_reducible exact S0)
                (first | (go_at_call 5; (with_reducible refine hOw.mono ?_); rintro r wA ⟨rfl, kA⟩; have SA := HS.out _ (KD.trans kA (fun _ _ e => e))))
              have KA := hide (kq.trans (KD.trans kA (fun _ _ e => e)) (fun _ _ e => e))
              clear S0 SA HS HOw hOw kA KD k6 kq HGq
              go_wp2_with fail
              go_roundw
              case rel => exact ⟨k + 1, by go_num, by omega, KA.out⟩
              case measure => simp [intOf]; omega
            · have hlt3' : ¬ (k : Int) < (ys.length : Int) := by omega
              obtain ⟨W6, hW6⟩ : ∃ W6, W6 = wr := ⟨_, rfl⟩
              rw [← hW6] at HGq kq ⊢
              clear hW6
              obtain ⟨⟨c0', c1', c2'⟩, -⟩ := three_cells HGq.out.box
              have HK6 : Hid (Keeps w W6 (fun _ => False)) := HKw.out.trans (kr.trans kq (fun _ _ e => e)) (fun _ _ e => e)
              have HKA6 := hide HGq.out.dio.dir.own.keeps
              have hlen := tile_le HC.out.tile
              clear HG5 HYC HYB kr kq HKw
              go_wp2_with fail
              (with_reducible refine (dtab_call p off D W6).mono ?_)
              rintro r W7 ⟨rfl, hW7⟩
              have K7 : Keeps W6 W7 (fun _ => False) := by rw [hW7]; exact (Keeps.refl _ _).alloc _
              have bq : DirB W7 W6.heap.size p off D := by rw [hW7]; exact heap_alloc_new _ _
              have hs7 : W7.heap.size = W6.heap.size + 1 := by rw [hW7]; simp
              have hnil := eq_nil_func
              clear hW7 c0' c1' c2'
              go_wp2_with fail
              clear hnil
              refine alloc1 (P := fun W => Code.wp _ _ _ _ W) fun W8 bn hs8 K8 => ?_
              rw [hs7] at bn hs8
              have H0 : Hid (∀ r, CT W6 ((W8.alloc (.deferred (some []))).alloc (.loop r)) W6.heap.size p off D 0) := fun r => by
                have kr : Keeps W8 ((W8.alloc (.deferred (some []))).alloc (.loop r)) (fun _ => False) := ((Keeps.refl _ _).alloc _).alloc _
                exact ⟨kr.blk (K8.blk bq), kr.blk bn, (K7.trans K8 (fun _ _ e => e)).trans kr (fun _ _ e => e), rfl, by simp; omega⟩
              generalize hBq : W6.heap.size = Bq at *
              have hs8' : W8.heap.size = Bq + 2 := by omega
              clear hs7 hs8 K7 K8 bq bn
              refine range_tiedT (n := 8) (by omega) (gf := 19) (lb := #[.pointer (some ⟨Bq, 0, none⟩)]) rfl (enters_of Tryz.func19 (by kernel_rfl) rfl) (dtab_each 7 (by omega) p Bq off D ts HC.out.len HC.out.dep) (fun _ => rfl)
                (fun a x a' W => a' = { tmps := (((a.tmps.setIfInBounds 161 (.int .i64 (x.1 : Int))).setIfInBounds 162 (.int .i64 x.2)).setIfInBounds 26 (.int .i64 (x.1 : Int))).setIfInBounds 27 (.int .i64 x.2), defers := [] })
                (fun _ _ _ _ _ h _ => h)
                (fun s W => ∃ n : Nat, n ≤ ms.length ∧ s = posN D ms n ∧ Hid (CT W6 W Bq p off D n))
                (fun c W => False) ?hR ?hI ?hIp (fun _ _ _ _ h _ => h) ?h0
                (fun W => Hid (CT W6 W Bq p off D ms.length))
                ?tail ?hassign ?hbody ?hdone (fun _ _ h => h.elim)
              case hR =>
                rintro s V ⟨n, hn, rfl, HB⟩
                exact ⟨⟨_, _, _, HGq.out.dio.dir.stay HB.out.keep⟩, HB.out.q⟩
              case hI =>
                rintro s V V' ⟨n, hn, rfl, HB⟩ k
                exact ⟨n, hn, rfl, HB.out.stay k⟩
              case hIp =>
                rintro s V r o ⟨n, hn, rfl, HB⟩ hr
                rw [hs8']
                exact ⟨n, hn, rfl, HB.out.put o⟩
              case h0 => exact fun r => ⟨0, Nat.zero_le _, rfl, H0.out r⟩
              case hdone =>
                rintro s W hE ⟨n, hn, rfl, HB⟩
                obtain rfl := runs_done HC.out HDf.out hn hE
                exact HB
              case hassign =>
                rintro ⟨i, z⟩ s U K' ⟨n, hn, rfl, HB⟩ hK'
                have hK2 := hide hK'
                clear hK'
                gi_wp2_with fail
                refine hK2.out _ _ (Keeps.refl _ _) ?_
                simp only [List.setIfInBounds_toArray, List.set_cons_zero, List.set_cons_succ]
              case hbody =>
                rw [hs8']
                clear hs8' H0
                rintro ⟨x, z⟩ s a' W ⟨n, hn, rfl, HB⟩ rfl hgx
                obtain ⟨hn2, hx1, hx2, hx3⟩ := next_run HC.out HDf.out hn hgx
                dsimp only at hx1 hx2 hx3
                have hDe := fun V => dDepth_any p off D V
                have HBu : Hid (∀ V, Keeps W V (fun _ => False) → V.cell? ⟨Bq + 1, 0, none⟩ = some (.int .i64 (n : Int)) ∧ V.cell? ⟨Bm, 0, none⟩ = some (.slice (some ⟨g, 0, none⟩) ms.length cap) ∧ V.cell? ⟨g, n * 3, none⟩ = some (.int .i64 ms[n].t) ∧ V.cell? ⟨g, n * 3 + 1, none⟩ = some (.int .i64 (ms[n].e : Int)) ∧ V.cell? ⟨g, n * 3 + 2, none⟩ = some (.int .u64 (ms[n].b : Int)) ∧ V.cell? ⟨Bd, 0, none⟩ = some (.pointer (some ⟨p, 0, none⟩)) ∧ V.cell? ⟨Bd, 1, none⟩ = some (.int .i64 (off : Int)) ∧ V.cell? ⟨Bd, 2, none⟩ = some (.int .i64 (D : Int))) := fun V kk => by
                  have hG9 := HGq.out.stay (HB.out.keep.trans kk (fun _ _ e => e))
                  obtain ⟨g', cap', hgc, hrc⟩ := hG9.rowP HC.out.tile
                  cases hgc
                  obtain ⟨e0, e1, e2⟩ := cellsP_get ms n hn2
                  obtain ⟨⟨f0, f1, f2⟩, -⟩ := three_cells hG9.box
                  exact ⟨(HB.out.stay kk).c.cell, hG9.mod.cell, hrc _ _ e0, hrc _ _ e1, hrc _ _ e2, f0, f1, f2⟩
                have hed := (HC.out.ent _ (List.getElem_mem hn2)).1
                have hD6 := HC.out.dep
                obtain ⟨he6, hb6⟩ := tile_bits HC.out.tile hn2
                have hb64 : ms[n].b < 64 := Nat.lt_of_lt_of_le hb6 (pow_le6 he6)
                have hn' : (n : Int) < (ms.length : Int) := by omega
                have hng : ¬ (ms.length : Int) ≤ (n : Int) := by omega
                have hdd : ¬ (D : Int) < (ms[n].e : Int) := by omega
                have hst : Hid (startN D ms[n] = ms[n].b * 2 ^ (D - ms[n].e)) := hide rfl
                have hDs : (D : Int) - (ms[n].e : Int) = ((D - ms[n].e : Nat) : Int) := by omega
                have hx64 : x ≤ 1000 := by
                  have q1 := (HC.out.start_lt hn2).1
                  rw [HC.out.len] at q1
                  have q2 := pow_le6 hD6
                  omega
                have hcmp := wrap_mul ms[n].b (D - ms[n].e) x (by rw [hx1]; exact hst.out) hx64
                have hwb := wrap_nat ms[n].b (by omega)
                have hws := wrap_nat (D - ms[n].e) (by omega)
                have HX1 := hide hx1
                have HX3 := hide hx3
                clear hx1 hx3 hgx hb6 hst
                generalize ms[n].t = zt at *
                generalize ms[n].e = me at *
                generalize ms[n].b = mb at *
                subst hx2
                simp only [List.setIfInBounds_toArray, List.set_cons_zero, List.set_cons_succ]
                obtain ⟨a0, a1, a2, a3, a4, a5, a6, a7⟩ := HBu.out W.drew ((Keeps.refl W (fun _ => False)).drew)
                repeat (rename_i hgone; clear hgone)
                gi_wp2_with fail
                apply twice
                case h =>
                  intro hrest
                  refine wpIn_region_only (fun w' => Keeps W w' (fun _ => False)) (by kernel_rfl) (noDefers_spec (by decide +kernel)) ((Keeps.refl W (fun _ => False)).drew) (fun hH => ?_)
                  refine wpAnyH_take (i := 0) (oi := { dst := some 163, op := Op.load 3 (Operand.tmp 25), type := 3, pos := "grows.go:91", after := #[], guard := none }) (v := ?_) rfl (by kernel_rfl) (by kernel_rfl) (by kernel_rfl) (fun _ _ _ h => h) (Or.inl ⟨by rfl, ?_⟩) (by assumption) ?_
                  rotate_left
                  · intro w hSw
                    obtain ⟨b0, b1, b2, b3, b4, b5, b6, b7⟩ := HBu.out w hSw; go_simp <;> first | with_reducible rfl | omega
                  simp only [Act.put, List.setIfInBounds_toArray, List.set_cons_zero, List.set_cons_succ]
                  refine wpAnyH_take (i := 1) (oi := { dst := some 164, op := Op.load 33 (Operand.tmp 8), type := 33, pos := "grows.go:91", after := #[], guard := none }) (v := ?_) rfl (by kernel_rfl) (by kernel_rfl) (by kernel_rfl) (fun _ _ _ h => h) (Or.inl ⟨by rfl, ?_⟩) (by assumption) ?_
                  rotate_left
                  · intro w hSw
                    obtain ⟨b0, b1, b2, b3, b4, b5, b6, b7⟩ := HBu.out w hSw; go_simp <;> first | with_reducible rfl | omega
                  simp only [Act.put, List.setIfInBounds_toArray, List.set_cons_zero, List.set_cons_succ]
                  refine wpAnyH_take (i := 2) (oi := { dst := some 165, op := Op.call { callee := Callee.builtin Builtin.len, args := #[Operand.tmp 164], argTypes := #[33] }, type := 3, pos := "grows.go:91", after := #[{ on := 1, ground := Ground.data }], guard := none }) (v := ?_) rfl (by kernel_rfl) (by kernel_rfl) (by kernel_rfl) (fun _ _ _ h => h) (Or.inl ⟨by rfl, ?_⟩) (by assumption) ?_
                  rotate_left
                  · intro w hSw
                    go_simp <;> first | with_reducible rfl | omega
                  simp only [Act.put, List.setIfInBounds_toArray, List.set_cons_zero, List.set_cons_succ]
                  refine wpAnyH_take (i := 3) (oi := { dst := some 166, op := Op.binOp BinOp.geq 3 (Operand.tmp 163) (Operand.tmp 165) 3, type := 4, pos := "grows.go:91", after := #[{ on := 0, ground := Ground.data }, { on := 2, ground := Ground.data }], guard := none }) (v := .bool false) rfl (by kernel_rfl) (by kernel_rfl) (by kernel_rfl) (fun _ _ _ h => h) (Or.inl ⟨by rfl, ?_⟩) (by assumption) ?_
                  · intro w hSw
                    go_simp <;> first | with_reducible rfl | omega
                  simp only [Act.put, List.setIfInBounds_toArray, List.set_cons_zero, List.set_cons_succ]
                  refine wpAnyH_take (i := 4) (oi := { dst := some 167, op := Op.move (Operand.tmp 166), type := 4, pos := "grows.go:91", after := #[{ on := 3, ground := Ground.data }], guard := none }) (v := .bool false) rfl (by kernel_rfl) (by kernel_rfl) (by kernel_rfl) (fun _ _ _ h => h) (Or.inl ⟨by rfl, ?_⟩) (by assumption) ?_
                  · intro w hSw
                    go_simp <;> first | with_reducible rfl | omega
                  simp only [Act.put, List.setIfInBounds_toArray, List.set_cons_zero, List.set_cons_succ]
                  refine wpAnyH_take (i := 5) (oi := { dst := some 168, op := Op.load 26 (Operand.tmp 6), type := 26, pos := "grows.go:91", after := #[{ on := 4, ground := Ground.guard }], guard := some (4, false) }) (v := ?_) rfl (by kernel_rfl) (by kernel_rfl) (by kernel_rfl) (fun _ _ _ h => h) (Or.inl ⟨by rfl, ?_⟩) (by assumption) ?_
                  rotate_left
                  · intro w hSw
                    obtain ⟨b0, b1, b2, b3, b4, b5, b6, b7⟩ := HBu.out w hSw; go_simp <;> first | with_reducible rfl | omega
                  simp only [Act.put, List.setIfInBounds_toArray, List.set_cons_zero, List.set_cons_succ]
                  refine wpAnyH_take (i := 7) (oi := { dst := some 170, op := Op.load 33 (Operand.tmp 8), type := 33, pos := "grows.go:91", after := #[{ on := 4, ground := Ground.guard }], guard := some (4, false) }) (v := ?_) rfl (by kernel_rfl) (by kernel_rfl) (by kernel_rfl) (fun _ _ _ h => h) (Or.inl ⟨by rfl, ?_⟩) (by assumption) ?_
                  rotate_left
                  · intro w hSw
                    obtain ⟨b0, b1, b2, b3, b4, b5, b6, b7⟩ := HBu.out w hSw; go_simp <;> first | with_reducible rfl | omega
                  simp only [Act.put, List.setIfInBounds_toArray, List.set_cons_zero, List.set_cons_succ]
                  refine wpAnyH_take (i := 8) (oi := { dst := some 171, op := Op.load 3 (Operand.tmp 25), type := 3, pos := "grows.go:91", after := #[{ on := 4, ground := Ground.guard }], guard := some (4, false) }) (v := ?_) rfl (by kernel_rfl) (by kernel_rfl) (by kernel_rfl) (fun _ _ _ h => h) (Or.inl ⟨by rfl, ?_⟩) (by assumption) ?_
                  rotate_left
                  · intro w hSw
                    obtain ⟨b0, b1, b2, b3, b4, b5, b6, b7⟩ := HBu.out w hSw; go_simp <;> first | with_reducible rfl | omega
                  simp only [Act.put, List.setIfInBounds_toArray, List.set_cons_zero, List.set_cons_succ]
                  refine wpAnyH_take (i := 9) (oi := { dst := some 172, op := Op.indexAddr 33 (Operand.tmp 170) (Operand.tmp 171), type := 0, pos := "grows.go:91", after := #[{ on := 7, ground := Ground.data }, { on := 8, ground := Ground.data }, { on := 4, ground := Ground.guard }], guard := some (4, false) }) (v := ?_) rfl (by kernel_rfl) (by kernel_rfl) (by kernel_rfl) (fun _ _ _ h => h) (Or.inl ⟨by rfl, ?_⟩) (by assumption) ?_
                  rotate_left
                  · intro w hSw
                    go_simp <;> first | with_reducible rfl | omega
                  simp only [Act.put, List.setIfInBounds_toArray, List.set_cons_zero, List.set_cons_succ]
                  refine wpAnyH_take (i := 10) (oi := { dst := some 173, op := Op.fieldAddr 32 (Operand.tmp 172) 1, type := 0, pos := "grows.go:91", after := #[{ on := 9, ground := Ground.data }, { on := 4, ground := Ground.guard }], guard := some (4, false) }) (v := ?_) rfl (by kernel_rfl) (by kernel_rfl) (by kernel_rfl) (fun _ _ _ h => h) (Or.inl ⟨by rfl, ?_⟩) (by assumption) ?_
                  rotate_left
                  · intro w hSw
                    go_simp <;> first | with_reducible rfl | omega
                  simp only [Act.put, List.setIfInBounds_toArray, List.set_cons_zero, List.set_cons_succ]
                  refine wpAnyH_take (i := 11) (oi := { dst := some 174, op := Op.load 3 (Operand.tmp 173), type := 3, pos := "grows.go:91", after := #[{ on := 10, ground := Ground.data }, { on := 4, ground := Ground.guard }], guard := some (4, false) }) (v := ?_) rfl (by kernel_rfl) (by kernel_rfl) (by kernel_rfl) (fun _ _ _ h => h) (Or.inl ⟨by rfl, ?_⟩) (by assumption) ?_
                  rotate_left
                  · intro w hSw
                    obtain ⟨b0, b1, b2, b3, b4, b5, b6, b7⟩ := HBu.out w hSw; go_simp <;> first | with_reducible rfl | omega
                  simp only [Act.put, List.setIfInBounds_toArray, List.set_cons_zero, List.set_cons_succ]
                  refine wpAnyH_ready (rs := [6]) (by kernel_rfl) (by simp) ?_
                  refine AllReadyH.cons (o := { dst := some 169, op := Op.call { callee := Callee.value (Operand.func 9), args := #[Operand.tmp 168], argTypes := #[26] }, type := 3, pos := "grows.go:91", after := #[{ on := 5, ground := Ground.data }, { on := 4, ground := Ground.chain }, { on := 4, ground := Ground.guard }], guard := some (4, false) }) rfl (fun K hK => ?_) AllReadyH.nil
                  go_simp
                  (with_reducible refine (hDe _).mono ?_)
                  rintro r wA ⟨rfl, kA⟩
                  refine hK.out _ _ (Keeps.trans hH kA (fun _ _ e => e)) (fun hHA => ?_)
                  clear hK K
                  try simp only [Act.put, List.setIfInBounds_toArray, List.set_cons_zero, List.set_cons_succ]
                  refine wpAnyH_take (i := 12) (oi := { dst := some 175, op := Op.binOp BinOp.lss 3 (Operand.tmp 169) (Operand.tmp 174) 3, type := 4, pos := "grows.go:91", after := #[{ on := 6, ground := Ground.data }, { on := 11, ground := Ground.data }, { on := 4, ground := Ground.guard }], guard := some (4, false) }) (v := .bool false) rfl (by kernel_rfl) (by kernel_rfl) (by kernel_rfl) (fun _ _ _ h => h) (Or.inl ⟨by rfl, ?_⟩) (by assumption) ?_
                  · intro w hSw
                    go_simp <;> first | with_reducible rfl | omega
                  simp only [Act.put, List.setIfInBounds_toArray, List.set_cons_zero, List.set_cons_succ]
                  refine wpAnyH_take (i := 13) (oi := { dst := some 176, op := Op.pick (Operand.tmp 167) (Operand.const (Value.bool true)) (Operand.tmp 175), type := 4, pos := "grows.go:91", after := #[{ on := 4, ground := Ground.data }, { on := 12, ground := Ground.data }], guard := none }) (v := .bool false) rfl (by kernel_rfl) (by kernel_rfl) (by kernel_rfl) (fun _ _ _ h => h) (Or.inl ⟨by rfl, ?_⟩) (by assumption) ?_
                  · intro w hSw
                    go_simp <;> first | with_reducible rfl | omega
                  simp only [Act.put, List.setIfInBounds_toArray, List.set_cons_zero, List.set_cons_succ]
                  refine wpAnyH_take (i := 14) (oi := { dst := some 177, op := Op.move (Operand.tmp 176), type := 4, pos := "grows.go:91", after := #[{ on := 13, ground := Ground.data }, { on := 6, ground := Ground.chain }], guard := none }) (v := .bool false) rfl (by kernel_rfl) (by kernel_rfl) (by kernel_rfl) (fun _ _ _ h => h) (Or.inl ⟨by rfl, ?_⟩) (by assumption) ?_
                  · intro w hSw
                    go_simp <;> first | with_reducible rfl | omega
                  simp only [Act.put, List.setIfInBounds_toArray, List.set_cons_zero, List.set_cons_succ]
                  refine wpAnyH_take (i := 15) (oi := { dst := some 178, op := Op.move (Operand.tmp 27), type := 3, pos := "grows.go:91", after := #[{ on := 14, ground := Ground.guard }], guard := some (14, false) }) (v := ?_) rfl (by kernel_rfl) (by kernel_rfl) (by kernel_rfl) (fun _ _ _ h => h) (Or.inl ⟨by rfl, ?_⟩) (by assumption) ?_
                  rotate_left
                  · intro w hSw
                    go_simp <;> first | with_reducible rfl | omega
                  simp only [Act.put, List.setIfInBounds_toArray, List.set_cons_zero, List.set_cons_succ]
                  refine wpAnyH_take (i := 16) (oi := { dst := some 179, op := Op.load 33 (Operand.tmp 8), type := 33, pos := "grows.go:91", after := #[{ on := 14, ground := Ground.guard }], guard := some (14, false) }) (v := ?_) rfl (by kernel_rfl) (by kernel_rfl) (by kernel_rfl) (fun _ _ _ h => h) (Or.inl ⟨by rfl, ?_⟩) (by assumption) ?_
                  rotate_left
                  · intro w hSw
                    obtain ⟨b0, b1, b2, b3, b4, b5, b6, b7⟩ := HBu.out w hSw; go_simp <;> first | with_reducible rfl | omega
                  simp only [Act.put, List.setIfInBounds_toArray, List.set_cons_zero, List.set_cons_succ]
                  refine wpAnyH_take (i := 17) (oi := { dst := some 180, op := Op.load 3 (Operand.tmp 25), type := 3, pos := "grows.go:91", after := #[{ on := 14, ground := Ground.guard }], guard := some (14, false) }) (v := ?_) rfl (by kernel_rfl) (by kernel_rfl) (by kernel_rfl) (fun _ _ _ h => h) (Or.inl ⟨by rfl, ?_⟩) (by assumption) ?_
                  rotate_left
                  · intro w hSw
                    obtain ⟨b0, b1, b2, b3, b4, b5, b6, b7⟩ := HBu.out w hSw; go_simp <;> first | with_reducible rfl | omega
                  simp only [Act.put, List.setIfInBounds_toArray, List.set_cons_zero, List.set_cons_succ]
                  refine wpAnyH_take (i := 18) (oi := { dst := some 181, op := Op.indexAddr 33 (Operand.tmp 179) (Operand.tmp 180), type := 0, pos := "grows.go:91", after := #[{ on := 16, ground := Ground.data }, { on := 17, ground := Ground.data }, { on := 14, ground := Ground.guard }], guard := some (14, false) }) (v := ?_) rfl (by kernel_rfl) (by kernel_rfl) (by kernel_rfl) (fun _ _ _ h => h) (Or.inl ⟨by rfl, ?_⟩) (by assumption) ?_
                  rotate_left
                  · intro w hSw
                    go_simp <;> first | with_reducible rfl | omega
                  simp only [Act.put, List.setIfInBounds_toArray, List.set_cons_zero, List.set_cons_succ]
                  refine wpAnyH_take (i := 19) (oi := { dst := some 182, op := Op.fieldAddr 32 (Operand.tmp 181) 0, type := 0, pos := "grows.go:91", after := #[{ on := 18, ground := Ground.data }, { on := 14, ground := Ground.guard }], guard := some (14, false) }) (v := ?_) rfl (by kernel_rfl) (by kernel_rfl) (by kernel_rfl) (fun _ _ _ h => h) (Or.inl ⟨by rfl, ?_⟩) (by assumption) ?_
                  rotate_left
                  · intro w hSw
                    go_simp <;> first | with_reducible rfl | omega
                  simp only [Act.put, List.setIfInBounds_toArray, List.set_cons_zero, List.set_cons_succ]
                  refine wpAnyH_take (i := 20) (oi := { dst := some 183, op := Op.load 3 (Operand.tmp 182), type := 3, pos := "grows.go:91", after := #[{ on := 19, ground := Ground.data }, { on := 14, ground := Ground.guard }], guard := some (14, false) }) (v := ?_) rfl (by kernel_rfl) (by kernel_rfl) (by kernel_rfl) (fun _ _ _ h => h) (Or.inl ⟨by rfl, ?_⟩) (by assumption) ?_
                  rotate_left
                  · intro w hSw
                    obtain ⟨b0, b1, b2, b3, b4, b5, b6, b7⟩ := HBu.out w hSw; go_simp <;> first | with_reducible rfl | omega
                  simp only [Act.put, List.setIfInBounds_toArray, List.set_cons_zero, List.set_cons_succ]
                  refine wpAnyH_take (i := 21) (oi := { dst := some 184, op := Op.binOp BinOp.neq 3 (Operand.tmp 178) (Operand.tmp 183) 3, type := 4, pos := "grows.go:91", after := #[{ on := 15, ground := Ground.data }, { on := 20, ground := Ground.data }, { on := 14, ground := Ground.guard }], guard := some (14, false) }) (v := .bool false) rfl (by kernel_rfl) (by kernel_rfl) (by kernel_rfl) (fun _ _ _ h => h) (Or.inl ⟨by rfl, ?_⟩) (by assumption) ?_
                  · intro w hSw
                    go_simp <;> first | with_reducible rfl | omega
                  simp only [Act.put, List.setIfInBounds_toArray, List.set_cons_zero, List.set_cons_succ]
                  refine wpAnyH_take (i := 22) (oi := { dst := some 185, op := Op.pick (Operand.tmp 177) (Operand.const (Value.bool true)) (Operand.tmp 184), type := 4, pos := "grows.go:91", after := #[{ on := 14, ground := Ground.data }, { on := 21, ground := Ground.data }], guard := none }) (v := .bool false) rfl (by kernel_rfl) (by kernel_rfl) (by kernel_rfl) (fun _ _ _ h => h) (Or.inl ⟨by rfl, ?_⟩) (by assumption) ?_
                  · intro w hSw
                    go_simp <;> first | with_reducible rfl | omega
                  simp only [Act.put, List.setIfInBounds_toArray, List.set_cons_zero, List.set_cons_succ]
                  refine wpAnyH_take (i := 23) (oi := { dst := some 186, op := Op.move (Operand.tmp 185), type := 4, pos := "grows.go:91", after := #[{ on := 22, ground := Ground.data }, { on := 14, ground := Ground.chain }], guard := none }) (v := .bool false) rfl (by kernel_rfl) (by kernel_rfl) (by kernel_rfl) (fun _ _ _ h => h) (Or.inl ⟨by rfl, ?_⟩) (by assumption) ?_
                  · intro w hSw
                    go_simp <;> first | with_reducible rfl | omega
                  simp only [Act.put, List.setIfInBounds_toArray, List.set_cons_zero, List.set_cons_succ]
                  refine wpAnyH_take (i := 24) (oi := { dst := some 187, op := Op.move (Operand.tmp 26), type := 3, pos := "grows.go:91", after := #[{ on := 23, ground := Ground.guard }], guard := some (23, false) }) (v := ?_) rfl (by kernel_rfl) (by kernel_rfl) (by kernel_rfl) (fun _ _ _ h => h) (Or.inl ⟨by rfl, ?_⟩) (by assumption) ?_
                  rotate_left
                  · intro w hSw
                    go_simp <;> first | with_reducible rfl | omega
                  simp only [Act.put, List.setIfInBounds_toArray, List.set_cons_zero, List.set_cons_succ]
                  refine wpAnyH_take (i := 25) (oi := { dst := some 188, op := Op.load 33 (Operand.tmp 8), type := 33, pos := "grows.go:91", after := #[{ on := 23, ground := Ground.guard }], guard := some (23, false) }) (v := ?_) rfl (by kernel_rfl) (by kernel_rfl) (by kernel_rfl) (fun _ _ _ h => h) (Or.inl ⟨by rfl, ?_⟩) (by assumption) ?_
                  rotate_left
                  · intro w hSw
                    obtain ⟨b0, b1, b2, b3, b4, b5, b6, b7⟩ := HBu.out w hSw; go_simp <;> first | with_reducible rfl | omega
                  simp only [Act.put, List.setIfInBounds_toArray, List.set_cons_zero, List.set_cons_succ]
                  refine wpAnyH_take (i := 26) (oi := { dst := some 189, op := Op.load 3 (Operand.tmp 25), type := 3, pos := "grows.go:91", after := #[{ on := 23, ground := Ground.guard }], guard := some (23, false) }) (v := ?_) rfl (by kernel_rfl) (by kernel_rfl) (by kernel_rfl) (fun _ _ _ h => h) (Or.inl ⟨by rfl, ?_⟩) (by assumption) ?_
                  rotate_left
                  · intro w hSw
                    obtain ⟨b0, b1, b2, b3, b4, b5, b6, b7⟩ := HBu.out w hSw; go_simp <;> first | with_reducible rfl | omega
                  simp only [Act.put, List.setIfInBounds_toArray, List.set_cons_zero, List.set_cons_succ]
                  refine wpAnyH_take (i := 27) (oi := { dst := some 190, op := Op.indexAddr 33 (Operand.tmp 188) (Operand.tmp 189), type := 0, pos := "grows.go:91", after := #[{ on := 25, ground := Ground.data }, { on := 26, ground := Ground.data }, { on := 23, ground := Ground.guard }], guard := some (23, false) }) (v := ?_) rfl (by kernel_rfl) (by kernel_rfl) (by kernel_rfl) (fun _ _ _ h => h) (Or.inl ⟨by rfl, ?_⟩) (by assumption) ?_
                  rotate_left
                  · intro w hSw
                    go_simp <;> first | with_reducible rfl | omega
                  simp only [Act.put, List.setIfInBounds_toArray, List.set_cons_zero, List.set_cons_succ]
                  refine wpAnyH_take (i := 28) (oi := { dst := some 191, op := Op.fieldAddr 32 (Operand.tmp 190) 2, type := 0, pos := "grows.go:91", after := #[{ on := 27, ground := Ground.data }, { on := 23, ground := Ground.guard }], guard := some (23, false) }) (v := ?_) rfl (by kernel_rfl) (by kernel_rfl) (by kernel_rfl) (fun _ _ _ h => h) (Or.inl ⟨by rfl, ?_⟩) (by assumption) ?_
                  rotate_left
                  · intro w hSw
                    go_simp <;> first | with_reducible rfl | omega
                  simp only [Act.put, List.setIfInBounds_toArray, List.set_cons_zero, List.set_cons_succ]
                  refine wpAnyH_take (i := 29) (oi := { dst := some 192, op := Op.load 30 (Operand.tmp 191), type := 30, pos := "grows.go:91", after := #[{ on := 28, ground := Ground.data }, { on := 23, ground := Ground.guard }], guard := some (23, false) }) (v := ?_) rfl (by kernel_rfl) (by kernel_rfl) (by kernel_rfl) (fun _ _ _ h => h) (Or.inl ⟨by rfl, ?_⟩) (by assumption) ?_
                  rotate_left
                  · intro w hSw
                    obtain ⟨b0, b1, b2, b3, b4, b5, b6, b7⟩ := HBu.out w hSw; go_simp <;> first | with_reducible rfl | omega
                  simp only [Act.put, List.setIfInBounds_toArray, List.set_cons_zero, List.set_cons_succ]
                  refine wpAnyH_take (i := 30) (oi := { dst := some 193, op := Op.convert 30 3 (Operand.tmp 192), type := 3, pos := "grows.go:91", after := #[{ on := 29, ground := Ground.data }, { on := 23, ground := Ground.guard }], guard := some (23, false) }) (v := ?_) rfl (by kernel_rfl) (by kernel_rfl) (by kernel_rfl) (fun _ _ _ h => h) (Or.inl ⟨by rfl, ?_⟩) (by assumption) ?_
                  rotate_left
                  · intro w hSw
                    go_simp <;> first | with_reducible rfl | omega
                  simp only [Act.put, List.setIfInBounds_toArray, List.set_cons_zero, List.set_cons_succ]
                  refine wpAnyH_take (i := 31) (oi := { dst := some 194, op := Op.load 26 (Operand.tmp 6), type := 26, pos := "grows.go:91", after := #[{ on := 23, ground := Ground.guard }], guard := some (23, false) }) (v := ?_) rfl (by kernel_rfl) (by kernel_rfl) (by kernel_rfl) (fun _ _ _ h => h) (Or.inl ⟨by rfl, ?_⟩) (by assumption) ?_
                  rotate_left
                  · intro w hSw
                    obtain ⟨b0, b1, b2, b3, b4, b5, b6, b7⟩ := HBu.out w hSw; go_simp <;> first | with_reducible rfl | omega
                  simp only [Act.put, List.setIfInBounds_toArray, List.set_cons_zero, List.set_cons_succ]
                  refine wpAnyH_take (i := 33) (oi := { dst := some 196, op := Op.load 33 (Operand.tmp 8), type := 33, pos := "grows.go:91", after := #[{ on := 23, ground := Ground.guard }], guard := some (23, false) }) (v := ?_) rfl (by kernel_rfl) (by kernel_rfl) (by kernel_rfl) (fun _ _ _ h => h) (Or.inl ⟨by rfl, ?_⟩) (by assumption) ?_
                  rotate_left
                  · intro w hSw
                    obtain ⟨b0, b1, b2, b3, b4, b5, b6, b7⟩ := HBu.out w hSw; go_simp <;> first | with_reducible rfl | omega
                  simp only [Act.put, List.setIfInBounds_toArray, List.set_cons_zero, List.set_cons_succ]
                  refine wpAnyH_take (i := 34) (oi := { dst := some 197, op := Op.load 3 (Operand.tmp 25), type := 3, pos := "grows.go:91", after := #[{ on := 23, ground := Ground.guard }], guard := some (23, false) }) (v := ?_) rfl (by kernel_rfl) (by kernel_rfl) (by kernel_rfl) (fun _ _ _ h => h) (Or.inl ⟨by rfl, ?_⟩) (by assumption) ?_
                  rotate_left
                  · intro w hSw
                    obtain ⟨b0, b1, b2, b3, b4, b5, b6, b7⟩ := HBu.out w hSw; go_simp <;> first | with_reducible rfl | omega
                  simp only [Act.put, List.setIfInBounds_toArray, List.set_cons_zero, List.set_cons_succ]
                  refine wpAnyH_take (i := 35) (oi := { dst := some 198, op := Op.indexAddr 33 (Operand.tmp 196) (Operand.tmp 197), type := 0, pos := "grows.go:91", after := #[{ on := 33, ground := Ground.data }, { on := 34, ground := Ground.data }, { on := 23, ground := Ground.guard }], guard := some (23, false) }) (v := ?_) rfl (by kernel_rfl) (by kernel_rfl) (by kernel_rfl) (fun _ _ _ h => h) (Or.inl ⟨by rfl, ?_⟩) (by assumption) ?_
                  rotate_left
                  · intro w hSw
                    go_simp <;> first | with_reducible rfl | omega
                  simp only [Act.put, List.setIfInBounds_toArray, List.set_cons_zero, List.set_cons_succ]
                  refine wpAnyH_take (i := 36) (oi := { dst := some 199, op := Op.fieldAddr 32 (Operand.tmp 198) 1, type := 0, pos := "grows.go:91", after := #[{ on := 35, ground := Ground.data }, { on := 23, ground := Ground.guard }], guard := some (23, false) }) (v := ?_) rfl (by kernel_rfl) (by kernel_rfl) (by kernel_rfl) (fun _ _ _ h => h) (Or.inl ⟨by rfl, ?_⟩) (by assumption) ?_
                  rotate_left
                  · intro w hSw
                    go_simp <;> first | with_reducible rfl | omega
                  simp only [Act.put, List.setIfInBounds_toArray, List.set_cons_zero, List.set_cons_succ]
                  refine wpAnyH_take (i := 37) (oi := { dst := some 200, op := Op.load 3 (Operand.tmp 199), type := 3, pos := "grows.go:91", after := #[{ on := 36, ground := Ground.data }, { on := 23, ground := Ground.guard }], guard := some (23, false) }) (v := ?_) rfl (by kernel_rfl) (by kernel_rfl) (by kernel_rfl) (fun _ _ _ h => h) (Or.inl ⟨by rfl, ?_⟩) (by assumption) ?_
                  rotate_left
                  · intro w hSw
                    obtain ⟨b0, b1, b2, b3, b4, b5, b6, b7⟩ := HBu.out w hSw; go_simp <;> first | with_reducible rfl | omega
                  simp only [Act.put, List.setIfInBounds_toArray, List.set_cons_zero, List.set_cons_succ]
                  refine wpAnyH_ready (rs := [32]) (by kernel_rfl) (by simp) ?_
                  refine AllReadyH.cons (o := { dst := some 195, op := Op.call { callee := Callee.value (Operand.func 9), args := #[Operand.tmp 194], argTypes := #[26] }, type := 3, pos := "grows.go:91", after := #[{ on := 31, ground := Ground.data }, { on := 23, ground := Ground.chain }, { on := 23, ground := Ground.guard }], guard := some (23, false) }) rfl (fun K hK => ?_) AllReadyH.nil
                  go_simp
                  (with_reducible refine (hDe _).mono ?_)
                  rintro r wB ⟨rfl, kB⟩
                  refine hK.out _ _ (Keeps.trans hHA kB (fun _ _ e => e)) (fun hHB => ?_)
                  clear hK K
                  try simp only [Act.put, List.setIfInBounds_toArray, List.set_cons_zero, List.set_cons_succ]
                  refine wpAnyH_take (i := 38) (oi := { dst := some 201, op := Op.binOp BinOp.sub 3 (Operand.tmp 195) (Operand.tmp 200) 3, type := 3, pos := "grows.go:91", after := #[{ on := 32, ground := Ground.data }, { on := 37, ground := Ground.data }, { on := 23, ground := Ground.guard }], guard := some (23, false) }) (v := ?_) rfl (by kernel_rfl) (by kernel_rfl) (by kernel_rfl) (fun _ _ _ h => h) (Or.inl ⟨by rfl, ?_⟩) (by assumption) ?_
                  rotate_left
                  · intro w hSw
                    go_simp <;> first | with_reducible rfl | omega
                  simp only [Act.put, List.setIfInBounds_toArray, List.set_cons_zero, List.set_cons_succ]
                  refine wpAnyH_take (i := 39) (oi := { dst := some 202, op := Op.binOp BinOp.shl 3 (Operand.tmp 193) (Operand.tmp 201) 3, type := 3, pos := "grows.go:91", after := #[{ on := 30, ground := Ground.data }, { on := 38, ground := Ground.data }, { on := 23, ground := Ground.guard }], guard := some (23, false) }) (v := ?_) rfl (by kernel_rfl) (by kernel_rfl) (by kernel_rfl) (fun _ _ _ h => h) (Or.inl ⟨by rfl, ?_⟩) (by assumption) ?_
                  rotate_left
                  · intro w hSw
                    go_simp <;> first | with_reducible rfl | omega
                  simp only [Act.put, List.setIfInBounds_toArray, List.set_cons_zero, List.set_cons_succ]
                  refine wpAnyH_take (i := 40) (oi := { dst := some 203, op := Op.binOp BinOp.neq 3 (Operand.tmp 187) (Operand.tmp 202) 3, type := 4, pos := "grows.go:91", after := #[{ on := 24, ground := Ground.data }, { on := 39, ground := Ground.data }, { on := 23, ground := Ground.guard }], guard := some (23, false) }) (v := ?_) rfl (by kernel_rfl) (by kernel_rfl) (by kernel_rfl) (fun _ _ _ h => h) (Or.inl ⟨by rfl, ?_⟩) (by assumption) ?_
                  rotate_left
                  · intro w hSw
                    go_simp <;> first | with_reducible rfl | omega
                  simp only [Act.put, List.setIfInBounds_toArray, List.set_cons_zero, List.set_cons_succ]
                  refine wpAnyH_take (i := 41) (oi := { dst := some 204, op := Op.pick (Operand.tmp 186) (Operand.const (Value.bool true)) (Operand.tmp 203), type := 4, pos := "grows.go:91", after := #[{ on := 23, ground := Ground.data }, { on := 40, ground := Ground.data }], guard := none }) (v := ?_) rfl (by kernel_rfl) (by kernel_rfl) (by kernel_rfl) (fun _ _ _ h => h) (Or.inl ⟨by rfl, ?_⟩) (by assumption) ?_
                  rotate_left
                  · intro w hSw
                    go_simp <;> first | with_reducible rfl | omega
                  simp only [Act.put, List.setIfInBounds_toArray, List.set_cons_zero, List.set_cons_succ]
                  refine wpAnyH_done (by kernel_rfl) (Only.normal ?_) _
                  have HKB := hide hHB
                  clear hHB kB hHA kA hH
                  generalize wB = WV at HKB ⊢
                  revert WV
                  exact hrest.out
                case r =>
                  intro WV HKV
                  have HBV := hide (HB.out.stay HKV.out)
                  have HKd : Hid (∀ k, k = Bq + 2 ∨ k = Bq + 2 + 1 → WV.heap[k]? = W.heap[k]?) := fun k hk => HKV.out.block k (by have := HB.out.big; omega) id
                  have HN2 := hide (HBV.out.set (n + 1))
                  have v0 := HBV.out.c.cell
                  have v1 := HBV.out.c.frozen
                  have HKd2 : Hid (∀ k, k = Bq + 2 ∨ k = Bq + 2 + 1 → (WV.setCell ⟨Bq + 1, 0, none⟩ (.int .i64 ((n + 1 : Nat) : Int))).heap[k]? = W.heap[k]?) := fun k hk => (Below.heap_setCell WV ⟨Bq + 1, 0, none⟩ _ k (by show k ≠ Bq + 1; omega)).trans (HKd.out k hk)
                  rw [show ((n + 1 : Nat) : Int) = (n : Int) + 1 by omega] at HN2 HKd2
                  clear a0 a1 a2 a3 a4 a5 a6 a7 HBu hcmp hwb hws hDs hdd hng
                  gi_wp2_with fail
                  exact ⟨HKd2.out, x + 1, rfl, n + 1, by omega, HX3.out, HN2⟩
              case tail =>
                rintro W HB hdf
                rw [hs8'] at hdf ⊢
                clear hs8' H0
                have c25 := HB.out.c.cell
                have cmod := (HGq.out.stay HB.out.keep).mod.cell
                have br3 := HB.out.keep.blk (HKA6.out.blk Hbr.out)
                obtain ⟨cr, fr⟩ := one_cell br3
                have Hdf := hide hdf
                have Hbr3 := hide br3
                have HKW := hide (HK6.out.trans HB.out.keep (fun _ _ e => e))
                have hBw : w.heap.size < Bq := by have := HKA6.out.size; omega
                clear br3 hdf HB
                go_wp2_with fail
                obtain ⟨b1, b2⟩ := box_true Hbr3.out HKW.out (Nat.le_refl _)
                have hd2 := set_blk (l := w.heap.size) (v := .bool true) Hdf.out (by omega)
                have b3 := put_blk (l := Bq + 2) (o := .deferred none) ((show Boxed W w.heap.size 4 (.bool false) from Hbr3.out).set (.bool true)) (by omega)
                refine ⟨by simp, .inl ⟨_, _, rfl, run_takeDeferred hd2, ?_⟩⟩
                refine ⟨_, res4 _ _ _ _ rfl (one_cell b3).1, rfl, ?_⟩
                have kp : Keeps w ((W.setCell ⟨w.heap.size, 0, none⟩ (.bool true)).putObj (Bq + 2) (.deferred none)) (fun _ => False) := b2.trans ((Keeps.ofGrown (grownBy_putObj' _ (Bq + 2) _)).mono (fun i _ e => by cases e; rfl) : Keeps _ _ (fun i => i = Bq + 2)) (fun i hi e => by omega)
                exact kp.below (Nat.le_refl _) (fun _ _ e => e)
end dirGrows
end Go.Proofs.YtdhphakjkgfngaaGreatDoor
