/-
  script: the law's copied behind its first statement (made by gensg10.py out of SG10.tail).
-/
import Derived.Test.YtpkbjjbbdhehdaaDoorSGA
namespace Go.Proofs.YtpkbjjbbdhehdaaDoor
open Go.RowKit
set_option linter.unusedVariables false
/-- The rest of a body behind its first two statements. -/
def rest2 : Option Code → Code
  | some (.seq _ (.seq _ c)) => c
  | _ => .skip
set_option maxRecDepth 100000 in
set_option maxHeartbeats 16000000 in
theorem copied_tail (n : Int) (so sc : Option Addr) (co cc : Nat) (os : List Ovr) (L : List CmV) (w W0 : World) (hc : CmIn w (.slice sc L.length cc) L) (hpre : Keeps w W0 (fun _ => False)) (hb0 : W0.heap[w.heap.size]? = some (.cells #[.int .i64 n, .slice so os.length co, .slice sc L.length cc] 25)) (hb1 : W0.heap[w.heap.size + 1]? = some (.cells #[.int .i64 0, .slice none 0 0, .slice none 0 0] 25)) (h2 : L.length ≤ 4194304) (t5 t6 t7 t8 t9 t10 t11 t12 t13 t14 t15 : Value) (bt go1 co1 gc1 cc1 : Nat) (W : World) (F : Fin1 W0 n os L bt go1 co1 gc1 cc1 W) :
    Code.wp Tryd.prog (rest2 Tryd.f4.body) (bodyPost Tryd.prog Tryd.f4 fun e w' => CopyPost w n os L e w') { tmps := #[.agg #[.int .i64 n, .slice so os.length co, .slice sc L.length cc], .pointer (some ⟨w.heap.size, 0, none⟩), .pointer (some ⟨w.heap.size + 1, 0, none⟩), .pointer (some ⟨bt, 0, none⟩), undef, t5, t6, t7, t8, t9, t10, t11, t12, t13, t14, t15, undef, undef, undef, undef, undef, undef, undef, undef, undef, undef, undef, undef, undef, undef, undef, undef, undef, undef, undef, undef, undef, undef, undef, undef, undef, undef, undef, undef, undef, undef, undef, undef, undef, undef], defers := [] } W := by
  unfold rest2 Tryd.f4
  dsimp only
  have HC := hide hc
  have HPRE := hide hpre
  have Hb0 := hide hb0
  have Hb1 := hide hb1
  have HB2 := hide h2
  clear hc hpre hb0 hb1 h2
  obtain ⟨b0, b1, b2⟩ := three_cells F.box
  have HF := hide F.begin
  clear F
  go_wp2_with fail
  clear b0 b1 b2
  go_loopw [19] (fun v19 wr => ∃ (i : Nat) (G C : Nat → Bool → Nat), v19 = .int .i64 (i : Int) ∧ i ≤ L.length ∧ CpI W0 n os L bt go1 co1 gc1 cc1 (2 * i) G C wr) (fun v19 _ => L.length - (intOf v19).toNat)
  case atStart => exact ⟨0, _, _, rfl, Nat.zero_le _, HF.out⟩
  case round =>
    obtain ⟨i, G, C, rfl, hi, hp⟩ := hrel
    by_cases hlt : i < L.length
    · have hlt' : (i : Int) < (L.length : Int) := by omega
      have h0' : (0 : Int) ≤ (i : Int) := by omega
      obtain ⟨b, o, hso, hcl⟩ := (HC.out.keeps HPRE.out).at hlt
      subst hso
      have hci := (HC.out.ok _ (List.getElem_mem hlt)).keeps HPRE.out
      have HSTEP5 : Hid (∀ W, CpI W0 n os L bt go1 co1 gc1 cc1 (2 * i) G C W → ∀ g c, W.ownsRow W0.heap.size 3 1 (.slice (some ⟨g, 0, none⟩) L[i].c.fl.length c) L[i].c.fl.length (L[i].c.fl.map cellI) → (∀ j (hj : j < L.length) d, 2 * j + num d < 2 * i → ¬ G j d = g) → CpI W0 n os L bt go1 co1 gc1 cc1 (2 * i + 1) (upd G i false g) (upd C i false c) (W.setCell ⟨gc1, i * 9 + 2, none⟩ (.slice (some ⟨g, 0, none⟩) L[i].c.fl.length c))) := fun W h g c hr hn => CpI.step (b := false) h hlt hr hn
      have HSTEP6' : Hid (∀ (G5 C5 : Nat → Bool → Nat) W, CpI W0 n os L bt go1 co1 gc1 cc1 (2 * i + 1) G5 C5 W → ∀ g c, W.ownsRow W0.heap.size 3 1 (.slice (some ⟨g, 0, none⟩) L[i].c.hl.length c) L[i].c.hl.length (L[i].c.hl.map cellI) → (∀ j (hj : j < L.length) d, 2 * j + num d < 2 * i + 1 → ¬ G5 j d = g) → CpI W0 n os L bt go1 co1 gc1 cc1 (2 * i + 1 + 1) (upd G5 i true g) (upd C5 i true c) (W.setCell ⟨gc1, i * 9 + 3, none⟩ (.slice (some ⟨g, 0, none⟩) L[i].c.hl.length c))) := fun G5 C5 W h g c hr hn => CpI.step (b := true) h hlt hr hn
      obtain ⟨x, hx⟩ : ∃ x, L[i] = x := ⟨_, rfl⟩
      rw [hx] at hcl hci HSTEP5 HSTEP6'
      obtain ⟨cd, fs, hs⟩ := x
      dsimp only at hci HSTEP5 HSTEP6'
      obtain ⟨sf, nf, cf, rfl⟩ := hci.f.slice
      obtain ⟨sh, nh, ch, rfl⟩ := hci.s.slice
      have HW : Hid (W0.cell? ⟨w.heap.size, 2, none⟩ = some (.slice (some ⟨b, o, none⟩) L.length cc) ∧ W0.cell? ⟨b, o + i * 9 + 2, none⟩ = some (.slice sf nf cf) ∧ W0.cell? ⟨b, o + i * 9 + 3, none⟩ = some (.slice sh nh ch)) := ⟨(three_cells Hb0.out).2.2, hcl 2 _ rfl, hcl 3 _ rfl⟩
      have HBI : Hid (cd.fl.length * 8 ≤ 140737488355328 ∧ cd.fl.length ≤ 1099511627776 ∧ cd.hl.length * 8 ≤ 140737488355328 ∧ cd.hl.length ≤ 1099511627776) := ⟨by have := hci.lf; omega, by have := hci.lf; omega, by have := hci.ls; omega, by have := hci.ls; omega⟩
      have Hms : Hid (L.length - (i + 1) < L.length - i) := by show L.length - (i + 1) < L.length - i; omega
      have Hi : Hid (i + 1 ≤ L.length) := hlt
      obtain ⟨a6, a7⟩ := wr64s (n := i) (by have := HB2.out; omega)
      clear hi hcl hx
      have HI5 := hide ((hci.f).keeps (hp.keeps))
      obtain ⟨vt5, ht5⟩ := hp.cell hlt (p := 2) (by omega)
      have HP5 := hide hp
      have S05 : (fun w' : World => w'.cell? ⟨bt, 2, none⟩ = some (.slice (some ⟨gc1, 0, none⟩) L.length cc1) ∧ w'.cell? ⟨w.heap.size, 2, none⟩ = some (.slice (some ⟨b, o, none⟩) L.length cc) ∧ w'.cell? ⟨b, o + i * 9 + 2, none⟩ = some (.slice sf nf cf)) wr.drew := ⟨(three_cells hp.box).2.2, keeps_cell hp.keeps HW.out.1, keeps_cell hp.keeps HW.out.2.1⟩
      have SA5 : (fun w' : World => w'.cell? ⟨bt, 2, none⟩ = some (.slice (some ⟨gc1, 0, none⟩) L.length cc1) ∧ w'.cell? ⟨w.heap.size, 2, none⟩ = some (.slice (some ⟨b, o, none⟩) L.length cc) ∧ w'.cell? ⟨b, o + i * 9 + 2, none⟩ = some (.slice sf nf cf)) ((wr.alloc (.cells #[] 3)).drew) := ⟨keeps_cell (((Keeps.refl wr (fun _ => False)).alloc _).drew) S05.1, keeps_cell (((Keeps.refl wr (fun _ => False)).alloc _).drew) S05.2.1, keeps_cell (((Keeps.refl wr (fun _ => False)).alloc _).drew) S05.2.2⟩
      clear hp ht5
      go_wp2_with fail
      go_region_held3 (fun w' : World => w'.cell? ⟨bt, 2, none⟩ = some (.slice (some ⟨gc1, 0, none⟩) L.length cc1) ∧ w'.cell? ⟨w.heap.size, 2, none⟩ = some (.slice (some ⟨b, o, none⟩) L.length cc) ∧ w'.cell? ⟨b, o + i * 9 + 2, none⟩ = some (.slice sf nf cf)) (first | with_reducible exact S05 | with_reducible exact SA5 | with_reducible exact SB5 | with_reducible exact SC5 | with_reducible assumption) (first | (refine step_copy (n := cd.fl.length) (lo := wr.heap.size) (xs := cd.fl.map cellI) 30 3 _ 1 8 Tryd.underlying30 Tryd.infoI rfl (by omega) (by simp) cellI_one HBI.out.1 HBI.out.2.1 (by omega) (by rfl) _ _ (by rfl) (by rfl) (by rfl) (by first | with_reducible exact n1d _ _ | with_reducible exact n1 _ _) (by first | exact Nat.le_refl _ | (simp; done)) ((HI5.out.keeps (((Keeps.refl wr (fun _ => False)).alloc _).drew)).row) ?_; intro g5 c5 w5 k5 own5; have kk5 : Keeps wr w5 (fun _ => False) := Keeps.trans (((Keeps.refl wr (fun _ => False)).alloc _).drew) k5 (fun _ _ e => e); have hq5 := HP5.out.stay kk5; obtain ⟨vu5, hu5⟩ := hq5.cell hlt (p := 2) (by omega); have fz5 := hq5.cm.frozenAt (i * 9 + 2); have hst5 : CpI W0 n os L bt go1 co1 gc1 cc1 (2 * i + 1) (upd G i false g5) (upd C i false c5) (w5.setCell ⟨gc1, i * 9 + 2, none⟩ (.slice (some ⟨g5, 0, none⟩) cd.fl.length c5)) := HSTEP5.out w5 hq5 g5 c5 (ownsRow_low own5 HP5.out.keeps.size) (HP5.out.fresh (ownsRow_block own5 rfl).1); have SB5 : (fun w' : World => w'.cell? ⟨bt, 2, none⟩ = some (.slice (some ⟨gc1, 0, none⟩) L.length cc1) ∧ w'.cell? ⟨w.heap.size, 2, none⟩ = some (.slice (some ⟨b, o, none⟩) L.length cc) ∧ w'.cell? ⟨b, o + i * 9 + 2, none⟩ = some (.slice sf nf cf)) w5 := ⟨(three_cells hq5.box).2.2, keeps_cell hq5.keeps HW.out.1, keeps_cell hq5.keeps HW.out.2.1⟩; have SC5 : (fun w' : World => w'.cell? ⟨bt, 2, none⟩ = some (.slice (some ⟨gc1, 0, none⟩) L.length cc1) ∧ w'.cell? ⟨w.heap.size, 2, none⟩ = some (.slice (some ⟨b, o, none⟩) L.length cc) ∧ w'.cell? ⟨b, o + i * 9 + 2, none⟩ = some (.slice sf nf cf)) (w5.setCell ⟨gc1, i * 9 + 2, none⟩ (.slice (some ⟨g5, 0, none⟩) cd.fl.length c5)) := ⟨(three_cells hst5.box).2.2, keeps_cell hst5.keeps HW.out.1, keeps_cell hst5.keeps HW.out.2.1⟩; have HST5 := hide hst5; clear hst5 hq5 k5 kk5 own5))
      all_goals (
        have HP5b := HST5
        clear S05 SA5 SB5 SC5 HP5 HI5 HSTEP5 hu5 fz5
        obtain ⟨G5, hG5⟩ : ∃ G5, upd G i false g5 = G5 := ⟨_, rfl⟩
        obtain ⟨C5, hC5⟩ : ∃ C5, upd C i false c5 = C5 := ⟨_, rfl⟩
        rw [hG5, hC5] at HP5b
        have HSTEP6 := hide (HSTEP6'.out G5 C5)
        clear HST5 HSTEP6' hG5 hC5
        generalize w5.setCell ⟨gc1, i * 9 + 2, none⟩ (.slice (some ⟨g5, 0, none⟩) cd.fl.length c5) = w5' at *
        have hp5' := HP5b.out
        clear HP5b
        have HI6 := hide ((hci.s).keeps (hp5'.keeps))
        obtain ⟨vt6, ht6⟩ := hp5'.cell hlt (p := 3) (by omega)
        have HP6 := hide hp5'
        have S06 : (fun w' : World => w'.cell? ⟨bt, 2, none⟩ = some (.slice (some ⟨gc1, 0, none⟩) L.length cc1) ∧ w'.cell? ⟨w.heap.size, 2, none⟩ = some (.slice (some ⟨b, o, none⟩) L.length cc) ∧ w'.cell? ⟨b, o + i * 9 + 3, none⟩ = some (.slice sh nh ch)) w5'.drew := ⟨(three_cells hp5'.box).2.2, keeps_cell hp5'.keeps HW.out.1, keeps_cell hp5'.keeps HW.out.2.2⟩
        have SA6 : (fun w' : World => w'.cell? ⟨bt, 2, none⟩ = some (.slice (some ⟨gc1, 0, none⟩) L.length cc1) ∧ w'.cell? ⟨w.heap.size, 2, none⟩ = some (.slice (some ⟨b, o, none⟩) L.length cc) ∧ w'.cell? ⟨b, o + i * 9 + 3, none⟩ = some (.slice sh nh ch)) ((w5'.alloc (.cells #[] 3)).drew) := ⟨keeps_cell (((Keeps.refl w5' (fun _ => False)).alloc _).drew) S06.1, keeps_cell (((Keeps.refl w5' (fun _ => False)).alloc _).drew) S06.2.1, keeps_cell (((Keeps.refl w5' (fun _ => False)).alloc _).drew) S06.2.2⟩
        clear hp5' ht6
        go_wp2_with fail
        go_region_held3 (fun w' : World => w'.cell? ⟨bt, 2, none⟩ = some (.slice (some ⟨gc1, 0, none⟩) L.length cc1) ∧ w'.cell? ⟨w.heap.size, 2, none⟩ = some (.slice (some ⟨b, o, none⟩) L.length cc) ∧ w'.cell? ⟨b, o + i * 9 + 3, none⟩ = some (.slice sh nh ch)) (first | with_reducible exact S06 | with_reducible exact SA6 | with_reducible exact SB6 | with_reducible exact SC6 | with_reducible assumption) (first | (refine step_copy (n := cd.hl.length) (lo := w5'.heap.size) (xs := cd.hl.map cellI) 30 3 _ 1 8 Tryd.underlying30 Tryd.infoI rfl (by omega) (by simp) cellI_one HBI.out.2.2.1 HBI.out.2.2.2 (by omega) (by rfl) _ _ (by rfl) (by rfl) (by rfl) (by first | with_reducible exact n1d _ _ | with_reducible exact n1 _ _) (by first | exact Nat.le_refl _ | (simp; done)) ((HI6.out.keeps (((Keeps.refl w5' (fun _ => False)).alloc _).drew)).row) ?_; intro g6 c6 w6 k6 own6; have kk6 : Keeps w5' w6 (fun _ => False) := Keeps.trans (((Keeps.refl w5' (fun _ => False)).alloc _).drew) k6 (fun _ _ e => e); have hq6 := HP6.out.stay kk6; obtain ⟨vu6, hu6⟩ := hq6.cell hlt (p := 3) (by omega); have fz6 := hq6.cm.frozenAt (i * 9 + 3); have hst6 : CpI W0 n os L bt go1 co1 gc1 cc1 (2 * i + 1 + 1) (upd G5 i true g6) (upd C5 i true c6) (w6.setCell ⟨gc1, i * 9 + 3, none⟩ (.slice (some ⟨g6, 0, none⟩) cd.hl.length c6)) := HSTEP6.out w6 hq6 g6 c6 (ownsRow_low own6 HP6.out.keeps.size) (HP6.out.fresh (ownsRow_block own6 rfl).1); have SB6 : (fun w' : World => w'.cell? ⟨bt, 2, none⟩ = some (.slice (some ⟨gc1, 0, none⟩) L.length cc1) ∧ w'.cell? ⟨w.heap.size, 2, none⟩ = some (.slice (some ⟨b, o, none⟩) L.length cc) ∧ w'.cell? ⟨b, o + i * 9 + 3, none⟩ = some (.slice sh nh ch)) w6 := ⟨(three_cells hq6.box).2.2, keeps_cell hq6.keeps HW.out.1, keeps_cell hq6.keeps HW.out.2.2⟩; have SC6 : (fun w' : World => w'.cell? ⟨bt, 2, none⟩ = some (.slice (some ⟨gc1, 0, none⟩) L.length cc1) ∧ w'.cell? ⟨w.heap.size, 2, none⟩ = some (.slice (some ⟨b, o, none⟩) L.length cc) ∧ w'.cell? ⟨b, o + i * 9 + 3, none⟩ = some (.slice sh nh ch)) (w6.setCell ⟨gc1, i * 9 + 3, none⟩ (.slice (some ⟨g6, 0, none⟩) cd.hl.length c6)) := ⟨(three_cells hst6.box).2.2, keeps_cell hst6.keeps HW.out.1, keeps_cell hst6.keeps HW.out.2.2⟩; have HST6 := hide hst6; clear hst6 hq6 k6 kk6 own6))
        all_goals (
          clear S06 SA6 SB6 SC6 HP6 HI6 HSTEP6 hu6 fz6
          generalize w6.setCell ⟨gc1, i * 9 + 3, none⟩ (.slice (some ⟨g6, 0, none⟩) cd.hl.length c6) = w6' at *
          go_wp2_with fail
          refine ⟨⟨i + 1, _, _, by go_num, Hi.out, HST6.out⟩, ?_⟩
          simp [intOf]
          exact Hms.out))
    · obtain rfl : i = L.length := by omega
      have hlt' : ¬ (L.length : Int) < (L.length : Int) := by omega
      obtain ⟨c0, c1, c2⟩ := three_cells hp.box
      have hb1 := hp.keeps.blk8 Hb1.out
      obtain ⟨d0, d1, d2⟩ := three_cells hb1
      have e0 := frozen_of hb1 0
      have e1 := frozen_of hb1 1
      have e2 := frozen_of hb1 2
      have HD := hide (hp.done (a := .int .i64 n) (b := .slice (some ⟨go1, 0, none⟩) os.length co1) (c := .slice (some ⟨gc1, 0, none⟩) L.length cc1) HPRE.out hb1 (Nat.le_succ _))
      have HRes := hide (run_loadVar_row (P := Tryd.prog) _ (w.heap.size + 1) _ 25 _ _ _ (set3 hb1 (.int .i64 n) (.slice (some ⟨go1, 0, none⟩) os.length co1) (.slice (some ⟨gc1, 0, none⟩) L.length cc1)) Tryd.underlying25 rfl (by kernel_rfl))
      clear hp hb1
      go_wp2_with fail
      exact bodyPost_ret (results_cell (p := 2) (ty := 25) rfl _ _ (w.heap.size + 1) rfl HRes.out) rfl ⟨go1, co1, gc1, cc1, G, C, rfl, HD.out.1, HD.out.2⟩
end Go.Proofs.YtpkbjjbbdhehdaaDoor
