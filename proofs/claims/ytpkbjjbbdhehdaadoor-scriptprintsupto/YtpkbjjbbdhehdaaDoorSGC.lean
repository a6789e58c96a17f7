/-
  script: the walk of ScriptPrints.
-/
import Derived.Test.YtpkbjjbbdhehdaaDoorSGD
namespace Go.Proofs.YtpkbjjbbdhehdaaDoor
open Go.RowKit
set_option linter.unusedVariables false
namespace scriptPrints
def Post (w : World) (e : Ending) (w' : World) : Prop := e = .returned (.bool true) ∧ Below w.heap.size w w'
set_option maxRecDepth 100000 in
set_option maxHeartbeats 16000000 in
theorem walk (copied_any : ∀ (n : Int) (so sc : Option Addr) (co cc : Nat) (os : List Ovr) (L : List CmV) (w : World), OvIn w (.slice so os.length co) os → CmIn w (.slice sc L.length cc) L → os.length ≤ 4194304 → L.length ≤ 4194304 → Calls Tryd.prog 4 #[.agg #[.int .i64 n, .slice so os.length co, .slice sc L.length cc]] w fun e w' => CopyPost w n os L e w') (n : Int) (vo vc : Value) (os : List Ovr) (L : List CmV) (w : World) (hn : -9223372036854775808 ≤ n ∧ n ≤ 9223372036854775807) (ho : OvIn w vo os) (hc : CmIn w vc L) (hcost : costO os + costs (L.map (·.c)) ≤ 4194304) (ht : TabW w) (hD : Deb w) (hR : RowsF w) :
    Calls Tryd.prog 3 #[.agg #[.int .i64 n, vo, vc]] w (Post w) := by
  have hf1 : os.length ≤ 4194304 := by
    have := ovs_few os
    omega
  have hf2 : L.length ≤ 4194304 := by
    have := cms_few (L.map (·.c))
    rw [List.length_map] at this
    omega
  obtain ⟨so, co, rfl⟩ := ho.row.form
  obtain ⟨sc, cc, rfl⟩ := hc.row.form
  have HO := hide ho
  have HC := hide hc
  have HT := hide (And.intro ht (And.intro hD hR))
  have HN := hide hn
  have HCost := hide hcost
  have HF := hide (And.intro hf1 hf2)
  clear ho hc ht hD hR hn hcost hf1 hf2
  go_enter Tryd.func3, Tryd.ntmps3
  go_upto_region 1 with fail
  refine alloc1 (P := fun W => Code.wp _ _ _ _ W) fun W0 hb0 hz0 k0 => ?_
  obtain ⟨c0, c1, c2⟩ := three_cells hb0
  have HPRE := hide k0
  have Hb0 := hide hb0
  have hcop := copied_any n so sc co cc os L W0 (HO.out.keeps k0) (HC.out.keeps k0) HF.out.1 HF.out.2
  clear hb0 hz0 k0 copied_any
  go_wp2_with fail
  (with_reducible refine hcop.mono ?_)
  rintro e w1 ⟨go, cg, gc, ck, G, C, rfl, hcpy, k1⟩
  clear hcop c0 c1 c2
  have HCpy := hide hcpy
  have HK1 := hide k1
  clear hcpy k1
  go_upto_region 2 with fail
  refine alloc1 (P := fun W => Code.wp _ _ _ _ W) fun W2 hb2 hz2 k2 => ?_
  obtain ⟨c0, c1, c2⟩ := three_cells hb2
  obtain ⟨bt, hbt⟩ : ∃ bt, w1.heap.size = bt := ⟨_, rfl⟩
  have Hz2 := hide (And.intro hz2 hbt)
  rw [hbt] at c0 c1 c2 hb2 ⊢
  have K12 := HK1.out.trans k2 (fun _ _ e => e)
  have hov2 := ownsRow_keeps HCpy.out.ov k2 (fun _ _ e => e)
  obtain ⟨go2, co2, W3, hap1, hle1, hown1, k3⟩ := append_struct 22 29 _ 2 24 Tryd.underlying22 Tryd.infoOv rfl (by omega) (hov2.alloc (.cells #[.string ⟨#[]⟩, .int .u64 79] 29)) (p := W2.heap.size) (us := ovMark) (n1 _ _) rfl (by simp [ovMark, Value.oneCell']) (by have := HF.out.1; omega) (by have := HF.out.1; omega) (by have := K12.size; rw [World.size_alloc]; omega)
  have hbg : ¬ bt = go := fun e => by
    obtain ⟨-, cur, hc⟩ := ownsRow_block hov2 (g := go) rfl
    rw [e, hc] at hb2
    injection hb2 with hb2
    injection hb2 with _ e2 _
    exact absurd e2 (by decide)
  have hb3 : W3.heap[bt]? = some (.cells #[.int .i64 n, .slice (some ⟨go, 0, none⟩) os.length cg, .slice (some ⟨gc, 0, none⟩) L.length ck] 25) := (k3.block bt (by have := heap_lt hb2; rw [World.size_alloc]; omega) hbg).trans (old1 hb2 _)
  have k13 : Keeps w1 W3 (fun k => k = go) := (k2.alloc _).mono (fun _ _ e => e.elim) |>.trans k3 (fun _ _ e => e)
  have hlog : W0.heap.size ≤ go := (ownsRow_block hov2 (g := go) rfl).1
  have K03 : Keeps W0 W3 (fun _ => False) := (HK1.out.trans (k2.alloc _) (fun _ _ e => e)).trans k3 (fun i hi e => by omega)
  have hgo1 := HCpy.out.ov
  have hcm3 := ownsRow_keeps HCpy.out.cm k13 (fun q hq e => by
    have e' : gc = q := by simpa [Value.ownBlock] using hq
    obtain ⟨-, cur, hc⟩ := ownsRow_block hgo1 (g := go) rfl
    exact own_ne HCpy.out.cm hc (by decide) q hq e)
  have hrow3 : ∀ i (h : i < L.length) b, W3.ownsRow W0.heap.size 3 1 (rowV G C i b L[i].c) (lst b L[i].c).length ((lst b L[i].c).map cellI) := fun i h b => ownsRow_keeps (HCpy.out.row i h b) k13 (fun q hq e => by
    obtain ⟨-, cur, hc⟩ := ownsRow_block hgo1 (g := go) rfl
    exact own_ne (HCpy.out.row i h b) hc (by decide) q hq e)
  obtain ⟨gc2, cc2, W4, hap2, hle2, hown2, k4⟩ := append_struct 23 32 _ 9 120 Tryd.underlying23 Tryd.infoCm rfl (by omega) (hcm3.alloc (.cells #[.int .i64 (-80), .int .i64 0, .slice none 0 0, .slice none 0 0, .int .u64 0, .int .u64 0, .int .i64 0, .string ⟨#[]⟩, .string ⟨#[]⟩] 32)) (p := W3.heap.size) (us := cmMark) (n1 _ _) rfl (by simp [cmMark, Value.oneCell']) (by have := HF.out.2; omega) (by have := HF.out.2; omega) (by have := K03.size; rw [World.size_alloc]; omega)
  have hlogc : W0.heap.size ≤ gc := (ownsRow_block hcm3 (g := gc) rfl).1
  obtain ⟨-, curc, hgc3⟩ := ownsRow_block hcm3 (g := gc) rfl
  have hbc : ¬ bt = gc := fun e => by
    rw [e, hgc3] at hb3
    injection hb3 with hb3
    injection hb3 with _ e2 _
    exact absurd e2 (by decide)
  have k34 : Keeps W3 W4 (fun k => k = gc) := (((Keeps.refl W3 (fun _ => False)).alloc _).mono (fun _ _ e => e.elim)).trans k4 (fun _ _ e => e)
  have hb4 : W4.heap[bt]? = some (.cells #[.int .i64 n, .slice (some ⟨go, 0, none⟩) os.length cg, .slice (some ⟨gc, 0, none⟩) L.length ck] 25) := (k34.block bt (heap_lt hb3) hbc).trans hb3
  have K04 : Keeps W0 W4 (fun _ => False) := K03.trans k34 (fun i hi e => by omega)
  have hov4 := ownsRow_keeps hown1 k34 (own_ne hown1 hgc3 (by decide))
  have hrow4 : ∀ i (h : i < L.length) b, W4.ownsRow W0.heap.size 3 1 (rowV G C i b L[i].c) (lst b L[i].c).length ((lst b L[i].c).map cellI) := fun i h b => ownsRow_keeps (hrow3 i h b) k34 (own_ne (hrow3 i h b) hgc3 (by decide))
  have hlobt : W0.heap.size ≤ bt := by have := HK1.out.size; have := Hz2.out.2; omega
  obtain ⟨W5, hW5⟩ : ∃ W5, (W4.setCell ⟨bt, 1, none⟩ (.slice (some ⟨go2, 0, none⟩) os.length co2)).setCell ⟨bt, 2, none⟩ (.slice (some ⟨gc2, 0, none⟩) L.length cc2) = W5 := ⟨_, rfl⟩
  have k45 : Keeps W4 W5 (fun k => k = bt) := by
    rw [← hW5]
    exact ((Keeps.refl W4 (fun k => k = bt)).setCell ⟨bt, 1, none⟩ (fun _ => rfl) _).setCell ⟨bt, 2, none⟩ (fun _ => rfl) _
  have hb5 : W5.heap[bt]? = some (.cells #[.int .i64 n, .slice (some ⟨go2, 0, none⟩) os.length co2, .slice (some ⟨gc2, 0, none⟩) L.length cc2] 25) := by
    rw [← hW5]
    simp [World.setCell, Array.getElem?_modify, hb4]
  have hpr : PrJ W0 os L go2 co2 gc2 cc2 G C G C (fun j _ => decide (j < 0)) (.slice none 0 0) [] bt #[.int .i64 n, .slice (some ⟨go2, 0, none⟩) os.length co2, .slice (some ⟨gc2, 0, none⟩) L.length cc2] W5 :=
    ⟨hb5, ownsRow_keeps hov4 k45 (own_ne hov4 hb4 (by decide)), ownsRow_keeps hown2 k45 (own_ne hown2 hb4 (by decide)), fun i h b => by
      have e : decide (i < 0) = false := decide_eq_false (by omega)
      rw [e]
      have := ownsRow_keeps (hrow4 i h b) k45 (own_ne (hrow4 i h b) hb4 (by decide))
      simpa [mrk, rowV] using this, HCpy.out.apart, ⟨rfl, Or.inl ⟨rfl, rfl⟩⟩, K04.trans k45 (fun i hi e => by omega)⟩
  have Hpr := hide hpr
  have HW5 := hide hW5
  have Hle := hide (And.intro hle1 hle2)
  obtain ⟨-, -, d2⟩ := three_cells hb3
  obtain ⟨e0, e1, e2⟩ := three_cells hb4
  have f1 := frozen_of hb4 1
  have f2 := frozen_of hb4 2
  obtain ⟨g0, g1, g2⟩ := three_cells (K04.blk8 Hb0.out)
  have hx1 : ¬ bt = w.heap.size := by have := HPRE.out.size; have := heap_lt Hb0.out; omega
  have hx2 : ¬ w.heap.size = bt := fun e => hx1 e.symm
  have hnn : (0 : Int) ≤ (os.length : Int) := by omega
  have hnn2 : (os.length : Int) ≤ (co2 : Int) := by omega
  have hnl : (0 : Int) ≤ (L.length : Int) := by omega
  have hnl2 : (L.length : Int) ≤ (cc2 : Int) := by omega
  clear hpr hW5 hb5 k45 hrow4 hov4 K04 hb4 k34 hgc3 hown2 k4 hrow3 hcm3 hgo1 K03 k13 hb3 hown1 k3 hov2 K12 hb2 k2 hz2 hlog hlogc hlobt hbg hbc
  go_wp2_with (first | (at_builtin; have _t := hap1; refine app_run _ rfl (.tmp 16) (.tmp 18) 22 rfl rfl rfl hap1 ?_; clear hap1) | (at_builtin; have _t := hap2; refine app_run _ rfl (.tmp 21) (.tmp 23) 23 rfl rfl rfl hap2 ?_; clear hap2))
  have hw5 := HW5.out
  rw [hw5]
  clear hw5 d2 e0 e1 e2 f1 f2 g0 g1 g2
  go_loopw [6, 40] (fun v6 v40 wr => ∃ (i : Nat) (G C : Nat → Bool → Nat) (ts : List Value), v40 = .int .i64 (i : Int) ∧ i ≤ L.length ∧ PrJ W0 os L go2 co2 gc2 cc2 G C G C (fun j _ => decide (j < i)) v6 ts bt #[.int .i64 n, .slice (some ⟨go2, 0, none⟩) os.length co2, .slice (some ⟨gc2, 0, none⟩) L.length cc2] wr ∧ TailsOk G L ts i) (fun _ v40 _ => L.length - (intOf v40).toNat)
  case atStart => exact ⟨0, G, C, [], rfl, Nat.zero_le _, Hpr.out, ⟨rfl, fun j _ h => by omega⟩⟩
  case round =>
    obtain ⟨i, G, C, ts, rfl, hi, hp, hts⟩ := hrel
    by_cases hlt : i < L.length
    · have hlt' : (i : Int) < (L.length : Int) := by omega
      have h0' : (0 : Int) ≤ (i : Int) := by omega
      obtain ⟨b, o, hso, hcl⟩ := (HC.out.keeps (HPRE.out.trans hp.keeps (fun _ _ e => e))).at hlt
      subst hso
      have hci := HC.out.ok _ (List.getElem_mem hlt)
      obtain ⟨sf, cf, ef⟩ := hci.f.len
      obtain ⟨sh, ch, eh⟩ := hci.s.len
      have hlf := hci.lf
      have hls := hci.ls
      obtain ⟨nf, hnf⟩ : ∃ nf, L[i].c.fl.length = nf := ⟨_, rfl⟩
      obtain ⟨nh, hnh⟩ : ∃ nh, L[i].c.hl.length = nh := ⟨_, rfl⟩
      rw [hnf] at ef hlf
      rw [hnh] at eh hls
      have q0 := hcl 0 _ rfl
      have q1 := hcl 1 _ rfl
      have q2 := hcl 2 _ rfl
      have q3 := hcl 3 _ rfl
      have q4 := hcl 4 _ rfl
      have q5 := hcl 5 _ rfl
      have q6 := hcl 6 _ rfl
      have q7 := hcl 7 _ rfl
      have q8 := hcl 8 _ rfl
      rw [Nat.add_zero] at q0
      rw [ef] at q2
      rw [eh] at q3
      generalize L[i].c.op = op at q0
      generalize L[i].c.h = hh at q1
      generalize L[i].c.u = uu at q4
      generalize L[i].c.v = vv at q5
      generalize L[i].c.n = nn at q6
      generalize L[i].c.key = key at q7
      generalize L[i].c.elem = elem at q8
      have Hms : Hid (L.length - (i + 1) < L.length - i) := by show L.length - (i + 1) < L.length - i; omega
      have Hi : Hid (i + 1 ≤ L.length) := hlt
      obtain ⟨a6, a7⟩ := wr64s (n := i) (by have := HF.out.2; omega)
      have HJ := hide hp
      have HTs := hide hts
      have Hnf := hide (And.intro hnf hnh)
      clear hcl hci hi hp hts ef eh
      go_upto_region 10 with fail
      refine alloc1 (P := fun W => Code.wp _ _ _ _ W) fun W9 hb9 hz9 k9 => ?_
      have h9 := HJ.out.stay k9
      have hM : (fun j (_ : Bool) => decide (j < i)) i false = false := decide_eq_false (Nat.lt_irrefl i)
      obtain ⟨g5, c5, W10, hap5, hle5, h10, hst5⟩ := (h9.stay ((Keeps.refl W9 (fun _ => False)).alloc (.cells #[.int .i64 77] 3))).mark hlt (b := false) hM (by show L[i].c.fl.length ≤ 8388608; omega) (p := W9.heap.size) (n1 _ _) (by have := h9.keeps.size; omega) (fun j hj d e => by have := row_lt (h9.row j hj d); omega)
      have hM2 : updB (fun j (_ : Bool) => decide (j < i)) i false i true = false := by
        rw [updB_other (fun e => by cases e.2)]
        exact decide_eq_false (Nat.lt_irrefl i)
      obtain ⟨g6, c6, W11, hap6, hle6, h11, hst6⟩ := (h10.stay ((Keeps.refl W10 (fun _ => False)).alloc (.cells #[.int .i64 77] 3))).mark hlt (b := true) hM2 (by show L[i].c.hl.length ≤ 8388608; omega) (p := W10.heap.size) (n1 _ _) (by have := h10.keeps.size; omega) (fun j hj d e => by have := row_lt (h10.row j hj d); omega)
      have hb10 := hst5 _ _ _ (by decide) (old1 hb9 _)
      have hb11 := hst6 _ _ _ (by decide) (old1 hb10 _)
      have hap5' : ∀ ty, (Builtin.append_ #[30, 30] ty #[.slice (some ⟨G i false, 0, none⟩) nf (C i false), .slice (some ⟨W9.heap.size, 0, none⟩) 1 1]).run Tryd.prog (W9.alloc (.cells #[.int .i64 77] 3)) = .ok (.slice (some ⟨g5, 0, none⟩) (nf + 1) c5) W10 := fun ty => by
        have := hap5 ty
        simp only [rowV, lst, if_neg Bool.false_ne_true, hnf] at this
        exact this
      have hap6' : ∀ ty, (Builtin.append_ #[30, 30] ty #[.slice (some ⟨G i true, 0, none⟩) nh (C i true), .slice (some ⟨W10.heap.size, 0, none⟩) 1 1]).run Tryd.prog (W10.alloc (.cells #[.int .i64 77] 3)) = .ok (.slice (some ⟨g6, 0, none⟩) (nh + 1) c6) W11 := fun ty => by
        have := hap6 ty
        rw [rowV_other _ _ _ _ _ (fun e => by cases e.2)] at this
        simp only [rowV, lst, if_pos, hnh] at this
        exact this
      have d9 : W9.cell? ⟨gc2, i * 9 + 2, none⟩ = some (.slice (some ⟨G i false, 0, none⟩) nf (C i false)) := by
        have := h9.cell hlt false
        simp only [rowV, lst, if_neg Bool.false_ne_true, hnf] at this
        exact this
      have d10 : W10.cell? ⟨gc2, i * 9 + 3, none⟩ = some (.slice (some ⟨G i true, 0, none⟩) nh (C i true)) := by
        have := h10.cell hlt true
        simp only [rowV, lst, if_pos, hnh] at this
        exact this
      obtain ⟨-, -, e9⟩ := three_cells h9.box
      obtain ⟨-, -, e10⟩ := three_cells h10.box
      obtain ⟨-, -, e11⟩ := three_cells h11.box
      obtain ⟨-, -, x2, x3, -, -, -, -, -⟩ := nine_cells hb11
      have hle5' : nf + 1 ≤ c5 := by have := hle5; simp only [lst, if_neg Bool.false_ne_true, hnf] at this; exact this
      have hle6' : nh + 1 ≤ c6 := by have := hle6; simp only [lst, if_pos, hnh] at this; exact this
      have HJ11 := hide h11
      have Hb11 := hide hb11
      have hgcn : ¬ gc2 = wr.heap.size := by have := row_lt HJ.out.cm; omega
      have Hgcn := hide hgcn
      have hLl : (i : Int) < ((L.length : Nat) : Int) := hlt'
      clear h9 hap5 hap6 h10 h11 hb9 hb10 hb11 hz9 k9 hle5 hle6 hst5 hst6 hM hM2 q0 q1 q2 q3 q4 q5 q6 q7 q8 hnf hnh hgcn
      go_upto_region 12 with (first | (at_builtin; have _t := hap5'; refine app_run _ rfl (.tmp 50) (.tmp 51) 30 rfl rfl rfl hap5' ?_; clear hap5') | (at_builtin; have _t := hap6'; refine app_run _ rfl (.tmp 58) (.tmp 59) 30 rfl rfl rfl hap6' ?_; clear hap6'))
      have hb5a : (0 : Int) ≤ (nf : Int) := by omega
      have hb5b : (nf : Int) < (nf : Int) + 1 := by omega
      have hb5c : (nf : Int) ≤ (c5 : Int) := by omega
      have hb6a : (0 : Int) ≤ (nh : Int) := by omega
      have hb6b : (nh : Int) < (nh : Int) + 1 := by omega
      have hb6c : (nh : Int) ≤ (c6 : Int) := by omega
      have S0 : (fun w' : World => w'.cell? ⟨wr.heap.size, 2, none⟩ = some (.slice sf nf cf) ∧ w'.cell? ⟨wr.heap.size, 3, none⟩ = some (.slice sh nh ch)) W11.drew := ⟨x2, x3⟩
      have SA : (fun w' : World => w'.cell? ⟨wr.heap.size, 2, none⟩ = some (.slice sf nf cf) ∧ w'.cell? ⟨wr.heap.size, 3, none⟩ = some (.slice sh nh ch)) ((W11.alloc (.cells #[.pointer (some ⟨g5, nf, none⟩), .pointer (some ⟨g6, nh, none⟩)] 34)).drew) := ⟨keeps_cell (((Keeps.refl W11 (fun _ => False)).alloc _).drew) x2, keeps_cell (((Keeps.refl W11 (fun _ => False)).alloc _).drew) x3⟩
      have HTl : Hid (ts.length ≤ 16777216) := by
        have a := HTs.out.1
        have b := HF.out.2
        show ts.length ≤ 16777216
        omega
      clear d9 d10 e9 e10 e11 x2 x3 hle5' hle6'
      go_wp2_with fail
      go_region_held3 (fun w' : World => w'.cell? ⟨wr.heap.size, 2, none⟩ = some (.slice sf nf cf) ∧ w'.cell? ⟨wr.heap.size, 3, none⟩ = some (.slice sh nh ch)) (first | with_reducible exact S0 | with_reducible exact SA | with_reducible exact SB | with_reducible assumption) (first | (refine step_tail (HJ11.out.stay (((Keeps.refl W11 (fun _ => False)).alloc _).drew)) (by rfl) _ _ (by rfl) (by rfl) (by rfl) (by with_reducible exact n1d _ _) HTl.out ?_; intro g7 c7 w12 h12 hst12; have hb12 := hst12 wr.heap.size _ _ (by decide) (old1 Hb11.out _); have SB : (fun w' : World => w'.cell? ⟨wr.heap.size, 2, none⟩ = some (.slice sf nf cf) ∧ w'.cell? ⟨wr.heap.size, 3, none⟩ = some (.slice sh nh ch)) w12 := ⟨(nine_cells hb12).2.2.1, (nine_cells hb12).2.2.2.1⟩; have HJ12 := hide h12; have Hb12 := hide hb12; clear h12 hst12 hb12))
      all_goals (
        clear S0 SA
        obtain ⟨x2, x3⟩ := SB
        have hJ12 := HJ12.out
        obtain ⟨-, -, e12⟩ := three_cells hJ12.box
        have y12 := hJ12.cell hlt false
        have fz12 := hJ12.cm.frozenAt (i * 9 + 2)
        have h13 := hJ12.put hlt false g5 c5
        have y13 := h13.cell hlt true
        have fz13 := h13.cm.frozenAt (i * 9 + 3)
        have h14 := h13.put hlt true g6 c6
        simp only [rowV, lst, num, if_neg Bool.false_ne_true, if_pos, Hnf.out.1, Hnf.out.2, Nat.add_zero, Nat.reduceAdd] at y12 y13 h13 h14 fz13
        have HJ13 := hide h13
        have HJ14 := hide h14
        have k13 : Keeps w12 (w12.setCell ⟨gc2, i * 9 + 2, none⟩ (.slice (some ⟨g5, 0, none⟩) nf c5)) (fun k => k = gc2) := (Keeps.refl w12 (fun k => k = gc2)).setCell ⟨gc2, i * 9 + 2, none⟩ (fun _ => rfl) _
        have hb13 := (k13.block wr.heap.size (heap_lt Hb12.out) (fun e => Hgcn.out e.symm)).trans Hb12.out
        have Hb13 := hide hb13
        have S0 : (fun w' : World => w'.cell? ⟨bt, 2, none⟩ = some (.slice (some ⟨gc2, 0, none⟩) L.length cc2) ∧ w'.cell? ⟨wr.heap.size, 2, none⟩ = some (.slice sf nf cf)) w12.drew := ⟨e12, x2⟩
        have SA : (fun w' : World => w'.cell? ⟨bt, 2, none⟩ = some (.slice (some ⟨gc2, 0, none⟩) L.length cc2) ∧ w'.cell? ⟨wr.heap.size, 2, none⟩ = some (.slice sf nf cf)) ((w12.setCell ⟨gc2, i * 9 + 2, none⟩ (.slice (some ⟨g5, 0, none⟩) nf c5)).drew) := ⟨(three_cells HJ13.out.box).2.2, (nine_cells hb13).2.2.1⟩
        clear hJ12 h13 h14 k13 hb13 HJ12 Hb12
        go_wp2_with fail
        go_region_held3 (fun w' : World => w'.cell? ⟨bt, 2, none⟩ = some (.slice (some ⟨gc2, 0, none⟩) L.length cc2) ∧ w'.cell? ⟨wr.heap.size, 2, none⟩ = some (.slice sf nf cf)) (first | with_reducible exact S0 | with_reducible exact SA | with_reducible assumption) (fail)
        all_goals (
          clear S0 SA
          have x3' : (w12.setCell ⟨gc2, i * 9 + 2, none⟩ (.slice (some ⟨g5, 0, none⟩) nf c5)).cell? ⟨wr.heap.size, 3, none⟩ = some (.slice sh nh ch) := (nine_cells Hb13.out).2.2.2.1
          have e13 := (three_cells HJ13.out.box).2.2
          clear x2 x3 e12 y12 fz12 HJ13
          generalize w12.setCell ⟨gc2, i * 9 + 2, none⟩ (.slice (some ⟨g5, 0, none⟩) nf c5) = w13 at *
          have k14 : Keeps w13 (w13.setCell ⟨gc2, i * 9 + 3, none⟩ (.slice (some ⟨g6, 0, none⟩) nh c6)) (fun k => k = gc2) := (Keeps.refl w13 (fun k => k = gc2)).setCell ⟨gc2, i * 9 + 3, none⟩ (fun _ => rfl) _
          have hb14 := (k14.block wr.heap.size (heap_lt Hb13.out) (fun e => Hgcn.out e.symm)).trans Hb13.out
          have S0 : (fun w' : World => w'.cell? ⟨bt, 2, none⟩ = some (.slice (some ⟨gc2, 0, none⟩) L.length cc2) ∧ w'.cell? ⟨wr.heap.size, 3, none⟩ = some (.slice sh nh ch)) w13.drew := ⟨e13, x3'⟩
          have S0' : (fun w' : World => w'.cell? ⟨bt, 2, none⟩ = some (.slice (some ⟨gc2, 0, none⟩) L.length cc2) ∧ w'.cell? ⟨wr.heap.size, 3, none⟩ = some (.slice sh nh ch)) w13.drew.drew := ⟨e13, x3'⟩
          have SA : (fun w' : World => w'.cell? ⟨bt, 2, none⟩ = some (.slice (some ⟨gc2, 0, none⟩) L.length cc2) ∧ w'.cell? ⟨wr.heap.size, 3, none⟩ = some (.slice sh nh ch)) ((w13.setCell ⟨gc2, i * 9 + 3, none⟩ (.slice (some ⟨g6, 0, none⟩) nh c6)).drew) := ⟨(three_cells HJ14.out.box).2.2, (nine_cells hb14).2.2.2.1⟩
          have SA' : (fun w' : World => w'.cell? ⟨bt, 2, none⟩ = some (.slice (some ⟨gc2, 0, none⟩) L.length cc2) ∧ w'.cell? ⟨wr.heap.size, 3, none⟩ = some (.slice sh nh ch)) ((w13.setCell ⟨gc2, i * 9 + 3, none⟩ (.slice (some ⟨g6, 0, none⟩) nh c6)).drew.drew) := ⟨(three_cells HJ14.out.box).2.2, (nine_cells hb14).2.2.2.1⟩
          have HJ15 : Hid (∀ m, PrJ W0 os L go2 co2 gc2 cc2 (upd (upd G i false g5) i true g6) (upd (upd C i false c5) i true c6) (upd (upd G i false g5) i true g6) (upd (upd C i false c5) i true c6) (fun j _ => decide (j < i + 1)) (.slice (some ⟨g7, 0, none⟩) (ts.length + 2) c7) (ts ++ [.pointer (some ⟨g5, nf, none⟩), .pointer (some ⟨g6, nh, none⟩)]) bt #[.int .i64 n, .slice (some ⟨go2, 0, none⟩) os.length co2, .slice (some ⟨gc2, 0, none⟩) L.length cc2] ((w13.setCell ⟨gc2, i * 9 + 3, none⟩ (.slice (some ⟨g6, 0, none⟩) nh c6)).drewN m)) := fun m => by
            have := HJ14.out
            rw [M_next] at this
            exact this.stay ⟨rfl, rfl, rfl, Nat.le_refl _, fun _ _ _ => rfl⟩
          have HTs2 := hide (HTs.out.more hlt g5 g6)
          simp only [lst, if_neg Bool.false_ne_true, if_pos, Hnf.out.1, Hnf.out.2] at HTs2
          clear HJ14 Hb13 k14 hb14 e13 x3'
          go_wp2_with fail
          go_region_held3 (fun w' : World => w'.cell? ⟨bt, 2, none⟩ = some (.slice (some ⟨gc2, 0, none⟩) L.length cc2) ∧ w'.cell? ⟨wr.heap.size, 3, none⟩ = some (.slice sh nh ch)) (first | with_reducible exact S0 | with_reducible exact S0' | with_reducible exact SA | with_reducible exact SA' | with_reducible assumption) (fail)
          all_goals (
            clear S0 SA S0' SA'
            go_wp2_with fail
            refine ⟨⟨i + 1, _, _, _, by go_num, Hi.out, HJ15.out 2, HTs2.out⟩, ?_⟩
            simp [intOf]
            exact Hms.out)))
    · obtain rfl : i = L.length := by omega
      have hlt' : ¬ (L.length : Int) < (L.length : Int) := by omega
      have KW := HPRE.out.trans hp.keeps (fun _ _ e => e)
      have hov := hp.ovIn HO.out.ok
      have hcm := hp.cmIn HC.out.ok
      have hcost := HCost.out
      have HPrint := hide (fun W (k : Keeps wr W (fun _ => False)) => print_any n _ _ os (newC G C L) W HN.out (hov.keeps k) (hcm.keeps k) (by rw [newC_map]; exact hcost) (HT.out.1.keeps (KW.trans k (fun _ _ e => e))) (HT.out.2.1.keeps (KW.trans k (fun _ _ e => e))) (HT.out.2.2.keeps (KW.trans k (fun _ _ e => e))))
      simp only [newC_map] at HPrint
      have HRPrint := hide (fun W (k : Keeps wr W (fun _ => False)) => rprint_any n _ _ os L W HN.out ((HO.out.keeps KW).keeps k) ((HC.out.keeps KW).keeps k) hcost)
      have HSame := hide (fun W (k : Keeps wr W (fun _ => False)) => by
        have := same_true n _ _ _ _ os L (newC G C L) (newC_map G C L) W ((HO.out.keeps KW).keeps k) (hov.keeps k) ((HC.out.keeps KW).keeps k) (hcm.keeps k) hcost
        exact this)
      obtain ⟨st, ct, ev6, htl⟩ := hp.tailForm
      subst ev6
      obtain ⟨y0, y1, y2⟩ := three_cells hp.box
      obtain ⟨z0, z1, z2⟩ := three_cells (hp.keeps.blk8 Hb0.out)
      have Hends := hide hp.ends
      have HTail := hide (fun k (hk : k < ts.length) => And.intro (htl k hk) (hp.tailAt hts hk))
      have HKW := hide KW
      have HK0r := hide hp.keeps
      have HTn := hide hts.1
      clear hp hts hov hcm hcost KW htl
      generalize strOf (textD n os (L.map (·.c))) = TX at *
      have S0 : (fun w' : World => w'.cell? ⟨bt, 0, none⟩ = some (.int .i64 n) ∧ w'.cell? ⟨bt, 1, none⟩ = some (.slice (some ⟨go2, 0, none⟩) os.length co2) ∧ w'.cell? ⟨bt, 2, none⟩ = some (.slice (some ⟨gc2, 0, none⟩) L.length cc2) ∧ w'.cell? ⟨w.heap.size, 0, none⟩ = some (.int .i64 n) ∧ w'.cell? ⟨w.heap.size, 1, none⟩ = some (.slice so os.length co) ∧ w'.cell? ⟨w.heap.size, 2, none⟩ = some (.slice sc L.length cc)) wr.drew := ⟨y0, y1, y2, z0, z1, z2⟩
      clear y0 y1 y2 z0 z1 z2
      go_wp2_with fail
      go_region_held3 (fun w' : World => w'.cell? ⟨bt, 0, none⟩ = some (.int .i64 n) ∧ w'.cell? ⟨bt, 1, none⟩ = some (.slice (some ⟨go2, 0, none⟩) os.length co2) ∧ w'.cell? ⟨bt, 2, none⟩ = some (.slice (some ⟨gc2, 0, none⟩) L.length cc2) ∧ w'.cell? ⟨w.heap.size, 0, none⟩ = some (.int .i64 n) ∧ w'.cell? ⟨w.heap.size, 1, none⟩ = some (.slice so os.length co) ∧ w'.cell? ⟨w.heap.size, 2, none⟩ = some (.slice sc L.length cc)) (first | with_reducible exact S0 | with_reducible exact S1 | with_reducible exact S2 | with_reducible exact S3 | with_reducible assumption) (first | (go_at_call 5; (with_reducible refine (HPrint.out _ ((Keeps.refl wr (fun _ => False)).drew)).mono ?_); rintro e wa ⟨rfl, ka⟩; have HKa := hide (Keeps.trans ((Keeps.refl wr (fun _ => False)).drew) ka (fun _ _ e => e)); have S1 : (fun w' : World => w'.cell? ⟨bt, 0, none⟩ = some (.int .i64 n) ∧ w'.cell? ⟨bt, 1, none⟩ = some (.slice (some ⟨go2, 0, none⟩) os.length co2) ∧ w'.cell? ⟨bt, 2, none⟩ = some (.slice (some ⟨gc2, 0, none⟩) L.length cc2) ∧ w'.cell? ⟨w.heap.size, 0, none⟩ = some (.int .i64 n) ∧ w'.cell? ⟨w.heap.size, 1, none⟩ = some (.slice so os.length co) ∧ w'.cell? ⟨w.heap.size, 2, none⟩ = some (.slice sc L.length cc)) wa := ⟨keeps_cell ka S0.1, keeps_cell ka S0.2.1, keeps_cell ka S0.2.2.1, keeps_cell ka S0.2.2.2.1, keeps_cell ka S0.2.2.2.2.1, keeps_cell ka S0.2.2.2.2.2⟩) | (go_at_call 6; (with_reducible refine (HRPrint.out _ HKa.out).mono ?_); rintro e wb ⟨rfl, kb⟩; have HKb := hide (Keeps.trans HKa.out kb (fun _ _ e => e)); have S2 : (fun w' : World => w'.cell? ⟨bt, 0, none⟩ = some (.int .i64 n) ∧ w'.cell? ⟨bt, 1, none⟩ = some (.slice (some ⟨go2, 0, none⟩) os.length co2) ∧ w'.cell? ⟨bt, 2, none⟩ = some (.slice (some ⟨gc2, 0, none⟩) L.length cc2) ∧ w'.cell? ⟨w.heap.size, 0, none⟩ = some (.int .i64 n) ∧ w'.cell? ⟨w.heap.size, 1, none⟩ = some (.slice so os.length co) ∧ w'.cell? ⟨w.heap.size, 2, none⟩ = some (.slice sc L.length cc)) wb := ⟨keeps_cell kb S1.1, keeps_cell kb S1.2.1, keeps_cell kb S1.2.2.1, keeps_cell kb S1.2.2.2.1, keeps_cell kb S1.2.2.2.2.1, keeps_cell kb S1.2.2.2.2.2⟩) | (go_at_call 7; (with_reducible refine (HSame.out _ HKb.out).mono ?_); rintro e wc ⟨rfl, kc⟩; have HKc := hide (Keeps.trans HKb.out kc (fun _ _ e => e)); have S3 : (fun w' : World => w'.cell? ⟨bt, 0, none⟩ = some (.int .i64 n) ∧ w'.cell? ⟨bt, 1, none⟩ = some (.slice (some ⟨go2, 0, none⟩) os.length co2) ∧ w'.cell? ⟨bt, 2, none⟩ = some (.slice (some ⟨gc2, 0, none⟩) L.length cc2) ∧ w'.cell? ⟨w.heap.size, 0, none⟩ = some (.int .i64 n) ∧ w'.cell? ⟨w.heap.size, 1, none⟩ = some (.slice so os.length co) ∧ w'.cell? ⟨w.heap.size, 2, none⟩ = some (.slice sc L.length cc)) wc := ⟨keeps_cell kc S2.1, keeps_cell kc S2.2.1, keeps_cell kc S2.2.2.1, keeps_cell kc S2.2.2.2.1, keeps_cell kc S2.2.2.2.2.1, keeps_cell kc S2.2.2.2.2.2⟩))
      all_goals (
        clear S0 S1 S2 HPrint HRPrint HSame HKa HKb
        clear S3
        go_wp2_with fail
        go_loopw [108] (fun v108 wx => ∃ k : Nat, v108 = .int .i64 (k : Int) ∧ k ≤ ts.length ∧ Keeps wr wx (fun _ => False)) (fun v108 _ => ts.length - (intOf v108).toNat)
        case atStart => exact ⟨0, rfl, Nat.zero_le _, HKc.out⟩
        case round =>
          obtain ⟨k, rfl, hk, Kx⟩ := hrel
          by_cases hlk : k < ts.length
          · have hlk' : (k : Int) < (ts.length : Int) := by omega
            have h0k : (0 : Int) ≤ (k : Int) := by omega
            obtain ⟨⟨g, hst, hcg⟩, a1, a2, hta, hca⟩ := HTail.out k hlk
            subst hst
            rw [hta] at hcg
            have p1 := keeps_cell Kx hcg
            have p2 := keeps_cell Kx hca
            have Hmk : Hid (ts.length - (k + 1) < ts.length - k) := by show ts.length - (k + 1) < ts.length - k; omega
            have Hik : Hid (k + 1 ≤ ts.length) := hlk
            obtain ⟨a6, a7⟩ := wr64s (n := k) (by have := HTn.out; have := HF.out.2; omega)
            have HKx := hide Kx
            clear Kx hta hcg hca hk
            go_wp2_with fail
            refine ⟨⟨k + 1, by go_num, Hik.out, HKx.out⟩, ?_⟩
            simp [intOf]
            exact Hmk.out
          · obtain rfl : k = ts.length := by omega
            have hlk' : ¬ (ts.length : Int) < (ts.length : Int) := by omega
            have d1 := keeps_cell Kx Hends.out.1
            have d2 := keeps_cell Kx Hends.out.2
            obtain ⟨z0, z1, z2⟩ := three_cells ((HK0r.out.trans Kx (fun _ _ e => e)).blk8 Hb0.out)
            have HKx := hide (HKW.out.trans Kx (fun _ _ e => e))
            have u1 : (os.length : Int) < (os.length : Int) + 1 := by omega
            have u2 : (L.length : Int) < (L.length : Int) + 1 := by omega
            clear Kx z0
            go_wp2_with fail
            go_ret
            exact ⟨rfl, HKx.out.below (Nat.le_refl _) (fun _ _ e => e)⟩)
end scriptPrints
end Go.Proofs.YtpkbjjbbdhehdaaDoor
