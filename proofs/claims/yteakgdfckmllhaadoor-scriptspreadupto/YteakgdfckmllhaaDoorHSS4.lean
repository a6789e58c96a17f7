/-
  script: ScriptSpread's walk.
-/
import Derived.Test.YteakgdfckmllhaaDoorUn13
import Derived.Test.YteakgdfckmllhaaDoorHSS3
namespace Go.Proofs.YteakgdfckmllhaaDoor
open Go.RowKit
set_option linter.unusedVariables false

theorem sp_more (hl : List Int) (l : List UInt8) : ∀ i, i ≤ l.length → i ≤ (spF hl (l.take i)).1.length
  | 0, _ => Nat.zero_le _
  | i + 1, h => by
    have hlt : i < l.length := by omega
    have ih := sp_more hl l i (by omega)
    rw [spF_take hlt]
    show i + 1 ≤ ((spF hl (l.take i)).1 ++ pieceD _ _).length
    have : ∀ k x, 1 ≤ (pieceD k x).length := fun k x => by
      unfold pieceD
      rw [List.length_append, List.length_append]
      show 1 ≤ _ + 1 + _
      omega
    have := this (kD hl (spF hl (l.take i)).2 l[i]) l[i]
    rw [List.length_append]
    omega
theorem sp_all (hl : List Int) (l : List UInt8) : l.length ≤ (spF hl l).1.length ∧ (spF hl l).1.length ≤ 30 * l.length := by
  have h1 := sp_more hl l l.length (Nat.le_refl _)
  have h2 := (sp_len hl l l.length (Nat.le_refl _)).1
  rw [List.take_length] at h1 h2
  exact ⟨h1, h2⟩

set_option maxRecDepth 100000 in
set_option maxHeartbeats 8000000 in
theorem spread_walk (n : Int) (vo vc v : Value) (os : List Ovr) (L : List CmV) (hl : List Int) (w : World) (hv : IntsIn w v hl) (hll : hl.length ≤ 8388608) (hn : Fit n) (ho : OvIn w vo os) (hc : CmIn w vc L) (hcost : costO os + costs (L.map (·.c)) ≤ 4194304) (ht : TabW w) (hD : Deb w) (hR : RowsF w) (he : ErrW w) : Calls Tryd.prog 8 #[.agg #[.int .i64 n, vo, vc], v] w fun e w' => e = .returned (.bool true) ∧ Keeps w w' (fun _ => False) := by
  obtain ⟨sv, cv, rfl⟩ := hv.len
  have HV := hide hv
  have Hll := hide hll
  clear hv hll
  obtain ⟨so, co, rfl⟩ := ho.row.form
  obtain ⟨sc, cc, rfl⟩ := hc.row.form
  have l1 := ovs_few os
  have l2 := cms_few (L.map (·.c))
  rw [List.length_map] at l2
  have HO := hide ho
  have HC := hide hc
  have HT := hide (And.intro ht (And.intro hD (And.intro hR he)))
  have HCost := hide hcost
  have HN := hide hn
  have HL := hide (And.intro (show os.length ≤ 4194304 by omega) (show L.length ≤ 4194304 by omega))
  have HTL := hide (text_len hn ho.ok hc.ok hcost)
  have hPT := fun hz => parse_text (n := n) (os := os) (cs := L.map (·.c)) hn (fun o q => (ho.ok o q).2) (fun c q => by
    obtain ⟨x, hx, rfl⟩ := List.mem_map.1 q
    exact (hc.ok x hx).okD) hz
  have HPT := hide hPT
  have HTC := hide (tells_cost (L.map (·.c)))
  clear ho hc ht hD hR he hcost hn l1 l2 hPT
  go_enter Tryd.func8, Tryd.ntmps8
  go_upto_region 1 with fail
  refine alloc1 (P := fun W => Code.wp _ _ _ _ W) fun W0 hb0 hs0 k0 => ?_
  obtain ⟨c0, c1, c2⟩ := three_cells9 hb0
  have K0 := hide k0
  have Hb0 := hide hb0
  have hcop := copied_any n so sc co cc os L W0 (HO.out.keeps k0) (HC.out.keeps k0) HL.out.1 HL.out.2
  clear hb0 hs0 k0
  go_wp2_with fail
  (with_reducible refine hcop.mono ?_)
  rintro e w1 ⟨go, co2, gc, cc2, G, C, rfl, hcpy, k1⟩
  have K1 := hide (K0.out.trans k1 (fun _ _ e => e))
  have Hb1 := hide (k1.blk8 Hb0.out)
  have hov := hcpy.ovIn HO.out.ok
  have hcm := hcpy.cmIn HC.out.ok
  have hpr := print_any n (.slice (some ⟨go, 0, none⟩) os.length co2) (.slice (some ⟨gc, 0, none⟩) L.length cc2) os (newC G C L) w1 HN.out hov hcm (by rw [newC_cs]; exact HCost.out) (HT.out.1.keeps K1.out) (HT.out.2.1.keeps K1.out) (HT.out.2.2.1.keeps K1.out)
  rw [newC_cs] at hpr
  obtain ⟨TX, hTX⟩ : ∃ TX, TX = strOf (textD n os (L.map (·.c))) := ⟨_, rfl⟩
  rw [← hTX] at hpr
  have hTs : TX.size = (textD n os (L.map (·.c))).length := by rw [hTX, strOf_size]
  have hTd : TX.data.toList = textD n os (L.map (·.c)) := by rw [hTX, strOf_data]
  have HTS := hide (And.intro hTs hTd)
  clear hcop hcpy k1 hov hcm K0 Hb0 c0 c1 c2 hTX hTs hTd
  go_wp2_with fail
  (with_reducible refine hpr.mono ?_)
  rintro e w2a ⟨rfl, k2a⟩
  have K2a := hide (K1.out.trans k2a (fun _ _ e => e))
  have Hb2a := hide (k2a.blk8 Hb1.out)
  have hsp := spread_any TX (.slice sv hl.length cv) hl w2a (by rw [HTS.out.1]; exact HTL.out) (HV.out.keeps K2a.out) Hll.out
  rw [HTS.out.2] at hsp
  obtain ⟨TY, hTY⟩ : ∃ TY, TY = strOf (spF hl (textD n os (L.map (·.c)))).1 := ⟨_, rfl⟩
  rw [← hTY] at hsp
  have hYs : TY.size = (spF hl (textD n os (L.map (·.c)))).1.length := by rw [hTY, strOf_size]
  have hYd : TY.data.toList = (spF hl (textD n os (L.map (·.c)))).1 := by rw [hTY, strOf_data]
  have HYS := hide (And.intro hYs (And.intro hYd (sp_all hl (textD n os (L.map (·.c))))))
  have HYT := hide (toks_spread hl (textD n os (L.map (·.c))))
  clear hpr k2a K1 Hb1 hTY hYs hYd
  go_wp2_with fail
  (with_reducible refine hsp.mono ?_)
  rintro e w2 ⟨rfl, k2⟩
  have K2 := hide (K2a.out.trans k2 (fun _ _ e => e))
  have Hb2 := hide (k2.blk8 Hb2a.out)
  have hpa := parse_any16 TY (by rw [HYS.out.1]; have q1 := HYS.out.2.2.2; have q2 := HTL.out; omega) w2 (HT.out.2.2.1.keeps K2.out) (HT.out.2.2.2.keeps K2.out)
  rw [HYS.out.2.1] at hpa
  clear hsp k2 K2a Hb2a
  by_cases hbig : 1048576 < TY.size
  · have e1 : parseD (spF hl (textD n os (L.map (·.c)))).1 = .inr (0, 160) := by
      unfold parseD
      rw [if_pos (by rw [← HYS.out.1]; exact hbig)]
    rw [e1] at hpa
    have hbig' : (1048576 : Int) < (TY.size : Int) := by omega
    clear e1
    go_wp2_with fail
    (with_reducible refine hpa.mono ?_)
    rintro e w3 ⟨k3, rfl⟩
    have K3 := hide (K2.out.trans k3 (fun _ _ e => e))
    clear hpa k3
    go_upto_region 3 with fail
    refine alloc1 (P := fun W => Code.wp _ _ _ _ W) fun W4 hb4 hs4 k4 => ?_
    have K4 := hide (K3.out.trans k4 (fun _ _ e => e))
    clear hb4 hs4 k4
    go_wp2_with fail
    go_ret
    exact ⟨rfl, K4.out⟩
  · have hy : (spF hl (textD n os (L.map (·.c)))).1.length ≤ 1048576 := by rw [← HYS.out.1]; omega
    have hz : (textD n os (L.map (·.c))).length ≤ 1048576 := Nat.le_trans HYS.out.2.2.1 hy
    obtain ⟨l, e0⟩ := HPT.out hz
    have e1 := parse_toks HYT.out hy e0
    clear e0 hy
    rw [e1] at hpa
    have hbig' : ¬ (1048576 : Int) < (TY.size : Int) := by omega
    clear e1 hz
    go_wp2_with fail
    (with_reducible refine hpa.mono ?_)
    rintro e w3 ⟨k3, vo3, vc3, L3, rfl, hS⟩
    have hov3 := hS.ovIn HO.out.ok
    have hcm3 := hS.cmIn (told_ok HC.out.ok)
    have heq := hS.eq
    dsimp only at hov3 heq
    obtain ⟨so3, co3, rfl⟩ := hov3.row.form
    obtain ⟨sc3, cc3, rfl⟩ := hcm3.row.form
    have K3 := hide (K2.out.trans k3 (fun _ _ e => e))
    have Hb3 := hide (k3.blk8 Hb2.out)
    have H3 := hide (And.intro hov3 (And.intro hcm3 heq))
    clear hpa k3 hS hov3 hcm3 heq K2 Hb2
    go_upto_region 3 with fail
    refine alloc1 (P := fun W => Code.wp _ _ _ _ W) fun W4 hb4 hs4 k4 => ?_
    have K4 := hide (K3.out.trans k4 (fun _ _ e => e))
    have hb0 := k4.blk8 Hb3.out
    obtain ⟨x0, x1, x2⟩ := three_cells9 hb0
    obtain ⟨y0, y1, y2⟩ := three_cells9 hb4
    have H4 := hide (And.intro (H3.out.1.keeps k4) (And.intro (H3.out.2.1.keeps k4) H3.out.2.2))
    clear hb4 hs4 k4 K3 Hb3 hb0 H3
    generalize w3.heap.size = B at *
    have HCl := hide (fun (W : World) (k : Keeps W4 W (fun _ => False)) => cleaned_any n (.slice so os.length co) (.slice sc L.length cc) os L W (HO.out.keeps (K4.out.trans k (fun _ _ e => e))) (HC.out.keeps (K4.out.trans k (fun _ _ e => e))) HL.out.2)
    have HSm := hide (fun (W : World) (k : Keeps W4 W (fun _ => False)) (v2 : Value) (L2 : List CmV) (h2 : CmIn W v2 L2) (e2 : L2.map (·.c) = (L.map (·.c)).filterMap tellC) => same_true n (.slice so3 os.length co3) (.slice so os.length co) (.slice sc3 L3.length cc3) v2 os L3 L2 (e2.trans H4.out.2.2.symm) W (H4.out.1.keeps k) (HO.out.keeps (K4.out.trans k (fun _ _ e => e))) (H4.out.2.1.keeps k) h2 (by rw [H4.out.2.2]; have := HTC.out; have := HCost.out; omega))
    have S0 : (fun w' : World => w'.cell? ⟨B, 0, none⟩ = some (.int .i64 n) ∧ w'.cell? ⟨B, 1, none⟩ = some (.slice so3 os.length co3) ∧ w'.cell? ⟨B, 2, none⟩ = some (.slice sc3 L3.length cc3) ∧ w'.cell? ⟨w.heap.size, 0, none⟩ = some (.int .i64 n) ∧ w'.cell? ⟨w.heap.size, 1, none⟩ = some (.slice so os.length co) ∧ w'.cell? ⟨w.heap.size, 2, none⟩ = some (.slice sc L.length cc)) W4.drew := ⟨y0, y1, y2, x0, x1, x2⟩
    go_wp2_with fail
    go_region_held3 (fun w' : World => w'.cell? ⟨B, 0, none⟩ = some (.int .i64 n) ∧ w'.cell? ⟨B, 1, none⟩ = some (.slice so3 os.length co3) ∧ w'.cell? ⟨B, 2, none⟩ = some (.slice sc3 L3.length cc3) ∧ w'.cell? ⟨w.heap.size, 0, none⟩ = some (.int .i64 n) ∧ w'.cell? ⟨w.heap.size, 1, none⟩ = some (.slice so os.length co) ∧ w'.cell? ⟨w.heap.size, 2, none⟩ = some (.slice sc L.length cc)) (first | with_reducible exact S0 | with_reducible exact S1 | with_reducible exact S2 | with_reducible assumption) (first | (go_at_call 15; (with_reducible refine (HCl.out _ ((Keeps.refl W4 (fun _ => False)).drew)).mono ?_); rintro e wa ⟨v2, L2, rfl, h2, e2, ka⟩; have HKa := hide (Keeps.trans ((Keeps.refl W4 (fun _ => False)).drew) ka (fun _ _ e => e)); have H2 := hide (And.intro h2 e2); (clear h2 e2); have S1 : (fun w' : World => w'.cell? ⟨B, 0, none⟩ = some (.int .i64 n) ∧ w'.cell? ⟨B, 1, none⟩ = some (.slice so3 os.length co3) ∧ w'.cell? ⟨B, 2, none⟩ = some (.slice sc3 L3.length cc3) ∧ w'.cell? ⟨w.heap.size, 0, none⟩ = some (.int .i64 n) ∧ w'.cell? ⟨w.heap.size, 1, none⟩ = some (.slice so os.length co) ∧ w'.cell? ⟨w.heap.size, 2, none⟩ = some (.slice sc L.length cc)) wa := ⟨keeps_cell ka S0.1, keeps_cell ka S0.2.1, keeps_cell ka S0.2.2.1, keeps_cell ka S0.2.2.2.1, keeps_cell ka S0.2.2.2.2.1, keeps_cell ka S0.2.2.2.2.2⟩) | (go_at_call 12; (with_reducible refine (HSm.out _ HKa.out _ _ H2.out.1 H2.out.2).mono ?_); rintro e wb ⟨rfl, kb⟩; have HKb := hide (Keeps.trans HKa.out kb (fun _ _ e => e)); have S2 : (fun w' : World => w'.cell? ⟨B, 0, none⟩ = some (.int .i64 n) ∧ w'.cell? ⟨B, 1, none⟩ = some (.slice so3 os.length co3) ∧ w'.cell? ⟨B, 2, none⟩ = some (.slice sc3 L3.length cc3) ∧ w'.cell? ⟨w.heap.size, 0, none⟩ = some (.int .i64 n) ∧ w'.cell? ⟨w.heap.size, 1, none⟩ = some (.slice so os.length co) ∧ w'.cell? ⟨w.heap.size, 2, none⟩ = some (.slice sc L.length cc)) wb := ⟨keeps_cell kb S1.1, keeps_cell kb S1.2.1, keeps_cell kb S1.2.2.1, keeps_cell kb S1.2.2.2.1, keeps_cell kb S1.2.2.2.2.1, keeps_cell kb S1.2.2.2.2.2⟩))
    all_goals (
      go_wp2_with fail
      go_ret
      exact ⟨rfl, K4.out.trans HKb.out (fun _ _ e => e)⟩)
end Go.Proofs.YteakgdfckmllhaaDoor
