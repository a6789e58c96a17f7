/-
  script: ScriptAgain's walk.
-/
import Derived.Test.YteakgdfckmllhaaDoorHSA2
import Derived.Test.YteakgdfckmllhaaDoorUn13
import Derived.Test.YteakgdfckmllhaaDoorHSR8
namespace Go.Proofs.YteakgdfckmllhaaDoor
open Go.RowKit
set_option linter.unusedVariables false

set_option maxRecDepth 100000 in
set_option maxHeartbeats 16000000 in
theorem again_walk (s : ByteArray) (w : World) (hs : s.size ≤ 9223372036854775807) (ht : TabW w) (hD : Deb w) (hR : RowsF w) (he : ErrW w) : Calls Tryd.prog 4 #[.string s] w fun e w' => e = .returned (.bool true) ∧ Keeps w w' (fun _ => False) := by
  have HT := hide (And.intro ht (And.intro hD (And.intro hR he)))
  have HPa := hide (fun (t : ByteArray) (hz : t.size ≤ 9223372036854775807) (W : World) (k : Keeps w W (fun _ => False)) => parse_any16 t hz W (hR.keeps k) (he.keeps k))
  have HPr := hide (fun (n : Int) (vo vc : Value) (os : List Ovr) (L : List CmV) (W : World) (k : Keeps w W (fun _ => False)) (hn : Fit n) (ho : OvIn W vo os) (hc : CmIn W vc L) (hcost : costO os + costs (L.map (·.c)) ≤ 4194304) => print_any n vo vc os L W hn ho hc hcost (ht.keeps k) (hD.keeps k) (hR.keeps k))
  have hp1 := HPa.out ag1 (by decide) w (Keeps.refl _ _)
  rw [ag1_read] at hp1
  unfold ag1 at hp1
  have Hs := hide hs
  clear ht hD hR he hs
  go_enter Tryd.func4, Tryd.ntmps4
  go_wp2_with fail
  (with_reducible refine hp1.mono ?_)
  rintro e w1 ⟨k1, rfl⟩
  have K1 := hide k1
  clear hp1 k1
  go_upto_region 2 with fail
  refine alloc1 (P := fun W => Code.wp _ _ _ _ W) fun W2 hb2 hs2 k2 => ?_
  obtain ⟨x0, x1, x2⟩ := three_cells9 hb2
  have K2 := hide (K1.out.trans k2 (fun _ _ e => e))
  have HB1 := hide K1.out.size
  have Hb2 := hide hb2
  have hsm := same_zero W2
  clear hb2 hs2 k2 K1
  generalize w1.heap.size = B at *
  go_wp2_with fail
  (with_reducible refine hsm.mono ?_)
  rintro e w3 ⟨rfl, k3⟩
  have K3 := hide (K2.out.trans k3 (fun _ _ e => e))
  have Hb3 := hide (k3.blk8 Hb2.out)
  have hp2 := HPa.out ag2 (by decide) w3 K3.out
  rw [ag2_read] at hp2
  unfold ag2 at hp2
  clear hsm k3 K2 Hb2 x0 x1 x2
  go_wp2_with fail
  (with_reducible refine hp2.mono ?_)
  rintro e w4 ⟨k4, vo4, vc4, L4, rfl, hS4⟩
  have K4 := hide (K3.out.trans k4 (fun _ _ e => e))
  have hb4 := k4.blk8 Hb3.out
  obtain ⟨x0, x1, x2⟩ := three_cells9 hb4
  obtain ⟨f0, f1, f2⟩ := fro3 hb4
  obtain ⟨so4, co4, rfl⟩ := ownsRow_slice hS4.os
  obtain ⟨sc4, cc4, rfl⟩ := ownsRow_slice hS4.cs
  have HS4 := hide hS4
  have Hb4 := hide hb4
  clear hp2 k4 hS4 K3 Hb3 hb4
  dsimp only
  go_upto_region 5 with fail
  refine set3r (P := fun W => Code.wp _ _ _ _ W) Hb4.out fun W5 hb5 k5 => ?_
  have K5 := hide (keeps_out K4.out HB1.out k5)
  have hf4 := (parse_fine ag2_read).1
  have hS5 := HS4.out.keepsB Hb4.out k5
  have hpr := HPr.out 9 _ _ _ L4 W5 K5.out hf4.lim (hS5.fineO hf4) (hS5.fineC hf4) (by rw [hS5.eq]; exact Nat.le_trans hf4.cost (by decide))
  rw [hS5.eq] at hpr
  dsimp only at hpr
  rw [ag3_text] at hpr
  unfold ag3 at hpr
  simp only [List.length_cons, List.length_nil, Nat.zero_add] at hpr
  obtain ⟨y0, y1, y2⟩ := three_cells9 hb5
  clear hb5 k5 hS5 HS4 Hb4 K4 hf4 x0 x1 x2 f0 f1 f2
  go_wp2_with fail
  (with_reducible refine hpr.mono ?_)
  rintro e w6 ⟨rfl, k6⟩
  have K6 := hide (K5.out.trans k6 (fun _ _ e => e))
  have hp3 := HPa.out s Hs.out w6 K6.out
  clear hpr k6 K5 y0 y1 y2
  cases hP : parseD s.data.toList with
  | inr x =>
    rw [hP] at hp3
    obtain ⟨er, eb⟩ := parse_er hP
    obtain ⟨ln, ec⟩ := x
    dsimp only at er eb
    have hc0 : (ec != 0) = true := by rcases er with rfl | rfl <;> rfl
    have hlen : s.data.toList.length = s.size := rfl
    clear hP
    go_wp2_with fail
    (with_reducible refine hp3.mono ?_)
    rintro e w7 ⟨k7, rfl⟩
    have K7 := hide (K6.out.trans k7 (fun _ _ e => e))
    clear hp3 k7
    dsimp only
    go_upto_region 8 with fail
    refine alloc1 (P := fun W => Code.wp _ _ _ _ W) fun W8 hb8 hs8 k8 => ?_
    obtain ⟨x0, x1, x2⟩ := three_cells9 hb8
    have K8 := hide (K7.out.trans k8 (fun _ _ e => e))
    have hsm := same_zero W8
    clear hb8 hs8 k8
    rcases er with rfl | rfl
    all_goals (
      go_wp2_with fail
      (with_reducible refine hsm.mono ?_)
      rintro e w9 ⟨rfl, k9⟩
      have K9 := hide (K8.out.trans k9 (fun _ _ e => e))
      clear hsm k9
      by_cases hl : 0 < ln
      · have hl' : (0 : Int) < (ln : Int) := by omega
        go_wp2_with fail
        go_ret
        exact ⟨rfl, K9.out⟩
      · have hl' : ¬ (0 : Int) < (ln : Int) := by omega
        have hbig : (1048576 : Int) < (s.size : Int) := by
          rcases eb with q | q
          · exact absurd q hl
          · omega
        go_wp2_with fail
        go_ret
        exact ⟨rfl, K9.out⟩)
  | inl st =>
    rw [hP] at hp3
    obtain ⟨hfn, hlen⟩ := parse_fine hP
    have hlen' : ¬ (1048576 : Int) < (s.size : Int) := by
      have e : s.data.toList.length = s.size := rfl
      omega
    have hlen2 : (s.size : Int) ≤ 1048576 := by omega
    have HFn := hide hfn
    have hco := ovs_few st.os
    have hcc := cms_few st.cs
    have HLn : Hid (st.os.length ≤ 4194304 ∧ st.cs.length ≤ 4194304) := by
      have := hfn.cost
      exact ⟨by omega, by omega⟩
    have hPT := fun hz => parse_text (n := st.lim) (os := st.os) (cs := st.cs) hfn.lim hfn.os (fun c hc => (hfn.cs c hc).2) hz
    rw [told_same st.cs (fun c hc => (hfn.cs c hc).1)] at hPT
    have HPT := hide hPT
    clear hP hfn hlen hco hcc hPT
    go_wp2_with fail
    (with_reducible refine hp3.mono ?_)
    rintro e w7 ⟨k7, vo, vc, L, rfl, hS⟩
    obtain ⟨so, co, rfl⟩ := ownsRow_slice hS.os
    obtain ⟨sc, cc, rfl⟩ := ownsRow_slice hS.cs
    have K7 := hide (K6.out.trans k7 (fun _ _ e => e))
    have H7 := hide (And.intro (hS.fineO HFn.out) (And.intro (hS.fineC HFn.out) hS.eq))
    clear hp3 k7 hS
    dsimp only
    go_upto_region 8 with fail
    refine alloc1 (P := fun W => Code.wp _ _ _ _ W) fun W8 hb8 hs8 k8 => ?_
    obtain ⟨x0, x1, x2⟩ := three_cells9 hb8
    have K8 := hide (K7.out.trans k8 (fun _ _ e => e))
    have H8 := hide (And.intro (H7.out.1.keeps k8) (And.intro (H7.out.2.1.keeps k8) H7.out.2.2))
    have Hb8 := hide hb8
    have hLL : L.length = st.cs.length := by
      have := congrArg List.length H7.out.2.2
      rwa [List.length_map] at this
    have hcop := copied_any st.lim so sc co cc st.os L W8 H8.out.1 H8.out.2.1 HLn.out.1 (by rw [hLL]; exact HLn.out.2)
    clear hb8 hs8 k8 H7 K7 hLL
    generalize w7.heap.size = B6 at *
    go_wp2_with fail
    (with_reducible refine hcop.mono ?_)
    rintro e w9 ⟨go, co9, gc, cc9, G, C, rfl, hcpy, k9⟩
    have K9 := hide (K8.out.trans k9 (fun _ _ e => e))
    have Hb9 := hide (k9.blk8 Hb8.out)
    have H9 := hide (And.intro (H8.out.1.keeps k9) (And.intro (H8.out.2.1.keeps k9) H8.out.2.2))
    have hpr := HPr.out st.lim (.slice (some ⟨go, 0, none⟩) st.os.length co9) (.slice (some ⟨gc, 0, none⟩) L.length cc9) st.os (newC G C L) w9 K9.out HFn.out.lim (hcpy.ovIn H8.out.1.ok) (hcpy.cmIn H8.out.2.1.ok) (by rw [newC_cs, H8.out.2.2]; exact Nat.le_trans HFn.out.cost (by decide))
    rw [newC_cs, H8.out.2.2] at hpr
    have hTL := text_len HFn.out.lim H9.out.1.ok H9.out.2.1.ok (by rw [H9.out.2.2]; exact Nat.le_trans HFn.out.cost (by decide))
    rw [H9.out.2.2] at hTL
    obtain ⟨TX, hTX⟩ : ∃ TX, TX = strOf (textD st.lim st.os st.cs) := ⟨_, rfl⟩
    rw [← hTX] at hpr
    have hTs : TX.size = (textD st.lim st.os st.cs).length := by rw [hTX, strOf_size]
    have hTd : TX.data.toList = textD st.lim st.os st.cs := by rw [hTX, strOf_data]
    have HTS := hide (And.intro hTs (And.intro hTd hTX))
    have HTL := hide hTL
    clear hcop hcpy k9 K8 H8 Hb8 x0 x1 x2 hTL hTs hTd hTX
    go_wp2_with fail
    (with_reducible refine hpr.mono ?_)
    rintro e w10 ⟨rfl, k10⟩
    have K10 := hide (K9.out.trans k10 (fun _ _ e => e))
    have Hb10 := hide (k10.blk8 Hb9.out)
    have H10 := hide (And.intro (H9.out.1.keeps k10) (And.intro (H9.out.2.1.keeps k10) H9.out.2.2))
    clear hpr k10 K9 H9 Hb9
    by_cases hbig : 1048576 < TX.size
    · have hbig' : (1048576 : Int) < (TX.size : Int) := by omega
      go_wp2_with fail
      go_ret
      exact ⟨rfl, K10.out⟩
    · have hbig' : ¬ (1048576 : Int) < (TX.size : Int) := by omega
      have hp4 := HPa.out TX (by omega) w10 K10.out
      obtain ⟨l, e1⟩ := HPT.out (by rw [← HTS.out.1]; omega)
      rw [HTS.out.2.1, e1] at hp4
      clear e1
      go_wp2_with fail
      (with_reducible refine hp4.mono ?_)
      rintro e w11 ⟨k11, vo1, vc1, L1, rfl, hS1⟩
      obtain ⟨so1, co1, rfl⟩ := ownsRow_slice hS1.os
      obtain ⟨sc1, cc1, rfl⟩ := ownsRow_slice hS1.cs
      have hf1 : Fine ⟨l, st.lim, st.os, st.cs⟩ 1048577 := ⟨HFn.out.lim, HFn.out.cs, HFn.out.os, HFn.out.cost⟩
      have K11 := hide (K10.out.trans k11 (fun _ _ e => e))
      have Hb11 := hide (k11.blk8 Hb10.out)
      have H11 := hide (And.intro (H10.out.1.keeps k11) (And.intro (H10.out.2.1.keeps k11) H10.out.2.2))
      have G11 := hide (And.intro (hS1.fineO hf1) (And.intro (hS1.fineC hf1) hS1.eq))
      clear hp4 k11 hS1 hf1 K10 H10 Hb10
      dsimp only at *
      go_upto_region 14 with fail
      refine alloc1 (P := fun W => Code.wp _ _ _ _ W) fun W12 hb12 hs12 k12 => ?_
      obtain ⟨y0, y1, y2⟩ := three_cells9 hb12
      obtain ⟨x0, x1, x2⟩ := three_cells9 (k12.blk8 Hb11.out)
      have K12 := hide (K11.out.trans k12 (fun _ _ e => e))
      have hsm := same_true st.lim (.slice so st.os.length co) (.slice so1 st.os.length co1) (.slice sc L.length cc) (.slice sc1 L1.length cc1) st.os L L1 (G11.out.2.2.trans H11.out.2.2.symm) W12 (H11.out.1.keeps k12) (G11.out.1.keeps k12) (H11.out.2.1.keeps k12) (G11.out.2.1.keeps k12) (by rw [H11.out.2.2]; exact Nat.le_trans HFn.out.cost (by decide))
      have HG := hide (fun (W : World) (k : Keeps W12 W (fun _ => False)) => HPr.out st.lim (.slice so1 st.os.length co1) (.slice sc1 L1.length cc1) st.os L1 W (K12.out.trans k (fun _ _ e => e)) HFn.out.lim ((G11.out.1.keeps k12).keeps k) ((G11.out.2.1.keeps k12).keeps k) (by rw [G11.out.2.2]; exact Nat.le_trans HFn.out.cost (by decide)))
      have hGe := G11.out.2.2
      have Hb12 := hide hb12
      clear hb12 hs12 k12 K11
      go_wp2_with fail
      (with_reducible refine hsm.mono ?_)
      rintro e w13 ⟨rfl, k13⟩
      have hpr2 := HG.out w13 k13
      rw [hGe, ← HTS.out.2.2] at hpr2
      have K13 := hide (K12.out.trans k13 (fun _ _ e => e))
      obtain ⟨z0, z1, z2⟩ := three_cells9 (k13.blk8 Hb12.out)
      clear hsm k13 x0 x1 x2 y0 y1 y2
      go_wp2_with fail
      (with_reducible refine hpr2.mono ?_)
      rintro e w14 ⟨rfl, k14⟩
      have K14 := hide (K13.out.trans k14 (fun _ _ e => e))
      have hself : (TX.toList == TX.toList) = true := by simp
      clear hpr2 k14
      go_wp2_with fail
      go_ret
      exact ⟨rfl, K14.out⟩
end Go.Proofs.YteakgdfckmllhaaDoor
