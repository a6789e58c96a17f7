/-
  script: ScriptFault's walk.
-/
import Derived.Test.YtfpiibccggjjpaaDoorUn13
namespace Go.Proofs.YtfpiibccggjjpaaDoor
open Go.RowKit
set_option linter.unusedVariables false

theorem cut_cmds (so : Option Addr) (len cap k : Nat) (hk : k ≤ cap) (W : World) : (Instr.slice 23 (.slice so len cap) none (some (.int .i64 (k : Int))) none).run Tryd.prog W = .ok (.slice so k cap) W := by
  have ht' : Tryd.prog.underlying 23 = some (.slice (Tryd.prog.elem 23)) := by simp [Program.elem, Tryd.underlying23]
  have he : Tryd.prog.elem 23 = 33 := by simp [Program.elem, Tryd.underlying23]
  obtain ⟨i, h1, h2, h3, h4⟩ := info_parts Tryd.infoCm
  have hsz : (Go.sizeOf 33).run Tryd.prog W = .ok 9 W := by simp [Go.sizeOf, typeInfo, h1, h3]
  rw [run_slice_h W _ _ _ _ ht' .i64 _ (by omega) (by omega), he, hsz]
  cases so with
  | none => simp [Result.andThen, sliced]
  | some a => simp [Result.andThen, sliced, Addr.add]
theorem zero_ov (w : World) : OvIn w (.slice none 0 0) [] := ⟨Or.inl ⟨rfl, rfl⟩, fun x hx => by cases hx⟩
theorem zero_cm (w : World) : CmIn w (.slice none 0 0) [] := ⟨Or.inl ⟨rfl, rfl⟩, fun x hx => by cases hx⟩
theorem same_zero (w : World) : Calls Tryd.prog 12 #[.agg #[.int .i64 0, .slice none 0 0, .slice none 0 0], .agg #[.int .i64 0, .slice none 0 0, .slice none 0 0]] w fun e w' => e = .returned (.bool true) ∧ Keeps w w' (fun _ => False) :=
  same_true 0 (.slice none 0 0) (.slice none 0 0) (.slice none 0 0) (.slice none 0 0) [] [] [] rfl w (zero_ov w) (zero_ov w) (zero_cm w) (zero_cm w) (by decide)
theorem Caps.snoc {l : List UInt8} {i : Nat} (h : Caps (l.take i)) (hi : i < l.length) (h1 : 65 ≤ l[i].toNat) (h2 : l[i].toNat ≤ 90) : Caps (l.take (i + 1)) := fun x hx => by
  rw [List.take_succ_eq_append_getElem hi] at hx
  rcases List.mem_append.1 hx with q | q
  · exact h x q
  · obtain rfl : x = l[i] := by simpa using q
    exact ⟨h1, h2⟩
set_option maxRecDepth 100000 in
set_option maxHeartbeats 16000000 in
theorem fault_walk (n : Int) (vo vc : Value) (os : List Ovr) (L : List CmV) (a : Int) (name behind : ByteArray) (w : World) (hn : Fit n) (ho : OvIn w vo os) (hc : CmIn w vc L) (hcost : costO os + costs (L.map (·.c)) ≤ 4194304) (hnm : name.size ≤ 1048576) (hbh : behind.size ≤ 1048576) (ht : TabW w) (hD : Deb w) (hR : RowsF w) (he : ErrW w) : Calls Tryd.prog 7 #[.agg #[.int .i64 n, vo, vc], .int .i64 a, .string name, .string behind] w fun e w' => e = .returned (.bool true) ∧ Keeps w w' (fun _ => False) := by
  obtain ⟨so, co, rfl⟩ := ho.row.form
  obtain ⟨sc, cc, rfl⟩ := hc.row.form
  have l1 := ovs_few os
  have l2 := cms_few (L.map (·.c))
  rw [List.length_map] at l2
  have HO := hide ho
  have HC := hide hc
  have HT := hide (And.intro ht (And.intro hD (And.intro hR he)))
  have HCost := hide hcost
  have HN := hide hn
  have HL := hide (And.intro (show os.length ≤ 4194304 by omega) (show L.length ≤ 4194304 by omega))
  have HTC := hide (tells_cost (L.map (·.c)))
  have HNB := hide (And.intro hnm hbh)
  clear ho hc ht hD hR he hcost hn l1 l2 hbh
  go_enter Tryd.func7, Tryd.ntmps7
  go_upto_region 1 with fail
  refine alloc1 (P := fun W => Code.wp _ _ _ _ W) fun W0 hb0 hs0 k0 => ?_
  have K0 := hide k0
  have Hb0 := hide hb0
  clear hb0 hs0 k0
  go_wp2_with fail
  go_loopw [9] (fun v9 wr => ∃ i : Nat, v9 = .int .i64 (i : Int) ∧ i ≤ name.size ∧ Hid (Caps (name.data.toList.take i)) ∧ wr = W0) (fun v9 _ => name.size - (intOf v9).toNat)
  case atStart => exact ⟨0, rfl, Nat.zero_le _, fun x hx => (by simp at hx), rfl⟩
  case round =>
    obtain ⟨i, rfl, hi, HCp, rfl⟩ := hrel
    by_cases hlt : i < name.size
    · have hlt' : (i : Int) < (name.size : Int) := by omega
      have hi0 : (0 : Int) ≤ (i : Int) := by omega
      obtain ⟨x, hx⟩ : ∃ x, name[i] = x := ⟨_, rfl⟩
      have hxl : name.data.toList[i]'hlt = x := hx
      have hsn := fun h1 h2 => HCp.out.snoc hlt h1 h2
      rw [hxl] at hsn
      have HSn := hide hsn
      have Hms : Hid (name.size - (i + 1) < name.size - i) := by show name.size - (i + 1) < name.size - i; omega
      have hwr := hide (wr64s (n := i) (by omega))
      clear hsn hxl
      by_cases h65 : x.toNat < 65
      · have y1 : ((x.toNat : Int) < 65) := by omega
        go_wp2_with fail
        go_ret
        exact ⟨rfl, K0.out⟩
      · have y1 : ¬ ((x.toNat : Int) < 65) := by omega
        by_cases h90 : 90 < x.toNat
        · have y2 : (90 : Int) < (x.toNat : Int) := by omega
          go_wp2_with fail
          go_ret
          exact ⟨rfl, K0.out⟩
        · have y2 : ¬ (90 : Int) < (x.toNat : Int) := by omega
          have HN2 := hide (HSn.out (by omega) (by omega))
          clear HSn h65 h90 HCp
          obtain ⟨a6, a7⟩ := hwr.out
          go_wp2_with fail
          go_roundw
          case rel => exact ⟨i + 1, by go_num, hlt, HN2.out, by first | rfl | trivial⟩
          case measure => simp [intOf]; exact Hms.out
    · obtain rfl : i = name.size := by omega
      have hlt' : ¬ (name.size : Int) < (name.size : Int) := by omega
      have HCaps : Hid (Caps name.data.toList) := by
        have := HCp.out
        rw [List.take_of_length_le (show name.data.toList.length ≤ name.size from Nat.le_refl _)] at this
        exact this
      obtain ⟨c0, c1, c2⟩ := three_cells9 Hb0.out
      have hcl := cleaned_cap n (.slice so os.length co) (.slice sc L.length cc) os L wr (HO.out.keeps K0.out) (HC.out.keeps K0.out) HL.out.2
      clear HCp hi
      go_wp2_with fail
      (with_reducible refine hcl.mono ?_)
      rintro e w1 ⟨s2, cp2, L2, rfl, hcap, hcm2, heq2, k1⟩
      have K1 := hide (K0.out.trans k1 (fun _ _ e => e))
      have H2 := hide (And.intro hcm2 heq2)
      have Hcap := hide hcap
      have hL2 : L2.length ≤ 4194304 := by
        have e := congrArg List.length heq2
        rw [List.length_map] at e
        have q := List.length_filterMap_le tellC (L.map (·.c))
        rw [List.length_map] at q
        have := HL.out.2
        omega
      have HL2 := hide hL2
      clear hcl hcm2 heq2 k1 c0 c1 c2 hcap
      go_upto_region 7 with fail
      refine alloc1 (P := fun W => Code.wp _ _ _ _ W) fun W2 hb2 hs2 k2 => ?_
      obtain ⟨g0, g1, g2⟩ := three_cells9 hb2
      obtain ⟨f0, f1, f2⟩ := fro3 hb2
      have K2 := hide (K1.out.trans k2 (fun _ _ e => e))
      have Hb2 := hide hb2
      have HX : Hid (∀ W3, Keeps W2 W3 (fun x => x = w1.heap.size) → CmIn W3 (.slice s2 L2.length cp2) L2 ∧ Keeps w W3 (fun _ => False)) := fun W3 k3 => ⟨H2.out.1.keeps (keeps_out k2 (Nat.le_refl _) k3), keeps_out K2.out K1.out.size k3⟩
      have HE2 := hide H2.out.2
      clear hb2 hs2 k2 K1 H2
      generalize w1.heap.size = B at *
      have hpick : ∃ k : Nat, k ≤ L2.length ∧ ((¬ a < 0 ∧ ¬ (L2.length : Int) < a ∧ a = (k : Int)) ∨ ((a < 0 ∨ (¬ a < 0 ∧ (L2.length : Int) < a)) ∧ k = L2.length)) := by
        by_cases hA : a < 0
        · exact ⟨_, Nat.le_refl _, Or.inr ⟨Or.inl hA, rfl⟩⟩
        · by_cases hB : (L2.length : Int) < a
          · exact ⟨_, Nat.le_refl _, Or.inr ⟨Or.inr ⟨hA, hB⟩, rfl⟩⟩
          · exact ⟨a.toNat, by omega, Or.inl ⟨hA, hB, by omega⟩⟩
      obtain ⟨k, hkl, hkk⟩ := hpick
      have hcut := fun W => cut_cmds s2 L2.length cp2 k (Nat.le_trans hkl Hcap.out) W
      have hkc : (k : Int) ≤ (cp2 : Int) := by have := Hcap.out; omega
      have hk0 : (0 : Int) ≤ (k : Int) := by omega
      have HK := hide hkl
      have hk4 : k ≤ 4194304 := Nat.le_trans hkl hL2
      rcases hkk with ⟨hA1, hB1, rfl⟩ | ⟨hA2 | ⟨hA3, hB3⟩, rfl⟩
      all_goals (go_upto_region 10 with fail)
      all_goals (refine set1r (P := fun W => Code.wp _ _ _ _ W) Hb2.out fun W3 h3 k3 => ?_)
      all_goals (have hb3 : W3.heap[B]? = some (.cells #[.int .i64 n, .slice so os.length co, .slice s2 _ cp2] 25) := h3)
      all_goals (first | (have _q := hB1; clear _q; have HKK := hide hkl) | (generalize hke : L2.length = k at hb3 ⊢; have HKK : Hid (k ≤ L2.length) := Nat.le_of_eq hke.symm; rw [hke] at hk4; clear hke))
      all_goals (
        have hkl2 : k ≤ L2.length := HKK.out
        obtain ⟨hcm3, kw3⟩ := HX.out W3 k3
        have hov3 := HO.out.keeps kw3
        have hlk : (L2.take k).length = k := by rw [List.length_take]; have := HKK.out; omega
        have hcm3k := hcm3.take HKK.out
        have hcop := copied_any n so s2 co cp2 os (L2.take k) W3 hov3 hcm3k HL.out.1 (by rw [hlk]; exact hk4)
        rw [hlk] at hcop
        obtain ⟨x0, x1, x2⟩ := three_cells9 hb3
        have Hb3 := hide hb3
        have K3 := hide kw3
        have Hk4 := hide hk4
        have hcs : (L2.take k).map (·.c) = ((L.map (·.c)).filterMap tellC).take k := by rw [List.map_take, HE2.out]
        have HCS := hide hcs
        have Hlk := hide hlk
        have HOk := hide (fun x hx => hcm3k.ok x hx)
        clear hcm3 hov3 hcm3k h3 k3 kw3 hb3 g0 g1 g2 f0 f1 f2 hcut hkc HX Hb2 hcs hlk
        go_wp2_with fail
        (with_reducible refine hcop.mono ?_)
        rintro e w4 ⟨go, co4, gc, cc4, G, C, rfl, hcpy, k4⟩
        have K4 := hide (K3.out.trans k4 (fun _ _ e => e))
        have Hb4 := hide (k4.blk8 Hb3.out)
        have hov4 := hcpy.ovIn HO.out.ok
        have hcm4 := hcpy.cmIn HOk.out
        have hcost2 : costO os + costs ((L2.take k).map (·.c)) ≤ 4194304 := by
          rw [HCS.out]
          have q1 := costs_take ((L.map (·.c)).filterMap tellC) k
          have q2 := HTC.out
          have q3 := HCost.out
          omega
        have hpr := print_any n (.slice (some ⟨go, 0, none⟩) os.length co4) (.slice (some ⟨gc, 0, none⟩) (L2.take k).length cc4) os (newC G C (L2.take k)) w4 HN.out hov4 hcm4 (by rw [newC_cs]; exact hcost2) (HT.out.1.keeps K4.out) (HT.out.2.1.keeps K4.out) (HT.out.2.2.1.keeps K4.out)
        rw [newC_cs, Hlk.out] at hpr
        have HTL := hide (text_len HN.out HO.out.ok HOk.out hcost2)
        have hPF := fun hz => parse_fault (n := n) (os := os) (cs := (L2.take k).map (·.c)) HN.out (fun o q => (HO.out.ok o q).2) (fun c q => by
          obtain ⟨x, hx, rfl⟩ := List.mem_map.1 q
          exact (HOk.out x hx).okD) (fun c q => by
          rw [HCS.out] at q
          exact told_all _ c (List.mem_of_mem_take q)) HCaps.out behind.data.toList hz
        rw [List.length_map, Hlk.out] at hPF
        have HPF := hide hPF
        clear hcop hcpy k4 hov4 hcm4 hcost2 hPF
        generalize (L2.take k).map (·.c) = cs2 at *
        generalize hTX : strOf (textD n os cs2) = TX at *
        have hTd : (((TX ++ name) ++ ⟨#[63, 10]⟩) ++ behind).data.toList = textD n os cs2 ++ (name.data.toList ++ [63] ++ [10] ++ behind.data.toList) := by
          rw [← hTX]
          simp [strOf, ByteArray.data_append]
        have HTXs : Hid (TX.size = (textD n os cs2).length) := by show TX.size = _; rw [← hTX, strOf_size]
        clear hTX
        go_wp2_with fail
        (with_reducible refine hpr.mono ?_)
        rintro e w5 ⟨rfl, k5⟩
        have K5 := hide (K4.out.trans k5 (fun _ _ e => e))
        have Hb5 := hide (k5.blk8 Hb4.out)
        obtain ⟨TT, hTT⟩ : ∃ TT, ((TX ++ name) ++ ⟨#[63, 10]⟩) ++ behind = TT := ⟨_, rfl⟩
        rw [hTT] at hTd
        have HTT := hide hTT
        have hTs : TT.size = (textD n os cs2 ++ (name.data.toList ++ [63] ++ [10] ++ behind.data.toList)).length := by rw [← hTd]; rfl
        have HTS := hide hTs
        have hTb : TT.size ≤ 9223372036854775807 := by
          rw [hTs]
          have q1 := HTL.out
          have q2 := HNB.out
          have q3 : name.data.toList.length = name.size := rfl
          have q4 : behind.data.toList.length = behind.size := rfl
          simp only [List.length_append, List.length_cons, List.length_nil]
          omega
        have hpa := parse_any16 TT hTb w5 (HT.out.2.2.1.keeps K5.out) (HT.out.2.2.2.keeps K5.out)
        rw [hTd] at hpa
        have HTb := hide hTb
        have hTXs : TX.size ≤ 500000000 := by rw [HTXs.out]; exact HTL.out
        have hbh : behind.size ≤ 1048576 := HNB.out.2
        clear hpr k5 K4 Hb4 hTd hTs hTb hTT
        by_cases hbig : 1048576 < TT.size
        · have e1 : parseD (textD n os cs2 ++ (name.data.toList ++ [63] ++ [10] ++ behind.data.toList)) = .inr (0, 160) := by
            unfold parseD
            rw [if_pos (by rw [← HTS.out]; exact hbig)]
          rw [e1] at hpa
          have hbig' : (1048576 : Int) < (TT.size : Int) := by omega
          clear e1
          go_wp2_with fail
          rw [HTT.out]
          (with_reducible refine hpa.mono ?_)
          rintro e w6 ⟨k6, rfl⟩
          have K6 := hide (K5.out.trans k6 (fun _ _ e => e))
          clear hpa k6
          go_upto_region 13 with fail
          refine alloc1 (P := fun W => Code.wp _ _ _ _ W) fun W7 hb7 hs7 k7 => ?_
          have K7 := hide (K6.out.trans k7 (fun _ _ e => e))
          obtain ⟨x0, x1, x2⟩ := three_cells9 hb7
          have hsm := same_zero W7
          clear hb7 hs7 k7
          go_wp2_with fail
          (with_reducible refine hsm.mono ?_)
          rintro e w8 ⟨rfl, k8⟩
          have K8 := hide (K7.out.trans k8 (fun _ _ e => e))
          clear hsm k8
          go_wp2_with fail
          go_ret
          exact ⟨rfl, K8.out⟩
        · have e1 := HPF.out (by rw [← HTS.out]; omega)
          rw [e1] at hpa
          have hbig' : ¬ (1048576 : Int) < (TT.size : Int) := by omega
          clear e1
          go_wp2_with fail
          rw [HTT.out]
          (with_reducible refine hpa.mono ?_)
          rintro e w6 ⟨k6, rfl⟩
          have K6 := hide (K5.out.trans k6 (fun _ _ e => e))
          have Hb6 := hide (k6.blk8 Hb5.out)
          clear hpa k6
          go_upto_region 13 with fail
          refine alloc1 (P := fun W => Code.wp _ _ _ _ W) fun W7 hb7 hs7 k7 => ?_
          have K7 := hide (K6.out.trans k7 (fun _ _ e => e))
          have Hb7 := hide (k7.blk8 Hb6.out)
          obtain ⟨x0, x1, x2⟩ := three_cells9 hb7
          have hsm := same_zero W7
          clear hb7 hs7 k7
          go_wp2_with fail
          (with_reducible refine hsm.mono ?_)
          rintro e w8 ⟨rfl, k8⟩
          have K8 := hide (K7.out.trans k8 (fun _ _ e => e))
          obtain ⟨z0, z1, z2⟩ := three_cells9 (k8.blk8 Hb7.out)
          have b1 : os.length ≤ 4194304 := HL.out.1
          have b2 : k ≤ 4194304 := Hk4.out
          clear hsm k8 x0 x1 x2
          go_wp2_with fail
          go_ret
          exact ⟨rfl, K8.out⟩)
end Go.Proofs.YtfpiibccggjjpaaDoor
