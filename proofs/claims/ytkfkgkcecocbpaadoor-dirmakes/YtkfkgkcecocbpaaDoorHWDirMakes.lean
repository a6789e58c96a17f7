/-
  DirMakes's walk (made by genwdm.py).
-/
import Derived.Test.YtkfkgkcecocbpaaDoorDn12
namespace Go.Proofs.YtkfkgkcecocbpaaDoor
open Go.RowKit Go.Shelf
set_option linter.unusedVariables false
namespace dirMakes

theorem cells_of {w : World} {so : Option Addr} {cp : Nat} {zs : List Int} (h : InZ w (.slice so zs.length cp) zs) : ∀ j (hj : j < zs.length), ∃ b o, so = some ⟨b, o, none⟩ ∧ w.cell? ⟨b, o + j, none⟩ = some (.int .i64 zs[j]) := by
  obtain ⟨so', cp', e, hc⟩ := h.form
  injection e with e1 e2 e3
  subst e1
  exact hc

set_option maxRecDepth 100000 in
set_option maxHeartbeats 2000000 in
theorem walk (lim i : Int) (v : Value) (zs : List Int) (w : World) (hT : TabAt w) (hz : InZ w v zs) (hl : zs.length ≤ 17592186044000) (hfit : ∀ j (h : j < zs.length), fitsI zs[j]) (hlim : fitsI lim) (hi : fitsI i) :
    Calls Tryd.prog 3 #[.int .i64 lim, v, .int .i64 i] w fun e w' => Post w e w' := by
  obtain ⟨so, cap, rfl, -⟩ := hz.form
  obtain ⟨q1, q2⟩ := fitsI_bounds hi
  have hDp := fun W => depthOf_any zs.length W
  have HZ := hide hz
  have HF := hide hfit
  have HT := hide hT
  clear hz hfit hi hT hlim
  by_cases h0 : lim < 0
  · go_enter Tryd.func3, Tryd.ntmps3
    go_wp2_with fail
    obtain ⟨L, hL⟩ : ∃ L : Nat, (4096 : Int) = (L : Int) := ⟨4096, rfl⟩
    rw [hL]
    have hL2 : L ≤ 2097152 := by omega
    clear hL
    (with_reducible refine (own_new L hL2).mono ?_)
    rintro e w1 ⟨p, rfl, O1⟩
    obtain ⟨a, c, W2, hap, hrow, ha, kc⟩ := (HZ.out.keeps O1.keeps).copyB (by omega)
    have HO2 := hide (O1.stay kc)
    have HR := hide (And.intro O1 (And.intro hrow (And.intro kc ha)))
    clear O1 hrow kc ha
    by_cases hd : depI zs.length < 0
    · have hNw := fun W => dnew_no (.pointer (some ⟨p, 0, none⟩)) zs.length c (some ⟨a, 0, none⟩) W hd
      generalize depI zs.length = dq at *
      go_wp2_with (first | (at_builtin; have _t := hap; refine app_run _ rfl (.tmp 33) (.tmp 34) 22 rfl rfl rfl hap ?_; clear hap))
      (with_reducible refine (hNw _).mono ?_)
      rintro e w3 ⟨rfl, k3⟩
      have O3 := (HO2.out.stay k3).stay ((Keeps.refl w3 (fun _ => False)).alloc (.cells #[.pointer none, .int .i64 0, .int .i64 0] 28))
      have hLv := dlive O3
      rw [show ((AD.fresh L).used : Int) = 0 from rfl] at hLv
      have hbl := hide (Own.below O3 (Keeps.refl w (fun _ => False)))
      clear hNw HR O3 k3
      go_wp2_with fail
      (with_reducible refine (hDp _).mono ?_)
      rintro e w4 ⟨rfl, rfl⟩
      clear hDp
      go_wp2_with fail
      (with_reducible refine hLv.mono ?_)
      rintro e w5 ⟨rfl, rfl⟩
      clear hLv
      go_wp2_with fail
      go_ret
      exact ⟨rfl, hbl.out⟩
    · obtain ⟨D, hD6, hzD, hdD, h64, h1⟩ := depI_yes hd
      have hcl := class_le (8 * zs.length) (by omega) (by omega)
      have hCl := fun W => dclass 8 zs.length (8 * (zs.length : Int)) (by omega) W (by omega) (by omega)
      by_cases hr : classN (8 * zs.length) ≤ L
      · have hNw := new_copy HR.out.1 (AD.fresh_fine hL2) (fresh_well L) HT.out HR.out.2.2.1 a c HR.out.2.2.2 zs HR.out.2.1 HF.out hd (by show 0 + _ ≤ L; omega)
        rw [hdD] at hDp
        clear hd hzD
        have HdD := hide hdD
        clear hdD
        go_wp2_with (first | (at_builtin; have _t := hap; refine app_run _ rfl (.tmp 33) (.tmp 34) 22 rfl rfl rfl hap ?_; clear hap))
        (with_reducible refine hNw.mono ?_)
        intro e w3 hpost
        obtain ⟨off, D', d, rfl, hM⟩ := made_of hpost
        obtain rfl : D' = D := by have := hM.dep; have := HdD.out; omega
        clear hNw hpost HR HO2 HdD
        have K4 : Keeps w3 (w3.alloc (.cells #[.pointer (some ⟨p, 0, none⟩), .int .i64 (off : Int), .int .i64 (D' : Int)] 28)) (fun _ => False) := (Keeps.refl _ _).alloc _
        have B4 : DirB (w3.alloc (.cells #[.pointer (some ⟨p, 0, none⟩), .int .i64 (off : Int), .int .i64 (D' : Int)] 28)) w3.heap.size p off D' := heap_alloc_new _ _
        have hM4 := hM.stay K4
        have hLv := dlive hM4.dir.own
        rw [hM4.used] at hLv
        have hDe := fun W => dDepth_any p off D' W
        have hEn := fun W (k : Keeps (w3.alloc (.cells #[.pointer (some ⟨p, 0, none⟩), .int .i64 (off : Int), .int .i64 (D' : Int)] 28)) W (fun _ => False)) => dentry_any (hM4.dir.stay k) i
        have HM := hide hM4
        clear hM hM4 K4
        obtain ⟨⟨c0, c1, c2⟩, -⟩ := three_cells B4
        generalize classN (8 * zs.length) = cl at *
        go_wp2_with fail
        (with_reducible refine (hDp _).mono ?_)
        rintro e w5 ⟨rfl, rfl⟩
        go_wp2_with fail
        (with_reducible refine (hCl _).mono ?_)
        rintro e w6 ⟨rfl, rfl⟩
        clear hCl
        go_wp2_with fail
        (with_reducible refine hLv.mono ?_)
        rintro e w7 ⟨rfl, rfl⟩
        clear hLv
        go_wp2_with fail
        (with_reducible refine (hDe _).mono ?_)
        rintro e w8 ⟨rfl, k8⟩
        clear hDe
        go_wp2_with fail
        (with_reducible refine (hDp _).mono ?_)
        rintro e w9 ⟨rfl, rfl⟩
        have E0 := hEn _ k8
        obtain ⟨⟨x0, x1, x2⟩, -⟩ := three_cells (k8.blk B4)
        clear hDp hEn c0 c1 c2 B4
        unfold entV at E0
        by_cases hi0 : i < 0
        · rw [if_neg (by omega)] at E0
          go_wp2_with fail
          (with_reducible refine E0.mono ?_)
          rintro e w10 ⟨rfl, k10⟩
          have hbl := hide (HM.out.stay (k8.trans k10 (fun _ _ e => e))).below
          clear E0 k8 k10 x0 x1 x2
          go_wp2_with fail
          go_ret
          exact ⟨rfl, hbl.out⟩
        · by_cases hi1 : (zs.length : Int) ≤ i
          · rw [if_neg (by omega)] at E0
            go_wp2_with fail
            (with_reducible refine E0.mono ?_)
            rintro e w10 ⟨rfl, k10⟩
            have hbl := hide (HM.out.stay (k8.trans k10 (fun _ _ e => e))).below
            clear E0 k8 k10 x0 x1 x2
            go_wp2_with fail
            go_ret
            exact ⟨rfl, hbl.out⟩
          · rw [if_pos (by omega)] at E0
            obtain ⟨m, rfl⟩ := Int.eq_ofNat_of_zero_le (show 0 ≤ i by omega)
            have hm : m < zs.length := by omega
            obtain ⟨b, o, rfl, hcell⟩ := cells_of HZ.out m hm
            rw [Int.toNat_natCast, show zs.getD m 0 = zs[m] by rw [List.getD_eq_getElem?_getD, List.getElem?_eq_getElem hm]; rfl] at E0
            go_wp2_with fail
            (with_reducible refine E0.mono ?_)
            rintro e w10 ⟨rfl, k10⟩
            have hM10 := HM.out.stay (k8.trans k10 (fun _ _ e => e))
            have hbl := hide hM10.below
            have hc2 := hM10.dir.own.keeps.cellK hcell
            clear E0 k8 k10 x0 x1 x2 hM10 HM HZ HF
            generalize zs[m] = z at *
            go_wp2_with fail
            go_ret
            exact ⟨rfl, hbl.out⟩
      · have hNw := fun W (k : Keeps W2 W (fun _ => False)) => dnew_room (HO2.out.stay k) (AD.fresh_fine hL2) zs.length c (some ⟨a, 0, none⟩) hd (by show L < 0 + _; omega)
        rw [hdD] at hDp
        clear hd hzD hdD
        go_wp2_with (first | (at_builtin; have _t := hap; refine app_run _ rfl (.tmp 33) (.tmp 34) 22 rfl rfl rfl hap ?_; clear hap))
        (with_reducible refine (hNw _ (Keeps.refl _ _)).mono ?_)
        rintro e w3 ⟨rfl, k3⟩
        have O3 := (HO2.out.stay k3).stay ((Keeps.refl w3 (fun _ => False)).alloc (.cells #[.pointer none, .int .i64 0, .int .i64 0] 28))
        have hLv := dlive O3
        rw [show ((AD.fresh L).used : Int) = 0 from rfl] at hLv
        have hbl := hide (Own.below O3 (Keeps.refl w (fun _ => False)))
        clear hNw HR O3 k3
        generalize classN (8 * zs.length) = cl at *
        go_wp2_with fail
        (with_reducible refine (hDp _).mono ?_)
        rintro e w4 ⟨rfl, rfl⟩
        clear hDp
        go_wp2_with fail
        (with_reducible refine (hCl _).mono ?_)
        rintro e w6 ⟨rfl, rfl⟩
        clear hCl
        go_wp2_with fail
        (with_reducible refine hLv.mono ?_)
        rintro e w7 ⟨rfl, rfl⟩
        clear hLv
        go_wp2_with fail
        go_ret
        exact ⟨rfl, hbl.out⟩
  · by_cases h1 : 2097152 < lim
    · go_enter Tryd.func3, Tryd.ntmps3
      go_wp2_with fail
      obtain ⟨L, hL⟩ : ∃ L : Nat, (4096 : Int) = (L : Int) := ⟨4096, rfl⟩
      rw [hL]
      have hL2 : L ≤ 2097152 := by omega
      clear hL
      (with_reducible refine (own_new L hL2).mono ?_)
      rintro e w1 ⟨p, rfl, O1⟩
      obtain ⟨a, c, W2, hap, hrow, ha, kc⟩ := (HZ.out.keeps O1.keeps).copyB (by omega)
      have HO2 := hide (O1.stay kc)
      have HR := hide (And.intro O1 (And.intro hrow (And.intro kc ha)))
      clear O1 hrow kc ha
      by_cases hd : depI zs.length < 0
      · have hNw := fun W => dnew_no (.pointer (some ⟨p, 0, none⟩)) zs.length c (some ⟨a, 0, none⟩) W hd
        generalize depI zs.length = dq at *
        go_wp2_with (first | (at_builtin; have _t := hap; refine app_run _ rfl (.tmp 33) (.tmp 34) 22 rfl rfl rfl hap ?_; clear hap))
        (with_reducible refine (hNw _).mono ?_)
        rintro e w3 ⟨rfl, k3⟩
        have O3 := (HO2.out.stay k3).stay ((Keeps.refl w3 (fun _ => False)).alloc (.cells #[.pointer none, .int .i64 0, .int .i64 0] 28))
        have hLv := dlive O3
        rw [show ((AD.fresh L).used : Int) = 0 from rfl] at hLv
        have hbl := hide (Own.below O3 (Keeps.refl w (fun _ => False)))
        clear hNw HR O3 k3
        go_wp2_with fail
        (with_reducible refine (hDp _).mono ?_)
        rintro e w4 ⟨rfl, rfl⟩
        clear hDp
        go_wp2_with fail
        (with_reducible refine hLv.mono ?_)
        rintro e w5 ⟨rfl, rfl⟩
        clear hLv
        go_wp2_with fail
        go_ret
        exact ⟨rfl, hbl.out⟩
      · obtain ⟨D, hD6, hzD, hdD, h64, h1⟩ := depI_yes hd
        have hcl := class_le (8 * zs.length) (by omega) (by omega)
        have hCl := fun W => dclass 8 zs.length (8 * (zs.length : Int)) (by omega) W (by omega) (by omega)
        by_cases hr : classN (8 * zs.length) ≤ L
        · have hNw := new_copy HR.out.1 (AD.fresh_fine hL2) (fresh_well L) HT.out HR.out.2.2.1 a c HR.out.2.2.2 zs HR.out.2.1 HF.out hd (by show 0 + _ ≤ L; omega)
          rw [hdD] at hDp
          clear hd hzD
          have HdD := hide hdD
          clear hdD
          go_wp2_with (first | (at_builtin; have _t := hap; refine app_run _ rfl (.tmp 33) (.tmp 34) 22 rfl rfl rfl hap ?_; clear hap))
          (with_reducible refine hNw.mono ?_)
          intro e w3 hpost
          obtain ⟨off, D', d, rfl, hM⟩ := made_of hpost
          obtain rfl : D' = D := by have := hM.dep; have := HdD.out; omega
          clear hNw hpost HR HO2 HdD
          have K4 : Keeps w3 (w3.alloc (.cells #[.pointer (some ⟨p, 0, none⟩), .int .i64 (off : Int), .int .i64 (D' : Int)] 28)) (fun _ => False) := (Keeps.refl _ _).alloc _
          have B4 : DirB (w3.alloc (.cells #[.pointer (some ⟨p, 0, none⟩), .int .i64 (off : Int), .int .i64 (D' : Int)] 28)) w3.heap.size p off D' := heap_alloc_new _ _
          have hM4 := hM.stay K4
          have hLv := dlive hM4.dir.own
          rw [hM4.used] at hLv
          have hDe := fun W => dDepth_any p off D' W
          have hEn := fun W (k : Keeps (w3.alloc (.cells #[.pointer (some ⟨p, 0, none⟩), .int .i64 (off : Int), .int .i64 (D' : Int)] 28)) W (fun _ => False)) => dentry_any (hM4.dir.stay k) i
          have HM := hide hM4
          clear hM hM4 K4
          obtain ⟨⟨c0, c1, c2⟩, -⟩ := three_cells B4
          generalize classN (8 * zs.length) = cl at *
          go_wp2_with fail
          (with_reducible refine (hDp _).mono ?_)
          rintro e w5 ⟨rfl, rfl⟩
          go_wp2_with fail
          (with_reducible refine (hCl _).mono ?_)
          rintro e w6 ⟨rfl, rfl⟩
          clear hCl
          go_wp2_with fail
          (with_reducible refine hLv.mono ?_)
          rintro e w7 ⟨rfl, rfl⟩
          clear hLv
          go_wp2_with fail
          (with_reducible refine (hDe _).mono ?_)
          rintro e w8 ⟨rfl, k8⟩
          clear hDe
          go_wp2_with fail
          (with_reducible refine (hDp _).mono ?_)
          rintro e w9 ⟨rfl, rfl⟩
          have E0 := hEn _ k8
          obtain ⟨⟨x0, x1, x2⟩, -⟩ := three_cells (k8.blk B4)
          clear hDp hEn c0 c1 c2 B4
          unfold entV at E0
          by_cases hi0 : i < 0
          · rw [if_neg (by omega)] at E0
            go_wp2_with fail
            (with_reducible refine E0.mono ?_)
            rintro e w10 ⟨rfl, k10⟩
            have hbl := hide (HM.out.stay (k8.trans k10 (fun _ _ e => e))).below
            clear E0 k8 k10 x0 x1 x2
            go_wp2_with fail
            go_ret
            exact ⟨rfl, hbl.out⟩
          · by_cases hi1 : (zs.length : Int) ≤ i
            · rw [if_neg (by omega)] at E0
              go_wp2_with fail
              (with_reducible refine E0.mono ?_)
              rintro e w10 ⟨rfl, k10⟩
              have hbl := hide (HM.out.stay (k8.trans k10 (fun _ _ e => e))).below
              clear E0 k8 k10 x0 x1 x2
              go_wp2_with fail
              go_ret
              exact ⟨rfl, hbl.out⟩
            · rw [if_pos (by omega)] at E0
              obtain ⟨m, rfl⟩ := Int.eq_ofNat_of_zero_le (show 0 ≤ i by omega)
              have hm : m < zs.length := by omega
              obtain ⟨b, o, rfl, hcell⟩ := cells_of HZ.out m hm
              rw [Int.toNat_natCast, show zs.getD m 0 = zs[m] by rw [List.getD_eq_getElem?_getD, List.getElem?_eq_getElem hm]; rfl] at E0
              go_wp2_with fail
              (with_reducible refine E0.mono ?_)
              rintro e w10 ⟨rfl, k10⟩
              have hM10 := HM.out.stay (k8.trans k10 (fun _ _ e => e))
              have hbl := hide hM10.below
              have hc2 := hM10.dir.own.keeps.cellK hcell
              clear E0 k8 k10 x0 x1 x2 hM10 HM HZ HF
              generalize zs[m] = z at *
              go_wp2_with fail
              go_ret
              exact ⟨rfl, hbl.out⟩
        · have hNw := fun W (k : Keeps W2 W (fun _ => False)) => dnew_room (HO2.out.stay k) (AD.fresh_fine hL2) zs.length c (some ⟨a, 0, none⟩) hd (by show L < 0 + _; omega)
          rw [hdD] at hDp
          clear hd hzD hdD
          go_wp2_with (first | (at_builtin; have _t := hap; refine app_run _ rfl (.tmp 33) (.tmp 34) 22 rfl rfl rfl hap ?_; clear hap))
          (with_reducible refine (hNw _ (Keeps.refl _ _)).mono ?_)
          rintro e w3 ⟨rfl, k3⟩
          have O3 := (HO2.out.stay k3).stay ((Keeps.refl w3 (fun _ => False)).alloc (.cells #[.pointer none, .int .i64 0, .int .i64 0] 28))
          have hLv := dlive O3
          rw [show ((AD.fresh L).used : Int) = 0 from rfl] at hLv
          have hbl := hide (Own.below O3 (Keeps.refl w (fun _ => False)))
          clear hNw HR O3 k3
          generalize classN (8 * zs.length) = cl at *
          go_wp2_with fail
          (with_reducible refine (hDp _).mono ?_)
          rintro e w4 ⟨rfl, rfl⟩
          clear hDp
          go_wp2_with fail
          (with_reducible refine (hCl _).mono ?_)
          rintro e w6 ⟨rfl, rfl⟩
          clear hCl
          go_wp2_with fail
          (with_reducible refine hLv.mono ?_)
          rintro e w7 ⟨rfl, rfl⟩
          clear hLv
          go_wp2_with fail
          go_ret
          exact ⟨rfl, hbl.out⟩
    · obtain ⟨L, rfl⟩ := Int.eq_ofNat_of_zero_le (show 0 ≤ lim by omega)
      have hL2 : L ≤ 2097152 := by omega
      go_enter Tryd.func3, Tryd.ntmps3
      go_wp2_with fail
      (with_reducible refine (own_new L hL2).mono ?_)
      rintro e w1 ⟨p, rfl, O1⟩
      obtain ⟨a, c, W2, hap, hrow, ha, kc⟩ := (HZ.out.keeps O1.keeps).copyB (by omega)
      have HO2 := hide (O1.stay kc)
      have HR := hide (And.intro O1 (And.intro hrow (And.intro kc ha)))
      clear O1 hrow kc ha
      by_cases hd : depI zs.length < 0
      · have hNw := fun W => dnew_no (.pointer (some ⟨p, 0, none⟩)) zs.length c (some ⟨a, 0, none⟩) W hd
        generalize depI zs.length = dq at *
        go_wp2_with (first | (at_builtin; have _t := hap; refine app_run _ rfl (.tmp 33) (.tmp 34) 22 rfl rfl rfl hap ?_; clear hap))
        (with_reducible refine (hNw _).mono ?_)
        rintro e w3 ⟨rfl, k3⟩
        have O3 := (HO2.out.stay k3).stay ((Keeps.refl w3 (fun _ => False)).alloc (.cells #[.pointer none, .int .i64 0, .int .i64 0] 28))
        have hLv := dlive O3
        rw [show ((AD.fresh L).used : Int) = 0 from rfl] at hLv
        have hbl := hide (Own.below O3 (Keeps.refl w (fun _ => False)))
        clear hNw HR O3 k3
        go_wp2_with fail
        (with_reducible refine (hDp _).mono ?_)
        rintro e w4 ⟨rfl, rfl⟩
        clear hDp
        go_wp2_with fail
        (with_reducible refine hLv.mono ?_)
        rintro e w5 ⟨rfl, rfl⟩
        clear hLv
        go_wp2_with fail
        go_ret
        exact ⟨rfl, hbl.out⟩
      · obtain ⟨D, hD6, hzD, hdD, h64, h1⟩ := depI_yes hd
        have hcl := class_le (8 * zs.length) (by omega) (by omega)
        have hCl := fun W => dclass 8 zs.length (8 * (zs.length : Int)) (by omega) W (by omega) (by omega)
        by_cases hr : classN (8 * zs.length) ≤ L
        · have hNw := new_copy HR.out.1 (AD.fresh_fine hL2) (fresh_well L) HT.out HR.out.2.2.1 a c HR.out.2.2.2 zs HR.out.2.1 HF.out hd (by show 0 + _ ≤ L; omega)
          rw [hdD] at hDp
          clear hd hzD
          have HdD := hide hdD
          clear hdD
          go_wp2_with (first | (at_builtin; have _t := hap; refine app_run _ rfl (.tmp 33) (.tmp 34) 22 rfl rfl rfl hap ?_; clear hap))
          (with_reducible refine hNw.mono ?_)
          intro e w3 hpost
          obtain ⟨off, D', d, rfl, hM⟩ := made_of hpost
          obtain rfl : D' = D := by have := hM.dep; have := HdD.out; omega
          clear hNw hpost HR HO2 HdD
          have K4 : Keeps w3 (w3.alloc (.cells #[.pointer (some ⟨p, 0, none⟩), .int .i64 (off : Int), .int .i64 (D' : Int)] 28)) (fun _ => False) := (Keeps.refl _ _).alloc _
          have B4 : DirB (w3.alloc (.cells #[.pointer (some ⟨p, 0, none⟩), .int .i64 (off : Int), .int .i64 (D' : Int)] 28)) w3.heap.size p off D' := heap_alloc_new _ _
          have hM4 := hM.stay K4
          have hLv := dlive hM4.dir.own
          rw [hM4.used] at hLv
          have hDe := fun W => dDepth_any p off D' W
          have hEn := fun W (k : Keeps (w3.alloc (.cells #[.pointer (some ⟨p, 0, none⟩), .int .i64 (off : Int), .int .i64 (D' : Int)] 28)) W (fun _ => False)) => dentry_any (hM4.dir.stay k) i
          have HM := hide hM4
          clear hM hM4 K4
          obtain ⟨⟨c0, c1, c2⟩, -⟩ := three_cells B4
          generalize classN (8 * zs.length) = cl at *
          go_wp2_with fail
          (with_reducible refine (hDp _).mono ?_)
          rintro e w5 ⟨rfl, rfl⟩
          go_wp2_with fail
          (with_reducible refine (hCl _).mono ?_)
          rintro e w6 ⟨rfl, rfl⟩
          clear hCl
          go_wp2_with fail
          (with_reducible refine hLv.mono ?_)
          rintro e w7 ⟨rfl, rfl⟩
          clear hLv
          go_wp2_with fail
          (with_reducible refine (hDe _).mono ?_)
          rintro e w8 ⟨rfl, k8⟩
          clear hDe
          go_wp2_with fail
          (with_reducible refine (hDp _).mono ?_)
          rintro e w9 ⟨rfl, rfl⟩
          have E0 := hEn _ k8
          obtain ⟨⟨x0, x1, x2⟩, -⟩ := three_cells (k8.blk B4)
          clear hDp hEn c0 c1 c2 B4
          unfold entV at E0
          by_cases hi0 : i < 0
          · rw [if_neg (by omega)] at E0
            go_wp2_with fail
            (with_reducible refine E0.mono ?_)
            rintro e w10 ⟨rfl, k10⟩
            have hbl := hide (HM.out.stay (k8.trans k10 (fun _ _ e => e))).below
            clear E0 k8 k10 x0 x1 x2
            go_wp2_with fail
            go_ret
            exact ⟨rfl, hbl.out⟩
          · by_cases hi1 : (zs.length : Int) ≤ i
            · rw [if_neg (by omega)] at E0
              go_wp2_with fail
              (with_reducible refine E0.mono ?_)
              rintro e w10 ⟨rfl, k10⟩
              have hbl := hide (HM.out.stay (k8.trans k10 (fun _ _ e => e))).below
              clear E0 k8 k10 x0 x1 x2
              go_wp2_with fail
              go_ret
              exact ⟨rfl, hbl.out⟩
            · rw [if_pos (by omega)] at E0
              obtain ⟨m, rfl⟩ := Int.eq_ofNat_of_zero_le (show 0 ≤ i by omega)
              have hm : m < zs.length := by omega
              obtain ⟨b, o, rfl, hcell⟩ := cells_of HZ.out m hm
              rw [Int.toNat_natCast, show zs.getD m 0 = zs[m] by rw [List.getD_eq_getElem?_getD, List.getElem?_eq_getElem hm]; rfl] at E0
              go_wp2_with fail
              (with_reducible refine E0.mono ?_)
              rintro e w10 ⟨rfl, k10⟩
              have hM10 := HM.out.stay (k8.trans k10 (fun _ _ e => e))
              have hbl := hide hM10.below
              have hc2 := hM10.dir.own.keeps.cellK hcell
              clear E0 k8 k10 x0 x1 x2 hM10 HM HZ HF
              generalize zs[m] = z at *
              go_wp2_with fail
              go_ret
              exact ⟨rfl, hbl.out⟩
        · have hNw := fun W (k : Keeps W2 W (fun _ => False)) => dnew_room (HO2.out.stay k) (AD.fresh_fine hL2) zs.length c (some ⟨a, 0, none⟩) hd (by show L < 0 + _; omega)
          rw [hdD] at hDp
          clear hd hzD hdD
          go_wp2_with (first | (at_builtin; have _t := hap; refine app_run _ rfl (.tmp 33) (.tmp 34) 22 rfl rfl rfl hap ?_; clear hap))
          (with_reducible refine (hNw _ (Keeps.refl _ _)).mono ?_)
          rintro e w3 ⟨rfl, k3⟩
          have O3 := (HO2.out.stay k3).stay ((Keeps.refl w3 (fun _ => False)).alloc (.cells #[.pointer none, .int .i64 0, .int .i64 0] 28))
          have hLv := dlive O3
          rw [show ((AD.fresh L).used : Int) = 0 from rfl] at hLv
          have hbl := hide (Own.below O3 (Keeps.refl w (fun _ => False)))
          clear hNw HR O3 k3
          generalize classN (8 * zs.length) = cl at *
          go_wp2_with fail
          (with_reducible refine (hDp _).mono ?_)
          rintro e w4 ⟨rfl, rfl⟩
          clear hDp
          go_wp2_with fail
          (with_reducible refine (hCl _).mono ?_)
          rintro e w6 ⟨rfl, rfl⟩
          clear hCl
          go_wp2_with fail
          (with_reducible refine hLv.mono ?_)
          rintro e w7 ⟨rfl, rfl⟩
          clear hLv
          go_wp2_with fail
          go_ret
          exact ⟨rfl, hbl.out⟩
end dirMakes
end Go.Proofs.YtkfkgkcecocbpaaDoor
