/-
  DirRefused's walk (made by genwdr.py).
-/
import Derived.Test.YtkfkgkcecocbpaaDoorHDL3
import Derived.Test.YtkfkgkcecocbpaaDoorHWDirPlaces0
namespace Go.Proofs.YtkfkgkcecocbpaaDoor
open Go.RowKit Go.Shelf
set_option linter.unusedVariables false
namespace dirRefused

set_option maxRecDepth 100000 in
set_option maxHeartbeats 2000000 in
theorem walk_true (sp i : Int) (v : Value) (zs : List Int) (w : World) (hz : InZ w v zs) (hq : depI zs.length < 0 ∨ depI zs.length = 6) :
    Calls Tryd.prog 7 #[v, .int .i64 sp, .int .i64 i] w fun e w' => Post w e w' := by
  obtain ⟨so, cap, rfl, -⟩ := hz.form
  have hDp := fun W => depthOf_any zs.length W
  have hbl : Hid (Below w.heap.size w w) := (Keeps.refl w (fun _ => False)).below (Nat.le_refl _) (fun _ _ e => e)
  clear hz
  generalize depI zs.length = dq at *
  rcases (show dq < 0 ∨ (¬ dq < 0 ∧ dq = 6) by omega) with q | ⟨q, rfl⟩
  all_goals clear hq
  · go_enter Tryd.func7, Tryd.ntmps7
    go_wp2_with fail
    (with_reducible refine (hDp _).mono ?_)
    rintro e w2 ⟨rfl, rfl⟩
    clear hDp
    go_wp2_with fail
    go_ret
    exact ⟨rfl, hbl.out⟩
  · go_enter Tryd.func7, Tryd.ntmps7
    go_wp2_with fail
    (with_reducible refine (hDp _).mono ?_)
    rintro e w2 ⟨rfl, rfl⟩
    clear hDp
    go_wp2_with fail
    go_ret
    exact ⟨rfl, hbl.out⟩

set_option maxRecDepth 100000 in
set_option maxHeartbeats 4000000 in
theorem walk_in (D : Nat) (S : Nat) (hS : S ≤ 4096) (i : Int) (v : Value) (zs : List Int) (w : World) (hT : TabAt w) (hz : InZ w v zs) (hfit : ∀ j (h : j < zs.length), fitsI zs[j]) (hd : ¬ depI zs.length < 0) (hdD : depI zs.length = D) (hD : D < 6) (hn : zs.length = 2 ^ D) :
    Calls Tryd.prog 7 #[v, .int .i64 (S : Int), .int .i64 i] w fun e w' => Post w e w' := by
  obtain ⟨so, cap, rfl, -⟩ := hz.form
  have hDp := fun W => depthOf_any zs.length W
  rw [hdD] at hDp
  have hD6 : ((D : Int) == 6) = false := by simp; omega
  have h64 : zs.length ≤ 64 := by rw [hn]; exact pow_le6 (by omega)
  have h1 : 1 ≤ zs.length := by rw [hn]; exact pow_pos' D
  have hC8 := fun W => dclass 8 zs.length (8 * (zs.length : Int)) (by omega) W (by omega) (by omega)
  have hC16 := fun W => dclass 16 zs.length (16 * (zs.length : Int)) (by omega) W (by omega) (by omega)
  have hb8 := class_le (8 * zs.length) (by omega) (by omega)
  have hb16 := class_le (16 * zs.length) (by omega) (by omega)
  have hu8 : classN (8 * zs.length) ≤ 1024 := by rw [hn]; exact class_pow D (by omega)
  generalize hold : classN (8 * zs.length) = old at *
  generalize hnxt : classN (16 * zs.length) = nxt at *
  have Hold := hide hold
  have Hnxt := hide hnxt
  have HZ := hide hz
  have HF := hide hfit
  have HT := hide hT
  have HdD := hide hdD
  have Hd := hide hd
  have hNA := fun W => own_new (w := W) (old + S) (by omega)
  rw [show ((old + S : Nat) : Int) = (old : Int) + (S : Int) by omega] at hNA
  clear hz hfit hT hold hnxt hdD hd hn
  go_enter Tryd.func7, Tryd.ntmps7
  go_wp2_with fail
  (with_reducible refine (hDp _).mono ?_)
  rintro e w0 ⟨rfl, rfl⟩
  clear hDp
  go_wp2_with fail
  (with_reducible refine (hC8 _).mono ?_)
  rintro e w0 ⟨rfl, rfl⟩
  clear hC8
  go_wp2_with fail
  (with_reducible refine (hC16 _).mono ?_)
  rintro e w0 ⟨rfl, rfl⟩
  clear hC16
  go_wp2_with fail
  (with_reducible refine (hNA _).mono ?_)
  rintro e w1 ⟨p, rfl, O1⟩
  obtain ⟨a, c, W2, hap, hrow, ha, kc⟩ := (HZ.out.keeps O1.keeps).copy (by omega)
  have hNw := new_copy O1 (AD.fresh_fine (by omega)) (fresh_well (old + S)) HT.out kc a c ha zs hrow HF.out (by have := Hd.out; omega) (by show 0 + _ ≤ (old + S); rw [Hold.out]; omega)
  clear hNA O1 hrow kc ha
  go_wp2_with (first | (at_builtin; have _t := hap; refine app_run _ rfl (.tmp 66) (.tmp 67) 22 rfl rfl rfl hap ?_; clear hap))
  (with_reducible refine hNw.mono ?_)
  intro e w3 hpost
  obtain ⟨off, D', d, rfl, hM⟩ := made_of hpost
  obtain rfl : D' = D := by have := hM.dep; have := HdD.out; omega
  clear hNw hpost HdD
  have K4 : Keeps w3 (w3.alloc (.cells #[.pointer (some ⟨p, 0, none⟩), .int .i64 (off : Int), .int .i64 (D' : Int)] 28)) (fun _ => False) := (Keeps.refl _ _).alloc _
  have B4 : DirB (w3.alloc (.cells #[.pointer (some ⟨p, 0, none⟩), .int .i64 (off : Int), .int .i64 (D' : Int)] 28)) w3.heap.size p off D' := heap_alloc_new _ _
  have hM4 := hM.stay K4
  have hLv := dlive hM4.dir.own
  rw [hM4.used, Hold.out] at hLv
  have HM4 := hide hM4
  have HG := hide (hM.dir.grow K4)
  obtain ⟨⟨c0, c1, c2⟩, -⟩ := three_cells B4
  clear hM hM4 K4
  go_wp2_with fail
  (with_reducible refine hLv.mono ?_)
  rintro e w4 ⟨rfl, rfl⟩
  clear hLv
  by_cases hr : nxt ≤ S
  · have hWd := dwiden_yes HG.out (fun k hk => hk.elim (fun e => e.elim) (fun e => e.2)) HT.out (by omega) (by rw [HM4.out.limit, HM4.out.used, Hold.out, Hnxt.out]; omega)
    go_wp2_with fail
    (with_reducible refine hWd.mono ?_)
    rintro e w5 ⟨o2, d1, d2, d3, rfl, hB, hWr, hg, hD3, k5⟩
    obtain ⟨D2, hD2⟩ : ∃ D2, D2 = D' + 1 := ⟨_, rfl⟩
    rw [← hD2] at hD3 ⊢
    clear hD2
    have hu3 := widen_used HM4.out.dir.fine hB hWr hg HM4.out.lv HM4.out.used
    have Hu3 := hide (show d3.used = nxt by rw [hu3.1]; exact Hnxt.out)
    have HD5 := hide ((hD3.less (Y := fun _ => False) (fun _ e => e.elim)).stay ((Keeps.refl w5 (fun _ => False)).alloc (.cells #[.pointer (some ⟨p, 0, none⟩), .int .i64 (o2 : Int), .int .i64 (D2 : Int)] 28)))
    have HB5 : Hid (DirB (w5.alloc (.cells #[.pointer (some ⟨p, 0, none⟩), .int .i64 (o2 : Int), .int .i64 (D2 : Int)] 28)) w5.heap.size p o2 D2) := heap_alloc_new _ _
    clear hWd c0 c1 c2 k5 HM4 HG B4 hB hWr hg hD3 hu3
    by_cases hi0 : i < 0
    · have hE := dentry_any HD5.out 1
      rw [show (1 : Int) = ((1 : Nat) : Int) from rfl, dirPlaces.ent_in (show 1 < (dbl zs).length by rw [dbl_length]; omega), dbl_get] at hE
      obtain ⟨b, o, rfl, hcell⟩ := cells_of HZ.out (1 / 2) (by omega)
      rw [show o + 1 / 2 = o from rfl] at hcell
      rw [show ((1 : Nat) : Int) = 1 from rfl] at hE
      generalize hzz : zs[1 / 2] = z at *
      obtain ⟨⟨c0, c1, c2⟩, -⟩ := three_cells HB5.out
      go_wp2_with fail
      (with_reducible refine hE.mono ?_)
      rintro e w6 ⟨rfl, k6⟩
      have hO6 := HD5.out.own.stay k6
      have hLv := dlive hO6
      rw [Hu3.out] at hLv
      have hc2 := hO6.keeps.cellK hcell
      have hbl := hide (Own.below hO6 (Keeps.refl _ (fun _ => False)))
      clear hE c0 c1 c2 k6 HD5 HB5 hO6 hcell HZ
      go_wp2_with fail
      (with_reducible refine hLv.mono ?_)
      rintro e w7 ⟨rfl, rfl⟩
      clear hLv
      go_wp2_with fail
      go_ret
      exact ⟨by simp, hbl.out⟩
    · by_cases hi1 : (zs.length : Int) ≤ i
      · have hE := dentry_any HD5.out 1
        rw [show (1 : Int) = ((1 : Nat) : Int) from rfl, dirPlaces.ent_in (show 1 < (dbl zs).length by rw [dbl_length]; omega), dbl_get] at hE
        obtain ⟨b, o, rfl, hcell⟩ := cells_of HZ.out (1 / 2) (by omega)
        rw [show o + 1 / 2 = o from rfl] at hcell
        rw [show ((1 : Nat) : Int) = 1 from rfl] at hE
        generalize hzz : zs[1 / 2] = z at *
        obtain ⟨⟨c0, c1, c2⟩, -⟩ := three_cells HB5.out
        go_wp2_with fail
        (with_reducible refine hE.mono ?_)
        rintro e w6 ⟨rfl, k6⟩
        have hO6 := HD5.out.own.stay k6
        have hLv := dlive hO6
        rw [Hu3.out] at hLv
        have hc2 := hO6.keeps.cellK hcell
        have hbl := hide (Own.below hO6 (Keeps.refl _ (fun _ => False)))
        clear hE c0 c1 c2 k6 HD5 HB5 hO6 hcell HZ
        go_wp2_with fail
        (with_reducible refine hLv.mono ?_)
        rintro e w7 ⟨rfl, rfl⟩
        clear hLv
        go_wp2_with fail
        go_ret
        exact ⟨by simp, hbl.out⟩
      · obtain ⟨m, rfl⟩ := Int.eq_ofNat_of_zero_le (show 0 ≤ i by omega)
        have hm : m < zs.length := by omega
        have hm' : (m : Int) < (zs.length : Int) := by omega
        have hE := dentry_any HD5.out ((2 * m + 1 : Nat) : Int)
        rw [dirPlaces.ent_in (show 2 * m + 1 < (dbl zs).length by rw [dbl_length]; omega), dbl_get, show ((2 * m + 1 : Nat) : Int) = 2 * (m : Int) + 1 by omega] at hE
        simp only [show (2 * m + 1) / 2 = m by omega] at hE
        obtain ⟨b, o, rfl, hcell⟩ := cells_of HZ.out m hm
        generalize zs[m] = z at *
        obtain ⟨⟨c0, c1, c2⟩, -⟩ := three_cells HB5.out
        go_wp2_with fail
        (with_reducible refine hE.mono ?_)
        rintro e w6 ⟨rfl, k6⟩
        have hO6 := HD5.out.own.stay k6
        have hLv := dlive hO6
        rw [Hu3.out] at hLv
        have hc2 := hO6.keeps.cellK hcell
        have hbl := hide (Own.below hO6 (Keeps.refl _ (fun _ => False)))
        clear hE c0 c1 c2 k6 HD5 HB5 hO6 hcell HZ
        go_wp2_with fail
        (with_reducible refine hLv.mono ?_)
        rintro e w7 ⟨rfl, rfl⟩
        clear hLv
        go_wp2_with fail
        go_ret
        exact ⟨by simp, hbl.out⟩
  · have hWd := dwiden_room HM4.out.dir (by omega) (by rw [HM4.out.limit, HM4.out.used, Hold.out, Hnxt.out]; omega)
    go_wp2_with fail
    (with_reducible refine hWd.mono ?_)
    rintro e w5 ⟨rfl, k5⟩
    have K6 : Keeps (w3.alloc (.cells #[.pointer (some ⟨p, 0, none⟩), .int .i64 (off : Int), .int .i64 (D' : Int)] 28)) (w5.alloc (.cells #[.pointer none, .int .i64 0, .int .i64 0] 28)) (fun _ => False) := k5.alloc _
    have HM5 := hide (HM4.out.stay K6)
    have HB5 := hide (K6.blk B4)
    clear hWd c0 c1 c2 k5 K6 HM4 HG B4
    by_cases hi0 : i < 0
    · have hE := dentry_any HM5.out.dir 0
      rw [show (0 : Int) = ((0 : Nat) : Int) from rfl, dirPlaces.ent_in (show 0 < zs.length by omega)] at hE
      obtain ⟨b, o, rfl, hcell⟩ := cells_of HZ.out 0 (by omega)
      rw [Nat.add_zero] at hcell
      rw [show ((0 : Nat) : Int) = 0 from rfl] at hE
      generalize zs[0] = z at *
      obtain ⟨⟨c0, c1, c2⟩, -⟩ := three_cells HB5.out
      go_wp2_with fail
      (with_reducible refine hE.mono ?_)
      rintro e w6 ⟨rfl, k6⟩
      have hM6 := HM5.out.stay k6
      have hLv := dlive hM6.dir.own
      rw [hM6.used, Hold.out] at hLv
      have hc2 := hM6.dir.own.keeps.cellK hcell
      have hbl := hide hM6.below
      clear hE c0 c1 c2 k6 HM5 HB5 hM6 hcell HZ
      go_wp2_with fail
      (with_reducible refine hLv.mono ?_)
      rintro e w7 ⟨rfl, rfl⟩
      clear hLv
      go_wp2_with fail
      go_ret
      exact ⟨by simp, hbl.out⟩
    · by_cases hi1 : (zs.length : Int) ≤ i
      · have hE := dentry_any HM5.out.dir 0
        rw [show (0 : Int) = ((0 : Nat) : Int) from rfl, dirPlaces.ent_in (show 0 < zs.length by omega)] at hE
        obtain ⟨b, o, rfl, hcell⟩ := cells_of HZ.out 0 (by omega)
        rw [Nat.add_zero] at hcell
        rw [show ((0 : Nat) : Int) = 0 from rfl] at hE
        generalize zs[0] = z at *
        obtain ⟨⟨c0, c1, c2⟩, -⟩ := three_cells HB5.out
        go_wp2_with fail
        (with_reducible refine hE.mono ?_)
        rintro e w6 ⟨rfl, k6⟩
        have hM6 := HM5.out.stay k6
        have hLv := dlive hM6.dir.own
        rw [hM6.used, Hold.out] at hLv
        have hc2 := hM6.dir.own.keeps.cellK hcell
        have hbl := hide hM6.below
        clear hE c0 c1 c2 k6 HM5 HB5 hM6 hcell HZ
        go_wp2_with fail
        (with_reducible refine hLv.mono ?_)
        rintro e w7 ⟨rfl, rfl⟩
        clear hLv
        go_wp2_with fail
        go_ret
        exact ⟨by simp, hbl.out⟩
      · obtain ⟨m, rfl⟩ := Int.eq_ofNat_of_zero_le (show 0 ≤ i by omega)
        have hm : m < zs.length := by omega
        have hm' : (m : Int) < (zs.length : Int) := by omega
        have hE := dentry_any HM5.out.dir (m : Int)
        rw [dirPlaces.ent_in hm] at hE
        obtain ⟨b, o, rfl, hcell⟩ := cells_of HZ.out m hm
        generalize zs[m] = z at *
        obtain ⟨⟨c0, c1, c2⟩, -⟩ := three_cells HB5.out
        go_wp2_with fail
        (with_reducible refine hE.mono ?_)
        rintro e w6 ⟨rfl, k6⟩
        have hM6 := HM5.out.stay k6
        have hLv := dlive hM6.dir.own
        rw [hM6.used, Hold.out] at hLv
        have hc2 := hM6.dir.own.keeps.cellK hcell
        have hbl := hide hM6.below
        clear hE c0 c1 c2 k6 HM5 HB5 hM6 hcell HZ
        go_wp2_with fail
        (with_reducible refine hLv.mono ?_)
        rintro e w7 ⟨rfl, rfl⟩
        clear hLv
        go_wp2_with fail
        go_ret
        exact ⟨by simp, hbl.out⟩

set_option maxRecDepth 100000 in
set_option maxHeartbeats 4000000 in
theorem walk_neg (D : Nat) (sp : Int) (hs0 : sp < 0) (i : Int) (v : Value) (zs : List Int) (w : World) (hT : TabAt w) (hz : InZ w v zs) (hfit : ∀ j (h : j < zs.length), fitsI zs[j]) (hd : ¬ depI zs.length < 0) (hdD : depI zs.length = D) (hD : D < 6) (hn : zs.length = 2 ^ D) :
    Calls Tryd.prog 7 #[v, .int .i64 sp, .int .i64 i] w fun e w' => Post w e w' := by
  obtain ⟨so, cap, rfl, -⟩ := hz.form
  have hDp := fun W => depthOf_any zs.length W
  rw [hdD] at hDp
  have hD6 : ((D : Int) == 6) = false := by simp; omega
  have h64 : zs.length ≤ 64 := by rw [hn]; exact pow_le6 (by omega)
  have h1 : 1 ≤ zs.length := by rw [hn]; exact pow_pos' D
  have hC8 := fun W => dclass 8 zs.length (8 * (zs.length : Int)) (by omega) W (by omega) (by omega)
  have hC16 := fun W => dclass 16 zs.length (16 * (zs.length : Int)) (by omega) W (by omega) (by omega)
  have hb8 := class_le (8 * zs.length) (by omega) (by omega)
  have hb16 := class_le (16 * zs.length) (by omega) (by omega)
  have hu8 : classN (8 * zs.length) ≤ 1024 := by rw [hn]; exact class_pow D (by omega)
  generalize hold : classN (8 * zs.length) = old at *
  generalize hnxt : classN (16 * zs.length) = nxt at *
  have Hold := hide hold
  have Hnxt := hide hnxt
  have HZ := hide hz
  have HF := hide hfit
  have HT := hide hT
  have HdD := hide hdD
  have Hd := hide hd
  have hNA := fun W => own_new (w := W) old (by omega)
  clear hz hfit hT hold hnxt hdD hd hn
  go_enter Tryd.func7, Tryd.ntmps7
  go_wp2_with fail
  (with_reducible refine (hDp _).mono ?_)
  rintro e w0 ⟨rfl, rfl⟩
  clear hDp
  go_wp2_with fail
  (with_reducible refine (hC8 _).mono ?_)
  rintro e w0 ⟨rfl, rfl⟩
  clear hC8
  go_wp2_with fail
  (with_reducible refine (hC16 _).mono ?_)
  rintro e w0 ⟨rfl, rfl⟩
  clear hC16
  go_wp2_with fail
  (with_reducible refine (hNA _).mono ?_)
  rintro e w1 ⟨p, rfl, O1⟩
  obtain ⟨a, c, W2, hap, hrow, ha, kc⟩ := (HZ.out.keeps O1.keeps).copy (by omega)
  have hNw := new_copy O1 (AD.fresh_fine (by omega)) (fresh_well old) HT.out kc a c ha zs hrow HF.out (by have := Hd.out; omega) (by show 0 + _ ≤ old; rw [Hold.out]; omega)
  clear hNA O1 hrow kc ha
  go_wp2_with (first | (at_builtin; have _t := hap; refine app_run _ rfl (.tmp 66) (.tmp 67) 22 rfl rfl rfl hap ?_; clear hap))
  (with_reducible refine hNw.mono ?_)
  intro e w3 hpost
  obtain ⟨off, D', d, rfl, hM⟩ := made_of hpost
  obtain rfl : D' = D := by have := hM.dep; have := HdD.out; omega
  clear hNw hpost HdD
  have K4 : Keeps w3 (w3.alloc (.cells #[.pointer (some ⟨p, 0, none⟩), .int .i64 (off : Int), .int .i64 (D' : Int)] 28)) (fun _ => False) := (Keeps.refl _ _).alloc _
  have B4 : DirB (w3.alloc (.cells #[.pointer (some ⟨p, 0, none⟩), .int .i64 (off : Int), .int .i64 (D' : Int)] 28)) w3.heap.size p off D' := heap_alloc_new _ _
  have hM4 := hM.stay K4
  have hLv := dlive hM4.dir.own
  rw [hM4.used, Hold.out] at hLv
  have HM4 := hide hM4
  have HG := hide (hM.dir.grow K4)
  obtain ⟨⟨c0, c1, c2⟩, -⟩ := three_cells B4
  clear hM hM4 K4
  go_wp2_with fail
  (with_reducible refine hLv.mono ?_)
  rintro e w4 ⟨rfl, rfl⟩
  clear hLv
  have hWd := dwiden_room HM4.out.dir (by omega) (by rw [HM4.out.limit, HM4.out.used, Hold.out, Hnxt.out]; omega)
  go_wp2_with fail
  (with_reducible refine hWd.mono ?_)
  rintro e w5 ⟨rfl, k5⟩
  have K6 : Keeps (w3.alloc (.cells #[.pointer (some ⟨p, 0, none⟩), .int .i64 (off : Int), .int .i64 (D' : Int)] 28)) (w5.alloc (.cells #[.pointer none, .int .i64 0, .int .i64 0] 28)) (fun _ => False) := k5.alloc _
  have HM5 := hide (HM4.out.stay K6)
  have HB5 := hide (K6.blk B4)
  clear hWd c0 c1 c2 k5 K6 HM4 HG B4
  by_cases hi0 : i < 0
  · have hE := dentry_any HM5.out.dir 0
    rw [show (0 : Int) = ((0 : Nat) : Int) from rfl, dirPlaces.ent_in (show 0 < zs.length by omega)] at hE
    obtain ⟨b, o, rfl, hcell⟩ := cells_of HZ.out 0 (by omega)
    rw [Nat.add_zero] at hcell
    rw [show ((0 : Nat) : Int) = 0 from rfl] at hE
    generalize zs[0] = z at *
    obtain ⟨⟨c0, c1, c2⟩, -⟩ := three_cells HB5.out
    go_wp2_with fail
    (with_reducible refine hE.mono ?_)
    rintro e w6 ⟨rfl, k6⟩
    have hM6 := HM5.out.stay k6
    have hLv := dlive hM6.dir.own
    rw [hM6.used, Hold.out] at hLv
    have hc2 := hM6.dir.own.keeps.cellK hcell
    have hbl := hide hM6.below
    clear hE c0 c1 c2 k6 HM5 HB5 hM6 hcell HZ
    go_wp2_with fail
    (with_reducible refine hLv.mono ?_)
    rintro e w7 ⟨rfl, rfl⟩
    clear hLv
    go_wp2_with fail
    go_ret
    exact ⟨by simp, hbl.out⟩
  · by_cases hi1 : (zs.length : Int) ≤ i
    · have hE := dentry_any HM5.out.dir 0
      rw [show (0 : Int) = ((0 : Nat) : Int) from rfl, dirPlaces.ent_in (show 0 < zs.length by omega)] at hE
      obtain ⟨b, o, rfl, hcell⟩ := cells_of HZ.out 0 (by omega)
      rw [Nat.add_zero] at hcell
      rw [show ((0 : Nat) : Int) = 0 from rfl] at hE
      generalize zs[0] = z at *
      obtain ⟨⟨c0, c1, c2⟩, -⟩ := three_cells HB5.out
      go_wp2_with fail
      (with_reducible refine hE.mono ?_)
      rintro e w6 ⟨rfl, k6⟩
      have hM6 := HM5.out.stay k6
      have hLv := dlive hM6.dir.own
      rw [hM6.used, Hold.out] at hLv
      have hc2 := hM6.dir.own.keeps.cellK hcell
      have hbl := hide hM6.below
      clear hE c0 c1 c2 k6 HM5 HB5 hM6 hcell HZ
      go_wp2_with fail
      (with_reducible refine hLv.mono ?_)
      rintro e w7 ⟨rfl, rfl⟩
      clear hLv
      go_wp2_with fail
      go_ret
      exact ⟨by simp, hbl.out⟩
    · obtain ⟨m, rfl⟩ := Int.eq_ofNat_of_zero_le (show 0 ≤ i by omega)
      have hm : m < zs.length := by omega
      have hm' : (m : Int) < (zs.length : Int) := by omega
      have hE := dentry_any HM5.out.dir (m : Int)
      rw [dirPlaces.ent_in hm] at hE
      obtain ⟨b, o, rfl, hcell⟩ := cells_of HZ.out m hm
      generalize zs[m] = z at *
      obtain ⟨⟨c0, c1, c2⟩, -⟩ := three_cells HB5.out
      go_wp2_with fail
      (with_reducible refine hE.mono ?_)
      rintro e w6 ⟨rfl, k6⟩
      have hM6 := HM5.out.stay k6
      have hLv := dlive hM6.dir.own
      rw [hM6.used, Hold.out] at hLv
      have hc2 := hM6.dir.own.keeps.cellK hcell
      have hbl := hide hM6.below
      clear hE c0 c1 c2 k6 HM5 HB5 hM6 hcell HZ
      go_wp2_with fail
      (with_reducible refine hLv.mono ?_)
      rintro e w7 ⟨rfl, rfl⟩
      clear hLv
      go_wp2_with fail
      go_ret
      exact ⟨by simp, hbl.out⟩

set_option maxRecDepth 100000 in
set_option maxHeartbeats 4000000 in
theorem walk_big (D : Nat) (sp : Int) (hs0 : ¬ sp < 0) (hs1 : 4096 < sp) (i : Int) (v : Value) (zs : List Int) (w : World) (hT : TabAt w) (hz : InZ w v zs) (hfit : ∀ j (h : j < zs.length), fitsI zs[j]) (hd : ¬ depI zs.length < 0) (hdD : depI zs.length = D) (hD : D < 6) (hn : zs.length = 2 ^ D) :
    Calls Tryd.prog 7 #[v, .int .i64 sp, .int .i64 i] w fun e w' => Post w e w' := by
  obtain ⟨so, cap, rfl, -⟩ := hz.form
  have hDp := fun W => depthOf_any zs.length W
  rw [hdD] at hDp
  have hD6 : ((D : Int) == 6) = false := by simp; omega
  have h64 : zs.length ≤ 64 := by rw [hn]; exact pow_le6 (by omega)
  have h1 : 1 ≤ zs.length := by rw [hn]; exact pow_pos' D
  have hC8 := fun W => dclass 8 zs.length (8 * (zs.length : Int)) (by omega) W (by omega) (by omega)
  have hC16 := fun W => dclass 16 zs.length (16 * (zs.length : Int)) (by omega) W (by omega) (by omega)
  have hb8 := class_le (8 * zs.length) (by omega) (by omega)
  have hb16 := class_le (16 * zs.length) (by omega) (by omega)
  have hu8 : classN (8 * zs.length) ≤ 1024 := by rw [hn]; exact class_pow D (by omega)
  generalize hold : classN (8 * zs.length) = old at *
  generalize hnxt : classN (16 * zs.length) = nxt at *
  have Hold := hide hold
  have Hnxt := hide hnxt
  have HZ := hide hz
  have HF := hide hfit
  have HT := hide hT
  have HdD := hide hdD
  have Hd := hide hd
  have hNA := fun W => own_new (w := W) old (by omega)
  clear hz hfit hT hold hnxt hdD hd hn
  go_enter Tryd.func7, Tryd.ntmps7
  go_wp2_with fail
  (with_reducible refine (hDp _).mono ?_)
  rintro e w0 ⟨rfl, rfl⟩
  clear hDp
  go_wp2_with fail
  (with_reducible refine (hC8 _).mono ?_)
  rintro e w0 ⟨rfl, rfl⟩
  clear hC8
  go_wp2_with fail
  (with_reducible refine (hC16 _).mono ?_)
  rintro e w0 ⟨rfl, rfl⟩
  clear hC16
  go_wp2_with fail
  (with_reducible refine (hNA _).mono ?_)
  rintro e w1 ⟨p, rfl, O1⟩
  obtain ⟨a, c, W2, hap, hrow, ha, kc⟩ := (HZ.out.keeps O1.keeps).copy (by omega)
  have hNw := new_copy O1 (AD.fresh_fine (by omega)) (fresh_well old) HT.out kc a c ha zs hrow HF.out (by have := Hd.out; omega) (by show 0 + _ ≤ old; rw [Hold.out]; omega)
  clear hNA O1 hrow kc ha
  go_wp2_with (first | (at_builtin; have _t := hap; refine app_run _ rfl (.tmp 66) (.tmp 67) 22 rfl rfl rfl hap ?_; clear hap))
  (with_reducible refine hNw.mono ?_)
  intro e w3 hpost
  obtain ⟨off, D', d, rfl, hM⟩ := made_of hpost
  obtain rfl : D' = D := by have := hM.dep; have := HdD.out; omega
  clear hNw hpost HdD
  have K4 : Keeps w3 (w3.alloc (.cells #[.pointer (some ⟨p, 0, none⟩), .int .i64 (off : Int), .int .i64 (D' : Int)] 28)) (fun _ => False) := (Keeps.refl _ _).alloc _
  have B4 : DirB (w3.alloc (.cells #[.pointer (some ⟨p, 0, none⟩), .int .i64 (off : Int), .int .i64 (D' : Int)] 28)) w3.heap.size p off D' := heap_alloc_new _ _
  have hM4 := hM.stay K4
  have hLv := dlive hM4.dir.own
  rw [hM4.used, Hold.out] at hLv
  have HM4 := hide hM4
  have HG := hide (hM.dir.grow K4)
  obtain ⟨⟨c0, c1, c2⟩, -⟩ := three_cells B4
  clear hM hM4 K4
  go_wp2_with fail
  (with_reducible refine hLv.mono ?_)
  rintro e w4 ⟨rfl, rfl⟩
  clear hLv
  have hWd := dwiden_room HM4.out.dir (by omega) (by rw [HM4.out.limit, HM4.out.used, Hold.out, Hnxt.out]; omega)
  go_wp2_with fail
  (with_reducible refine hWd.mono ?_)
  rintro e w5 ⟨rfl, k5⟩
  have K6 : Keeps (w3.alloc (.cells #[.pointer (some ⟨p, 0, none⟩), .int .i64 (off : Int), .int .i64 (D' : Int)] 28)) (w5.alloc (.cells #[.pointer none, .int .i64 0, .int .i64 0] 28)) (fun _ => False) := k5.alloc _
  have HM5 := hide (HM4.out.stay K6)
  have HB5 := hide (K6.blk B4)
  clear hWd c0 c1 c2 k5 K6 HM4 HG B4
  by_cases hi0 : i < 0
  · have hE := dentry_any HM5.out.dir 0
    rw [show (0 : Int) = ((0 : Nat) : Int) from rfl, dirPlaces.ent_in (show 0 < zs.length by omega)] at hE
    obtain ⟨b, o, rfl, hcell⟩ := cells_of HZ.out 0 (by omega)
    rw [Nat.add_zero] at hcell
    rw [show ((0 : Nat) : Int) = 0 from rfl] at hE
    generalize zs[0] = z at *
    obtain ⟨⟨c0, c1, c2⟩, -⟩ := three_cells HB5.out
    go_wp2_with fail
    (with_reducible refine hE.mono ?_)
    rintro e w6 ⟨rfl, k6⟩
    have hM6 := HM5.out.stay k6
    have hLv := dlive hM6.dir.own
    rw [hM6.used, Hold.out] at hLv
    have hc2 := hM6.dir.own.keeps.cellK hcell
    have hbl := hide hM6.below
    clear hE c0 c1 c2 k6 HM5 HB5 hM6 hcell HZ
    go_wp2_with fail
    (with_reducible refine hLv.mono ?_)
    rintro e w7 ⟨rfl, rfl⟩
    clear hLv
    go_wp2_with fail
    go_ret
    exact ⟨by simp, hbl.out⟩
  · by_cases hi1 : (zs.length : Int) ≤ i
    · have hE := dentry_any HM5.out.dir 0
      rw [show (0 : Int) = ((0 : Nat) : Int) from rfl, dirPlaces.ent_in (show 0 < zs.length by omega)] at hE
      obtain ⟨b, o, rfl, hcell⟩ := cells_of HZ.out 0 (by omega)
      rw [Nat.add_zero] at hcell
      rw [show ((0 : Nat) : Int) = 0 from rfl] at hE
      generalize zs[0] = z at *
      obtain ⟨⟨c0, c1, c2⟩, -⟩ := three_cells HB5.out
      go_wp2_with fail
      (with_reducible refine hE.mono ?_)
      rintro e w6 ⟨rfl, k6⟩
      have hM6 := HM5.out.stay k6
      have hLv := dlive hM6.dir.own
      rw [hM6.used, Hold.out] at hLv
      have hc2 := hM6.dir.own.keeps.cellK hcell
      have hbl := hide hM6.below
      clear hE c0 c1 c2 k6 HM5 HB5 hM6 hcell HZ
      go_wp2_with fail
      (with_reducible refine hLv.mono ?_)
      rintro e w7 ⟨rfl, rfl⟩
      clear hLv
      go_wp2_with fail
      go_ret
      exact ⟨by simp, hbl.out⟩
    · obtain ⟨m, rfl⟩ := Int.eq_ofNat_of_zero_le (show 0 ≤ i by omega)
      have hm : m < zs.length := by omega
      have hm' : (m : Int) < (zs.length : Int) := by omega
      have hE := dentry_any HM5.out.dir (m : Int)
      rw [dirPlaces.ent_in hm] at hE
      obtain ⟨b, o, rfl, hcell⟩ := cells_of HZ.out m hm
      generalize zs[m] = z at *
      obtain ⟨⟨c0, c1, c2⟩, -⟩ := three_cells HB5.out
      go_wp2_with fail
      (with_reducible refine hE.mono ?_)
      rintro e w6 ⟨rfl, k6⟩
      have hM6 := HM5.out.stay k6
      have hLv := dlive hM6.dir.own
      rw [hM6.used, Hold.out] at hLv
      have hc2 := hM6.dir.own.keeps.cellK hcell
      have hbl := hide hM6.below
      clear hE c0 c1 c2 k6 HM5 HB5 hM6 hcell HZ
      go_wp2_with fail
      (with_reducible refine hLv.mono ?_)
      rintro e w7 ⟨rfl, rfl⟩
      clear hLv
      go_wp2_with fail
      go_ret
      exact ⟨by simp, hbl.out⟩

theorem walk (sp i : Int) (v : Value) (zs : List Int) (w : World) (hT : TabAt w) (hz : InZ w v zs) (hfit : ∀ j (h : j < zs.length), fitsI zs[j]) :
    Calls Tryd.prog 7 #[v, .int .i64 sp, .int .i64 i] w fun e w' => Post w e w' := by
  by_cases hq : depI zs.length < 0 ∨ depI zs.length = 6
  · exact walk_true sp i v zs w hz hq
  · obtain ⟨D, hD6, hzD, hdD, h64, h1⟩ := depI_yes (fun q => hq (Or.inl q))
    have hd : ¬ depI zs.length < 0 := fun q => hq (Or.inl q)
    have hD : D < 6 := by
      have : ¬ depI zs.length = 6 := fun q => hq (Or.inr q)
      omega
    by_cases h0 : sp < 0
    · exact walk_neg D sp h0 i v zs w hT hz hfit hd hdD hD hzD
    · by_cases h2 : 4096 < sp
      · exact walk_big D sp h0 h2 i v zs w hT hz hfit hd hdD hD hzD
      · obtain ⟨S, rfl⟩ := Int.eq_ofNat_of_zero_le (show 0 ≤ sp by omega)
        exact walk_in D S (by omega) i v zs w hT hz hfit hd hdD hD hzD
end dirRefused
end Go.Proofs.YtkfkgkcecocbpaaDoor
