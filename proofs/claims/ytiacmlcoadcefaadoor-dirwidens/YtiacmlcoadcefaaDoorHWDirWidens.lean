/-
  DirWidens's walk.
-/
import Derived.Test.YtiacmlcoadcefaaDoorDn12
namespace Go.Proofs.YtiacmlcoadcefaaDoor
open Go.RowKit Go.Shelf
set_option linter.unusedVariables false
namespace dirWidens

theorem ucells {w : World} {so : Option Addr} {cp : Nat} {hs : List Nat} (h : InU w (.slice so hs.length cp) hs) : ∀ j (hj : j < hs.length), ∃ b o, so = some ⟨b, o, none⟩ ∧ w.cell? ⟨b, o + j, none⟩ = some (.int .u64 ((hs[j] : Nat) : Int)) := by
  obtain ⟨so', cp', e, hc⟩ := h.form
  injection e with e1 e2 e3
  subst e1
  exact hc
/-- What is picked. -/
def pk (zs : List Int) (D : Nat) (h : Nat) : Int := zs.getD (headN h D) 0

set_option maxRecDepth 100000 in
set_option maxHeartbeats 2000000 in
theorem walk_no (t : Int) (v u : Value) (zs : List Int) (hs : List Nat) (w : World) (hz : InZ w v zs) (hl : zs.length ≤ 17592186044000) (hd : depI zs.length < 0) :
    Calls Tryd.prog 4 #[v, .int .i64 t, u] w fun e w' => Post w e w' := by
  have hM := made_no v zs w hz hl hd
  have hDp := fun W => depthOf_any zs.length W
  obtain ⟨so, cap, rfl, -⟩ := hz.form
  generalize depI zs.length = dq at *
  clear hz
  go_enter Tryd.func4, Tryd.ntmps4
  go_wp2_with fail
  (with_reducible refine hM.mono ?_)
  rintro e w2 ⟨p, rfl, k2⟩
  have hbl := hide ((k2.alloc (.cells #[.pointer none, .int .i64 0, .int .i64 0] 25)).below (Nat.le_refl _) (fun _ _ e => e))
  clear hM k2
  go_wp2_with fail
  (with_reducible refine (hDp _).mono ?_)
  rintro e w3 ⟨rfl, rfl⟩
  clear hDp
  go_wp2_with fail
  go_ret
  exact ⟨by simp, hbl.out⟩

set_option maxRecDepth 100000 in
set_option maxHeartbeats 4000000 in
theorem walk_yes (t : Int) (v u : Value) (zs : List Int) (hs : List Nat) (w : World) (hT : TabAt w) (hz : InZ w v zs) (hl : zs.length ≤ 17592186044000) (hfit : ∀ j (h : j < zs.length), fitsI zs[j]) (hu : InU w u hs) (hul : hs.length ≤ 17592186044000) (hus : ∀ j (h : j < hs.length), hs[j] < 18446744073709551616) (hd : ¬ depI zs.length < 0) :
    Calls Tryd.prog 4 #[v, .int .i64 t, u] w fun e w' => Post w e w' := by
  have hM := made_yes v zs w hT hz hl hfit hd
  obtain ⟨so, cap, rfl, -⟩ := hz.form
  obtain ⟨su, cu, rfl, -⟩ := hu.form
  have HU := hide hu
  have HS := hide hus
  have HT := hide hT
  clear hz hT hfit hd hu hus
  go_enter Tryd.func4, Tryd.ntmps4
  go_wp2_with fail
  (with_reducible refine hM.mono ?_)
  rintro e w2 ⟨p, off, D, d, rfl, hMd⟩
  clear hM
  have HW0 := hide (Wid.of hMd)
  have HD := hide hMd.dir.dep
  have HL := hide hMd.dir.len
  clear hMd
  generalize hBB : w2.heap.size = B at *
  go_wp2_with fail
  generalize hW2 : (w2.alloc (.cells #[.pointer (some ⟨p, 0, none⟩), .int .i64 (off : Int), .int .i64 (D : Int)] 25)) = W2 at *
  clear hW2 hBB
  go_loopw [10, 40] (fun vh vi wr => ∃ (k : Nat), vi = .int .i64 (k : Int) ∧ k ≤ hs.length ∧ Wid w wr p B vh ((hs.take k).map (pk zs D)) d off D zs off D) (fun _ vi _ => hs.length - (intOf vi).toNat)
  case atStart => exact ⟨0, rfl, Nat.zero_le _, HW0.out⟩
  case round =>
    obtain ⟨k, rfl, hk, hW⟩ := hrel
    clear HW0
    have HWr := hide hW
    obtain ⟨⟨c0, c1, c2⟩, -⟩ := three_cells hW.box
    clear hW
    by_cases hlt : k < hs.length
    · have hlt' : (k : Int) < (hs.length : Int) := by omega
      have hin : headN hs[k] D < zs.length := by rw [HL.out]; exact headN_lt _ D (HS.out k hlt) (by have := HD.out; omega)
      have hP := dpick_any HWr.out.dir hs[k] (HS.out k hlt) hin
      have hpk : zs[headN hs[k] D] = pk zs D hs[k] := by unfold pk; rw [List.getD_eq_getElem?_getD, List.getElem?_eq_getElem hin]; rfl
      obtain ⟨b, o, rfl, hc⟩ := ucells HU.out k hlt
      have hcell := HWr.out.dir.own.keeps.cellK hc
      rw [hpk] at hP
      have hsn : (hs.take (k + 1)).map (pk zs D) = (hs.take k).map (pk zs D) ++ [pk zs D hs[k]] := by rw [← List.take_append_getElem hlt, List.map_append]; rfl
      have Hsn := hide hsn
      clear hsn hpk hc hin
      generalize pk zs D hs[k] = z at *
      generalize hs[k] = h at *
      generalize headN h D = n at *
      go_wp2_with fail
      (with_reducible refine hP.mono ?_)
      rintro e w6 ⟨rfl, k6⟩
      have HW6 := hide (HWr.out.stay k6)
      obtain ⟨g, cp, w8, hap, hW8⟩ := HW6.out.push z (by rw [List.length_map, List.length_take]; omega)
      have hl8 : ((hs.take k).map (pk zs D)).length = k := by rw [List.length_map, List.length_take]; omega
      rw [hl8] at hap hW8
      rw [← Hsn.out] at hW8
      have HW8 := hide hW8
      clear hP c0 c1 c2 hcell k6 HWr HW6 hW8 hl8 Hsn
      go_wp2_with (first | (at_builtin; have _t := hap; refine app_run _ rfl (.tmp 53) (.tmp 55) 22 rfl rfl rfl hap ?_; clear hap))
      go_roundw
      case rel => exact ⟨k + 1, by go_num, by omega, HW8.out⟩
      case measure => simp [intOf]; omega
    · obtain rfl : k = hs.length := by omega
      have hlt' : ¬ (hs.length : Int) < (hs.length : Int) := by omega
      have hW1 := HWr.out
      rw [List.take_length] at hW1
      obtain ⟨ys, hys⟩ : ∃ ys, ys = hs.map (pk zs D) := ⟨_, rfl⟩
      rw [← hys] at hW1
      have HYL : Hid (ys.length = hs.length) := by rw [hys]; exact List.length_map ..
      have HY : Hid (∀ k (h : k < hs.length) (h' : k < ys.length), ys[k] = pk zs D hs[k]) := fun k h h' => by simp only [hys, List.getElem_map]
      obtain ⟨sv, cv, rfl, hvc⟩ := hW1.form
      have HW1 := hide hW1
      have HVC := hide hvc
      clear hW1 hvc HWr c0 c1 c2 hys
      go_wp2_with fail
      go_loopw [16] (fun vn wq => ∃ (n : Nat) (d' : AD) (o' D' : Nat) (ts : List Int), vn = .int .i64 (n : Int) ∧ n ≤ 8 ∧ Wid w wq p B (.slice sv ys.length cv) ys d' o' D' ts o' D' ∧ ∀ h, h < 18446744073709551616 → pk ts D' h = pk zs D h) (fun vn _ => 8 - (intOf vn).toNat)
      case atStart => exact ⟨0, d, off, D, zs, rfl, by omega, HW1.out, fun _ _ => rfl⟩
      case round =>
        obtain ⟨n, d', o', D', ts, rfl, hn, hWq, hpk⟩ := hrel
        have HPk := hide hpk
        have HWq := hide hWq
        have hD6 := hWq.dir.dep
        obtain ⟨⟨c0, c1, c2⟩, -⟩ := three_cells hWq.box
        clear hWq hpk HW1
        rcases (show ((n : Int) < t ∧ n < 8) ∨ (¬ (n : Int) < t) ∨ ((n : Int) < t ∧ ¬ n < 8) by omega) with ⟨q1, q2⟩ | q1 | ⟨q1, q2⟩
        · have q2' : (n : Int) < 8 := by omega
          have hDe := fun W => dDepth_any p o' D' W
          by_cases h6 : D' = 6
          · have hWd := dwiden_six p o' D' wr h6
            have h6' : ((D' : Int) == 6) = true := by simp; omega
            clear h6
            go_wp2_with fail
            (with_reducible refine hWd.mono ?_)
            rintro e w6 ⟨rfl, k6⟩
            have K7 := k6.alloc (.cells #[.pointer none, .int .i64 0, .int .i64 0] 25)
            have HW7 := hide (HWq.out.stay K7)
            obtain ⟨⟨e0, e1, e2⟩, -⟩ := three_cells HW7.out.box
            clear hWd c0 c1 c2 k6 K7 HWq
            go_wp2_with fail
            (with_reducible refine (hDe _).mono ?_)
            rintro e w8 ⟨rfl, k8⟩
            have HW8 := hide (HW7.out.stay k8)
            clear hDe e0 e1 e2 k8 HW7
            go_wp2_with fail
            go_roundw
            case rel => exact ⟨n + 1, d', o', D', ts, by go_num, by omega, HW8.out, HPk.out⟩
            case measure => simp [intOf]; omega
          · have hWd := HWq.out.widen HT.out (by omega)
            have HTS := hide HWq.out.dir.len
            have h6' : ((D' : Int) == 6) = false := by simp; omega
            go_wp2_with fail
            (with_reducible refine hWd.mono ?_)
            rintro e w6 ⟨o2, d3, rfl, hW6⟩
            obtain ⟨D2, hD2⟩ : ∃ D2, D2 = D' + 1 := ⟨_, rfl⟩
            rw [← hD2] at hW6 ⊢
            have K7 : Keeps w6 (w6.alloc (.cells #[.pointer (some ⟨p, 0, none⟩), .int .i64 (o2 : Int), .int .i64 (D2 : Int)] 25)) (fun _ => False) := (Keeps.refl _ _).alloc _
            have HW7 := hide (hW6.stay K7)
            have B7 : DirB (w6.alloc (.cells #[.pointer (some ⟨p, 0, none⟩), .int .i64 (o2 : Int), .int .i64 (D2 : Int)] 25)) w6.heap.size p o2 D2 := heap_alloc_new _ _
            have hBl := HWq.out.lt B (Or.inl rfl)
            obtain ⟨⟨e0, e1, e2⟩, -⟩ := three_cells HW7.out.box
            have hD2i : ((D2 : Int) != (D' : Int) + 1) = false := by simp; omega
            have hwr : IntKind.i64.wrap ((D' : Int) + 1) = (D' : Int) + 1 := by rw [IntKind.wrap_i64]; omega
            have HD2 := hide hD2
            have hDw := fun W => dDepth_any p o2 D2 W
            clear hWd c0 c1 c2 K7 HWq hW6 hD2
            go_wp2_with fail
            (with_reducible refine (hDe _).mono ?_)
            rintro e w8 ⟨rfl, k8⟩
            have HW8 := hide (HW7.out.stay k8)
            have B8 := k8.blk B7
            have C8 : C3 w8 w6.heap.size p o2 D2 ∧ C3 w8 B p o' D' := ⟨c3_of B8, c3_of HW8.out.box⟩
            have S8 : C3 w8.drew w6.heap.size p o2 D2 ∧ C3 w8.drew B p o' D' := ⟨c3_drew C8.1, c3_drew C8.2⟩
            clear e0 e1 e2 k8 HW7 B7
            go_wp2_with fail
            go_region_held3 (fun w' => C3 w' w6.heap.size p o2 D2 ∧ C3 w' B p o' D') (first | with_reducible assumption | with_reducible exact S8)
              (first | (go_at_call 10; (with_reducible refine (hDw _).mono ?_); rintro r wA ⟨rfl, kA⟩; have SA : C3 wA w6.heap.size p o2 D2 ∧ C3 wA B p o' D' := ⟨c3_keeps kA id S8.1, c3_keeps kA id S8.2⟩) | (go_at_call 10; (with_reducible refine (hDe _).mono ?_); rintro r wB ⟨rfl, kB⟩; have SB : C3 wB w6.heap.size p o2 D2 ∧ C3 wB B p o' D' := ⟨c3_keeps kB id SA.1, c3_keeps kB id SA.2⟩))
            have HWB := hide ((HW8.out.stay (Keeps.refl w8 (fun _ => False)).drew).stay (kA.trans kB (fun _ _ e => e)))
            have BB : DirB wB w6.heap.size p o2 D2 := ((Keeps.refl w8 (fun _ => False)).drew.trans (kA.trans kB (fun _ _ e => e)) (fun _ _ e => e)).blk B8
            obtain ⟨⟨a0, a1, a2⟩, -⟩ := three_cells BB
            have XB := HWB.out.box
            obtain ⟨⟨y0, y1, y2⟩, g0, g1, g2⟩ := three_cells XB
            have HXB := hide XB
            clear S8 C8 SA SB kA kB HW8 B8 BB hD2i hwr XB hDe
            go_wp2_with fail
            refine set3_any HXB.out (P := fun W => Code.wp _ _ _ _ W) fun W9 h9 k9 => ?_
            have HW9 := hide ((HWB.out.set h9 k9).stay (Keeps.refl W9 (fun _ => False)).drew)
            have hLv := dlive HW9.out.dir.own
            rw [HW9.out.used, HW9.out.dir.len] at hLv
            have hD26 : D2 ≤ 6 := HW9.out.dir.dep
            have hD21 : 1 ≤ D2 := by have := HD2.out; omega
            have h89 : 8 * 2 ^ D2 ≤ 512 := by have := pow_le6 hD26; omega
            have h88 := pow_pos' D2
            have hCl : ∀ W, Calls Tryd.prog 12 #[.int .i64 (IntKind.i64.wrap ((8 : Int) * 2 ^ D2))] W fun e w' => e = .returned (.int .i64 (classN (8 * 2 ^ D2) : Int)) ∧ w' = W := fun W => by
              have ew : IntKind.i64.wrap ((8 : Int) * 2 ^ D2) = ((8 * 2 ^ D2 : Nat) : Int) := by
                have e1 : ((8 : Int) * 2 ^ D2) = ((8 * 2 ^ D2 : Nat) : Int) := by rw [Int.natCast_mul, Int.natCast_pow]; rfl
                rw [e1, IntKind.wrap_i64]
                omega
              rw [ew]
              exact class_yes (8 * 2 ^ D2) W (by omega) (by omega)
            clear h89 h88
            generalize classN (8 * 2 ^ D2) = cl at *
            have S9 : C3 W9.drew B p o2 D2 := c3_of HW9.out.box
            have hwD : IntKind.i64.wrap (D2 : Int) = (D2 : Int) := by rw [IntKind.wrap_i64]; omega
            clear HWB HXB h9 k9 y0 y1 y2 g0 g1 g2 a0 a1 a2
            go_region_held3 (fun w' => C3 w' B p o2 D2) (first | with_reducible assumption | with_reducible exact S9)
              (first | (go_at_call 11; (with_reducible refine hLv.mono ?_); rintro r wA ⟨rfl, rfl⟩) | (go_at_call 10; (with_reducible refine (hDw _).mono ?_); rintro r wB ⟨rfl, kB⟩; have SB : C3 wB B p o2 D2 := c3_keeps kB id S9) | (go_at_call 12; (with_reducible refine (hCl _).mono ?_); rintro r wC ⟨rfl, rfl⟩))
            have HWB := hide (HW9.out.stay kB)
            have HP2 : Hid (∀ h, h < 18446744073709551616 → pk (dbl ts) D2 h = pk zs D h) := fun h hh => by
              rw [← HPk.out h hh, HD2.out]
              exact dbl_pick (by omega) HTS.out hh
            clear S9 SB kB HW9 hwD hCl hLv hDw
            go_wp2_with fail
            go_roundw
            case rel => exact ⟨n + 1, d3, o2, D2, dbl ts, by go_num, by omega, HWB.out, HP2.out⟩
            case measure => simp [intOf]; omega
        all_goals
          go_wp2_with fail
          go_loopw [97] (fun vk wq => ∃ k : Nat, vk = .int .i64 (k : Int) ∧ k ≤ hs.length ∧ Wid w wq p B (.slice sv ys.length cv) ys d' o' D' ts o' D') (fun vk _ => hs.length - (intOf vk).toNat)
          case atStart => exact ⟨0, rfl, Nat.zero_le _, HWq.out⟩
          case round =>
            obtain ⟨k, rfl, hk9, hWk⟩ := hrel
            clear HWq c0 c1 c2
            have HWk := hide hWk
            obtain ⟨⟨c0, c1, c2⟩, -⟩ := three_cells hWk.box
            clear hWk
            by_cases hlt9 : k < hs.length
            · have hlt9' : (k : Int) < (hs.length : Int) := by omega
              have hky : k < ys.length := by have := HYL.out; omega
              have hky' : (k : Int) < (ys.length : Int) := by omega
              have hin : headN hs[k] D' < ts.length := by rw [HWk.out.dir.len]; exact headN_lt _ D' (HS.out k hlt9) (by omega)
              have hP := dpick_any HWk.out.dir hs[k] (HS.out k hlt9) hin
              have hpk : ts[headN hs[k] D'] = ys[k] := by
                rw [HY.out k hlt9 hky, ← HPk.out hs[k] (HS.out k hlt9)]
                unfold pk
                rw [List.getD_eq_getElem?_getD, List.getElem?_eq_getElem hin]
                rfl
              obtain ⟨b, o, rfl, hc⟩ := ucells HU.out k hlt9
              obtain ⟨g, rfl, hyc⟩ := HVC.out k hky
              have hcell := HWk.out.dir.own.keeps.cellK hc
              rw [hpk] at hP
              clear hpk hc hin
              generalize ys[k] = z at *
              generalize hs[k] = h at *
              generalize headN h D' = m at *
              go_wp2_with fail
              (with_reducible refine hP.mono ?_)
              rintro e w6 ⟨rfl, k6⟩
              have HW6 := hide (HWk.out.stay k6)
              have hy6 := hyc w6 _ _ _ _ _ _ HW6.out
              clear hP c0 c1 c2 hcell k6 HWk hyc
              go_wp2_with fail
              go_roundw
              case rel => exact ⟨k + 1, by go_num, by omega, HW6.out⟩
              case measure => simp [intOf]; omega
            · obtain rfl : k = hs.length := by omega
              have hlt9' : ¬ (hs.length : Int) < (hs.length : Int) := by omega
              have hOf := fun W => dOff_any p o' D' W
              go_wp2_with fail
              (with_reducible refine (hOf _).mono ?_)
              rintro e w6 ⟨rfl, k6⟩
              have HW6 := hide (HWk.out.stay k6)
              have hlo := HW6.out.dir.low.1
              have hSz := dsize HW6.out.dir.own (o' : Int) (fitsI_mk (by omega) (by omega))
              rw [HW6.out.lv] at hSz
              simp only [Option.getD_some, Option.isSome_some, if_true] at hSz
              have hLv := dlive HW6.out.dir.own
              rw [HW6.out.used] at hLv
              have hFr := dfree_any HW6.out.dir.own HW6.out.dir.fine o' D' _ HW6.out.lv HW6.out.lt
              have hus9 := HW6.out.used
              have hlv9 := HW6.out.lv
              obtain ⟨⟨a0, a1, a2⟩, -⟩ := three_cells HW6.out.box
              clear c0 c1 c2 hOf k6 HWk
              generalize classN (8 * ts.length) = cl at *
              have Hus9 := hide hus9
              have Hlv9 := hide hlv9
              clear hus9 hlv9
              go_wp2_with fail
              (with_reducible refine hSz.mono ?_)
              rintro e w7 ⟨rfl, rfl⟩
              clear hSz
              go_wp2_with fail
              (with_reducible refine hLv.mono ?_)
              rintro e w8 ⟨rfl, rfl⟩
              clear hLv
              go_wp2_with fail
              (with_reducible refine hFr.mono ?_)
              rintro e w9 ⟨rfl, d9, hg9, ho9, k9⟩
              have hu9 : d9.used = 0 := by
                obtain ⟨s9, hs9, rfl⟩ := hg9
                rw [Hlv9.out] at hs9
                have es := Option.some.inj hs9
                show d'.used - s9 = 0
                rw [Hus9.out]
                omega
              have hLv := dlive ho9
              rw [hu9] at hLv
              have hbl := hide (ho9.below (Keeps.refl _ (fun _ => False)))
              clear hFr hg9 k9 a0 a1 a2 hu9 ho9 HW6
              go_wp2_with fail
              (with_reducible refine hLv.mono ?_)
              rintro e w10 ⟨rfl, rfl⟩
              clear hLv
              go_wp2_with fail
              go_ret
              exact ⟨by simp, hbl.out⟩

theorem walk (t : Int) (v u : Value) (zs : List Int) (hs : List Nat) (w : World) (hT : TabAt w) (hz : InZ w v zs) (hl : zs.length ≤ 17592186044000) (hfit : ∀ j (h : j < zs.length), fitsI zs[j]) (hu : InU w u hs) (hul : hs.length ≤ 17592186044000) (hus : ∀ j (h : j < hs.length), hs[j] < 18446744073709551616) :
    Calls Tryd.prog 4 #[v, .int .i64 t, u] w fun e w' => Post w e w' := by
  by_cases hd : depI zs.length < 0
  · exact walk_no t v u zs hs w hz hl hd
  · exact walk_yes t v u zs hs w hT hz hl hfit hu hul hus hd
end dirWidens
end Go.Proofs.YtiacmlcoadcefaaDoor
