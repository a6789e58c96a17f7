/-
  script: the reference's read.
-/
import Derived.Test.YtfpiibccggjjpaaDoorHSVE
import Derived.Test.YtfpiibccggjjpaaDoorUn13
namespace Go.Proofs.YtfpiibccggjjpaaDoor
open Go.RowKit
set_option linter.unusedVariables false
set_option maxRecDepth 100000 in
set_option maxHeartbeats 8000000 in
theorem rread_many (nm F : ByteArray) (op : Int) (v : Value) (fs : List (List UInt8)) (w : World) (hv : StrsIn w v fs) (hz : ∀ x, x ∈ fs → x.length ≤ 8388608) (hl : fs.length ≤ 8388600) (hF : F.size ≤ fs.length) (hm : F.size < fs.length) : Calls Tryd.prog 41 #[.agg #[.string nm, .int .i64 op, .string F, .bool true], v] w fun e w' => RrP (flF F.data.toList FlD.zero fs) w e w' := by
  obtain ⟨b, o, c, rfl, hc, hw⟩ := hv
  have HN := hide (fun (i : Nat) (hi : i < fs.length) (W : World) => rnumX_any (strOf fs[i]) (by rw [strOf_size]; exact hz _ (List.getElem_mem hi)) W)
  have HWd := hide (fun (i : Nat) (hi : i < fs.length) (W : World) => rword_any (strOf fs[i]) (by rw [strOf_size]; exact hz _ (List.getElem_mem hi)) W)
  have HBt := hide (fun (i : Nat) (hi : i < fs.length) (W : World) => rbytX_any (strOf fs[i]) (by rw [strOf_size]; exact hz _ (List.getElem_mem hi)) W)
  have HW := hide hw
  obtain ⟨R, hR⟩ : ∃ R, flF F.data.toList FlD.zero fs = R := ⟨_, rfl⟩
  rw [hR]
  have HR := hide hR.symm
  have h1 : ¬ (fs.length : Int) < (F.size : Int) := by omega
  have h2 : (F.size : Int) < (fs.length : Int) := by omega
  clear hR hw hz hF
  go_enter Tryd.func41, Tryd.ntmps41
  go_upto_region 2 with fail
  refine alloc3r (P := fun W => Code.wp _ _ _ _ W) fun W0 hb0 hb1 hb2 k0 => ?_
  obtain ⟨e0, e1, e2, e3⟩ := at4r hb0
  have HS0 : Hid (RdS w nm F op true FlD.zero (.slice none 0 0) (.slice none 0 0) (.slice none 0 0) W0) := ⟨⟨hb2, (FlV.zero _ _).n, (FlV.zero _ _).w, (FlV.zero _ _).b⟩, hb0, hb1, k0⟩
  clear hb0 hb1 hb2 k0
  go_wp2_with fail
  clear e0 e1 e2 e3 h1 h2 hm
  go_loopw [7] (fun v7 wr => ∃ i : Nat, v7 = .int .i64 (i : Int) ∧ i ≤ fs.length ∧ ∃ f vn vw vb, Hid (R = flF (F.data.toList.drop i) f (fs.drop i)) ∧ Hid (f.n.length ≤ i ∧ f.w.length ≤ i ∧ f.b.length ≤ i) ∧ RdS w nm F op true f vn vw vb wr) (fun v7 _ => fs.length - (intOf v7).toNat)
  case atStart => exact ⟨0, rfl, Nat.zero_le _, _, _, _, _, HR.out, ⟨Nat.le_refl _, Nat.le_refl _, Nat.le_refl _⟩, HS0.out⟩
  case round =>
    obtain ⟨i, rfl, hi, f, vn, vw, vb, hrel2, hlen, hS⟩ := hrel
    obtain ⟨sn, cn, rfl⟩ := ownsRow_slice hS.fl.n
    obtain ⟨sw, cw, rfl⟩ := ownsRow_slice hS.fl.w
    obtain ⟨sb, cb, rfl⟩ := ownsRow_slice hS.fl.b
    obtain ⟨e0, e1, e2, e3⟩ := at4r hS.row
    by_cases hlt : i < fs.length
    · have hlt' : (i : Int) < (fs.length : Int) := by omega
      have h0' : (0 : Int) ≤ (i : Int) := by omega
      have q1 := keeps_cell hS.keep (HW.out i hlt)
      have hstep := flF_step (F := F.data.toList) hlt f
      have Hms : Hid (fs.length - (i + 1) < fs.length - i) := by show fs.length - (i + 1) < fs.length - i; omega
      obtain ⟨x, hx⟩ : ∃ x, fs[i] = x := ⟨_, rfl⟩
      rw [hx] at hstep q1
      unfold strV at q1
      obtain ⟨p0, hp0⟩ : ∃ p0, F.data.toList.getD i 110 = p0 := ⟨_, rfl⟩
      rw [hp0] at hstep
      by_cases hF : i < F.size
      · have hF' : (i : Int) < (F.size : Int) := by omega
        have hp : F[i] = p0 := by
          rw [← hp0, List.getD_eq_getElem?_getD, List.getElem?_eq_getElem (show i < F.data.toList.length from hF)]
          rfl
        clear hp0
        by_cases p1 : p0 = 110
        · subst p1
          have hcall := HN.out i hlt wr
          rw [hx] at hcall
          have hst2 : R = if (numE x).2 = 0 then flF (F.data.toList.drop (i + 1)) ⟨f.n ++ [(numE x).1], f.w, f.b⟩ (fs.drop (i + 1)) else (FlD.zero, (numE x).2) := by
            rw [hrel2.out, hstep]
            simp [flS]
          have hlen2 := flS_len 110 f x hlen.out
          rw [show (flS 110 f x).1 = ⟨f.n ++ [(numE x).1], f.w, f.b⟩ by simp [flS]] at hlen2
          have hbn : f.n.length ≤ 8388608 := by have := hlen.out; omega
          have HST := hide hst2
          have HL2 := hide hlen2
          have HS := hide hS
          have hwr := hide (wr64s (n := i) (by omega))
          clear hst2 hlen2 hrel2 hlen hstep hx
          clear hS
          go_wp2_with fail
          (with_reducible refine hcall.mono ?_)
          rintro e w1 hce
          obtain ⟨⟨n, er, rfl, hne⟩, rfl⟩ := hce
          rw [strOf_data] at hne
          have HST := hide HST.out
          have HS1 := hide HS.out
          rw [hne] at HST HL2
          clear HS hcall
          obtain ⟨g2, c2, W2, hap, y1, fz, hS2⟩ := HS1.out.moreN hbn n
          obtain ⟨x0, x1, x2⟩ := three_cells9 HS1.out.fl.box
          have kA : Keeps w1 (w1.alloc (.cells #[.int .i64 n] 3)) (fun _ => False) := (Keeps.refl _ _).alloc _
          have xA := keeps_cell kA x0
          have HS2 := hide hS2
          clear kA hS2 HS1 q1 e0 e1 e2 e3
          by_cases hz : er = 0
          · subst hz
            have HF : Hid (R = flF (F.data.toList.drop (i + 1)) ⟨f.n ++ [n], f.w, f.b⟩ (fs.drop (i + 1))) := hide (by
              have := HST.out
              simpa using this)
            clear HST
            obtain ⟨a6, a7⟩ := hwr.out
            go_wp2_with (first | (at_builtin; have _t := hap; refine app_run _ rfl (.tmp 78) (.tmp 80) 30 rfl rfl rfl hap ?_; clear hap))
            go_roundw
            case rel => exact ⟨i + 1, by go_num, hlt, _, _, _, _, HF, HL2, HS2.out⟩
            case measure => simp [intOf]; exact Hms.out
          · have HF : Hid (R = (FlD.zero, er)) := hide (by
              have := HST.out
              simpa [hz] using this)
            have hz2 : (er != 0) = true := by simpa using hz
            have hz3 : (er == 0) = false := by simpa using hz
            obtain ⟨m0, m1, m2⟩ := three_cells9 HS2.out.res
            obtain ⟨f0, f1, f2⟩ := fro3 HS2.out.res
            clear HST
            go_wp2_with (first | (at_builtin; have _t := hap; refine app_run _ rfl (.tmp 78) (.tmp 80) 30 rfl rfl rfl hap ?_; clear hap))
            all_goals refine rd_end (P := bodyPost Tryd.prog _ _ Exit.ret _) (b1 := w.heap.size + 1) (Nat.le_succ _) HS2.out.res HS2.out.keep fun W' hb k => ?_
            all_goals obtain ⟨t0, t1, t2⟩ := three_cells9 hb
            all_goals refine bodyPost_ret (v := .tuple #[.agg #[.slice none 0 0, .slice none 0 0, .slice none 0 0], .int .i64 er]) (by simp [results, Tryd.results41, go_sem, t0, t1, t2]) rfl ?_
            all_goals (rw [HF.out]; exact ⟨_, _, _, rfl, FlV.zero _ _, k⟩)
        · obtain ⟨u1, u2⟩ := ne_forms p1
          rw [show ((110 : UInt8).toNat : Int) = 110 from rfl] at u2
          by_cases p2 : p0 = 119
          · subst p2
            have hcall := HWd.out i hlt wr
            rw [hx] at hcall
            have hst2 : R = if (wrdE x).2 = 0 then flF (F.data.toList.drop (i + 1)) ⟨f.n, f.w ++ [(wrdE x).1], f.b⟩ (fs.drop (i + 1)) else (FlD.zero, (wrdE x).2) := by
              rw [hrel2.out, hstep]
              simp [flS]
            have hlen2 := flS_len 119 f x hlen.out
            rw [show (flS 119 f x).1 = ⟨f.n, f.w ++ [(wrdE x).1], f.b⟩ by simp [flS]] at hlen2
            have hbn : f.w.length ≤ 8388608 := by have := hlen.out; omega
            have HST := hide hst2
            have HL2 := hide hlen2
            have HS := hide hS
            have hwr := hide (wr64s (n := i) (by omega))
            clear hst2 hlen2 hrel2 hlen hstep hx
            clear hS
            go_wp2_with fail
            (with_reducible refine hcall.mono ?_)
            rintro e w1 hce
            obtain ⟨rfl, rfl⟩ := hce
            rw [strOf_data]
            obtain ⟨n, hn1⟩ : ∃ n, (wrdE x).1 = n := ⟨_, rfl⟩
            obtain ⟨er, hn2⟩ : ∃ er, (wrdE x).2 = er := ⟨_, rfl⟩
            rw [hn1, hn2]
            rw [hn1, hn2] at HST
            rw [hn1] at HL2
            clear hn1 hn2
            have HS1 := hide HS.out
            clear HS hcall
            obtain ⟨g2, c2, W2, hap, y1, fz, hS2⟩ := HS1.out.moreW hbn n
            obtain ⟨x0, x1, x2⟩ := three_cells9 HS1.out.fl.box
            have kA : Keeps w1 (w1.alloc (.cells #[.int .u64 (n : Int)] 31)) (fun _ => False) := (Keeps.refl _ _).alloc _
            have xA := keeps_cell kA x1
            have HS2 := hide hS2
            clear kA hS2 HS1 q1 e0 e1 e2 e3
            by_cases hz : er = 0
            · subst hz
              have HF : Hid (R = flF (F.data.toList.drop (i + 1)) ⟨f.n, f.w ++ [n], f.b⟩ (fs.drop (i + 1))) := hide (by
                have := HST.out
                simpa using this)
              clear HST
              obtain ⟨a6, a7⟩ := hwr.out
              go_wp2_with (first | (at_builtin; have _t := hap; refine app_run _ rfl (.tmp 95) (.tmp 97) 84 rfl rfl rfl hap ?_; clear hap))
              go_roundw
              case rel => exact ⟨i + 1, by go_num, hlt, _, _, _, _, HF, HL2, HS2.out⟩
              case measure => simp [intOf]; exact Hms.out
            · have HF : Hid (R = (FlD.zero, er)) := hide (by
                have := HST.out
                simpa [hz] using this)
              have hz2 : (er != 0) = true := by simpa using hz
              have hz3 : (er == 0) = false := by simpa using hz
              obtain ⟨m0, m1, m2⟩ := three_cells9 HS2.out.res
              obtain ⟨f0, f1, f2⟩ := fro3 HS2.out.res
              clear HST
              go_wp2_with (first | (at_builtin; have _t := hap; refine app_run _ rfl (.tmp 95) (.tmp 97) 84 rfl rfl rfl hap ?_; clear hap))
              all_goals refine rd_end (P := bodyPost Tryd.prog _ _ Exit.ret _) (b1 := w.heap.size + 1) (Nat.le_succ _) HS2.out.res HS2.out.keep fun W' hb k => ?_
              all_goals obtain ⟨t0, t1, t2⟩ := three_cells9 hb
              all_goals refine bodyPost_ret (v := .tuple #[.agg #[.slice none 0 0, .slice none 0 0, .slice none 0 0], .int .i64 er]) (by simp [results, Tryd.results41, go_sem, t0, t1, t2]) rfl ?_
              all_goals (rw [HF.out]; exact ⟨_, _, _, rfl, FlV.zero _ _, k⟩)
          · obtain ⟨u3, u4⟩ := ne_forms p2
            rw [show ((119 : UInt8).toNat : Int) = 119 from rfl] at u4
            have hcall := HBt.out i hlt wr
            rw [hx] at hcall
            have hst2 : R = if (bytE x).2 = 0 then flF (F.data.toList.drop (i + 1)) ⟨f.n, f.w, f.b ++ [(bytE x).1]⟩ (fs.drop (i + 1)) else (FlD.zero, (bytE x).2) := by
              rw [hrel2.out, hstep]
              simp [flS, p1, p2]
            have hlen2 := flS_len p0 f x hlen.out
            rw [show (flS p0 f x).1 = ⟨f.n, f.w, f.b ++ [(bytE x).1]⟩ by simp [flS, p1, p2]] at hlen2
            have hbn : f.b.length ≤ 8388608 := by have := hlen.out; omega
            have HST := hide hst2
            have HL2 := hide hlen2
            have HS := hide hS
            have hwr := hide (wr64s (n := i) (by omega))
            clear hst2 hlen2 hrel2 hlen hstep hx
            clear hS
            go_wp2_with fail
            (with_reducible refine hcall.mono ?_)
            rintro e w1 hce
            obtain ⟨rfl, k1⟩ := hce
            rw [show bytD (strOf x) = bytE x from rfl]
            obtain ⟨n, hn1⟩ : ∃ n, (bytE x).1 = n := ⟨_, rfl⟩
            obtain ⟨er, hn2⟩ : ∃ er, (bytE x).2 = er := ⟨_, rfl⟩
            rw [hn1, hn2]
            rw [hn1, hn2] at HST
            rw [hn1] at HL2
            clear hn1 hn2
            have HS1 := hide (HS.out.keeps k1)
            clear k1
            clear HS hcall
            obtain ⟨g2, c2, W2, hap, y1, fz, hS2⟩ := HS1.out.moreB hbn n
            obtain ⟨x0, x1, x2⟩ := three_cells9 HS1.out.fl.box
            have kA : Keeps w1 (w1.alloc (.cells #[.string n] 9)) (fun _ => False) := (Keeps.refl _ _).alloc _
            have xA := keeps_cell kA x2
            have HS2 := hide hS2
            clear kA hS2 HS1 q1 e0 e1 e2 e3
            by_cases hz : er = 0
            · subst hz
              have HF : Hid (R = flF (F.data.toList.drop (i + 1)) ⟨f.n, f.w, f.b ++ [n]⟩ (fs.drop (i + 1))) := hide (by
                have := HST.out
                simpa using this)
              clear HST
              obtain ⟨a6, a7⟩ := hwr.out
              go_wp2_with (first | (at_builtin; have _t := hap; refine app_run _ rfl (.tmp 61) (.tmp 63) 42 rfl rfl rfl hap ?_; clear hap))
              go_roundw
              case rel => exact ⟨i + 1, by go_num, hlt, _, _, _, _, HF, HL2, HS2.out⟩
              case measure => simp [intOf]; exact Hms.out
            · have HF : Hid (R = (FlD.zero, er)) := hide (by
                have := HST.out
                simpa [hz] using this)
              have hz2 : (er != 0) = true := by simpa using hz
              have hz3 : (er == 0) = false := by simpa using hz
              obtain ⟨m0, m1, m2⟩ := three_cells9 HS2.out.res
              obtain ⟨f0, f1, f2⟩ := fro3 HS2.out.res
              clear HST
              go_wp2_with (first | (at_builtin; have _t := hap; refine app_run _ rfl (.tmp 61) (.tmp 63) 42 rfl rfl rfl hap ?_; clear hap))
              all_goals refine rd_end (P := bodyPost Tryd.prog _ _ Exit.ret _) (b1 := w.heap.size + 1) (Nat.le_succ _) HS2.out.res HS2.out.keep fun W' hb k => ?_
              all_goals obtain ⟨t0, t1, t2⟩ := three_cells9 hb
              all_goals refine bodyPost_ret (v := .tuple #[.agg #[.slice none 0 0, .slice none 0 0, .slice none 0 0], .int .i64 er]) (by simp [results, Tryd.results41, go_sem, t0, t1, t2]) rfl ?_
              all_goals (rw [HF.out]; exact ⟨_, _, _, rfl, FlV.zero _ _, k⟩)
      · have hF' : ¬ (i : Int) < (F.size : Int) := by omega
        obtain rfl : 110 = p0 := by
          rw [← hp0, List.getD_eq_getElem?_getD, List.getElem?_eq_none (show F.data.toList.length ≤ i by have : F.data.toList.length = F.size := rfl; omega)]
          rfl
        clear hp0
        have hcall := HN.out i hlt wr
        rw [hx] at hcall
        have hst2 : R = if (numE x).2 = 0 then flF (F.data.toList.drop (i + 1)) ⟨f.n ++ [(numE x).1], f.w, f.b⟩ (fs.drop (i + 1)) else (FlD.zero, (numE x).2) := by
          rw [hrel2.out, hstep]
          simp [flS]
        have hlen2 := flS_len 110 f x hlen.out
        rw [show (flS 110 f x).1 = ⟨f.n ++ [(numE x).1], f.w, f.b⟩ by simp [flS]] at hlen2
        have hbn : f.n.length ≤ 8388608 := by have := hlen.out; omega
        have HST := hide hst2
        have HL2 := hide hlen2
        have HS := hide hS
        have hwr := hide (wr64s (n := i) (by omega))
        clear hst2 hlen2 hrel2 hlen hstep hx
        clear hS
        go_wp2_with fail
        (with_reducible refine hcall.mono ?_)
        rintro e w1 hce
        obtain ⟨⟨n, er, rfl, hne⟩, rfl⟩ := hce
        rw [strOf_data] at hne
        have HST := hide HST.out
        have HS1 := hide HS.out
        rw [hne] at HST HL2
        clear HS hcall
        obtain ⟨g2, c2, W2, hap, y1, fz, hS2⟩ := HS1.out.moreN hbn n
        obtain ⟨x0, x1, x2⟩ := three_cells9 HS1.out.fl.box
        have kA : Keeps w1 (w1.alloc (.cells #[.int .i64 n] 3)) (fun _ => False) := (Keeps.refl _ _).alloc _
        have xA := keeps_cell kA x0
        have HS2 := hide hS2
        clear kA hS2 HS1 q1 e0 e1 e2 e3
        by_cases hz : er = 0
        · subst hz
          have HF : Hid (R = flF (F.data.toList.drop (i + 1)) ⟨f.n ++ [n], f.w, f.b⟩ (fs.drop (i + 1))) := hide (by
            have := HST.out
            simpa using this)
          clear HST
          obtain ⟨a6, a7⟩ := hwr.out
          go_wp2_with (first | (at_builtin; have _t := hap; refine app_run _ rfl (.tmp 78) (.tmp 80) 30 rfl rfl rfl hap ?_; clear hap))
          go_roundw
          case rel => exact ⟨i + 1, by go_num, hlt, _, _, _, _, HF, HL2, HS2.out⟩
          case measure => simp [intOf]; exact Hms.out
        · have HF : Hid (R = (FlD.zero, er)) := hide (by
            have := HST.out
            simpa [hz] using this)
          have hz2 : (er != 0) = true := by simpa using hz
          have hz3 : (er == 0) = false := by simpa using hz
          obtain ⟨m0, m1, m2⟩ := three_cells9 HS2.out.res
          obtain ⟨f0, f1, f2⟩ := fro3 HS2.out.res
          clear HST
          go_wp2_with (first | (at_builtin; have _t := hap; refine app_run _ rfl (.tmp 78) (.tmp 80) 30 rfl rfl rfl hap ?_; clear hap))
          all_goals refine rd_end (P := bodyPost Tryd.prog _ _ Exit.ret _) (b1 := w.heap.size + 1) (Nat.le_succ _) HS2.out.res HS2.out.keep fun W' hb k => ?_
          all_goals obtain ⟨t0, t1, t2⟩ := three_cells9 hb
          all_goals refine bodyPost_ret (v := .tuple #[.agg #[.slice none 0 0, .slice none 0 0, .slice none 0 0], .int .i64 er]) (by simp [results, Tryd.results41, go_sem, t0, t1, t2]) rfl ?_
          all_goals (rw [HF.out]; exact ⟨_, _, _, rfl, FlV.zero _ _, k⟩)
    · obtain rfl : i = fs.length := by omega
      have hlt' : ¬ (fs.length : Int) < (fs.length : Int) := by omega
      obtain rfl : R = (f, 0) := by rw [hrel2.out, List.drop_length]; rfl
      obtain ⟨x0, x1, x2⟩ := three_cells9 hS.fl.box
      obtain ⟨m0, m1, m2⟩ := three_cells9 hS.res
      obtain ⟨f0, f1, f2⟩ := fro3 hS.res
      have HS := hide hS
      clear hS hrel2 hlen
      go_wp2_with fail
      refine rd_fin (P := bodyPost Tryd.prog _ _ Exit.ret _) HS.out fun W' hb hf k => ?_
      obtain ⟨t0, t1, t2⟩ := three_cells9 hb
      refine bodyPost_ret (v := .tuple #[.agg #[.slice sn f.n.length cn, .slice sw f.w.length cw, .slice sb f.b.length cb], .int .i64 0]) (by simp [results, Tryd.results41, go_sem, t0, t1, t2]) rfl ?_
      exact ⟨_, _, _, rfl, hf, k⟩
/-- What read is to answer. -/
def rdG (F : List UInt8) (m : Bool) (fs : List (List UInt8)) : FlD × Int := if F.length ≤ fs.length ∧ (fs.length ≤ F.length ∨ m = true) then flF F FlD.zero fs else (FlD.zero, 160)
theorem rread_any (nm F : ByteArray) (op : Int) (m : Bool) (v : Value) (fs : List (List UInt8)) (w : World) (hv : StrsIn w v fs) (hz : ∀ x, x ∈ fs → x.length ≤ 8388608) (hl : fs.length ≤ 8388600) : Calls Tryd.prog 41 #[.agg #[.string nm, .int .i64 op, .string F, .bool m], v] w fun e w' => RrP (rdG F.data.toList m fs) w e w' := by
  have hF : F.data.toList.length = F.size := rfl
  unfold rdG
  rw [hF]
  by_cases h1 : F.size ≤ fs.length
  · by_cases h2 : fs.length ≤ F.size
    · rw [if_pos ⟨h1, Or.inl h2⟩]
      exact rread_same nm F op m v fs w hv hz hl h1 h2
    · cases m with
      | true =>
        rw [if_pos ⟨h1, Or.inr rfl⟩]
        exact rread_many nm F op v fs w hv hz hl h1 (by omega)
      | false =>
        rw [if_neg (fun q => by rcases q.2 with q | q; exact h2 q; cases q)]
        obtain ⟨b, o, c, rfl, -, -⟩ := hv
        exact rread_more nm F op _ _ c w (by omega)
  · rw [if_neg (fun q => h1 q.1)]
    obtain ⟨b, o, c, rfl, -, -⟩ := hv
    exact rread_less nm F op m _ _ c w (by omega)
end Go.Proofs.YtfpiibccggjjpaaDoor
