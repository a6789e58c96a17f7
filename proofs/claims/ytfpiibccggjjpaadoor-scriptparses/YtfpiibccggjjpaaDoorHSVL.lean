/-
  script: the reference's Parse.
-/
import Derived.Test.YtfpiibccggjjpaaDoorHSVK
import Derived.Deep.RegionHeldLaw
namespace Go.Proofs.YtfpiibccggjjpaaDoor
open Go.RowKit
set_option linter.unusedVariables false
set_option linter.unusedSimpArgs false
theorem four_cells {W : World} {q : Nat} {a0 a1 a2 a3 : Value} {t : TypeId} (h : W.heap[q]? = some (.cells #[a0, a1, a2, a3] t)) : W.cell? ⟨q, 0, none⟩ = some a0 ∧ W.cell? ⟨q, 1, none⟩ = some a1 ∧ W.cell? ⟨q, 2, none⟩ = some a2 ∧ W.cell? ⟨q, 3, none⟩ = some a3 := by
  simp [World.cell?, h]
/-- A call of a function, as one step of a region that draws. -/
theorem step_call_run {P : Program} {w : World} {ops : Array Oper} {o : Oper} {a : Act} {K : Act → World → Prop} {Q : Exit → Act → World → Prop} {E : Prop} (hgd : o.guard = none) (f : FuncId) (s x : Operand) (tys : Array TypeId)
    (ho : o.op = .call { callee := .value (.func f), args := #[s, x], argTypes := tys }) (hcf : ∀ vs, (callFunc f vs).run P w = .ok (.enter f vs) w) {v u : Value} (hs : a.eval s = v) (hx : a.eval x = u) {R : Ending → World → Prop} (hc : Calls P f #[v, u] w R) (h : ∀ e w', R e w' → ∃ v, e = .returned v ∧ K (a.put o.dst v) w') :
    if Region.wanted o (yielded ops a.tmps) = true then Oper.wp P o a w K Q else E := by
  have hw : Region.wanted o (yielded ops a.tmps) = true := by simp [Region.wanted, hgd]
  rw [if_pos hw]
  have e : (execOp a.eval o).run P w = .ok (.enter f #[v, u]) w := by
    simp only [execOp, ho, resolve, invoke, Sem.run_bind, Sem.run_pure, Result.andThen_ok, List.map_toArray, List.map_cons, List.map_nil, hs, hx]
    simp [go_sem, Act.eval]
    exact hcf _
  unfold Oper.wp
  rw [e, Oper.upon_enter]
  refine hc.mono fun e w' he => ?_
  obtain ⟨v, rfl, hk⟩ := h e w' he
  exact hk
theorem cf_command (w : World) (vs : Array Value) : (callFunc 42 vs).run Tryd.prog w = .ok (.enter 42 vs) w := by
  unfold callFunc
  simp [Tryd.func42, go_sem]
  try rfl
theorem cells_two {W5 W6 : World} {bs q j i : Nat} {a v : Value} {S : Nat → Prop} (k : Keeps W5 (W6.setCell ⟨bs, i, none⟩ a) S) (hS : ¬ S q) (hne : q ≠ bs) (h : W5.cell? ⟨q, j, none⟩ = some v) : W6.cell? ⟨q, j, none⟩ = some v ∧ (W6.setCell ⟨bs, i, none⟩ a).cell? ⟨q, j, none⟩ = some v := by
  have hq : q < W5.heap.size := cell_lt8 h
  have hb := k.block q hq hS
  have hb2 := Below.heap_setCell W6 ⟨bs, i, none⟩ a q hne
  have hc : (W6.setCell ⟨bs, i, none⟩ a).cell? ⟨q, j, none⟩ = some v := by
    simp only [World.cell?] at h ⊢
    rw [hb]
    exact h
  refine ⟨?_, hc⟩
  simp only [World.cell?] at hc ⊢
  rw [← hb2]
  exact hc
theorem own_z {W : World} {q bs : Nat} {c1 c2 : Array Value} {t1 t2 : TypeId} (h1 : W.heap[q]? = some (.cells c1 t1)) (h2 : W.heap[bs]? = some (.cells c2 t2)) (hne : t1 ≠ t2) (e : q = bs) : False := by
  subst e
  rw [h1] at h2
  injection h2 with h2
  injection h2 with _ q3 _
  exact hne q3
structure BxR8 (R : Prop) : Prop where
  out : R
theorem once8 {R G : Prop} (h : BxR8 R → G) (r : R) : G := h ⟨r⟩
theorem nm_lim2 : ∀ i : Fin 16, nmN i.1 = ⟨#[108, 105, 109, 105, 116]⟩ → i.1 = 0 := by decide +kernel
theorem nm_hash2 : ∀ i : Fin 16, nmN i.1 = ⟨#[104, 97, 115, 104]⟩ → i.1 = 1 := by decide +kernel
theorem lit_limit : (⟨#[108, 105, 109, 105, 116]⟩ : ByteArray).toList = [108, 105, 109, 105, 116] := by rw [ByteArray.toList_eq]
theorem lit_hash : (⟨#[104, 97, 115, 104]⟩ : ByteArray).toList = [104, 97, 115, 104] := by rw [ByteArray.toList_eq]
theorem heap_new_drew8 (w : World) (o : Obj) : ((w.alloc o).drew).heap[w.heap.size]? = some o := heap_alloc_new w o
theorem r4_keep {W W' : World} {B : Nat} {a0 a1 a2 a3 : Value} (h : W.cell? ⟨B, 0, none⟩ = some a0 ∧ W.cell? ⟨B, 1, none⟩ = some a1 ∧ W.cell? ⟨B, 2, none⟩ = some a2 ∧ W.cell? ⟨B, 3, none⟩ = some a3) (k : Keeps W W' (fun _ => False)) : W'.cell? ⟨B, 0, none⟩ = some a0 ∧ W'.cell? ⟨B, 1, none⟩ = some a1 ∧ W'.cell? ⟨B, 2, none⟩ = some a2 ∧ W'.cell? ⟨B, 3, none⟩ = some a3 := ⟨keeps_cell k h.1, keeps_cell k h.2.1, keeps_cell k h.2.2.1, keeps_cell k h.2.2.2⟩
theorem r4_set {W : World} {B Z : Nat} {x0 x1 x2 x3 a0 a1 a2 : Value} (h : W.cell? ⟨B, 0, none⟩ = some x0 ∧ W.cell? ⟨B, 1, none⟩ = some x1 ∧ W.cell? ⟨B, 2, none⟩ = some x2 ∧ W.cell? ⟨B, 3, none⟩ = some x3) (hZ : B < Z) : (((W.setCell ⟨Z, 0, none⟩ a0).setCell ⟨Z, 1, none⟩ a1).setCell ⟨Z, 2, none⟩ a2).cell? ⟨B, 0, none⟩ = some x0 ∧ (((W.setCell ⟨Z, 0, none⟩ a0).setCell ⟨Z, 1, none⟩ a1).setCell ⟨Z, 2, none⟩ a2).cell? ⟨B, 1, none⟩ = some x1 ∧ (((W.setCell ⟨Z, 0, none⟩ a0).setCell ⟨Z, 1, none⟩ a1).setCell ⟨Z, 2, none⟩ a2).cell? ⟨B, 2, none⟩ = some x2 ∧ (((W.setCell ⟨Z, 0, none⟩ a0).setCell ⟨Z, 1, none⟩ a1).setCell ⟨Z, 2, none⟩ a2).cell? ⟨B, 3, none⟩ = some x3 := by
  have k : Keeps W (((W.setCell ⟨Z, 0, none⟩ a0).setCell ⟨Z, 1, none⟩ a1).setCell ⟨Z, 2, none⟩ a2) (fun x => x = Z) := (((Keeps.refl W (fun k => k = Z)).setCell ⟨Z, 0, none⟩ (fun _ => rfl) a0).setCell ⟨Z, 1, none⟩ (fun _ => rfl) a1).setCell ⟨Z, 2, none⟩ (fun _ => rfl) a2
  have hne : ¬ B = Z := by omega
  exact ⟨keeps_cellB k h.1 hne, keeps_cellB k h.2.1 hne, keeps_cellB k h.2.2.1 hne, keeps_cellB k h.2.2.2 hne⟩
set_option maxRecDepth 100000 in
set_option maxHeartbeats 40000000 in
theorem rparse_any (s : ByteArray) (hs : s.size ≤ 9223372036854775807) (w : World) : Calls Tryd.prog 27 #[.string s] w fun e w' => PaT (parseD s.data.toList) w e w' := by
  obtain ⟨RR, hRR⟩ : ∃ RR, RR = parseD s.data.toList := ⟨_, rfl⟩
  rw [← hRR]
  have HQ := hide hRR
  clear hRR
  by_cases hbig : 1048576 < s.size
  · have hb' : (1048576 : Int) < (s.size : Int) := by omega
    have HR2 : Hid (RR = .inr (0, 160)) := by
      show RR = _
      rw [HQ.out]
      unfold parseD
      rw [if_pos (show 1048576 < s.data.toList.length from hbig)]
    clear HQ
    go_enter Tryd.func27, Tryd.ntmps27
    go_upto_region 1 with fail
    refine alloc1 (P := fun W => Code.wp _ _ _ _ W) fun W0 hb0 hs0 k0 => ?_
    obtain ⟨e0, e1, e2⟩ := three_cells9 hb0
    obtain ⟨f0, f1, f2⟩ := fro3 hb0
    have Hb0 := hide hb0
    have K0 := hide k0
    clear hb0 hs0 k0
    go_wp2_with fail
    refine set3r (P := fun W => bodyPost _ _ _ _ _ W) Hb0.out fun W9 h9 k9 => ?_
    obtain ⟨e0, e1, e2⟩ := three_cells9 h9
    refine bodyPost_ret (v := .tuple #[.agg #[.int .i64 0, .slice none 0 0, .slice none 0 0], .int .i64 0, .int .i64 160]) (by simp [results, Tryd.results27, go_sem, e0, e1, e2]) rfl ?_
    rw [HR2.out]
    exact ⟨keeps_out K0.out (Nat.le_refl _) k9, rfl⟩
  · have hb' : ¬ (1048576 : Int) < (s.size : Int) := by omega
    obtain ⟨ls, hls⟩ : ∃ ls, ls = linesD s.data.toList := ⟨_, rfl⟩
    have HQ2 : Hid (RR = endD ls.length (psF PSt.zero 0 ls)) := by
      show RR = _
      rw [HQ.out, hls]
      unfold parseD
      rw [if_neg (show ¬ 1048576 < s.data.toList.length from hbig)]
      rfl
    have hlines := fun W => rlines_any s (by omega) W
    rw [← hls] at hlines
    obtain ⟨z1, z2⟩ := lines_small s.data.toList
    rw [← hls] at z1 z2
    have hsz : s.data.toList.length = s.size := rfl
    have HZ := hide (And.intro z1 (And.intro z2 (And.intro hsz (show s.size ≤ 1048576 by omega))))
    clear HQ hls z1 z2 hsz hs
    go_enter Tryd.func27, Tryd.ntmps27
    go_upto_region 1 with fail
    refine alloc1 (P := fun W => Code.wp _ _ _ _ W) fun W0 hb0 hs0 k0 => ?_
    have Hb0 := hide hb0
    have K0 := hide k0
    clear hb0 hs0 k0
    go_wp2_with fail
    (with_reducible refine (hlines _).mono ?_)
    rintro e w1 ⟨rl, rfl, hl1, k1⟩
    obtain ⟨so, co, rfl⟩ := ownsRow_slice hl1
    have HL1 := hide (And.intro (ownsRow_low2 hl1 K0.out.size) (And.intro (k1.blk8 Hb0.out) (And.intro (K0.out.trans k1 (fun _ _ e => e)) (heap_lt (k1.blk8 Hb0.out)))))
    clear hlines hl1 k1 Hb0 K0
    go_upto_region 5 with fail
    refine alloc1 (P := fun W => Code.wp _ _ _ _ W) fun W1 hb1 hs1 k1 => ?_
    have H1 : Hid (PaQ w w1.heap.size ls (.slice so ls.length co) PSt.zero (.slice none 0 0) (.slice none 0 0) [] W1) := ⟨k1.blk8 HL1.out.2.1, ⟨hb1, ⟨rfl, Or.inl ⟨rfl, rfl⟩⟩, ⟨rfl, Or.inl ⟨rfl, rfl⟩⟩, rfl, fun x hx => by cases hx⟩, ownsRow_keeps HL1.out.1 k1 (fun _ _ e => e), HL1.out.2.2.1.trans k1 (fun _ _ e => e), HL1.out.2.2.2⟩
    clear hb1 hs1 k1 HL1
    generalize w1.heap.size = bs at *
    go_wp2_with fail
    go_loopw [7, 8] (fun v7 v8 wr => ∃ (i : Nat) (st : PSt) (vo vc : Value) (L : List CmV) (bg : Bool), v8 = .int .i64 (i : Int) ∧ i ≤ ls.length ∧ v7 = .bool bg ∧ PaQ w bs ls (.slice so ls.length co) st vo vc L wr ∧ Hid (bg = decide (st.last ≠ 0)) ∧ Hid (psF st i (ls.drop i) = psF PSt.zero 0 ls ∧ st.os.length + st.cs.length ≤ i ∧ LstOk st)) (fun _ v8 _ => ls.length - (intOf v8).toNat)
    case atStart => exact ⟨0, PSt.zero, _, _, _, false, rfl, Nat.zero_le _, rfl, H1.out, rfl, ⟨rfl, Nat.le_refl _, LstOk.zero⟩⟩
    case round =>
      obtain ⟨i, st, vo, vc, L, bg, rfl, hi, rfl, hp, Hbg, HI⟩ := hrel
      by_cases hlt : i < ls.length
      · have hlt' : (i : Int) < (ls.length : Int) := by omega
        have hi0 : (0 : Int) ≤ (i : Int) := by omega
        obtain ⟨g, rfl⟩ := own_some hp.ln (by omega)
        have q1 : wr.cell? ⟨g, i, none⟩ = some (.string (strOf ls[i])) := by
          rw [hp.ln.cellAt i (by omega), List.getElem?_map, List.getElem?_eq_getElem hlt]
          rfl
        obtain ⟨z1, z2, z3, z4⟩ := HZ.out
        have zl := z1 ls[i] (List.getElem_mem hlt)
        have hwords := rwords_any (strOf ls[i]) (by rw [strOf_size]; omega) wr
        rw [strOf_data] at hwords
        obtain ⟨y1, y2⟩ := words_small ls[i]
        have HY := hide (And.intro (fun x hx => Nat.le_trans (y1 x hx) zl) (And.intro y2 zl))
        have hdrop : ls.drop i = ls[i] :: ls.drop (i + 1) := List.drop_eq_getElem_cons hlt
        have hI := HI.out
        rw [hdrop] at hI
        generalize ls[i] = l at *
        have HI2 := hide hI
        have Hms : Hid (ls.length - (i + 1) < ls.length - i) := by show ls.length - (i + 1) < ls.length - i; omega
        have Hile : Hid (i ≤ 1048576) := by show i ≤ 1048576; omega
        have hwr := hide (wr64s (n := i) (by omega))
        have HP := hide hp
        clear hI hdrop HI z1 z2 z3 z4 zl y1 y2 hp
        go_wp2_with fail
        (with_reducible refine hwords.mono ?_)
        rintro e w2 ⟨wv, rfl, hT, k2⟩
        obtain ⟨sw, cw, rfl⟩ := ownsRow_slice hT
        have HP2 := hide (HP.out.stay k2)
        have HT := hide hT
        clear hwords hT k2 HP q1
        cases hw : wdsD l with
        | nil =>
          have HN : Hid (psF st (i + 1) (ls.drop (i + 1)) = psF PSt.zero 0 ls ∧ st.os.length + st.cs.length ≤ i + 1 ∧ LstOk st) := by
            have := HI2.out
            rw [psF_skip hw] at this
            exact ⟨this.1, Nat.le_succ_of_le this.2.1, this.2.2⟩
          rw [hw] at HT
          clear HI2 hw HY
          rw [List.length_nil] at *
          obtain ⟨a6, a7⟩ := hwr.out
          go_wp2_with fail
          go_roundw
          case rel => exact ⟨i + 1, st, vo, vc, L, bg, by go_num, hlt, rfl, HP2.out, Hbg, HN.out⟩
          case measure => simp [intOf]; exact Hms.out
        | cons nm fs =>
          rw [hw] at HT HY
          have hS := HT.out.strs (by simp)
          have hl0 : ((((nm :: fs).length : Nat) : Int) == 0) = false := by
            rw [beq_eq_false_iff_ne]
            simp
            omega
          have HB := hide (fun (h0 : ¬ (lnR st.last nm fs).2.2 = 0) => (psF_bad (i := i) (r := ls.drop (i + 1)) hw h0).symm.trans HI2.out.1)
          have HG := hide (fun (h0 : (lnR st.last nm fs).2.2 = 0) => And.intro (lnR_kind h0) ((psF_read (i := i) (r := ls.drop (i + 1)) hw h0).symm.trans HI2.out.1))
          have Hcnt := hide HI2.out.2
          have Hsz : Hid (fs.length ≤ 8388600 ∧ ∀ x, x ∈ fs → x.length ≤ 8388608) := ⟨by have := HY.out.2; have := HZ.out; simp at *; omega, fun x hx => Nat.le_trans (HY.out.1 x (List.mem_cons_of_mem _ hx)) (by have := HZ.out; omega)⟩
          obtain ⟨b, o, c, e1, hcap, hcell⟩ := id hS
          injection e1 with e1 e2 e3
          subst e1 e3
          have q0 : w2.cell? ⟨b, o, none⟩ = some (.string (strOf nm)) := hcell 0 (by simp)
          obtain ⟨fv, hcut, hF⟩ := cut_strs hS 1 (by simp)
          rw [show (nm :: fs).drop 1 = fs from rfl] at hF
          have HF := hide hF
          obtain ⟨b1, o1, c1, rfl, -, -⟩ := hF
          have hcut1 : ∀ W, (Instr.slice 42 (.slice (some ⟨b, o, none⟩) (nm :: fs).length cw) (some (.int .i64 1)) none none).run Tryd.prog W = .ok (.slice (some ⟨b1, o1, none⟩) fs.length c1) W := hcut
          have hpos : 0 < (nm :: fs).length := by simp
          have hpos' : (0 : Int) < (((nm :: fs).length : Nat) : Int) := by simp
          have hrow := rrowX_any (strOf nm) w2
          clear HT HY hw hS HI2 e2 hcap hcell hcut
          generalize hnl : (nm :: fs).length = nl at *
          clear hnl
          go_wp2_with fail
          (with_reducible refine hrow.mono ?_)
          rintro e w3 ⟨hor, k3⟩
          have HP3 := hide (HP2.out.stay k3)
          have HF3 := hide (HF.out.keeps k3)
          clear HP2 HF k3 hrow q0
          rcases hor with ⟨j, hj, hn, rfl⟩ | ⟨hno, rfl⟩
          · go_upto_region 12 with fail
            refine alloc1 (P := fun W => Code.wp _ _ _ _ W) fun W4 hb4 hs4 k4 => ?_
            obtain ⟨r0, r1, r2, r3⟩ := four_cells hb4
            have HP4 := hide (HP3.out.stay k4)
            have HF4 := hide (HF3.out.keeps k4)
            have HB4 := hide hb4
            clear hb4 hs4 k4 HP3 HF3
            generalize w3.heap.size = B at *
            obtain ⟨sc0, cc0, rfl⟩ := ownsRow_slice HP4.out.sc.cs
            obtain ⟨so0, co0, rfl⟩ := ownsRow_slice HP4.out.sc.os
            obtain ⟨m0, m1, m2⟩ := three_cells9 HP4.out.sc.box
            by_cases j0 : j = 0
            · subst j0
              have s1 : ((strOf nm).toList == [108, 105, 109, 105, 116]) = true := by rw [← lit_limit]; exact str_yes (by rw [← hn]; decide)
              have s2 : ((strOf nm).toList == [104, 97, 115, 104]) = false := by rw [← lit_hash]; exact str_no (by rw [← hn]; decide)
              cases bg with
              | true =>
                have hm : mayF st.last (kN 0) = false := by
                  rw [may_0]
                  have := Hbg.out
                  simp at this
                  simpa using this
                have HR2 : Hid (RR = .inr (i + 1, 160)) := by
                  have e := ln_not (fs := fs) hj hn hm
                  have hbad := HB.out (by rw [e]; decide)
                  show RR = _
                  rw [HQ2.out, ← hbad, e]
                  rfl
                clear HB HG Hcnt hm hn hj Hbg
                obtain ⟨x0, x1, x2⟩ := three_cells9 HP4.out.res
                obtain ⟨f0, f1, f2⟩ := fro3 HP4.out.res
                obtain ⟨a6, a7⟩ := hwr.out
                go_wp2_with fail
                refine set3r (P := fun W => bodyPost _ _ _ _ _ W) HP4.out.res fun W9 h9 k9 => ?_
                obtain ⟨y0, y1, y2⟩ := three_cells9 h9
                refine bodyPost_ret (v := .tuple #[.agg #[.int .i64 0, .slice none 0 0, .slice none 0 0], .int .i64 ((i : Int) + 1), .int .i64 160]) (by simp [results, Tryd.results27, go_sem, y0, y1, y2]) rfl ?_
                rw [HR2.out]
                exact ⟨keeps_out HP4.out.keeps (Nat.le_refl _) k9, rfl⟩
              | false =>
                have hm : mayF st.last (kN 0) = true := by
                  rw [may_0]
                  have := Hbg.out
                  simp at this
                  simpa using this
                have hln := ln_may (fs := fs) hj hn hm
                have HM := hide hm
                have hread := fun W (k : Keeps W4 W (fun _ => False)) => rread_any (strOf nm) (rfN 0) (oN 0) (many 0) (.slice (some ⟨b1, o1, none⟩) fs.length c1) fs W (HF4.out.keeps k) Hsz.out.2 Hsz.out.1
                generalize rdG (rfN 0).data.toList (many 0) fs = G at *
                generalize lnR st.last nm fs = Q at *
                obtain ⟨kd, cm, er⟩ := Q
                obtain ⟨G1, G2⟩ := G
                dsimp only at hln
                have HLN := hide hln.2
                obtain rfl : G2 = er := hln.1
                clear hln hm Hsz HF4
                generalize hop : oN 0 = op at *
                generalize rfN 0 = F at *
                generalize many 0 = mm at *
                have Hop := hide hop
                clear hop
                have hBlt : B < W4.heap.size := cell_lt8 r0
                have RS0 : (fun w' : World => w'.cell? ⟨B, 0, none⟩ = some (.string (strOf nm)) ∧ w'.cell? ⟨B, 1, none⟩ = some (.int .i64 op) ∧ w'.cell? ⟨B, 2, none⟩ = some (.string F) ∧ w'.cell? ⟨B, 3, none⟩ = some (.bool mm)) W4 := ⟨r0, r1, r2, r3⟩
                have SD : (fun w' : World => w'.cell? ⟨B, 0, none⟩ = some (.string (strOf nm)) ∧ w'.cell? ⟨B, 1, none⟩ = some (.int .i64 op) ∧ w'.cell? ⟨B, 2, none⟩ = some (.string F) ∧ w'.cell? ⟨B, 3, none⟩ = some (.bool mm)) W4.drew := RS0
                have SA : (fun w' : World => w'.cell? ⟨B, 0, none⟩ = some (.string (strOf nm)) ∧ w'.cell? ⟨B, 1, none⟩ = some (.int .i64 op) ∧ w'.cell? ⟨B, 2, none⟩ = some (.string F) ∧ w'.cell? ⟨B, 3, none⟩ = some (.bool mm)) (W4.alloc (Obj.cells #[.slice none 0 0, .slice none 0 0, .slice none 0 0] 86)).drew := r4_keep RS0 ((Keeps.refl _ _).alloc _).drew
                go_wp2_with fail
                go_region_held3 (fun w' : World => w'.cell? ⟨B, 0, none⟩ = some (.string (strOf nm)) ∧ w'.cell? ⟨B, 1, none⟩ = some (.int .i64 op) ∧ w'.cell? ⟨B, 2, none⟩ = some (.string F) ∧ w'.cell? ⟨B, 3, none⟩ = some (.bool mm)) (with_reducible assumption)
                  (first
                    | (go_at_call 41; (with_reducible refine (hread _ (((Keeps.refl W4 (fun _ => False)).alloc (Obj.cells #[.slice none 0 0, .slice none 0 0, .slice none 0 0] 86)).drew)).mono ?_); rintro e wA ⟨vn, vw, vb, rfl, hfl, kA⟩; obtain ⟨sn, cn, rfl⟩ := ownsRow_slice hfl.n; obtain ⟨sw2, cw2, rfl⟩ := ownsRow_slice hfl.w; obtain ⟨sb2, cb2, rfl⟩ := ownsRow_slice hfl.b; (with_reducible have hbl := kA.blk8 (heap_new_drew8 W4 (Obj.cells #[.slice none 0 0, .slice none 0 0, .slice none 0 0] 86))); obtain ⟨u0, u1, u2⟩ := three_cells9 hbl; obtain ⟨v0, v1, v2⟩ := fro3 hbl; have S1 : (fun w' : World => w'.cell? ⟨B, 0, none⟩ = some (.string (strOf nm)) ∧ w'.cell? ⟨B, 1, none⟩ = some (.int .i64 op) ∧ w'.cell? ⟨B, 2, none⟩ = some (.string F) ∧ w'.cell? ⟨B, 3, none⟩ = some (.bool mm)) wA := r4_keep SA kA; have S2 := r4_set (Z := W4.heap.size) (a0 := .slice sn G1.n.length cn) (a1 := .slice sw2 G1.w.length cw2) (a2 := .slice sb2 G1.b.length cb2) S1 hBlt)
                    | (go_at_call 41; (with_reducible refine (hread _ ((Keeps.refl W4 (fun _ => False)).drew)).mono ?_); rintro e wA ⟨vn, vw, vb, rfl, hfl, kA⟩; obtain ⟨sn, cn, rfl⟩ := ownsRow_slice hfl.n; obtain ⟨sw2, cw2, rfl⟩ := ownsRow_slice hfl.w; obtain ⟨sb2, cb2, rfl⟩ := ownsRow_slice hfl.b; have S1 : (fun w' : World => w'.cell? ⟨B, 0, none⟩ = some (.string (strOf nm)) ∧ w'.cell? ⟨B, 1, none⟩ = some (.int .i64 op) ∧ w'.cell? ⟨B, 2, none⟩ = some (.string F) ∧ w'.cell? ⟨B, 3, none⟩ = some (.bool mm)) wA := r4_keep SD kA; have S1a : (fun w' : World => w'.cell? ⟨B, 0, none⟩ = some (.string (strOf nm)) ∧ w'.cell? ⟨B, 1, none⟩ = some (.int .i64 op) ∧ w'.cell? ⟨B, 2, none⟩ = some (.string F) ∧ w'.cell? ⟨B, 3, none⟩ = some (.bool mm)) (wA.alloc (Obj.cells #[.slice none 0 0, .slice none 0 0, .slice none 0 0] 86)) := r4_keep S1 ((Keeps.refl _ _).alloc _); have S2 : (fun w' : World => w'.cell? ⟨B, 0, none⟩ = some (.string (strOf nm)) ∧ w'.cell? ⟨B, 1, none⟩ = some (.int .i64 op) ∧ w'.cell? ⟨B, 2, none⟩ = some (.string F) ∧ w'.cell? ⟨B, 3, none⟩ = some (.bool mm)) (wA.alloc (.cells #[.slice sn G1.n.length cn, .slice sw2 G1.w.length cw2, .slice sb2 G1.b.length cb2] 86)) := r4_keep S1 ((Keeps.refl _ _).alloc _)))
                · refine alloc1 (P := fun W => Exit.then _ _ _ _ W) fun W5 hb5 hz5 k5 => ?_
                  have K5 : Keeps W4 W5 (fun _ => False) := ((Keeps.refl W4 (fun _ => False)).drew.trans kA (fun _ _ e => e)).trans k5 (fun _ _ e => e)
                  have hfl5 := hfl.keeps k5
                  have hS5 : (fun w' : World => w'.cell? ⟨B, 0, none⟩ = some (.string (strOf nm)) ∧ w'.cell? ⟨B, 1, none⟩ = some (.int .i64 op) ∧ w'.cell? ⟨B, 2, none⟩ = some (.string F) ∧ w'.cell? ⟨B, 3, none⟩ = some (.bool mm)) W5 := r4_keep S1 k5
                  clear S2 S1a S1 SD SA RS0 hread hfl kA k5 hz5 r0 r1 r2 r3 m0 m1 m2 hBlt
                  generalize wA.heap.size = Z at *
                  have HP5 := hide (HP4.out.stay K5)
                  have HFL := hide hfl5
                  obtain ⟨p0, p1, p2⟩ := three_cells9 hb5
                  obtain ⟨r0, r1, r2, r3⟩ := hS5
                  have HZ5 := hide (And.intro hb5 (K5.blk8 HB4.out))
                  clear HP4 hfl5 hb5 K5 HB4
                  by_cases her : G2 = 0
                  · subst her
                    obtain ⟨hkd, hT⟩ := HLN.out rfl
                    obtain ⟨hk, hps⟩ := HG.out rfl
                    replace hk : kd = 1 ∨ kd = 2 ∨ kd = 3 := hk
                    replace hps : psF (st.lay kd cm) (i + 1) (ls.drop (i + 1)) = psF PSt.zero 0 ls := hps
                    have HEL : Hid (true = decide ((st.lay kd cm).last ≠ 0)) := by
                      show true = decide ((st.lay kd cm).last ≠ 0)
                      rw [lay_last]
                      rcases hk with e | e | e <;> rw [e] <;> rfl
                    have HN : Hid (psF (st.lay kd cm) (i + 1) (ls.drop (i + 1)) = psF PSt.zero 0 ls ∧ (st.lay kd cm).os.length + (st.lay kd cm).cs.length ≤ i + 1 ∧ LstOk (st.lay kd cm)) := ⟨hps, Nat.le_trans (lay_count st kd cm) (Nat.succ_le_succ Hcnt.out.1), Hcnt.out.2.lay hk (by rw [hkd]; exact HM.out)⟩
                    clear hk hps HG HB HLN
                    have hT0 : G1.n = [cm.n] := by simpa [RowT] using hT
                    have hn5 := HFL.out.n
                    rw [show G1.n.map cellI = [cellI cm.n] from by rw [hT0]; rfl] at hn5
                    obtain ⟨gn, cn', eS, qn⟩ := own_first hn5
                    injection eS with eS _ _
                    subst eS
                    have qn' : W5.cell? ⟨gn, 0, none⟩ = some (.int .i64 cm.n) := qn
                    rw [show G1.n.length = 1 from by rw [hT0]; rfl] at p0
                    obtain ⟨m0, m1, m2⟩ := three_cells9 HP5.out.sc.box
                    have fz := froB HP5.out.sc.box 0
                    have HP6 : Hid (PaQ w bs ls (.slice (some ⟨g, 0, none⟩) ls.length co) (st.lay kd cm) (.slice so0 st.os.length co0) (.slice sc0 L.length cc0) L (W5.setCell ⟨bs, 0, none⟩ (.int .i64 cm.n))) := by
                      have e : st.lay kd cm = ⟨1, cm.n, st.os, st.cs⟩ := by rw [hkd]; simp [PSt.lay, kN]
                      rw [e]
                      exact HP5.out.lay (HP5.out.sc.box0 cm.n) ((Keeps.refl W5 (fun x => x = bs ∨ (Value.slice so0 st.os.length co0).ownBlock = some x ∨ (Value.slice sc0 L.length cc0).ownBlock = some x)).setCell ⟨bs, 0, none⟩ (fun _ => Or.inl rfl) _)
                    clear hT hT0 hn5 qn hkd Hcnt
                    obtain ⟨a6, a7⟩ := hwr.out
                    go_wp2_with fail
                    go_roundw
                    case rel => exact ⟨i + 1, st.lay kd cm, _, _, _, true, by go_num, hlt, rfl, HP6.out, HEL, HN⟩
                    case measure => simp [intOf]; exact Hms.out
                  · have hbad : Sum.inr (i + 1, G2) = psF PSt.zero 0 ls := HB.out her
                    have HR2 : Hid (RR = .inr (i + 1, G2)) := by
                      show RR = _
                      rw [HQ2.out, ← hbad]
                      rfl
                    have her' : (G2 != 0) = true := by simpa using her
                    obtain ⟨x0, x1, x2⟩ := three_cells9 HP5.out.res
                    obtain ⟨f0, f1, f2⟩ := fro3 HP5.out.res
                    clear hbad HG HB Hcnt her HLN
                    obtain ⟨a6, a7⟩ := hwr.out
                    go_wp2_with fail
                    refine set3r (P := fun W => bodyPost _ _ _ _ _ W) HP5.out.res fun W9 h9 k9 => ?_
                    obtain ⟨y0, y1, y2⟩ := three_cells9 h9
                    refine bodyPost_ret (v := .tuple #[.agg #[.int .i64 0, .slice none 0 0, .slice none 0 0], .int .i64 ((i : Int) + 1), .int .i64 G2]) (by simp [results, Tryd.results27, go_sem, y0, y1, y2]) rfl ?_
                    rw [HR2.out]
                    exact ⟨keeps_out HP5.out.keeps (Nat.le_refl _) k9, rfl⟩
                · refine set3r (P := fun W => Exit.then _ _ _ _ W) hbl fun W5 hb5 k5 => ?_
                  have K5 : Keeps W4 W5 (fun _ => False) := (((Keeps.refl W4 (fun _ => False)).alloc _).drew.trans kA (fun _ _ e => e)).trans k5 (fun i hi e => by omega)
                  have hfl5 : FlV _ G1 (.slice sn G1.n.length cn) (.slice sw2 G1.w.length cw2) (.slice sb2 G1.b.length cb2) W5 := ⟨ownsRow_keeps hfl.n k5 (own_ne2 hfl.n hbl (by decide)), ownsRow_keeps hfl.w k5 (own_ne2 hfl.w hbl (by decide)), ownsRow_keeps hfl.b k5 (own_ne2 hfl.b hbl (by decide))⟩
                  have hS5 : (fun w' : World => w'.cell? ⟨B, 0, none⟩ = some (.string (strOf nm)) ∧ w'.cell? ⟨B, 1, none⟩ = some (.int .i64 op) ∧ w'.cell? ⟨B, 2, none⟩ = some (.string F) ∧ w'.cell? ⟨B, 3, none⟩ = some (.bool mm)) W5 := ⟨keeps_cellB k5 S1.1 (by omega), keeps_cellB k5 S1.2.1 (by omega), keeps_cellB k5 S1.2.2.1 (by omega), keeps_cellB k5 S1.2.2.2 (by omega)⟩
                  clear S2 S1 SD SA RS0 hread hfl kA k5 r0 r1 r2 r3 m0 m1 m2 hBlt hbl u0 u1 u2 v0 v1 v2
                  generalize W4.heap.size = Z at *
                  have HP5 := hide (HP4.out.stay K5)
                  have HFL := hide hfl5
                  obtain ⟨p0, p1, p2⟩ := three_cells9 hb5
                  obtain ⟨r0, r1, r2, r3⟩ := hS5
                  have HZ5 := hide (And.intro hb5 (K5.blk8 HB4.out))
                  clear HP4 hfl5 hb5 K5 HB4
                  by_cases her : G2 = 0
                  · subst her
                    obtain ⟨hkd, hT⟩ := HLN.out rfl
                    obtain ⟨hk, hps⟩ := HG.out rfl
                    replace hk : kd = 1 ∨ kd = 2 ∨ kd = 3 := hk
                    replace hps : psF (st.lay kd cm) (i + 1) (ls.drop (i + 1)) = psF PSt.zero 0 ls := hps
                    have HEL : Hid (true = decide ((st.lay kd cm).last ≠ 0)) := by
                      show true = decide ((st.lay kd cm).last ≠ 0)
                      rw [lay_last]
                      rcases hk with e | e | e <;> rw [e] <;> rfl
                    have HN : Hid (psF (st.lay kd cm) (i + 1) (ls.drop (i + 1)) = psF PSt.zero 0 ls ∧ (st.lay kd cm).os.length + (st.lay kd cm).cs.length ≤ i + 1 ∧ LstOk (st.lay kd cm)) := ⟨hps, Nat.le_trans (lay_count st kd cm) (Nat.succ_le_succ Hcnt.out.1), Hcnt.out.2.lay hk (by rw [hkd]; exact HM.out)⟩
                    clear hk hps HG HB HLN
                    have hT0 : G1.n = [cm.n] := by simpa [RowT] using hT
                    have hn5 := HFL.out.n
                    rw [show G1.n.map cellI = [cellI cm.n] from by rw [hT0]; rfl] at hn5
                    obtain ⟨gn, cn', eS, qn⟩ := own_first hn5
                    injection eS with eS _ _
                    subst eS
                    have qn' : W5.cell? ⟨gn, 0, none⟩ = some (.int .i64 cm.n) := qn
                    rw [show G1.n.length = 1 from by rw [hT0]; rfl] at p0
                    obtain ⟨m0, m1, m2⟩ := three_cells9 HP5.out.sc.box
                    have fz := froB HP5.out.sc.box 0
                    have HP6 : Hid (PaQ w bs ls (.slice (some ⟨g, 0, none⟩) ls.length co) (st.lay kd cm) (.slice so0 st.os.length co0) (.slice sc0 L.length cc0) L (W5.setCell ⟨bs, 0, none⟩ (.int .i64 cm.n))) := by
                      have e : st.lay kd cm = ⟨1, cm.n, st.os, st.cs⟩ := by rw [hkd]; simp [PSt.lay, kN]
                      rw [e]
                      exact HP5.out.lay (HP5.out.sc.box0 cm.n) ((Keeps.refl W5 (fun x => x = bs ∨ (Value.slice so0 st.os.length co0).ownBlock = some x ∨ (Value.slice sc0 L.length cc0).ownBlock = some x)).setCell ⟨bs, 0, none⟩ (fun _ => Or.inl rfl) _)
                    clear hT hT0 hn5 qn hkd Hcnt
                    obtain ⟨a6, a7⟩ := hwr.out
                    go_wp2_with fail
                    go_roundw
                    case rel => exact ⟨i + 1, st.lay kd cm, _, _, _, true, by go_num, hlt, rfl, HP6.out, HEL, HN⟩
                    case measure => simp [intOf]; exact Hms.out
                  · have hbad : Sum.inr (i + 1, G2) = psF PSt.zero 0 ls := HB.out her
                    have HR2 : Hid (RR = .inr (i + 1, G2)) := by
                      show RR = _
                      rw [HQ2.out, ← hbad]
                      rfl
                    have her' : (G2 != 0) = true := by simpa using her
                    obtain ⟨x0, x1, x2⟩ := three_cells9 HP5.out.res
                    obtain ⟨f0, f1, f2⟩ := fro3 HP5.out.res
                    clear hbad HG HB Hcnt her HLN
                    obtain ⟨a6, a7⟩ := hwr.out
                    go_wp2_with fail
                    refine set3r (P := fun W => bodyPost _ _ _ _ _ W) HP5.out.res fun W9 h9 k9 => ?_
                    obtain ⟨y0, y1, y2⟩ := three_cells9 h9
                    refine bodyPost_ret (v := .tuple #[.agg #[.int .i64 0, .slice none 0 0, .slice none 0 0], .int .i64 ((i : Int) + 1), .int .i64 G2]) (by simp [results, Tryd.results27, go_sem, y0, y1, y2]) rfl ?_
                    rw [HR2.out]
                    exact ⟨keeps_out HP5.out.keeps (Nat.le_refl _) k9, rfl⟩
            · by_cases j1 : j = 1
              · subst j1
                have s1 : ((strOf nm).toList == [108, 105, 109, 105, 116]) = false := by rw [← lit_limit]; exact str_no (by rw [← hn]; decide)
                have s2 : ((strOf nm).toList == [104, 97, 115, 104]) = true := by rw [← lit_hash]; exact str_yes (by rw [← hn]; decide)
                clear j0
                have hLl : L.length = st.cs.length := by
                  have := congrArg List.length HP4.out.sc.eq
                  rwa [List.length_map] at this
                by_cases hL : L.length = 0
                · have hL' : ¬ (0 : Int) < (L.length : Int) := by omega
                  cases bg with
                  | false =>
                    have hm : mayF st.last (kN 1) = false := by
                      rw [may_1 Hcnt.out.2, ← Hbg.out]
                      rfl
                    clear hL hLl
                    have HR2 : Hid (RR = .inr (i + 1, 160)) := by
                      have e := ln_not (fs := fs) hj hn hm
                      have hbad := HB.out (by rw [e]; decide)
                      show RR = _
                      rw [HQ2.out, ← hbad, e]
                      rfl
                    clear HB HG Hcnt hm hn hj Hbg
                    obtain ⟨x0, x1, x2⟩ := three_cells9 HP4.out.res
                    obtain ⟨f0, f1, f2⟩ := fro3 HP4.out.res
                    obtain ⟨a6, a7⟩ := hwr.out
                    go_wp2_with fail
                    refine set3r (P := fun W => bodyPost _ _ _ _ _ W) HP4.out.res fun W9 h9 k9 => ?_
                    obtain ⟨y0, y1, y2⟩ := three_cells9 h9
                    refine bodyPost_ret (v := .tuple #[.agg #[.int .i64 0, .slice none 0 0, .slice none 0 0], .int .i64 ((i : Int) + 1), .int .i64 160]) (by simp [results, Tryd.results27, go_sem, y0, y1, y2]) rfl ?_
                    rw [HR2.out]
                    exact ⟨keeps_out HP4.out.keeps (Nat.le_refl _) k9, rfl⟩
                  | true =>
                    have hm : mayF st.last (kN 1) = true := by
                      rw [may_1 Hcnt.out.2, ← Hbg.out, ← hLl, hL]
                      rfl
                    clear hL hLl
                    have hln := ln_may (fs := fs) hj hn hm
                    have HM := hide hm
                    have hread := fun W (k : Keeps W4 W (fun _ => False)) => rread_any (strOf nm) (rfN 1) (oN 1) (many 1) (.slice (some ⟨b1, o1, none⟩) fs.length c1) fs W (HF4.out.keeps k) Hsz.out.2 Hsz.out.1
                    generalize rdG (rfN 1).data.toList (many 1) fs = G at *
                    generalize lnR st.last nm fs = Q at *
                    obtain ⟨kd, cm, er⟩ := Q
                    obtain ⟨G1, G2⟩ := G
                    dsimp only at hln
                    have HLN := hide hln.2
                    obtain rfl : G2 = er := hln.1
                    clear hln hm Hsz HF4
                    generalize hop : oN 1 = op at *
                    generalize rfN 1 = F at *
                    generalize many 1 = mm at *
                    have Hop := hide hop
                    clear hop
                    have hBlt : B < W4.heap.size := cell_lt8 r0
                    have RS0 : (fun w' : World => w'.cell? ⟨B, 0, none⟩ = some (.string (strOf nm)) ∧ w'.cell? ⟨B, 1, none⟩ = some (.int .i64 op) ∧ w'.cell? ⟨B, 2, none⟩ = some (.string F) ∧ w'.cell? ⟨B, 3, none⟩ = some (.bool mm)) W4 := ⟨r0, r1, r2, r3⟩
                    have SD : (fun w' : World => w'.cell? ⟨B, 0, none⟩ = some (.string (strOf nm)) ∧ w'.cell? ⟨B, 1, none⟩ = some (.int .i64 op) ∧ w'.cell? ⟨B, 2, none⟩ = some (.string F) ∧ w'.cell? ⟨B, 3, none⟩ = some (.bool mm)) W4.drew := RS0
                    have SA : (fun w' : World => w'.cell? ⟨B, 0, none⟩ = some (.string (strOf nm)) ∧ w'.cell? ⟨B, 1, none⟩ = some (.int .i64 op) ∧ w'.cell? ⟨B, 2, none⟩ = some (.string F) ∧ w'.cell? ⟨B, 3, none⟩ = some (.bool mm)) (W4.alloc (Obj.cells #[.slice none 0 0, .slice none 0 0, .slice none 0 0] 86)).drew := r4_keep RS0 ((Keeps.refl _ _).alloc _).drew
                    go_wp2_with fail
                    go_region_held3 (fun w' : World => w'.cell? ⟨B, 0, none⟩ = some (.string (strOf nm)) ∧ w'.cell? ⟨B, 1, none⟩ = some (.int .i64 op) ∧ w'.cell? ⟨B, 2, none⟩ = some (.string F) ∧ w'.cell? ⟨B, 3, none⟩ = some (.bool mm)) (with_reducible assumption)
                      (first
                        | (go_at_call 41; (with_reducible refine (hread _ (((Keeps.refl W4 (fun _ => False)).alloc (Obj.cells #[.slice none 0 0, .slice none 0 0, .slice none 0 0] 86)).drew)).mono ?_); rintro e wA ⟨vn, vw, vb, rfl, hfl, kA⟩; obtain ⟨sn, cn, rfl⟩ := ownsRow_slice hfl.n; obtain ⟨sw2, cw2, rfl⟩ := ownsRow_slice hfl.w; obtain ⟨sb2, cb2, rfl⟩ := ownsRow_slice hfl.b; (with_reducible have hbl := kA.blk8 (heap_new_drew8 W4 (Obj.cells #[.slice none 0 0, .slice none 0 0, .slice none 0 0] 86))); obtain ⟨u0, u1, u2⟩ := three_cells9 hbl; obtain ⟨v0, v1, v2⟩ := fro3 hbl; have S1 : (fun w' : World => w'.cell? ⟨B, 0, none⟩ = some (.string (strOf nm)) ∧ w'.cell? ⟨B, 1, none⟩ = some (.int .i64 op) ∧ w'.cell? ⟨B, 2, none⟩ = some (.string F) ∧ w'.cell? ⟨B, 3, none⟩ = some (.bool mm)) wA := r4_keep SA kA; have S2 := r4_set (Z := W4.heap.size) (a0 := .slice sn G1.n.length cn) (a1 := .slice sw2 G1.w.length cw2) (a2 := .slice sb2 G1.b.length cb2) S1 hBlt)
                        | (go_at_call 41; (with_reducible refine (hread _ ((Keeps.refl W4 (fun _ => False)).drew)).mono ?_); rintro e wA ⟨vn, vw, vb, rfl, hfl, kA⟩; obtain ⟨sn, cn, rfl⟩ := ownsRow_slice hfl.n; obtain ⟨sw2, cw2, rfl⟩ := ownsRow_slice hfl.w; obtain ⟨sb2, cb2, rfl⟩ := ownsRow_slice hfl.b; have S1 : (fun w' : World => w'.cell? ⟨B, 0, none⟩ = some (.string (strOf nm)) ∧ w'.cell? ⟨B, 1, none⟩ = some (.int .i64 op) ∧ w'.cell? ⟨B, 2, none⟩ = some (.string F) ∧ w'.cell? ⟨B, 3, none⟩ = some (.bool mm)) wA := r4_keep SD kA; have S1a : (fun w' : World => w'.cell? ⟨B, 0, none⟩ = some (.string (strOf nm)) ∧ w'.cell? ⟨B, 1, none⟩ = some (.int .i64 op) ∧ w'.cell? ⟨B, 2, none⟩ = some (.string F) ∧ w'.cell? ⟨B, 3, none⟩ = some (.bool mm)) (wA.alloc (Obj.cells #[.slice none 0 0, .slice none 0 0, .slice none 0 0] 86)) := r4_keep S1 ((Keeps.refl _ _).alloc _); have S2 : (fun w' : World => w'.cell? ⟨B, 0, none⟩ = some (.string (strOf nm)) ∧ w'.cell? ⟨B, 1, none⟩ = some (.int .i64 op) ∧ w'.cell? ⟨B, 2, none⟩ = some (.string F) ∧ w'.cell? ⟨B, 3, none⟩ = some (.bool mm)) (wA.alloc (.cells #[.slice sn G1.n.length cn, .slice sw2 G1.w.length cw2, .slice sb2 G1.b.length cb2] 86)) := r4_keep S1 ((Keeps.refl _ _).alloc _)))
                    · refine alloc1 (P := fun W => Exit.then _ _ _ _ W) fun W5 hb5 hz5 k5 => ?_
                      have K5 : Keeps W4 W5 (fun _ => False) := ((Keeps.refl W4 (fun _ => False)).drew.trans kA (fun _ _ e => e)).trans k5 (fun _ _ e => e)
                      have hfl5 := hfl.keeps k5
                      have hS5 : (fun w' : World => w'.cell? ⟨B, 0, none⟩ = some (.string (strOf nm)) ∧ w'.cell? ⟨B, 1, none⟩ = some (.int .i64 op) ∧ w'.cell? ⟨B, 2, none⟩ = some (.string F) ∧ w'.cell? ⟨B, 3, none⟩ = some (.bool mm)) W5 := r4_keep S1 k5
                      clear S2 S1a S1 SD SA RS0 hread hfl kA k5 hz5 r0 r1 r2 r3 m0 m1 m2 hBlt
                      generalize wA.heap.size = Z at *
                      have HP5 := hide (HP4.out.stay K5)
                      have HFL := hide hfl5
                      obtain ⟨p0, p1, p2⟩ := three_cells9 hb5
                      obtain ⟨r0, r1, r2, r3⟩ := hS5
                      have HZ5 := hide (And.intro hb5 (K5.blk8 HB4.out))
                      clear HP4 hfl5 hb5 K5 HB4
                      by_cases her : G2 = 0
                      · subst her
                        obtain ⟨hkd, hT⟩ := HLN.out rfl
                        obtain ⟨hk, hps⟩ := HG.out rfl
                        replace hk : kd = 1 ∨ kd = 2 ∨ kd = 3 := hk
                        replace hps : psF (st.lay kd cm) (i + 1) (ls.drop (i + 1)) = psF PSt.zero 0 ls := hps
                        have HEL : Hid (true = decide ((st.lay kd cm).last ≠ 0)) := by
                          show true = decide ((st.lay kd cm).last ≠ 0)
                          rw [lay_last]
                          rcases hk with e | e | e <;> rw [e] <;> rfl
                        have HN : Hid (psF (st.lay kd cm) (i + 1) (ls.drop (i + 1)) = psF PSt.zero 0 ls ∧ (st.lay kd cm).os.length + (st.lay kd cm).cs.length ≤ i + 1 ∧ LstOk (st.lay kd cm)) := ⟨hps, Nat.le_trans (lay_count st kd cm) (Nat.succ_le_succ Hcnt.out.1), Hcnt.out.2.lay hk (by rw [hkd]; exact HM.out)⟩
                        clear hk hps HG HB HLN
                        have hT0 : G1.b = [cm.key] ∧ G1.w = [cm.u] := by simpa [RowT] using hT
                        have hb5 := HFL.out.b
                        rw [show G1.b.map Value.string = [Value.string cm.key] from by rw [hT0.1]; rfl] at hb5
                        have hw5 := HFL.out.w
                        rw [show G1.w.map cellW = [cellW cm.u] from by rw [hT0.2]; rfl] at hw5
                        obtain ⟨gb, cb', eS, qb⟩ := own_first hb5
                        injection eS with eS _ _
                        subst eS
                        obtain ⟨gw, cw', eS, qw⟩ := own_first hw5
                        injection eS with eS _ _
                        subst eS
                        have qw' : W5.cell? ⟨gw, 0, none⟩ = some (.int .u64 (cm.u : Int)) := qw
                        rw [show G1.b.length = 1 from by rw [hT0.1]; rfl] at p2
                        rw [show G1.w.length = 1 from by rw [hT0.2]; rfl] at p1
                        obtain rfl : op = 0 := by rw [← Hop.out]; rfl
                        obtain ⟨m0, m1, m2⟩ := three_cells9 HP5.out.sc.box
                        obtain ⟨g2, c2, W6, hap, y1, fz, hS6, kS⟩ := HP5.out.sc.more HP5.out.keeps.size (by have := Hcnt.out.1; have := Hile.out; omega) (cm.key, cm.u)
                        have kA5 : Keeps W5 (W5.alloc (.cells #[.string cm.key, .int .u64 (cm.u : Int)] 49)) (fun _ => False) := (Keeps.refl _ _).alloc _
                        have A1 := keeps_cell kA5 m1
                        have A2 := keeps_cell kA5 p1
                        have A3 := keeps_cell kA5 p2
                        have A4 := keeps_cell kA5 qb
                        have A5 := keeps_cell kA5 qw'
                        have HP6 : Hid (PaQ w bs ls (.slice (some ⟨g, 0, none⟩) ls.length co) (st.lay kd cm) (.slice (some ⟨g2, 0, none⟩) (st.os.length + 1) c2) (.slice sc0 L.length cc0) L (W6.setCell ⟨bs, 1, none⟩ (.slice (some ⟨g2, 0, none⟩) (st.os.length + 1) c2))) := by
                          have e : st.lay kd cm = ⟨2, st.lim, st.os ++ [(cm.key, cm.u)], st.cs⟩ := by rw [hkd]; simp [PSt.lay, kN]
                          rw [e]
                          exact HP5.out.lay hS6 (kS.mono (fun _ _ e => e.elim Or.inl (fun q => Or.inr (Or.inl q))))
                        have hZ1 : ¬ (Z = bs ∨ (Value.slice so0 st.os.length co0).ownBlock = some Z) := fun e => e.elim (fun e => own_z HZ5.out.1 HP5.out.sc.box (by decide) e) (fun e => own_box HP5.out.sc.os HZ5.out.1 (by decide) e)
                        have hZ2 : ¬ (gb = bs ∨ (Value.slice so0 st.os.length co0).ownBlock = some gb) := fun e => e.elim (fun e => own_ne2 HFL.out.b HP5.out.sc.box (by decide) gb rfl e) (fun e => own_two HP5.out.sc.os HFL.out.b (by decide) gb rfl e)
                        have hZ3 : ¬ (gw = bs ∨ (Value.slice so0 st.os.length co0).ownBlock = some gw) := fun e => e.elim (fun e => own_ne2 HFL.out.w HP5.out.sc.box (by decide) gw rfl e) (fun e => own_two HP5.out.sc.os HFL.out.w (by decide) gw rfl e)
                        have T1 := cells_two kS hZ1 (fun e => hZ1 (Or.inl e)) p1
                        have T2 := cells_two kS hZ1 (fun e => hZ1 (Or.inl e)) p2
                        have T3 := cells_two kS hZ2 (fun e => hZ2 (Or.inl e)) qb
                        have T4 := cells_two kS hZ3 (fun e => hZ3 (Or.inl e)) qw'
                        have S0 : (fun w' : World => w'.cell? ⟨Z, 1, none⟩ = some (.slice (some ⟨gw, 0, none⟩) 1 cw2) ∧ w'.cell? ⟨Z, 2, none⟩ = some (.slice (some ⟨gb, 0, none⟩) 1 cb2) ∧ w'.cell? ⟨gb, 0, none⟩ = some (.string cm.key) ∧ w'.cell? ⟨gw, 0, none⟩ = some (.int .u64 (cm.u : Int))) W5.drew := ⟨p1, p2, qb, qw'⟩
                        have SB : (fun w' : World => w'.cell? ⟨Z, 1, none⟩ = some (.slice (some ⟨gw, 0, none⟩) 1 cw2) ∧ w'.cell? ⟨Z, 2, none⟩ = some (.slice (some ⟨gb, 0, none⟩) 1 cb2) ∧ w'.cell? ⟨gb, 0, none⟩ = some (.string cm.key) ∧ w'.cell? ⟨gw, 0, none⟩ = some (.int .u64 (cm.u : Int))) (W5.alloc (.cells #[.string cm.key, .int .u64 (cm.u : Int)] 49)).drew := ⟨A2, A3, A4, A5⟩
                        have SC : (fun w' : World => w'.cell? ⟨Z, 1, none⟩ = some (.slice (some ⟨gw, 0, none⟩) 1 cw2) ∧ w'.cell? ⟨Z, 2, none⟩ = some (.slice (some ⟨gb, 0, none⟩) 1 cb2) ∧ w'.cell? ⟨gb, 0, none⟩ = some (.string cm.key) ∧ w'.cell? ⟨gw, 0, none⟩ = some (.int .u64 (cm.u : Int))) W6 := ⟨T1.1, T2.1, T3.1, T4.1⟩
                        have SE : (fun w' : World => w'.cell? ⟨Z, 1, none⟩ = some (.slice (some ⟨gw, 0, none⟩) 1 cw2) ∧ w'.cell? ⟨Z, 2, none⟩ = some (.slice (some ⟨gb, 0, none⟩) 1 cb2) ∧ w'.cell? ⟨gb, 0, none⟩ = some (.string cm.key) ∧ w'.cell? ⟨gw, 0, none⟩ = some (.int .u64 (cm.u : Int))) (W6.setCell ⟨bs, 1, none⟩ (.slice (some ⟨g2, 0, none⟩) (st.os.length + 1) c2)) := ⟨T1.2, T2.2, T3.2, T4.2⟩
                        clear hT hT0 hb5 hw5 qw hkd Hcnt kA5 hS6 kS hZ1 hZ2 hZ3 T1 T2 T3 T4
                        obtain ⟨a6, a7⟩ := hwr.out
                        go_wp2_with fail
                        apply once8
                        · intro hrest
                          go_region_law (refine step_append_run (by rfl) _ _ 22 (by rfl) (by rfl) (by rfl) hap ?_)
                          all_goals exact hrest.out
                        all_goals (try go_wp2_with fail)
                        all_goals go_roundw
                        all_goals first
                          | exact ⟨i + 1, st.lay kd cm, _, _, _, true, by go_num, hlt, rfl, HP6.out, HEL, HN⟩
                          | (simp [intOf]; exact Hms.out)
                      · have hbad : Sum.inr (i + 1, G2) = psF PSt.zero 0 ls := HB.out her
                        have HR2 : Hid (RR = .inr (i + 1, G2)) := by
                          show RR = _
                          rw [HQ2.out, ← hbad]
                          rfl
                        have her' : (G2 != 0) = true := by simpa using her
                        obtain ⟨x0, x1, x2⟩ := three_cells9 HP5.out.res
                        obtain ⟨f0, f1, f2⟩ := fro3 HP5.out.res
                        clear hbad HG HB Hcnt her HLN
                        obtain ⟨a6, a7⟩ := hwr.out
                        go_wp2_with fail
                        refine set3r (P := fun W => bodyPost _ _ _ _ _ W) HP5.out.res fun W9 h9 k9 => ?_
                        obtain ⟨y0, y1, y2⟩ := three_cells9 h9
                        refine bodyPost_ret (v := .tuple #[.agg #[.int .i64 0, .slice none 0 0, .slice none 0 0], .int .i64 ((i : Int) + 1), .int .i64 G2]) (by simp [results, Tryd.results27, go_sem, y0, y1, y2]) rfl ?_
                        rw [HR2.out]
                        exact ⟨keeps_out HP5.out.keeps (Nat.le_refl _) k9, rfl⟩
                    · refine set3r (P := fun W => Exit.then _ _ _ _ W) hbl fun W5 hb5 k5 => ?_
                      have K5 : Keeps W4 W5 (fun _ => False) := (((Keeps.refl W4 (fun _ => False)).alloc _).drew.trans kA (fun _ _ e => e)).trans k5 (fun i hi e => by omega)
                      have hfl5 : FlV _ G1 (.slice sn G1.n.length cn) (.slice sw2 G1.w.length cw2) (.slice sb2 G1.b.length cb2) W5 := ⟨ownsRow_keeps hfl.n k5 (own_ne2 hfl.n hbl (by decide)), ownsRow_keeps hfl.w k5 (own_ne2 hfl.w hbl (by decide)), ownsRow_keeps hfl.b k5 (own_ne2 hfl.b hbl (by decide))⟩
                      have hS5 : (fun w' : World => w'.cell? ⟨B, 0, none⟩ = some (.string (strOf nm)) ∧ w'.cell? ⟨B, 1, none⟩ = some (.int .i64 op) ∧ w'.cell? ⟨B, 2, none⟩ = some (.string F) ∧ w'.cell? ⟨B, 3, none⟩ = some (.bool mm)) W5 := ⟨keeps_cellB k5 S1.1 (by omega), keeps_cellB k5 S1.2.1 (by omega), keeps_cellB k5 S1.2.2.1 (by omega), keeps_cellB k5 S1.2.2.2 (by omega)⟩
                      clear S2 S1 SD SA RS0 hread hfl kA k5 r0 r1 r2 r3 m0 m1 m2 hBlt hbl u0 u1 u2 v0 v1 v2
                      generalize W4.heap.size = Z at *
                      have HP5 := hide (HP4.out.stay K5)
                      have HFL := hide hfl5
                      obtain ⟨p0, p1, p2⟩ := three_cells9 hb5
                      obtain ⟨r0, r1, r2, r3⟩ := hS5
                      have HZ5 := hide (And.intro hb5 (K5.blk8 HB4.out))
                      clear HP4 hfl5 hb5 K5 HB4
                      by_cases her : G2 = 0
                      · subst her
                        obtain ⟨hkd, hT⟩ := HLN.out rfl
                        obtain ⟨hk, hps⟩ := HG.out rfl
                        replace hk : kd = 1 ∨ kd = 2 ∨ kd = 3 := hk
                        replace hps : psF (st.lay kd cm) (i + 1) (ls.drop (i + 1)) = psF PSt.zero 0 ls := hps
                        have HEL : Hid (true = decide ((st.lay kd cm).last ≠ 0)) := by
                          show true = decide ((st.lay kd cm).last ≠ 0)
                          rw [lay_last]
                          rcases hk with e | e | e <;> rw [e] <;> rfl
                        have HN : Hid (psF (st.lay kd cm) (i + 1) (ls.drop (i + 1)) = psF PSt.zero 0 ls ∧ (st.lay kd cm).os.length + (st.lay kd cm).cs.length ≤ i + 1 ∧ LstOk (st.lay kd cm)) := ⟨hps, Nat.le_trans (lay_count st kd cm) (Nat.succ_le_succ Hcnt.out.1), Hcnt.out.2.lay hk (by rw [hkd]; exact HM.out)⟩
                        clear hk hps HG HB HLN
                        have hT0 : G1.b = [cm.key] ∧ G1.w = [cm.u] := by simpa [RowT] using hT
                        have hb5 := HFL.out.b
                        rw [show G1.b.map Value.string = [Value.string cm.key] from by rw [hT0.1]; rfl] at hb5
                        have hw5 := HFL.out.w
                        rw [show G1.w.map cellW = [cellW cm.u] from by rw [hT0.2]; rfl] at hw5
                        obtain ⟨gb, cb', eS, qb⟩ := own_first hb5
                        injection eS with eS _ _
                        subst eS
                        obtain ⟨gw, cw', eS, qw⟩ := own_first hw5
                        injection eS with eS _ _
                        subst eS
                        have qw' : W5.cell? ⟨gw, 0, none⟩ = some (.int .u64 (cm.u : Int)) := qw
                        rw [show G1.b.length = 1 from by rw [hT0.1]; rfl] at p2
                        rw [show G1.w.length = 1 from by rw [hT0.2]; rfl] at p1
                        obtain rfl : op = 0 := by rw [← Hop.out]; rfl
                        obtain ⟨m0, m1, m2⟩ := three_cells9 HP5.out.sc.box
                        obtain ⟨g2, c2, W6, hap, y1, fz, hS6, kS⟩ := HP5.out.sc.more HP5.out.keeps.size (by have := Hcnt.out.1; have := Hile.out; omega) (cm.key, cm.u)
                        have kA5 : Keeps W5 (W5.alloc (.cells #[.string cm.key, .int .u64 (cm.u : Int)] 49)) (fun _ => False) := (Keeps.refl _ _).alloc _
                        have A1 := keeps_cell kA5 m1
                        have A2 := keeps_cell kA5 p1
                        have A3 := keeps_cell kA5 p2
                        have A4 := keeps_cell kA5 qb
                        have A5 := keeps_cell kA5 qw'
                        have HP6 : Hid (PaQ w bs ls (.slice (some ⟨g, 0, none⟩) ls.length co) (st.lay kd cm) (.slice (some ⟨g2, 0, none⟩) (st.os.length + 1) c2) (.slice sc0 L.length cc0) L (W6.setCell ⟨bs, 1, none⟩ (.slice (some ⟨g2, 0, none⟩) (st.os.length + 1) c2))) := by
                          have e : st.lay kd cm = ⟨2, st.lim, st.os ++ [(cm.key, cm.u)], st.cs⟩ := by rw [hkd]; simp [PSt.lay, kN]
                          rw [e]
                          exact HP5.out.lay hS6 (kS.mono (fun _ _ e => e.elim Or.inl (fun q => Or.inr (Or.inl q))))
                        have hZ1 : ¬ (Z = bs ∨ (Value.slice so0 st.os.length co0).ownBlock = some Z) := fun e => e.elim (fun e => own_z HZ5.out.1 HP5.out.sc.box (by decide) e) (fun e => own_box HP5.out.sc.os HZ5.out.1 (by decide) e)
                        have hZ2 : ¬ (gb = bs ∨ (Value.slice so0 st.os.length co0).ownBlock = some gb) := fun e => e.elim (fun e => own_ne2 HFL.out.b HP5.out.sc.box (by decide) gb rfl e) (fun e => own_two HP5.out.sc.os HFL.out.b (by decide) gb rfl e)
                        have hZ3 : ¬ (gw = bs ∨ (Value.slice so0 st.os.length co0).ownBlock = some gw) := fun e => e.elim (fun e => own_ne2 HFL.out.w HP5.out.sc.box (by decide) gw rfl e) (fun e => own_two HP5.out.sc.os HFL.out.w (by decide) gw rfl e)
                        have T1 := cells_two kS hZ1 (fun e => hZ1 (Or.inl e)) p1
                        have T2 := cells_two kS hZ1 (fun e => hZ1 (Or.inl e)) p2
                        have T3 := cells_two kS hZ2 (fun e => hZ2 (Or.inl e)) qb
                        have T4 := cells_two kS hZ3 (fun e => hZ3 (Or.inl e)) qw'
                        have S0 : (fun w' : World => w'.cell? ⟨Z, 1, none⟩ = some (.slice (some ⟨gw, 0, none⟩) 1 cw2) ∧ w'.cell? ⟨Z, 2, none⟩ = some (.slice (some ⟨gb, 0, none⟩) 1 cb2) ∧ w'.cell? ⟨gb, 0, none⟩ = some (.string cm.key) ∧ w'.cell? ⟨gw, 0, none⟩ = some (.int .u64 (cm.u : Int))) W5.drew := ⟨p1, p2, qb, qw'⟩
                        have SB : (fun w' : World => w'.cell? ⟨Z, 1, none⟩ = some (.slice (some ⟨gw, 0, none⟩) 1 cw2) ∧ w'.cell? ⟨Z, 2, none⟩ = some (.slice (some ⟨gb, 0, none⟩) 1 cb2) ∧ w'.cell? ⟨gb, 0, none⟩ = some (.string cm.key) ∧ w'.cell? ⟨gw, 0, none⟩ = some (.int .u64 (cm.u : Int))) (W5.alloc (.cells #[.string cm.key, .int .u64 (cm.u : Int)] 49)).drew := ⟨A2, A3, A4, A5⟩
                        have SC : (fun w' : World => w'.cell? ⟨Z, 1, none⟩ = some (.slice (some ⟨gw, 0, none⟩) 1 cw2) ∧ w'.cell? ⟨Z, 2, none⟩ = some (.slice (some ⟨gb, 0, none⟩) 1 cb2) ∧ w'.cell? ⟨gb, 0, none⟩ = some (.string cm.key) ∧ w'.cell? ⟨gw, 0, none⟩ = some (.int .u64 (cm.u : Int))) W6 := ⟨T1.1, T2.1, T3.1, T4.1⟩
                        have SE : (fun w' : World => w'.cell? ⟨Z, 1, none⟩ = some (.slice (some ⟨gw, 0, none⟩) 1 cw2) ∧ w'.cell? ⟨Z, 2, none⟩ = some (.slice (some ⟨gb, 0, none⟩) 1 cb2) ∧ w'.cell? ⟨gb, 0, none⟩ = some (.string cm.key) ∧ w'.cell? ⟨gw, 0, none⟩ = some (.int .u64 (cm.u : Int))) (W6.setCell ⟨bs, 1, none⟩ (.slice (some ⟨g2, 0, none⟩) (st.os.length + 1) c2)) := ⟨T1.2, T2.2, T3.2, T4.2⟩
                        clear hT hT0 hb5 hw5 qw hkd Hcnt kA5 hS6 kS hZ1 hZ2 hZ3 T1 T2 T3 T4
                        obtain ⟨a6, a7⟩ := hwr.out
                        go_wp2_with fail
                        apply once8
                        · intro hrest
                          go_region_law (refine step_append_run (by rfl) _ _ 22 (by rfl) (by rfl) (by rfl) hap ?_)
                          all_goals exact hrest.out
                        all_goals (try go_wp2_with fail)
                        all_goals go_roundw
                        all_goals first
                          | exact ⟨i + 1, st.lay kd cm, _, _, _, true, by go_num, hlt, rfl, HP6.out, HEL, HN⟩
                          | (simp [intOf]; exact Hms.out)
                      · have hbad : Sum.inr (i + 1, G2) = psF PSt.zero 0 ls := HB.out her
                        have HR2 : Hid (RR = .inr (i + 1, G2)) := by
                          show RR = _
                          rw [HQ2.out, ← hbad]
                          rfl
                        have her' : (G2 != 0) = true := by simpa using her
                        obtain ⟨x0, x1, x2⟩ := three_cells9 HP5.out.res
                        obtain ⟨f0, f1, f2⟩ := fro3 HP5.out.res
                        clear hbad HG HB Hcnt her HLN
                        obtain ⟨a6, a7⟩ := hwr.out
                        go_wp2_with fail
                        refine set3r (P := fun W => bodyPost _ _ _ _ _ W) HP5.out.res fun W9 h9 k9 => ?_
                        obtain ⟨y0, y1, y2⟩ := three_cells9 h9
                        refine bodyPost_ret (v := .tuple #[.agg #[.int .i64 0, .slice none 0 0, .slice none 0 0], .int .i64 ((i : Int) + 1), .int .i64 G2]) (by simp [results, Tryd.results27, go_sem, y0, y1, y2]) rfl ?_
                        rw [HR2.out]
                        exact ⟨keeps_out HP5.out.keeps (Nat.le_refl _) k9, rfl⟩
                · have hL' : (0 : Int) < (L.length : Int) := by omega
                  have hm : mayF st.last (kN 1) = false := by
                    rw [may_1 Hcnt.out.2, ← hLl]
                    simp [hL]
                  clear hL hLl
                  cases bg with
                  | false =>
                    have HR2 : Hid (RR = .inr (i + 1, 160)) := by
                      have e := ln_not (fs := fs) hj hn hm
                      have hbad := HB.out (by rw [e]; decide)
                      show RR = _
                      rw [HQ2.out, ← hbad, e]
                      rfl
                    clear HB HG Hcnt hm hn hj Hbg
                    obtain ⟨x0, x1, x2⟩ := three_cells9 HP4.out.res
                    obtain ⟨f0, f1, f2⟩ := fro3 HP4.out.res
                    obtain ⟨a6, a7⟩ := hwr.out
                    go_wp2_with fail
                    refine set3r (P := fun W => bodyPost _ _ _ _ _ W) HP4.out.res fun W9 h9 k9 => ?_
                    obtain ⟨y0, y1, y2⟩ := three_cells9 h9
                    refine bodyPost_ret (v := .tuple #[.agg #[.int .i64 0, .slice none 0 0, .slice none 0 0], .int .i64 ((i : Int) + 1), .int .i64 160]) (by simp [results, Tryd.results27, go_sem, y0, y1, y2]) rfl ?_
                    rw [HR2.out]
                    exact ⟨keeps_out HP4.out.keeps (Nat.le_refl _) k9, rfl⟩
                  | true =>
                    have HR2 : Hid (RR = .inr (i + 1, 160)) := by
                      have e := ln_not (fs := fs) hj hn hm
                      have hbad := HB.out (by rw [e]; decide)
                      show RR = _
                      rw [HQ2.out, ← hbad, e]
                      rfl
                    clear HB HG Hcnt hm hn hj Hbg
                    obtain ⟨x0, x1, x2⟩ := three_cells9 HP4.out.res
                    obtain ⟨f0, f1, f2⟩ := fro3 HP4.out.res
                    obtain ⟨a6, a7⟩ := hwr.out
                    go_wp2_with fail
                    refine set3r (P := fun W => bodyPost _ _ _ _ _ W) HP4.out.res fun W9 h9 k9 => ?_
                    obtain ⟨y0, y1, y2⟩ := three_cells9 h9
                    refine bodyPost_ret (v := .tuple #[.agg #[.int .i64 0, .slice none 0 0, .slice none 0 0], .int .i64 ((i : Int) + 1), .int .i64 160]) (by simp [results, Tryd.results27, go_sem, y0, y1, y2]) rfl ?_
                    rw [HR2.out]
                    exact ⟨keeps_out HP4.out.keeps (Nat.le_refl _) k9, rfl⟩
              · have j2 : 2 ≤ j := by omega
                have s1 : ((strOf nm).toList == [108, 105, 109, 105, 116]) = false := by rw [← lit_limit]; exact str_no (fun e => j0 (nm_lim2 ⟨j, hj⟩ (hn.trans e)))
                have s2 : ((strOf nm).toList == [104, 97, 115, 104]) = false := by rw [← lit_hash]; exact str_no (fun e => j1 (nm_hash2 ⟨j, hj⟩ (hn.trans e)))
                clear j0 j1
                cases bg with
                | false =>
                  have hm : mayF st.last (kN j) = false := by
                    rw [may_2 Hcnt.out.2 j2, ← Hbg.out]
                  clear j2
                  have HR2 : Hid (RR = .inr (i + 1, 160)) := by
                    have e := ln_not (fs := fs) hj hn hm
                    have hbad := HB.out (by rw [e]; decide)
                    show RR = _
                    rw [HQ2.out, ← hbad, e]
                    rfl
                  clear HB HG Hcnt hm hn hj Hbg
                  obtain ⟨x0, x1, x2⟩ := three_cells9 HP4.out.res
                  obtain ⟨f0, f1, f2⟩ := fro3 HP4.out.res
                  obtain ⟨a6, a7⟩ := hwr.out
                  go_wp2_with fail
                  refine set3r (P := fun W => bodyPost _ _ _ _ _ W) HP4.out.res fun W9 h9 k9 => ?_
                  obtain ⟨y0, y1, y2⟩ := three_cells9 h9
                  refine bodyPost_ret (v := .tuple #[.agg #[.int .i64 0, .slice none 0 0, .slice none 0 0], .int .i64 ((i : Int) + 1), .int .i64 160]) (by simp [results, Tryd.results27, go_sem, y0, y1, y2]) rfl ?_
                  rw [HR2.out]
                  exact ⟨keeps_out HP4.out.keeps (Nat.le_refl _) k9, rfl⟩
                | true =>
                  have hm : mayF st.last (kN j) = true := by
                    rw [may_2 Hcnt.out.2 j2, ← Hbg.out]
                  have hln := ln_may (fs := fs) hj hn hm
                  have HM := hide hm
                  have hread := fun W (k : Keeps W4 W (fun _ => False)) => rread_any (strOf nm) (rfN j) (oN j) (many j) (.slice (some ⟨b1, o1, none⟩) fs.length c1) fs W (HF4.out.keeps k) Hsz.out.2 Hsz.out.1
                  generalize rdG (rfN j).data.toList (many j) fs = G at *
                  generalize lnR st.last nm fs = Q at *
                  obtain ⟨kd, cm, er⟩ := Q
                  obtain ⟨G1, G2⟩ := G
                  dsimp only at hln
                  have HLN := hide hln.2
                  obtain rfl : G2 = er := hln.1
                  clear hln hm Hsz HF4
                  generalize hop : oN j = op at *
                  generalize rfN j = F at *
                  generalize many j = mm at *
                  have Hop := hide hop
                  clear hop
                  have hBlt : B < W4.heap.size := cell_lt8 r0
                  have RS0 : (fun w' : World => w'.cell? ⟨B, 0, none⟩ = some (.string (strOf nm)) ∧ w'.cell? ⟨B, 1, none⟩ = some (.int .i64 op) ∧ w'.cell? ⟨B, 2, none⟩ = some (.string F) ∧ w'.cell? ⟨B, 3, none⟩ = some (.bool mm)) W4 := ⟨r0, r1, r2, r3⟩
                  have SD : (fun w' : World => w'.cell? ⟨B, 0, none⟩ = some (.string (strOf nm)) ∧ w'.cell? ⟨B, 1, none⟩ = some (.int .i64 op) ∧ w'.cell? ⟨B, 2, none⟩ = some (.string F) ∧ w'.cell? ⟨B, 3, none⟩ = some (.bool mm)) W4.drew := RS0
                  have SA : (fun w' : World => w'.cell? ⟨B, 0, none⟩ = some (.string (strOf nm)) ∧ w'.cell? ⟨B, 1, none⟩ = some (.int .i64 op) ∧ w'.cell? ⟨B, 2, none⟩ = some (.string F) ∧ w'.cell? ⟨B, 3, none⟩ = some (.bool mm)) (W4.alloc (Obj.cells #[.slice none 0 0, .slice none 0 0, .slice none 0 0] 86)).drew := r4_keep RS0 ((Keeps.refl _ _).alloc _).drew
                  go_wp2_with fail
                  go_region_held3 (fun w' : World => w'.cell? ⟨B, 0, none⟩ = some (.string (strOf nm)) ∧ w'.cell? ⟨B, 1, none⟩ = some (.int .i64 op) ∧ w'.cell? ⟨B, 2, none⟩ = some (.string F) ∧ w'.cell? ⟨B, 3, none⟩ = some (.bool mm)) (with_reducible assumption)
                    (first
                      | (go_at_call 41; (with_reducible refine (hread _ (((Keeps.refl W4 (fun _ => False)).alloc (Obj.cells #[.slice none 0 0, .slice none 0 0, .slice none 0 0] 86)).drew)).mono ?_); rintro e wA ⟨vn, vw, vb, rfl, hfl, kA⟩; obtain ⟨sn, cn, rfl⟩ := ownsRow_slice hfl.n; obtain ⟨sw2, cw2, rfl⟩ := ownsRow_slice hfl.w; obtain ⟨sb2, cb2, rfl⟩ := ownsRow_slice hfl.b; (with_reducible have hbl := kA.blk8 (heap_new_drew8 W4 (Obj.cells #[.slice none 0 0, .slice none 0 0, .slice none 0 0] 86))); obtain ⟨u0, u1, u2⟩ := three_cells9 hbl; obtain ⟨v0, v1, v2⟩ := fro3 hbl; have S1 : (fun w' : World => w'.cell? ⟨B, 0, none⟩ = some (.string (strOf nm)) ∧ w'.cell? ⟨B, 1, none⟩ = some (.int .i64 op) ∧ w'.cell? ⟨B, 2, none⟩ = some (.string F) ∧ w'.cell? ⟨B, 3, none⟩ = some (.bool mm)) wA := r4_keep SA kA; have S2 := r4_set (Z := W4.heap.size) (a0 := .slice sn G1.n.length cn) (a1 := .slice sw2 G1.w.length cw2) (a2 := .slice sb2 G1.b.length cb2) S1 hBlt)
                      | (go_at_call 41; (with_reducible refine (hread _ ((Keeps.refl W4 (fun _ => False)).drew)).mono ?_); rintro e wA ⟨vn, vw, vb, rfl, hfl, kA⟩; obtain ⟨sn, cn, rfl⟩ := ownsRow_slice hfl.n; obtain ⟨sw2, cw2, rfl⟩ := ownsRow_slice hfl.w; obtain ⟨sb2, cb2, rfl⟩ := ownsRow_slice hfl.b; have S1 : (fun w' : World => w'.cell? ⟨B, 0, none⟩ = some (.string (strOf nm)) ∧ w'.cell? ⟨B, 1, none⟩ = some (.int .i64 op) ∧ w'.cell? ⟨B, 2, none⟩ = some (.string F) ∧ w'.cell? ⟨B, 3, none⟩ = some (.bool mm)) wA := r4_keep SD kA; have S1a : (fun w' : World => w'.cell? ⟨B, 0, none⟩ = some (.string (strOf nm)) ∧ w'.cell? ⟨B, 1, none⟩ = some (.int .i64 op) ∧ w'.cell? ⟨B, 2, none⟩ = some (.string F) ∧ w'.cell? ⟨B, 3, none⟩ = some (.bool mm)) (wA.alloc (Obj.cells #[.slice none 0 0, .slice none 0 0, .slice none 0 0] 86)) := r4_keep S1 ((Keeps.refl _ _).alloc _); have S2 : (fun w' : World => w'.cell? ⟨B, 0, none⟩ = some (.string (strOf nm)) ∧ w'.cell? ⟨B, 1, none⟩ = some (.int .i64 op) ∧ w'.cell? ⟨B, 2, none⟩ = some (.string F) ∧ w'.cell? ⟨B, 3, none⟩ = some (.bool mm)) (wA.alloc (.cells #[.slice sn G1.n.length cn, .slice sw2 G1.w.length cw2, .slice sb2 G1.b.length cb2] 86)) := r4_keep S1 ((Keeps.refl _ _).alloc _)))
                  · refine alloc1 (P := fun W => Exit.then _ _ _ _ W) fun W5 hb5 hz5 k5 => ?_
                    have K5 : Keeps W4 W5 (fun _ => False) := ((Keeps.refl W4 (fun _ => False)).drew.trans kA (fun _ _ e => e)).trans k5 (fun _ _ e => e)
                    have hfl5 := hfl.keeps k5
                    have hS5 : (fun w' : World => w'.cell? ⟨B, 0, none⟩ = some (.string (strOf nm)) ∧ w'.cell? ⟨B, 1, none⟩ = some (.int .i64 op) ∧ w'.cell? ⟨B, 2, none⟩ = some (.string F) ∧ w'.cell? ⟨B, 3, none⟩ = some (.bool mm)) W5 := r4_keep S1 k5
                    clear S2 S1a S1 SD SA RS0 hread hfl kA k5 hz5 r0 r1 r2 r3 m0 m1 m2 hBlt
                    generalize wA.heap.size = Z at *
                    have HP5 := hide (HP4.out.stay K5)
                    have HFL := hide hfl5
                    obtain ⟨p0, p1, p2⟩ := three_cells9 hb5
                    obtain ⟨r0, r1, r2, r3⟩ := hS5
                    have HZ5 := hide (And.intro hb5 (K5.blk8 HB4.out))
                    clear HP4 hfl5 hb5 K5 HB4
                    by_cases her : G2 = 0
                    · subst her
                      obtain ⟨hkd, hT⟩ := HLN.out rfl
                      obtain ⟨hk, hps⟩ := HG.out rfl
                      replace hk : kd = 1 ∨ kd = 2 ∨ kd = 3 := hk
                      replace hps : psF (st.lay kd cm) (i + 1) (ls.drop (i + 1)) = psF PSt.zero 0 ls := hps
                      have HEL : Hid (true = decide ((st.lay kd cm).last ≠ 0)) := by
                        show true = decide ((st.lay kd cm).last ≠ 0)
                        rw [lay_last]
                        rcases hk with e | e | e <;> rw [e] <;> rfl
                      have HN : Hid (psF (st.lay kd cm) (i + 1) (ls.drop (i + 1)) = psF PSt.zero 0 ls ∧ (st.lay kd cm).os.length + (st.lay kd cm).cs.length ≤ i + 1 ∧ LstOk (st.lay kd cm)) := ⟨hps, Nat.le_trans (lay_count st kd cm) (Nat.succ_le_succ Hcnt.out.1), Hcnt.out.2.lay hk (by rw [hkd]; exact HM.out)⟩
                      clear hk hps HG HB HLN
                      have hT0 : cm = cmdF (oN j) G1 ∧ (j = 2 → G1.n ≠ []) := by
                        unfold RowT at hT
                        rw [if_neg (by omega), if_neg (by omega)] at hT
                        exact hT
                      have hop1 : op = oN j := Hop.out.symm
                      have hop2 : op = (j : Int) - 1 := by rw [hop1]; unfold oN; rw [if_neg (by omega)]
                      have hne : op = 1 → G1.n ≠ [] := fun e => hT0.2 (by omega)
                      have hop0 : (op == 0) = false := beq_eq_false_iff_ne.2 (by omega)
                      have ecm : cm = cmdF op G1 := by rw [hop1]; exact hT0.1
                      have hcmd : ∀ W, Keeps W5 W (fun _ => False) → Calls Tryd.prog 42 #[.int .i64 op, .agg #[.slice sn G1.n.length cn, .slice sw2 G1.w.length cw2, .slice sb2 G1.b.length cb2]] W fun e w' => CdQ cm W e w' := fun W k => by
                        rw [ecm]
                        exact rcmd_any op G1 _ _ _ _ W (HFL.out.keeps k) hne
                      have HMD := hide (fun (W : World) (k : Keeps W5 W (fun _ => False)) (x : CmV) (hf : IntsB W x.fs x.c.fl) (hs : IntsB W x.hs x.c.hl) => (HP5.out.stay k).sc.moreD (HP5.out.stay k).keeps.size (by have e := congrArg List.length HP5.out.sc.eq; rw [List.length_map] at e; have := Hcnt.out.1; have := Hile.out; omega) x hf hs)
                      have HKD := hide hkd
                      have HLY : Hid (st.lay kd cm = ⟨3, st.lim, st.os, st.cs ++ [cm]⟩) := by
                        show st.lay kd cm = _
                        rw [hkd, show kN j = 3 from by unfold kN; rw [if_neg (by omega), if_neg (by omega)]]
                        simp [PSt.lay]
                      clear hT hT0 hop1 hop2 hne ecm hkd Hcnt Hop j2
                      obtain ⟨m0, m1, m2⟩ := three_cells9 HP5.out.sc.box
                      obtain ⟨a6, a7⟩ := hwr.out
                      go_wp2_with fail
                      have hZ1 : ¬ (Z = bs ∨ (Value.slice sc0 L.length cc0).ownBlock = some Z) := fun e => e.elim (fun e => own_z HZ5.out.1 HP5.out.sc.box (by decide) e) (fun e => own_box HP5.out.sc.cs HZ5.out.1 (by decide) e)
                      have hZ2 : ¬ (B = bs ∨ (Value.slice sc0 L.length cc0).ownBlock = some B) := fun e => e.elim (fun e => own_z HZ5.out.2 HP5.out.sc.box (by decide) e) (fun e => own_box HP5.out.sc.cs HZ5.out.2 (by decide) e)
                      have S0 : (fun w' : World => w'.cell? ⟨Z, 0, none⟩ = some (.slice sn G1.n.length cn) ∧ w'.cell? ⟨Z, 1, none⟩ = some (.slice sw2 G1.w.length cw2) ∧ w'.cell? ⟨Z, 2, none⟩ = some (.slice sb2 G1.b.length cb2) ∧ w'.cell? ⟨B, 1, none⟩ = some (.int .i64 op)) W5.drew := ⟨p0, p1, p2, r1⟩
                      go_region_law (first
                        | (refine step_append_run (by rfl) _ _ 23 (by rfl) (by rfl) (by rfl) hap ?_)
                        | (refine step_call_run (by rfl) 42 _ _ _ (by rfl) (cf_command _) (by rfl) (by rfl) (hcmd _ ((Keeps.refl W5 (fun _ => False)).drew)) ?_; rintro e wC ⟨fv, hv, rfl, hf, hs, kC⟩; have kC5 := (Keeps.refl W5 (fun _ => False)).drew.trans kC (fun _ _ e => e); have n2 := keeps_cell kC5 m2; obtain ⟨sf, nf, rfl⟩ := hf.form; obtain ⟨sh, nh, rfl⟩ := hs.form; obtain ⟨g2, c2, W6, hap, y1, fz, hS6, kS⟩ := HMD.out wC kC5 ⟨cm, .slice sf cm.fl.length nf, .slice sh cm.hl.length nh⟩ hf hs; have n3 := keeps_cell ((Keeps.refl wC (fun _ => False)).alloc (.cells #[.int .i64 cm.op, .int .i64 cm.h, .slice sf cm.fl.length nf, .slice sh cm.hl.length nh, .int .u64 (cm.u : Int), .int .u64 (cm.v : Int), .int .i64 cm.n, .string cm.key, .string cm.elem] 33)) n2; have T1 := cells_two kS hZ1 (fun e => hZ1 (Or.inl e)) (keeps_cell kC5 p0); have T2 := cells_two kS hZ1 (fun e => hZ1 (Or.inl e)) (keeps_cell kC5 p1); have T3 := cells_two kS hZ1 (fun e => hZ1 (Or.inl e)) (keeps_cell kC5 p2); have T4 := cells_two kS hZ2 (fun e => hZ2 (Or.inl e)) (keeps_cell kC5 r1); have SB : (fun w' : World => w'.cell? ⟨Z, 0, none⟩ = some (.slice sn G1.n.length cn) ∧ w'.cell? ⟨Z, 1, none⟩ = some (.slice sw2 G1.w.length cw2) ∧ w'.cell? ⟨Z, 2, none⟩ = some (.slice sb2 G1.b.length cb2) ∧ w'.cell? ⟨B, 1, none⟩ = some (.int .i64 op)) wC := ⟨keeps_cell kC5 p0, keeps_cell kC5 p1, keeps_cell kC5 p2, keeps_cell kC5 r1⟩; have SBa : (fun w' : World => w'.cell? ⟨Z, 0, none⟩ = some (.slice sn G1.n.length cn) ∧ w'.cell? ⟨Z, 1, none⟩ = some (.slice sw2 G1.w.length cw2) ∧ w'.cell? ⟨Z, 2, none⟩ = some (.slice sb2 G1.b.length cb2) ∧ w'.cell? ⟨B, 1, none⟩ = some (.int .i64 op)) (wC.alloc (.cells #[.int .i64 cm.op, .int .i64 cm.h, .slice sf cm.fl.length nf, .slice sh cm.hl.length nh, .int .u64 (cm.u : Int), .int .u64 (cm.v : Int), .int .i64 cm.n, .string cm.key, .string cm.elem] 33)) := ⟨keeps_cell ((Keeps.refl wC (fun _ => False)).alloc _) SB.1, keeps_cell ((Keeps.refl wC (fun _ => False)).alloc _) SB.2.1, keeps_cell ((Keeps.refl wC (fun _ => False)).alloc _) SB.2.2.1, keeps_cell ((Keeps.refl wC (fun _ => False)).alloc _) SB.2.2.2⟩; have SC : (fun w' : World => w'.cell? ⟨Z, 0, none⟩ = some (.slice sn G1.n.length cn) ∧ w'.cell? ⟨Z, 1, none⟩ = some (.slice sw2 G1.w.length cw2) ∧ w'.cell? ⟨Z, 2, none⟩ = some (.slice sb2 G1.b.length cb2) ∧ w'.cell? ⟨B, 1, none⟩ = some (.int .i64 op)) W6 := ⟨T1.1, T2.1, T3.1, T4.1⟩; have SE : (fun w' : World => w'.cell? ⟨Z, 0, none⟩ = some (.slice sn G1.n.length cn) ∧ w'.cell? ⟨Z, 1, none⟩ = some (.slice sw2 G1.w.length cw2) ∧ w'.cell? ⟨Z, 2, none⟩ = some (.slice sb2 G1.b.length cb2) ∧ w'.cell? ⟨B, 1, none⟩ = some (.int .i64 op)) (W6.setCell ⟨bs, 2, none⟩ (.slice (some ⟨g2, 0, none⟩) (L.length + 1) c2)) := ⟨T1.2, T2.2, T3.2, T4.2⟩; have HS6 := hide (And.intro hS6 (And.intro kS kC5)); (clear T1 T2 T3 T4 hS6 kS kC hf hs); refine ⟨_, rfl, ?_⟩; simp only [CmV.cells] at hap ⊢))
                      all_goals (
                        have HP6 : Hid (PaQ w bs ls (.slice (some ⟨g, 0, none⟩) ls.length co) (st.lay kd cm) (.slice so0 st.os.length co0) (.slice (some ⟨g2, 0, none⟩) (L.length + 1) c2) (L ++ [⟨cm, .slice sf cm.fl.length nf, .slice sh cm.hl.length nh⟩]) (W6.setCell ⟨bs, 2, none⟩ (.slice (some ⟨g2, 0, none⟩) (L.length + 1) c2))) := by
                          show PaQ _ _ _ _ _ _ _ _ _
                          rw [HLY.out]
                          exact (HP5.out.stay HS6.out.2.2).lay HS6.out.1 (HS6.out.2.1.mono (fun _ _ e => e.elim Or.inl (fun q => Or.inr (Or.inr q))))
                        go_wp2_with fail
                        go_roundw)
                      all_goals first
                        | exact ⟨i + 1, st.lay kd cm, _, _, _, true, by go_num, hlt, rfl, HP6.out, HEL, HN⟩
                        | (simp [intOf]; exact Hms.out)
                    · have hbad : Sum.inr (i + 1, G2) = psF PSt.zero 0 ls := HB.out her
                      have HR2 : Hid (RR = .inr (i + 1, G2)) := by
                        show RR = _
                        rw [HQ2.out, ← hbad]
                        rfl
                      have her' : (G2 != 0) = true := by simpa using her
                      obtain ⟨x0, x1, x2⟩ := three_cells9 HP5.out.res
                      obtain ⟨f0, f1, f2⟩ := fro3 HP5.out.res
                      clear hbad HG HB Hcnt her HLN
                      obtain ⟨a6, a7⟩ := hwr.out
                      go_wp2_with fail
                      refine set3r (P := fun W => bodyPost _ _ _ _ _ W) HP5.out.res fun W9 h9 k9 => ?_
                      obtain ⟨y0, y1, y2⟩ := three_cells9 h9
                      refine bodyPost_ret (v := .tuple #[.agg #[.int .i64 0, .slice none 0 0, .slice none 0 0], .int .i64 ((i : Int) + 1), .int .i64 G2]) (by simp [results, Tryd.results27, go_sem, y0, y1, y2]) rfl ?_
                      rw [HR2.out]
                      exact ⟨keeps_out HP5.out.keeps (Nat.le_refl _) k9, rfl⟩
                  · refine set3r (P := fun W => Exit.then _ _ _ _ W) hbl fun W5 hb5 k5 => ?_
                    have K5 : Keeps W4 W5 (fun _ => False) := (((Keeps.refl W4 (fun _ => False)).alloc _).drew.trans kA (fun _ _ e => e)).trans k5 (fun i hi e => by omega)
                    have hfl5 : FlV _ G1 (.slice sn G1.n.length cn) (.slice sw2 G1.w.length cw2) (.slice sb2 G1.b.length cb2) W5 := ⟨ownsRow_keeps hfl.n k5 (own_ne2 hfl.n hbl (by decide)), ownsRow_keeps hfl.w k5 (own_ne2 hfl.w hbl (by decide)), ownsRow_keeps hfl.b k5 (own_ne2 hfl.b hbl (by decide))⟩
                    have hS5 : (fun w' : World => w'.cell? ⟨B, 0, none⟩ = some (.string (strOf nm)) ∧ w'.cell? ⟨B, 1, none⟩ = some (.int .i64 op) ∧ w'.cell? ⟨B, 2, none⟩ = some (.string F) ∧ w'.cell? ⟨B, 3, none⟩ = some (.bool mm)) W5 := ⟨keeps_cellB k5 S1.1 (by omega), keeps_cellB k5 S1.2.1 (by omega), keeps_cellB k5 S1.2.2.1 (by omega), keeps_cellB k5 S1.2.2.2 (by omega)⟩
                    clear S2 S1 SD SA RS0 hread hfl kA k5 r0 r1 r2 r3 m0 m1 m2 hBlt hbl u0 u1 u2 v0 v1 v2
                    generalize W4.heap.size = Z at *
                    have HP5 := hide (HP4.out.stay K5)
                    have HFL := hide hfl5
                    obtain ⟨p0, p1, p2⟩ := three_cells9 hb5
                    obtain ⟨r0, r1, r2, r3⟩ := hS5
                    have HZ5 := hide (And.intro hb5 (K5.blk8 HB4.out))
                    clear HP4 hfl5 hb5 K5 HB4
                    by_cases her : G2 = 0
                    · subst her
                      obtain ⟨hkd, hT⟩ := HLN.out rfl
                      obtain ⟨hk, hps⟩ := HG.out rfl
                      replace hk : kd = 1 ∨ kd = 2 ∨ kd = 3 := hk
                      replace hps : psF (st.lay kd cm) (i + 1) (ls.drop (i + 1)) = psF PSt.zero 0 ls := hps
                      have HEL : Hid (true = decide ((st.lay kd cm).last ≠ 0)) := by
                        show true = decide ((st.lay kd cm).last ≠ 0)
                        rw [lay_last]
                        rcases hk with e | e | e <;> rw [e] <;> rfl
                      have HN : Hid (psF (st.lay kd cm) (i + 1) (ls.drop (i + 1)) = psF PSt.zero 0 ls ∧ (st.lay kd cm).os.length + (st.lay kd cm).cs.length ≤ i + 1 ∧ LstOk (st.lay kd cm)) := ⟨hps, Nat.le_trans (lay_count st kd cm) (Nat.succ_le_succ Hcnt.out.1), Hcnt.out.2.lay hk (by rw [hkd]; exact HM.out)⟩
                      clear hk hps HG HB HLN
                      have hT0 : cm = cmdF (oN j) G1 ∧ (j = 2 → G1.n ≠ []) := by
                        unfold RowT at hT
                        rw [if_neg (by omega), if_neg (by omega)] at hT
                        exact hT
                      have hop1 : op = oN j := Hop.out.symm
                      have hop2 : op = (j : Int) - 1 := by rw [hop1]; unfold oN; rw [if_neg (by omega)]
                      have hne : op = 1 → G1.n ≠ [] := fun e => hT0.2 (by omega)
                      have hop0 : (op == 0) = false := beq_eq_false_iff_ne.2 (by omega)
                      have ecm : cm = cmdF op G1 := by rw [hop1]; exact hT0.1
                      have hcmd : ∀ W, Keeps W5 W (fun _ => False) → Calls Tryd.prog 42 #[.int .i64 op, .agg #[.slice sn G1.n.length cn, .slice sw2 G1.w.length cw2, .slice sb2 G1.b.length cb2]] W fun e w' => CdQ cm W e w' := fun W k => by
                        rw [ecm]
                        exact rcmd_any op G1 _ _ _ _ W (HFL.out.keeps k) hne
                      have HMD := hide (fun (W : World) (k : Keeps W5 W (fun _ => False)) (x : CmV) (hf : IntsB W x.fs x.c.fl) (hs : IntsB W x.hs x.c.hl) => (HP5.out.stay k).sc.moreD (HP5.out.stay k).keeps.size (by have e := congrArg List.length HP5.out.sc.eq; rw [List.length_map] at e; have := Hcnt.out.1; have := Hile.out; omega) x hf hs)
                      have HKD := hide hkd
                      have HLY : Hid (st.lay kd cm = ⟨3, st.lim, st.os, st.cs ++ [cm]⟩) := by
                        show st.lay kd cm = _
                        rw [hkd, show kN j = 3 from by unfold kN; rw [if_neg (by omega), if_neg (by omega)]]
                        simp [PSt.lay]
                      clear hT hT0 hop1 hop2 hne ecm hkd Hcnt Hop j2
                      obtain ⟨m0, m1, m2⟩ := three_cells9 HP5.out.sc.box
                      obtain ⟨a6, a7⟩ := hwr.out
                      go_wp2_with fail
                      have hZ1 : ¬ (Z = bs ∨ (Value.slice sc0 L.length cc0).ownBlock = some Z) := fun e => e.elim (fun e => own_z HZ5.out.1 HP5.out.sc.box (by decide) e) (fun e => own_box HP5.out.sc.cs HZ5.out.1 (by decide) e)
                      have hZ2 : ¬ (B = bs ∨ (Value.slice sc0 L.length cc0).ownBlock = some B) := fun e => e.elim (fun e => own_z HZ5.out.2 HP5.out.sc.box (by decide) e) (fun e => own_box HP5.out.sc.cs HZ5.out.2 (by decide) e)
                      have S0 : (fun w' : World => w'.cell? ⟨Z, 0, none⟩ = some (.slice sn G1.n.length cn) ∧ w'.cell? ⟨Z, 1, none⟩ = some (.slice sw2 G1.w.length cw2) ∧ w'.cell? ⟨Z, 2, none⟩ = some (.slice sb2 G1.b.length cb2) ∧ w'.cell? ⟨B, 1, none⟩ = some (.int .i64 op)) W5.drew := ⟨p0, p1, p2, r1⟩
                      go_region_law (first
                        | (refine step_append_run (by rfl) _ _ 23 (by rfl) (by rfl) (by rfl) hap ?_)
                        | (refine step_call_run (by rfl) 42 _ _ _ (by rfl) (cf_command _) (by rfl) (by rfl) (hcmd _ ((Keeps.refl W5 (fun _ => False)).drew)) ?_; rintro e wC ⟨fv, hv, rfl, hf, hs, kC⟩; have kC5 := (Keeps.refl W5 (fun _ => False)).drew.trans kC (fun _ _ e => e); have n2 := keeps_cell kC5 m2; obtain ⟨sf, nf, rfl⟩ := hf.form; obtain ⟨sh, nh, rfl⟩ := hs.form; obtain ⟨g2, c2, W6, hap, y1, fz, hS6, kS⟩ := HMD.out wC kC5 ⟨cm, .slice sf cm.fl.length nf, .slice sh cm.hl.length nh⟩ hf hs; have n3 := keeps_cell ((Keeps.refl wC (fun _ => False)).alloc (.cells #[.int .i64 cm.op, .int .i64 cm.h, .slice sf cm.fl.length nf, .slice sh cm.hl.length nh, .int .u64 (cm.u : Int), .int .u64 (cm.v : Int), .int .i64 cm.n, .string cm.key, .string cm.elem] 33)) n2; have T1 := cells_two kS hZ1 (fun e => hZ1 (Or.inl e)) (keeps_cell kC5 p0); have T2 := cells_two kS hZ1 (fun e => hZ1 (Or.inl e)) (keeps_cell kC5 p1); have T3 := cells_two kS hZ1 (fun e => hZ1 (Or.inl e)) (keeps_cell kC5 p2); have T4 := cells_two kS hZ2 (fun e => hZ2 (Or.inl e)) (keeps_cell kC5 r1); have SB : (fun w' : World => w'.cell? ⟨Z, 0, none⟩ = some (.slice sn G1.n.length cn) ∧ w'.cell? ⟨Z, 1, none⟩ = some (.slice sw2 G1.w.length cw2) ∧ w'.cell? ⟨Z, 2, none⟩ = some (.slice sb2 G1.b.length cb2) ∧ w'.cell? ⟨B, 1, none⟩ = some (.int .i64 op)) wC := ⟨keeps_cell kC5 p0, keeps_cell kC5 p1, keeps_cell kC5 p2, keeps_cell kC5 r1⟩; have SBa : (fun w' : World => w'.cell? ⟨Z, 0, none⟩ = some (.slice sn G1.n.length cn) ∧ w'.cell? ⟨Z, 1, none⟩ = some (.slice sw2 G1.w.length cw2) ∧ w'.cell? ⟨Z, 2, none⟩ = some (.slice sb2 G1.b.length cb2) ∧ w'.cell? ⟨B, 1, none⟩ = some (.int .i64 op)) (wC.alloc (.cells #[.int .i64 cm.op, .int .i64 cm.h, .slice sf cm.fl.length nf, .slice sh cm.hl.length nh, .int .u64 (cm.u : Int), .int .u64 (cm.v : Int), .int .i64 cm.n, .string cm.key, .string cm.elem] 33)) := ⟨keeps_cell ((Keeps.refl wC (fun _ => False)).alloc _) SB.1, keeps_cell ((Keeps.refl wC (fun _ => False)).alloc _) SB.2.1, keeps_cell ((Keeps.refl wC (fun _ => False)).alloc _) SB.2.2.1, keeps_cell ((Keeps.refl wC (fun _ => False)).alloc _) SB.2.2.2⟩; have SC : (fun w' : World => w'.cell? ⟨Z, 0, none⟩ = some (.slice sn G1.n.length cn) ∧ w'.cell? ⟨Z, 1, none⟩ = some (.slice sw2 G1.w.length cw2) ∧ w'.cell? ⟨Z, 2, none⟩ = some (.slice sb2 G1.b.length cb2) ∧ w'.cell? ⟨B, 1, none⟩ = some (.int .i64 op)) W6 := ⟨T1.1, T2.1, T3.1, T4.1⟩; have SE : (fun w' : World => w'.cell? ⟨Z, 0, none⟩ = some (.slice sn G1.n.length cn) ∧ w'.cell? ⟨Z, 1, none⟩ = some (.slice sw2 G1.w.length cw2) ∧ w'.cell? ⟨Z, 2, none⟩ = some (.slice sb2 G1.b.length cb2) ∧ w'.cell? ⟨B, 1, none⟩ = some (.int .i64 op)) (W6.setCell ⟨bs, 2, none⟩ (.slice (some ⟨g2, 0, none⟩) (L.length + 1) c2)) := ⟨T1.2, T2.2, T3.2, T4.2⟩; have HS6 := hide (And.intro hS6 (And.intro kS kC5)); (clear T1 T2 T3 T4 hS6 kS kC hf hs); refine ⟨_, rfl, ?_⟩; simp only [CmV.cells] at hap ⊢))
                      all_goals (
                        have HP6 : Hid (PaQ w bs ls (.slice (some ⟨g, 0, none⟩) ls.length co) (st.lay kd cm) (.slice so0 st.os.length co0) (.slice (some ⟨g2, 0, none⟩) (L.length + 1) c2) (L ++ [⟨cm, .slice sf cm.fl.length nf, .slice sh cm.hl.length nh⟩]) (W6.setCell ⟨bs, 2, none⟩ (.slice (some ⟨g2, 0, none⟩) (L.length + 1) c2))) := by
                          show PaQ _ _ _ _ _ _ _ _ _
                          rw [HLY.out]
                          exact (HP5.out.stay HS6.out.2.2).lay HS6.out.1 (HS6.out.2.1.mono (fun _ _ e => e.elim Or.inl (fun q => Or.inr (Or.inr q))))
                        go_wp2_with fail
                        go_roundw)
                      all_goals first
                        | exact ⟨i + 1, st.lay kd cm, _, _, _, true, by go_num, hlt, rfl, HP6.out, HEL, HN⟩
                        | (simp [intOf]; exact Hms.out)
                    · have hbad : Sum.inr (i + 1, G2) = psF PSt.zero 0 ls := HB.out her
                      have HR2 : Hid (RR = .inr (i + 1, G2)) := by
                        show RR = _
                        rw [HQ2.out, ← hbad]
                        rfl
                      have her' : (G2 != 0) = true := by simpa using her
                      obtain ⟨x0, x1, x2⟩ := three_cells9 HP5.out.res
                      obtain ⟨f0, f1, f2⟩ := fro3 HP5.out.res
                      clear hbad HG HB Hcnt her HLN
                      obtain ⟨a6, a7⟩ := hwr.out
                      go_wp2_with fail
                      refine set3r (P := fun W => bodyPost _ _ _ _ _ W) HP5.out.res fun W9 h9 k9 => ?_
                      obtain ⟨y0, y1, y2⟩ := three_cells9 h9
                      refine bodyPost_ret (v := .tuple #[.agg #[.int .i64 0, .slice none 0 0, .slice none 0 0], .int .i64 ((i : Int) + 1), .int .i64 G2]) (by simp [results, Tryd.results27, go_sem, y0, y1, y2]) rfl ?_
                      rw [HR2.out]
                      exact ⟨keeps_out HP5.out.keeps (Nat.le_refl _) k9, rfl⟩
          · have HR2 : Hid (RR = .inr (i + 1, 160)) := by
              have e := ln_none (last := st.last) (fs := fs) hno
              have hbad := HB.out (by rw [e]; decide)
              show RR = _
              rw [HQ2.out, ← hbad, e]
              rfl
            clear HB HG Hcnt hno
            go_upto_region 12 with fail
            refine alloc1 (P := fun W => Code.wp _ _ _ _ W) fun W4 hb4 hs4 k4 => ?_
            obtain ⟨r0, r1, r2, r3⟩ := four_cells hb4
            have HP4 := hide (HP3.out.stay k4)
            clear hb4 hs4 k4 HP3 HF3
            obtain ⟨x0, x1, x2⟩ := three_cells9 HP4.out.res
            obtain ⟨f0, f1, f2⟩ := fro3 HP4.out.res
            have s1 : ((⟨#[]⟩ : ByteArray).toList == (⟨#[108, 105, 109, 105, 116]⟩ : ByteArray).toList) = false := str_no (by decide)
            have s2 : ((⟨#[]⟩ : ByteArray).toList == (⟨#[104, 97, 115, 104]⟩ : ByteArray).toList) = false := str_no (by decide)
            obtain ⟨a6, a7⟩ := hwr.out
            go_wp2_with fail
            refine set3r (P := fun W => bodyPost _ _ _ _ _ W) HP4.out.res fun W9 h9 k9 => ?_
            obtain ⟨y0, y1, y2⟩ := three_cells9 h9
            refine bodyPost_ret (v := .tuple #[.agg #[.int .i64 0, .slice none 0 0, .slice none 0 0], .int .i64 ((i : Int) + 1), .int .i64 160]) (by simp [results, Tryd.results27, go_sem, y0, y1, y2]) rfl ?_
            rw [HR2.out]
            exact ⟨keeps_out HP4.out.keeps (Nat.le_refl _) k9, rfl⟩
      · obtain rfl : i = ls.length := by omega
        have hlt' : ¬ (ls.length : Int) < (ls.length : Int) := by omega
        have hI := HI.out.1
        rw [List.drop_length, psF_nil] at hI
        have hR1 : RR = if st.last = 0 then .inr (ls.length + 1, 160) else .inl st := by
          rw [HQ2.out, ← hI]
          rfl
        have HP := hide hp
        have hwr := hide (wr64s (n := ls.length) (by have := HZ.out; omega))
        clear hI HI hp
        by_cases hl0 : st.last = 0
        · have HR2 : Hid (RR = .inr (ls.length + 1, 160)) := by
            show RR = _
            rw [hR1, if_pos hl0]
          obtain rfl : bg = false := by rw [Hbg.out, hl0]; rfl
          obtain ⟨x0, x1, x2⟩ := three_cells9 HP.out.res
          obtain ⟨f0, f1, f2⟩ := fro3 HP.out.res
          clear hR1 hl0 HQ2 Hbg
          obtain ⟨a6, a7⟩ := hwr.out
          go_wp2_with fail
          refine set3r (P := fun W => bodyPost _ _ _ _ _ W) HP.out.res fun W9 h9 k9 => ?_
          obtain ⟨y0, y1, y2⟩ := three_cells9 h9
          refine bodyPost_ret (v := .tuple #[.agg #[.int .i64 0, .slice none 0 0, .slice none 0 0], .int .i64 ((ls.length : Int) + 1), .int .i64 160]) (by simp [results, Tryd.results27, go_sem, y0, y1, y2]) rfl ?_
          rw [HR2.out]
          exact ⟨keeps_out HP.out.keeps (Nat.le_refl _) k9, rfl⟩
        · have HR2 : Hid (RR = .inl st) := by
            show RR = _
            rw [hR1, if_neg hl0]
          obtain rfl : bg = true := by rw [Hbg.out]; simpa using hl0
          obtain ⟨x0, x1, x2⟩ := three_cells9 HP.out.res
          obtain ⟨f0, f1, f2⟩ := fro3 HP.out.res
          obtain ⟨so2, co2, rfl⟩ := ownsRow_slice HP.out.sc.os
          obtain ⟨sc2, cc2, rfl⟩ := ownsRow_slice HP.out.sc.cs
          obtain ⟨t0, t1, t2⟩ := three_cells9 HP.out.sc.box
          clear hR1 hl0 HQ2 Hbg
          go_wp2_with fail
          refine set3r (P := fun W => bodyPost _ _ _ _ _ W) HP.out.res fun W9 h9 k9 => ?_
          obtain ⟨y0, y1, y2⟩ := three_cells9 h9
          refine bodyPost_ret (v := .tuple #[.agg #[.int .i64 st.lim, .slice so2 st.os.length co2, .slice sc2 L.length cc2], .int .i64 0, .int .i64 0]) (by simp [results, Tryd.results27, go_sem, y0, y1, y2]) rfl ?_
          rw [HR2.out]
          have hne : ∀ {e : TypeId} {size : Nat} {v : Value} {n : Nat} {xs : List Value}, wr.ownsRow w.heap.size e size v n xs → 25 ≠ e → W9.ownsRow w.heap.size e size v n xs := fun {e size v n xs} q hq => ownsRow_keeps q k9 (own_ne2 q HP.out.res hq)
          exact ⟨keeps_out HP.out.keeps (Nat.le_refl _) k9, _, _, L, rfl, hne HP.out.sc.os (by decide), hne HP.out.sc.cs (by decide), HP.out.sc.eq, fun x hx => ⟨(HP.out.sc.each x hx).1.keep k9 (box_not3 HP.out.res (by decide)), (HP.out.sc.each x hx).2.keep k9 (box_not3 HP.out.res (by decide))⟩⟩
end Go.Proofs.YtfpiibccggjjpaaDoor
