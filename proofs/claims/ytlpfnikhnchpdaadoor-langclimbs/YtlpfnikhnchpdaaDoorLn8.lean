import Derived.Test.YtlpfnikhnchpdaaDoorLn7
/-
  lang: stmt. (Made by genLGX.py.)
-/
namespace Go.Proofs.YtlpfnikhnchpdaaDoor
namespace Lg
open Go.RowKit
set_option linter.unusedVariables false
theorem xs7 {W : World} {g gx : Nat} {x y z u v a b c d e f h : Value} (q : W.cell? ⟨gx, 0, none⟩ = some x ∧ W.cell? ⟨gx, 1, none⟩ = some y ∧ W.cell? ⟨gx, 2, none⟩ = some z ∧ W.cell? ⟨gx, 3, none⟩ = some u ∧ W.cell? ⟨gx, 4, none⟩ = some v) (hne : ¬ g = gx) :
    let W' := (((((((W.setCell ⟨g, 0, none⟩ a).setCell ⟨g, 1, none⟩ b).setCell ⟨g, 2, none⟩ c).setCell ⟨g, 3, none⟩ d).setCell ⟨g, 4, none⟩ e).setCell ⟨g, 5, none⟩ f).setCell ⟨g, 6, none⟩ h)
    W'.cell? ⟨gx, 0, none⟩ = some x ∧ W'.cell? ⟨gx, 1, none⟩ = some y ∧ W'.cell? ⟨gx, 2, none⟩ = some z ∧ W'.cell? ⟨gx, 3, none⟩ = some u ∧ W'.cell? ⟨gx, 4, none⟩ = some v := by
  have k : Keeps W (((((((W.setCell ⟨g, 0, none⟩ a).setCell ⟨g, 1, none⟩ b).setCell ⟨g, 2, none⟩ c).setCell ⟨g, 3, none⟩ d).setCell ⟨g, 4, none⟩ e).setCell ⟨g, 5, none⟩ f).setCell ⟨g, 6, none⟩ h) (fun i => i = g) :=
    ((((((((Keeps.refl W (fun i => i = g)).setCell _ (fun _ => rfl) _).setCell _ (fun _ => rfl) _).setCell _ (fun _ => rfl) _).setCell _ (fun _ => rfl) _).setCell _ (fun _ => rfl) _).setCell _ (fun _ => rfl) _).setCell _ (fun _ => rfl) _)
  have hlt : gx < W.heap.size := World.block_lt_of_cell? W ⟨gx, 0, none⟩ q.1
  have hb := k.block gx hlt (fun q => hne q.symm)
  intro W'
  have e9 : ∀ j, W'.cell? ⟨gx, j, none⟩ = W.cell? ⟨gx, j, none⟩ := fun j => by
    show World.cell? _ _ = _
    simp only [World.cell?]
    rw [hb]
  rw [e9 0, e9 1, e9 2, e9 3, e9 4]
  exact q

set_option maxRecDepth 100000 in
set_option maxHeartbeats 4000000 in
theorem stmt_step {b : Nat} {T : Bs} {n : Nat} (hI : ReadsG 89 #[.pointer (some ⟨b, 0, none⟩)] b T (ifD n) StG) (hX : Reads 90 #[.pointer (some ⟨b, 0, none⟩)] b T (joinedD n 1)) (hB : ReadsG 91 #[.pointer (some ⟨b, 0, none⟩)] b T (blockD n) StsG) (hR9 : ReadsG 92 #[.pointer (some ⟨b, 0, none⟩)] b T (rangeD n) StG) (hP : ReadsG 93 #[.pointer (some ⟨b, 0, none⟩)] b T (plainD n) StG) : ReadsG 67 #[.pointer (some ⟨b, 0, none⟩)] b T (stmtD (n + 1)) StG := by
  intro w ts h E hD
  have hbw := hide h.lt
  have hgb := hide (show ¬ w.heap.size = b from fun q => Nat.lt_irrefl _ (q ▸ h.lt))
  have HI := hide (And.intro h E)
  clear h E
  obtain ⟨R, hR⟩ : ∃ R, stmtD (n + 1) ts = R := ⟨_, rfl⟩
  have HR : Hid (R = if isF kIf ts = true then ifD n ts
    else if isF kWhile ts = true then (joinedD n 1 ts.tail).bind fun x ts2 => (blockD n ts2).bind fun b ts3 => .ok (.mk 7 [] [] [] [x] b []) ts3
    else if isF kFor ts = true then rangeD n ts.tail
    else (plainD n ts).bind fun s ts2 => (mustD kSemi ts2).bind fun _ ts3 => .ok s ts3) := hide (by rw [← hR]; first | rfl | (rw [stmtD]; done) | (rw [stmtD]; rfl))
  rw [hR] at hD ⊢
  have HRo := hide hD
  generalize hQ : Part w b T R (StG w.heap.size) = Q
  replace hQ := hide hQ
  clear hR hD
  have HIf := hide hI
  have HEx := hide hX
  have HBk := hide hB
  have HRg := hide hR9
  have HPl := hide hP
  clear hI hX hB hR9 hP
  go_enter Tryd.func67, Tryd.ntmps67
  go_upto_region 1 with fail
  refine alloc1 (P := fun W => Code.wp _ _ _ _ W) fun W0 hg hz k0 => ?_
  have HA : Hid (AtS w w.heap.size b T ts W0) := hide ⟨HI.out.1.keeps k0 id, HI.out.2.keeps k0 (fun _ q => q.elim), kF k0 b, hg⟩
  clear hg hz k0 HI
  cases hF1 : isF kIf ts with
  | true =>
    have hm : Calls Tryd.prog 86 #[.pointer (some ⟨b, 0, none⟩), .string ⟨#[105, 102]⟩] _ fun e w' => e = .returned (.bool (isF kIf (ts))) ∧ w' = _ := is_any HA.out.1 kIf
    rw [hF1] at hm
    replace HR := hide (HR.out.trans (if_pos hF1))
    clear hF1
    go_upto_region 2 with (go_at_call 86; (with_reducible refine hm.mono ?_); rintro e wm1 ⟨rfl, rfl⟩)
    clear hm
    have hne2 : ifD n (ts) ≠ .out := fun q => HRo.out (HR.out.trans q)
    have hc := HIf.out _ (ts) HA.out.1 HA.out.2.1 hne2
    cases hR2 : ifD n (ts) with
    | out => exact absurd hR2 (fun q => HRo.out (HR.out.trans q))
    | no l er =>
      rw [hR2] at hc
      replace HR := hide (HR.out.trans hR2)
      clear hR2 hne2
      go_wp2_with fail
      refine hc.mono ?_
      rintro e w9 ⟨rfl, h5, k5⟩
      refine ⟨rfl, ?_⟩
      rw [← hQ.out]
      exact part_no HR.out h5 HA.out.2.2.1 k5
    | ok x ts2 =>
      rw [hR2] at hc
      replace HR := hide (HR.out.trans hR2)
      clear hR2 hne2
      go_wp2_with fail
      have hg2 := hide HA.out.lt
      refine hc.mono ?_
      rintro e w2 ⟨v, rfl, ⟨cs, hv, hx⟩, hA⟩
      have HX := hide hx
      have hs2 := hide hA.2.2.size
      obtain ⟨k', nm, ky, vl, ep, em, ec, bp, bm, bc, lp, lm, lc, rfl⟩ := hx.form
      replace hv : v = .agg #[.int .i64 k', .string (sB nm), .string (sB ky), .string (sB vl), .slice ep em ec, .slice bp bm bc, .slice lp lm lc] := hv
      subst hv
      replace HA := hide (HA.out.adv hA hgb.out)
      clear hc hA hx
      obtain ⟨⟨c0, c1, c2, c3, c4, c5, c6⟩, f0, f1, f2, f3, f4, f5, f6⟩ := HA.out.2.2.2.cells
      generalize hgz : w.heap.size = g at *
      replace hgz := hide hgz
      go_wp2_with fail
      refine set7 (P := fun W => bodyPost _ _ _ _ _ W) HA.out.2.2.2 fun W5 h11 k11 => ?_
      obtain ⟨⟨q0, q1, q2, q3, q4, q5, q6⟩, -⟩ := h11.cells
      refine bodyPost_ret (v := .agg #[.int .i64 k', .string (sB nm), .string (sB ky), .string (sB vl), .slice ep em ec, .slice bp bm bc, .slice lp lm lc]) (by simp [results, Tryd.results67, go_sem, q0, q1, q2, q3, q4, q5, q6]) rfl ?_
      rw [← hQ.out]
      exact part_ok HR.out (res_st rfl hgz.out HA.out.2.2.1 (HX.out) (fun i hi => Nat.lt_of_lt_of_le hg2.out hi) HA.out.1 HA.out.2.1 hbw.out k11)
  | false =>
    have hm : Calls Tryd.prog 86 #[.pointer (some ⟨b, 0, none⟩), .string ⟨#[105, 102]⟩] _ fun e w' => e = .returned (.bool (isF kIf (ts))) ∧ w' = _ := is_any HA.out.1 kIf
    rw [hF1] at hm
    replace HR := hide (HR.out.trans (if_neg (by rw [hF1]; decide)))
    clear hF1
    go_upto_region 3 with (go_at_call 86; (with_reducible refine hm.mono ?_); rintro e wm1 ⟨rfl, rfl⟩)
    clear hm
    cases hF11 : isF kWhile ts with
    | true =>
      have hm : Calls Tryd.prog 64 #[.pointer (some ⟨b, 0, none⟩), .string ⟨#[119, 104, 105, 108, 101]⟩] _ fun e w' => e = .returned (.bool (isF kWhile (ts))) ∧ AdvP _ b T (if isF kWhile (ts) then (ts).tail else (ts)) w' := met_any HA.out.1 HA.out.2.1 kWhile
      rw [hF11] at hm
      simp only [if_true] at hm
      replace HR := hide (HR.out.trans (if_pos hF11))
      clear hF11
      go_upto_region 4 with (go_at_call 64; (with_reducible refine hm.mono ?_); rintro e wm11 ⟨rfl, hA⟩)
      replace HA := hide (HA.out.adv hA hgb.out)
      clear hm hA
      have hne6 : joinedD n 1 (ts.tail) ≠ .out := bind_out HR.out HRo.out
      have hc := HEx.out _ (ts.tail) HA.out.1 HA.out.2.1 hne6
      cases hR6 : joinedD n 1 (ts.tail) with
      | out => exact absurd hR6 (bind_out HR.out HRo.out)
      | no l er =>
        rw [hR6] at hc
        replace HR := hide (bind_no HR.out hR6)
        clear hR6 hne6
        go_wp2_with fail
        refine hc.mono ?_
        rintro e w9 ⟨rfl, h5, k5⟩
        refine ⟨rfl, ?_⟩
        rw [← hQ.out]
        exact part_no HR.out h5 HA.out.2.2.1 k5
      | ok x ts2 =>
        rw [hR6] at hc
        replace HR := hide (bind_ok HR.out hR6)
        clear hR6 hne6
        go_wp2_with fail
        have hg3 := hide HA.out.lt
        refine hc.mono ?_
        rintro e w2 ⟨v, rfl, ⟨cs, hv, hx⟩, hA⟩
        have HX := hide hx
        have hs3 := hide hA.2.2.size
        obtain ⟨k', n', nm, op, sp, sm, sc, rfl⟩ := hx.form
        replace hv : v = .agg #[.int .i64 k', .int .i64 n', .string (sB nm), .string (sB op), .slice sp sm sc] := hv
        subst hv
        replace HA := hide (HA.out.adv hA hgb.out)
        clear hc hA hx
        go_upto_region 5 with fail
        refine alloc1 (P := fun W => Code.wp _ _ _ _ W) fun W3 h3 hz3 k23 => ?_
        have hgx2 := hide (show w.heap.size < w2.heap.size from HA.out.lt)
        have H3 : Hid (Xc W3 w2.heap.size (.int .i64 k') (.int .i64 n') (.string (sB nm)) (.string (sB op)) (.slice sp sm sc)) := hide h3
        have HX3 := hide (HX.out.under.keeps k23 (fun _ _ q => q))
        replace HA := hide (HA.out.new k23)
        clear h3 hz3 k23 HX
        generalize w2.heap.size = gx at *
        have hggx : Hid (¬ w.heap.size = gx) := hide (fun q => by have := hgx2.out; omega)
        have hneB : blockD n ts2 ≠ .out := bind_out HR.out HRo.out
        have kD := hide ((Keeps.refl W3 (fun _ => False)).drew)
        have kDa := hide (((Keeps.refl W3 (fun _ => False)).alloc (.cells #[.int .i64 k', .int .i64 n', .string (sB nm), .string (sB op), .slice sp sm sc] 42)).drew)
        have hcD := HBk.out _ ts2 (HA.out.new kD.out).1 (HA.out.new kD.out).2.1 hneB
        have hcDa := HBk.out _ ts2 (HA.out.new kDa.out).1 (HA.out.new kDa.out).2.1 hneB
        have hnewD : Hid (((W3.alloc (.cells #[.int .i64 k', .int .i64 n', .string (sB nm), .string (sB op), .slice sp sm sc] 42)).drew).heap[W3.heap.size]? = some (.cells #[.int .i64 k', .int .i64 n', .string (sB nm), .string (sB op), .slice sp sm sc] 42)) := hide (heap_alloc_new W3 _)
        obtain ⟨⟨x0, x1, x2, x3, x4⟩, -⟩ := H3.out.cells
        go_region_law (first
          | (refine step_part (by rfl) 91 _ _ (by rfl) (cf_block _) (by rfl) hcDa hneB (fun l n c w9 e hr h5 k5 => ⟨rfl, by rw [← e, ← hQ.out]; exact part_no (bind_no HR.out hr) h5 (HA.out.new kDa.out).2.2.1 k5⟩) ?_
             rintro bl ts3 v w8 hR3 hx hA
             have HR3 := hide (bind_ok HR.out hR3)
             have hx0 : StsV w8 (fun i => _ ≤ i) bl v := hx
             obtain ⟨bp, bm, bc, rfl⟩ := hx0.form
             have HA8 := hide ((HA.out.new kDa.out).adv hA hgb.out)
             have k38 := (kF kDa.out b).trans hA.2.2 (fun _ _ q => q)
             have hx8 := HX3.out.keeps k38 (fun i hi q => by have : _ ≤ i := hi.1; have := hg3.out; have := hbw.out; omega)
             have hX8 := H3.out.keeps k38 (fun q => by have := hgx2.out; have := hbw.out; omega)
             obtain ⟨⟨y0, y1, y2, y3, y4⟩, -⟩ := hX8.cells
             have hs8 := hA.2.2.size
             have hs3 := HA.out.lt
             have hn8 := (hA.2.2.block _ (heap_lt hnewD.out) (fun q => by have := hbw.out; omega)).trans hnewD.out
             have HT : Hid (StC w8 (fun i => w.heap.size < i) (.mk 7 [] [] [] [x] bl []) [.int .i64 7, .string ⟨#[]⟩, .string ⟨#[]⟩, .string ⟨#[]⟩, .slice (some ⟨W3.heap.size, 0, none⟩) 1 1, .slice bp bm bc, .slice none 0 0]) := hide (StC.mk
               (ArgsV.some (args := [_]) hs3 (heap_lt hn8) (Nat.le_refl _) (range_blk hn8) (ExsC.cons (hx8.mono (fun i hi => by have : _ ≤ i := hi.1; have := hg3.out; omega)) ExsC.nil))
               (StsV.mono (fun i hi => by have : _ ≤ i := hi; have hzz := (heap_lt hnewD.out); omega) hx) StsV.nil)
             have HA9 := HA8
             obtain ⟨⟨c0, c1, c2, c3, c4, c5, c6⟩, f0, f1, f2, f3, f4, f5, f6⟩ := HA9.out.2.2.2.cells
             clear hn8
             clear hA hx hx0 hx8 hX8 k38 hR3 hs8 hs3 HA8)
          | (refine step_part (by rfl) 91 _ _ (by rfl) (cf_block _) (by rfl) hcD hneB (fun l n c w9 e hr h5 k5 => ⟨rfl, by rw [← e, ← hQ.out]; exact part_no (bind_no HR.out hr) h5 (HA.out.new kD.out).2.2.1 k5⟩) ?_
             rintro bl ts3 v w8 hR3 hx hA
             have HR3 := hide (bind_ok HR.out hR3)
             have hx0 : StsV w8 (fun i => _ ≤ i) bl v := hx
             obtain ⟨bp, bm, bc, rfl⟩ := hx0.form
             have HA8 := hide ((HA.out.new kD.out).adv hA hgb.out)
             have k38 := (kF kD.out b).trans hA.2.2 (fun _ _ q => q)
             have hx8 := HX3.out.keeps k38 (fun i hi q => by have : _ ≤ i := hi.1; have := hg3.out; have := hbw.out; omega)
             have hX8 := H3.out.keeps k38 (fun q => by have := hgx2.out; have := hbw.out; omega)
             obtain ⟨⟨y0, y1, y2, y3, y4⟩, -⟩ := hX8.cells
             have hs8 := hA.2.2.size
             have hs3 := HA.out.lt
             have kA8 := (Keeps.refl w8 (fun _ => False)).alloc (.cells #[.int .i64 k', .int .i64 n', .string (sB nm), .string (sB op), .slice sp sm sc] 42)
             have hn8 := heap_alloc_new w8 (.cells #[.int .i64 k', .int .i64 n', .string (sB nm), .string (sB op), .slice sp sm sc] 42)
             have hzz : W3.drew.heap.size = W3.heap.size := rfl
             have HT : Hid (StC (w8.alloc (.cells #[.int .i64 k', .int .i64 n', .string (sB nm), .string (sB op), .slice sp sm sc] 42)) (fun i => w.heap.size < i) (.mk 7 [] [] [] [x] bl []) [.int .i64 7, .string ⟨#[]⟩, .string ⟨#[]⟩, .string ⟨#[]⟩, .slice (some ⟨w8.heap.size, 0, none⟩) 1 1, .slice bp bm bc, .slice none 0 0]) := hide (StC.mk
               (ArgsV.some (args := [_]) (show w.heap.size < w8.heap.size by omega) (heap_lt hn8) (Nat.le_refl _) (range_blk hn8) (ExsC.cons ((hx8.keeps kA8 (fun _ _ q => q)).mono (fun i hi => by have : _ ≤ i := hi.1; have := hg3.out; omega)) ExsC.nil))
               (StsV.mono (fun i hi => by have : _ ≤ i := hi; omega) (StsV.keeps kA8 (fun _ _ q => q) hx)) StsV.nil)
             have HA9 := hide (HA8.out.new kA8)
             obtain ⟨⟨c0, c1, c2, c3, c4, c5, c6⟩, f0, f1, f2, f3, f4, f5, f6⟩ := HA9.out.2.2.2.cells
             clear kA8 hn8 hzz
             clear hA hx hx0 hx8 hX8 k38 hR3 hs8 hs3 HA8))
        all_goals (
          generalize hgz : w.heap.size = g at *
          replace hgz := hide hgz
          go_wp2_with fail
          refine set7 (P := fun W => bodyPost _ _ _ _ _ W) HA9.out.2.2.2 fun W5 h11 k11 => ?_
          obtain ⟨⟨q0, q1, q2, q3, q4, q5, q6⟩, -⟩ := h11.cells)
        · refine bodyPost_ret (v := .agg #[.int .i64 7, .string ⟨#[]⟩, .string ⟨#[]⟩, .string ⟨#[]⟩, .slice (some ⟨W3.heap.size, 0, none⟩) 1 1, .slice bp bm bc, .slice none 0 0]) (by simp [results, Tryd.results67, go_sem, q0, q1, q2, q3, q4, q5, q6]) rfl ?_
          rw [← hQ.out]
          exact part_ok HR3.out (res_st rfl hgz.out HA9.out.2.2.1 HT.out (fun i hi => hi) HA9.out.1 HA9.out.2.1 hbw.out k11)
        · refine bodyPost_ret (v := .agg #[.int .i64 7, .string ⟨#[]⟩, .string ⟨#[]⟩, .string ⟨#[]⟩, .slice (some ⟨w8.heap.size, 0, none⟩) 1 1, .slice bp bm bc, .slice none 0 0]) (by simp [results, Tryd.results67, go_sem, q0, q1, q2, q3, q4, q5, q6]) rfl ?_
          rw [← hQ.out]
          exact part_ok HR3.out (res_st rfl hgz.out HA9.out.2.2.1 HT.out (fun i hi => hi) HA9.out.1 HA9.out.2.1 hbw.out k11)
        · refine bodyPost_ret (v := .agg #[.int .i64 7, .string ⟨#[]⟩, .string ⟨#[]⟩, .string ⟨#[]⟩, .slice (some ⟨w8.heap.size, 0, none⟩) 1 1, .slice bp bm bc, .slice none 0 0]) (by simp [results, Tryd.results67, go_sem, q0, q1, q2, q3, q4, q5, q6]) rfl ?_
          rw [← hQ.out]
          exact part_ok HR3.out (res_st rfl hgz.out HA9.out.2.2.1 HT.out (fun i hi => hi) HA9.out.1 HA9.out.2.1 hbw.out k11)
    | false =>
      have hm : Calls Tryd.prog 64 #[.pointer (some ⟨b, 0, none⟩), .string ⟨#[119, 104, 105, 108, 101]⟩] _ fun e w' => e = .returned (.bool (isF kWhile (ts))) ∧ AdvP _ b T (if isF kWhile (ts) then (ts).tail else (ts)) w' := met_any HA.out.1 HA.out.2.1 kWhile
      rw [hF11] at hm
      simp only [Bool.false_eq_true, if_false] at hm
      replace HR := hide (HR.out.trans (if_neg (by rw [hF11]; decide)))
      clear hF11
      go_upto_region 6 with (go_at_call 64; (with_reducible refine hm.mono ?_); rintro e wm11 ⟨rfl, hA⟩)
      replace HA := hide (HA.out.adv hA hgb.out)
      clear hm hA
      cases hF12 : isF kFor ts with
      | true =>
        have hm : Calls Tryd.prog 64 #[.pointer (some ⟨b, 0, none⟩), .string ⟨#[102, 111, 114]⟩] _ fun e w' => e = .returned (.bool (isF kFor (ts))) ∧ AdvP _ b T (if isF kFor (ts) then (ts).tail else (ts)) w' := met_any HA.out.1 HA.out.2.1 kFor
        rw [hF12] at hm
        simp only [if_true] at hm
        replace HR := hide (HR.out.trans (if_pos hF12))
        clear hF12
        go_upto_region 7 with (go_at_call 64; (with_reducible refine hm.mono ?_); rintro e wm12 ⟨rfl, hA⟩)
        replace HA := hide (HA.out.adv hA hgb.out)
        clear hm hA
        have hne3 : rangeD n (ts.tail) ≠ .out := fun q => HRo.out (HR.out.trans q)
        have hc := HRg.out _ (ts.tail) HA.out.1 HA.out.2.1 hne3
        cases hR3 : rangeD n (ts.tail) with
        | out => exact absurd hR3 (fun q => HRo.out (HR.out.trans q))
        | no l er =>
          rw [hR3] at hc
          replace HR := hide (HR.out.trans hR3)
          clear hR3 hne3
          go_wp2_with fail
          refine hc.mono ?_
          rintro e w9 ⟨rfl, h5, k5⟩
          refine ⟨rfl, ?_⟩
          rw [← hQ.out]
          exact part_no HR.out h5 HA.out.2.2.1 k5
        | ok x ts2 =>
          rw [hR3] at hc
          replace HR := hide (HR.out.trans hR3)
          clear hR3 hne3
          go_wp2_with fail
          have hg3 := hide HA.out.lt
          refine hc.mono ?_
          rintro e w2 ⟨v, rfl, ⟨cs, hv, hx⟩, hA⟩
          have HX := hide hx
          have hs3 := hide hA.2.2.size
          obtain ⟨k', nm, ky, vl, ep, em, ec, bp, bm, bc, lp, lm, lc, rfl⟩ := hx.form
          replace hv : v = .agg #[.int .i64 k', .string (sB nm), .string (sB ky), .string (sB vl), .slice ep em ec, .slice bp bm bc, .slice lp lm lc] := hv
          subst hv
          replace HA := hide (HA.out.adv hA hgb.out)
          clear hc hA hx
          obtain ⟨⟨c0, c1, c2, c3, c4, c5, c6⟩, f0, f1, f2, f3, f4, f5, f6⟩ := HA.out.2.2.2.cells
          generalize hgz : w.heap.size = g at *
          replace hgz := hide hgz
          go_wp2_with fail
          refine set7 (P := fun W => bodyPost _ _ _ _ _ W) HA.out.2.2.2 fun W5 h11 k11 => ?_
          obtain ⟨⟨q0, q1, q2, q3, q4, q5, q6⟩, -⟩ := h11.cells
          refine bodyPost_ret (v := .agg #[.int .i64 k', .string (sB nm), .string (sB ky), .string (sB vl), .slice ep em ec, .slice bp bm bc, .slice lp lm lc]) (by simp [results, Tryd.results67, go_sem, q0, q1, q2, q3, q4, q5, q6]) rfl ?_
          rw [← hQ.out]
          exact part_ok HR.out (res_st rfl hgz.out HA.out.2.2.1 (HX.out) (fun i hi => Nat.lt_of_lt_of_le hg3.out hi) HA.out.1 HA.out.2.1 hbw.out k11)
      | false =>
        have hm : Calls Tryd.prog 64 #[.pointer (some ⟨b, 0, none⟩), .string ⟨#[102, 111, 114]⟩] _ fun e w' => e = .returned (.bool (isF kFor (ts))) ∧ AdvP _ b T (if isF kFor (ts) then (ts).tail else (ts)) w' := met_any HA.out.1 HA.out.2.1 kFor
        rw [hF12] at hm
        simp only [Bool.false_eq_true, if_false] at hm
        replace HR := hide (HR.out.trans (if_neg (by rw [hF12]; decide)))
        clear hF12
        go_upto_region 8 with (go_at_call 64; (with_reducible refine hm.mono ?_); rintro e wm12 ⟨rfl, hA⟩)
        replace HA := hide (HA.out.adv hA hgb.out)
        clear hm hA
        have hne4 : plainD n (ts) ≠ .out := bind_out HR.out HRo.out
        have hc := HPl.out _ (ts) HA.out.1 HA.out.2.1 hne4
        cases hR4 : plainD n (ts) with
        | out => exact absurd hR4 (bind_out HR.out HRo.out)
        | no l er =>
          rw [hR4] at hc
          replace HR := hide (bind_no HR.out hR4)
          clear hR4 hne4
          go_wp2_with fail
          refine hc.mono ?_
          rintro e w9 ⟨rfl, h5, k5⟩
          refine ⟨rfl, ?_⟩
          rw [← hQ.out]
          exact part_no HR.out h5 HA.out.2.2.1 k5
        | ok x ts2 =>
          rw [hR4] at hc
          replace HR := hide (bind_ok HR.out hR4)
          clear hR4 hne4
          go_wp2_with fail
          have hg4 := hide HA.out.lt
          refine hc.mono ?_
          rintro e w2 ⟨v, rfl, ⟨cs, hv, hx⟩, hA⟩
          have HX := hide hx
          have hs4 := hide hA.2.2.size
          obtain ⟨k', nm, ky, vl, ep, em, ec, bp, bm, bc, lp, lm, lc, rfl⟩ := hx.form
          replace hv : v = .agg #[.int .i64 k', .string (sB nm), .string (sB ky), .string (sB vl), .slice ep em ec, .slice bp bm bc, .slice lp lm lc] := hv
          subst hv
          replace HA := hide (HA.out.adv hA hgb.out)
          clear hc hA hx
          go_upto_region 9 with fail
          refine alloc1 (P := fun W => Code.wp _ _ _ _ W) fun W1 h1 hz1 k1 => ?_
          have hgl := hide HA.out.lt
          have HS : Hid (Sc W1 w2.heap.size (.int .i64 k') (.string (sB nm)) (.string (sB ky)) (.string (sB vl)) (.slice ep em ec) (.slice bp bm bc) (.slice lp lm lc)) := hide h1
          have HX1 := hide (HX.out.keeps k1 (fun _ _ q => q))
          replace HA := hide (HA.out.new k1)
          clear h1 hz1 k1 HX
          generalize w2.heap.size = gs at *
          have hbs : Hid (¬ gs = b) := hide (fun q => by have := hgl.out; have := hbw.out; omega)
          have hc : Calls Tryd.prog 66 #[.pointer (some ⟨b, 0, none⟩), .string ⟨#[59]⟩] _ (Part _ b T (mustD kSemi (ts2)) fun _ v _ => v = .tuple #[]) := must_any HA.out.1 HA.out.2.1 kSemi
          cases hR5 : mustD kSemi (ts2) with
          | out => exact absurd hR5 (bind_out HR.out HRo.out)
          | no l er =>
            rw [hR5] at hc
            replace HR := hide (bind_no HR.out hR5)
            clear hR5
            go_wp2_with fail
            refine hc.mono ?_
            rintro e w9 ⟨rfl, h5, k5⟩
            refine ⟨rfl, ?_⟩
            rw [← hQ.out]
            exact part_no HR.out h5 HA.out.2.2.1 k5
          | ok u5 ts3 =>
            rw [hR5] at hc
            replace HR := hide (bind_ok HR.out hR5)
            clear hR5
            go_wp2_with fail
            refine hc.mono ?_
            rintro e w5 ⟨v0, rfl, rfl, hA⟩
            have HX5 := hide (HX1.out.keeps hA.2.2 (fun i hi q => by have : _ ≤ i := hi; have := hg4.out; have := hbw.out; omega))
            replace HS := hide (HS.out.keeps hA.2.2 hbs.out)
            replace HA := hide (HA.out.adv hA hgb.out)
            clear hc hA HX1
            obtain ⟨⟨d0, d1, d2, d3, d4, d5, d6⟩, e0, e1, e2, e3, e4, e5, e6⟩ := HS.out.cells
            obtain ⟨⟨c0, c1, c2, c3, c4, c5, c6⟩, f0, f1, f2, f3, f4, f5, f6⟩ := HA.out.2.2.2.cells
            generalize hgz : w.heap.size = g at *
            replace hgz := hide hgz
            go_wp2_with fail
            refine set7 (P := fun W => bodyPost _ _ _ _ _ W) HA.out.2.2.2 fun W5 h11 k11 => ?_
            obtain ⟨⟨q0, q1, q2, q3, q4, q5, q6⟩, -⟩ := h11.cells
            refine bodyPost_ret (v := .agg #[.int .i64 k', .string (sB nm), .string (sB ky), .string (sB vl), .slice ep em ec, .slice bp bm bc, .slice lp lm lc]) (by simp [results, Tryd.results67, go_sem, q0, q1, q2, q3, q4, q5, q6]) rfl ?_
            rw [← hQ.out]
            exact part_ok HR.out (res_st rfl hgz.out HA.out.2.2.1 (HX5.out) (fun i hi => Nat.lt_of_lt_of_le hg4.out hi) HA.out.1 HA.out.2.1 hbw.out k11)
end Lg
end Go.Proofs.YtlpfnikhnchpdaaDoor
