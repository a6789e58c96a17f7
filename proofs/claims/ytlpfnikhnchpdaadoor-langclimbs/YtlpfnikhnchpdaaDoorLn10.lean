import Derived.Recover
import Derived.Defers
import Derived.Test.YtlpfnikhnchpdaaDoorLn9
/-
  lang: assignment. (Made by genLGW.py.)
-/
namespace Go.Proofs.YtlpfnikhnchpdaaDoor
namespace Lg
open Go.RowKit
set_option linter.unusedVariables false

set_option maxRecDepth 100000 in
set_option maxHeartbeats 4000000 in
theorem assignment_step {b : Nat} {T : Bs} {n : Nat} (hK : Reads 116 #[.pointer (some ⟨b, 0, none⟩)] b T (keyD n)) (hX : Reads 90 #[.pointer (some ⟨b, 0, none⟩)] b T (joinedD n 1)) : ReadsG 118 #[.pointer (some ⟨b, 0, none⟩)] b T (assignD n) StG := by
  intro w ts h E hD
  have hbw := hide h.lt
  have hgb := hide (show ¬ w.heap.size = b from fun q => Nat.lt_irrefl _ (q ▸ h.lt))
  have HI := hide (And.intro h E)
  clear h E
  obtain ⟨R, hR⟩ : ∃ R, assignD n ts = R := ⟨_, rfl⟩
  have HR : Hid (R = (nameD ts).bind fun s ts2 =>
    if isF kLb ts2 = true then (keyD n ts2).bind fun k ts3 => (mustD kEq ts3).bind fun _ ts4 => (joinedD n 1 ts4).bind fun x ts5 => .ok (.mk 2 s [] [] [k, x] [] []) ts5
    else (mustD kEq ts2).bind fun _ ts4 => (joinedD n 1 ts4).bind fun x ts5 => .ok (.mk 1 s [] [] [x] [] []) ts5) := hide (by rw [← hR]; first | rfl | (unfold assignD; rfl))
  rw [hR] at hD ⊢
  have HRo := hide hD
  generalize hQ : Part w b T R (StG w.heap.size) = Q
  replace hQ := hide hQ
  clear hR hD
  have HKy := hide hK
  have HEx := hide hX
  clear hK hX
  go_enter Tryd.func118, Tryd.ntmps118
  go_upto_region 1 with fail
  refine alloc1 (P := fun W => Code.wp _ _ _ _ W) fun W0 hg hz k0 => ?_
  have HA : Hid (AtS w w.heap.size b T ts W0) := hide ⟨HI.out.1.keeps k0 id, HI.out.2.keeps k0 (fun _ q => q.elim), kF k0 b, hg⟩
  clear hg hz k0 HI
  have hc : Calls Tryd.prog 65 #[.pointer (some ⟨b, 0, none⟩)] _ (Part _ b T (nameD (ts)) fun s v _ => v = .string (sB s)) := name_any HA.out.1 HA.out.2.1
  cases hR1 : nameD (ts) with
  | out => exact absurd hR1 (bind_out HR.out HRo.out)
  | no l er =>
    rw [hR1] at hc
    replace HR := hide (bind_no HR.out hR1)
    clear hR1
    go_wp2_with fail
    refine hc.mono ?_
    rintro e w9 ⟨rfl, h5, k5⟩
    refine ⟨rfl, ?_⟩
    rw [← hQ.out]
    exact part_no HR.out h5 HA.out.2.2.1 k5
  | ok s ts2 =>
    rw [hR1] at hc
    replace HR := hide (bind_ok HR.out hR1)
    clear hR1
    go_wp2_with fail
    refine hc.mono ?_
    rintro e wn1 ⟨v0, rfl, rfl, hA⟩
    replace HA := hide (HA.out.adv hA hgb.out)
    clear hc hA
    have hgl := hide HA.out.lt
    go_upto_region 2 with fail
    refine alloc1 (P := fun W => Code.wp _ _ _ _ W) fun W1 h1 hz1 k1 => ?_
    have HS : Hid (Sc W1 wn1.heap.size (.int .i64 1) (.string (sB s)) (.string ⟨#[]⟩) (.string ⟨#[]⟩) (.slice none 0 0) (.slice none 0 0) (.slice none 0 0)) := hide h1
    have hgl2 := hide (show wn1.heap.size < W1.heap.size by omega)
    replace HA := hide (HA.out.new k1)
    clear h1 hz1 k1
    generalize wn1.heap.size = gs at *
    have hbs : Hid (¬ gs = b) := hide (fun q => by have := hgl.out; have := hbw.out; omega)
    have hgg : Hid (¬ w.heap.size = gs) := hide (fun q => by have := hgl.out; omega)
    have hle : Hid (w.heap.size ≤ gs) := hide (Nat.le_of_lt hgl.out)
    cases hF2 : isF kLb ts2 with
    | true =>
      have hm : Calls Tryd.prog 86 #[.pointer (some ⟨b, 0, none⟩), .string ⟨#[91]⟩] _ fun e w' => e = .returned (.bool (isF kLb (ts2))) ∧ w' = _ := is_any HA.out.1 kLb
      rw [hF2] at hm
      replace HR := hide (HR.out.trans (if_pos hF2))
      clear hF2
      go_upto_region 3 with (go_at_call 86; (with_reducible refine hm.mono ?_); rintro e wm2 ⟨rfl, rfl⟩)
      clear hm
      obtain ⟨⟨d0, d1, d2, d3, d4, d5, d6⟩, e0, e1, e2, e3, e4, e5, e6⟩ := HS.out.cells
      go_upto_region 4 with fail
      refine Sc.set0 (P := fun W => Code.wp _ _ _ _ W) _ HS.out fun W1 h1 k1 => ?_
      replace HA := hide (HA.out.own k1 hle.out hbw.out hgg.out)
      replace HS := hide h1
      clear d0 d1 d2 d3 d4 d5 d6 e0 e1 e2 e3 e4 e5 e6
      clear h1 k1
      have HL : Hid (ExsR W1 (gs + 1) (.slice none 0 0) []) := hide (ExsR.nil _ _)
      have hne4 : keyD n (ts2) ≠ .out := bind_out HR.out HRo.out
      obtain ⟨⟨d0, d1, d2, d3, d4, d5, d6⟩, e0, e1, e2, e3, e4, e5, e6⟩ := HS.out.cells
      have kD := hide ((Keeps.refl W1 (fun _ => False)).drew)
      have hcF := HKy.out _ (ts2) (HA.out.new kD.out).1 (HA.out.new kD.out).2.1 hne4
      go_region_law (first
        | (refine step_append_run (by rfl) _ _ 40 (by rfl) (by rfl) (by rfl) hap ?_)
        | (refine step_part (by rfl) 116 _ _ (by rfl) (cf_key _) (by rfl) hcF hne4 (fun l n c w9 e hr h5 k5 => ⟨rfl, by rw [← e, ← hQ.out]; exact part_no (bind_no HR.out hr) h5 (HA.out.new kD.out).2.2.1 k5⟩) ?_
           rintro k ts3 v w8 hR3 ⟨cs, hv, hx⟩ hA
           have HR3 := hide (bind_ok HR.out hR3)
           obtain ⟨k', n', nm, op, sp, sm, sc, rfl⟩ := hx.form
           replace hv : v = .agg #[.int .i64 k', .int .i64 n', .string (sB nm), .string (sB op), .slice sp sm sc] := hv
           subst hv
           have HS8 := HS.out.keeps ((kF kD.out b).trans hA.2.2 (fun _ _ q => q)) hbs.out
           have HA8 := hide ((HA.out.new kD.out).adv hA hgb.out)
           have hL8 := (HL.out.keeps kD.out (fun _ _ q => q)).keeps hA.2.2 (fun i hi q => by have := hbw.out; have := hle.out; omega)
           have hsz8 := hA.2.2.size
           have hgs8 := HS8.lt
           have hgsW := HS.out.lt
           obtain ⟨g2, cp, W6, hap, hrow, k6⟩ := hL8.step (m := 1) rfl hx (fun i hi => by
             have hi' : _ ≤ i := hi
             have hzz : W1.drew.heap.size = W1.heap.size := rfl
             refine ⟨by omega, fun q => ?_⟩
             exact nomatch (show (none : Option Nat) = some i from q)) (by decide) (by omega)
           have HS8a := HS8.keeps ((Keeps.refl w8 (fun _ => False)).alloc (.cells #[.int .i64 k', .int .i64 n', .string (sB nm), .string (sB op), .slice sp sm sc] 42)) id
           have HS6 := HS8.keeps k6 (fun q => by have := hL8.own_ge q; omega)
           have HF := hide (And.intro hrow (And.intro k6 hL8))
           obtain ⟨⟨d80, d81, d82, d83, d84, d85, d86⟩, -⟩ := HS8.cells
           obtain ⟨⟨da0, da1, da2, da3, da4, da5, da6⟩, -⟩ := HS8a.cells
           obtain ⟨⟨d60, d61, d62, d63, d64, d65, d66⟩, e60, e61, e62, e63, e64, e65, e66⟩ := HS6.cells
           have HS6' := hide HS6
           clear hA hx hL8 hrow k6 HS8a HS8 HS6 hR3 hsz8 hgs8 hgsW))
      all_goals (
        go_upto_region 5 with fail
        refine Sc.set4 (P := fun W => Code.wp _ _ _ _ W) _ HS6'.out fun W7 h7 k7 => ?_
        have hgs7 := HS6'.out.lt
        have kb := (HF.out.2.1.mono (S1 := fun i => gs + 1 ≤ i) (fun i hi q => HF.out.2.2.own_ge q))
        have HA6 : Hid (AtS w w.heap.size b T ts3 W7) := by
          have ha := HA8.out
          have hb1 := hbw.out
          have hl1 := hle.out
          have hA6 : AtS w w.heap.size b T ts3 W6 := ⟨ha.1.keeps kb (fun q => by have : _ ≤ b := q; omega), ha.2.1.keeps kb (fun i q => by have h9 := ha.2.1.hi; have : _ ≤ i := q; unfold Hi at h9 ⊢; omega), ha.2.2.1.trans kb (fun i hi q => by have : _ ≤ i := q; omega), ha.2.2.2.keeps kb (fun q => by have : _ ≤ w.heap.size := q; omega)⟩
          exact hide (hA6.own k7 hl1 hb1 hgg.out)
        have HL7 := hide (HF.out.1.keeps k7 (fun i hi q => by omega))
        have HS7 := hide h7
        replace HR := HR3
        clear hne4 hcF kD HA HA8 HS HS6' HL HF h7 k7 kb hgs7 HR3 d0 d1 d2 d3 d4 d5 d6 e0 e1 e2 e3 e4 e5 e6 d80 d81 d82 d83 d84 d85 d86 da0 da1 da2 da3 da4 da5 da6 d60 d61 d62 d63 d64 d65 d66 e60 e61 e62 e63 e64 e65 e66 hap
        have HA := HA6
        have HS := HS7
        have HL := HL7
        clear HA6 HS7 HL7
        have hc : Calls Tryd.prog 66 #[.pointer (some ⟨b, 0, none⟩), .string ⟨#[61]⟩] _ (Part _ b T (mustD kEq (ts3)) fun _ v _ => v = .tuple #[]) := must_any HA.out.1 HA.out.2.1 kEq
        cases hR6 : mustD kEq (ts3) with
        | out => exact absurd hR6 (bind_out HR.out HRo.out)
        | no l er =>
          rw [hR6] at hc
          replace HR := hide (bind_no HR.out hR6)
          clear hR6
          go_wp2_with fail
          refine hc.mono ?_
          rintro e w9 ⟨rfl, h5, k5⟩
          refine ⟨rfl, ?_⟩
          rw [← hQ.out]
          exact part_no HR.out h5 HA.out.2.2.1 k5
        | ok u6 ts4 =>
          rw [hR6] at hc
          replace HR := hide (bind_ok HR.out hR6)
          clear hR6
          go_wp2_with fail
          refine hc.mono ?_
          rintro e wm ⟨v0, rfl, rfl, hA⟩
          have HL9 := hide (HL.out.keeps hA.2.2 (fun i hi q => by have := hbw.out; have := hle.out; omega))
          replace HS := hide (HS.out.keeps hA.2.2 hbs.out)
          replace HA := hide (HA.out.adv hA hgb.out)
          clear hc hA HL
          have HL := HL9
          clear HL9
          go_upto_region 6 with fail
          have hne8 : joinedD n 1 (ts4) ≠ .out := bind_out HR.out HRo.out
          obtain ⟨⟨d0, d1, d2, d3, d4, d5, d6⟩, e0, e1, e2, e3, e4, e5, e6⟩ := HS.out.cells
          have kD := hide ((Keeps.refl wm (fun _ => False)).drew)
          have hcF := HEx.out _ (ts4) (HA.out.new kD.out).1 (HA.out.new kD.out).2.1 hne8
          go_region_law (first
            | (refine step_append_run (by rfl) _ _ 40 (by rfl) (by rfl) (by rfl) hap ?_)
            | (refine step_part (by rfl) 90 _ _ (by rfl) (cf_expr _) (by rfl) hcF hne8 (fun l n c w9 e hr h5 k5 => ⟨rfl, by rw [← e, ← hQ.out]; exact part_no (bind_no HR.out hr) h5 (HA.out.new kD.out).2.2.1 k5⟩) ?_
               rintro x ts5 v w8 hR3 ⟨cs, hv, hx⟩ hA
               have HR3 := hide (bind_ok HR.out hR3)
               obtain ⟨k', n', nm, op, sp, sm, sc, rfl⟩ := hx.form
               replace hv : v = .agg #[.int .i64 k', .int .i64 n', .string (sB nm), .string (sB op), .slice sp sm sc] := hv
               subst hv
               have HS8 := HS.out.keeps ((kF kD.out b).trans hA.2.2 (fun _ _ q => q)) hbs.out
               have HA8 := hide ((HA.out.new kD.out).adv hA hgb.out)
               have hL8 := (HL.out.keeps kD.out (fun _ _ q => q)).keeps hA.2.2 (fun i hi q => by have := hbw.out; have := hle.out; omega)
               have hsz8 := hA.2.2.size
               have hgs8 := HS8.lt
               have hgsW := HS.out.lt
               obtain ⟨g2, cp, W6, hap, hrow, k6⟩ := hL8.step (m := 2) rfl hx (fun i hi => by
                 have hi' : _ ≤ i := hi
                 have hzz : wm.drew.heap.size = wm.heap.size := rfl
                 refine ⟨by omega, fun q => ?_⟩
                 have := ExsR.own_lt HL.out q
                 omega) (by decide) (by omega)
               have HS8a := HS8.keeps ((Keeps.refl w8 (fun _ => False)).alloc (.cells #[.int .i64 k', .int .i64 n', .string (sB nm), .string (sB op), .slice sp sm sc] 42)) id
               have HS6 := HS8.keeps k6 (fun q => by have := hL8.own_ge q; omega)
               have HF := hide (And.intro hrow (And.intro k6 hL8))
               obtain ⟨⟨d80, d81, d82, d83, d84, d85, d86⟩, -⟩ := HS8.cells
               obtain ⟨⟨da0, da1, da2, da3, da4, da5, da6⟩, -⟩ := HS8a.cells
               obtain ⟨⟨d60, d61, d62, d63, d64, d65, d66⟩, e60, e61, e62, e63, e64, e65, e66⟩ := HS6.cells
               have HS6' := hide HS6
               clear hA hx hL8 hrow k6 HS8a HS8 HS6 hR3 hsz8 hgs8 hgsW))
          all_goals (
            go_upto_region 7 with fail
            refine Sc.set4 (P := fun W => Code.wp _ _ _ _ W) _ HS6'.out fun W7 h7 k7 => ?_
            have hgs7 := HS6'.out.lt
            have kb := (HF.out.2.1.mono (S1 := fun i => gs + 1 ≤ i) (fun i hi q => HF.out.2.2.own_ge q))
            have HA6 : Hid (AtS w w.heap.size b T ts5 W7) := by
              have ha := HA8.out
              have hb1 := hbw.out
              have hl1 := hle.out
              have hA6 : AtS w w.heap.size b T ts5 W6 := ⟨ha.1.keeps kb (fun q => by have : _ ≤ b := q; omega), ha.2.1.keeps kb (fun i q => by have h9 := ha.2.1.hi; have : _ ≤ i := q; unfold Hi at h9 ⊢; omega), ha.2.2.1.trans kb (fun i hi q => by have : _ ≤ i := q; omega), ha.2.2.2.keeps kb (fun q => by have : _ ≤ w.heap.size := q; omega)⟩
              exact hide (hA6.own k7 hl1 hb1 hgg.out)
            have HL7 := hide (HF.out.1.keeps k7 (fun i hi q => by omega))
            have HS7 := hide h7
            replace HR := HR3
            clear hne8 hcF kD HA HA8 HS HS6' HL HF h7 k7 kb hgs7 HR3 d0 d1 d2 d3 d4 d5 d6 e0 e1 e2 e3 e4 e5 e6 d80 d81 d82 d83 d84 d85 d86 da0 da1 da2 da3 da4 da5 da6 d60 d61 d62 d63 d64 d65 d66 e60 e61 e62 e63 e64 e65 e66 hap
            have HA := HA6
            have HS := HS7
            have HL := HL7
            clear HA6 HS7 HL7
            obtain ⟨⟨d0, d1, d2, d3, d4, d5, d6⟩, e0, e1, e2, e3, e4, e5, e6⟩ := HS.out.cells
            obtain ⟨⟨c0, c1, c2, c3, c4, c5, c6⟩, f0, f1, f2, f3, f4, f5, f6⟩ := HA.out.2.2.2.cells
            generalize hgz : w.heap.size = g at *
            replace hgz := hide hgz
            go_wp2_with fail
            refine set7 (P := fun W => bodyPost _ _ _ _ _ W) HA.out.2.2.2 fun W5 h11 k11 => ?_
            obtain ⟨⟨q0, q1, q2, q3, q4, q5, q6⟩, -⟩ := h11.cells
            refine bodyPost_ret (v := .agg #[.int .i64 2, .string (sB s), .string ⟨#[]⟩, .string ⟨#[]⟩, .slice (some ⟨g2, 0, none⟩) 2 cp, .slice none 0 0, .slice none 0 0]) (by simp [results, Tryd.results118, go_sem, q0, q1, q2, q3, q4, q5, q6]) rfl ?_
            rw [← hQ.out]
            exact part_ok HR.out (res_st rfl hgz.out HA.out.2.2.1 (StC.mk HL.out.args StsV.nil StsV.nil) (fun i hi => by have : _ ≤ i := hi; have := hgl.out; omega) HA.out.1 HA.out.2.1 hbw.out k11)))
    | false =>
      have hm : Calls Tryd.prog 86 #[.pointer (some ⟨b, 0, none⟩), .string ⟨#[91]⟩] _ fun e w' => e = .returned (.bool (isF kLb (ts2))) ∧ w' = _ := is_any HA.out.1 kLb
      rw [hF2] at hm
      replace HR := hide (HR.out.trans (if_neg (by rw [hF2]; decide)))
      clear hF2
      go_upto_region 5 with (go_at_call 86; (with_reducible refine hm.mono ?_); rintro e wm2 ⟨rfl, rfl⟩)
      clear hm
      have hc : Calls Tryd.prog 66 #[.pointer (some ⟨b, 0, none⟩), .string ⟨#[61]⟩] _ (Part _ b T (mustD kEq (ts2)) fun _ v _ => v = .tuple #[]) := must_any HA.out.1 HA.out.2.1 kEq
      cases hR5 : mustD kEq (ts2) with
      | out => exact absurd hR5 (bind_out HR.out HRo.out)
      | no l er =>
        rw [hR5] at hc
        replace HR := hide (bind_no HR.out hR5)
        clear hR5
        go_wp2_with fail
        refine hc.mono ?_
        rintro e w9 ⟨rfl, h5, k5⟩
        refine ⟨rfl, ?_⟩
        rw [← hQ.out]
        exact part_no HR.out h5 HA.out.2.2.1 k5
      | ok u5 ts4 =>
        rw [hR5] at hc
        replace HR := hide (bind_ok HR.out hR5)
        clear hR5
        have HL : Hid (ExsR wm2 (gs + 1) (.slice none 0 0) []) := hide (ExsR.nil _ _)
        go_wp2_with fail
        refine hc.mono ?_
        rintro e wm ⟨v0, rfl, rfl, hA⟩
        have HL9 := hide (HL.out.keeps hA.2.2 (fun i hi q => by have := hbw.out; have := hle.out; omega))
        replace HS := hide (HS.out.keeps hA.2.2 hbs.out)
        replace HA := hide (HA.out.adv hA hgb.out)
        clear hc hA HL
        have HL := HL9
        clear HL9
        go_upto_region 6 with fail
        have hne7 : joinedD n 1 (ts4) ≠ .out := bind_out HR.out HRo.out
        obtain ⟨⟨d0, d1, d2, d3, d4, d5, d6⟩, e0, e1, e2, e3, e4, e5, e6⟩ := HS.out.cells
        have kD := hide ((Keeps.refl wm (fun _ => False)).drew)
        have hcF := HEx.out _ (ts4) (HA.out.new kD.out).1 (HA.out.new kD.out).2.1 hne7
        go_region_law (first
          | (refine step_append_run (by rfl) _ _ 40 (by rfl) (by rfl) (by rfl) hap ?_)
          | (refine step_part (by rfl) 90 _ _ (by rfl) (cf_expr _) (by rfl) hcF hne7 (fun l n c w9 e hr h5 k5 => ⟨rfl, by rw [← e, ← hQ.out]; exact part_no (bind_no HR.out hr) h5 (HA.out.new kD.out).2.2.1 k5⟩) ?_
             rintro x ts5 v w8 hR3 ⟨cs, hv, hx⟩ hA
             have HR3 := hide (bind_ok HR.out hR3)
             obtain ⟨k', n', nm, op, sp, sm, sc, rfl⟩ := hx.form
             replace hv : v = .agg #[.int .i64 k', .int .i64 n', .string (sB nm), .string (sB op), .slice sp sm sc] := hv
             subst hv
             have HS8 := HS.out.keeps ((kF kD.out b).trans hA.2.2 (fun _ _ q => q)) hbs.out
             have HA8 := hide ((HA.out.new kD.out).adv hA hgb.out)
             have hL8 := (HL.out.keeps kD.out (fun _ _ q => q)).keeps hA.2.2 (fun i hi q => by have := hbw.out; have := hle.out; omega)
             have hsz8 := hA.2.2.size
             have hgs8 := HS8.lt
             have hgsW := HS.out.lt
             obtain ⟨g2, cp, W6, hap, hrow, k6⟩ := hL8.step (m := 1) rfl hx (fun i hi => by
               have hi' : _ ≤ i := hi
               have hzz : wm.drew.heap.size = wm.heap.size := rfl
               refine ⟨by omega, fun q => ?_⟩
               exact nomatch (show (none : Option Nat) = some i from q)) (by decide) (by omega)
             have HS8a := HS8.keeps ((Keeps.refl w8 (fun _ => False)).alloc (.cells #[.int .i64 k', .int .i64 n', .string (sB nm), .string (sB op), .slice sp sm sc] 42)) id
             have HS6 := HS8.keeps k6 (fun q => by have := hL8.own_ge q; omega)
             have HF := hide (And.intro hrow (And.intro k6 hL8))
             obtain ⟨⟨d80, d81, d82, d83, d84, d85, d86⟩, -⟩ := HS8.cells
             obtain ⟨⟨da0, da1, da2, da3, da4, da5, da6⟩, -⟩ := HS8a.cells
             obtain ⟨⟨d60, d61, d62, d63, d64, d65, d66⟩, e60, e61, e62, e63, e64, e65, e66⟩ := HS6.cells
             have HS6' := hide HS6
             clear hA hx hL8 hrow k6 HS8a HS8 HS6 hR3 hsz8 hgs8 hgsW))
        all_goals (
          go_upto_region 7 with fail
          refine Sc.set4 (P := fun W => Code.wp _ _ _ _ W) _ HS6'.out fun W7 h7 k7 => ?_
          have hgs7 := HS6'.out.lt
          have kb := (HF.out.2.1.mono (S1 := fun i => gs + 1 ≤ i) (fun i hi q => HF.out.2.2.own_ge q))
          have HA6 : Hid (AtS w w.heap.size b T ts5 W7) := by
            have ha := HA8.out
            have hb1 := hbw.out
            have hl1 := hle.out
            have hA6 : AtS w w.heap.size b T ts5 W6 := ⟨ha.1.keeps kb (fun q => by have : _ ≤ b := q; omega), ha.2.1.keeps kb (fun i q => by have h9 := ha.2.1.hi; have : _ ≤ i := q; unfold Hi at h9 ⊢; omega), ha.2.2.1.trans kb (fun i hi q => by have : _ ≤ i := q; omega), ha.2.2.2.keeps kb (fun q => by have : _ ≤ w.heap.size := q; omega)⟩
            exact hide (hA6.own k7 hl1 hb1 hgg.out)
          have HL7 := hide (HF.out.1.keeps k7 (fun i hi q => by omega))
          have HS7 := hide h7
          replace HR := HR3
          clear hne7 hcF kD HA HA8 HS HS6' HL HF h7 k7 kb hgs7 HR3 d0 d1 d2 d3 d4 d5 d6 e0 e1 e2 e3 e4 e5 e6 d80 d81 d82 d83 d84 d85 d86 da0 da1 da2 da3 da4 da5 da6 d60 d61 d62 d63 d64 d65 d66 e60 e61 e62 e63 e64 e65 e66 hap
          have HA := HA6
          have HS := HS7
          have HL := HL7
          clear HA6 HS7 HL7
          obtain ⟨⟨d0, d1, d2, d3, d4, d5, d6⟩, e0, e1, e2, e3, e4, e5, e6⟩ := HS.out.cells
          obtain ⟨⟨c0, c1, c2, c3, c4, c5, c6⟩, f0, f1, f2, f3, f4, f5, f6⟩ := HA.out.2.2.2.cells
          generalize hgz : w.heap.size = g at *
          replace hgz := hide hgz
          go_wp2_with fail
          refine set7 (P := fun W => bodyPost _ _ _ _ _ W) HA.out.2.2.2 fun W5 h11 k11 => ?_
          obtain ⟨⟨q0, q1, q2, q3, q4, q5, q6⟩, -⟩ := h11.cells
          refine bodyPost_ret (v := .agg #[.int .i64 1, .string (sB s), .string ⟨#[]⟩, .string ⟨#[]⟩, .slice (some ⟨g2, 0, none⟩) 1 cp, .slice none 0 0, .slice none 0 0]) (by simp [results, Tryd.results118, go_sem, q0, q1, q2, q3, q4, q5, q6]) rfl ?_
          rw [← hQ.out]
          exact part_ok HR.out (res_st rfl hgz.out HA.out.2.2.1 (StC.mk HL.out.args StsV.nil StsV.nil) (fun i hi => by have : _ ≤ i := hi; have := hgl.out; omega) HA.out.1 HA.out.2.1 hbw.out k11))
end Lg
end Go.Proofs.YtlpfnikhnchpdaaDoor
/-
  lang: plainStmt. (Made by genLGS.py.)
-/
namespace Go.Proofs.YtlpfnikhnchpdaaDoor
namespace Lg
open Go.RowKit
set_option linter.unusedVariables false

set_option maxRecDepth 100000 in
set_option maxHeartbeats 4000000 in
theorem plainStmt_step {b : Nat} {T : Bs} {n : Nat} (hK : Reads 116 #[.pointer (some ⟨b, 0, none⟩)] b T (keyD n)) (hP : ReadsG 117 #[.pointer (some ⟨b, 0, none⟩)] b T (printedD n) ExsG) (hS : ReadsG 118 #[.pointer (some ⟨b, 0, none⟩)] b T (assignD n) StG) : ReadsG 93 #[.pointer (some ⟨b, 0, none⟩)] b T (plainD n) StG := by
  intro w ts h E hD
  have hbw := hide h.lt
  have hgb := hide (show ¬ w.heap.size = b from fun q => Nat.lt_irrefl _ (q ▸ h.lt))
  have HI := hide (And.intro h E)
  clear h E
  obtain ⟨R, hR⟩ : ∃ R, plainD n ts = R := ⟨_, rfl⟩
  have HR : Hid (R = if isF kDelete ts = true then (nameD ts.tail).bind fun s ts2 => (keyD n ts2).bind fun k ts3 => .ok (.mk 3 s [] [] [k] [] []) ts3
    else if isF kClear ts = true then (nameD ts.tail).bind fun s ts2 => .ok (.mk 4 s [] [] [] [] []) ts2
    else if isF kPrint ts = true then (printedD n ts.tail).bind fun l ts2 => .ok (.mk 5 [] [] [] l [] []) ts2
    else if isF kBreak ts = true then .ok (.mk 9 [] [] [] [] [] []) ts.tail
    else if isF kContinue ts = true then .ok (.mk 10 [] [] [] [] [] []) ts.tail
    else assignD n ts) := hide (by rw [← hR]; first | rfl | (unfold plainD; rfl))
  rw [hR] at hD ⊢
  have HRo := hide hD
  generalize hQ : Part w b T R (StG w.heap.size) = Q
  replace hQ := hide hQ
  clear hR hD
  have HKy := hide hK
  have HPr := hide hP
  have HAs := hide hS
  clear hK hP hS
  go_enter Tryd.func93, Tryd.ntmps93
  go_upto_region 1 with fail
  refine alloc1 (P := fun W => Code.wp _ _ _ _ W) fun W0 hg hz k0 => ?_
  have HA : Hid (AtS w w.heap.size b T ts W0) := hide ⟨HI.out.1.keeps k0 id, HI.out.2.keeps k0 (fun _ q => q.elim), kF k0 b, hg⟩
  clear hg hz k0 HI
  cases hF1 : isF kDelete ts with
  | true =>
    have hm : Calls Tryd.prog 64 #[.pointer (some ⟨b, 0, none⟩), .string ⟨#[100, 101, 108, 101, 116, 101]⟩] _ fun e w' => e = .returned (.bool (isF kDelete (ts))) ∧ AdvP _ b T (if isF kDelete (ts) then (ts).tail else (ts)) w' := met_any HA.out.1 HA.out.2.1 kDelete
    rw [hF1] at hm
    simp only [if_true] at hm
    replace HR := hide (HR.out.trans (if_pos hF1))
    clear hF1
    go_upto_region 2 with (go_at_call 64; (with_reducible refine hm.mono ?_); rintro e wm1 ⟨rfl, hA⟩)
    replace HA := hide (HA.out.adv hA hgb.out)
    clear hm hA
    have hc : Calls Tryd.prog 65 #[.pointer (some ⟨b, 0, none⟩)] _ (Part _ b T (nameD (ts.tail)) fun s v _ => v = .string (sB s)) := name_any HA.out.1 HA.out.2.1
    cases hR2 : nameD (ts.tail) with
    | out => exact absurd hR2 (bind_out HR.out HRo.out)
    | no l er =>
      rw [hR2] at hc
      replace HR := hide (bind_no HR.out hR2)
      clear hR2
      go_wp2_with fail
      refine hc.mono ?_
      rintro e w9 ⟨rfl, h5, k5⟩
      refine ⟨rfl, ?_⟩
      rw [← hQ.out]
      exact part_no HR.out h5 HA.out.2.2.1 k5
    | ok s ts2 =>
      rw [hR2] at hc
      replace HR := hide (bind_ok HR.out hR2)
      clear hR2
      go_wp2_with fail
      refine hc.mono ?_
      rintro e wn2 ⟨v0, rfl, rfl, hA⟩
      replace HA := hide (HA.out.adv hA hgb.out)
      clear hc hA
      have hne3 : keyD n (ts2) ≠ .out := bind_out HR.out HRo.out
      have hc := HKy.out _ (ts2) HA.out.1 HA.out.2.1 hne3
      cases hR3 : keyD n (ts2) with
      | out => exact absurd hR3 (bind_out HR.out HRo.out)
      | no l er =>
        rw [hR3] at hc
        replace HR := hide (bind_no HR.out hR3)
        clear hR3 hne3
        go_wp2_with fail
        refine hc.mono ?_
        rintro e w9 ⟨rfl, h5, k5⟩
        refine ⟨rfl, ?_⟩
        rw [← hQ.out]
        exact part_no HR.out h5 HA.out.2.2.1 k5
      | ok x ts3 =>
        rw [hR3] at hc
        replace HR := hide (bind_ok HR.out hR3)
        clear hR3 hne3
        go_wp2_with fail
        have hg3 := hide HA.out.lt
        refine hc.mono ?_
        rintro e w2 ⟨v, rfl, ⟨cs, hv, hx⟩, hA⟩
        have HX := hide hx
        have hs3 := hide hA.2.2.size
        obtain ⟨k', n', nm, op, sp, sm, sc, rfl⟩ := hx.form
        replace hv : v = .agg #[.int .i64 k', .int .i64 n', .string (sB nm), .string (sB op), .slice sp sm sc] := hv
        subst hv
        replace HA := hide (HA.out.adv hA hgb.out)
        clear hc hA hx
        have kA := (Keeps.refl w2 (fun _ => False)).alloc (.cells #[.int .i64 k', .int .i64 n', .string (sB nm), .string (sB op), .slice sp sm sc] 42)
        have hnew := hide (heap_alloc_new w2 (.cells #[.int .i64 k', .int .i64 n', .string (sB nm), .string (sB op), .slice sp sm sc] 42))
        have HX2 := hide (HX.out.keeps kA (fun _ _ q => q))
        replace HA := hide (HA.out.new kA)
        clear kA HX
        obtain ⟨⟨c0, c1, c2, c3, c4, c5, c6⟩, f0, f1, f2, f3, f4, f5, f6⟩ := HA.out.2.2.2.cells
        generalize hgz : w.heap.size = g at *
        replace hgz := hide hgz
        go_wp2_with fail
        refine set7 (P := fun W => bodyPost _ _ _ _ _ W) HA.out.2.2.2 fun W5 h11 k11 => ?_
        obtain ⟨⟨q0, q1, q2, q3, q4, q5, q6⟩, -⟩ := h11.cells
        refine bodyPost_ret (v := .agg #[.int .i64 3, .string (sB s), .string ⟨#[]⟩, .string ⟨#[]⟩, .slice (some ⟨w2.heap.size, 0, none⟩) 1 1, .slice none 0 0, .slice none 0 0]) (by simp [results, Tryd.results93, go_sem, q0, q1, q2, q3, q4, q5, q6]) rfl ?_
        rw [← hQ.out]
        exact part_ok HR.out (res_st rfl hgz.out HA.out.2.2.1 (StC.mk (ArgsV.some (args := [_]) hs3.out (heap_lt hnew.out) (Nat.le_refl _) (range_blk hnew.out) (ExsC.cons HX2.out ExsC.nil)) StsV.nil StsV.nil) (fun i hi => Nat.lt_of_lt_of_le hg3.out hi) HA.out.1 HA.out.2.1 hbw.out k11)
  | false =>
    have hm : Calls Tryd.prog 64 #[.pointer (some ⟨b, 0, none⟩), .string ⟨#[100, 101, 108, 101, 116, 101]⟩] _ fun e w' => e = .returned (.bool (isF kDelete (ts))) ∧ AdvP _ b T (if isF kDelete (ts) then (ts).tail else (ts)) w' := met_any HA.out.1 HA.out.2.1 kDelete
    rw [hF1] at hm
    simp only [Bool.false_eq_true, if_false] at hm
    replace HR := hide (HR.out.trans (if_neg (by rw [hF1]; decide)))
    clear hF1
    go_upto_region 4 with (go_at_call 64; (with_reducible refine hm.mono ?_); rintro e wm1 ⟨rfl, hA⟩)
    replace HA := hide (HA.out.adv hA hgb.out)
    clear hm hA
    cases hF11 : isF kClear ts with
    | true =>
      have hm : Calls Tryd.prog 64 #[.pointer (some ⟨b, 0, none⟩), .string ⟨#[99, 108, 101, 97, 114]⟩] _ fun e w' => e = .returned (.bool (isF kClear (ts))) ∧ AdvP _ b T (if isF kClear (ts) then (ts).tail else (ts)) w' := met_any HA.out.1 HA.out.2.1 kClear
      rw [hF11] at hm
      simp only [if_true] at hm
      replace HR := hide (HR.out.trans (if_pos hF11))
      clear hF11
      go_upto_region 5 with (go_at_call 64; (with_reducible refine hm.mono ?_); rintro e wm11 ⟨rfl, hA⟩)
      replace HA := hide (HA.out.adv hA hgb.out)
      clear hm hA
      have hc : Calls Tryd.prog 65 #[.pointer (some ⟨b, 0, none⟩)] _ (Part _ b T (nameD (ts.tail)) fun s v _ => v = .string (sB s)) := name_any HA.out.1 HA.out.2.1
      cases hR4 : nameD (ts.tail) with
      | out => exact absurd hR4 (bind_out HR.out HRo.out)
      | no l er =>
        rw [hR4] at hc
        replace HR := hide (bind_no HR.out hR4)
        clear hR4
        go_wp2_with fail
        refine hc.mono ?_
        rintro e w9 ⟨rfl, h5, k5⟩
        refine ⟨rfl, ?_⟩
        rw [← hQ.out]
        exact part_no HR.out h5 HA.out.2.2.1 k5
      | ok s ts2 =>
        rw [hR4] at hc
        replace HR := hide (bind_ok HR.out hR4)
        clear hR4
        go_wp2_with fail
        refine hc.mono ?_
        rintro e wn4 ⟨v0, rfl, rfl, hA⟩
        replace HA := hide (HA.out.adv hA hgb.out)
        clear hc hA
        obtain ⟨⟨c0, c1, c2, c3, c4, c5, c6⟩, f0, f1, f2, f3, f4, f5, f6⟩ := HA.out.2.2.2.cells
        generalize hgz : w.heap.size = g at *
        replace hgz := hide hgz
        go_wp2_with fail
        refine set7 (P := fun W => bodyPost _ _ _ _ _ W) HA.out.2.2.2 fun W5 h11 k11 => ?_
        obtain ⟨⟨q0, q1, q2, q3, q4, q5, q6⟩, -⟩ := h11.cells
        refine bodyPost_ret (v := .agg #[.int .i64 4, .string (sB s), .string ⟨#[]⟩, .string ⟨#[]⟩, .slice none 0 0, .slice none 0 0, .slice none 0 0]) (by simp [results, Tryd.results93, go_sem, q0, q1, q2, q3, q4, q5, q6]) rfl ?_
        rw [← hQ.out]
        exact part_ok HR.out (res_st rfl hgz.out HA.out.2.2.1 (StC.mk (P := fun i => g < i) ArgsV.nil StsV.nil StsV.nil) (fun i hi => hi) HA.out.1 HA.out.2.1 hbw.out k11)
    | false =>
      have hm : Calls Tryd.prog 64 #[.pointer (some ⟨b, 0, none⟩), .string ⟨#[99, 108, 101, 97, 114]⟩] _ fun e w' => e = .returned (.bool (isF kClear (ts))) ∧ AdvP _ b T (if isF kClear (ts) then (ts).tail else (ts)) w' := met_any HA.out.1 HA.out.2.1 kClear
      rw [hF11] at hm
      simp only [Bool.false_eq_true, if_false] at hm
      replace HR := hide (HR.out.trans (if_neg (by rw [hF11]; decide)))
      clear hF11
      go_upto_region 6 with (go_at_call 64; (with_reducible refine hm.mono ?_); rintro e wm11 ⟨rfl, hA⟩)
      replace HA := hide (HA.out.adv hA hgb.out)
      clear hm hA
      cases hF12 : isF kPrint ts with
      | true =>
        have hm : Calls Tryd.prog 64 #[.pointer (some ⟨b, 0, none⟩), .string ⟨#[112, 114, 105, 110, 116]⟩] _ fun e w' => e = .returned (.bool (isF kPrint (ts))) ∧ AdvP _ b T (if isF kPrint (ts) then (ts).tail else (ts)) w' := met_any HA.out.1 HA.out.2.1 kPrint
        rw [hF12] at hm
        simp only [if_true] at hm
        replace HR := hide (HR.out.trans (if_pos hF12))
        clear hF12
        go_upto_region 7 with (go_at_call 64; (with_reducible refine hm.mono ?_); rintro e wm12 ⟨rfl, hA⟩)
        replace HA := hide (HA.out.adv hA hgb.out)
        clear hm hA
        have hne5 : printedD n (ts.tail) ≠ .out := bind_out HR.out HRo.out
        have hc := HPr.out _ (ts.tail) HA.out.1 HA.out.2.1 hne5
        cases hR5 : printedD n (ts.tail) with
        | out => exact absurd hR5 (bind_out HR.out HRo.out)
        | no l er =>
          rw [hR5] at hc
          replace HR := hide (bind_no HR.out hR5)
          clear hR5 hne5
          go_wp2_with fail
          refine hc.mono ?_
          rintro e w9 ⟨rfl, h5, k5⟩
          refine ⟨rfl, ?_⟩
          rw [← hQ.out]
          exact part_no HR.out h5 HA.out.2.2.1 k5
        | ok l ts2 =>
          rw [hR5] at hc
          replace HR := hide (bind_ok HR.out hR5)
          clear hR5 hne5
          go_wp2_with fail
          have hg5 := hide HA.out.lt
          refine hc.mono ?_
          rintro e w2 ⟨v, rfl, hx, hA⟩
          have HX := hide hx
          have hs5 := hide hA.2.2.size
          have hx' : ArgsV w2 (fun i => _ ≤ i) l v := hx
          obtain ⟨sp, sm, sc, rfl⟩ := hx'.form
          replace HA := hide (HA.out.adv hA hgb.out)
          clear hc hA hx hx'
          obtain ⟨⟨c0, c1, c2, c3, c4, c5, c6⟩, f0, f1, f2, f3, f4, f5, f6⟩ := HA.out.2.2.2.cells
          generalize hgz : w.heap.size = g at *
          replace hgz := hide hgz
          go_wp2_with fail
          refine set7 (P := fun W => bodyPost _ _ _ _ _ W) HA.out.2.2.2 fun W5 h11 k11 => ?_
          obtain ⟨⟨q0, q1, q2, q3, q4, q5, q6⟩, -⟩ := h11.cells
          refine bodyPost_ret (v := .agg #[.int .i64 5, .string ⟨#[]⟩, .string ⟨#[]⟩, .string ⟨#[]⟩, .slice sp sm sc, .slice none 0 0, .slice none 0 0]) (by simp [results, Tryd.results93, go_sem, q0, q1, q2, q3, q4, q5, q6]) rfl ?_
          rw [← hQ.out]
          exact part_ok HR.out (res_st rfl hgz.out HA.out.2.2.1 (StC.mk HX.out StsV.nil StsV.nil) (fun i hi => Nat.lt_of_lt_of_le hg5.out hi) HA.out.1 HA.out.2.1 hbw.out k11)
      | false =>
        have hm : Calls Tryd.prog 64 #[.pointer (some ⟨b, 0, none⟩), .string ⟨#[112, 114, 105, 110, 116]⟩] _ fun e w' => e = .returned (.bool (isF kPrint (ts))) ∧ AdvP _ b T (if isF kPrint (ts) then (ts).tail else (ts)) w' := met_any HA.out.1 HA.out.2.1 kPrint
        rw [hF12] at hm
        simp only [Bool.false_eq_true, if_false] at hm
        replace HR := hide (HR.out.trans (if_neg (by rw [hF12]; decide)))
        clear hF12
        go_upto_region 8 with (go_at_call 64; (with_reducible refine hm.mono ?_); rintro e wm12 ⟨rfl, hA⟩)
        replace HA := hide (HA.out.adv hA hgb.out)
        clear hm hA
        cases hF13 : isF kBreak ts with
        | true =>
          have hm : Calls Tryd.prog 64 #[.pointer (some ⟨b, 0, none⟩), .string ⟨#[98, 114, 101, 97, 107]⟩] _ fun e w' => e = .returned (.bool (isF kBreak (ts))) ∧ AdvP _ b T (if isF kBreak (ts) then (ts).tail else (ts)) w' := met_any HA.out.1 HA.out.2.1 kBreak
          rw [hF13] at hm
          simp only [if_true] at hm
          replace HR := hide (HR.out.trans (if_pos hF13))
          clear hF13
          go_upto_region 9 with (go_at_call 64; (with_reducible refine hm.mono ?_); rintro e wm13 ⟨rfl, hA⟩)
          replace HA := hide (HA.out.adv hA hgb.out)
          clear hm hA
          obtain ⟨⟨c0, c1, c2, c3, c4, c5, c6⟩, f0, f1, f2, f3, f4, f5, f6⟩ := HA.out.2.2.2.cells
          generalize hgz : w.heap.size = g at *
          replace hgz := hide hgz
          go_wp2_with fail
          refine set7 (P := fun W => bodyPost _ _ _ _ _ W) HA.out.2.2.2 fun W5 h11 k11 => ?_
          obtain ⟨⟨q0, q1, q2, q3, q4, q5, q6⟩, -⟩ := h11.cells
          refine bodyPost_ret (v := .agg #[.int .i64 9, .string ⟨#[]⟩, .string ⟨#[]⟩, .string ⟨#[]⟩, .slice none 0 0, .slice none 0 0, .slice none 0 0]) (by simp [results, Tryd.results93, go_sem, q0, q1, q2, q3, q4, q5, q6]) rfl ?_
          rw [← hQ.out]
          exact part_ok HR.out (res_st rfl hgz.out HA.out.2.2.1 (StC.mk (P := fun i => g < i) ArgsV.nil StsV.nil StsV.nil) (fun i hi => hi) HA.out.1 HA.out.2.1 hbw.out k11)
        | false =>
          have hm : Calls Tryd.prog 64 #[.pointer (some ⟨b, 0, none⟩), .string ⟨#[98, 114, 101, 97, 107]⟩] _ fun e w' => e = .returned (.bool (isF kBreak (ts))) ∧ AdvP _ b T (if isF kBreak (ts) then (ts).tail else (ts)) w' := met_any HA.out.1 HA.out.2.1 kBreak
          rw [hF13] at hm
          simp only [Bool.false_eq_true, if_false] at hm
          replace HR := hide (HR.out.trans (if_neg (by rw [hF13]; decide)))
          clear hF13
          go_upto_region 10 with (go_at_call 64; (with_reducible refine hm.mono ?_); rintro e wm13 ⟨rfl, hA⟩)
          replace HA := hide (HA.out.adv hA hgb.out)
          clear hm hA
          cases hF14 : isF kContinue ts with
          | true =>
            have hm : Calls Tryd.prog 64 #[.pointer (some ⟨b, 0, none⟩), .string ⟨#[99, 111, 110, 116, 105, 110, 117, 101]⟩] _ fun e w' => e = .returned (.bool (isF kContinue (ts))) ∧ AdvP _ b T (if isF kContinue (ts) then (ts).tail else (ts)) w' := met_any HA.out.1 HA.out.2.1 kContinue
            rw [hF14] at hm
            simp only [if_true] at hm
            replace HR := hide (HR.out.trans (if_pos hF14))
            clear hF14
            go_upto_region 11 with (go_at_call 64; (with_reducible refine hm.mono ?_); rintro e wm14 ⟨rfl, hA⟩)
            replace HA := hide (HA.out.adv hA hgb.out)
            clear hm hA
            obtain ⟨⟨c0, c1, c2, c3, c4, c5, c6⟩, f0, f1, f2, f3, f4, f5, f6⟩ := HA.out.2.2.2.cells
            generalize hgz : w.heap.size = g at *
            replace hgz := hide hgz
            go_wp2_with fail
            refine set7 (P := fun W => bodyPost _ _ _ _ _ W) HA.out.2.2.2 fun W5 h11 k11 => ?_
            obtain ⟨⟨q0, q1, q2, q3, q4, q5, q6⟩, -⟩ := h11.cells
            refine bodyPost_ret (v := .agg #[.int .i64 10, .string ⟨#[]⟩, .string ⟨#[]⟩, .string ⟨#[]⟩, .slice none 0 0, .slice none 0 0, .slice none 0 0]) (by simp [results, Tryd.results93, go_sem, q0, q1, q2, q3, q4, q5, q6]) rfl ?_
            rw [← hQ.out]
            exact part_ok HR.out (res_st rfl hgz.out HA.out.2.2.1 (StC.mk (P := fun i => g < i) ArgsV.nil StsV.nil StsV.nil) (fun i hi => hi) HA.out.1 HA.out.2.1 hbw.out k11)
          | false =>
            have hm : Calls Tryd.prog 64 #[.pointer (some ⟨b, 0, none⟩), .string ⟨#[99, 111, 110, 116, 105, 110, 117, 101]⟩] _ fun e w' => e = .returned (.bool (isF kContinue (ts))) ∧ AdvP _ b T (if isF kContinue (ts) then (ts).tail else (ts)) w' := met_any HA.out.1 HA.out.2.1 kContinue
            rw [hF14] at hm
            simp only [Bool.false_eq_true, if_false] at hm
            replace HR := hide (HR.out.trans (if_neg (by rw [hF14]; decide)))
            clear hF14
            go_upto_region 12 with (go_at_call 64; (with_reducible refine hm.mono ?_); rintro e wm14 ⟨rfl, hA⟩)
            replace HA := hide (HA.out.adv hA hgb.out)
            clear hm hA
            have hne6 : assignD n (ts) ≠ .out := fun q => HRo.out (HR.out.trans q)
            have hc := HAs.out _ (ts) HA.out.1 HA.out.2.1 hne6
            cases hR6 : assignD n (ts) with
            | out => exact absurd hR6 (fun q => HRo.out (HR.out.trans q))
            | no l er =>
              rw [hR6] at hc
              replace HR := hide (HR.out.trans hR6)
              clear hR6 hne6
              go_wp2_with fail
              refine hc.mono ?_
              rintro e w9 ⟨rfl, h5, k5⟩
              refine ⟨rfl, ?_⟩
              rw [← hQ.out]
              exact part_no HR.out h5 HA.out.2.2.1 k5
            | ok x ts2 =>
              rw [hR6] at hc
              replace HR := hide (HR.out.trans hR6)
              clear hR6 hne6
              go_wp2_with fail
              have hg6 := hide HA.out.lt
              refine hc.mono ?_
              rintro e w2 ⟨v, rfl, ⟨cs, hv, hx⟩, hA⟩
              have HX := hide hx
              have hs6 := hide hA.2.2.size
              obtain ⟨k', nm, ky, vl, ep, em, ec, bp, bm, bc, lp, lm, lc, rfl⟩ := hx.form
              replace hv : v = .agg #[.int .i64 k', .string (sB nm), .string (sB ky), .string (sB vl), .slice ep em ec, .slice bp bm bc, .slice lp lm lc] := hv
              subst hv
              replace HA := hide (HA.out.adv hA hgb.out)
              clear hc hA hx
              obtain ⟨⟨c0, c1, c2, c3, c4, c5, c6⟩, f0, f1, f2, f3, f4, f5, f6⟩ := HA.out.2.2.2.cells
              generalize hgz : w.heap.size = g at *
              replace hgz := hide hgz
              go_wp2_with fail
              refine set7 (P := fun W => bodyPost _ _ _ _ _ W) HA.out.2.2.2 fun W5 h11 k11 => ?_
              obtain ⟨⟨q0, q1, q2, q3, q4, q5, q6⟩, -⟩ := h11.cells
              refine bodyPost_ret (v := .agg #[.int .i64 k', .string (sB nm), .string (sB ky), .string (sB vl), .slice ep em ec, .slice bp bm bc, .slice lp lm lc]) (by simp [results, Tryd.results93, go_sem, q0, q1, q2, q3, q4, q5, q6]) rfl ?_
              rw [← hQ.out]
              exact part_ok HR.out (res_st rfl hgz.out HA.out.2.2.1 (HX.out) (fun i hi => Nat.lt_of_lt_of_le hg6.out hi) HA.out.1 HA.out.2.1 hbw.out k11)
end Lg
end Go.Proofs.YtlpfnikhnchpdaaDoor
/-
  lang: statements and programs, whatever the fuel.
-/
namespace Go.Proofs.YtlpfnikhnchpdaaDoor
namespace Lg
open Go.RowKit
set_option linter.unusedVariables false
/-- The readers of statements that go by fuel, at one fuel. -/
structure Ss (b : Nat) (T : Bs) (n : Nat) : Prop where
  ifs : ReadsG 89 #[.pointer (some ⟨b, 0, none⟩)] b T (ifD n) StG
  block : ReadsG 91 #[.pointer (some ⟨b, 0, none⟩)] b T (blockD n) StsG
  stmt : ReadsG 67 #[.pointer (some ⟨b, 0, none⟩)] b T (stmtD n) StG
theorem stmts_any (b : Nat) (T : Bs) : ∀ n, n ≤ 1073741824 → ∀ m, m ≤ n → Ss b T m := by
  intro n
  induction n with
  | zero =>
    intro _ m hm
    obtain rfl : m = 0 := by omega
    exact ⟨fun w ts _ _ h => absurd (by rw [ifD]) h, fun w ts _ _ h => absurd (by rw [blockD]) h, fun w ts _ _ h => absurd (by rw [stmtD]) h⟩
  | succ n ih =>
    intro hn m hm
    have ih := ih (by omega)
    by_cases hle : m ≤ n
    · exact ih m hle
    · obtain rfl : m = n + 1 := by omega
      have hx := fun m hm => exprs_any b T n m hm
      have hn' := ih n (Nat.le_refl _)
      have hX := hx n (Nat.le_refl _)
      have hpr : ReadsG 117 #[.pointer (some ⟨b, 0, none⟩)] b T (printedD n) ExsG := fun w ts h E hD => printed_any (by omega) (fun m hm => (hx m hm).expr) h E hD
      have has := assignment_step hX.key hX.expr
      exact ⟨ifStmt_step hn'.ifs hX.expr hn'.block, block_step (by omega) (fun m hm => (ih m hm).stmt), stmt_step hn'.ifs hX.expr hn'.block (rangeStmt_step hn'.block) (plainStmt_step hX.key hpr has)⟩
theorem programs_any {b : Nat} {T : Bs} {n : Nat} (hn : n ≤ 1073741824) : ReadsG 40 #[.pointer (some ⟨b, 0, none⟩)] b T (programD n) PgG :=
  program_any hn (fun m hm => (stmts_any b T n hn m hm).stmt)
end Lg
end Go.Proofs.YtlpfnikhnchpdaaDoor
/-
  lang: Parse's deferred closure.
-/
namespace Go.Proofs.YtlpfnikhnchpdaaDoor
namespace Lg
open Go.RowKit
set_option linter.unusedVariables false
theorem four_sets {W : World} {p0 p1 p2 : Nat} {a0 a1 a2 a3 : Value} {t0 t1 t2 : TypeId} (b0 : W.heap[p0]? = some (.cells #[a0, a1] t0)) (b1 : W.heap[p1]? = some (.cells #[a2] t1)) (b2 : W.heap[p2]? = some (.cells #[a3] t2)) (h01 : ¬ p0 = p1) (h02 : ¬ p0 = p2) (h12 : ¬ p1 = p2) (x y z u : Value) :
    let W' := (((W.setCell ⟨p0, 0, none⟩ x).setCell ⟨p0, 1, none⟩ y).setCell ⟨p1, 0, none⟩ z).setCell ⟨p2, 0, none⟩ u
    W'.heap[p0]? = some (.cells #[x, y] t0) ∧ W'.heap[p1]? = some (.cells #[z] t1) ∧ W'.heap[p2]? = some (.cells #[u] t2) ∧ Keeps W W' (fun i => i = p0 ∨ i = p1 ∨ i = p2) := by
  intro W'
  have s1 := set_one' b0 0 x (by simp)
  have s2 := set_one' s1 1 y (by simp)
  have k2 := ((Keeps.refl W (fun i => i = p0)).setCell ⟨p0, 0, none⟩ (fun _ => rfl) x).setCell ⟨p0, 1, none⟩ (fun _ => rfl) y
  have s3 := set_one' ((k2.block p1 (heap_lt b1) (fun q => h01 q.symm)).trans b1) 0 z (by simp)
  have k3 := (Keeps.refl ((W.setCell ⟨p0, 0, none⟩ x).setCell ⟨p0, 1, none⟩ y) (fun i => i = p1)).setCell ⟨p1, 0, none⟩ (fun _ => rfl) z
  have t2' := (k2.block p2 (heap_lt b2) (fun q => h02 q.symm)).trans b2
  have s4 := set_one' ((k3.block p2 (heap_lt t2') (fun q => h12 q.symm)).trans t2') 0 u (by simp)
  have k4 := (Keeps.refl (((W.setCell ⟨p0, 0, none⟩ x).setCell ⟨p0, 1, none⟩ y).setCell ⟨p1, 0, none⟩ z) (fun i => i = p2)).setCell ⟨p2, 0, none⟩ (fun _ => rfl) u
  have q0 := (k3.block p0 (heap_lt s2) h01).trans s2
  exact ⟨(k4.block p0 (heap_lt q0) h02).trans q0, (k4.block p1 (heap_lt s3) h12).trans s3, s4, ((k2.mono (S1 := fun i => i = p0 ∨ i = p1 ∨ i = p2) (fun _ _ q => Or.inl q)).trans (k3.mono (fun _ _ q => Or.inr (Or.inl q))) (fun _ _ q => q)).trans (k4.mono (fun _ _ q => Or.inr (Or.inr q))) (fun _ _ q => q)⟩
set_option maxRecDepth 100000 in
set_option maxHeartbeats 2000000 in
theorem catch_idle (p0 p1 p2 : Nat) (w : World) :
    CallsD Tryd.prog 38 #[.pointer (some ⟨p0, 0, none⟩), .pointer (some ⟨p1, 0, none⟩), .pointer (some ⟨p2, 0, none⟩)] .returning w fun e u' w' => e = .returned (.tuple #[]) ∧ u' = .returning ∧ w' = w := by
  refine callsD_of_wpS Tryd.func38 rfl fun c₀ cs hu => ?_
  apply wpS_seq
  apply wpS_region
  simp [wpOpsS, go_sem, recoverD, hu, Tryd.ntmps38, Exit.thenS]
  refine wpS_of_wp ?_
  go_wp2_with fail
  cases c₀
  simp_all [bodyPostS, results, Tryd.results38]

set_option maxRecDepth 100000 in
set_option maxHeartbeats 4000000 in
theorem catch_fault (p0 p1 p2 : Nat) (l n : Nat) (a0 a1 a2 a3 : Value) (w : World) (h0 : w.heap[p0]? = some (.cells #[a0, a1] 25)) (h1 : w.heap[p1]? = some (.cells #[a2] 3)) (h2 : w.heap[p2]? = some (.cells #[a3] 33)) (h01 : ¬ p0 = p1) (h02 : ¬ p0 = p2) (h12 : ¬ p1 = p2) (older : List PanicEntry) :
    CallsD Tryd.prog 38 #[.pointer (some ⟨p0, 0, none⟩), .pointer (some ⟨p1, 0, none⟩), .pointer (some ⟨p2, 0, none⟩)] (.panicking ({ v := .iface 83 (.agg #[.int .i64 (l : Int), .int .i64 (n : Int)]), recovered := false } :: older)) w fun e u' w' =>
      e = .returned (.tuple #[]) ∧ u' = .panicking ({ v := .iface 83 (.agg #[.int .i64 (l : Int), .int .i64 (n : Int)]), recovered := true } :: older) ∧ w'.heap[p0]? = some (.cells #[.slice none 0 0, .slice none 0 0] 25) ∧ w'.heap[p1]? = some (.cells #[.int .i64 (l : Int)] 3) ∧ w'.heap[p2]? = some (.cells #[.int .i64 (n : Int)] 33) ∧ Keeps w w' (fun i => i = p0 ∨ i = p1 ∨ i = p2) := by
  refine callsD_of_wpS Tryd.func38 rfl fun c₀ cs hu => ?_
  apply wpS_seq
  apply wpS_region
  simp [wpOpsS, go_sem, recoverD, hu, Tryd.ntmps38, Exit.thenS]
  refine wpS_of_wp ?_
  have hta : ∀ W : World, (Instr.typeAssert (.iface 83 (.agg #[.int .i64 (l : Int), .int .i64 (n : Int)])) 20 83 true).run Tryd.prog W = .ok (.tuple #[.agg #[.int .i64 (l : Int), .int .i64 (n : Int)], .bool true]) W := fun W => by kernel_rfl
  go_upto_region 7 with fail
  refine alloc1 (P := fun W => Code.wp _ _ _ _ W) fun W1 k1 hz1 kk1 => ?_
  have e0 : W1.cell? ⟨w.heap.size, 0, none⟩ = some (.int .i64 (l : Int)) := by simp [World.cell?, k1]
  have e1 : W1.cell? ⟨w.heap.size, 1, none⟩ = some (.int .i64 (n : Int)) := by simp [World.cell?, k1]
  have b0 := kblk kk1 h0
  have b1 := kblk kk1 h1
  have b2 := kblk kk1 h2
  have c0 : W1.cell? ⟨p0, 0, none⟩ = some a0 := by simp [World.cell?, b0]
  have c1 : W1.cell? ⟨p0, 1, none⟩ = some a1 := by simp [World.cell?, b0]
  have c2 : W1.cell? ⟨p1, 0, none⟩ = some a2 := by simp [World.cell?, b1]
  have c3 : W1.cell? ⟨p2, 0, none⟩ = some a3 := by simp [World.cell?, b2]
  have f0 : W1.frozen? ⟨p0, 0, none⟩ = false := by simp [World.frozen?, b0]
  have f1 : W1.frozen? ⟨p0, 1, none⟩ = false := by simp [World.frozen?, b0]
  have f2 : W1.frozen? ⟨p1, 0, none⟩ = false := by simp [World.frozen?, b1]
  have f3 : W1.frozen? ⟨p2, 0, none⟩ = false := by simp [World.frozen?, b2]
  have n0 : ¬ w.heap.size = p0 := fun q => by have := heap_lt h0; omega
  have n1 : ¬ w.heap.size = p1 := fun q => by have := heap_lt h1; omega
  have n2 : ¬ w.heap.size = p2 := fun q => by have := heap_lt h2; omega
  have n0' : ¬ p0 = w.heap.size := fun q => n0 q.symm
  have n1' : ¬ p1 = w.heap.size := fun q => n1 q.symm
  have n2' : ¬ p2 = w.heap.size := fun q => n2 q.symm
  have h01' : ¬ p1 = p0 := fun q => h01 q.symm
  have h02' : ¬ p2 = p0 := fun q => h02 q.symm
  have h12' : ¬ p2 = p1 := fun q => h12 q.symm
  have HK1 := hide (And.intro hu kk1)
  have HB := hide (And.intro b0 (And.intro b1 b2))
  clear k1 hz1 kk1 b0 b1 b2 h0 h1 h2 hta hu
  generalize w.heap.size = g at *
  go_region_held3 (fun w' : World => w'.cell? ⟨g, 0, none⟩ = some (.int .i64 (l : Int)) ∧ w'.cell? ⟨g, 1, none⟩ = some (.int .i64 (n : Int))) (simp [*, World.cell?_setCell_far]) (fail)
  go_wp2_with fail
  obtain ⟨g0, g1, g2, kk⟩ := four_sets HB.out.1 HB.out.2.1 HB.out.2.2 h01 h02 h12 (.slice none 0 0) (.slice none 0 0) (.int .i64 (l : Int)) (.int .i64 (n : Int))
  refine ⟨rfl, _, rfl, .tuple #[], by simp [results, Tryd.results38, go_sem], rfl, rfl, ?_, ?_, ?_, ?_⟩
  · exact g0
  · exact g1
  · exact g2
  · exact ((HK1.out.2.mono (S1 := fun i => i = p0 ∨ i = p1 ∨ i = p2) (fun _ _ q => q.elim)).trans kk (fun _ _ q => q)).drew
end Lg
end Go.Proofs.YtlpfnikhnchpdaaDoor
/-
  lang: Parse, whole.
-/
namespace Go.Proofs.YtlpfnikhnchpdaaDoor
namespace Lg
open Go.RowKit
set_option linter.unusedVariables false
theorem toks_len : ∀ n s l k, (toksD n s l k).length ≤ n + 1 := by
  intro n
  induction n with
  | zero => intro s l k; rw [toksD]; exact Nat.le_refl _
  | succ n ih =>
    intro s l k
    rw [toksD]
    split
    · simp
    · split
      · simp
      · simp only [List.length_cons]
        exact Nat.succ_le_succ (ih _ _ _)
theorem tokens_len (s : Bs) : (tokens s).length ≤ s.length + 2 := toks_len _ _ _ _
theorem alloc3v {w : World} {o1 o2 o3 : Obj} {P : World → Prop} (h : ∀ W0, W0.heap[w.heap.size]? = some o1 → W0.heap[w.heap.size + 1]? = some o2 → W0.heap[w.heap.size + 2]? = some o3 → W0.heap.size = w.heap.size + 3 → Keeps w W0 (fun _ => False) → P W0) : P (((w.alloc o1).alloc o2).alloc o3) := by
  have k3 := (Keeps.refl ((w.alloc o1).alloc o2) (fun _ => False)).alloc o3
  have e1 := heap_old2 w o1 o2
  have e2 := heap_new2 w o1 o2
  refine h _ ((k3.block _ (heap_lt e1) id).trans e1) ((k3.block _ (heap_lt e2) id).trans e2) ?_ (by simp) ((((Keeps.refl _ _).alloc _).alloc _).alloc _)
  have q := heap_alloc_new ((w.alloc o1).alloc o2) o3
  have e : ((w.alloc o1).alloc o2).heap.size = w.heap.size + 2 := by simp
  rw [e] at q
  exact q
/-- What Parse answers. -/
def ParseP (w : World) (r : Pg × Nat × Nat) (e : Ending) (w' : World) : Prop :=
  ∃ v, e = .returned (.tuple #[v, .int .i64 (r.2.1 : Int), .int .i64 (r.2.2 : Int)]) ∧ PgG w.heap.size r.1 v w' ∧ Keeps w w' (fun _ => False)
theorem pg_nil (B : Nat) (w : World) : PgG B ⟨[], []⟩ (.agg #[.slice none 0 0, .slice none 0 0]) w := ⟨_, _, rfl, StrsR.nil _ _, .nil⟩

set_option maxRecDepth 100000 in
set_option maxHeartbeats 4000000 in
theorem parse_long {w : World} {T : Bs} (hT : 1048576 < T.length) (hL : T.length ≤ 281474976710656) : Calls Tryd.prog 15 #[.string (sB T)] w (ParseP w (⟨[], []⟩, 0, 230)) := by
  have hs : (sB T).size = T.length := by simp [ByteArray.size]
  have hi : (1048576 : Int) < ((sB T).size : Int) := by omega
  go_enter_defers Tryd.func15, Tryd.ntmps15
  go_wp2_with fail
  refine alloc3v (P := fun W => bodyPostD _ _ _ _ _ W) fun W0 h0 h1 h2 hz k0 => ?_
  have q0 : W0.cell? ⟨w.heap.size, 0, none⟩ = some (.slice none 0 0) := by simp [World.cell?, h0]
  have q1 : W0.cell? ⟨w.heap.size, 1, none⟩ = some (.slice none 0 0) := by simp [World.cell?, h0]
  have q2 : W0.cell? ⟨w.heap.size + 1, 0, none⟩ = some (.int .i64 0) := by simp [World.cell?, h1]
  have q3 : W0.cell? ⟨w.heap.size + 1 + 1, 0, none⟩ = some (.int .i64 230) := by
    have h2 : W0.heap[w.heap.size + 1 + 1]? = _ := h2
    simp [World.cell?, h2]
  refine ⟨.tuple #[.agg #[.slice none 0 0, .slice none 0 0], .int .i64 0, .int .i64 230], ?_, ?_⟩
  · simp [results, Tryd.results15, go_sem, q0, q1, q2, q3]
  · exact ⟨_, rfl, pg_nil _ _, k0⟩

set_option maxRecDepth 100000 in
set_option maxHeartbeats 4000000 in
theorem parse_short {w : World} {T : Bs} (hT : T.length ≤ 1048576) (hG : LgAt w) (hH : Hi w.heap.size) (hE : ∃ ev, w.cell? ⟨10, 0, none⟩ = some ev ∧ (ev = .nilIface ∨ ∃ te pe, ev = .iface te pe)) {n : Nat} (hn : n ≤ 1073741824) (hD : programD n (tokens T) ≠ .out) :
    Calls Tryd.prog 15 #[.string (sB T)] w (ParseP w (match programD n (tokens T) with | .ok p _ => (p, 0, 0) | .no l e => (⟨[], []⟩, l, e) | .out => (⟨[], []⟩, 0, 0))) := by
  have hs : (sB T).size = T.length := by simp [ByteArray.size]
  have hi : ¬ (1048576 : Int) < ((sB T).size : Int) := by omega
  have hmf : ∀ (fn : Fn) (first cap : Array Value) (w : World), (Instr.makeFunc fn first cap).run Tryd.prog w = .ok (.func fn first cap) w := fun _ _ _ _ => rfl
  have HW := hide (And.intro hG (And.intro hH hE))
  have HD := hide hD
  have HT := hide hT
  have Hn := hide hn
  obtain ⟨r, hr⟩ : ∃ r : Pg × Nat × Nat, (match programD n (tokens T) with | .ok p _ => (p, 0, 0) | .no l e => (⟨[], []⟩, l, e) | .out => (⟨[], []⟩, 0, 0)) = r := ⟨_, rfl⟩
  rw [hr]
  have HR := hide hr
  clear hG hH hE hD hT hn hr
  go_enter_defers Tryd.func15, Tryd.ntmps15
  go_upto_region 3 with fail
  refine alloc3v (P := fun W => Code.wp _ _ _ _ W) fun W0 h0 h1 h2 hz k0 => ?_
  replace h2 : W0.heap[w.heap.size + 1 + 1]? = _ := h2
  have hH0 : Hi W0.heap.size := by
    have q := HW.out.2.1
    unfold Hi at q ⊢
    omega
  have hE0 := (Ev.keeps (⟨HW.out.1, HW.out.2.1, HT.out, HW.out.2.2⟩ : Ev w w.heap.size T) k0 (fun _ q => q.elim)).rng
  have hnr := newReader_any (HW.out.1.keeps k0 (fun _ q => q.elim)) hH0 HT.out hE0
  have HB := hide (And.intro h0 (And.intro h1 (And.intro h2 (And.intro hz k0))))
  clear h0 h1 h2 hz k0 hH0 hE0
  go_wp2_with fail
  refine hnr.mono ?_
  rintro e w4 ⟨rfl, hA, hE4, k4⟩
  have hpr := programs_any Hn.out w4 (tokens T) hA hE4 HD.out
  have HA := hide (And.intro hE4 k4)
  have g0 := kblk k4 HB.out.1
  have g1 := kblk k4 HB.out.2.1
  have g2 := kblk k4 HB.out.2.2.1
  have hz := HB.out.2.2.2.1
  have HG := hide (And.intro g0 (And.intro g1 g2))
  have Hz := hide hz
  have Hz4 := hide k4.size
  clear hnr hA hE4 k4 g0 g1 g2 hz
  cases hP : programD n (tokens T) with
  | out => exact absurd hP HD.out
  | no l er =>
    rw [hP] at hpr
    have HR2 : Hid (r = (⟨[], []⟩, l, er)) := hide (by rw [← HR.out, hP])
    clear HR hP HD
    go_wp2_with fail
    refine hpr.mono ?_
    rintro e w9 ⟨rfl, h5, k5⟩
    have hz := Hz.out
    have g0 := (k5.block _ (heap_lt HG.out.1) (fun q => by omega)).trans HG.out.1
    have g1 := (k5.block _ (heap_lt HG.out.2.1) (fun q => by omega)).trans HG.out.2.1
    have g2 := (k5.block _ (heap_lt HG.out.2.2) (fun q => by omega)).trans HG.out.2.2
    refine leaves_cons (f := 38) (args := #[.pointer (some ⟨w.heap.size, 0, none⟩), .pointer (some ⟨w.heap.size + 1, 0, none⟩), .pointer (some ⟨w.heap.size + 1 + 1, 0, none⟩)]) (by simp) (by simp [go_sem]) ?_
    refine (catch_fault w.heap.size (w.heap.size + 1) (w.heap.size + 1 + 1) l er _ _ _ _ w9 g0 g1 g2 (by omega) (by omega) (by omega) []).mono ?_
    rintro e u' w'' ⟨rfl, rfl, r0, r1, r2, kk⟩
    have q0 : w''.cell? ⟨w.heap.size, 0, none⟩ = some (.slice none 0 0) := by simp [World.cell?, r0]
    have q1 : w''.cell? ⟨w.heap.size, 1, none⟩ = some (.slice none 0 0) := by simp [World.cell?, r0]
    have q2 : w''.cell? ⟨w.heap.size + 1, 0, none⟩ = some (.int .i64 (l : Int)) := by simp [World.cell?, r1]
    have q3 : w''.cell? ⟨w.heap.size + 1 + 1, 0, none⟩ = some (.int .i64 (er : Int)) := by simp [World.cell?, r2]
    refine ⟨.tuple #[.agg #[.slice none 0 0, .slice none 0 0], .int .i64 (l : Int), .int .i64 (er : Int)], ?_, ?_⟩
    · simp [results, Tryd.results15, go_sem, q0, q1, q2, q3]
    · rw [HR2.out]
      have k0 := HB.out.2.2.2.2
      have k4 := HA.out.2
      exact ⟨_, rfl, pg_nil _ _, ((k0.trans k4 (fun _ _ q => q)).trans k5 (fun i hi q => by omega)).trans kk (fun i hi q => by omega)⟩
  | ok p ts2 =>
    rw [hP] at hpr
    have HR2 : Hid (r = (p, 0, 0)) := hide (by rw [← HR.out, hP])
    clear HR hP HD
    go_wp2_with fail
    refine hpr.mono ?_
    rintro e w9 ⟨v, rfl, ⟨mv, lv, rfl, hm, hl⟩, hA9⟩
    have k5 := hA9.2.2
    have hz := Hz.out
    have g0 := (k5.block _ (heap_lt HG.out.1) (fun q => by omega)).trans HG.out.1
    have g1 := (k5.block _ (heap_lt HG.out.2.1) (fun q => by omega)).trans HG.out.2.1
    have g2 := (k5.block _ (heap_lt HG.out.2.2) (fun q => by omega)).trans HG.out.2.2
    obtain ⟨mp, ml, mc, rfl⟩ := hm.form
    have hl0 : StsV w9 (fun i => w4.heap.size ≤ i) p.stmts lv := hl
    obtain ⟨lp, lm, lc, rfl⟩ := hl0.form
    have c0 : w9.cell? ⟨w.heap.size, 0, none⟩ = some (.slice none 0 0) := by simp [World.cell?, g0]
    have c1 : w9.cell? ⟨w.heap.size, 1, none⟩ = some (.slice none 0 0) := by simp [World.cell?, g0]
    have c2 : w9.cell? ⟨w.heap.size + 1, 0, none⟩ = some (.int .i64 0) := by simp [World.cell?, g1]
    have c3 : w9.cell? ⟨w.heap.size + 1 + 1, 0, none⟩ = some (.int .i64 0) := by simp [World.cell?, g2]
    have f0 : w9.frozen? ⟨w.heap.size, 0, none⟩ = false := by simp [World.frozen?, g0]
    have f1 : w9.frozen? ⟨w.heap.size, 1, none⟩ = false := by simp [World.frozen?, g0]
    have f2 : w9.frozen? ⟨w.heap.size + 1, 0, none⟩ = false := by simp [World.frozen?, g1]
    have f3 : w9.frozen? ⟨w.heap.size + 1 + 1, 0, none⟩ = false := by simp [World.frozen?, g2]
    have HF := hide (And.intro g0 (And.intro g1 (And.intro g2 (And.intro hm (And.intro hl k5)))))
    clear g0 g1 g2 hm hl hl0 k5 hA9 hpr hz
    go_wp2_with fail
    obtain ⟨r0, r1, r2, kk⟩ := four_sets HF.out.1 HF.out.2.1 HF.out.2.2.1 (by omega) (by omega) (by omega) (.slice mp ml mc) (.slice lp lm lc) (.int .i64 0) (.int .i64 0)
    refine leaves_cons (f := 38) (args := #[.pointer (some ⟨w.heap.size, 0, none⟩), .pointer (some ⟨w.heap.size + 1, 0, none⟩), .pointer (some ⟨w.heap.size + 1 + 1, 0, none⟩)]) (by simp) (by simp [go_sem]) ?_
    refine (catch_idle w.heap.size (w.heap.size + 1) (w.heap.size + 1 + 1) _).mono ?_
    rintro e u' w'' ⟨rfl, rfl, rfl⟩
    generalize ((((w9.setCell ⟨w.heap.size, 0, none⟩ (.slice mp ml mc)).setCell ⟨w.heap.size, 1, none⟩ (.slice lp lm lc)).setCell ⟨w.heap.size + 1, 0, none⟩ (.int .i64 0)).setCell ⟨w.heap.size + 1 + 1, 0, none⟩ (.int .i64 0)) = W at *
    have q0 : W.cell? ⟨w.heap.size, 0, none⟩ = some (.slice mp ml mc) := by simp [World.cell?, r0]
    have q1 : W.cell? ⟨w.heap.size, 1, none⟩ = some (.slice lp lm lc) := by simp [World.cell?, r0]
    have q2 : W.cell? ⟨w.heap.size + 1, 0, none⟩ = some (.int .i64 0) := by simp [World.cell?, r1]
    have q3 : W.cell? ⟨w.heap.size + 1 + 1, 0, none⟩ = some (.int .i64 0) := by simp [World.cell?, r2]
    refine ⟨.tuple #[.agg #[.slice mp ml mc, .slice lp lm lc], .int .i64 0, .int .i64 0], ?_, ?_⟩
    · simp [results, Tryd.results15, go_sem, q0, q1, q2, q3]
    · rw [HR2.out]
      have k0 := HB.out.2.2.2.2
      have k4 := HA.out.2
      have hz := Hz.out
      have hz4 := Hz4.out
      obtain ⟨-, -, -, hm, hl, k5⟩ := HF.out
      refine ⟨_, rfl, ⟨_, _, rfl, (hm.keeps kk (fun i hi q => by omega)).mono (by omega), StsV.mono (fun i hi => by have : w4.heap.size ≤ i := hi; show w.heap.size ≤ i; omega) (StsV.keeps kk (fun i hi q => by have : w4.heap.size ≤ i := hi; omega) hl)⟩, ?_⟩
      exact ((k0.trans k4 (fun _ _ q => q)).trans k5 (fun i hi q => by omega)).trans kk (fun i hi q => by omega)
/-- Parse, of whatever text. -/
theorem parse_any {w : World} (T : Bs) (hL : T.length ≤ 281474976710656) (hG : LgAt w) (hH : Hi w.heap.size) (hE : ∃ ev, w.cell? ⟨10, 0, none⟩ = some ev ∧ (ev = .nilIface ∨ ∃ te pe, ev = .iface te pe)) :
    Calls Tryd.prog 15 #[.string (sB T)] w (ParseP w (parseD T)) := by
  have hp := parseN_some T
  unfold parseN at hp
  by_cases hT : 1048576 < T.length
  · rw [if_pos hT] at hp
    rw [← Option.some.inj hp]
    exact parse_long hT hL
  · rw [if_neg hT] at hp
    have hlen := tokens_len T
    have hD : programD (16 * (tokens T).length + 21) (tokens T) ≠ .out := fun q => by rw [q] at hp; cases hp
    have h := parse_short (w := w) (T := T) (by omega) hG hH hE (n := 16 * (tokens T).length + 21) (by omega) hD
    cases hq : programD (16 * (tokens T).length + 21) (tokens T) with
    | out => exact absurd hq hD
    | ok p ts =>
      rw [hq] at hp h
      rw [← Option.some.inj hp]
      exact h
    | no l e =>
      rw [hq] at hp h
      rw [← Option.some.inj hp]
      exact h
end Lg
end Go.Proofs.YtlpfnikhnchpdaaDoor
