import Derived.Deep.LoopGhost
import Derived.Deep.AppendLies
import Derived.Test.YtlpfnikhnchpdaaDoorLn5
/-
  lang: joined, a step of it: its loop.
-/
namespace Go.Proofs.YtlpfnikhnchpdaaDoor
namespace Lg
open Go.RowKit
set_option linter.unusedVariables false
theorem ExC.form {w : World} {P : Nat → Prop} {x : Ex} {cs : List Value} (h : ExC w P x cs) : ∃ (k n : Int) (nm op : Bs) (sp : Option Addr) (sm sc : Nat), cs = [.int .i64 k, .int .i64 n, .string (sB nm), .string (sB op), .slice sp sm sc] := by
  cases h with
  | mk harg =>
    obtain ⟨sp, sm, sc, rfl⟩ := harg.form
    exact ⟨_, _, _, _, _, _, _, rfl⟩
/-- The loop's world: the reader at these tokens, the result's block, and the block of what is read so far. -/
def Lp (w : World) (g gx b : Nat) (T : Bs) (R : Rs Ex) (n r m : Nat) (x : Ex) (ts : List Tk) (W : World) : Prop :=
  At w g b T ts W ∧ m ≤ n ∧ loopD m r x ts = R ∧ g < gx ∧ gx < W.heap.size ∧ ∃ (k n' : Int) (nm op : Bs) (sp : Option Addr) (sm sc : Nat), Xc W gx (.int .i64 k) (.int .i64 n') (.string (sB nm)) (.string (sB op)) (.slice sp sm sc) ∧ ExC W (fun i => g < i ∧ i ≠ gx) x [.int .i64 k, .int .i64 n', .string (sB nm), .string (sB op), .slice sp sm sc]

set_option maxRecDepth 100000 in
set_option maxHeartbeats 4000000 in
theorem joined_loop {b : Nat} {T : Bs} {n r : Nat} (h0 : 1 ≤ r) (h6 : r < 6) (hJ : ∀ m, m ≤ n → Reads 115 #[.pointer (some ⟨b, 0, none⟩), .int .i64 ((r : Int) + 1)] b T (joinedD m (r + 1))) : Reads 115 #[.pointer (some ⟨b, 0, none⟩), .int .i64 (r : Int)] b T (joinedD (n + 1) r) := by
  intro w ts h E hD
  have e : joinedD (n + 1) r ts = (joinedD n (r + 1) ts).bind fun x ts => loopD n r x ts := by rw [joinedD, if_neg (by omega)]
  rw [e] at hD ⊢
  have hr6 : ((r : Int) == 6) = false := by rw [beq_eq_false_iff_ne]; omega
  have hrw : (r : Int) ≤ 5 := by omega
  have hr0 : (0 : Int) ≤ (r : Int) := by omega
  have hbw := hide h.lt
  have hgb := hide (show ¬ w.heap.size = b from fun q => Nat.lt_irrefl _ (q ▸ h.lt))
  have HJ := hide hJ
  have HI := hide (And.intro h E)
  have H16 := hide (And.intro h0 h6)
  clear hJ h E e h6 h0
  have hD2 : joinedD n (r + 1) ts ≠ .out := fun q => hD (by rw [q]; rfl)
  have HD := hide hD2
  cases hR : joinedD n (r + 1) ts with
  | out => exact absurd hR hD2
  | no l er =>
    show Calls Tryd.prog 115 #[.pointer (some ⟨b, 0, none⟩), .int .i64 (r : Int)] w fun e w' => e = thrown l er ∧ Ev w' b T ∧ Keeps w w' (fun i => i = b)
    have HR := hide hR
    clear hR hD hD2
    go_enter Tryd.func115, Tryd.ntmps115
    go_upto_region 1 with fail
    refine alloc1 (P := fun W => Code.wp _ _ _ _ W) fun W0 hg hz k0 => ?_
    have hc := HJ.out n (Nat.le_refl _) W0 ts (HI.out.1.keeps k0 id) (HI.out.2.keeps k0 (fun _ q => q.elim)) HD.out
    rw [HR.out] at hc
    have HK := hide k0
    clear hg hz k0
    go_wp2_with fail
    refine hc.mono ?_
    rintro e w2 ⟨rfl, h5, k5⟩
    exact ⟨rfl, rfl, h5, (kF HK.out b).trans k5 (fun _ _ q => q)⟩
  | ok x ts2 =>
    have hDl : loopD n r x ts2 ≠ .out := fun q => hD (by rw [hR]; exact q)
    show Calls Tryd.prog 115 #[.pointer (some ⟨b, 0, none⟩), .int .i64 (r : Int)] w (Part w b T (loopD n r x ts2) (ExG w.heap.size))
    have HR := hide hR
    obtain ⟨R, hRR⟩ : ∃ R, loopD n r x ts2 = R := ⟨_, rfl⟩
    rw [hRR] at hDl ⊢
    have HRR := hide (And.intro hRR hDl)
    generalize hQ : Part w b T R (ExG w.heap.size) = Q
    replace hQ := hide hQ
    clear hR hD hD2 hRR hDl
    go_enter Tryd.func115, Tryd.ntmps115
    go_upto_region 1 with fail
    refine alloc1 (P := fun W => Code.wp _ _ _ _ W) fun W0 hg hz k0 => ?_
    have HA : Hid (At w w.heap.size b T ts W0) := hide ⟨HI.out.1.keeps k0 id, HI.out.2.keeps k0 (fun _ q => q.elim), kF k0 b, hg⟩
    have hc := HJ.out n (Nat.le_refl _) W0 ts HA.out.1 HA.out.2.1 HD.out
    rw [HR.out] at hc
    clear hg hz k0
    go_wp2_with fail
    refine hc.mono ?_
    rintro e w2 ⟨v, rfl, ⟨cs, hv, hx⟩, hA2⟩
    have hss := hide (show w.heap.size < _ from heap_lt HA.out.2.2.2)
    have HX := hide hx
    cases hx with
    | mk harg =>
    rename_i k' n' nm op args sv
    obtain ⟨sp, sm, sc, rfl⟩ := harg.form
    replace hv : v = .agg #[.int .i64 k', .int .i64 n', .string (sB nm), .string (sB op), .slice sp sm sc] := hv
    subst hv
    replace HA := hide (HA.out.adv hA2 hgb.out)
    have hg2 := hide (heap_lt HA.out.2.2.2)
    clear hc harg hA2
    go_wp2_with fail
    refine alloc1 (P := fun W => Code.wp _ _ _ _ W) fun W3 h3 hz3 k23 => ?_
    have HL : Hid (∃ x ts, Lp w w.heap.size w2.heap.size b T R n r n x ts W3) := ⟨_, ts2, HA.out.new k23, Nat.le_refl _, HRR.out.1, hg2.out, by omega, _, _, _, _, _, _, _, h3, (HX.out.under.keeps k23 (fun _ _ q => q)).mono (fun i hi => ⟨Nat.lt_of_lt_of_le hss.out hi.1, Nat.ne_of_lt hi.2⟩)⟩
    have HRo := hide HRR.out.2
    clear h3 hz3 k23 HX HA HRR HR HD hss hg2
    generalize hgz : w.heap.size = g at *
    replace hgz := hide hgz
    generalize w2.heap.size = gx at *
    go_loopg [] n (fun m wr => Hid (∃ x ts, Lp w g gx b T R n r m x ts wr))
    case atStart => exact HL
    case round =>
      clear HL
      obtain ⟨x, ts', hA, hmn, hRR, hgx, hgl, k', n', nm, op, sp, sm, sc, hX, hx⟩ := hrel.out
      obtain ⟨m, rfl⟩ : ∃ m, gk = m + 1 := by
        cases gk with
        | zero => exact absurd (hRR.symm.trans (by rw [loopD])) HRo.out
        | succ m => exact ⟨m, rfl⟩
      obtain ⟨t, rest, rfl⟩ : ∃ t rest, ts' = t :: rest := by
        obtain ⟨a, l, c, t, rest, e, -⟩ := hA.1
        exact ⟨t, rest, e⟩
      have eL : loopD (m + 1) r x (t :: rest) = if (t.kind == 4 && ruleN t.text == r) = true then
          (joinedD m (r + 1) rest).bind fun y ts2 => if r = 3 then .ok (exBin t.text x y) ts2 else loopD m r (exBin t.text x y) ts2
        else .ok x (t :: rest) := by
        rw [loopD]
        rfl
      rw [eL] at hRR
      clear eL
      obtain ⟨c4, c5⟩ : wr.cell? ⟨b, 4, none⟩ = some (.int .i64 (t.kind : Int)) ∧ wr.cell? ⟨b, 5, none⟩ = some (.string (sB t.text)) := by
        obtain ⟨a, l, c, t', rest', e, h1, -⟩ := hA.1
        injection e with e1 e2
        subst e1
        obtain ⟨⟨c0, c1, c2, c3, c4, c5, c6⟩, -⟩ := h1.cells
        exact ⟨c4, c5⟩
      have hro := ruleOf_any t.text wr hA.2.1.lg.opers
      have hk := kind_is (k := t.kind) (n := 4) (z := 4) rfl
      have hru := kind_is (k := ruleN t.text) (n := r) (z := (r : Int)) rfl
      have HA := hide hA
      have HX := hide (And.intro hX hx)
      have Hm := hide (And.intro hmn (And.intro hgx hgl))
      clear hA hX hx hmn hgx hgl hrel
      cases h4 : t.kind == 4 with
      | false =>
        rw [h4] at hk hRR
        replace hRR : R = .ok x (t :: rest) := hRR.symm
        have HRR := hide hRR
        clear hRR h4 hro hru
        go_upto_region 9 with fail
        clear hk c4 c5
        obtain ⟨⟨d0, d1, d2, d3, d4⟩, -⟩ := HX.out.1.cells
        obtain ⟨⟨c0, c1, c2, c3, c4⟩, f0, f1, f2, f3, f4⟩ := HA.out.2.2.2.cells
        go_wp2_with fail
        refine set5 (P := fun W => bodyPost _ _ _ _ _ W) HA.out.2.2.2 fun W5 h11 k11 => ?_
        obtain ⟨⟨q0, q1, q2, q3, q4⟩, -⟩ := h11.cells
        refine bodyPost_ret (v := .agg #[.int .i64 k', .int .i64 n', .string (sB nm), .string (sB op), .slice sp sm sc]) (by simp [results, Tryd.results115, go_sem, q0, q1, q2, q3, q4]) rfl ?_
        rw [← hQ.out, HRR.out]
        exact res_done rfl hgz.out HA.out.2.2.1 HX.out.2 (fun i hi => hi.1) HA.out.1 HA.out.2.1 hbw.out k11
      | true =>
        rw [h4] at hk hRR
        have hk4 := hide (show 2 ≤ t.kind by have : t.kind = 4 := by simpa using h4
                                             omega)
        clear h4
        cases h5 : ruleN t.text == r with
        | false =>
          rw [h5] at hru hRR
          replace hRR : R = .ok x (t :: rest) := hRR.symm
          have HRR := hide hRR
          clear hRR h5
          generalize ((ruleN t.text : Nat) : Int) = ru at *
          go_upto_region 9 with (go_at_call 101; (with_reducible refine hro.mono ?_); rintro e w9 ⟨rfl, k9⟩)
          replace HA := hide (HA.out.new k9)
          replace HX := hide (And.intro (HX.out.1.keeps k9 id) (HX.out.2.keeps k9 (fun _ _ q => q)))
          clear hk c4 c5 hru k9 hro
          obtain ⟨⟨d0, d1, d2, d3, d4⟩, -⟩ := HX.out.1.cells
          obtain ⟨⟨c0, c1, c2, c3, c4⟩, f0, f1, f2, f3, f4⟩ := HA.out.2.2.2.cells
          go_wp2_with fail
          refine set5 (P := fun W => bodyPost _ _ _ _ _ W) HA.out.2.2.2 fun W5 h11 k11 => ?_
          obtain ⟨⟨q0, q1, q2, q3, q4⟩, -⟩ := h11.cells
          refine bodyPost_ret (v := .agg #[.int .i64 k', .int .i64 n', .string (sB nm), .string (sB op), .slice sp sm sc]) (by simp [results, Tryd.results115, go_sem, q0, q1, q2, q3, q4]) rfl ?_
          rw [← hQ.out, HRR.out]
          exact res_done rfl hgz.out HA.out.2.2.1 HX.out.2 (fun i hi => hi.1) HA.out.1 HA.out.2.1 hbw.out k11
        | true =>
          rw [h5] at hru hRR
          replace hRR : (joinedD m (r + 1) rest).bind (fun y ts2 => if r = 3 then .ok (exBin t.text x y) ts2 else loopD m r (exBin t.text x y) ts2) = R := hRR
          clear h5
          generalize ((ruleN t.text : Nat) : Int) = ru at *
          go_upto_region 5 with (go_at_call 101; (with_reducible refine hro.mono ?_); rintro e w9 ⟨rfl, k9⟩)
          replace HA := hide (HA.out.new k9)
          replace HX := hide (And.intro (HX.out.1.keeps k9 id) (HX.out.2.keeps k9 (fun _ _ q => q)))
          have Hw9 := hide k9.size
          have hT := take_any HA.out.1 hk4.out HA.out.2.1
          clear hk c4 c5 hru k9 hro hk4
          go_upto_region 6 with (go_at_call 88; (with_reducible refine hT.mono ?_); rintro e w1 ⟨rfl, hA1⟩)
          have hbx : Hid (¬ gx = b) := hide (fun q => by have := Hm.out; have := hbw.out; omega)
          have hPb : Hid (∀ i, (g < i ∧ i ≠ gx) → ¬ i = b) := hide (fun i hi q => by have := hbw.out; omega)
          replace HA := hide (HA.out.adv hA1 hgb.out)
          replace HX := hide (And.intro (HX.out.1.keeps hA1.2.2 hbx.out) (HX.out.2.keeps hA1.2.2 hPb.out))
          have hne : joinedD m (r + 1) rest ≠ .out := fun q => HRo.out (by rw [← hRR, q]; rfl)
          have hc := HJ.out m (by have := Hm.out.1; omega) _ rest HA.out.1 HA.out.2.1 hne
          clear hT hA1
          cases hR2 : joinedD m (r + 1) rest with
          | out => exact absurd hR2 hne
          | no l er =>
            rw [hR2] at hc hRR
            replace hRR : R = .no l er := hRR.symm
            have HRR := hide hRR
            clear hRR hR2 hne
            go_wp2_with fail
            refine hc.mono ?_
            rintro e w9 ⟨rfl, h5, k5⟩
            refine ⟨rfl, ?_⟩
            rw [← hQ.out, HRR.out]
            exact ⟨rfl, h5, HA.out.2.2.1.trans k5 (fun _ _ q => q)⟩
          | ok y ts2 =>
            rw [hR2] at hc hRR
            replace hRR : (if r = 3 then .ok (exBin t.text x y) ts2 else loopD m r (exBin t.text x y) ts2) = R := hRR
            have HRR := hide hRR
            clear hRR hR2 hne
            go_wp2_with fail
            refine hc.mono ?_
            rintro e w4 ⟨v, rfl, ⟨cs, hv, hy⟩, hA2⟩
            have hwx := hide (show gx < _ from heap_lt HX.out.1)
            have HY := hide hy.under
            obtain ⟨k2, n2, nm2, op2, sp2, sm2, sc2, rfl⟩ := hy.form
            replace hv : v = .agg #[.int .i64 k2, .int .i64 n2, .string (sB nm2), .string (sB op2), .slice sp2 sm2 sc2] := hv
            subst hv
            replace HA := hide (HA.out.adv hA2 hgb.out)
            replace HX := hide (And.intro (HX.out.1.keeps hA2.2.2 hbx.out) (HX.out.2.keeps hA2.2.2 hPb.out))
            clear hc hy hA2
            go_upto_region 7 with fail
            refine alloc1 (P := fun W => Code.wp _ _ _ _ W) fun w5 h5 hz5 k5 => ?_
            replace HA := hide (HA.out.new k5)
            replace HX := hide (And.intro (HX.out.1.keeps k5 id) (HX.out.2.keeps k5 (fun _ _ q => q)))
            replace HY := hide (HY.out.keeps k5 (fun _ _ q => q))
            have hg4 := hide (show w4.heap.size < w5.heap.size by omega)
            replace h5 : Xc w5 w4.heap.size (.int .i64 k2) (.int .i64 n2) (.string (sB nm2)) (.string (sB op2)) (.slice sp2 sm2 sc2) := h5
            have kA := (Keeps.refl w5 (fun _ => False)).alloc (.cells #[.int .i64 k', .int .i64 n', .string (sB nm), .string (sB op), .slice sp sm sc, .int .i64 k2, .int .i64 n2, .string (sB nm2), .string (sB op2), .slice sp2 sm2 sc2] 42)
            have hnew := hide (heap_alloc_new w5 (.cells #[.int .i64 k', .int .i64 n', .string (sB nm), .string (sB op), .slice sp sm sc, .int .i64 k2, .int .i64 n2, .string (sB nm2), .string (sB op2), .slice sp2 sm2 sc2] 42))
            obtain ⟨⟨d0, d1, d2, d3, d4⟩, -⟩ := HX.out.1.cells
            obtain ⟨⟨y0, y1, y2, y3, y4⟩, -⟩ := h5.cells
            have hXA := HX.out.1.keeps kA id
            obtain ⟨⟨c0, c1, c2, c3, c4⟩, f0, f1, f2, f3, f4⟩ := hXA.cells
            have HXA := hide (And.intro hXA (And.intro kA (HX.out.2.keeps kA (fun _ _ q => q))))
            replace HY := hide (HY.out.keeps kA (fun _ _ q => q))
            clear h5 hz5 k5 kA hXA
            generalize w4.heap.size = gy at *
            go_upto_region 8 with fail
            refine set5 (P := fun W => Code.wp _ _ _ _ W) HXA.out.1 fun w6 h6 k6 => ?_
            have hmm := Hm.out
            have hbb := hbw.out
            have hgg := hgz.out
            have hxs := heap_lt HX.out.1
            have hw9 := hwx.out
            have hsz6 := k6.size
            have hz6 := HXA.out.2.1.size
            have hnl := heap_lt hnew.out
            have kA5 := HXA.out.2.1
            have hx6 := HXA.out.2.2.keeps k6 (fun i hi => hi.2)
            have hy6 := (HY.out.keeps k6 (fun i hi q => by have : _ ≤ i := hi.1; omega)).mono (P' := fun i => g < i ∧ i ≠ gx) (fun i hi => by have : _ ≤ i := hi.1; exact ⟨by omega, by omega⟩)
            have hA6 : At w g b T ts2 w6 := ⟨(HA.out.new kA5).1.keeps k6 (fun q => by omega), (HA.out.new kA5).2.1.keepsAt k6 (by omega), (HA.out.new kA5).2.2.1.trans k6 (fun i hi q => by subst q; omega), (HA.out.new kA5).2.2.2.keeps k6 (fun q => by omega)⟩
            have hr6 := range_blk ((k6.block _ hnl (fun q => by omega)).trans hnew.out)
            have hB6 : ExC w6 (fun i => g < i ∧ i ≠ gx) (exBin t.text x y) [.int .i64 7, .int .i64 0, .string ⟨#[]⟩, .string (sB t.text), .slice (some ⟨w5.heap.size, 0, none⟩) 2 2] :=
              ExC.mk (ArgsV.some (args := [_, _]) (g := w5.heap.size) ⟨by omega, by omega⟩ (by omega) (Nat.le_refl _) hr6 (ExsC.cons hx6 (ExsC.cons hy6 ExsC.nil)))
            replace HA := hide hA6
            replace HX := hide (And.intro h6 hB6)
            have hg6 := hide (show gx < w6.heap.size by omega)
            clear h6 hA6 hB6 hr6 hx6 hy6 kA5 hnl hz6 hsz6 hw9 hxs hgg hbb hmm k6 HXA HY c0 c1 c2 c3 c4 f0 f1 f2 f3 f4 d0 d1 d2 d3 d4 y0 y1 y2 y3 y4 hg4 hnew
            generalize w5.heap.size = gz at *
            by_cases h3 : r = 3
            · have hr3 : ((r : Int) == 3) = true := by subst h3; rfl
              replace HRR : Hid (R = .ok (exBin t.text x y) ts2) := hide (by rw [← HRR.out, if_pos h3])
              clear h3
              go_upto_region 9 with fail
              obtain ⟨⟨d0, d1, d2, d3, d4⟩, -⟩ := HX.out.1.cells
              obtain ⟨⟨c0, c1, c2, c3, c4⟩, f0, f1, f2, f3, f4⟩ := HA.out.2.2.2.cells
              go_wp2_with fail
              refine set5 (P := fun W => bodyPost _ _ _ _ _ W) HA.out.2.2.2 fun W5 h11 k11 => ?_
              obtain ⟨⟨q0, q1, q2, q3, q4⟩, -⟩ := h11.cells
              refine bodyPost_ret (v := .agg #[.int .i64 7, .int .i64 0, .string ⟨#[]⟩, .string (sB t.text), .slice (some ⟨gz, 0, none⟩) 2 2]) (by simp [results, Tryd.results115, go_sem, q0, q1, q2, q3, q4]) rfl ?_
              rw [← hQ.out, HRR.out]
              exact res_done rfl hgz.out HA.out.2.2.1 HX.out.2 (fun i hi => hi.1) HA.out.1 HA.out.2.1 hbw.out k11
            · have hr3 : ((r : Int) == 3) = false := by rw [beq_eq_false_iff_ne]; omega
              replace HRR : Hid (loopD m r (exBin t.text x y) ts2 = R) := hide (by rw [← HRR.out, if_neg h3])
              clear h3
              go_wp2_with fail
              go_roundg m
              case measure => exact Nat.lt_succ_self m
              case rel => exact ⟨_, ts2, HA.out, by have := Hm.out; omega, HRR.out, Hm.out.2.1, hg6.out, _, _, _, _, _, _, _, HX.out.1, HX.out.2⟩
end Lg
end Go.Proofs.YtlpfnikhnchpdaaDoor
/-
  lang: expressions, whatever the fuel.
-/
namespace Go.Proofs.YtlpfnikhnchpdaaDoor
namespace Lg
open Go.RowKit
set_option linter.unusedVariables false
/-- All readers of expressions at one fuel. -/
structure Xs (b : Nat) (T : Bs) (n : Nat) : Prop where
  joined : ∀ r : Nat, 1 ≤ r → r ≤ 6 → Reads 115 #[.pointer (some ⟨b, 0, none⟩), .int .i64 (r : Int)] b T (joinedD n r)
  unary : Reads 123 #[.pointer (some ⟨b, 0, none⟩)] b T (unaryD n)
  prim : Reads 129 #[.pointer (some ⟨b, 0, none⟩)] b T (primD n)
  key : Reads 116 #[.pointer (some ⟨b, 0, none⟩)] b T (keyD n)
theorem Xs.expr {b : Nat} {T : Bs} {n : Nat} (h : Xs b T n) : Reads 90 #[.pointer (some ⟨b, 0, none⟩)] b T (joinedD n 1) := expr_step (h.joined 1 (Nat.le_refl _) (by decide))
theorem exprs_any (b : Nat) (T : Bs) : ∀ n m, m ≤ n → Xs b T m := by
  intro n
  induction n with
  | zero =>
    intro m hm
    obtain rfl : m = 0 := by omega
    exact ⟨fun r _ _ w ts _ _ h => absurd (by rw [joinedD]) h, fun w ts _ _ h => absurd (by rw [unaryD]) h, fun w ts _ _ h => absurd (by rw [primD]) h, fun w ts _ _ h => absurd (by rw [keyD]) h⟩
  | succ n ih =>
    intro m hm
    by_cases hle : m ≤ n
    · exact ih m hle
    · obtain rfl : m = n + 1 := by omega
      have hn := ih n (Nat.le_refl _)
      refine ⟨fun r h1 h6 => ?_, unary_step hn.unary hn.prim, prim_step hn.key hn.expr, key_step hn.expr⟩
      by_cases he : r = 6
      · exact joined_six he hn.unary
      · exact joined_loop h1 (by omega) (fun m hm => (ih m hm).joined (r + 1) (by omega) (by omega))
end Lg
end Go.Proofs.YtlpfnikhnchpdaaDoor
/-
  lang: newReader.
-/
namespace Go.Proofs.YtlpfnikhnchpdaaDoor
namespace Lg
open Go.RowKit
set_option linter.unusedVariables false
set_option maxRecDepth 100000 in
set_option maxHeartbeats 1000000 in
theorem newReader_any {w : World} {T : Bs} (hG : LgAt w) (hH : Hi w.heap.size) (hT : T.length ≤ 1048576) (hE : ∃ ev, w.cell? ⟨10, 0, none⟩ = some ev ∧ (ev = .nilIface ∨ ∃ te pe, ev = .iface te pe)) :
    Calls Tryd.prog 39 #[.string (sB T)] w fun e w' => e = .returned (.pointer (some ⟨w.heap.size, 0, none⟩)) ∧ RAt w' w.heap.size T (tokens T) ∧ Ev w' w.heap.size T ∧ Keeps w w' (fun _ => False) := by
  have kA := (Keeps.refl w (fun _ => False)).alloc (.cells #[.string (sB T), .int .i64 0, .int .i64 1, .int .i64 0, .int .i64 0, .string ⟨#[]⟩, .int .i64 0] 118)
  have hR : RdB (w.alloc (.cells #[.string (sB T), .int .i64 0, .int .i64 1, .int .i64 0, .int .i64 0, .string ⟨#[]⟩, .int .i64 0] 118)) w.heap.size T 0 1 0 0 [] 0 := heap_alloc_new w _
  have hE2 : Ev w w.heap.size T := ⟨hG, hH, hT, hE⟩
  have hEA := hE2.keeps kA (fun _ q => q.elim)
  have hsc := scan_any hEA.lg hEA.hi hR (Nat.zero_le _) (by decide) (Nat.zero_le _) hT
  have HEA := hide (And.intro hEA kA)
  clear hE2 hEA hR kA hG hH hT hE
  go_enter Tryd.func39, Tryd.ntmps39
  go_wp2_with fail
  refine hsc.mono ?_
  rintro e w2 ⟨a', l', c', t', rest', rfl, e1, e2, e3, e4, e5, e6, e7, e8, e9, k2⟩
  obtain ⟨⟨c0, c1, c2, c3, c4, c5, c6⟩, f1, f2, f3, f4, f5, f6⟩ := e9.cells
  have HH := hide (And.intro e1 (And.intro e2 (And.intro e3 (And.intro e4 (And.intro e5 (And.intro e6 (And.intro e7 (And.intro e8 (And.intro e9 k2)))))))))
  clear e1 e2 e3 e4 e5 e6 e7 e8 e9 k2 hsc
  generalize hgz : w.heap.size = g at *
  replace hgz := hide hgz
  go_upto_region 3 with fail
  obtain ⟨e1, e2, e3, e4, e5, e6, e7, e8, e9, k2⟩ := HH.out
  refine now_step (P := fun W => Code.wp _ _ _ _ W) e9 fun W3 g1 k3 => ?_
  have k4 := k2.trans k3 (fun _ _ q => q)
  have kk : Keeps w W3 (fun _ => False) := HEA.out.2.trans k4 (fun i hi q => by have := hgz.out; subst q; omega)
  have HF := hide (And.intro (show RAt W3 g T (tokens T) from ⟨a', l', c', t', rest', e1, g1, e2, e3, e5, e6, e7, e8, toks0_num e1⟩) (And.intro (HEA.out.1.keepsAt k4 (Nat.le_refl _)) kk))
  clear e1 e2 e3 e4 e5 e6 e7 e8 e9 k2 g1 k3 k4 kk
  go_wp2_with fail
  go_ret
  rw [hgz.out]
  exact ⟨rfl, HF.out⟩
end Lg
end Go.Proofs.YtlpfnikhnchpdaaDoor
/-
  lang: statements as they lie in memory.
-/
namespace Go.Proofs.YtlpfnikhnchpdaaDoor
namespace Lg
open Go.RowKit
set_option linter.unusedVariables false
mutual
/-- A statement's seven cells; its parts lie in blocks of P. -/
inductive StC (w : World) (P : Nat → Prop) : St → List Value → Prop
  | mk {k : Int} {nm ky vl : Bs} {es : List Ex} {bd el : List St} {ev bv lv : Value} (he : ArgsV w P es ev) (hb : StsV w P bd bv) (hl : StsV w P el lv) : StC w P (.mk k nm ky vl es bd el) [.int .i64 k, .string (sB nm), .string (sB ky), .string (sB vl), ev, bv, lv]
inductive StsV (w : World) (P : Nat → Prop) : List St → Value → Prop
  | nil : StsV w P [] (.slice none 0 0)
  | some {g c : Nat} {l : List St} {cells : List Value} (hg : P g) (hl : g < w.heap.size) (hc : l.length ≤ c) (hr : w.rangeAt g 0 cells) (h : StsC w P l cells) : StsV w P l (.slice (.some ⟨g, 0, none⟩) l.length c)
inductive StsC (w : World) (P : Nat → Prop) : List St → List Value → Prop
  | nil : StsC w P [] []
  | cons {x : St} {r : List St} {c d : List Value} (hx : StC w P x c) (hr : StsC w P r d) : StsC w P (x :: r) (c ++ d)
end
mutual
theorem StC.keeps {w w' : World} {P : Nat → Prop} {S : Nat → Prop} (k : Keeps w w' S) (hS : ∀ i, P i → ¬ S i) : ∀ {x : St} {c : List Value}, StC w P x c → StC w' P x c
  | _, _, .mk he hb hl => .mk (ArgsV.keeps k hS he) (StsV.keeps k hS hb) (StsV.keeps k hS hl)
theorem StsV.keeps {w w' : World} {P : Nat → Prop} {S : Nat → Prop} (k : Keeps w w' S) (hS : ∀ i, P i → ¬ S i) : ∀ {l : List St} {v : Value}, StsV w P l v → StsV w' P l v
  | _, _, .nil => .nil
  | _, _, .some hg hl hc hr h => .some hg (Nat.lt_of_lt_of_le hl k.size) hc (range_keeps hr k (hS _ hg)) (StsC.keeps k hS h)
theorem StsC.keeps {w w' : World} {P : Nat → Prop} {S : Nat → Prop} (k : Keeps w w' S) (hS : ∀ i, P i → ¬ S i) : ∀ {l : List St} {c : List Value}, StsC w P l c → StsC w' P l c
  | _, _, .nil => .nil
  | _, _, .cons hx hr => .cons (StC.keeps k hS hx) (StsC.keeps k hS hr)
end
mutual
theorem StC.mono {w : World} {P P' : Nat → Prop} (h : ∀ i, P i → P' i) : ∀ {x : St} {c : List Value}, StC w P x c → StC w P' x c
  | _, _, .mk he hb hl => .mk (ArgsV.mono h he) (StsV.mono h hb) (StsV.mono h hl)
theorem StsV.mono {w : World} {P P' : Nat → Prop} (h : ∀ i, P i → P' i) : ∀ {l : List St} {v : Value}, StsV w P l v → StsV w P' l v
  | _, _, .nil => .nil
  | _, _, .some hg hl hc hr q => .some (h _ hg) hl hc hr (StsC.mono h q)
theorem StsC.mono {w : World} {P P' : Nat → Prop} (h : ∀ i, P i → P' i) : ∀ {l : List St} {c : List Value}, StsC w P l c → StsC w P' l c
  | _, _, .nil => .nil
  | _, _, .cons hx hr => .cons (StC.mono h hx) (StsC.mono h hr)
end
mutual
theorem StC.under {w : World} {P : Nat → Prop} : ∀ {x : St} {c : List Value}, StC w P x c → StC w (fun i => P i ∧ i < w.heap.size) x c
  | _, _, .mk he hb hl => .mk (ArgsV.under he) (StsV.under hb) (StsV.under hl)
theorem StsV.under {w : World} {P : Nat → Prop} : ∀ {l : List St} {v : Value}, StsV w P l v → StsV w (fun i => P i ∧ i < w.heap.size) l v
  | _, _, .nil => .nil
  | _, _, .some hg hl hc hr q => .some ⟨hg, hl⟩ hl hc hr (StsC.under q)
theorem StsC.under {w : World} {P : Nat → Prop} : ∀ {l : List St} {c : List Value}, StsC w P l c → StsC w (fun i => P i ∧ i < w.heap.size) l c
  | _, _, .nil => .nil
  | _, _, .cons hx hr => .cons (StC.under hx) (StsC.under hr)
end
theorem StsV.form {w : World} {P : Nat → Prop} {l : List St} {v : Value} (h : StsV w P l v) : ∃ p n c, v = .slice p n c := by
  cases h with
  | nil => exact ⟨_, _, _, rfl⟩
  | some => exact ⟨_, _, _, rfl⟩
theorem StC.form {w : World} {P : Nat → Prop} {x : St} {cs : List Value} (h : StC w P x cs) : ∃ (k : Int) (nm ky vl : Bs) (ep : Option Addr) (em ec : Nat) (bp : Option Addr) (bm bc : Nat) (lp : Option Addr) (lm lc : Nat),
    cs = [.int .i64 k, .string (sB nm), .string (sB ky), .string (sB vl), .slice ep em ec, .slice bp bm bc, .slice lp lm lc] := by
  cases h with
  | mk he hb hl =>
    obtain ⟨ep, em, ec, rfl⟩ := he.form
    obtain ⟨bp, bm, bc, rfl⟩ := hb.form
    obtain ⟨lp, lm, lc, rfl⟩ := hl.form
    exact ⟨_, _, _, _, _, _, _, _, _, _, _, _, _, rfl⟩
/-- Values that are a statement, a list of them, a list of expressions. -/
def StG (B : Nat) (x : St) (v : Value) (w : World) : Prop := ∃ cs : List Value, v = .agg cs.toArray ∧ StC w (fun i => B ≤ i) x cs
def StsG (B : Nat) (l : List St) (v : Value) (w : World) : Prop := StsV w (fun i => B ≤ i) l v
def ExsG (B : Nat) (l : List Ex) (v : Value) (w : World) : Prop := ArgsV w (fun i => B ≤ i) l v
theorem exs_app {w : World} {P : Nat → Prop} : ∀ {l m : List Ex} {c d : List Value}, ExsC w P l c → ExsC w P m d → ExsC w P (l ++ m) (c ++ d)
  | _, _, _, _, .nil, h => h
  | _, _, _, _, .cons hx hr, h => by
    rw [List.append_assoc]
    exact .cons hx (exs_app hr h)
theorem sts_app {w : World} {P : Nat → Prop} : ∀ {l m : List St} {c d : List Value}, StsC w P l c → StsC w P m d → StsC w P (l ++ m) (c ++ d)
  | _, _, _, _, .nil, h => h
  | _, _, _, _, .cons hx hr, h => by
    rw [List.append_assoc]
    exact .cons hx (sts_app hr h)
end Lg
end Go.Proofs.YtlpfnikhnchpdaaDoor
/-
  lang: lists that grow: of expressions, of statements.
-/
namespace Go.Proofs.YtlpfnikhnchpdaaDoor
namespace Lg
open Go.RowKit
set_option linter.unusedVariables false
theorem wpList_append_run {P : Program} (w : World) {ops : Array Oper} {rest : List Oper} {o : Oper} {a : Act} {Q : Exit → Act → World → Prop}
    (hgd : o.guard = none) (s x : Operand) (t : TypeId) (hop : o.op = Op.call { callee := Callee.builtin Builtin.append, args := #[s, x], argTypes := #[t, t] }) {v u v' : Value} {w' : World} (hs : a.eval s = v) (hx : a.eval x = u)
    (hrun : ∀ ty, (Builtin.append_ #[t, t] ty #[v, u]).run P w = .ok v' w') (hK : wpList P ops Q rest (a.put o.dst v') w') : wpList P ops Q (o :: rest) a w := by
  refine wpList_plain hgd fun K hK' => ?_
  unfold Oper.wp
  simp [execOp, hop, resolve, invoke, builtin, hs, hx, hrun, Result.andThen]
  exact hK' _ _ hK
/-- One struct more. -/
theorem append_row (t e : TypeId) (z : Value) (size bytes : Nat) (ht : Tryd.prog.underlying t = some (.slice e)) (hi : (Tryd.prog.info? e).map (fun i => (i.zero, i.size, i.bytes)) = some (some z, size, bytes)) (hz : z.cells.size = size) (hs0 : 0 < size)
    {W : World} {base n : Nat} {v : Value} {xs us : List Value} (own : W.ownsRow base e size v n xs) {p : Nat} {ut : TypeId} {fz : Nat × Nat} (hp : W.heap[p]? = some (.cells us.toArray ut fz)) (hus : us.length = size) (h1 : ∀ u ∈ us, u.oneCell' = true) (hb : (n + 1) * bytes ≤ 140737488355328) (hn : n + 1 ≤ 1099511627776) (hbase : base ≤ W.heap.size) :
    ∃ g2 c2 W', (∀ ty, (Builtin.append_ #[t, t] ty #[v, .slice (some ⟨p, 0, none⟩) 1 1]).run Tryd.prog W = .ok (.slice (some ⟨g2, 0, none⟩) (n + 1) c2) W') ∧ W'.ownsRow base e size (.slice (some ⟨g2, 0, none⟩) (n + 1) c2) (n + 1) (xs ++ us) ∧ Keeps W W' (fun k => v.ownBlock = some k) ∧ (v.ownBlock = some g2 ∨ g2 = W.heap.size) := by
  have hi' : ∃ i, Tryd.prog.info? e = some i ∧ i.zero = some z ∧ i.size = size ∧ i.bytes = bytes := by
    cases h : Tryd.prog.info? e with
    | none => rw [h] at hi; cases hi
    | some i =>
      rw [h] at hi
      simp at hi
      exact ⟨i, rfl, hi.1, hi.2.1, hi.2.2⟩
  obtain ⟨i, q1, q2, q3, q4⟩ := hi'
  obtain ⟨g, cap, w', hr, h2, h3, h4, _⟩ := run_append_lies (P := Tryd.prog) W t 0 base e i z size bytes ht q1 q2 q3 q4 hz hs0 v n xs own ⟨p, 0, none⟩ 1 1 us (by omega)
    (fun j x hj => by
      rw [addr_add, Nat.zero_add]
      simp only [World.cell?, hp]
      simpa using hj) h1 (by omega) (by simp only [maxLen]; omega) hb hbase W.heap.size rfl
  exact ⟨g, cap, w', fun ty => hr, h2, ⟨h3.os, h3.tape, h3.output, h3.size, fun k hk hn => h3.block k hk (fun e => hn e.symm)⟩, h4⟩
theorem row_range {W : World} {base : Nat} {e : TypeId} {size n g c : Nat} {xs : List Value} {v : Value} (own : W.ownsRow base e size v n xs) (hv : v = .slice (some ⟨g, 0, none⟩) n c) : base ≤ g ∧ g < W.heap.size ∧ n ≤ c ∧ W.rangeAt g 0 xs := by
  rcases own.2 with ⟨h, _⟩ | ⟨g', cap, cur, h, hb, hg, hn, hm, hc, ht⟩
  · rw [hv] at h
    cases h
  · rw [hv] at h
    injection h with h1 h2 h3
    injection h1 with h1
    injection h1 with h1
    subst h1
    subst h3
    refine ⟨hb, heap_lt hg, hn, fun j v hj => ?_⟩
    simp only [World.cell?, hg, Nat.zero_add]
    rw [← ht, List.getElem?_take] at hj
    split at hj
    · simpa using hj
    · cases hj
/-- A list of expressions that is appended to. -/
def ExsR (W : World) (base : Nat) (v : Value) (l : List Ex) : Prop := ∃ xs, W.ownsRow base 42 5 v l.length xs ∧ ExsC W (fun i => base ≤ i ∧ v.ownBlock ≠ some i) l xs
theorem ExsR.args {W : World} {base : Nat} {v : Value} {l : List Ex} (h : ExsR W base v l) : ArgsV W (fun i => base ≤ i) l v := by
  obtain ⟨xs, own, hx⟩ := h
  rcases own.2 with ⟨rfl, hn⟩ | ⟨g, cap, cur, rfl, r⟩
  · obtain rfl := List.length_eq_zero_iff.1 hn
    exact .nil
  · obtain ⟨a, b, c, d⟩ := row_range own rfl
    exact .some a b c d (hx.mono (fun i hi => hi.1))
theorem ExsR.keeps {W W' : World} {base : Nat} {v : Value} {l : List Ex} (h : ExsR W base v l) {S : Nat → Prop} (k : Keeps W W' S) (hS : ∀ i, base ≤ i → ¬ S i) : ExsR W' base v l := by
  obtain ⟨xs, own, hx⟩ := h
  refine ⟨xs, ⟨own.1, ?_⟩, hx.keeps k (fun i hi => hS i hi.1)⟩
  rcases own.2 with h2 | ⟨g, cap, cur, hv, hb, hg, r⟩
  · exact Or.inl h2
  · exact Or.inr ⟨g, cap, cur, hv, hb, (k.block g (heap_lt hg) (hS g hb)).trans hg, r⟩
theorem ExsR.more {W W' : World} {base : Nat} {v v' : Value} {l : List Ex} {x : Ex} {us : List Value} {g2 c2 n : Nat} (hv' : v' = .slice (some ⟨g2, 0, none⟩) n c2) (hn : n = (l ++ [x]).length) {xs : List Value} (hx : ExsC W (fun i => base ≤ i ∧ v.ownBlock ≠ some i) l xs) (hu : ExC W (fun i => base ≤ i ∧ v.ownBlock ≠ some i) x us) (own : W'.ownsRow base 42 5 v' n (xs ++ us)) (k : Keeps W W' (fun k => v.ownBlock = some k)) (hl : v.ownBlock = some g2 ∨ g2 = W.heap.size) : ExsR W' base v' (l ++ [x]) := by
  refine ⟨xs ++ us, by rw [← hn]; exact own, ?_⟩
  have hm : ∀ i, ((base ≤ i ∧ v.ownBlock ≠ some i) ∧ i < W.heap.size) → (base ≤ i ∧ v'.ownBlock ≠ some i) := fun i hi => by
    refine ⟨hi.1.1, fun q => ?_⟩
    rw [hv'] at q
    have e : g2 = i := by simpa [Value.ownBlock] using q
    rcases hl with h | h
    · exact hi.1.2 (e ▸ h)
    · have := hi.2
      omega
  have h1 : ExsC W' (fun i => base ≤ i ∧ v'.ownBlock ≠ some i) l xs := (hx.under.keeps k (fun i hi q => hi.1.2 q)).mono hm
  have h2 : ExC W' (fun i => base ≤ i ∧ v'.ownBlock ≠ some i) x us := (hu.under.keeps k (fun i hi q => hi.1.2 q)).mono hm
  have h3 := exs_app h1 (.cons h2 .nil)
  rwa [List.append_nil] at h3
/-- A list of statements that is appended to. -/
def StsR (W : World) (base : Nat) (v : Value) (l : List St) : Prop := ∃ xs, W.ownsRow base 49 7 v l.length xs ∧ StsC W (fun i => base ≤ i ∧ v.ownBlock ≠ some i) l xs
theorem StsR.args {W : World} {base : Nat} {v : Value} {l : List St} (h : StsR W base v l) : StsV W (fun i => base ≤ i) l v := by
  obtain ⟨xs, own, hx⟩ := h
  rcases own.2 with ⟨rfl, hn⟩ | ⟨g, cap, cur, rfl, r⟩
  · obtain rfl := List.length_eq_zero_iff.1 hn
    exact .nil
  · obtain ⟨a, b, c, d⟩ := row_range own rfl
    exact .some a b c d (hx.mono (fun i hi => hi.1))
theorem StsR.keeps {W W' : World} {base : Nat} {v : Value} {l : List St} (h : StsR W base v l) {S : Nat → Prop} (k : Keeps W W' S) (hS : ∀ i, base ≤ i → ¬ S i) : StsR W' base v l := by
  obtain ⟨xs, own, hx⟩ := h
  refine ⟨xs, ⟨own.1, ?_⟩, hx.keeps k (fun i hi => hS i hi.1)⟩
  rcases own.2 with h2 | ⟨g, cap, cur, hv, hb, hg, r⟩
  · exact Or.inl h2
  · exact Or.inr ⟨g, cap, cur, hv, hb, (k.block g (heap_lt hg) (hS g hb)).trans hg, r⟩
theorem StsR.more {W W' : World} {base : Nat} {v v' : Value} {l : List St} {x : St} {us : List Value} {g2 c2 n : Nat} (hv' : v' = .slice (some ⟨g2, 0, none⟩) n c2) (hn : n = (l ++ [x]).length) {xs : List Value} (hx : StsC W (fun i => base ≤ i ∧ v.ownBlock ≠ some i) l xs) (hu : StC W (fun i => base ≤ i ∧ v.ownBlock ≠ some i) x us) (own : W'.ownsRow base 49 7 v' n (xs ++ us)) (k : Keeps W W' (fun k => v.ownBlock = some k)) (hl : v.ownBlock = some g2 ∨ g2 = W.heap.size) : StsR W' base v' (l ++ [x]) := by
  refine ⟨xs ++ us, by rw [← hn]; exact own, ?_⟩
  have hm : ∀ i, ((base ≤ i ∧ v.ownBlock ≠ some i) ∧ i < W.heap.size) → (base ≤ i ∧ v'.ownBlock ≠ some i) := fun i hi => by
    refine ⟨hi.1.1, fun q => ?_⟩
    rw [hv'] at q
    have e : g2 = i := by simpa [Value.ownBlock] using q
    rcases hl with h | h
    · exact hi.1.2 (e ▸ h)
    · have := hi.2
      omega
  have h1 : StsC W' (fun i => base ≤ i ∧ v'.ownBlock ≠ some i) l xs := (hx.under.keeps k (fun i hi q => hi.1.2 q)).mono hm
  have h2 : StC W' (fun i => base ≤ i ∧ v'.ownBlock ≠ some i) x us := (hu.under.keeps k (fun i hi q => hi.1.2 q)).mono hm
  have h3 := sts_app h1 (.cons h2 .nil)
  rwa [List.append_nil] at h3
end Lg
end Go.Proofs.YtlpfnikhnchpdaaDoor
/-
  lang: printed.
-/
namespace Go.Proofs.YtlpfnikhnchpdaaDoor
namespace Lg
open Go.RowKit
set_option linter.unusedVariables false
theorem ExsR.own_lt {W : World} {base : Nat} {v : Value} {l : List Ex} (h : ExsR W base v l) {i : Nat} (hv : v.ownBlock = some i) : i < W.heap.size := by
  obtain ⟨xs, own, hx⟩ := h
  rcases own.2 with ⟨rfl, hn⟩ | ⟨g, cap, cur, rfl, hb, hg, r⟩
  · cases hv
  · have e : g = i := by simpa [Value.ownBlock] using hv
    exact e ▸ heap_lt hg
theorem infoEx : (Tryd.prog.info? 42).map (fun i => (i.zero, i.size, i.bytes)) = some (some (.agg #[.int .i64 0, .int .i64 0, .string ⟨#[]⟩, .string ⟨#[]⟩, .slice none 0 0]), 5, 72) := by kernel_rfl
theorem one5 {a b : Int} {s t : ByteArray} {p : Option Addr} {m c : Nat} : ∀ u ∈ [Value.int .i64 a, .int .i64 b, .string s, .string t, .slice p m c], u.oneCell' = true := by
  intro u hu
  simp only [List.mem_cons, List.not_mem_nil, or_false] at hu
  rcases hu with rfl | rfl | rfl | rfl | rfl <;> rfl
/-- printed's loop. -/
def PrL (w : World) (b : Nat) (T : Bs) (R : Rs (List Ex)) (n m : Nat) (v : Value) (l : List Ex) (ts : List Tk) (W : World) : Prop :=
  commaD m l ts = R ∧ l.length + m ≤ n + 1 ∧ RAt W b T ts ∧ Ev W b T ∧ Keeps w W (fun i => i = b) ∧ ExsR W w.heap.size v l

set_option maxRecDepth 100000 in
set_option maxHeartbeats 4000000 in
theorem printed_any {b : Nat} {T : Bs} {n : Nat} (hn9 : n ≤ 1073741824) (hX : ∀ m, m ≤ n → Reads 90 #[.pointer (some ⟨b, 0, none⟩)] b T (joinedD m 1)) {w : World} {ts : List Tk} (h : RAt w b T ts) (E : Ev w b T) (hD : printedD n ts ≠ .out) :
    Calls Tryd.prog 117 #[.pointer (some ⟨b, 0, none⟩)] w (Part w b T (printedD n ts) (ExsG w.heap.size)) := by
  have hbw := hide h.lt
  have HX := hide hX
  have Hn := hide hn9
  clear hX hn9
  by_cases hS : isF kSemi ts = true
  · have e : printedD n ts = .ok [] ts := by unfold printedD; rw [if_pos hS]
    rw [e]
    have hi : Calls Tryd.prog 86 #[.pointer (some ⟨b, 0, none⟩), .string ⟨#[59]⟩] w fun e w' => e = .returned (.bool (isF kSemi ts)) ∧ w' = w := is_any h kSemi
    rw [hS] at hi
    have HF : Hid (ExsG w.heap.size [] (.slice none 0 0) w ∧ AdvP w b T ts w) := ⟨.nil, h, E, Keeps.refl _ _⟩
    show Calls Tryd.prog 117 #[.pointer (some ⟨b, 0, none⟩)] w fun e w' => ∃ v, e = .returned v ∧ ExsG w.heap.size [] v w' ∧ AdvP w b T ts w'
    clear h E hD e hS
    go_enter Tryd.func117, Tryd.ntmps117
    go_wp2_with (go_at_call 86; (with_reducible refine hi.mono ?_); rintro e w1 ⟨rfl, rfl⟩)
    go_ret
    exact ⟨_, rfl, HF.out⟩
  · have e : printedD n ts = (joinedD n 1 ts).bind fun x ts2 => commaD n [x] ts2 := by unfold printedD; rw [if_neg hS]
    rw [e] at hD ⊢
    have hi : Calls Tryd.prog 86 #[.pointer (some ⟨b, 0, none⟩), .string ⟨#[59]⟩] w fun e w' => e = .returned (.bool (isF kSemi ts)) ∧ w' = w := is_any h kSemi
    rw [Bool.eq_false_iff.2 hS] at hi
    have hD2 : joinedD n 1 ts ≠ .out := fun q => hD (by rw [q]; rfl)
    have hc := HX.out n (Nat.le_refl _) w ts h E hD2
    clear h E hS e
    cases hR : joinedD n 1 ts with
    | out => exact absurd hR hD2
    | no l er =>
      rw [hR] at hc
      show Calls Tryd.prog 117 #[.pointer (some ⟨b, 0, none⟩)] w fun e w' => e = thrown l er ∧ Ev w' b T ∧ Keeps w w' (fun i => i = b)
      clear hD hD2 hR
      go_enter Tryd.func117, Tryd.ntmps117
      go_upto_region 3 with (go_at_call 86; (with_reducible refine hi.mono ?_); rintro e w1 ⟨rfl, rfl⟩)
      go_wp2_with fail
      refine hc.mono ?_
      rintro e w2 ⟨rfl, h5, k5⟩
      exact ⟨rfl, rfl, h5, k5⟩
    | ok x ts2 =>
      rw [hR] at hc
      have hDl : commaD n [x] ts2 ≠ .out := fun q => hD (by rw [hR]; exact q)
      show Calls Tryd.prog 117 #[.pointer (some ⟨b, 0, none⟩)] w (Part w b T (commaD n [x] ts2) (ExsG w.heap.size))
      obtain ⟨R, hRR⟩ : ∃ R, commaD n [x] ts2 = R := ⟨_, rfl⟩
      rw [hRR] at hDl ⊢
      have HRR := hide hRR
      have HRo := hide hDl
      generalize hQ : Part w b T R (ExsG w.heap.size) = Q
      replace hQ := hide hQ
      clear hD hD2 hR hRR hDl
      go_enter Tryd.func117, Tryd.ntmps117
      go_upto_region 3 with (go_at_call 86; (with_reducible refine hi.mono ?_); rintro e w1 ⟨rfl, rfl⟩)
      go_wp2_with fail
      refine hc.mono ?_
      rintro e w2 ⟨v, rfl, ⟨cs, hv, hx⟩, hA2⟩
      obtain ⟨k', n', nm, op, sp, sm, sc, rfl⟩ := hx.form
      replace hv : v = .agg #[.int .i64 k', .int .i64 n', .string (sB nm), .string (sB op), .slice sp sm sc] := hv
      subst hv
      have HX0 := hide hx.under
      have HA := hide hA2
      clear hc hi hx hA2
      go_wp2_with fail
      refine alloc1 (P := fun W => Code.wp _ _ _ _ W) fun W3 h3 hz3 k3 => ?_
      have hsz := HA.out.2.2.size
      have hxm : ExC W3 (fun i => w1.heap.size ≤ i ∧ (Value.slice (some ⟨w2.heap.size, 0, none⟩) 1 1).ownBlock ≠ some i) x [.int .i64 k', .int .i64 n', .string (sB nm), .string (sB op), .slice sp sm sc] :=
        (HX0.out.keeps k3 (fun _ _ q => q)).mono (fun i hi => by
          refine ⟨hi.1, fun q => ?_⟩
          have e : w2.heap.size = i := by simpa [Value.ownBlock] using q
          have := hi.2
          omega)
      have hxs : ExsC W3 (fun i => w1.heap.size ≤ i ∧ (Value.slice (some ⟨w2.heap.size, 0, none⟩) 1 1).ownBlock ≠ some i) [x] [.int .i64 k', .int .i64 n', .string (sB nm), .string (sB op), .slice sp sm sc] := ExsC.cons hxm ExsC.nil
      have hrow : ExsR W3 w1.heap.size (.slice (some ⟨w2.heap.size, 0, none⟩) 1 1) [x] := ⟨_, ⟨rfl, Or.inr ⟨w2.heap.size, 1, #[.int .i64 k', .int .i64 n', .string (sB nm), .string (sB op), .slice sp sm sc], rfl, hsz, h3, Nat.le_refl _, by simp only [maxLen]; omega, rfl, rfl⟩⟩, hxs⟩
      have HL : Hid (∃ l ts, PrL w1 b T R n n (.slice (some ⟨w2.heap.size, 0, none⟩) 1 1) l ts W3) := ⟨[x], ts2, HRR.out, by show 1 + n ≤ n + 1; omega, HA.out.1.keeps k3 id, HA.out.2.1.keeps k3 (fun _ q => q.elim), HA.out.2.2.trans (kF k3 b) (fun _ _ q => q), hrow⟩
      clear h3 hz3 k3 hsz HX0 HA HRR hxm hxs hrow
      go_loopg [3] n (fun m v3 wr => Hid (∃ l ts, PrL w1 b T R n m v3 l ts wr))
      case atStart => exact HL
      case round =>
        clear HL
        obtain ⟨l, ts', hRR, hlm, hA, hE, hK, hL⟩ := hrel.out
        obtain ⟨m, rfl⟩ : ∃ m, gk = m + 1 := by
          cases gk with
          | zero => exact absurd (hRR.symm.trans (by rw [commaD])) HRo.out
          | succ m => exact ⟨m, rfl⟩
        have eL : commaD (m + 1) l ts' = if isF kComma ts' = true then (joinedD m 1 ts'.tail).bind fun x ts2 => commaD m (l ++ [x]) ts2 else .ok l ts' := by rw [commaD]
        rw [eL] at hRR
        clear eL
        have hm : Calls Tryd.prog 64 #[.pointer (some ⟨b, 0, none⟩), .string ⟨#[44]⟩] wr fun e w' => e = .returned (.bool (isF kComma ts')) ∧ AdvP wr b T (if isF kComma ts' then ts'.tail else ts') w' := met_any hA hE kComma
        have HW := hide (And.intro hlm (And.intro hK hL))
        have hbr := hide hA.lt
        clear hA hE hK hL hlm hrel
        by_cases hC : isF kComma ts' = true
        · rw [hC] at hm
          simp only [if_true] at hm
          rw [if_pos hC] at hRR
          clear hC
          go_upto_region 5 with (go_at_call 64; (with_reducible refine hm.mono ?_); rintro e w4 ⟨rfl, hA4⟩)
          have hne : joinedD m 1 ts'.tail ≠ .out := fun q => HRo.out (by rw [← hRR, q]; rfl)
          have hc := HX.out m (by have := HW.out.1; omega) _ _ hA4.1 hA4.2.1 hne
          have HA4 := hide hA4
          clear hm hA4
          cases hR2 : joinedD m 1 ts'.tail with
          | out => exact absurd hR2 hne
          | no l2 er =>
            rw [hR2] at hc hRR
            replace hRR : R = .no l2 er := hRR.symm
            have HRR := hide hRR
            clear hRR hR2 hne
            go_wp2_with fail
            refine hc.mono ?_
            rintro e w9 ⟨rfl, h5, k5⟩
            refine ⟨rfl, ?_⟩
            rw [← hQ.out, HRR.out]
            exact ⟨rfl, h5, HW.out.2.1.trans (HA4.out.2.2.trans k5 (fun _ _ q => q)) (fun _ _ q => q)⟩
          | ok y ts3 =>
            rw [hR2] at hc hRR
            replace hRR : commaD m (l ++ [y]) ts3 = R := hRR
            have HRR := hide hRR
            clear hRR hR2 hne
            go_wp2_with fail
            refine hc.mono ?_
            rintro e w5 ⟨v, rfl, ⟨cs, hv, hy⟩, hA5⟩
            obtain ⟨k2, n2, nm2, op2, sp2, sm2, sc2, rfl⟩ := hy.form
            replace hv : v = .agg #[.int .i64 k2, .int .i64 n2, .string (sB nm2), .string (sB op2), .slice sp2 sm2 sc2] := hv
            subst hv
            have hb1 := hbw.out
            have hs4 := HA4.out.2.2.size
            have hs1 := HW.out.2.1.size
            have hs5 := hA5.2.2.size
            have hL4 := HW.out.2.2.keeps HA4.out.2.2 (fun i hi q => by omega)
            have hL5 := hL4.keeps hA5.2.2 (fun i hi q => by omega)
            have kA := (Keeps.refl w5 (fun _ => False)).alloc (.cells #[.int .i64 k2, .int .i64 n2, .string (sB nm2), .string (sB op2), .slice sp2 sm2 sc2] 42)
            have hsA := kA.size
            obtain ⟨xs, own, hxs⟩ := hL5.keeps kA (fun _ _ q => q)
            have hyA : ExC (w5.alloc (.cells #[.int .i64 k2, .int .i64 n2, .string (sB nm2), .string (sB op2), .slice sp2 sm2 sc2] 42)) (fun i => w1.heap.size ≤ i ∧ u3.ownBlock ≠ some i) y [.int .i64 k2, .int .i64 n2, .string (sB nm2), .string (sB op2), .slice sp2 sm2 sc2] :=
              (hy.keeps kA (fun _ _ q => q)).mono (fun i hi => by
                have hi' : _ ≤ i := hi
                refine ⟨by omega, fun q => ?_⟩
                have := hL4.own_lt q
                omega)
            obtain ⟨g2, c2, W6, hap, own6, k6, hl6⟩ := append_row 40 42 _ 5 72 Tryd.underlying40 infoEx rfl (by decide) own (heap_alloc_new w5 _) (us := [.int .i64 k2, .int .i64 n2, .string (sB nm2), .string (sB op2), .slice sp2 sm2 sc2]) rfl one5 (by have := HW.out.1; have := Hn.out; omega) (by have := HW.out.1; have := Hn.out; omega) (by omega)
            have kk : Keeps w5 W6 (fun k => u3.ownBlock = some k) := (kA.mono (fun _ _ q => q.elim)).trans k6 (fun _ _ q => q)
            have hvb : ∀ i, u3.ownBlock = some i → w1.heap.size ≤ i := fun i q => by
              rcases own.2 with ⟨h1, _⟩ | ⟨g, cap, cur, h1, hb, _⟩
              · rw [h1] at q; cases q
              · rw [h1] at q
                have e : g = i := by simpa [Value.ownBlock] using q
                omega
            have hrow : ExsR W6 w1.heap.size (.slice (some ⟨g2, 0, none⟩) (l.length + 1) c2) (l ++ [y]) := ExsR.more rfl (by simp) hxs hyA own6 k6 hl6
            have HF : Hid (∃ l' ts, PrL w1 b T R n m (.slice (some ⟨g2, 0, none⟩) (l.length + 1) c2) l' ts W6) := by
              refine ⟨l ++ [y], ts3, HRR.out, by have := HW.out.1; rw [List.length_append]; show l.length + 1 + m ≤ n + 1; omega, hA5.1.keeps kk (fun q => by have := hvb _ q; omega), hA5.2.1.keeps kk (fun i q => ?_), (HW.out.2.1.trans (HA4.out.2.2.trans hA5.2.2 (fun _ _ q => q)) (fun _ _ q => q)).trans kk (fun i hi q => by have := hvb _ q; omega), hrow⟩
              have h9 := hA5.2.1.hi
              have := hvb _ q
              unfold Hi at h9 ⊢
              omega
            have HS := hide (And.intro k6 own6)
            clear own hxs hyA kA hsA hrow kk hvb own6 k6 hl6 hL4 hL5 hb1 hs4 hs1 hs5 hy hA5
            go_wp2_with (first | (at_builtin; have _t := hap; refine wpList_append_run _ rfl (.tmp 11) (.tmp 14) 40 rfl rfl rfl hap ?_; clear hap))
            go_roundg m
            case measure => exact Nat.lt_succ_self m
            case rel =>
              obtain ⟨l2, ts4, h⟩ := HF.out
              exact ⟨l2, ts4, h⟩
        · rw [Bool.eq_false_iff.2 hC] at hm
          simp only [Bool.false_eq_true, if_false] at hm
          rw [if_neg hC] at hRR
          clear hC
          have HRR := hide hRR
          clear hRR
          go_upto_region 6 with (go_at_call 64; (with_reducible refine hm.mono ?_); rintro e w4 ⟨rfl, hA4⟩)
          have HA4 := hide hA4
          clear hm hA4
          go_wp2_with fail
          rw [← hQ.out, ← HRR.out]
          have hb1 := hbw.out
          exact ⟨_, rfl, (HW.out.2.2.keeps HA4.out.2.2 (fun i hi q => by omega)).args, HA4.out.1, HA4.out.2.1, HW.out.2.1.trans HA4.out.2.2 (fun _ _ q => q)⟩
end Lg
end Go.Proofs.YtlpfnikhnchpdaaDoor
/-
  lang: readers of statements: their contract, a statement's block.
-/
namespace Go.Proofs.YtlpfnikhnchpdaaDoor
namespace Lg
open Go.RowKit
set_option linter.unusedVariables false
/-- What a reader of whatever kind is held to. -/
def ReadsG {α : Type} (F : Nat) (args : Array Value) (b : Nat) (T : Bs) (D : List Tk → Rs α) (good : Nat → α → Value → World → Prop) : Prop :=
  ∀ (w : World) (ts : List Tk), RAt w b T ts → Ev w b T → D ts ≠ .out → Calls Tryd.prog F args w (Part w b T (D ts) (good w.heap.size))
/-- A statement's block. -/
def Sc (w : World) (g : Nat) (k nm ky vl ev bv lv : Value) : Prop := w.heap[g]? = some (.cells #[k, nm, ky, vl, ev, bv, lv] 49)
theorem Sc.cells {w : World} {g : Nat} {a b c d e f h : Value} (q : Sc w g a b c d e f h) :
    (w.cell? ⟨g, 0, none⟩ = some a ∧ w.cell? ⟨g, 1, none⟩ = some b ∧ w.cell? ⟨g, 2, none⟩ = some c ∧ w.cell? ⟨g, 3, none⟩ = some d ∧ w.cell? ⟨g, 4, none⟩ = some e ∧ w.cell? ⟨g, 5, none⟩ = some f ∧ w.cell? ⟨g, 6, none⟩ = some h) ∧ w.frozen? ⟨g, 0, none⟩ = false ∧ w.frozen? ⟨g, 1, none⟩ = false ∧ w.frozen? ⟨g, 2, none⟩ = false ∧ w.frozen? ⟨g, 3, none⟩ = false ∧ w.frozen? ⟨g, 4, none⟩ = false ∧ w.frozen? ⟨g, 5, none⟩ = false ∧ w.frozen? ⟨g, 6, none⟩ = false := by
  have q : w.heap[g]? = _ := q
  simp [World.cell?, World.frozen?, q]
theorem Sc.keeps {w W : World} {g : Nat} {a b c d e f h : Value} (q : Sc w g a b c d e f h) {S : Nat → Prop} (k : Keeps w W S) (hS : ¬ S g) : Sc W g a b c d e f h := (k.block g (heap_lt q) hS).trans q
theorem Sc.lt {w : World} {g : Nat} {a b c d e f h : Value} (q : Sc w g a b c d e f h) : g < w.heap.size := heap_lt q
theorem set7 {w : World} {g : Nat} {a b c d e f h a' b' c' d' e' f' h' : Value} {P : World → Prop} (q : Sc w g a b c d e f h) (hp : ∀ W, Sc W g a' b' c' d' e' f' h' → Keeps w W (fun i => i = g) → P W) :
    P (((((((w.setCell ⟨g, 0, none⟩ a').setCell ⟨g, 1, none⟩ b').setCell ⟨g, 2, none⟩ c').setCell ⟨g, 3, none⟩ d').setCell ⟨g, 4, none⟩ e').setCell ⟨g, 5, none⟩ f').setCell ⟨g, 6, none⟩ h') := by
  have h1 := set_one' q 0 a' (by simp)
  have h2 := set_one' h1 1 b' (by simp)
  have h3 := set_one' h2 2 c' (by simp)
  have h4 := set_one' h3 3 d' (by simp)
  have h5 := set_one' h4 4 e' (by simp)
  have h6 := set_one' h5 5 f' (by simp)
  exact hp _ (set_one' h6 6 h' (by simp)) ((((((((Keeps.refl w (fun i => i = g)).setCell _ (fun _ => rfl) _).setCell _ (fun _ => rfl) _).setCell _ (fun _ => rfl) _).setCell _ (fun _ => rfl) _).setCell _ (fun _ => rfl) _).setCell _ (fun _ => rfl) _).setCell _ (fun _ => rfl) _)
theorem Sc.set0 {w : World} {g : Nat} {a b c d e f h : Value} (x : Value) {P : World → Prop} (q : Sc w g a b c d e f h) (hp : ∀ W, Sc W g x b c d e f h → Keeps w W (fun i => i = g) → P W) : P (w.setCell ⟨g, 0, none⟩ x) := hp _ (set_one' q 0 x (by simp)) ((Keeps.refl w (fun i => i = g)).setCell _ (fun _ => rfl) _)
theorem Sc.set1 {w : World} {g : Nat} {a b c d e f h : Value} (x : Value) {P : World → Prop} (q : Sc w g a b c d e f h) (hp : ∀ W, Sc W g a x c d e f h → Keeps w W (fun i => i = g) → P W) : P (w.setCell ⟨g, 1, none⟩ x) := hp _ (set_one' q 1 x (by simp)) ((Keeps.refl w (fun i => i = g)).setCell _ (fun _ => rfl) _)
theorem Sc.set3 {w : World} {g : Nat} {a b c d e f h : Value} (x : Value) {P : World → Prop} (q : Sc w g a b c d e f h) (hp : ∀ W, Sc W g a b c x e f h → Keeps w W (fun i => i = g) → P W) : P (w.setCell ⟨g, 3, none⟩ x) := hp _ (set_one' q 3 x (by simp)) ((Keeps.refl w (fun i => i = g)).setCell _ (fun _ => rfl) _)
theorem Sc.set4 {w : World} {g : Nat} {a b c d e f h : Value} (x : Value) {P : World → Prop} (q : Sc w g a b c d e f h) (hp : ∀ W, Sc W g a b c d x f h → Keeps w W (fun i => i = g) → P W) : P (w.setCell ⟨g, 4, none⟩ x) := hp _ (set_one' q 4 x (by simp)) ((Keeps.refl w (fun i => i = g)).setCell _ (fun _ => rfl) _)
theorem Sc.set5 {w : World} {g : Nat} {a b c d e f h : Value} (x : Value) {P : World → Prop} (q : Sc w g a b c d e f h) (hp : ∀ W, Sc W g a b c d e x h → Keeps w W (fun i => i = g) → P W) : P (w.setCell ⟨g, 5, none⟩ x) := hp _ (set_one' q 5 x (by simp)) ((Keeps.refl w (fun i => i = g)).setCell _ (fun _ => rfl) _)
theorem Sc.set6 {w : World} {g : Nat} {a b c d e f h : Value} (x : Value) {P : World → Prop} (q : Sc w g a b c d e f h) (hp : ∀ W, Sc W g a b c d e f x → Keeps w W (fun i => i = g) → P W) : P (w.setCell ⟨g, 6, none⟩ x) := hp _ (set_one' q 6 x (by simp)) ((Keeps.refl w (fun i => i = g)).setCell _ (fun _ => rfl) _)
abbrev S0 (w : World) (g : Nat) : Prop := Sc w g (.int .i64 0) (.string ⟨#[]⟩) (.string ⟨#[]⟩) (.string ⟨#[]⟩) (.slice none 0 0) (.slice none 0 0) (.slice none 0 0)
/-- The reader's world within a call whose result's block is g. -/
def AtS (w : World) (g b : Nat) (T : Bs) (ts : List Tk) (W : World) : Prop := RAt W b T ts ∧ Ev W b T ∧ Keeps w W (fun i => i = b) ∧ S0 W g
theorem AtS.adv {w : World} {g b : Nat} {T : Bs} {ts ts' : List Tk} {W W' : World} (h : AtS w g b T ts W) (a : AdvP W b T ts' W') (hg : ¬ g = b) : AtS w g b T ts' W' :=
  ⟨a.1, a.2.1, h.2.2.1.trans a.2.2 (fun _ _ q => q), h.2.2.2.keeps a.2.2 hg⟩
theorem AtS.new {w : World} {g b : Nat} {T : Bs} {ts : List Tk} {W W' : World} (h : AtS w g b T ts W) (k : Keeps W W' (fun _ => False)) : AtS w g b T ts W' :=
  ⟨h.1.keeps k id, h.2.1.keeps k (fun _ q => q.elim), h.2.2.1.trans (kF k b) (fun _ _ q => q), h.2.2.2.keeps k id⟩
theorem AtS.lt {w : World} {g b : Nat} {T : Bs} {ts : List Tk} {W : World} (h : AtS w g b T ts W) : g < W.heap.size := heap_lt h.2.2.2
/-- A block of the call's own is turned. -/
theorem AtS.own {w : World} {g b gs : Nat} {T : Bs} {ts : List Tk} {W W' : World} (h : AtS w g b T ts W) (k : Keeps W W' (fun i => i = gs)) (hw : w.heap.size ≤ gs) (hb : b < w.heap.size) (hg : ¬ g = gs) : AtS w g b T ts W' :=
  ⟨h.1.keeps k (by omega), h.2.1.keepsAt k (by omega), h.2.2.1.trans k (fun i hi q => by subst q; omega), h.2.2.2.keeps k hg⟩
/-- The result's block is written last: what the call comes to. -/
theorem res_st {w W W5 : World} {b g : Nat} {P : Nat → Prop} {T : Bs} {ts2 : List Tk} {x : St} {cs : List Value} {v : Value} (hv : v = .agg cs.toArray) (hgz : w.heap.size = g) (kw : Keeps w W (fun i => i = b)) (hX : StC W P x cs) (hB : ∀ i, P i → g < i) (hA : RAt W b T ts2) (hE : Ev W b T) (hb : b < g) (k11 : Keeps W W5 (fun i => i = g)) :
    ∃ v', Ending.returned v = .returned v' ∧ StG g x v' W5 ∧ AdvP w b T ts2 W5 := by
  have hbg : ¬ b = g := by omega
  have hx5 := (hX.keeps k11 (fun i hi q => by have := hB i hi; omega)).mono (P' := fun i => g ≤ i) (fun i hi => Nat.le_of_lt (hB i hi))
  refine ⟨_, rfl, ⟨cs, hv, hx5⟩, hA.keeps k11 hbg, ?_, kw.trans k11 (fun i hi q => by subst q; omega)⟩
  exact hE.keeps k11 (fun i q => by subst q; have h9 := hE.hi; unfold Hi at h9 ⊢; omega)
/-- A fault of a part is the whole's. -/
theorem part_no {α : Type} {w W W9 : World} {b : Nat} {T : Bs} {R : Rs α} {good : α → Value → World → Prop} {l n : Nat} (hR : R = .no l n) (h5 : Ev W9 b T) (kw : Keeps w W (fun i => i = b)) (k5 : Keeps W W9 (fun i => i = b)) : Part w b T R good (thrown l n) W9 := by
  rw [hR]
  exact ⟨rfl, h5, kw.trans k5 (fun _ _ q => q)⟩
theorem part_ok {α : Type} {w W9 : World} {b : Nat} {T : Bs} {R : Rs α} {good : α → Value → World → Prop} {x : α} {ts : List Tk} {v : Value} (hR : R = .ok x ts) (h : ∃ v', Ending.returned v = .returned v' ∧ good x v' W9 ∧ AdvP w b T ts W9) : Part w b T R good (.returned v) W9 := by
  rw [hR]
  exact h
theorem bind_out {α β : Type} {r : Rs α} {f : α → List Tk → Rs β} {R : Rs β} (hR : R = r.bind f) (h : R ≠ .out) : r ≠ .out := fun q => h (by rw [hR, q]; rfl)
theorem bind_no {α β : Type} {r : Rs α} {f : α → List Tk → Rs β} {R : Rs β} {l n : Nat} (hR : R = r.bind f) (h : r = .no l n) : R = .no l n := by rw [hR, h]; rfl
theorem bind_ok {α β : Type} {r : Rs α} {f : α → List Tk → Rs β} {R : Rs β} {a : α} {ts : List Tk} (hR : R = r.bind f) (h : r = .ok a ts) : R = f a ts := by rw [hR, h]; rfl
end Lg
end Go.Proofs.YtlpfnikhnchpdaaDoor
