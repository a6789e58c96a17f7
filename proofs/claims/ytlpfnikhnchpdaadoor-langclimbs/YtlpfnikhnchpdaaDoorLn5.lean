import Derived.Test.YtlpfnikhnchpdaaDoorLn4
/-
  lang: prim, a step of it. (Made by genLGJ.py.)
-/
namespace Go.Proofs.YtlpfnikhnchpdaaDoor
namespace Lg
open Go.RowKit
set_option linter.unusedVariables false
/-- A reader's world within a call whose result's block is g. -/
def At (w : World) (g b : Nat) (T : Bs) (ts : List Tk) (W : World) : Prop := RAt W b T ts ∧ Ev W b T ∧ Keeps w W (fun i => i = b) ∧ X0 W g
theorem At.adv {w : World} {g b : Nat} {T : Bs} {ts ts' : List Tk} {W W' : World} (h : At w g b T ts W) (a : AdvP W b T ts' W') (hg : ¬ g = b) : At w g b T ts' W' :=
  ⟨a.1, a.2.1, h.2.2.1.trans a.2.2 (fun _ _ q => q), h.2.2.2.keeps a.2.2 hg⟩
theorem At.new {w : World} {g b : Nat} {T : Bs} {ts : List Tk} {W W' : World} (h : At w g b T ts W) (k : Keeps W W' (fun _ => False)) : At w g b T ts W' :=
  ⟨h.1.keeps k id, h.2.1.keeps k (fun _ q => q.elim), h.2.2.1.trans (kF k b) (fun _ _ q => q), h.2.2.2.keeps k id⟩

set_option maxRecDepth 100000 in
set_option maxHeartbeats 4000000 in
theorem prim_step {b : Nat} {T : Bs} {n : Nat} (hK : Reads 116 #[.pointer (some ⟨b, 0, none⟩)] b T (keyD n)) (hX : Reads 90 #[.pointer (some ⟨b, 0, none⟩)] b T (joinedD n 1)) : Reads 129 #[.pointer (some ⟨b, 0, none⟩)] b T (primD (n + 1)) := by
  intro w ts h E hD
  obtain ⟨t, rest, rfl⟩ : ∃ t rest, ts = t :: rest := by
    obtain ⟨a, l, c, t, rest, e, -⟩ := h
    exact ⟨t, rest, e⟩
  have hbw := hide h.lt
  have hgb := hide (show ¬ w.heap.size = b from fun q => Nat.lt_irrefl _ (q ▸ h.lt))
  have HKy := hide hK
  have HEx := hide hX
  have HI := hide (And.intro h E)
  have c4 : ∀ W, Keeps w W (fun _ => False) → W.cell? ⟨b, 4, none⟩ = some (.int .i64 (t.kind : Int)) := fun W k => by
    obtain ⟨a, l, c, t', rest', e, h1, -⟩ := h
    injection e with e1 e2
    subst e1
    obtain ⟨⟨c0, c1, c2, c3, c4, c5, c6⟩, -⟩ := (h1.keeps k id).cells
    exact c4
  have hk := kind_is (k := t.kind) (n := 3) (z := 3) rfl
  have e : primD (n + 1) (t :: rest) = if (t.kind == 3) = true then (numberD (t :: rest)).bind fun v ts2 => .ok (exNum v) ts2
    else if isF kHas (t :: rest) = true then (nameD rest).bind fun s ts2 => (keyD n ts2).bind fun x ts3 => .ok (exHas s x) ts3
    else if isF kLen (t :: rest) = true then (nameD rest).bind fun s ts2 => .ok (exLen s) ts2
    else if isF kLp (t :: rest) = true then (joinedD n 1 rest).bind fun x ts2 => (mustD kRp ts2).bind fun _ ts3 => .ok x ts3
    else (nameD (t :: rest)).bind fun s ts2 => if isF kLb ts2 = true then (keyD n ts2).bind fun x ts3 => .ok (exIndex s x) ts3 else .ok (exName s) ts2 := by
    rw [primD]
    rfl
  rw [e] at hD ⊢
  clear e hK hX h E
  by_cases h3 : (t.kind == 3) = true
  · rw [h3] at hk
    rw [if_pos h3] at hD ⊢
    have hn0 := fun (W : World) (h : RAt W b T (t :: rest)) (E : Ev W b T) => number_any h (by simpa using h3) E
    clear h3
    cases hR : numberD (t :: rest) with
    | out => exact absurd (by rw [hR]; rfl) hD
    | no l er =>
      have HR := hide hR
      clear hR hD
      show Calls Tryd.prog 129 #[.pointer (some ⟨b, 0, none⟩)] w fun e w' => e = thrown l er ∧ Ev w' b T ∧ Keeps w w' (fun i => i = b)
      go_enter Tryd.func129, Tryd.ntmps129
      go_upto_region 1 with fail
      refine alloc1 (P := fun W => Code.wp _ _ _ _ W) fun W0 hg hz k0 => ?_
      have c40 := c4 W0 k0
      have hs0 := hide (show W0.heap.size = w.heap.size + 1 from hz)
      have HA : Hid (At w w.heap.size b T (t :: rest) W0) := hide ⟨HI.out.1.keeps k0 id, HI.out.2.keeps k0 (fun _ q => q.elim), kF k0 b, hg⟩
      clear c4 hg hz k0
      have hc := hn0 _ HA.out.1 HA.out.2.1
      rw [HR.out] at hc
      clear hn0
      go_wp2_with fail
      refine hc.mono ?_
      rintro e w9 ⟨rfl, h5, k5⟩
      exact ⟨rfl, rfl, h5, HA.out.2.2.1.trans k5 (fun _ _ q => q)⟩
    | ok m ts2 =>
      have HR := hide hR
      clear hR hD
      show Calls Tryd.prog 129 #[.pointer (some ⟨b, 0, none⟩)] w fun e w' => ∃ v, e = .returned v ∧ ExG w.heap.size (exNum m) v w' ∧ AdvP w b T ts2 w'
      generalize hQ : (fun e w' => ∃ v, e = .returned v ∧ ExG w.heap.size (exNum m) v w' ∧ AdvP w b T ts2 w' : Ending → World → Prop) = Q
      replace hQ := hide hQ
      go_enter Tryd.func129, Tryd.ntmps129
      go_upto_region 1 with fail
      refine alloc1 (P := fun W => Code.wp _ _ _ _ W) fun W0 hg hz k0 => ?_
      have c40 := c4 W0 k0
      have hs0 := hide (show W0.heap.size = w.heap.size + 1 from hz)
      have HA : Hid (At w w.heap.size b T (t :: rest) W0) := hide ⟨HI.out.1.keeps k0 id, HI.out.2.keeps k0 (fun _ q => q.elim), kF k0 b, hg⟩
      clear c4 hg hz k0
      have hc := hn0 _ HA.out.1 HA.out.2.1
      rw [HR.out] at hc
      clear hn0
      go_wp2_with fail
      refine hc.mono ?_
      rintro e w2 ⟨v, rfl, rfl, hA2⟩
      replace HA := hide (HA.out.adv hA2 hgb.out)
      clear hc hA2 c40
      have hsz := hide trivial
      obtain ⟨⟨c0, c1, c2, c3, c4⟩, f0, f1, f2, f3, f4⟩ := HA.out.2.2.2.cells
      generalize hgz : w.heap.size = g at *
      replace hgz := hide hgz
      go_wp2_with fail
      refine set5 (P := fun W => bodyPost _ _ _ _ _ W) HA.out.2.2.2 fun W5 h11 k11 => ?_
      obtain ⟨⟨q0, q1, q2, q3, q4⟩, -⟩ := h11.cells
      refine bodyPost_ret (v := .agg #[.int .i64 1, .int .i64 m, .string ⟨#[]⟩, .string ⟨#[]⟩, .slice none 0 0]) (by simp [results, Tryd.results129, go_sem, q0, q1, q2, q3, q4]) rfl ?_
      rw [← hQ.out]
      exact res_done rfl hgz.out HA.out.2.2.1 (ExC.mk (P := fun i => g < i) ArgsV.nil) (fun i hi => hi) HA.out.1 HA.out.2.1 hbw.out k11
  · rw [Bool.eq_false_iff.2 h3] at hk
    rw [if_neg h3] at hD ⊢
    clear h3
    by_cases hF1 : isF kHas (t :: rest) = true
    · rw [if_pos hF1] at hD ⊢
      have HF1 := hide hF1
      clear hF1
      cases hR1 : nameD rest with
      | out => exact absurd (by rw [hR1]; rfl) hD
      | no l er =>
        have HR1 := hide hR1
        clear hR1 hD
        show Calls Tryd.prog 129 #[.pointer (some ⟨b, 0, none⟩)] w fun e w' => e = thrown l er ∧ Ev w' b T ∧ Keeps w w' (fun i => i = b)
        go_enter Tryd.func129, Tryd.ntmps129
        go_upto_region 1 with fail
        refine alloc1 (P := fun W => Code.wp _ _ _ _ W) fun W0 hg hz k0 => ?_
        have c40 := c4 W0 k0
        have hs0 := hide (show W0.heap.size = w.heap.size + 1 from hz)
        have HA : Hid (At w w.heap.size b T (t :: rest) W0) := hide ⟨HI.out.1.keeps k0 id, HI.out.2.keeps k0 (fun _ q => q.elim), kF k0 b, hg⟩
        clear c4 hg hz k0
        go_upto_region 3 with fail
        clear hk c40
        have hm : Calls Tryd.prog 64 #[.pointer (some ⟨b, 0, none⟩), .string ⟨#[104, 97, 115]⟩] _ fun e w' => e = .returned (.bool (isF kHas (t :: rest))) ∧ AdvP _ b T (if isF kHas (t :: rest) then (t :: rest).tail else (t :: rest)) w' := met_any HA.out.1 HA.out.2.1 kHas
        rw [HF1.out] at hm
        simp only [if_true] at hm
        go_upto_region 4 with (go_at_call 64; (with_reducible refine hm.mono ?_); rintro e wm1 ⟨rfl, hA⟩)
        replace HA := hide (HA.out.adv hA hgb.out)
        clear hm hA
        have hn : Calls Tryd.prog 65 #[.pointer (some ⟨b, 0, none⟩)] _ (Part _ b T (nameD (rest)) fun s v _ => v = .string (sB s)) := name_any HA.out.1 HA.out.2.1
        rw [HR1.out] at hn
        go_wp2_with fail
        refine hn.mono ?_
        rintro e w9 ⟨rfl, h5, k5⟩
        exact ⟨rfl, rfl, h5, HA.out.2.2.1.trans k5 (fun _ _ q => q)⟩
      | ok s ts2 =>
        have HR1 := hide hR1
        rw [hR1] at hD
        clear hR1
        have hD2 : keyD n ts2 ≠ .out := fun q => hD (by show (keyD n ts2).bind _ = _; rw [q]; rfl)
        have HD := hide hD2
        cases hR2 : keyD n ts2 with
        | out => exact absurd hR2 hD2
        | no l er =>
          have HR2 := hide hR2
          show Calls Tryd.prog 129 #[.pointer (some ⟨b, 0, none⟩)] w (Part w b T ((keyD n ts2).bind fun x ts3 => .ok (exHas s x) ts3) (ExG w.heap.size))
          rw [hR2]
          clear hR2 hD hD2
          show Calls Tryd.prog 129 #[.pointer (some ⟨b, 0, none⟩)] w fun e w' => e = thrown l er ∧ Ev w' b T ∧ Keeps w w' (fun i => i = b)
          go_enter Tryd.func129, Tryd.ntmps129
          go_upto_region 1 with fail
          refine alloc1 (P := fun W => Code.wp _ _ _ _ W) fun W0 hg hz k0 => ?_
          have c40 := c4 W0 k0
          have hs0 := hide (show W0.heap.size = w.heap.size + 1 from hz)
          have HA : Hid (At w w.heap.size b T (t :: rest) W0) := hide ⟨HI.out.1.keeps k0 id, HI.out.2.keeps k0 (fun _ q => q.elim), kF k0 b, hg⟩
          clear c4 hg hz k0
          go_upto_region 3 with fail
          clear hk c40
          have hm : Calls Tryd.prog 64 #[.pointer (some ⟨b, 0, none⟩), .string ⟨#[104, 97, 115]⟩] _ fun e w' => e = .returned (.bool (isF kHas (t :: rest))) ∧ AdvP _ b T (if isF kHas (t :: rest) then (t :: rest).tail else (t :: rest)) w' := met_any HA.out.1 HA.out.2.1 kHas
          rw [HF1.out] at hm
          simp only [if_true] at hm
          go_upto_region 4 with (go_at_call 64; (with_reducible refine hm.mono ?_); rintro e wm1 ⟨rfl, hA⟩)
          replace HA := hide (HA.out.adv hA hgb.out)
          clear hm hA
          have hn : Calls Tryd.prog 65 #[.pointer (some ⟨b, 0, none⟩)] _ (Part _ b T (nameD (rest)) fun s v _ => v = .string (sB s)) := name_any HA.out.1 HA.out.2.1
          rw [HR1.out] at hn
          go_upto_region 5 with (go_at_call 65; (with_reducible refine hn.mono ?_); rintro e wn0 ⟨v0, rfl, rfl, hA⟩)
          replace HA := hide (HA.out.adv hA hgb.out)
          clear hn hA
          have hc := HKy.out _ ts2 HA.out.1 HA.out.2.1 HD.out
          rw [HR2.out] at hc
          go_wp2_with fail
          refine hc.mono ?_
          rintro e w9 ⟨rfl, h5, k5⟩
          exact ⟨rfl, rfl, h5, HA.out.2.2.1.trans k5 (fun _ _ q => q)⟩
        | ok x ts3 =>
          have HR2 := hide hR2
          show Calls Tryd.prog 129 #[.pointer (some ⟨b, 0, none⟩)] w (Part w b T ((keyD n ts2).bind fun x ts3 => .ok (exHas s x) ts3) (ExG w.heap.size))
          rw [hR2]
          clear hR2 hD hD2
          show Calls Tryd.prog 129 #[.pointer (some ⟨b, 0, none⟩)] w fun e w' => ∃ v, e = .returned v ∧ ExG w.heap.size (exHas s x) v w' ∧ AdvP w b T ts3 w'
          generalize hQ : (fun e w' => ∃ v, e = .returned v ∧ ExG w.heap.size (exHas s x) v w' ∧ AdvP w b T ts3 w' : Ending → World → Prop) = Q
          replace hQ := hide hQ
          go_enter Tryd.func129, Tryd.ntmps129
          go_upto_region 1 with fail
          refine alloc1 (P := fun W => Code.wp _ _ _ _ W) fun W0 hg hz k0 => ?_
          have c40 := c4 W0 k0
          have hs0 := hide (show W0.heap.size = w.heap.size + 1 from hz)
          have HA : Hid (At w w.heap.size b T (t :: rest) W0) := hide ⟨HI.out.1.keeps k0 id, HI.out.2.keeps k0 (fun _ q => q.elim), kF k0 b, hg⟩
          clear c4 hg hz k0
          go_upto_region 3 with fail
          clear hk c40
          have hm : Calls Tryd.prog 64 #[.pointer (some ⟨b, 0, none⟩), .string ⟨#[104, 97, 115]⟩] _ fun e w' => e = .returned (.bool (isF kHas (t :: rest))) ∧ AdvP _ b T (if isF kHas (t :: rest) then (t :: rest).tail else (t :: rest)) w' := met_any HA.out.1 HA.out.2.1 kHas
          rw [HF1.out] at hm
          simp only [if_true] at hm
          go_upto_region 4 with (go_at_call 64; (with_reducible refine hm.mono ?_); rintro e wm1 ⟨rfl, hA⟩)
          replace HA := hide (HA.out.adv hA hgb.out)
          clear hm hA
          have hn : Calls Tryd.prog 65 #[.pointer (some ⟨b, 0, none⟩)] _ (Part _ b T (nameD (rest)) fun s v _ => v = .string (sB s)) := name_any HA.out.1 HA.out.2.1
          rw [HR1.out] at hn
          go_upto_region 5 with (go_at_call 65; (with_reducible refine hn.mono ?_); rintro e wn0 ⟨v0, rfl, rfl, hA⟩)
          replace HA := hide (HA.out.adv hA hgb.out)
          clear hn hA
          have hc := HKy.out _ ts2 HA.out.1 HA.out.2.1 HD.out
          rw [HR2.out] at hc
          go_wp2_with fail
          have hs9 := HA.out
          refine hc.mono ?_
          rintro e w2 ⟨v, rfl, ⟨cs, hv, hx⟩, hA2⟩
          have HX := hide hx
          cases hx with
          | mk harg =>
          rename_i k' n' nm op args sv
          replace hv : v = .agg #[.int .i64 k', .int .i64 n', .string (sB nm), .string (sB op), sv] := hv
          subst hv
          replace HA := hide (HA.out.adv hA2 hgb.out)
          have kA := (Keeps.refl w2 (fun _ => False)).alloc (.cells #[.int .i64 k', .int .i64 n', .string (sB nm), .string (sB op), sv] 42)
          have hnew := hide (heap_alloc_new w2 (.cells #[.int .i64 k', .int .i64 n', .string (sB nm), .string (sB op), sv] 42))
          have HX2 := hide (HX.out.keeps kA (fun _ _ q => q))
          have hsA := hide hA2.2.2.size
          replace HA := hide (HA.out.new kA)
          have hss : Hid (w.heap.size < _ ∧ True) := hide ⟨heap_lt hs9.2.2.2, trivial⟩
          clear hc harg hA2 kA hs9
          obtain ⟨⟨c0, c1, c2, c3, c4⟩, f0, f1, f2, f3, f4⟩ := HA.out.2.2.2.cells
          have hsz := hide trivial
          generalize hgz : w.heap.size = g at *
          replace hgz := hide hgz
          go_wp2_with fail
          refine set5 (P := fun W => bodyPost _ _ _ _ _ W) HA.out.2.2.2 fun W5 h11 k11 => ?_
          obtain ⟨⟨q0, q1, q2, q3, q4⟩, -⟩ := h11.cells
          refine bodyPost_ret (v := .agg #[.int .i64 4, .int .i64 0, .string (sB s), .string ⟨#[]⟩, .slice (some ⟨w2.heap.size, 0, none⟩) 1 1]) (by simp [results, Tryd.results129, go_sem, q0, q1, q2, q3, q4]) rfl ?_
          rw [← hQ.out]
          exact res_done rfl hgz.out HA.out.2.2.1 (ExC.mk (ArgsV.some (args := [_]) hsA.out (heap_lt hnew.out) (Nat.le_refl _) (range_blk hnew.out) (ExsC.cons HX2.out ExsC.nil))) (fun i hi => Nat.lt_of_lt_of_le hss.out.1 hi) HA.out.1 HA.out.2.1 hbw.out k11
    · rw [if_neg hF1] at hD ⊢
      have HF1 := hide (Bool.eq_false_iff.2 hF1)
      clear hF1
      by_cases hF2 : isF kLen (t :: rest) = true
      · rw [if_pos hF2] at hD ⊢
        have HF2 := hide hF2
        clear hF2
        cases hR1 : nameD rest with
        | out => exact absurd (by rw [hR1]; rfl) hD
        | no l er =>
          have HR1 := hide hR1
          clear hR1 hD
          show Calls Tryd.prog 129 #[.pointer (some ⟨b, 0, none⟩)] w fun e w' => e = thrown l er ∧ Ev w' b T ∧ Keeps w w' (fun i => i = b)
          go_enter Tryd.func129, Tryd.ntmps129
          go_upto_region 1 with fail
          refine alloc1 (P := fun W => Code.wp _ _ _ _ W) fun W0 hg hz k0 => ?_
          have c40 := c4 W0 k0
          have hs0 := hide (show W0.heap.size = w.heap.size + 1 from hz)
          have HA : Hid (At w w.heap.size b T (t :: rest) W0) := hide ⟨HI.out.1.keeps k0 id, HI.out.2.keeps k0 (fun _ q => q.elim), kF k0 b, hg⟩
          clear c4 hg hz k0
          go_upto_region 3 with fail
          clear hk c40
          have hm : Calls Tryd.prog 64 #[.pointer (some ⟨b, 0, none⟩), .string ⟨#[104, 97, 115]⟩] _ fun e w' => e = .returned (.bool (isF kHas (t :: rest))) ∧ AdvP _ b T (if isF kHas (t :: rest) then (t :: rest).tail else (t :: rest)) w' := met_any HA.out.1 HA.out.2.1 kHas
          rw [HF1.out] at hm
          simp only [Bool.false_eq_true, if_false] at hm
          go_upto_region 6 with (go_at_call 64; (with_reducible refine hm.mono ?_); rintro e wm1 ⟨rfl, hA⟩)
          replace HA := hide (HA.out.adv hA hgb.out)
          clear hm hA
          have hm : Calls Tryd.prog 64 #[.pointer (some ⟨b, 0, none⟩), .string ⟨#[108, 101, 110]⟩] _ fun e w' => e = .returned (.bool (isF kLen (t :: rest))) ∧ AdvP _ b T (if isF kLen (t :: rest) then (t :: rest).tail else (t :: rest)) w' := met_any HA.out.1 HA.out.2.1 kLen
          rw [HF2.out] at hm
          simp only [if_true] at hm
          go_upto_region 7 with (go_at_call 64; (with_reducible refine hm.mono ?_); rintro e wm2 ⟨rfl, hA⟩)
          replace HA := hide (HA.out.adv hA hgb.out)
          clear hm hA
          have hn : Calls Tryd.prog 65 #[.pointer (some ⟨b, 0, none⟩)] _ (Part _ b T (nameD (rest)) fun s v _ => v = .string (sB s)) := name_any HA.out.1 HA.out.2.1
          rw [HR1.out] at hn
          go_wp2_with fail
          refine hn.mono ?_
          rintro e w9 ⟨rfl, h5, k5⟩
          exact ⟨rfl, rfl, h5, HA.out.2.2.1.trans k5 (fun _ _ q => q)⟩
        | ok s ts2 =>
          have HR1 := hide hR1
          clear hR1 hD
          show Calls Tryd.prog 129 #[.pointer (some ⟨b, 0, none⟩)] w fun e w' => ∃ v, e = .returned v ∧ ExG w.heap.size (exLen s) v w' ∧ AdvP w b T ts2 w'
          generalize hQ : (fun e w' => ∃ v, e = .returned v ∧ ExG w.heap.size (exLen s) v w' ∧ AdvP w b T ts2 w' : Ending → World → Prop) = Q
          replace hQ := hide hQ
          go_enter Tryd.func129, Tryd.ntmps129
          go_upto_region 1 with fail
          refine alloc1 (P := fun W => Code.wp _ _ _ _ W) fun W0 hg hz k0 => ?_
          have c40 := c4 W0 k0
          have hs0 := hide (show W0.heap.size = w.heap.size + 1 from hz)
          have HA : Hid (At w w.heap.size b T (t :: rest) W0) := hide ⟨HI.out.1.keeps k0 id, HI.out.2.keeps k0 (fun _ q => q.elim), kF k0 b, hg⟩
          clear c4 hg hz k0
          go_upto_region 3 with fail
          clear hk c40
          have hm : Calls Tryd.prog 64 #[.pointer (some ⟨b, 0, none⟩), .string ⟨#[104, 97, 115]⟩] _ fun e w' => e = .returned (.bool (isF kHas (t :: rest))) ∧ AdvP _ b T (if isF kHas (t :: rest) then (t :: rest).tail else (t :: rest)) w' := met_any HA.out.1 HA.out.2.1 kHas
          rw [HF1.out] at hm
          simp only [Bool.false_eq_true, if_false] at hm
          go_upto_region 6 with (go_at_call 64; (with_reducible refine hm.mono ?_); rintro e wm1 ⟨rfl, hA⟩)
          replace HA := hide (HA.out.adv hA hgb.out)
          clear hm hA
          have hm : Calls Tryd.prog 64 #[.pointer (some ⟨b, 0, none⟩), .string ⟨#[108, 101, 110]⟩] _ fun e w' => e = .returned (.bool (isF kLen (t :: rest))) ∧ AdvP _ b T (if isF kLen (t :: rest) then (t :: rest).tail else (t :: rest)) w' := met_any HA.out.1 HA.out.2.1 kLen
          rw [HF2.out] at hm
          simp only [if_true] at hm
          go_upto_region 7 with (go_at_call 64; (with_reducible refine hm.mono ?_); rintro e wm2 ⟨rfl, hA⟩)
          replace HA := hide (HA.out.adv hA hgb.out)
          clear hm hA
          have hn : Calls Tryd.prog 65 #[.pointer (some ⟨b, 0, none⟩)] _ (Part _ b T (nameD (rest)) fun s v _ => v = .string (sB s)) := name_any HA.out.1 HA.out.2.1
          rw [HR1.out] at hn
          go_wp2_with fail
          refine hn.mono ?_
          rintro e w2 ⟨v, rfl, rfl, hA2⟩
          replace HA := hide (HA.out.adv hA2 hgb.out)
          clear hn hA2
          obtain ⟨⟨c0, c1, c2, c3, c4⟩, f0, f1, f2, f3, f4⟩ := HA.out.2.2.2.cells
          generalize hgz : w.heap.size = g at *
          replace hgz := hide hgz
          go_wp2_with fail
          refine set5 (P := fun W => bodyPost _ _ _ _ _ W) HA.out.2.2.2 fun W5 h11 k11 => ?_
          obtain ⟨⟨q0, q1, q2, q3, q4⟩, -⟩ := h11.cells
          refine bodyPost_ret (v := .agg #[.int .i64 5, .int .i64 0, .string (sB s), .string ⟨#[]⟩, .slice none 0 0]) (by simp [results, Tryd.results129, go_sem, q0, q1, q2, q3, q4]) rfl ?_
          rw [← hQ.out]
          exact res_done rfl hgz.out HA.out.2.2.1 (ExC.mk (P := fun i => g < i) ArgsV.nil) (fun i hi => hi) HA.out.1 HA.out.2.1 hbw.out k11
      · rw [if_neg hF2] at hD ⊢
        have HF2 := hide (Bool.eq_false_iff.2 hF2)
        clear hF2
        by_cases hF3 : isF kLp (t :: rest) = true
        · rw [if_pos hF3] at hD ⊢
          have HF3 := hide hF3
          clear hF3
          have hD2 : joinedD n 1 rest ≠ .out := fun q => hD (by rw [q]; rfl)
          have HD := hide hD2
          cases hR1 : joinedD n 1 rest with
          | out => exact absurd hR1 hD2
          | no l er =>
            have HR1 := hide hR1
            clear hR1 hD hD2
            show Calls Tryd.prog 129 #[.pointer (some ⟨b, 0, none⟩)] w fun e w' => e = thrown l er ∧ Ev w' b T ∧ Keeps w w' (fun i => i = b)
            go_enter Tryd.func129, Tryd.ntmps129
            go_upto_region 1 with fail
            refine alloc1 (P := fun W => Code.wp _ _ _ _ W) fun W0 hg hz k0 => ?_
            have c40 := c4 W0 k0
            have hs0 := hide (show W0.heap.size = w.heap.size + 1 from hz)
            have HA : Hid (At w w.heap.size b T (t :: rest) W0) := hide ⟨HI.out.1.keeps k0 id, HI.out.2.keeps k0 (fun _ q => q.elim), kF k0 b, hg⟩
            clear c4 hg hz k0
            go_upto_region 3 with fail
            clear hk c40
            have hm : Calls Tryd.prog 64 #[.pointer (some ⟨b, 0, none⟩), .string ⟨#[104, 97, 115]⟩] _ fun e w' => e = .returned (.bool (isF kHas (t :: rest))) ∧ AdvP _ b T (if isF kHas (t :: rest) then (t :: rest).tail else (t :: rest)) w' := met_any HA.out.1 HA.out.2.1 kHas
            rw [HF1.out] at hm
            simp only [Bool.false_eq_true, if_false] at hm
            go_upto_region 6 with (go_at_call 64; (with_reducible refine hm.mono ?_); rintro e wm1 ⟨rfl, hA⟩)
            replace HA := hide (HA.out.adv hA hgb.out)
            clear hm hA
            have hm : Calls Tryd.prog 64 #[.pointer (some ⟨b, 0, none⟩), .string ⟨#[108, 101, 110]⟩] _ fun e w' => e = .returned (.bool (isF kLen (t :: rest))) ∧ AdvP _ b T (if isF kLen (t :: rest) then (t :: rest).tail else (t :: rest)) w' := met_any HA.out.1 HA.out.2.1 kLen
            rw [HF2.out] at hm
            simp only [Bool.false_eq_true, if_false] at hm
            go_upto_region 8 with (go_at_call 64; (with_reducible refine hm.mono ?_); rintro e wm2 ⟨rfl, hA⟩)
            replace HA := hide (HA.out.adv hA hgb.out)
            clear hm hA
            have hm : Calls Tryd.prog 64 #[.pointer (some ⟨b, 0, none⟩), .string ⟨#[40]⟩] _ fun e w' => e = .returned (.bool (isF kLp (t :: rest))) ∧ AdvP _ b T (if isF kLp (t :: rest) then (t :: rest).tail else (t :: rest)) w' := met_any HA.out.1 HA.out.2.1 kLp
            rw [HF3.out] at hm
            simp only [if_true] at hm
            go_upto_region 9 with (go_at_call 64; (with_reducible refine hm.mono ?_); rintro e wm3 ⟨rfl, hA⟩)
            replace HA := hide (HA.out.adv hA hgb.out)
            clear hm hA
            have hc := HEx.out _ rest HA.out.1 HA.out.2.1 HD.out
            rw [HR1.out] at hc
            go_wp2_with fail
            refine hc.mono ?_
            rintro e w9 ⟨rfl, h5, k5⟩
            exact ⟨rfl, rfl, h5, HA.out.2.2.1.trans k5 (fun _ _ q => q)⟩
          | ok x ts2 =>
            have HR1 := hide hR1
            clear hR1 hD hD2
            cases hR2 : mustD kRp ts2 with
            | out => exact absurd hR2 (by unfold mustD; split <;> exact fun q => nomatch q)
            | no l er =>
              have HR2 := hide hR2
              show Calls Tryd.prog 129 #[.pointer (some ⟨b, 0, none⟩)] w (Part w b T ((mustD kRp ts2).bind fun _ ts3 => .ok x ts3) (ExG w.heap.size))
              rw [hR2]
              clear hR2
              show Calls Tryd.prog 129 #[.pointer (some ⟨b, 0, none⟩)] w fun e w' => e = thrown l er ∧ Ev w' b T ∧ Keeps w w' (fun i => i = b)
              go_enter Tryd.func129, Tryd.ntmps129
              go_upto_region 1 with fail
              refine alloc1 (P := fun W => Code.wp _ _ _ _ W) fun W0 hg hz k0 => ?_
              have c40 := c4 W0 k0
              have hs0 := hide (show W0.heap.size = w.heap.size + 1 from hz)
              have HA : Hid (At w w.heap.size b T (t :: rest) W0) := hide ⟨HI.out.1.keeps k0 id, HI.out.2.keeps k0 (fun _ q => q.elim), kF k0 b, hg⟩
              clear c4 hg hz k0
              go_upto_region 3 with fail
              clear hk c40
              have hm : Calls Tryd.prog 64 #[.pointer (some ⟨b, 0, none⟩), .string ⟨#[104, 97, 115]⟩] _ fun e w' => e = .returned (.bool (isF kHas (t :: rest))) ∧ AdvP _ b T (if isF kHas (t :: rest) then (t :: rest).tail else (t :: rest)) w' := met_any HA.out.1 HA.out.2.1 kHas
              rw [HF1.out] at hm
              simp only [Bool.false_eq_true, if_false] at hm
              go_upto_region 6 with (go_at_call 64; (with_reducible refine hm.mono ?_); rintro e wm1 ⟨rfl, hA⟩)
              replace HA := hide (HA.out.adv hA hgb.out)
              clear hm hA
              have hm : Calls Tryd.prog 64 #[.pointer (some ⟨b, 0, none⟩), .string ⟨#[108, 101, 110]⟩] _ fun e w' => e = .returned (.bool (isF kLen (t :: rest))) ∧ AdvP _ b T (if isF kLen (t :: rest) then (t :: rest).tail else (t :: rest)) w' := met_any HA.out.1 HA.out.2.1 kLen
              rw [HF2.out] at hm
              simp only [Bool.false_eq_true, if_false] at hm
              go_upto_region 8 with (go_at_call 64; (with_reducible refine hm.mono ?_); rintro e wm2 ⟨rfl, hA⟩)
              replace HA := hide (HA.out.adv hA hgb.out)
              clear hm hA
              have hm : Calls Tryd.prog 64 #[.pointer (some ⟨b, 0, none⟩), .string ⟨#[40]⟩] _ fun e w' => e = .returned (.bool (isF kLp (t :: rest))) ∧ AdvP _ b T (if isF kLp (t :: rest) then (t :: rest).tail else (t :: rest)) w' := met_any HA.out.1 HA.out.2.1 kLp
              rw [HF3.out] at hm
              simp only [if_true] at hm
              go_upto_region 9 with (go_at_call 64; (with_reducible refine hm.mono ?_); rintro e wm3 ⟨rfl, hA⟩)
              replace HA := hide (HA.out.adv hA hgb.out)
              clear hm hA
              have hc := HEx.out _ rest HA.out.1 HA.out.2.1 HD.out
              rw [HR1.out] at hc
              go_wp2_with fail
              refine hc.mono ?_
              rintro e w2 ⟨v, rfl, ⟨cs, hv, hx⟩, hA2⟩
              have hss := hide (show w.heap.size < _ from heap_lt HA.out.2.2.2)
              have HX := hide hx
              cases hx with
              | mk harg =>
              rename_i k' n' nm op args sv
              obtain ⟨sp, sm, sc, rfl⟩ := harg.form
              replace hv : v = .agg #[.int .i64 k', .int .i64 n', .string (sB nm), .string (sB op), .slice sp sm sc] := hv
              subst hv
              replace HA := hide (HA.out.adv hA2 hgb.out)
              clear hc harg hA2
              go_upto_region 10 with fail
              refine alloc1 (P := fun W => Code.wp _ _ _ _ W) fun W3 h3 hz3 k23 => ?_
              replace h3 : Xc W3 w2.heap.size (.int .i64 k') (.int .i64 n') (.string (sB nm)) (.string (sB op)) (.slice sp sm sc) := h3
              have hbb := hide (heap_lt HA.out.2.2.2)
              have hb2 := hide HA.out.1.lt
              replace HA := hide (HA.out.new k23)
              have HX3 := hide (HX.out.keeps k23 (fun _ _ q => q))
              have hm : Calls Tryd.prog 66 #[.pointer (some ⟨b, 0, none⟩), .string ⟨#[41]⟩] W3 (Part W3 b T (mustD kRp ts2) fun _ v _ => v = .tuple #[]) := must_any HA.out.1 HA.out.2.1 kRp
              rw [HR2.out] at hm
              have H3 := hide h3
              clear h3 k23 hz3
              go_wp2_with fail
              refine hm.mono ?_
              rintro e w9 ⟨rfl, h5, k5⟩
              exact ⟨rfl, rfl, h5, HA.out.2.2.1.trans k5 (fun _ _ q => q)⟩
            | ok u2 ts3 =>
              have HR2 := hide hR2
              show Calls Tryd.prog 129 #[.pointer (some ⟨b, 0, none⟩)] w (Part w b T ((mustD kRp ts2).bind fun _ ts3 => .ok x ts3) (ExG w.heap.size))
              rw [hR2]
              clear hR2
              show Calls Tryd.prog 129 #[.pointer (some ⟨b, 0, none⟩)] w fun e w' => ∃ v, e = .returned v ∧ ExG w.heap.size x v w' ∧ AdvP w b T ts3 w'
              generalize hQ : (fun e w' => ∃ v, e = .returned v ∧ ExG w.heap.size x v w' ∧ AdvP w b T ts3 w' : Ending → World → Prop) = Q
              replace hQ := hide hQ
              go_enter Tryd.func129, Tryd.ntmps129
              go_upto_region 1 with fail
              refine alloc1 (P := fun W => Code.wp _ _ _ _ W) fun W0 hg hz k0 => ?_
              have c40 := c4 W0 k0
              have hs0 := hide (show W0.heap.size = w.heap.size + 1 from hz)
              have HA : Hid (At w w.heap.size b T (t :: rest) W0) := hide ⟨HI.out.1.keeps k0 id, HI.out.2.keeps k0 (fun _ q => q.elim), kF k0 b, hg⟩
              clear c4 hg hz k0
              go_upto_region 3 with fail
              clear hk c40
              have hm : Calls Tryd.prog 64 #[.pointer (some ⟨b, 0, none⟩), .string ⟨#[104, 97, 115]⟩] _ fun e w' => e = .returned (.bool (isF kHas (t :: rest))) ∧ AdvP _ b T (if isF kHas (t :: rest) then (t :: rest).tail else (t :: rest)) w' := met_any HA.out.1 HA.out.2.1 kHas
              rw [HF1.out] at hm
              simp only [Bool.false_eq_true, if_false] at hm
              go_upto_region 6 with (go_at_call 64; (with_reducible refine hm.mono ?_); rintro e wm1 ⟨rfl, hA⟩)
              replace HA := hide (HA.out.adv hA hgb.out)
              clear hm hA
              have hm : Calls Tryd.prog 64 #[.pointer (some ⟨b, 0, none⟩), .string ⟨#[108, 101, 110]⟩] _ fun e w' => e = .returned (.bool (isF kLen (t :: rest))) ∧ AdvP _ b T (if isF kLen (t :: rest) then (t :: rest).tail else (t :: rest)) w' := met_any HA.out.1 HA.out.2.1 kLen
              rw [HF2.out] at hm
              simp only [Bool.false_eq_true, if_false] at hm
              go_upto_region 8 with (go_at_call 64; (with_reducible refine hm.mono ?_); rintro e wm2 ⟨rfl, hA⟩)
              replace HA := hide (HA.out.adv hA hgb.out)
              clear hm hA
              have hm : Calls Tryd.prog 64 #[.pointer (some ⟨b, 0, none⟩), .string ⟨#[40]⟩] _ fun e w' => e = .returned (.bool (isF kLp (t :: rest))) ∧ AdvP _ b T (if isF kLp (t :: rest) then (t :: rest).tail else (t :: rest)) w' := met_any HA.out.1 HA.out.2.1 kLp
              rw [HF3.out] at hm
              simp only [if_true] at hm
              go_upto_region 9 with (go_at_call 64; (with_reducible refine hm.mono ?_); rintro e wm3 ⟨rfl, hA⟩)
              replace HA := hide (HA.out.adv hA hgb.out)
              clear hm hA
              have hc := HEx.out _ rest HA.out.1 HA.out.2.1 HD.out
              rw [HR1.out] at hc
              go_wp2_with fail
              refine hc.mono ?_
              rintro e w2 ⟨v, rfl, ⟨cs, hv, hx⟩, hA2⟩
              have hss := hide (show w.heap.size < _ from heap_lt HA.out.2.2.2)
              have HX := hide hx
              cases hx with
              | mk harg =>
              rename_i k' n' nm op args sv
              obtain ⟨sp, sm, sc, rfl⟩ := harg.form
              replace hv : v = .agg #[.int .i64 k', .int .i64 n', .string (sB nm), .string (sB op), .slice sp sm sc] := hv
              subst hv
              replace HA := hide (HA.out.adv hA2 hgb.out)
              clear hc harg hA2
              go_upto_region 10 with fail
              refine alloc1 (P := fun W => Code.wp _ _ _ _ W) fun W3 h3 hz3 k23 => ?_
              replace h3 : Xc W3 w2.heap.size (.int .i64 k') (.int .i64 n') (.string (sB nm)) (.string (sB op)) (.slice sp sm sc) := h3
              have hbb := hide (heap_lt HA.out.2.2.2)
              have hb2 := hide HA.out.1.lt
              replace HA := hide (HA.out.new k23)
              have HX3 := hide (HX.out.keeps k23 (fun _ _ q => q))
              have hm : Calls Tryd.prog 66 #[.pointer (some ⟨b, 0, none⟩), .string ⟨#[41]⟩] W3 (Part W3 b T (mustD kRp ts2) fun _ v _ => v = .tuple #[]) := must_any HA.out.1 HA.out.2.1 kRp
              rw [HR2.out] at hm
              have H3 := hide h3
              clear h3 k23 hz3
              go_upto_region 11 with (go_at_call 66; (with_reducible refine hm.mono ?_); rintro e w4 ⟨v4, rfl, rfl, hA4⟩)
              have hr4 := H3.out.keeps hA4.2.2 (fun q => by have := hb2.out; omega)
              obtain ⟨⟨d0, d1, d2, d3, d4⟩, -⟩ := hr4.cells
              have HX4 := hide (HX3.out.keeps hA4.2.2 (fun i hi q => by have : _ ≤ i := hi; have := hss.out; have := hbw.out; omega))
              replace HA := hide (HA.out.adv hA4 hgb.out)
              clear hA4 hr4 hm
              obtain ⟨⟨c0, c1, c2, c3, c4⟩, f0, f1, f2, f3, f4⟩ := HA.out.2.2.2.cells
              generalize hgz : w.heap.size = g at *
              replace hgz := hide hgz
              go_wp2_with fail
              refine set5 (P := fun W => bodyPost _ _ _ _ _ W) HA.out.2.2.2 fun W5 h11 k11 => ?_
              obtain ⟨⟨q0, q1, q2, q3, q4⟩, -⟩ := h11.cells
              refine bodyPost_ret (v := .agg #[.int .i64 k', .int .i64 n', .string (sB nm), .string (sB op), .slice sp sm sc]) (by simp [results, Tryd.results129, go_sem, q0, q1, q2, q3, q4]) rfl ?_
              rw [← hQ.out]
              exact res_done rfl hgz.out HA.out.2.2.1 (HX4.out) (fun i hi => Nat.lt_of_lt_of_le hss.out hi) HA.out.1 HA.out.2.1 hbw.out k11
        · rw [if_neg hF3] at hD ⊢
          have HF3 := hide (Bool.eq_false_iff.2 hF3)
          clear hF3
          cases hR1 : nameD (t :: rest) with
          | out => exact absurd (by rw [hR1]; rfl) hD
          | no l er =>
            have HR1 := hide hR1
            clear hR1 hD
            show Calls Tryd.prog 129 #[.pointer (some ⟨b, 0, none⟩)] w fun e w' => e = thrown l er ∧ Ev w' b T ∧ Keeps w w' (fun i => i = b)
            go_enter Tryd.func129, Tryd.ntmps129
            go_upto_region 1 with fail
            refine alloc1 (P := fun W => Code.wp _ _ _ _ W) fun W0 hg hz k0 => ?_
            have c40 := c4 W0 k0
            have hs0 := hide (show W0.heap.size = w.heap.size + 1 from hz)
            have HA : Hid (At w w.heap.size b T (t :: rest) W0) := hide ⟨HI.out.1.keeps k0 id, HI.out.2.keeps k0 (fun _ q => q.elim), kF k0 b, hg⟩
            clear c4 hg hz k0
            go_upto_region 3 with fail
            clear hk c40
            have hm : Calls Tryd.prog 64 #[.pointer (some ⟨b, 0, none⟩), .string ⟨#[104, 97, 115]⟩] _ fun e w' => e = .returned (.bool (isF kHas (t :: rest))) ∧ AdvP _ b T (if isF kHas (t :: rest) then (t :: rest).tail else (t :: rest)) w' := met_any HA.out.1 HA.out.2.1 kHas
            rw [HF1.out] at hm
            simp only [Bool.false_eq_true, if_false] at hm
            go_upto_region 6 with (go_at_call 64; (with_reducible refine hm.mono ?_); rintro e wm1 ⟨rfl, hA⟩)
            replace HA := hide (HA.out.adv hA hgb.out)
            clear hm hA
            have hm : Calls Tryd.prog 64 #[.pointer (some ⟨b, 0, none⟩), .string ⟨#[108, 101, 110]⟩] _ fun e w' => e = .returned (.bool (isF kLen (t :: rest))) ∧ AdvP _ b T (if isF kLen (t :: rest) then (t :: rest).tail else (t :: rest)) w' := met_any HA.out.1 HA.out.2.1 kLen
            rw [HF2.out] at hm
            simp only [Bool.false_eq_true, if_false] at hm
            go_upto_region 8 with (go_at_call 64; (with_reducible refine hm.mono ?_); rintro e wm2 ⟨rfl, hA⟩)
            replace HA := hide (HA.out.adv hA hgb.out)
            clear hm hA
            have hm : Calls Tryd.prog 64 #[.pointer (some ⟨b, 0, none⟩), .string ⟨#[40]⟩] _ fun e w' => e = .returned (.bool (isF kLp (t :: rest))) ∧ AdvP _ b T (if isF kLp (t :: rest) then (t :: rest).tail else (t :: rest)) w' := met_any HA.out.1 HA.out.2.1 kLp
            rw [HF3.out] at hm
            simp only [Bool.false_eq_true, if_false] at hm
            go_upto_region 12 with (go_at_call 64; (with_reducible refine hm.mono ?_); rintro e wm3 ⟨rfl, hA⟩)
            replace HA := hide (HA.out.adv hA hgb.out)
            clear hm hA
            have hn : Calls Tryd.prog 65 #[.pointer (some ⟨b, 0, none⟩)] _ (Part _ b T (nameD (t :: rest)) fun s v _ => v = .string (sB s)) := name_any HA.out.1 HA.out.2.1
            rw [HR1.out] at hn
            go_wp2_with fail
            refine hn.mono ?_
            rintro e w9 ⟨rfl, h5, k5⟩
            exact ⟨rfl, rfl, h5, HA.out.2.2.1.trans k5 (fun _ _ q => q)⟩
          | ok s ts2 =>
            have HR1 := hide hR1
            rw [hR1] at hD
            clear hR1
            by_cases hF4 : isF kLb ts2 = true
            · have HF4 := hide hF4
              have hD2 : keyD n ts2 ≠ .out := fun q => hD (by
                show (if isF kLb ts2 = true then (keyD n ts2).bind fun x ts3 => .ok (exIndex s x) ts3 else .ok (exName s) ts2) = _
                rw [if_pos hF4, q]
                rfl)
              have HD := hide hD2
              show Calls Tryd.prog 129 #[.pointer (some ⟨b, 0, none⟩)] w (Part w b T (if isF kLb ts2 = true then (keyD n ts2).bind fun x ts3 => .ok (exIndex s x) ts3 else .ok (exName s) ts2) (ExG w.heap.size))
              rw [if_pos hF4]
              clear hF4
              cases hR2 : keyD n ts2 with
              | out => exact absurd hR2 hD2
              | no l er =>
                have HR2 := hide hR2
                clear hR2 hD hD2
                show Calls Tryd.prog 129 #[.pointer (some ⟨b, 0, none⟩)] w fun e w' => e = thrown l er ∧ Ev w' b T ∧ Keeps w w' (fun i => i = b)
                go_enter Tryd.func129, Tryd.ntmps129
                go_upto_region 1 with fail
                refine alloc1 (P := fun W => Code.wp _ _ _ _ W) fun W0 hg hz k0 => ?_
                have c40 := c4 W0 k0
                have hs0 := hide (show W0.heap.size = w.heap.size + 1 from hz)
                have HA : Hid (At w w.heap.size b T (t :: rest) W0) := hide ⟨HI.out.1.keeps k0 id, HI.out.2.keeps k0 (fun _ q => q.elim), kF k0 b, hg⟩
                clear c4 hg hz k0
                go_upto_region 3 with fail
                clear hk c40
                have hm : Calls Tryd.prog 64 #[.pointer (some ⟨b, 0, none⟩), .string ⟨#[104, 97, 115]⟩] _ fun e w' => e = .returned (.bool (isF kHas (t :: rest))) ∧ AdvP _ b T (if isF kHas (t :: rest) then (t :: rest).tail else (t :: rest)) w' := met_any HA.out.1 HA.out.2.1 kHas
                rw [HF1.out] at hm
                simp only [Bool.false_eq_true, if_false] at hm
                go_upto_region 6 with (go_at_call 64; (with_reducible refine hm.mono ?_); rintro e wm1 ⟨rfl, hA⟩)
                replace HA := hide (HA.out.adv hA hgb.out)
                clear hm hA
                have hm : Calls Tryd.prog 64 #[.pointer (some ⟨b, 0, none⟩), .string ⟨#[108, 101, 110]⟩] _ fun e w' => e = .returned (.bool (isF kLen (t :: rest))) ∧ AdvP _ b T (if isF kLen (t :: rest) then (t :: rest).tail else (t :: rest)) w' := met_any HA.out.1 HA.out.2.1 kLen
                rw [HF2.out] at hm
                simp only [Bool.false_eq_true, if_false] at hm
                go_upto_region 8 with (go_at_call 64; (with_reducible refine hm.mono ?_); rintro e wm2 ⟨rfl, hA⟩)
                replace HA := hide (HA.out.adv hA hgb.out)
                clear hm hA
                have hm : Calls Tryd.prog 64 #[.pointer (some ⟨b, 0, none⟩), .string ⟨#[40]⟩] _ fun e w' => e = .returned (.bool (isF kLp (t :: rest))) ∧ AdvP _ b T (if isF kLp (t :: rest) then (t :: rest).tail else (t :: rest)) w' := met_any HA.out.1 HA.out.2.1 kLp
                rw [HF3.out] at hm
                simp only [Bool.false_eq_true, if_false] at hm
                go_upto_region 12 with (go_at_call 64; (with_reducible refine hm.mono ?_); rintro e wm3 ⟨rfl, hA⟩)
                replace HA := hide (HA.out.adv hA hgb.out)
                clear hm hA
                have hn : Calls Tryd.prog 65 #[.pointer (some ⟨b, 0, none⟩)] _ (Part _ b T (nameD (t :: rest)) fun s v _ => v = .string (sB s)) := name_any HA.out.1 HA.out.2.1
                rw [HR1.out] at hn
                go_upto_region 13 with (go_at_call 65; (with_reducible refine hn.mono ?_); rintro e wn0 ⟨v0, rfl, rfl, hA⟩)
                replace HA := hide (HA.out.adv hA hgb.out)
                clear hn hA
                have hi : Calls Tryd.prog 86 #[.pointer (some ⟨b, 0, none⟩), .string ⟨#[91]⟩] _ fun e w' => e = .returned (.bool (isF kLb ts2)) ∧ w' = _ := is_any HA.out.1 kLb
                rw [HF4.out] at hi
                go_upto_region 14 with (go_at_call 86; (with_reducible refine hi.mono ?_); rintro e w8 ⟨rfl, rfl⟩)
                clear hi
                have hc := HKy.out _ ts2 HA.out.1 HA.out.2.1 HD.out
                rw [HR2.out] at hc
                go_wp2_with fail
                refine hc.mono ?_
                rintro e w9 ⟨rfl, h5, k5⟩
                exact ⟨rfl, rfl, h5, HA.out.2.2.1.trans k5 (fun _ _ q => q)⟩
              | ok x ts3 =>
                have HR2 := hide hR2
                clear hR2 hD hD2
                show Calls Tryd.prog 129 #[.pointer (some ⟨b, 0, none⟩)] w fun e w' => ∃ v, e = .returned v ∧ ExG w.heap.size (exIndex s x) v w' ∧ AdvP w b T ts3 w'
                generalize hQ : (fun e w' => ∃ v, e = .returned v ∧ ExG w.heap.size (exIndex s x) v w' ∧ AdvP w b T ts3 w' : Ending → World → Prop) = Q
                replace hQ := hide hQ
                go_enter Tryd.func129, Tryd.ntmps129
                go_upto_region 1 with fail
                refine alloc1 (P := fun W => Code.wp _ _ _ _ W) fun W0 hg hz k0 => ?_
                have c40 := c4 W0 k0
                have hs0 := hide (show W0.heap.size = w.heap.size + 1 from hz)
                have HA : Hid (At w w.heap.size b T (t :: rest) W0) := hide ⟨HI.out.1.keeps k0 id, HI.out.2.keeps k0 (fun _ q => q.elim), kF k0 b, hg⟩
                clear c4 hg hz k0
                go_upto_region 3 with fail
                clear hk c40
                have hm : Calls Tryd.prog 64 #[.pointer (some ⟨b, 0, none⟩), .string ⟨#[104, 97, 115]⟩] _ fun e w' => e = .returned (.bool (isF kHas (t :: rest))) ∧ AdvP _ b T (if isF kHas (t :: rest) then (t :: rest).tail else (t :: rest)) w' := met_any HA.out.1 HA.out.2.1 kHas
                rw [HF1.out] at hm
                simp only [Bool.false_eq_true, if_false] at hm
                go_upto_region 6 with (go_at_call 64; (with_reducible refine hm.mono ?_); rintro e wm1 ⟨rfl, hA⟩)
                replace HA := hide (HA.out.adv hA hgb.out)
                clear hm hA
                have hm : Calls Tryd.prog 64 #[.pointer (some ⟨b, 0, none⟩), .string ⟨#[108, 101, 110]⟩] _ fun e w' => e = .returned (.bool (isF kLen (t :: rest))) ∧ AdvP _ b T (if isF kLen (t :: rest) then (t :: rest).tail else (t :: rest)) w' := met_any HA.out.1 HA.out.2.1 kLen
                rw [HF2.out] at hm
                simp only [Bool.false_eq_true, if_false] at hm
                go_upto_region 8 with (go_at_call 64; (with_reducible refine hm.mono ?_); rintro e wm2 ⟨rfl, hA⟩)
                replace HA := hide (HA.out.adv hA hgb.out)
                clear hm hA
                have hm : Calls Tryd.prog 64 #[.pointer (some ⟨b, 0, none⟩), .string ⟨#[40]⟩] _ fun e w' => e = .returned (.bool (isF kLp (t :: rest))) ∧ AdvP _ b T (if isF kLp (t :: rest) then (t :: rest).tail else (t :: rest)) w' := met_any HA.out.1 HA.out.2.1 kLp
                rw [HF3.out] at hm
                simp only [Bool.false_eq_true, if_false] at hm
                go_upto_region 12 with (go_at_call 64; (with_reducible refine hm.mono ?_); rintro e wm3 ⟨rfl, hA⟩)
                replace HA := hide (HA.out.adv hA hgb.out)
                clear hm hA
                have hn : Calls Tryd.prog 65 #[.pointer (some ⟨b, 0, none⟩)] _ (Part _ b T (nameD (t :: rest)) fun s v _ => v = .string (sB s)) := name_any HA.out.1 HA.out.2.1
                rw [HR1.out] at hn
                go_upto_region 13 with (go_at_call 65; (with_reducible refine hn.mono ?_); rintro e wn0 ⟨v0, rfl, rfl, hA⟩)
                replace HA := hide (HA.out.adv hA hgb.out)
                clear hn hA
                have hi : Calls Tryd.prog 86 #[.pointer (some ⟨b, 0, none⟩), .string ⟨#[91]⟩] _ fun e w' => e = .returned (.bool (isF kLb ts2)) ∧ w' = _ := is_any HA.out.1 kLb
                rw [HF4.out] at hi
                go_upto_region 14 with (go_at_call 86; (with_reducible refine hi.mono ?_); rintro e w8 ⟨rfl, rfl⟩)
                clear hi
                have hc := HKy.out _ ts2 HA.out.1 HA.out.2.1 HD.out
                rw [HR2.out] at hc
                go_wp2_with fail
                have hs9 := HA.out
                refine hc.mono ?_
                rintro e w2 ⟨v, rfl, ⟨cs, hv, hx⟩, hA2⟩
                have HX := hide hx
                cases hx with
                | mk harg =>
                rename_i k' n' nm op args sv
                replace hv : v = .agg #[.int .i64 k', .int .i64 n', .string (sB nm), .string (sB op), sv] := hv
                subst hv
                replace HA := hide (HA.out.adv hA2 hgb.out)
                have kA := (Keeps.refl w2 (fun _ => False)).alloc (.cells #[.int .i64 k', .int .i64 n', .string (sB nm), .string (sB op), sv] 42)
                have hnew := hide (heap_alloc_new w2 (.cells #[.int .i64 k', .int .i64 n', .string (sB nm), .string (sB op), sv] 42))
                have HX2 := hide (HX.out.keeps kA (fun _ _ q => q))
                have hsA := hide hA2.2.2.size
                replace HA := hide (HA.out.new kA)
                have hss : Hid (w.heap.size < _ ∧ True) := hide ⟨heap_lt hs9.2.2.2, trivial⟩
                clear hc harg hA2 kA hs9
                obtain ⟨⟨c0, c1, c2, c3, c4⟩, f0, f1, f2, f3, f4⟩ := HA.out.2.2.2.cells
                have hsz := hide trivial
                generalize hgz : w.heap.size = g at *
                replace hgz := hide hgz
                go_wp2_with fail
                refine set5 (P := fun W => bodyPost _ _ _ _ _ W) HA.out.2.2.2 fun W5 h11 k11 => ?_
                obtain ⟨⟨q0, q1, q2, q3, q4⟩, -⟩ := h11.cells
                refine bodyPost_ret (v := .agg #[.int .i64 3, .int .i64 0, .string (sB s), .string ⟨#[]⟩, .slice (some ⟨w2.heap.size, 0, none⟩) 1 1]) (by simp [results, Tryd.results129, go_sem, q0, q1, q2, q3, q4]) rfl ?_
                rw [← hQ.out]
                exact res_done rfl hgz.out HA.out.2.2.1 (ExC.mk (ArgsV.some (args := [_]) hsA.out (heap_lt hnew.out) (Nat.le_refl _) (range_blk hnew.out) (ExsC.cons HX2.out ExsC.nil))) (fun i hi => Nat.lt_of_lt_of_le hss.out.1 hi) HA.out.1 HA.out.2.1 hbw.out k11
            · have HF4 := hide (Bool.eq_false_iff.2 hF4)
              show Calls Tryd.prog 129 #[.pointer (some ⟨b, 0, none⟩)] w (Part w b T (if isF kLb ts2 = true then (keyD n ts2).bind fun x ts3 => .ok (exIndex s x) ts3 else .ok (exName s) ts2) (ExG w.heap.size))
              rw [if_neg hF4]
              clear hF4 hD
              show Calls Tryd.prog 129 #[.pointer (some ⟨b, 0, none⟩)] w fun e w' => ∃ v, e = .returned v ∧ ExG w.heap.size (exName s) v w' ∧ AdvP w b T ts2 w'
              generalize hQ : (fun e w' => ∃ v, e = .returned v ∧ ExG w.heap.size (exName s) v w' ∧ AdvP w b T ts2 w' : Ending → World → Prop) = Q
              replace hQ := hide hQ
              go_enter Tryd.func129, Tryd.ntmps129
              go_upto_region 1 with fail
              refine alloc1 (P := fun W => Code.wp _ _ _ _ W) fun W0 hg hz k0 => ?_
              have c40 := c4 W0 k0
              have hs0 := hide (show W0.heap.size = w.heap.size + 1 from hz)
              have HA : Hid (At w w.heap.size b T (t :: rest) W0) := hide ⟨HI.out.1.keeps k0 id, HI.out.2.keeps k0 (fun _ q => q.elim), kF k0 b, hg⟩
              clear c4 hg hz k0
              go_upto_region 3 with fail
              clear hk c40
              have hm : Calls Tryd.prog 64 #[.pointer (some ⟨b, 0, none⟩), .string ⟨#[104, 97, 115]⟩] _ fun e w' => e = .returned (.bool (isF kHas (t :: rest))) ∧ AdvP _ b T (if isF kHas (t :: rest) then (t :: rest).tail else (t :: rest)) w' := met_any HA.out.1 HA.out.2.1 kHas
              rw [HF1.out] at hm
              simp only [Bool.false_eq_true, if_false] at hm
              go_upto_region 6 with (go_at_call 64; (with_reducible refine hm.mono ?_); rintro e wm1 ⟨rfl, hA⟩)
              replace HA := hide (HA.out.adv hA hgb.out)
              clear hm hA
              have hm : Calls Tryd.prog 64 #[.pointer (some ⟨b, 0, none⟩), .string ⟨#[108, 101, 110]⟩] _ fun e w' => e = .returned (.bool (isF kLen (t :: rest))) ∧ AdvP _ b T (if isF kLen (t :: rest) then (t :: rest).tail else (t :: rest)) w' := met_any HA.out.1 HA.out.2.1 kLen
              rw [HF2.out] at hm
              simp only [Bool.false_eq_true, if_false] at hm
              go_upto_region 8 with (go_at_call 64; (with_reducible refine hm.mono ?_); rintro e wm2 ⟨rfl, hA⟩)
              replace HA := hide (HA.out.adv hA hgb.out)
              clear hm hA
              have hm : Calls Tryd.prog 64 #[.pointer (some ⟨b, 0, none⟩), .string ⟨#[40]⟩] _ fun e w' => e = .returned (.bool (isF kLp (t :: rest))) ∧ AdvP _ b T (if isF kLp (t :: rest) then (t :: rest).tail else (t :: rest)) w' := met_any HA.out.1 HA.out.2.1 kLp
              rw [HF3.out] at hm
              simp only [Bool.false_eq_true, if_false] at hm
              go_upto_region 12 with (go_at_call 64; (with_reducible refine hm.mono ?_); rintro e wm3 ⟨rfl, hA⟩)
              replace HA := hide (HA.out.adv hA hgb.out)
              clear hm hA
              have hn : Calls Tryd.prog 65 #[.pointer (some ⟨b, 0, none⟩)] _ (Part _ b T (nameD (t :: rest)) fun s v _ => v = .string (sB s)) := name_any HA.out.1 HA.out.2.1
              rw [HR1.out] at hn
              go_upto_region 13 with (go_at_call 65; (with_reducible refine hn.mono ?_); rintro e wn0 ⟨v0, rfl, rfl, hA⟩)
              replace HA := hide (HA.out.adv hA hgb.out)
              clear hn hA
              have hi : Calls Tryd.prog 86 #[.pointer (some ⟨b, 0, none⟩), .string ⟨#[91]⟩] _ fun e w' => e = .returned (.bool (isF kLb ts2)) ∧ w' = _ := is_any HA.out.1 kLb
              rw [HF4.out] at hi
              go_upto_region 15 with (go_at_call 86; (with_reducible refine hi.mono ?_); rintro e w8 ⟨rfl, rfl⟩)
              clear hi
              obtain ⟨⟨c0, c1, c2, c3, c4⟩, f0, f1, f2, f3, f4⟩ := HA.out.2.2.2.cells
              generalize hgz : w.heap.size = g at *
              replace hgz := hide hgz
              go_wp2_with fail
              refine set5 (P := fun W => bodyPost _ _ _ _ _ W) HA.out.2.2.2 fun W5 h11 k11 => ?_
              obtain ⟨⟨q0, q1, q2, q3, q4⟩, -⟩ := h11.cells
              refine bodyPost_ret (v := .agg #[.int .i64 2, .int .i64 0, .string (sB s), .string ⟨#[]⟩, .slice none 0 0]) (by simp [results, Tryd.results129, go_sem, q0, q1, q2, q3, q4]) rfl ?_
              rw [← hQ.out]
              exact res_done rfl hgz.out HA.out.2.2.1 (ExC.mk (P := fun i => g < i) ArgsV.nil) (fun i hi => hi) HA.out.1 HA.out.2.1 hbw.out k11
end Lg
end Go.Proofs.YtlpfnikhnchpdaaDoor
/-
  lang: joined, a step of it.
-/
namespace Go.Proofs.YtlpfnikhnchpdaaDoor
namespace Lg
open Go.RowKit
set_option linter.unusedVariables false

set_option maxRecDepth 100000 in
set_option maxHeartbeats 4000000 in
theorem joined_six {b : Nat} {T : Bs} {n r : Nat} (h6 : r = 6) (hU : Reads 123 #[.pointer (some ⟨b, 0, none⟩)] b T (unaryD n)) : Reads 115 #[.pointer (some ⟨b, 0, none⟩), .int .i64 (r : Int)] b T (joinedD (n + 1) r) := by
  intro w ts h E hD
  have e : joinedD (n + 1) r ts = unaryD n ts := by rw [joinedD, if_pos h6]
  rw [e] at hD ⊢
  have hr6 : ((r : Int) == 6) = true := by subst h6; rfl
  have hbw := hide h.lt
  have hgb := hide (show ¬ w.heap.size = b from fun q => Nat.lt_irrefl _ (q ▸ h.lt))
  have HU := hide hU
  have HD := hide hD
  have HI := hide (And.intro h E)
  clear hU h E e h6
  cases hR : unaryD n ts with
  | out => exact absurd hR hD
  | no l er =>
    show Calls Tryd.prog 115 #[.pointer (some ⟨b, 0, none⟩), .int .i64 (r : Int)] w fun e w' => e = thrown l er ∧ Ev w' b T ∧ Keeps w w' (fun i => i = b)
    have HR := hide hR
    clear hR hD
    go_enter Tryd.func115, Tryd.ntmps115
    go_upto_region 1 with fail
    refine alloc1 (P := fun W => Code.wp _ _ _ _ W) fun W0 hg hz k0 => ?_
    have hc := HU.out W0 ts (HI.out.1.keeps k0 id) (HI.out.2.keeps k0 (fun _ q => q.elim)) HD.out
    rw [HR.out] at hc
    have HK := hide k0
    clear hg hz k0
    go_wp2_with fail
    refine hc.mono ?_
    rintro e w2 ⟨rfl, h5, k5⟩
    exact ⟨rfl, rfl, h5, (kF HK.out b).trans k5 (fun _ _ q => q)⟩
  | ok x ts2 =>
    show Calls Tryd.prog 115 #[.pointer (some ⟨b, 0, none⟩), .int .i64 (r : Int)] w fun e w' => ∃ v, e = .returned v ∧ ExG w.heap.size x v w' ∧ AdvP w b T ts2 w'
    generalize hQ : (fun e w' => ∃ v, e = .returned v ∧ ExG w.heap.size x v w' ∧ AdvP w b T ts2 w' : Ending → World → Prop) = Q
    replace hQ := hide hQ
    have HR := hide hR
    clear hR hD
    go_enter Tryd.func115, Tryd.ntmps115
    go_upto_region 1 with fail
    refine alloc1 (P := fun W => Code.wp _ _ _ _ W) fun W0 hg hz k0 => ?_
    have HA : Hid (At w w.heap.size b T ts W0) := hide ⟨HI.out.1.keeps k0 id, HI.out.2.keeps k0 (fun _ q => q.elim), kF k0 b, hg⟩
    have hc := HU.out W0 ts HA.out.1 HA.out.2.1 HD.out
    rw [HR.out] at hc
    clear hg hz k0
    go_wp2_with fail
    refine hc.mono ?_
    rintro e w2 ⟨v, rfl, ⟨cs, hv, hx⟩, hA2⟩
    have hss := hide (show w.heap.size < _ from heap_lt HA.out.2.2.2)
    have HX := hide hx
    cases hx with
    | mk harg =>
    rename_i k' n' nm op args sv
    obtain ⟨sp, sm, sc, rfl⟩ := harg.form
    replace hv : v = .agg #[.int .i64 k', .int .i64 n', .string (sB nm), .string (sB op), .slice sp sm sc] := hv
    subst hv
    replace HA := hide (HA.out.adv hA2 hgb.out)
    obtain ⟨⟨c0, c1, c2, c3, c4⟩, f0, f1, f2, f3, f4⟩ := HA.out.2.2.2.cells
    clear hc harg hA2
    generalize hgz : w.heap.size = g at *
    replace hgz := hide hgz
    go_wp2_with fail
    refine set5 (P := fun W => bodyPost _ _ _ _ _ W) HA.out.2.2.2 fun W5 h11 k11 => ?_
    obtain ⟨⟨q0, q1, q2, q3, q4⟩, -⟩ := h11.cells
    refine bodyPost_ret (v := .agg #[.int .i64 k', .int .i64 n', .string (sB nm), .string (sB op), .slice sp sm sc]) (by simp [results, Tryd.results115, go_sem, q0, q1, q2, q3, q4]) rfl ?_
    rw [← hQ.out]
    exact res_done rfl hgz.out HA.out.2.2.1 HX.out (fun i hi => Nat.lt_of_lt_of_le hss.out hi) HA.out.1 HA.out.2.1 hbw.out k11
end Lg
end Go.Proofs.YtlpfnikhnchpdaaDoor
