import Derived.Test.YtlpfnikhnchpdaaDoorLn3
/-
  lang: unary, a step of it.
-/
namespace Go.Proofs.YtlpfnikhnchpdaaDoor
namespace Lg
open Go.RowKit
set_option linter.unusedVariables false
/-- What a reader of expressions that is given one less of fuel answers. -/
def Reads (F : Nat) (args : Array Value) (b : Nat) (T : Bs) (D : List Tk → Rs Ex) : Prop :=
  ∀ (w : World) (ts : List Tk), RAt w b T ts → Ev w b T → D ts ≠ .out → Calls Tryd.prog F args w (Part w b T (D ts) (ExG w.heap.size))
theorem RAt.lt {w : World} {b : Nat} {T : Bs} {ts : List Tk} (h : RAt w b T ts) : b < w.heap.size := by
  obtain ⟨a, l, c, t, rest, rfl, h1, -⟩ := h
  exact heap_lt h1
/-- An expression's block. -/
def Xc (w : World) (g : Nat) (x y z u v : Value) : Prop := w.heap[g]? = some (.cells #[x, y, z, u, v] 42)
theorem Xc.cells {w : World} {g : Nat} {x y z u v : Value} (h : Xc w g x y z u v) :
    (w.cell? ⟨g, 0, none⟩ = some x ∧ w.cell? ⟨g, 1, none⟩ = some y ∧ w.cell? ⟨g, 2, none⟩ = some z ∧ w.cell? ⟨g, 3, none⟩ = some u ∧ w.cell? ⟨g, 4, none⟩ = some v) ∧ w.frozen? ⟨g, 0, none⟩ = false ∧ w.frozen? ⟨g, 1, none⟩ = false ∧ w.frozen? ⟨g, 2, none⟩ = false ∧ w.frozen? ⟨g, 3, none⟩ = false ∧ w.frozen? ⟨g, 4, none⟩ = false := by
  have h : w.heap[g]? = _ := h
  simp [World.cell?, World.frozen?, h]
theorem set5 {w : World} {g : Nat} {x y z u v a b c d e : Value} {P : World → Prop} (h : Xc w g x y z u v) (hp : ∀ W, Xc W g a b c d e → Keeps w W (fun i => i = g) → P W) :
    P (((((w.setCell ⟨g, 0, none⟩ a).setCell ⟨g, 1, none⟩ b).setCell ⟨g, 2, none⟩ c).setCell ⟨g, 3, none⟩ d).setCell ⟨g, 4, none⟩ e) := by
  have h1 := set_one' h 0 a (by simp)
  have h2 := set_one' h1 1 b (by simp)
  have h3 := set_one' h2 2 c (by simp)
  have h4 := set_one' h3 3 d (by simp)
  exact hp _ (set_one' h4 4 e (by simp)) ((((((Keeps.refl w (fun i => i = g)).setCell _ (fun _ => rfl) _).setCell _ (fun _ => rfl) _).setCell _ (fun _ => rfl) _).setCell _ (fun _ => rfl) _).setCell _ (fun _ => rfl) _)

set_option maxRecDepth 100000 in
set_option maxHeartbeats 4000000 in
theorem unary_step {b : Nat} {T : Bs} {n : Nat} (hU : Reads 123 #[.pointer (some ⟨b, 0, none⟩)] b T (unaryD n)) (hP : Reads 129 #[.pointer (some ⟨b, 0, none⟩)] b T (primD n)) :
    Reads 123 #[.pointer (some ⟨b, 0, none⟩)] b T (unaryD (n + 1)) := by
  intro w ts h E hD
  have hb := h.lt
  obtain ⟨t, rest, rfl⟩ : ∃ t rest, ts = t :: rest := by
    obtain ⟨a, l, c, t, rest, e, -⟩ := h
    exact ⟨t, rest, e⟩
  have hk := kind_is (k := t.kind) (n := 4) (z := 4) rfl
  by_cases ho : t.kind = 4 ∧ (t.text == [45] || t.text == [33]) = true
  · have e : unaryD (n + 1) (t :: rest) = (unaryD n rest).bind fun x ts2 => .ok (exUn t.text x) ts2 := by
      rw [unaryD, if_pos]
      · rfl
      · show (t.kind == 4 && (t.text == [45] || t.text == [33])) = true
        rw [ho.2, ho.1]
        rfl
    rw [e] at hD ⊢
    have hIs := fun W => isUnary_any t.text W
    rw [ho.2] at hIs
    have hk4 : (t.kind == 4) = true := by simp [ho.1]
    rw [hk4] at hk
    have hT := fun (W : World) (k : Keeps w W (fun _ => False)) => take_any (h.keeps k id) (by omega) (E.keeps k (fun _ q => q.elim))
    have HU : Hid (∀ W, RAt W b T rest → Ev W b T → Calls Tryd.prog 123 #[.pointer (some ⟨b, 0, none⟩)] W (Part W b T (unaryD n rest) (ExG W.heap.size))) := fun W h1 h2 => hU W rest h1 h2 (fun q => hD (by rw [q]; rfl))
    have c45 : ∀ W, Keeps w W (fun _ => False) → W.cell? ⟨b, 4, none⟩ = some (.int .i64 (t.kind : Int)) ∧ W.cell? ⟨b, 5, none⟩ = some (.string (sB t.text)) := fun W k => by
      obtain ⟨a, l, c, t', rest', e, h1, -⟩ := h
      injection e with e1 e2
      subst e1
      obtain ⟨⟨c0, c1, c2, c3, c4, c5, c6⟩, -⟩ := (h1.keeps k id).cells
      exact ⟨c4, c5⟩
    have hbw := hide hb
    cases hR : unaryD n rest with
    | out => exact absurd (by rw [hR]; rfl) hD
    | no l er =>
      rw [hR] at HU
      show Calls Tryd.prog 123 #[.pointer (some ⟨b, 0, none⟩)] w fun e w' => e = thrown l er ∧ Ev w' b T ∧ Keeps w w' (fun i => i = b)
      clear hU hP hD hR h E hb ho e hk4
      go_enter Tryd.func123, Tryd.ntmps123
      go_upto_region 1 with fail
      refine alloc1 (P := fun W => Code.wp _ _ _ _ W) fun W0 hg hz k0 => ?_
      obtain ⟨c4, c5⟩ := c45 W0 k0
      have hT0 := hT W0 k0
      have HK0 := hide k0
      clear hT c45 hg hz k0
      go_upto_region 2 with (go_at_call 100; (with_reducible refine (hIs _).mono ?_); rintro e w9 ⟨rfl, rfl⟩)
      go_upto_region 3 with (go_at_call 88; (with_reducible refine hT0.mono ?_); rintro e w1 ⟨rfl, hA⟩)
      have hU0 := HU.out _ hA.1 hA.2.1
      have HA := hide hA
      clear HU hT0 hIs hk c4 c5 hA
      go_wp2_with fail
      refine hU0.mono ?_
      rintro e w2 ⟨rfl, h5, k5⟩
      exact ⟨rfl, rfl, h5, (HK0.out.mono (S1 := fun i => i = b) (fun _ _ q => q.elim)).trans (HA.out.2.2.trans k5 (fun _ _ q => q)) (fun _ _ q => q)⟩
    | ok x ts2 =>
      rw [hR] at HU
      show Calls Tryd.prog 123 #[.pointer (some ⟨b, 0, none⟩)] w fun e w' => ∃ v, e = .returned v ∧ ExG w.heap.size (exUn t.text x) v w' ∧ AdvP w b T ts2 w'
      clear hU hP hD hR h E hb ho e hk4
      generalize hQ : (fun e w' => ∃ v, e = .returned v ∧ ExG w.heap.size (exUn t.text x) v w' ∧ AdvP w b T ts2 w' : Ending → World → Prop) = Q
      replace hQ := hide hQ
      go_enter Tryd.func123, Tryd.ntmps123
      go_upto_region 1 with fail
      refine alloc1 (P := fun W => Code.wp _ _ _ _ W) fun W0 hg hz k0 => ?_
      obtain ⟨c4, c5⟩ := c45 W0 k0
      have hT0 := hT W0 k0
      clear hT c45
      go_upto_region 2 with (go_at_call 100; (with_reducible refine (hIs _).mono ?_); rintro e w9 ⟨rfl, rfl⟩)
      go_upto_region 3 with (go_at_call 88; (with_reducible refine hT0.mono ?_); rintro e w1 ⟨rfl, hA⟩)
      have hU0 := HU.out _ hA.1 hA.2.1
      have hs1 := hide (show w.heap.size < w1.heap.size from Nat.lt_of_lt_of_le (heap_lt hg) hA.2.2.size)
      have HK := hide (And.intro k0 (And.intro hg hA))
      clear HU hT0 hIs hk c4 c5 hA hg k0
      go_wp2_with fail
      refine hU0.mono ?_
      rintro e w2 ⟨v, rfl, ⟨cs, rfl, hx⟩, hA2⟩
      have HX := hide hx
      cases hx with
      | mk harg =>
      rename_i k' n' nm op args sv
      have HA2 := hide hA2
      have hgx : w2.heap[w.heap.size]? = some (.cells #[.int .i64 0, .int .i64 0, .string ⟨#[]⟩, .string ⟨#[]⟩, .slice none 0 0] 42) := by
        obtain ⟨k0, hg, hA⟩ := HK.out
        have hl : w.heap.size ≠ b := fun q => by have := hbw.out; omega
        exact (hA2.2.2.block _ (by have := hA.2.2.size; have := heap_lt hg; omega) (fun q => hl q)).trans ((hA.2.2.block _ (heap_lt hg) (fun q => hl q)).trans hg)
      have hgX : Xc w2 w.heap.size _ _ _ _ _ := hgx
      have kA := (Keeps.refl w2 (fun _ => False)).alloc (.cells #[.int .i64 k', .int .i64 n', .string (sB nm), .string (sB op), sv] 42)
      have hgA : Xc (w2.alloc (.cells #[.int .i64 k', .int .i64 n', .string (sB nm), .string (sB op), sv] 42)) w.heap.size _ _ _ _ _ := (kA.block _ (heap_lt hgX) id).trans hgX
      obtain ⟨⟨c0, c1, c2, c3, c4⟩, f0, f1, f2, f3, f4⟩ := hgA.cells
      have HgA := hide (And.intro hgA kA)
      have hnew := hide (heap_alloc_new w2 (.cells #[.int .i64 k', .int .i64 n', .string (sB nm), .string (sB op), sv] 42))
      clear hU0 harg hA2 hgx hgX hgA kA
      generalize hgz : w.heap.size = g at *
      replace hgz := hide hgz
      go_wp2_with fail
      refine set5 (P := fun W => bodyPost _ _ _ _ _ W) HgA.out.1 fun W5 h11 k11 => ?_
      obtain ⟨⟨q0, q1, q2, q3, q4⟩, -⟩ := h11.cells
      refine bodyPost_ret (v := .agg #[.int .i64 6, .int .i64 0, .string ⟨#[]⟩, .string (sB t.text), .slice (some ⟨w2.heap.size, 0, none⟩) 1 1]) (by simp [results, Tryd.results123, go_sem, q0, q1, q2, q3, q4]) rfl ?_
      rw [← hQ.out]
      obtain ⟨k0, hg, hA⟩ := HK.out
      have hgs := hgz.out
      have hg1 := hs1.out
      have hw2 := HA2.out.2.2.size
      have k5 : Keeps w2 W5 (fun i => i = g) := (HgA.out.2.mono (fun _ _ q => q.elim)).trans k11 (fun _ _ q => q)
      have kk : Keeps w W5 (fun i => i = b) := ((k0.mono (S1 := fun i => i = b) (fun _ _ q => q.elim)).trans (hA.2.2.trans HA2.out.2.2 (fun _ _ q => q)) (fun _ _ q => q)).trans k5 (fun i hi q => by subst q; omega)
      have hbg : ¬ b = g := fun q => by have := hbw.out; omega
      have hne : ¬ w2.heap.size = g := by omega
      have hr : W5.rangeAt w2.heap.size 0 [.int .i64 k', .int .i64 n', .string (sB nm), .string (sB op), sv] := range_blk ((k11.block _ (heap_lt hnew.out) hne).trans hnew.out)
      have hlt5 : w2.heap.size < W5.heap.size := Nat.lt_of_lt_of_le (heap_lt hnew.out) k11.size
      have hx5 := (HX.out.keeps k5 (fun i hi q => by have : _ ≤ i := hi; omega)).mono (P' := fun i => g ≤ i) (fun i hi => by have : _ ≤ i := hi; show _ ≤ _; omega)
      refine ⟨_, rfl, ⟨_, rfl, ExC.mk (ArgsV.some (args := [_]) (by show _ ≤ _; omega) hlt5 (Nat.le_refl _) hr (ExsC.cons hx5 ExsC.nil))⟩, HA2.out.1.keeps k5 hbg, ?_, kk⟩
      exact HA2.out.2.1.keeps k5 (fun i q => by subst q; have h9 := HA2.out.2.1.hi; unfold Hi at h9 ⊢; have := hbw.out; omega)
  · have e : unaryD (n + 1) (t :: rest) = primD n (t :: rest) := by
      rw [unaryD, if_neg]
      show ¬ (t.kind == 4 && (t.text == [45] || t.text == [33])) = true
      intro q
      simp only [Bool.and_eq_true, beq_iff_eq] at q
      exact ho ⟨q.1, by simpa using q.2⟩
    rw [e] at hD ⊢
    have hbw := hide hb
    have h9 := hide (And.intro h E)
    have HP : Hid (∀ W, RAt W b T (t :: rest) → Ev W b T → Calls Tryd.prog 129 #[.pointer (some ⟨b, 0, none⟩)] W (Part W b T (primD n (t :: rest)) (ExG W.heap.size))) := fun W h1 h2 => hP W _ h1 h2 hD
    have c45 : ∀ W, Keeps w W (fun _ => False) → W.cell? ⟨b, 4, none⟩ = some (.int .i64 (t.kind : Int)) ∧ W.cell? ⟨b, 5, none⟩ = some (.string (sB t.text)) := fun W k => by
      obtain ⟨a, l, c, t', rest', e, h1, -⟩ := h
      injection e with e1 e2
      subst e1
      obtain ⟨⟨c0, c1, c2, c3, c4, c5, c6⟩, -⟩ := (h1.keeps k id).cells
      exact ⟨c4, c5⟩
    have hIs : t.kind = 4 → ∀ W, Calls Tryd.prog 100 #[.string (sB t.text)] W fun e w' => e = .returned (.bool false) ∧ w' = W := fun q W => by
      have hf : (t.text == [45] || t.text == [33]) = false := by
        rw [Bool.eq_false_iff]
        exact fun z => ho ⟨q, z⟩
      have := isUnary_any t.text W
      rw [hf] at this
      exact this
    clear ho
    cases hk4 : t.kind == 4 with
    | true =>
      rw [hk4] at hk
      replace hIs := hIs (by simpa using hk4)
      clear hk4
      cases hR : primD n (t :: rest) with
      | out => exact absurd hR hD
      | no l er =>
        rw [hR] at HP
        show Calls Tryd.prog 123 #[.pointer (some ⟨b, 0, none⟩)] w fun e w' => e = thrown l er ∧ Ev w' b T ∧ Keeps w w' (fun i => i = b)
        clear hU hP hD hR h E hb e
        go_enter Tryd.func123, Tryd.ntmps123
        go_upto_region 1 with fail
        refine alloc1 (P := fun W => Code.wp _ _ _ _ W) fun W0 hg hz k0 => ?_
        obtain ⟨c4, c5⟩ := c45 W0 k0
        have hP0 := HP.out W0 (h9.out.1.keeps k0 id) (h9.out.2.keeps k0 (fun _ q => q.elim))
        have HK := hide (And.intro k0 hg)
        clear c45 hg hz k0 h9
        go_upto_region 4 with (go_at_call 100; (with_reducible refine (hIs _).mono ?_); rintro e w9 ⟨rfl, rfl⟩)
        clear hIs hk c4 c5
        go_wp2_with fail
        refine hP0.mono ?_
        rintro e w2 ⟨rfl, h5, k5⟩
        exact ⟨rfl, rfl, h5, (HK.out.1.mono (S1 := fun i => i = b) (fun _ _ q => q.elim)).trans k5 (fun _ _ q => q)⟩
      | ok x ts2 =>
        rw [hR] at HP
        show Calls Tryd.prog 123 #[.pointer (some ⟨b, 0, none⟩)] w fun e w' => ∃ v, e = .returned v ∧ ExG w.heap.size x v w' ∧ AdvP w b T ts2 w'
        clear hU hP hD hR h E hb e
        generalize hQ : (fun e w' => ∃ v, e = .returned v ∧ ExG w.heap.size x v w' ∧ AdvP w b T ts2 w' : Ending → World → Prop) = Q
        replace hQ := hide hQ
        go_enter Tryd.func123, Tryd.ntmps123
        go_upto_region 1 with fail
        refine alloc1 (P := fun W => Code.wp _ _ _ _ W) fun W0 hg hz k0 => ?_
        obtain ⟨c4, c5⟩ := c45 W0 k0
        have hP0 := HP.out W0 (h9.out.1.keeps k0 id) (h9.out.2.keeps k0 (fun _ q => q.elim))
        have HK := hide (And.intro k0 hg)
        clear c45 hg hz k0 h9
        go_upto_region 4 with (go_at_call 100; (with_reducible refine (hIs _).mono ?_); rintro e w9 ⟨rfl, rfl⟩)
        clear hIs hk c4 c5
        go_wp2_with fail
        refine hP0.mono ?_
        rintro e w2 ⟨v, rfl, ⟨cs, hv, hx⟩, hA2⟩
        have HX := hide hx
        cases hx with
        | mk harg =>
        rename_i k' n' nm op args sv
        obtain ⟨sp, sm, sc, rfl⟩ := harg.form
        replace hv : v = .agg #[.int .i64 k', .int .i64 n', .string (sB nm), .string (sB op), .slice sp sm sc] := hv
        subst hv
        have HA2 := hide hA2
        have hgX : Xc w2 w.heap.size (.int .i64 0) (.int .i64 0) (.string ⟨#[]⟩) (.string ⟨#[]⟩) (.slice none 0 0) := by
          obtain ⟨k0, hg⟩ := HK.out
          have hl : w.heap.size ≠ b := fun q => by have := hbw.out; omega
          exact (hA2.2.2.block _ (heap_lt hg) (fun q => hl q)).trans hg
        obtain ⟨⟨c0, c1, c2, c3, c4⟩, f0, f1, f2, f3, f4⟩ := hgX.cells
        have HgX := hide hgX
        have hs1 := hide (show w.heap.size < _ from heap_lt HK.out.2)
        clear hP0 harg hA2 hgX
        generalize hgz : w.heap.size = g at *
        replace hgz := hide hgz
        go_wp2_with fail
        refine set5 (P := fun W => bodyPost _ _ _ _ _ W) HgX.out fun W5 h11 k11 => ?_
        obtain ⟨⟨q0, q1, q2, q3, q4⟩, -⟩ := h11.cells
        refine bodyPost_ret (v := .agg #[.int .i64 k', .int .i64 n', .string (sB nm), .string (sB op), .slice sp sm sc]) (by simp [results, Tryd.results123, go_sem, q0, q1, q2, q3, q4]) rfl ?_
        rw [← hQ.out]
        obtain ⟨k0, hg⟩ := HK.out
        have hgs := hgz.out
        have hg1 := hs1.out
        have kk : Keeps w W5 (fun i => i = b) := ((k0.mono (S1 := fun i => i = b) (fun _ _ q => q.elim)).trans HA2.out.2.2 (fun _ _ q => q)).trans k11 (fun i hi q => by subst q; omega)
        have hbg : ¬ b = g := fun q => by have := hbw.out; omega
        have hx5 := (HX.out.keeps k11 (fun i hi q => by have : _ ≤ i := hi; omega)).mono (P' := fun i => g ≤ i) (fun i hi => by have : _ ≤ i := hi; show _ ≤ _; omega)
        refine ⟨_, rfl, ⟨_, rfl, hx5⟩, HA2.out.1.keeps k11 hbg, ?_, kk⟩
        exact HA2.out.2.1.keeps k11 (fun i q => by subst q; have h9 := HA2.out.2.1.hi; unfold Hi at h9 ⊢; have := hbw.out; omega)
    | false =>
      rw [hk4] at hk
      replace hIs : ∀ W : World, Calls Tryd.prog 100 #[.string (sB t.text)] W (fun e w' => e = e) ∨ True := fun _ => Or.inr trivial
      clear hk4
      cases hR : primD n (t :: rest) with
      | out => exact absurd hR hD
      | no l er =>
        rw [hR] at HP
        show Calls Tryd.prog 123 #[.pointer (some ⟨b, 0, none⟩)] w fun e w' => e = thrown l er ∧ Ev w' b T ∧ Keeps w w' (fun i => i = b)
        clear hU hP hD hR h E hb e
        go_enter Tryd.func123, Tryd.ntmps123
        go_upto_region 1 with fail
        refine alloc1 (P := fun W => Code.wp _ _ _ _ W) fun W0 hg hz k0 => ?_
        obtain ⟨c4, c5⟩ := c45 W0 k0
        have hP0 := HP.out W0 (h9.out.1.keeps k0 id) (h9.out.2.keeps k0 (fun _ q => q.elim))
        have HK := hide (And.intro k0 hg)
        clear c45 hg hz k0 h9
        go_upto_region 4 with fail
        clear hIs hk c4 c5
        go_wp2_with fail
        refine hP0.mono ?_
        rintro e w2 ⟨rfl, h5, k5⟩
        exact ⟨rfl, rfl, h5, (HK.out.1.mono (S1 := fun i => i = b) (fun _ _ q => q.elim)).trans k5 (fun _ _ q => q)⟩
      | ok x ts2 =>
        rw [hR] at HP
        show Calls Tryd.prog 123 #[.pointer (some ⟨b, 0, none⟩)] w fun e w' => ∃ v, e = .returned v ∧ ExG w.heap.size x v w' ∧ AdvP w b T ts2 w'
        clear hU hP hD hR h E hb e
        generalize hQ : (fun e w' => ∃ v, e = .returned v ∧ ExG w.heap.size x v w' ∧ AdvP w b T ts2 w' : Ending → World → Prop) = Q
        replace hQ := hide hQ
        go_enter Tryd.func123, Tryd.ntmps123
        go_upto_region 1 with fail
        refine alloc1 (P := fun W => Code.wp _ _ _ _ W) fun W0 hg hz k0 => ?_
        obtain ⟨c4, c5⟩ := c45 W0 k0
        have hP0 := HP.out W0 (h9.out.1.keeps k0 id) (h9.out.2.keeps k0 (fun _ q => q.elim))
        have HK := hide (And.intro k0 hg)
        clear c45 hg hz k0 h9
        go_upto_region 4 with fail
        clear hIs hk c4 c5
        go_wp2_with fail
        refine hP0.mono ?_
        rintro e w2 ⟨v, rfl, ⟨cs, hv, hx⟩, hA2⟩
        have HX := hide hx
        cases hx with
        | mk harg =>
        rename_i k' n' nm op args sv
        obtain ⟨sp, sm, sc, rfl⟩ := harg.form
        replace hv : v = .agg #[.int .i64 k', .int .i64 n', .string (sB nm), .string (sB op), .slice sp sm sc] := hv
        subst hv
        have HA2 := hide hA2
        have hgX : Xc w2 w.heap.size (.int .i64 0) (.int .i64 0) (.string ⟨#[]⟩) (.string ⟨#[]⟩) (.slice none 0 0) := by
          obtain ⟨k0, hg⟩ := HK.out
          have hl : w.heap.size ≠ b := fun q => by have := hbw.out; omega
          exact (hA2.2.2.block _ (heap_lt hg) (fun q => hl q)).trans hg
        obtain ⟨⟨c0, c1, c2, c3, c4⟩, f0, f1, f2, f3, f4⟩ := hgX.cells
        have HgX := hide hgX
        have hs1 := hide (show w.heap.size < _ from heap_lt HK.out.2)
        clear hP0 harg hA2 hgX
        generalize hgz : w.heap.size = g at *
        replace hgz := hide hgz
        go_wp2_with fail
        refine set5 (P := fun W => bodyPost _ _ _ _ _ W) HgX.out fun W5 h11 k11 => ?_
        obtain ⟨⟨q0, q1, q2, q3, q4⟩, -⟩ := h11.cells
        refine bodyPost_ret (v := .agg #[.int .i64 k', .int .i64 n', .string (sB nm), .string (sB op), .slice sp sm sc]) (by simp [results, Tryd.results123, go_sem, q0, q1, q2, q3, q4]) rfl ?_
        rw [← hQ.out]
        obtain ⟨k0, hg⟩ := HK.out
        have hgs := hgz.out
        have hg1 := hs1.out
        have kk : Keeps w W5 (fun i => i = b) := ((k0.mono (S1 := fun i => i = b) (fun _ _ q => q.elim)).trans HA2.out.2.2 (fun _ _ q => q)).trans k11 (fun i hi q => by subst q; omega)
        have hbg : ¬ b = g := fun q => by have := hbw.out; omega
        have hx5 := (HX.out.keeps k11 (fun i hi q => by have : _ ≤ i := hi; omega)).mono (P' := fun i => g ≤ i) (fun i hi => by have : _ ≤ i := hi; show _ ≤ _; omega)
        refine ⟨_, rfl, ⟨_, rfl, hx5⟩, HA2.out.1.keeps k11 hbg, ?_, kk⟩
        exact HA2.out.2.1.keeps k11 (fun i q => by subst q; have h9 := HA2.out.2.1.hi; unfold Hi at h9 ⊢; have := hbw.out; omega)
end Lg
end Go.Proofs.YtlpfnikhnchpdaaDoor
/-
  lang: expr; key, a step of it. (Made by genLGH.py.)
-/
namespace Go.Proofs.YtlpfnikhnchpdaaDoor
namespace Lg
open Go.RowKit
set_option linter.unusedVariables false
/-- A result's block is written last: what the call comes to. -/
theorem res_done {w W W5 : World} {b g : Nat} {P : Nat → Prop} {T : Bs} {ts2 : List Tk} {x : Ex} {cs : List Value} {v : Value} (hv : v = .agg cs.toArray) (hgz : w.heap.size = g) (kw : Keeps w W (fun i => i = b)) (hX : ExC W P x cs) (hB : ∀ i, P i → g < i) (hA : RAt W b T ts2) (hE : Ev W b T) (hb : b < g) (k11 : Keeps W W5 (fun i => i = g)) :
    ∃ v', Ending.returned v = .returned v' ∧ ExG g x v' W5 ∧ AdvP w b T ts2 W5 := by
  have hbg : ¬ b = g := by omega
  have hx5 := (hX.keeps k11 (fun i hi q => by have := hB i hi; omega)).mono (P' := fun i => g ≤ i) (fun i hi => Nat.le_of_lt (hB i hi))
  refine ⟨_, rfl, ⟨cs, hv, hx5⟩, hA.keeps k11 hbg, ?_, kw.trans k11 (fun i hi q => by subst q; omega)⟩
  exact hE.keeps k11 (fun i q => by subst q; have h9 := hE.hi; unfold Hi at h9 ⊢; omega)
theorem kF {w W : World} (k : Keeps w W (fun _ => False)) (b : Nat) : Keeps w W (fun i => i = b) := k.mono (fun _ _ q => q.elim)
theorem Xc.keeps {w W : World} {g : Nat} {x y z u v : Value} (h : Xc w g x y z u v) {S : Nat → Prop} (k : Keeps w W S) (hS : ¬ S g) : Xc W g x y z u v := (k.block g (heap_lt h) hS).trans h
theorem Ev.keepsAt {w w' : World} {b g : Nat} {T : Bs} (h : Ev w b T) (k : Keeps w w' (fun i => i = g)) (hb : b ≤ g) : Ev w' b T :=
  h.keeps k (fun i q => by subst q; have h9 := h.hi; unfold Hi at h9 ⊢; omega)
abbrev X0 (w : World) (g : Nat) : Prop := Xc w g (.int .i64 0) (.int .i64 0) (.string ⟨#[]⟩) (.string ⟨#[]⟩) (.slice none 0 0)

set_option maxRecDepth 100000 in
set_option maxHeartbeats 2000000 in
theorem expr_step {b : Nat} {T : Bs} {n : Nat} (hJ : Reads 115 #[.pointer (some ⟨b, 0, none⟩), .int .i64 1] b T (joinedD n 1)) : Reads 90 #[.pointer (some ⟨b, 0, none⟩)] b T (joinedD n 1) := by
  intro w ts h E hD
  have hbw := hide h.lt
  have HJ := hide hJ
  have HI := hide (And.intro h E)
  clear hJ h E
  cases hR : joinedD n 1 ts with
  | out => exact absurd hR hD
  | no l er =>
    have HD := hide hD
    show Calls Tryd.prog 90 #[.pointer (some ⟨b, 0, none⟩)] w fun e w' => e = thrown l er ∧ Ev w' b T ∧ Keeps w w' (fun i => i = b)
    have HR := hide hR
    clear hR hD
    go_enter Tryd.func90, Tryd.ntmps90
    go_upto_region 1 with fail
    refine alloc1 (P := fun W => Code.wp _ _ _ _ W) fun W0 hg hz k0 => ?_
    have hc := HJ.out W0 ts (HI.out.1.keeps k0 id) (HI.out.2.keeps k0 (fun _ q => q.elim)) HD.out
    rw [HR.out] at hc
    have HK := hide k0
    clear hg hz k0
    go_wp2_with fail
    refine hc.mono ?_
    rintro e w2 ⟨rfl, h5, k5⟩
    exact ⟨rfl, rfl, h5, (kF HK.out b).trans k5 (fun _ _ q => q)⟩
  | ok x ts2 =>
    have HD := hide hD
    show Calls Tryd.prog 90 #[.pointer (some ⟨b, 0, none⟩)] w fun e w' => ∃ v, e = .returned v ∧ ExG w.heap.size x v w' ∧ AdvP w b T ts2 w'
    generalize hQ : (fun e w' => ∃ v, e = .returned v ∧ ExG w.heap.size x v w' ∧ AdvP w b T ts2 w' : Ending → World → Prop) = Q
    replace hQ := hide hQ
    have HR := hide hR
    clear hR hD
    go_enter Tryd.func90, Tryd.ntmps90
    go_upto_region 1 with fail
    refine alloc1 (P := fun W => Code.wp _ _ _ _ W) fun W0 hg hz k0 => ?_
    have hc := HJ.out W0 ts (HI.out.1.keeps k0 id) (HI.out.2.keeps k0 (fun _ q => q.elim)) HD.out
    rw [HR.out] at hc
    have hg0 : X0 W0 w.heap.size := hg
    have HK := hide (And.intro k0 (And.intro hg0 (show W0.heap.size = w.heap.size + 1 from hz)))
    clear hg hz k0 hg0
    go_wp2_with fail
    refine hc.mono ?_
    rintro e w2 ⟨v, rfl, ⟨cs, hv, hx⟩, hA2⟩
    have HX := hide hx
    cases hx with
    | mk harg =>
    rename_i k' n' nm op args sv
    obtain ⟨sp, sm, sc, rfl⟩ := harg.form
    replace hv : v = .agg #[.int .i64 k', .int .i64 n', .string (sB nm), .string (sB op), .slice sp sm sc] := hv
    subst hv
    have hl : ¬ w.heap.size = b := fun q => by have := hbw.out; omega
    have hgX := HK.out.2.1.keeps hA2.2.2 hl
    obtain ⟨⟨c0, c1, c2, c3, c4⟩, f0, f1, f2, f3, f4⟩ := hgX.cells
    have HA2 := hide (And.intro hA2 hgX)
    clear hc harg hA2 hgX hl
    generalize hgz : w.heap.size = g at *
    replace hgz := hide hgz
    go_wp2_with fail
    refine set5 (P := fun W => bodyPost _ _ _ _ _ W) HA2.out.2 fun W5 h11 k11 => ?_
    obtain ⟨⟨q0, q1, q2, q3, q4⟩, -⟩ := h11.cells
    refine bodyPost_ret (v := .agg #[.int .i64 k', .int .i64 n', .string (sB nm), .string (sB op), .slice sp sm sc]) (by simp [results, Tryd.results90, go_sem, q0, q1, q2, q3, q4]) rfl ?_
    rw [← hQ.out]
    exact res_done rfl hgz.out ((kF HK.out.1 b).trans HA2.out.1.2.2 (fun _ _ q => q)) HX.out (fun i hi => by have : _ ≤ i := hi; have := HK.out.2.2; omega) HA2.out.1.1 HA2.out.1.2.1 hbw.out k11
end Lg
end Go.Proofs.YtlpfnikhnchpdaaDoor
/-
  lang: key, a step of it: UNDER WAY. (Made by genLGH.py.)
-/
namespace Go.Proofs.YtlpfnikhnchpdaaDoor
namespace Lg
open Go.RowKit
set_option linter.unusedVariables false

set_option maxRecDepth 100000 in
set_option maxHeartbeats 4000000 in
theorem key_step {b : Nat} {T : Bs} {n : Nat} (hJ : Reads 90 #[.pointer (some ⟨b, 0, none⟩)] b T (joinedD n 1)) : Reads 116 #[.pointer (some ⟨b, 0, none⟩)] b T (keyD (n + 1)) := by
  intro w ts h E hD
  have hbw := hide h.lt
  have HJ := hide hJ
  have HI := hide (And.intro h E)
  have HM : Hid (∀ (f : Bs) (W : World) (ts : List Tk), RAt W b T ts → Ev W b T → Calls Tryd.prog 66 #[.pointer (some ⟨b, 0, none⟩), .string (sB f)] W (Part W b T (mustD f ts) fun _ v _ => v = .tuple #[])) := fun f W ts h E => must_any h E f
  clear hJ h E
  have e : keyD (n + 1) ts = (mustD kLb ts).bind fun _ ts2 => (joinedD n 1 ts2).bind fun x ts3 => (mustD kRb ts3).bind fun _ ts4 => .ok x ts4 := by rw [keyD]
  rw [e] at hD ⊢
  clear e
  cases hR1 : mustD kLb ts with
  | out => rw [hR1] at hD; exact absurd rfl hD
  | no l er =>
    have HR1 := hide hR1
    clear hR1 hD
    show Calls Tryd.prog 116 #[.pointer (some ⟨b, 0, none⟩)] w fun e w' => e = thrown l er ∧ Ev w' b T ∧ Keeps w w' (fun i => i = b)
    go_enter Tryd.func116, Tryd.ntmps116
    go_upto_region 1 with fail
    refine alloc1 (P := fun W => Code.wp _ _ _ _ W) fun W0 hg hz k0 => ?_
    have hm : Calls Tryd.prog 66 #[.pointer (some ⟨b, 0, none⟩), .string ⟨#[91]⟩] W0 (Part W0 b T (mustD kLb ts) fun _ v _ => v = .tuple #[]) := HM.out kLb W0 ts (HI.out.1.keeps k0 id) (HI.out.2.keeps k0 (fun _ q => q.elim))
    rw [HR1.out] at hm
    have hg0 : X0 W0 w.heap.size := hg
    have HK := hide (And.intro k0 (And.intro hg0 (show W0.heap.size = w.heap.size + 1 from hz)))
    clear hg hz k0 hg0
    go_wp2_with fail
    refine hm.mono ?_
    rintro e w9 ⟨rfl, h5, k5⟩
    exact ⟨rfl, rfl, h5, (kF HK.out.1 b).trans k5 (fun _ _ q => q)⟩
  | ok u ts2 =>
    rw [hR1] at hD
    have HR1 := hide hR1
    clear hR1
    have hD2 : joinedD n 1 ts2 ≠ .out := fun q => hD (by show (joinedD n 1 ts2).bind _ = _; rw [q]; rfl)
    have HD := hide hD2
    cases hR2 : joinedD n 1 ts2 with
    | out => exact absurd hR2 hD2
    | no l er =>
      have HR2 := hide hR2
      clear hR2 hD hD2
      show Calls Tryd.prog 116 #[.pointer (some ⟨b, 0, none⟩)] w (Part w b T ((joinedD n 1 ts2).bind fun x ts3 => (mustD kRb ts3).bind fun _ ts4 => .ok x ts4) (ExG w.heap.size))
      rw [HR2.out]
      show Calls Tryd.prog 116 #[.pointer (some ⟨b, 0, none⟩)] w fun e w' => e = thrown l er ∧ Ev w' b T ∧ Keeps w w' (fun i => i = b)
      go_enter Tryd.func116, Tryd.ntmps116
      go_upto_region 1 with fail
      refine alloc1 (P := fun W => Code.wp _ _ _ _ W) fun W0 hg hz k0 => ?_
      have hm : Calls Tryd.prog 66 #[.pointer (some ⟨b, 0, none⟩), .string ⟨#[91]⟩] W0 (Part W0 b T (mustD kLb ts) fun _ v _ => v = .tuple #[]) := HM.out kLb W0 ts (HI.out.1.keeps k0 id) (HI.out.2.keeps k0 (fun _ q => q.elim))
      rw [HR1.out] at hm
      have hg0 : X0 W0 w.heap.size := hg
      have HK := hide (And.intro k0 (And.intro hg0 (show W0.heap.size = w.heap.size + 1 from hz)))
      clear hg hz k0 hg0
      go_upto_region 2 with (go_at_call 66; (with_reducible refine hm.mono ?_); rintro e w1 ⟨v1, rfl, rfl, hA1⟩)
      have hc := HJ.out w1 ts2 hA1.1 hA1.2.1 HD.out
      rw [HR2.out] at hc
      have HA1 := hide hA1
      clear hm hA1
      go_wp2_with fail
      refine hc.mono ?_
      rintro e w9 ⟨rfl, h5, k5⟩
      exact ⟨rfl, rfl, h5, (kF HK.out.1 b).trans (HA1.out.2.2.trans k5 (fun _ _ q => q)) (fun _ _ q => q)⟩
    | ok x ts3 =>
      have HR2 := hide hR2
      clear hD hD2
      show Calls Tryd.prog 116 #[.pointer (some ⟨b, 0, none⟩)] w (Part w b T ((joinedD n 1 ts2).bind fun x ts3 => (mustD kRb ts3).bind fun _ ts4 => .ok x ts4) (ExG w.heap.size))
      rw [hR2]
      clear hR2
      cases hR3 : mustD kRb ts3 with
      | out => exact absurd hR3 (by unfold mustD; split <;> exact fun q => nomatch q)
      | no l er =>
        have HR3 := hide hR3
        show Calls Tryd.prog 116 #[.pointer (some ⟨b, 0, none⟩)] w (Part w b T ((mustD kRb ts3).bind fun _ ts4 => .ok x ts4) (ExG w.heap.size))
        rw [hR3]
        clear hR3
        show Calls Tryd.prog 116 #[.pointer (some ⟨b, 0, none⟩)] w fun e w' => e = thrown l er ∧ Ev w' b T ∧ Keeps w w' (fun i => i = b)
        go_enter Tryd.func116, Tryd.ntmps116
        go_upto_region 1 with fail
        refine alloc1 (P := fun W => Code.wp _ _ _ _ W) fun W0 hg hz k0 => ?_
        have hm : Calls Tryd.prog 66 #[.pointer (some ⟨b, 0, none⟩), .string ⟨#[91]⟩] W0 (Part W0 b T (mustD kLb ts) fun _ v _ => v = .tuple #[]) := HM.out kLb W0 ts (HI.out.1.keeps k0 id) (HI.out.2.keeps k0 (fun _ q => q.elim))
        rw [HR1.out] at hm
        have hg0 : X0 W0 w.heap.size := hg
        have HK := hide (And.intro k0 (And.intro hg0 (show W0.heap.size = w.heap.size + 1 from hz)))
        clear hg hz k0 hg0
        go_upto_region 2 with (go_at_call 66; (with_reducible refine hm.mono ?_); rintro e w1 ⟨v1, rfl, rfl, hA1⟩)
        have hc := HJ.out w1 ts2 hA1.1 hA1.2.1 HD.out
        rw [HR2.out] at hc
        have HA1 := hide hA1
        clear hm hA1
        go_wp2_with fail
        refine hc.mono ?_
        rintro e w2 ⟨v, rfl, ⟨cs, hv, hx⟩, hA2⟩
        have HX := hide hx
        cases hx with
        | mk harg =>
        rename_i k' n' nm op args sv
        obtain ⟨sp, sm, sc, rfl⟩ := harg.form
        replace hv : v = .agg #[.int .i64 k', .int .i64 n', .string (sB nm), .string (sB op), .slice sp sm sc] := hv
        subst hv
        have HA2 := hide hA2
        clear hc harg hA2
        go_upto_region 3 with fail
        refine alloc1 (P := fun W => Code.wp _ _ _ _ W) fun W3 h3 hz3 k23 => ?_
        replace h3 : Xc W3 w2.heap.size (.int .i64 k') (.int .i64 n') (.string (sB nm)) (.string (sB op)) (.slice sp sm sc) := h3
        have hbs := hbw.out
        have hs1 := HA1.out.2.2.size
        have hs2 := HA2.out.2.2.size
        have hz0 := HK.out.2.2
        have hm2 : Calls Tryd.prog 66 #[.pointer (some ⟨b, 0, none⟩), .string ⟨#[93]⟩] W3 (Part W3 b T (mustD kRb ts3) fun _ v _ => v = .tuple #[]) := HM.out kRb W3 ts3 (HA2.out.1.keeps k23 id) (HA2.out.2.1.keeps k23 (fun _ q => q.elim))
        rw [HR3.out] at hm2
        have kw3 : Keeps w W3 (fun i => i = b) := ((kF HK.out.1 b).trans (HA1.out.2.2.trans HA2.out.2.2 (fun _ _ q => q)) (fun _ _ q => q)).trans (kF k23 b) (fun _ _ q => q)
        have hg3 : X0 W3 w.heap.size := ((HK.out.2.1.keeps HA1.out.2.2 (fun q => by omega)).keeps HA2.out.2.2 (fun q => by omega)).keeps k23 id
        have HX3 := hide (HX.out.keeps k23 (fun _ _ q => q))
        go_wp2_with fail
        refine hm2.mono ?_
        rintro e w9 ⟨rfl, h5, k5⟩
        exact ⟨rfl, rfl, h5, kw3.trans k5 (fun _ _ q => q)⟩
      | ok u2 ts4 =>
        have HR3 := hide hR3
        show Calls Tryd.prog 116 #[.pointer (some ⟨b, 0, none⟩)] w (Part w b T ((mustD kRb ts3).bind fun _ ts4 => .ok x ts4) (ExG w.heap.size))
        rw [hR3]
        clear hR3
        show Calls Tryd.prog 116 #[.pointer (some ⟨b, 0, none⟩)] w fun e w' => ∃ v, e = .returned v ∧ ExG w.heap.size x v w' ∧ AdvP w b T ts4 w'
        generalize hQ : (fun e w' => ∃ v, e = .returned v ∧ ExG w.heap.size x v w' ∧ AdvP w b T ts4 w' : Ending → World → Prop) = Q
        replace hQ := hide hQ
        go_enter Tryd.func116, Tryd.ntmps116
        go_upto_region 1 with fail
        refine alloc1 (P := fun W => Code.wp _ _ _ _ W) fun W0 hg hz k0 => ?_
        have hm : Calls Tryd.prog 66 #[.pointer (some ⟨b, 0, none⟩), .string ⟨#[91]⟩] W0 (Part W0 b T (mustD kLb ts) fun _ v _ => v = .tuple #[]) := HM.out kLb W0 ts (HI.out.1.keeps k0 id) (HI.out.2.keeps k0 (fun _ q => q.elim))
        rw [HR1.out] at hm
        have hg0 : X0 W0 w.heap.size := hg
        have HK := hide (And.intro k0 (And.intro hg0 (show W0.heap.size = w.heap.size + 1 from hz)))
        clear hg hz k0 hg0
        go_upto_region 2 with (go_at_call 66; (with_reducible refine hm.mono ?_); rintro e w1 ⟨v1, rfl, rfl, hA1⟩)
        have hc := HJ.out w1 ts2 hA1.1 hA1.2.1 HD.out
        rw [HR2.out] at hc
        have HA1 := hide hA1
        clear hm hA1
        go_wp2_with fail
        refine hc.mono ?_
        rintro e w2 ⟨v, rfl, ⟨cs, hv, hx⟩, hA2⟩
        have HX := hide hx
        cases hx with
        | mk harg =>
        rename_i k' n' nm op args sv
        obtain ⟨sp, sm, sc, rfl⟩ := harg.form
        replace hv : v = .agg #[.int .i64 k', .int .i64 n', .string (sB nm), .string (sB op), .slice sp sm sc] := hv
        subst hv
        have HA2 := hide hA2
        clear hc harg hA2
        go_upto_region 3 with fail
        refine alloc1 (P := fun W => Code.wp _ _ _ _ W) fun W3 h3 hz3 k23 => ?_
        replace h3 : Xc W3 w2.heap.size (.int .i64 k') (.int .i64 n') (.string (sB nm)) (.string (sB op)) (.slice sp sm sc) := h3
        have hbs := hbw.out
        have hs1 := HA1.out.2.2.size
        have hs2 := HA2.out.2.2.size
        have hz0 := HK.out.2.2
        have hm2 : Calls Tryd.prog 66 #[.pointer (some ⟨b, 0, none⟩), .string ⟨#[93]⟩] W3 (Part W3 b T (mustD kRb ts3) fun _ v _ => v = .tuple #[]) := HM.out kRb W3 ts3 (HA2.out.1.keeps k23 id) (HA2.out.2.1.keeps k23 (fun _ q => q.elim))
        rw [HR3.out] at hm2
        have kw3 : Keeps w W3 (fun i => i = b) := ((kF HK.out.1 b).trans (HA1.out.2.2.trans HA2.out.2.2 (fun _ _ q => q)) (fun _ _ q => q)).trans (kF k23 b) (fun _ _ q => q)
        have hg3 : X0 W3 w.heap.size := ((HK.out.2.1.keeps HA1.out.2.2 (fun q => by omega)).keeps HA2.out.2.2 (fun q => by omega)).keeps k23 id
        have HX3 := hide (HX.out.keeps k23 (fun _ _ q => q))
        have H3 := hide (And.intro kw3 (And.intro hg3 h3))
        clear kw3 hg3 h3 k23 hz3
        go_upto_region 4 with (go_at_call 66; (with_reducible refine hm2.mono ?_); rintro e w4 ⟨v4, rfl, rfl, hA4⟩)
        have hg4 : X0 w4 w.heap.size := H3.out.2.1.keeps hA4.2.2 (fun q => by omega)
        have hr4 := H3.out.2.2.keeps hA4.2.2 (fun q => by omega)
        obtain ⟨⟨c0, c1, c2, c3, c4⟩, f0, f1, f2, f3, f4⟩ := hg4.cells
        obtain ⟨⟨d0, d1, d2, d3, d4⟩, -⟩ := hr4.cells
        have HX4 := hide (HX3.out.keeps hA4.2.2 (fun i hi q => by have : _ ≤ i := hi; omega))
        have H4 := hide (And.intro hA4 (And.intro hg4 hs1))
        clear hA4 hg4 hr4 hm2 hs1 hs2
        generalize hgz : w.heap.size = g at *
        replace hgz := hide hgz
        go_wp2_with fail
        refine set5 (P := fun W => bodyPost _ _ _ _ _ W) H4.out.2.1 fun W5 h11 k11 => ?_
        obtain ⟨⟨q0, q1, q2, q3, q4⟩, -⟩ := h11.cells
        refine bodyPost_ret (v := .agg #[.int .i64 k', .int .i64 n', .string (sB nm), .string (sB op), .slice sp sm sc]) (by simp [results, Tryd.results116, go_sem, q0, q1, q2, q3, q4]) rfl ?_
        rw [← hQ.out]
        exact res_done rfl hgz.out (H3.out.1.trans H4.out.1.2.2 (fun _ _ q => q)) HX4.out (fun i hi => by have : _ ≤ i := hi; have := H4.out.2.2; omega) H4.out.1.1 H4.out.1.2.1 hbw.out k11
end Lg
end Go.Proofs.YtlpfnikhnchpdaaDoor
