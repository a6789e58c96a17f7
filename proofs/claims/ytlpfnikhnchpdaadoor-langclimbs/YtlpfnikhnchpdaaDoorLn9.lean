import Derived.Test.YtlpfnikhnchpdaaDoorLn8
/-
  lang: ifStmt. (Made by genLGY.py.)
-/
namespace Go.Proofs.YtlpfnikhnchpdaaDoor
namespace Lg
open Go.RowKit
set_option linter.unusedVariables false
theorem heap_new2 (w : World) (a b : Obj) : ((w.alloc a).alloc b).heap[w.heap.size + 1]? = some b := by
  have q := heap_alloc_new (w.alloc a) b
  have e : (w.alloc a).heap.size = w.heap.size + 1 := by simp
  rw [e] at q
  exact q
theorem heap_old2 (w : World) (a b : Obj) : ((w.alloc a).alloc b).heap[w.heap.size]? = some a :=
  (((Keeps.refl (w.alloc a) (fun _ => False)).alloc b).block _ (heap_lt (heap_alloc_new w a)) id).trans (heap_alloc_new w a)
theorem keepsW_step {W W' : World} {o : Obj} {S : Nat → Prop} (h : Keeps W W' S) : Keeps W (W'.alloc o) S := h.alloc o
theorem keepsW_drew {W W' : World} {S : Nat → Prop} (h : Keeps W W' S) : Keeps W W'.drew S := h.drew
/-- An if behind its Body. -/
structure IfT (w : World) (b : Nat) (T : Bs) (x : Ex) (bl : List St) (ts3 : List Tk) (gs ga : Nat) (bv : Value) (W : World) : Prop where
  at_ : AtS w w.heap.size b T ts3 W
  sc : Sc W gs (.int .i64 6) (.string ⟨#[]⟩) (.string ⟨#[]⟩) (.string ⟨#[]⟩) (.slice (some ⟨ga, 0, none⟩) 1 1) bv (.slice none 0 0)
  lt : w.heap.size < gs
  ex : ArgsV W (fun i => w.heap.size < i ∧ i ≠ gs) [x] (.slice (some ⟨ga, 0, none⟩) 1 1)
  st : StsV W (fun i => w.heap.size < i ∧ i ≠ gs) bl bv
theorem alloc2v {w : World} {o1 o2 : Obj} {P : World → Prop} (h : ∀ W0, W0.heap[w.heap.size]? = some o1 → W0.heap[w.heap.size + 1]? = some o2 → Keeps w W0 (fun _ => False) → P W0) : P ((w.alloc o1).alloc o2) :=
  h _ (heap_old2 w o1 o2) (heap_new2 w o1 o2) (((Keeps.refl _ _).alloc _).alloc _)
theorem IfT.mk' {w Wp W9 : World} {b gs ga : Nat} {T : Bs} {x : Ex} {bl : List St} {ts3 : List Tk} {bv : Value} {P1 P2 : Nat → Prop} {cs : List Value} (hA : AtS w w.heap.size b T ts3 Wp) (hg1 : w.heap.size < gs) (hb : b < w.heap.size)
    (hn9 : W9.heap[ga]? = some (.cells cs.toArray 42)) (hne : ¬ ga = gs) (hg2 : w.heap.size < ga) (hX : ExC Wp P1 x cs) (h1 : ∀ i, P1 i → w.heap.size < i ∧ i ≠ gs) (hB : StsV Wp P2 bl bv) (h2 : ∀ i, P2 i → w.heap.size < i ∧ i ≠ gs)
    (k9 : Keeps Wp W9 (fun i => i = gs)) (h9 : Sc W9 gs (.int .i64 6) (.string ⟨#[]⟩) (.string ⟨#[]⟩) (.string ⟨#[]⟩) (.slice (some ⟨ga, 0, none⟩) 1 1) bv (.slice none 0 0)) : IfT w b T x bl ts3 gs ga bv W9 := by
  refine ⟨hA.own k9 (Nat.le_of_lt hg1) hb (by omega), h9, hg1, ?_, ?_⟩
  · have hr : W9.rangeAt ga 0 cs := by
      have := range_blk hn9
      simpa using this
    have hxs : ExsC W9 (fun i => w.heap.size < i ∧ i ≠ gs) [x] (cs ++ []) := ExsC.cons ((hX.keeps k9 (fun i hi q => (h1 i hi).2 q)).mono h1) ExsC.nil
    rw [List.append_nil] at hxs
    exact ArgsV.some (args := [_]) ⟨hg2, hne⟩ (heap_lt hn9) (Nat.le_refl _) hr hxs
  · exact StsV.mono h2 (StsV.keeps k9 (fun i hi q => (h2 i hi).2 q) hB)

set_option maxRecDepth 100000 in
set_option maxHeartbeats 4000000 in
theorem ifStmt_step {b : Nat} {T : Bs} {n : Nat} (hI : ReadsG 89 #[.pointer (some ⟨b, 0, none⟩)] b T (ifD n) StG) (hX : Reads 90 #[.pointer (some ⟨b, 0, none⟩)] b T (joinedD n 1)) (hB : ReadsG 91 #[.pointer (some ⟨b, 0, none⟩)] b T (blockD n) StsG) : ReadsG 89 #[.pointer (some ⟨b, 0, none⟩)] b T (ifD (n + 1)) StG := by
  intro w ts h E hD
  have hbw := hide h.lt
  have hgb := hide (show ¬ w.heap.size = b from fun q => Nat.lt_irrefl _ (q ▸ h.lt))
  have HI := hide (And.intro h E)
  clear h E
  obtain ⟨R, hR⟩ : ∃ R, ifD (n + 1) ts = R := ⟨_, rfl⟩
  have HR : Hid (R = (mustD kIf ts).bind fun _ ts1 => (joinedD n 1 ts1).bind fun x ts2 => (blockD n ts2).bind fun b ts3 =>
      if isF kElse ts3 = true then
        (if isF kIf ts3.tail = true then (ifD n ts3.tail).bind fun s ts4 => .ok (.mk 6 [] [] [] [x] b [s]) ts4
        else (blockD n ts3.tail).bind fun e ts4 => .ok (.mk 6 [] [] [] [x] b e) ts4)
      else .ok (.mk 6 [] [] [] [x] b []) ts3) := hide (by rw [← hR]; first | rfl | (rw [ifD]; done) | (rw [ifD]; rfl))
  rw [hR] at hD ⊢
  have HRo := hide hD
  generalize hQ : Part w b T R (StG w.heap.size) = Q
  replace hQ := hide hQ
  clear hR hD
  have HIf := hide hI
  have HEx := hide hX
  have HBk := hide hB
  clear hI hX hB
  go_enter Tryd.func89, Tryd.ntmps89
  go_upto_region 1 with fail
  refine alloc1 (P := fun W => Code.wp _ _ _ _ W) fun W0 hg hz k0 => ?_
  have HA : Hid (AtS w w.heap.size b T ts W0) := hide ⟨HI.out.1.keeps k0 id, HI.out.2.keeps k0 (fun _ q => q.elim), kF k0 b, hg⟩
  clear hg hz k0 HI
  have hc : Calls Tryd.prog 66 #[.pointer (some ⟨b, 0, none⟩), .string ⟨#[105, 102]⟩] _ (Part _ b T (mustD kIf (ts)) fun _ v _ => v = .tuple #[]) := must_any HA.out.1 HA.out.2.1 kIf
  cases hR1 : mustD kIf (ts) with
  | out => exact absurd hR1 (bind_out HR.out HRo.out)
  | no l er =>
    rw [hR1] at hc
    replace HR := hide (bind_no HR.out hR1)
    clear hR1
    go_wp2_with fail
    refine hc.mono ?_
    rintro e w9 ⟨rfl, h5, k5⟩
    refine ⟨rfl, ?_⟩
    rw [← hQ.out]
    exact part_no HR.out h5 HA.out.2.2.1 k5
  | ok u1 ts1 =>
    rw [hR1] at hc
    replace HR := hide (bind_ok HR.out hR1)
    clear hR1
    go_wp2_with fail
    refine hc.mono ?_
    rintro e wn1 ⟨v0, rfl, rfl, hA⟩
    replace HA := hide (HA.out.adv hA hgb.out)
    clear hc hA
    have hne2 : joinedD n 1 (ts1) ≠ .out := bind_out HR.out HRo.out
    have hc := HEx.out _ (ts1) HA.out.1 HA.out.2.1 hne2
    cases hR2 : joinedD n 1 (ts1) with
    | out => exact absurd hR2 (bind_out HR.out HRo.out)
    | no l er =>
      rw [hR2] at hc
      replace HR := hide (bind_no HR.out hR2)
      clear hR2 hne2
      go_wp2_with fail
      refine hc.mono ?_
      rintro e w9 ⟨rfl, h5, k5⟩
      refine ⟨rfl, ?_⟩
      rw [← hQ.out]
      exact part_no HR.out h5 HA.out.2.2.1 k5
    | ok x ts2 =>
      rw [hR2] at hc
      replace HR := hide (bind_ok HR.out hR2)
      clear hR2 hne2
      go_wp2_with fail
      have hg3 := hide HA.out.lt
      refine hc.mono ?_
      rintro e w2 ⟨v, rfl, ⟨cs, hv, hx⟩, hA⟩
      have HX := hide hx
      have hs3 := hide hA.2.2.size
      obtain ⟨k', n', nm, op, sp, sm, sc, rfl⟩ := hx.form
      replace hv : v = .agg #[.int .i64 k', .int .i64 n', .string (sB nm), .string (sB op), .slice sp sm sc] := hv
      subst hv
      replace HA := hide (HA.out.adv hA hgb.out)
      clear hc hA hx
      go_upto_region 3 with fail
      refine alloc1 (P := fun W => Code.wp _ _ _ _ W) fun W3 h3 hz3 k23 => ?_
      have hgx2 := hide (show w.heap.size < w2.heap.size from HA.out.lt)
      have hgx3 := hide (show W3.heap.size = w2.heap.size + 1 from hz3)
      have H3 : Hid (Xc W3 w2.heap.size (.int .i64 k') (.int .i64 n') (.string (sB nm)) (.string (sB op)) (.slice sp sm sc)) := hide h3
      have HX3 := hide (HX.out.under.keeps k23 (fun _ _ q => q))
      replace HA := hide (HA.out.new k23)
      clear h3 hz3 k23 HX
      generalize w2.heap.size = gx at *
      have hneB : blockD n ts2 ≠ .out := bind_out HR.out HRo.out
      have kD0 := hide ((Keeps.refl W3 (fun _ => False)).drew)
      have hcD0 := HBk.out _ ts2 (HA.out.new kD0.out).1 (HA.out.new kD0.out).2.1 hneB
      have kDX := hide (((Keeps.refl W3 (fun _ => False)).alloc (.cells #[.int .i64 k', .int .i64 n', .string (sB nm), .string (sB op), .slice sp sm sc] 42)).drew)
      have hcDX := HBk.out _ ts2 (HA.out.new kDX.out).1 (HA.out.new kDX.out).2.1 hneB
      have kDZ := hide (((Keeps.refl W3 (fun _ => False)).alloc (.cells #[.int .i64 0, .string ⟨#[]⟩, .string ⟨#[]⟩, .string ⟨#[]⟩, .slice none 0 0, .slice none 0 0, .slice none 0 0] 49)).drew)
      have hcDZ := HBk.out _ ts2 (HA.out.new kDZ.out).1 (HA.out.new kDZ.out).2.1 hneB
      have kDXZ := hide ((((Keeps.refl W3 (fun _ => False)).alloc (.cells #[.int .i64 k', .int .i64 n', .string (sB nm), .string (sB op), .slice sp sm sc] 42)).alloc (.cells #[.int .i64 0, .string ⟨#[]⟩, .string ⟨#[]⟩, .string ⟨#[]⟩, .slice none 0 0, .slice none 0 0, .slice none 0 0] 49)).drew)
      have hcDXZ := HBk.out _ ts2 (HA.out.new kDXZ.out).1 (HA.out.new kDXZ.out).2.1 hneB
      have kDZX := hide ((((Keeps.refl W3 (fun _ => False)).alloc (.cells #[.int .i64 0, .string ⟨#[]⟩, .string ⟨#[]⟩, .string ⟨#[]⟩, .slice none 0 0, .slice none 0 0, .slice none 0 0] 49)).alloc (.cells #[.int .i64 k', .int .i64 n', .string (sB nm), .string (sB op), .slice sp sm sc] 42)).drew)
      have hcDZX := HBk.out _ ts2 (HA.out.new kDZX.out).1 (HA.out.new kDZX.out).2.1 hneB
      have hnXx : Hid (((W3.alloc (.cells #[.int .i64 k', .int .i64 n', .string (sB nm), .string (sB op), .slice sp sm sc] 42)).drew).heap[W3.heap.size]? = some (.cells #[.int .i64 k', .int .i64 n', .string (sB nm), .string (sB op), .slice sp sm sc] 42)) := hide (heap_alloc_new W3 _)
      have hnZz : Hid (((W3.alloc (.cells #[.int .i64 0, .string ⟨#[]⟩, .string ⟨#[]⟩, .string ⟨#[]⟩, .slice none 0 0, .slice none 0 0, .slice none 0 0] 49)).drew).heap[W3.heap.size]? = some (.cells #[.int .i64 0, .string ⟨#[]⟩, .string ⟨#[]⟩, .string ⟨#[]⟩, .slice none 0 0, .slice none 0 0, .slice none 0 0] 49)) := hide (heap_alloc_new W3 _)
      have hnXZx : Hid ((((W3.alloc (.cells #[.int .i64 k', .int .i64 n', .string (sB nm), .string (sB op), .slice sp sm sc] 42)).alloc (.cells #[.int .i64 0, .string ⟨#[]⟩, .string ⟨#[]⟩, .string ⟨#[]⟩, .slice none 0 0, .slice none 0 0, .slice none 0 0] 49)).drew).heap[W3.heap.size]? = some (.cells #[.int .i64 k', .int .i64 n', .string (sB nm), .string (sB op), .slice sp sm sc] 42)) := hide (heap_old2 W3 _ _)
      have hnXZz : Hid ((((W3.alloc (.cells #[.int .i64 k', .int .i64 n', .string (sB nm), .string (sB op), .slice sp sm sc] 42)).alloc (.cells #[.int .i64 0, .string ⟨#[]⟩, .string ⟨#[]⟩, .string ⟨#[]⟩, .slice none 0 0, .slice none 0 0, .slice none 0 0] 49)).drew).heap[W3.heap.size + 1]? = some (.cells #[.int .i64 0, .string ⟨#[]⟩, .string ⟨#[]⟩, .string ⟨#[]⟩, .slice none 0 0, .slice none 0 0, .slice none 0 0] 49)) := hide (heap_new2 W3 _ _)
      have hnZXz : Hid ((((W3.alloc (.cells #[.int .i64 0, .string ⟨#[]⟩, .string ⟨#[]⟩, .string ⟨#[]⟩, .slice none 0 0, .slice none 0 0, .slice none 0 0] 49)).alloc (.cells #[.int .i64 k', .int .i64 n', .string (sB nm), .string (sB op), .slice sp sm sc] 42)).drew).heap[W3.heap.size]? = some (.cells #[.int .i64 0, .string ⟨#[]⟩, .string ⟨#[]⟩, .string ⟨#[]⟩, .slice none 0 0, .slice none 0 0, .slice none 0 0] 49)) := hide (heap_old2 W3 _ _)
      have hnZXx : Hid ((((W3.alloc (.cells #[.int .i64 0, .string ⟨#[]⟩, .string ⟨#[]⟩, .string ⟨#[]⟩, .slice none 0 0, .slice none 0 0, .slice none 0 0] 49)).alloc (.cells #[.int .i64 k', .int .i64 n', .string (sB nm), .string (sB op), .slice sp sm sc] 42)).drew).heap[W3.heap.size + 1]? = some (.cells #[.int .i64 k', .int .i64 n', .string (sB nm), .string (sB op), .slice sp sm sc] 42)) := hide (heap_new2 W3 _ _)
      obtain ⟨⟨x0, x1, x2, x3, x4⟩, -⟩ := H3.out.cells
      obtain ⟨⟨xz0, xz1, xz2, xz3, xz4⟩, -⟩ := (H3.out.keeps kDZ.out id).cells
      go_region_law (first
        | (refine step_part (by rfl) 91 _ _ (by rfl) (cf_block _) (by rfl) hcD0 hneB (fun l n c w9 e hr h5 k5 => ⟨rfl, by rw [← e, ← hQ.out]; exact part_no (bind_no HR.out hr) h5 (HA.out.new kD0.out).2.2.1 k5⟩) ?_
           rintro bl ts3 v w8 hR3 hx hA
           have HR3 := hide (bind_ok HR.out hR3)
           have hx0 : StsV w8 (fun i => _ ≤ i) bl v := hx
           obtain ⟨bp, bm, bc, rfl⟩ := hx0.form
           have HA8 := hide ((HA.out.new kD0.out).adv hA hgb.out)
           have k38 := (kF kD0.out b).trans hA.2.2 (fun _ _ q => q)
           have Hx8 := hide (HX3.out.keeps k38 (fun i hi q => by have : _ ≤ i := hi.1; have := hg3.out; have := hbw.out; omega))
           have hX8 := H3.out.keeps k38 (fun q => by have := hgx2.out; have := hbw.out; omega)
           have HB8 := hide (StsV.under hx)
           have HAd := hide hA
           have hs3 := HA.out.lt
           have hb3 := hbw.out
           have hg8 := hide (Nat.lt_of_lt_of_le hs3 k38.size)
           have hk8 := hide k38.size
           obtain ⟨⟨y0, y1, y2, y3, y4⟩, -⟩ := hX8.cells
           have kZ8 := (Keeps.refl w8 (fun _ => False)).alloc (.cells #[.int .i64 0, .string ⟨#[]⟩, .string ⟨#[]⟩, .string ⟨#[]⟩, .slice none 0 0, .slice none 0 0, .slice none 0 0] 49)
           obtain ⟨⟨yz0, yz1, yz2, yz3, yz4⟩, -⟩ := (hX8.keeps kZ8 id).cells
           have hZ8 : S0 ((w8.alloc (.cells #[.int .i64 0, .string ⟨#[]⟩, .string ⟨#[]⟩, .string ⟨#[]⟩, .slice none 0 0, .slice none 0 0, .slice none 0 0] 49)).alloc (.cells #[.int .i64 k', .int .i64 n', .string (sB nm), .string (sB op), .slice sp sm sc] 42)) w8.heap.size := heap_old2 w8 _ _
           obtain ⟨⟨z0, z1, z2, z3, z4, z5, z6⟩, u0, u1', u2, u3, u4, u5, u6⟩ := hZ8.cells
           have HZ8 := hide hZ8
           clear kZ8 hZ8
           clear hA hx hx0 hX8 k38 hR3 hs3 hb3)
        | (refine step_part (by rfl) 91 _ _ (by rfl) (cf_block _) (by rfl) hcDX hneB (fun l n c w9 e hr h5 k5 => ⟨rfl, by rw [← e, ← hQ.out]; exact part_no (bind_no HR.out hr) h5 (HA.out.new kDX.out).2.2.1 k5⟩) ?_
           rintro bl ts3 v w8 hR3 hx hA
           have HR3 := hide (bind_ok HR.out hR3)
           have hx0 : StsV w8 (fun i => _ ≤ i) bl v := hx
           obtain ⟨bp, bm, bc, rfl⟩ := hx0.form
           have HA8 := hide ((HA.out.new kDX.out).adv hA hgb.out)
           have k38 := (kF kDX.out b).trans hA.2.2 (fun _ _ q => q)
           have Hx8 := hide (HX3.out.keeps k38 (fun i hi q => by have : _ ≤ i := hi.1; have := hg3.out; have := hbw.out; omega))
           have hX8 := H3.out.keeps k38 (fun q => by have := hgx2.out; have := hbw.out; omega)
           have HB8 := hide (StsV.under hx)
           have HAd := hide hA
           have hs3 := HA.out.lt
           have hb3 := hbw.out
           have hg8 := hide (Nat.lt_of_lt_of_le hs3 k38.size)
           have hk8 := hide k38.size
           have HX9 := hide ((hA.2.2.block _ (heap_lt hnXx.out) (fun q => by omega)).trans hnXx.out)
           clear hA hx hx0 hX8 k38 hR3 hs3 hb3)
        | (refine step_part (by rfl) 91 _ _ (by rfl) (cf_block _) (by rfl) hcDZ hneB (fun l n c w9 e hr h5 k5 => ⟨rfl, by rw [← e, ← hQ.out]; exact part_no (bind_no HR.out hr) h5 (HA.out.new kDZ.out).2.2.1 k5⟩) ?_
           rintro bl ts3 v w8 hR3 hx hA
           have HR3 := hide (bind_ok HR.out hR3)
           have hx0 : StsV w8 (fun i => _ ≤ i) bl v := hx
           obtain ⟨bp, bm, bc, rfl⟩ := hx0.form
           have HA8 := hide ((HA.out.new kDZ.out).adv hA hgb.out)
           have k38 := (kF kDZ.out b).trans hA.2.2 (fun _ _ q => q)
           have Hx8 := hide (HX3.out.keeps k38 (fun i hi q => by have : _ ≤ i := hi.1; have := hg3.out; have := hbw.out; omega))
           have hX8 := H3.out.keeps k38 (fun q => by have := hgx2.out; have := hbw.out; omega)
           have HB8 := hide (StsV.under hx)
           have HAd := hide hA
           have hs3 := HA.out.lt
           have hb3 := hbw.out
           have hg8 := hide (Nat.lt_of_lt_of_le hs3 k38.size)
           have hk8 := hide k38.size
           obtain ⟨⟨y0, y1, y2, y3, y4⟩, -⟩ := hX8.cells
           have hZ8 : S0 w8 W3.heap.size := (hA.2.2.block _ (heap_lt hnZz.out) (fun q => by omega)).trans hnZz.out
           have hZ9 : S0 (w8.alloc (.cells #[.int .i64 k', .int .i64 n', .string (sB nm), .string (sB op), .slice sp sm sc] 42)) W3.heap.size := hZ8.keeps ((Keeps.refl w8 (fun _ => False)).alloc _) id
           obtain ⟨⟨z0, z1, z2, z3, z4, z5, z6⟩, u0, u1', u2, u3, u4, u5, u6⟩ := hZ9.cells
           have HZ9 := hide hZ9
           clear hZ8 hZ9
           clear hA hx hx0 hX8 k38 hR3 hs3 hb3)
        | (refine step_part (by rfl) 91 _ _ (by rfl) (cf_block _) (by rfl) hcDXZ hneB (fun l n c w9 e hr h5 k5 => ⟨rfl, by rw [← e, ← hQ.out]; exact part_no (bind_no HR.out hr) h5 (HA.out.new kDXZ.out).2.2.1 k5⟩) ?_
           rintro bl ts3 v w8 hR3 hx hA
           have HR3 := hide (bind_ok HR.out hR3)
           have hx0 : StsV w8 (fun i => _ ≤ i) bl v := hx
           obtain ⟨bp, bm, bc, rfl⟩ := hx0.form
           have HA8 := hide ((HA.out.new kDXZ.out).adv hA hgb.out)
           have k38 := (kF kDXZ.out b).trans hA.2.2 (fun _ _ q => q)
           have Hx8 := hide (HX3.out.keeps k38 (fun i hi q => by have : _ ≤ i := hi.1; have := hg3.out; have := hbw.out; omega))
           have hX8 := H3.out.keeps k38 (fun q => by have := hgx2.out; have := hbw.out; omega)
           have HB8 := hide (StsV.under hx)
           have HAd := hide hA
           have hs3 := HA.out.lt
           have hb3 := hbw.out
           have hg8 := hide (Nat.lt_of_lt_of_le hs3 k38.size)
           have hk8 := hide k38.size
           have hZ8 : S0 w8 (W3.heap.size + 1) := (hA.2.2.block _ (heap_lt hnXZz.out) (fun q => by omega)).trans hnXZz.out
           have HX9 := hide ((hA.2.2.block _ (heap_lt hnXZx.out) (fun q => by omega)).trans hnXZx.out)
           obtain ⟨⟨z0, z1, z2, z3, z4, z5, z6⟩, u0, u1', u2, u3, u4, u5, u6⟩ := hZ8.cells
           have HZ9 := hide hZ8
           clear hZ8
           clear hA hx hx0 hX8 k38 hR3 hs3 hb3)
        | (refine step_part (by rfl) 91 _ _ (by rfl) (cf_block _) (by rfl) hcDZX hneB (fun l n c w9 e hr h5 k5 => ⟨rfl, by rw [← e, ← hQ.out]; exact part_no (bind_no HR.out hr) h5 (HA.out.new kDZX.out).2.2.1 k5⟩) ?_
           rintro bl ts3 v w8 hR3 hx hA
           have HR3 := hide (bind_ok HR.out hR3)
           have hx0 : StsV w8 (fun i => _ ≤ i) bl v := hx
           obtain ⟨bp, bm, bc, rfl⟩ := hx0.form
           have HA8 := hide ((HA.out.new kDZX.out).adv hA hgb.out)
           have k38 := (kF kDZX.out b).trans hA.2.2 (fun _ _ q => q)
           have Hx8 := hide (HX3.out.keeps k38 (fun i hi q => by have : _ ≤ i := hi.1; have := hg3.out; have := hbw.out; omega))
           have hX8 := H3.out.keeps k38 (fun q => by have := hgx2.out; have := hbw.out; omega)
           have HB8 := hide (StsV.under hx)
           have HAd := hide hA
           have hs3 := HA.out.lt
           have hb3 := hbw.out
           have hg8 := hide (Nat.lt_of_lt_of_le hs3 k38.size)
           have hk8 := hide k38.size
           have hZ8 : S0 w8 W3.heap.size := (hA.2.2.block _ (heap_lt hnZXz.out) (fun q => by omega)).trans hnZXz.out
           have HX9 := hide ((hA.2.2.block _ (heap_lt hnZXx.out) (fun q => by omega)).trans hnZXx.out)
           obtain ⟨⟨z0, z1, z2, z3, z4, z5, z6⟩, u0, u1', u2, u3, u4, u5, u6⟩ := hZ8.cells
           have HZ9 := hide hZ8
           clear hZ8
           clear hA hx hx0 hX8 k38 hR3 hs3 hb3))
      · have hsD : Hid ((W3.alloc (.cells #[.int .i64 k', .int .i64 n', .string (sB nm), .string (sB op), .slice sp sm sc] 42)).drew.heap.size = W3.heap.size + 1) := hide (by simp)
        go_upto_region 4 with fail
        refine alloc1 (P := fun W => Code.wp _ _ _ _ W) fun W9 h9 hz9 k9 => ?_
        have HT : Hid (IfT w b T x bl ts3 (w8.heap.size) (W3.heap.size) (.slice bp bm bc) W9) := hide (IfT.mk' (cs := [.int .i64 k', .int .i64 n', .string (sB nm), .string (sB op), .slice sp sm sc]) HA8.out (by have := HAd.out.2.2.size; have := hsD.out; have := hg3.out; have := hgx3.out; have := hk8.out; have := hgx2.out; omega) hbw.out ((k9.block _ (heap_lt HX9.out) id).trans HX9.out) (by have := HAd.out.2.2.size; have := hsD.out; have := hg3.out; have := hgx3.out; have := hk8.out; have := hgx2.out; omega) (by have := HAd.out.2.2.size; have := hsD.out; have := hg3.out; have := hgx3.out; have := hk8.out; have := hgx2.out; omega) Hx8.out (fun i hi => by have h1 : _ ≤ i := hi.1; have h2 := hi.2; have := HAd.out.2.2.size; have := hsD.out; have := hg3.out; have := hgx3.out; have := hk8.out; have := hgx2.out; constructor <;> omega) HB8.out (fun i hi => by have h1 : _ ≤ i := hi.1; have h2 := hi.2; have := hg3.out; have := hgx3.out; have := hk8.out; have := hgx2.out; have := hsD.out; have := HAd.out.2.2.size; constructor <;> omega) (kF k9 _) h9)
        clear h9 hz9 k9
        clear hneB hcD0 hcDX hcDZ hcDXZ hcDZX hnXx hnZz hnXZx hnXZz hnZXz hnZXx x0 x1 x2 x3 x4 xz0 xz1 xz2 xz3 xz4 hsD hk8 Hx8 HB8 HAd HA8 hg8 H3 HX3 hgx3 HA HR kD0 kDX kDZ kDXZ kDZX hgx2 hg3 HX9
        generalize w8.heap.size = gs at *
        generalize W3.heap.size = ga at *
        have HA := hide HT.out.at_
        have HS := hide HT.out.sc
        have hgs := hide HT.out.lt
        have HEa := hide HT.out.ex
        have HBl := hide HT.out.st
        have HR := HR3
        have hbs : Hid (¬ gs = b) := hide (fun q => by have := hgs.out; have := hbw.out; omega)
        have hgg : Hid (¬ w.heap.size = gs) := hide (fun q => by have := hgs.out; omega)
        have hle : Hid (w.heap.size ≤ gs) := hide (Nat.le_of_lt hgs.out)
        clear HT HR3
        cases hF21 : isF kElse ts3 with
        | true =>
          have hm : Calls Tryd.prog 64 #[.pointer (some ⟨b, 0, none⟩), .string ⟨#[101, 108, 115, 101]⟩] _ fun e w' => e = .returned (.bool (isF kElse (ts3))) ∧ AdvP _ b T (if isF kElse (ts3) then (ts3).tail else (ts3)) w' := met_any HA.out.1 HA.out.2.1 kElse
          rw [hF21] at hm
          simp only [if_true] at hm
          replace HR := hide (HR.out.trans (if_pos hF21))
          clear hF21
          go_upto_region 6 with (go_at_call 64; (with_reducible refine hm.mono ?_); rintro e wm21 ⟨rfl, hA⟩)
          have HEb := hide (ArgsV.keeps hA.2.2 (fun i hi q => by have := hi.1; have := hbw.out; omega) HEa.out)
          have HBb := hide (StsV.keeps hA.2.2 (fun i hi q => by have := hi.1; have := hbw.out; omega) HBl.out)
          replace HS := hide (HS.out.keeps hA.2.2 hbs.out)
          replace HA := hide (HA.out.adv hA hgb.out)
          clear HEa HBl
          have HEa := HEb
          have HBl := HBb
          clear HEb HBb
          clear hm hA
          cases hF22 : isF kIf ts3.tail with
          | true =>
            have hm : Calls Tryd.prog 86 #[.pointer (some ⟨b, 0, none⟩), .string ⟨#[105, 102]⟩] _ fun e w' => e = .returned (.bool (isF kIf (ts3.tail))) ∧ w' = _ := is_any HA.out.1 kIf
            rw [hF22] at hm
            replace HR := hide (HR.out.trans (if_pos hF22))
            clear hF22
            go_upto_region 7 with (go_at_call 86; (with_reducible refine hm.mono ?_); rintro e wm22 ⟨rfl, rfl⟩)
            clear hm
            have hne33 : ifD n (ts3.tail) ≠ .out := bind_out HR.out HRo.out
            have hc := HIf.out _ (ts3.tail) HA.out.1 HA.out.2.1 hne33
            cases hR33 : ifD n (ts3.tail) with
            | out => exact absurd hR33 (bind_out HR.out HRo.out)
            | no l er =>
              rw [hR33] at hc
              replace HR := hide (bind_no HR.out hR33)
              clear hR33 hne33
              go_wp2_with fail
              refine hc.mono ?_
              rintro e w9 ⟨rfl, h5, k5⟩
              refine ⟨rfl, ?_⟩
              rw [← hQ.out]
              exact part_no HR.out h5 HA.out.2.2.1 k5
            | ok y ts4 =>
              rw [hR33] at hc
              replace HR := hide (bind_ok HR.out hR33)
              clear hR33 hne33
              go_wp2_with fail
              have hb7 := hide (show gs < _ from HS.out.lt)
              refine hc.mono ?_
              rintro e w7 ⟨v0, rfl, ⟨cs, hv, hx⟩, hA⟩
              obtain ⟨k2, nm2, ky2, vl2, ep2, em2, ec2, bp2, bm2, bc2, lp2, lm2, lc2, rfl⟩ := hx.form
              replace hv : v0 = .agg #[.int .i64 k2, .string (sB nm2), .string (sB ky2), .string (sB vl2), .slice ep2 em2 ec2, .slice bp2 bm2 bc2, .slice lp2 lm2 lc2] := hv
              subst hv
              have HX := hide hx
              have hs7 := hide hA.2.2.size
              have HEb := hide (ArgsV.keeps hA.2.2 (fun i hi q => by have := hi.1; have := hbw.out; omega) HEa.out)
              have HBb := hide (StsV.keeps hA.2.2 (fun i hi q => by have := hi.1; have := hbw.out; omega) HBl.out)
              replace HS := hide (HS.out.keeps hA.2.2 hbs.out)
              replace HA := hide (HA.out.adv hA hgb.out)
              clear HEa HBl
              have HEa := HEb
              have HBl := HBb
              clear HEb HBb
              have kA := (Keeps.refl w7 (fun _ => False)).alloc (.cells #[.int .i64 k2, .string (sB nm2), .string (sB ky2), .string (sB vl2), .slice ep2 em2 ec2, .slice bp2 bm2 bc2, .slice lp2 lm2 lc2] 49)
              have hnew := hide (heap_alloc_new w7 (.cells #[.int .i64 k2, .string (sB nm2), .string (sB ky2), .string (sB vl2), .slice ep2 em2 ec2, .slice bp2 bm2 bc2, .slice lp2 lm2 lc2] 49))
              have HX3' := hide (HX.out.keeps kA (fun _ _ q => q))
              replace HEa := hide (ArgsV.keeps kA (fun _ _ q => q) HEa.out)
              replace HBl := hide (StsV.keeps kA (fun _ _ q => q) HBl.out)
              replace HS := hide (HS.out.keeps kA id)
              replace HA := hide (HA.out.new kA)
              clear hc hA hx kA HX
              obtain ⟨⟨d0, d1, d2, d3, d4, d5, d6⟩, e0, e1, e2, e3, e4, e5, e6⟩ := HS.out.cells
              go_upto_region 9 with fail
              refine Sc.set6 (P := fun W => Code.wp _ _ _ _ W) _ HS.out fun W1 h1 k1 => ?_
              replace HA := hide (HA.out.own k1 hle.out hbw.out hgg.out)
              have hnw := (k1.block _ (heap_lt hnew.out) (fun q => by have := hb7.out; have := hs7.out; omega)).trans hnew.out
              have HX2 := hide (HX3'.out.keeps k1 (fun i hi q => by have : _ ≤ i := hi; have := hb7.out; omega))
              have HXs : Hid (StsV W1 (fun i => w.heap.size < i) [y] (.slice (some ⟨w7.heap.size, 0, none⟩) 1 1)) := hide (StsV.some (l := [_]) (by have := hb7.out; have := hs7.out; have := hgs.out; omega) (heap_lt hnw) (Nat.le_refl _) (range_blk hnw) (StsC.cons (HX2.out.mono (fun i hi => by have : _ ≤ i := hi; have := hb7.out; have := hgs.out; omega)) StsC.nil))
              replace HEa := hide (ArgsV.keeps k1 (fun i hi q => hi.2 q) HEa.out)
              replace HBl := hide (StsV.keeps k1 (fun i hi q => hi.2 q) HBl.out)
              clear hnw
              replace HS := hide h1
              clear d0 d1 d2 d3 d4 d5 d6 e0 e1 e2 e3 e4 e5 e6
              clear h1 k1
              obtain ⟨⟨d0, d1, d2, d3, d4, d5, d6⟩, e0, e1, e2, e3, e4, e5, e6⟩ := HS.out.cells
              obtain ⟨⟨c0, c1, c2, c3, c4, c5, c6⟩, f0, f1, f2, f3, f4, f5, f6⟩ := HA.out.2.2.2.cells
              generalize hgz : w.heap.size = g at *
              replace hgz := hide hgz
              go_wp2_with fail
              refine set7 (P := fun W => bodyPost _ _ _ _ _ W) HA.out.2.2.2 fun W5 h11 k11 => ?_
              obtain ⟨⟨q0, q1, q2, q3, q4, q5, q6⟩, -⟩ := h11.cells
              refine bodyPost_ret (v := .agg #[.int .i64 6, .string ⟨#[]⟩, .string ⟨#[]⟩, .string ⟨#[]⟩, .slice (some ⟨ga, 0, none⟩) 1 1, .slice bp bm bc, .slice (some ⟨w7.heap.size, 0, none⟩) 1 1]) (by simp [results, Tryd.results89, go_sem, q0, q1, q2, q3, q4, q5, q6]) rfl ?_
              rw [← hQ.out]
              exact part_ok HR.out (res_st rfl hgz.out HA.out.2.2.1 (StC.mk (ArgsV.mono (P' := fun i => g < i) (fun i hi => hi.1) HEa.out) (StsV.mono (fun i hi => hi.1) HBl.out) HXs.out) (fun i hi => hi) HA.out.1 HA.out.2.1 hbw.out k11)
          | false =>
            have hm : Calls Tryd.prog 86 #[.pointer (some ⟨b, 0, none⟩), .string ⟨#[105, 102]⟩] _ fun e w' => e = .returned (.bool (isF kIf (ts3.tail))) ∧ w' = _ := is_any HA.out.1 kIf
            rw [hF22] at hm
            replace HR := hide (HR.out.trans (if_neg (by rw [hF22]; decide)))
            clear hF22
            go_upto_region 8 with (go_at_call 86; (with_reducible refine hm.mono ?_); rintro e wm22 ⟨rfl, rfl⟩)
            clear hm
            have hne32 : blockD n (ts3.tail) ≠ .out := bind_out HR.out HRo.out
            have hc := HBk.out _ (ts3.tail) HA.out.1 HA.out.2.1 hne32
            cases hR32 : blockD n (ts3.tail) with
            | out => exact absurd hR32 (bind_out HR.out HRo.out)
            | no l er =>
              rw [hR32] at hc
              replace HR := hide (bind_no HR.out hR32)
              clear hR32 hne32
              go_wp2_with fail
              refine hc.mono ?_
              rintro e w9 ⟨rfl, h5, k5⟩
              refine ⟨rfl, ?_⟩
              rw [← hQ.out]
              exact part_no HR.out h5 HA.out.2.2.1 k5
            | ok el ts4 =>
              rw [hR32] at hc
              replace HR := hide (bind_ok HR.out hR32)
              clear hR32 hne32
              go_wp2_with fail
              have hb7 := hide (show gs < _ from HS.out.lt)
              refine hc.mono ?_
              rintro e w7 ⟨v0, rfl, hx, hA⟩
              have hx' : StsV w7 (fun i => _ ≤ i) el v0 := hx
              obtain ⟨lp, lm, lc, rfl⟩ := hx'.form
              have HX := hide hx
              have HEb := hide (ArgsV.keeps hA.2.2 (fun i hi q => by have := hi.1; have := hbw.out; omega) HEa.out)
              have HBb := hide (StsV.keeps hA.2.2 (fun i hi q => by have := hi.1; have := hbw.out; omega) HBl.out)
              replace HS := hide (HS.out.keeps hA.2.2 hbs.out)
              replace HA := hide (HA.out.adv hA hgb.out)
              clear HEa HBl
              have HEa := HEb
              have HBl := HBb
              clear HEb HBb
              clear hc hA hx hx'
              obtain ⟨⟨d0, d1, d2, d3, d4, d5, d6⟩, e0, e1, e2, e3, e4, e5, e6⟩ := HS.out.cells
              go_upto_region 9 with fail
              refine Sc.set6 (P := fun W => Code.wp _ _ _ _ W) _ HS.out fun W1 h1 k1 => ?_
              replace HA := hide (HA.out.own k1 hle.out hbw.out hgg.out)
              have HX2 := hide (StsV.keeps k1 (fun i hi q => by have : _ ≤ i := hi; have := hb7.out; omega) HX.out)
              replace HEa := hide (ArgsV.keeps k1 (fun i hi q => hi.2 q) HEa.out)
              replace HBl := hide (StsV.keeps k1 (fun i hi q => hi.2 q) HBl.out)
              replace HS := hide h1
              clear d0 d1 d2 d3 d4 d5 d6 e0 e1 e2 e3 e4 e5 e6
              clear h1 k1
              obtain ⟨⟨d0, d1, d2, d3, d4, d5, d6⟩, e0, e1, e2, e3, e4, e5, e6⟩ := HS.out.cells
              obtain ⟨⟨c0, c1, c2, c3, c4, c5, c6⟩, f0, f1, f2, f3, f4, f5, f6⟩ := HA.out.2.2.2.cells
              generalize hgz : w.heap.size = g at *
              replace hgz := hide hgz
              go_wp2_with fail
              refine set7 (P := fun W => bodyPost _ _ _ _ _ W) HA.out.2.2.2 fun W5 h11 k11 => ?_
              obtain ⟨⟨q0, q1, q2, q3, q4, q5, q6⟩, -⟩ := h11.cells
              refine bodyPost_ret (v := .agg #[.int .i64 6, .string ⟨#[]⟩, .string ⟨#[]⟩, .string ⟨#[]⟩, .slice (some ⟨ga, 0, none⟩) 1 1, .slice bp bm bc, .slice lp lm lc]) (by simp [results, Tryd.results89, go_sem, q0, q1, q2, q3, q4, q5, q6]) rfl ?_
              rw [← hQ.out]
              exact part_ok HR.out (res_st rfl hgz.out HA.out.2.2.1 (StC.mk (ArgsV.mono (P' := fun i => g < i) (fun i hi => hi.1) HEa.out) (StsV.mono (fun i hi => hi.1) HBl.out) (StsV.mono (fun i hi => by have : _ ≤ i := hi; have : _ ≤ i := hi; have := hb7.out; have := hgs.out; omega) HX2.out)) (fun i hi => hi) HA.out.1 HA.out.2.1 hbw.out k11)
        | false =>
          have hm : Calls Tryd.prog 64 #[.pointer (some ⟨b, 0, none⟩), .string ⟨#[101, 108, 115, 101]⟩] _ fun e w' => e = .returned (.bool (isF kElse (ts3))) ∧ AdvP _ b T (if isF kElse (ts3) then (ts3).tail else (ts3)) w' := met_any HA.out.1 HA.out.2.1 kElse
          rw [hF21] at hm
          simp only [Bool.false_eq_true, if_false] at hm
          replace HR := hide (HR.out.trans (if_neg (by rw [hF21]; decide)))
          clear hF21
          go_upto_region 5 with (go_at_call 64; (with_reducible refine hm.mono ?_); rintro e wm21 ⟨rfl, hA⟩)
          have HEb := hide (ArgsV.keeps hA.2.2 (fun i hi q => by have := hi.1; have := hbw.out; omega) HEa.out)
          have HBb := hide (StsV.keeps hA.2.2 (fun i hi q => by have := hi.1; have := hbw.out; omega) HBl.out)
          replace HS := hide (HS.out.keeps hA.2.2 hbs.out)
          replace HA := hide (HA.out.adv hA hgb.out)
          clear HEa HBl
          have HEa := HEb
          have HBl := HBb
          clear HEb HBb
          clear hm hA
          obtain ⟨⟨d0, d1, d2, d3, d4, d5, d6⟩, e0, e1, e2, e3, e4, e5, e6⟩ := HS.out.cells
          obtain ⟨⟨c0, c1, c2, c3, c4, c5, c6⟩, f0, f1, f2, f3, f4, f5, f6⟩ := HA.out.2.2.2.cells
          generalize hgz : w.heap.size = g at *
          replace hgz := hide hgz
          go_wp2_with fail
          refine set7 (P := fun W => bodyPost _ _ _ _ _ W) HA.out.2.2.2 fun W5 h11 k11 => ?_
          obtain ⟨⟨q0, q1, q2, q3, q4, q5, q6⟩, -⟩ := h11.cells
          refine bodyPost_ret (v := .agg #[.int .i64 6, .string ⟨#[]⟩, .string ⟨#[]⟩, .string ⟨#[]⟩, .slice (some ⟨ga, 0, none⟩) 1 1, .slice bp bm bc, .slice none 0 0]) (by simp [results, Tryd.results89, go_sem, q0, q1, q2, q3, q4, q5, q6]) rfl ?_
          rw [← hQ.out]
          exact part_ok HR.out (res_st rfl hgz.out HA.out.2.2.1 (StC.mk (ArgsV.mono (P' := fun i => g < i) (fun i hi => hi.1) HEa.out) (StsV.mono (fun i hi => hi.1) HBl.out) StsV.nil) (fun i hi => hi) HA.out.1 HA.out.2.1 hbw.out k11)
      · have hsD : Hid (((W3.alloc (.cells #[.int .i64 k', .int .i64 n', .string (sB nm), .string (sB op), .slice sp sm sc] 42)).alloc (.cells #[.int .i64 0, .string ⟨#[]⟩, .string ⟨#[]⟩, .string ⟨#[]⟩, .slice none 0 0, .slice none 0 0, .slice none 0 0] 49)).drew.heap.size = W3.heap.size + 2) := hide (by simp)
        go_upto_region 4 with fail
        refine set7 (P := fun W => Code.wp _ _ _ _ W) HZ9.out fun W9 h9 k9 => ?_
        have HT : Hid (IfT w b T x bl ts3 (W3.heap.size + 1) (W3.heap.size) (.slice bp bm bc) W9) := hide (IfT.mk' (cs := [.int .i64 k', .int .i64 n', .string (sB nm), .string (sB op), .slice sp sm sc]) HA8.out (by have := HAd.out.2.2.size; have := hsD.out; have := hg3.out; have := hgx3.out; have := hk8.out; have := hgx2.out; omega) hbw.out ((k9.block _ (heap_lt HX9.out) (by have := HAd.out.2.2.size; have := hsD.out; have := hg3.out; have := hgx3.out; have := hk8.out; have := hgx2.out; omega)).trans HX9.out) (by have := HAd.out.2.2.size; have := hsD.out; have := hg3.out; have := hgx3.out; have := hk8.out; have := hgx2.out; omega) (by have := HAd.out.2.2.size; have := hsD.out; have := hg3.out; have := hgx3.out; have := hk8.out; have := hgx2.out; omega) Hx8.out (fun i hi => by have h1 : _ ≤ i := hi.1; have h2 := hi.2; have := HAd.out.2.2.size; have := hsD.out; have := hg3.out; have := hgx3.out; have := hk8.out; have := hgx2.out; constructor <;> omega) HB8.out (fun i hi => by have h1 : _ ≤ i := hi.1; have h2 := hi.2; have := hg3.out; have := hgx3.out; have := hk8.out; have := hgx2.out; have := hsD.out; have := HAd.out.2.2.size; constructor <;> omega) k9 h9)
        clear h9 k9
        clear hneB hcD0 hcDX hcDZ hcDXZ hcDZX hnXx hnZz hnXZx hnXZz hnZXz hnZXx x0 x1 x2 x3 x4 xz0 xz1 xz2 xz3 xz4 hsD hk8 Hx8 HB8 HAd HA8 hg8 H3 HX3 hgx3 HA HR kD0 kDX kDZ kDXZ kDZX hgx2 hg3 HX9 HZ9 z0 z1 z2 z3 z4 z5 z6 u0 u1' u2 u3 u4 u5 u6
        generalize (W3.heap.size + 1) = gs at *
        generalize W3.heap.size = ga at *
        have HA := hide HT.out.at_
        have HS := hide HT.out.sc
        have hgs := hide HT.out.lt
        have HEa := hide HT.out.ex
        have HBl := hide HT.out.st
        have HR := HR3
        have hbs : Hid (¬ gs = b) := hide (fun q => by have := hgs.out; have := hbw.out; omega)
        have hgg : Hid (¬ w.heap.size = gs) := hide (fun q => by have := hgs.out; omega)
        have hle : Hid (w.heap.size ≤ gs) := hide (Nat.le_of_lt hgs.out)
        clear HT HR3
        cases hF21 : isF kElse ts3 with
        | true =>
          have hm : Calls Tryd.prog 64 #[.pointer (some ⟨b, 0, none⟩), .string ⟨#[101, 108, 115, 101]⟩] _ fun e w' => e = .returned (.bool (isF kElse (ts3))) ∧ AdvP _ b T (if isF kElse (ts3) then (ts3).tail else (ts3)) w' := met_any HA.out.1 HA.out.2.1 kElse
          rw [hF21] at hm
          simp only [if_true] at hm
          replace HR := hide (HR.out.trans (if_pos hF21))
          clear hF21
          go_upto_region 6 with (go_at_call 64; (with_reducible refine hm.mono ?_); rintro e wm21 ⟨rfl, hA⟩)
          have HEb := hide (ArgsV.keeps hA.2.2 (fun i hi q => by have := hi.1; have := hbw.out; omega) HEa.out)
          have HBb := hide (StsV.keeps hA.2.2 (fun i hi q => by have := hi.1; have := hbw.out; omega) HBl.out)
          replace HS := hide (HS.out.keeps hA.2.2 hbs.out)
          replace HA := hide (HA.out.adv hA hgb.out)
          clear HEa HBl
          have HEa := HEb
          have HBl := HBb
          clear HEb HBb
          clear hm hA
          cases hF22 : isF kIf ts3.tail with
          | true =>
            have hm : Calls Tryd.prog 86 #[.pointer (some ⟨b, 0, none⟩), .string ⟨#[105, 102]⟩] _ fun e w' => e = .returned (.bool (isF kIf (ts3.tail))) ∧ w' = _ := is_any HA.out.1 kIf
            rw [hF22] at hm
            replace HR := hide (HR.out.trans (if_pos hF22))
            clear hF22
            go_upto_region 7 with (go_at_call 86; (with_reducible refine hm.mono ?_); rintro e wm22 ⟨rfl, rfl⟩)
            clear hm
            have hne33 : ifD n (ts3.tail) ≠ .out := bind_out HR.out HRo.out
            have hc := HIf.out _ (ts3.tail) HA.out.1 HA.out.2.1 hne33
            cases hR33 : ifD n (ts3.tail) with
            | out => exact absurd hR33 (bind_out HR.out HRo.out)
            | no l er =>
              rw [hR33] at hc
              replace HR := hide (bind_no HR.out hR33)
              clear hR33 hne33
              go_wp2_with fail
              refine hc.mono ?_
              rintro e w9 ⟨rfl, h5, k5⟩
              refine ⟨rfl, ?_⟩
              rw [← hQ.out]
              exact part_no HR.out h5 HA.out.2.2.1 k5
            | ok y ts4 =>
              rw [hR33] at hc
              replace HR := hide (bind_ok HR.out hR33)
              clear hR33 hne33
              go_wp2_with fail
              have hb7 := hide (show gs < _ from HS.out.lt)
              refine hc.mono ?_
              rintro e w7 ⟨v0, rfl, ⟨cs, hv, hx⟩, hA⟩
              obtain ⟨k2, nm2, ky2, vl2, ep2, em2, ec2, bp2, bm2, bc2, lp2, lm2, lc2, rfl⟩ := hx.form
              replace hv : v0 = .agg #[.int .i64 k2, .string (sB nm2), .string (sB ky2), .string (sB vl2), .slice ep2 em2 ec2, .slice bp2 bm2 bc2, .slice lp2 lm2 lc2] := hv
              subst hv
              have HX := hide hx
              have hs7 := hide hA.2.2.size
              have HEb := hide (ArgsV.keeps hA.2.2 (fun i hi q => by have := hi.1; have := hbw.out; omega) HEa.out)
              have HBb := hide (StsV.keeps hA.2.2 (fun i hi q => by have := hi.1; have := hbw.out; omega) HBl.out)
              replace HS := hide (HS.out.keeps hA.2.2 hbs.out)
              replace HA := hide (HA.out.adv hA hgb.out)
              clear HEa HBl
              have HEa := HEb
              have HBl := HBb
              clear HEb HBb
              have kA := (Keeps.refl w7 (fun _ => False)).alloc (.cells #[.int .i64 k2, .string (sB nm2), .string (sB ky2), .string (sB vl2), .slice ep2 em2 ec2, .slice bp2 bm2 bc2, .slice lp2 lm2 lc2] 49)
              have hnew := hide (heap_alloc_new w7 (.cells #[.int .i64 k2, .string (sB nm2), .string (sB ky2), .string (sB vl2), .slice ep2 em2 ec2, .slice bp2 bm2 bc2, .slice lp2 lm2 lc2] 49))
              have HX3' := hide (HX.out.keeps kA (fun _ _ q => q))
              replace HEa := hide (ArgsV.keeps kA (fun _ _ q => q) HEa.out)
              replace HBl := hide (StsV.keeps kA (fun _ _ q => q) HBl.out)
              replace HS := hide (HS.out.keeps kA id)
              replace HA := hide (HA.out.new kA)
              clear hc hA hx kA HX
              obtain ⟨⟨d0, d1, d2, d3, d4, d5, d6⟩, e0, e1, e2, e3, e4, e5, e6⟩ := HS.out.cells
              go_upto_region 9 with fail
              refine Sc.set6 (P := fun W => Code.wp _ _ _ _ W) _ HS.out fun W1 h1 k1 => ?_
              replace HA := hide (HA.out.own k1 hle.out hbw.out hgg.out)
              have hnw := (k1.block _ (heap_lt hnew.out) (fun q => by have := hb7.out; have := hs7.out; omega)).trans hnew.out
              have HX2 := hide (HX3'.out.keeps k1 (fun i hi q => by have : _ ≤ i := hi; have := hb7.out; omega))
              have HXs : Hid (StsV W1 (fun i => w.heap.size < i) [y] (.slice (some ⟨w7.heap.size, 0, none⟩) 1 1)) := hide (StsV.some (l := [_]) (by have := hb7.out; have := hs7.out; have := hgs.out; omega) (heap_lt hnw) (Nat.le_refl _) (range_blk hnw) (StsC.cons (HX2.out.mono (fun i hi => by have : _ ≤ i := hi; have := hb7.out; have := hgs.out; omega)) StsC.nil))
              replace HEa := hide (ArgsV.keeps k1 (fun i hi q => hi.2 q) HEa.out)
              replace HBl := hide (StsV.keeps k1 (fun i hi q => hi.2 q) HBl.out)
              clear hnw
              replace HS := hide h1
              clear d0 d1 d2 d3 d4 d5 d6 e0 e1 e2 e3 e4 e5 e6
              clear h1 k1
              obtain ⟨⟨d0, d1, d2, d3, d4, d5, d6⟩, e0, e1, e2, e3, e4, e5, e6⟩ := HS.out.cells
              obtain ⟨⟨c0, c1, c2, c3, c4, c5, c6⟩, f0, f1, f2, f3, f4, f5, f6⟩ := HA.out.2.2.2.cells
              generalize hgz : w.heap.size = g at *
              replace hgz := hide hgz
              go_wp2_with fail
              refine set7 (P := fun W => bodyPost _ _ _ _ _ W) HA.out.2.2.2 fun W5 h11 k11 => ?_
              obtain ⟨⟨q0, q1, q2, q3, q4, q5, q6⟩, -⟩ := h11.cells
              refine bodyPost_ret (v := .agg #[.int .i64 6, .string ⟨#[]⟩, .string ⟨#[]⟩, .string ⟨#[]⟩, .slice (some ⟨ga, 0, none⟩) 1 1, .slice bp bm bc, .slice (some ⟨w7.heap.size, 0, none⟩) 1 1]) (by simp [results, Tryd.results89, go_sem, q0, q1, q2, q3, q4, q5, q6]) rfl ?_
              rw [← hQ.out]
              exact part_ok HR.out (res_st rfl hgz.out HA.out.2.2.1 (StC.mk (ArgsV.mono (P' := fun i => g < i) (fun i hi => hi.1) HEa.out) (StsV.mono (fun i hi => hi.1) HBl.out) HXs.out) (fun i hi => hi) HA.out.1 HA.out.2.1 hbw.out k11)
          | false =>
            have hm : Calls Tryd.prog 86 #[.pointer (some ⟨b, 0, none⟩), .string ⟨#[105, 102]⟩] _ fun e w' => e = .returned (.bool (isF kIf (ts3.tail))) ∧ w' = _ := is_any HA.out.1 kIf
            rw [hF22] at hm
            replace HR := hide (HR.out.trans (if_neg (by rw [hF22]; decide)))
            clear hF22
            go_upto_region 8 with (go_at_call 86; (with_reducible refine hm.mono ?_); rintro e wm22 ⟨rfl, rfl⟩)
            clear hm
            have hne32 : blockD n (ts3.tail) ≠ .out := bind_out HR.out HRo.out
            have hc := HBk.out _ (ts3.tail) HA.out.1 HA.out.2.1 hne32
            cases hR32 : blockD n (ts3.tail) with
            | out => exact absurd hR32 (bind_out HR.out HRo.out)
            | no l er =>
              rw [hR32] at hc
              replace HR := hide (bind_no HR.out hR32)
              clear hR32 hne32
              go_wp2_with fail
              refine hc.mono ?_
              rintro e w9 ⟨rfl, h5, k5⟩
              refine ⟨rfl, ?_⟩
              rw [← hQ.out]
              exact part_no HR.out h5 HA.out.2.2.1 k5
            | ok el ts4 =>
              rw [hR32] at hc
              replace HR := hide (bind_ok HR.out hR32)
              clear hR32 hne32
              go_wp2_with fail
              have hb7 := hide (show gs < _ from HS.out.lt)
              refine hc.mono ?_
              rintro e w7 ⟨v0, rfl, hx, hA⟩
              have hx' : StsV w7 (fun i => _ ≤ i) el v0 := hx
              obtain ⟨lp, lm, lc, rfl⟩ := hx'.form
              have HX := hide hx
              have HEb := hide (ArgsV.keeps hA.2.2 (fun i hi q => by have := hi.1; have := hbw.out; omega) HEa.out)
              have HBb := hide (StsV.keeps hA.2.2 (fun i hi q => by have := hi.1; have := hbw.out; omega) HBl.out)
              replace HS := hide (HS.out.keeps hA.2.2 hbs.out)
              replace HA := hide (HA.out.adv hA hgb.out)
              clear HEa HBl
              have HEa := HEb
              have HBl := HBb
              clear HEb HBb
              clear hc hA hx hx'
              obtain ⟨⟨d0, d1, d2, d3, d4, d5, d6⟩, e0, e1, e2, e3, e4, e5, e6⟩ := HS.out.cells
              go_upto_region 9 with fail
              refine Sc.set6 (P := fun W => Code.wp _ _ _ _ W) _ HS.out fun W1 h1 k1 => ?_
              replace HA := hide (HA.out.own k1 hle.out hbw.out hgg.out)
              have HX2 := hide (StsV.keeps k1 (fun i hi q => by have : _ ≤ i := hi; have := hb7.out; omega) HX.out)
              replace HEa := hide (ArgsV.keeps k1 (fun i hi q => hi.2 q) HEa.out)
              replace HBl := hide (StsV.keeps k1 (fun i hi q => hi.2 q) HBl.out)
              replace HS := hide h1
              clear d0 d1 d2 d3 d4 d5 d6 e0 e1 e2 e3 e4 e5 e6
              clear h1 k1
              obtain ⟨⟨d0, d1, d2, d3, d4, d5, d6⟩, e0, e1, e2, e3, e4, e5, e6⟩ := HS.out.cells
              obtain ⟨⟨c0, c1, c2, c3, c4, c5, c6⟩, f0, f1, f2, f3, f4, f5, f6⟩ := HA.out.2.2.2.cells
              generalize hgz : w.heap.size = g at *
              replace hgz := hide hgz
              go_wp2_with fail
              refine set7 (P := fun W => bodyPost _ _ _ _ _ W) HA.out.2.2.2 fun W5 h11 k11 => ?_
              obtain ⟨⟨q0, q1, q2, q3, q4, q5, q6⟩, -⟩ := h11.cells
              refine bodyPost_ret (v := .agg #[.int .i64 6, .string ⟨#[]⟩, .string ⟨#[]⟩, .string ⟨#[]⟩, .slice (some ⟨ga, 0, none⟩) 1 1, .slice bp bm bc, .slice lp lm lc]) (by simp [results, Tryd.results89, go_sem, q0, q1, q2, q3, q4, q5, q6]) rfl ?_
              rw [← hQ.out]
              exact part_ok HR.out (res_st rfl hgz.out HA.out.2.2.1 (StC.mk (ArgsV.mono (P' := fun i => g < i) (fun i hi => hi.1) HEa.out) (StsV.mono (fun i hi => hi.1) HBl.out) (StsV.mono (fun i hi => by have : _ ≤ i := hi; have : _ ≤ i := hi; have := hb7.out; have := hgs.out; omega) HX2.out)) (fun i hi => hi) HA.out.1 HA.out.2.1 hbw.out k11)
        | false =>
          have hm : Calls Tryd.prog 64 #[.pointer (some ⟨b, 0, none⟩), .string ⟨#[101, 108, 115, 101]⟩] _ fun e w' => e = .returned (.bool (isF kElse (ts3))) ∧ AdvP _ b T (if isF kElse (ts3) then (ts3).tail else (ts3)) w' := met_any HA.out.1 HA.out.2.1 kElse
          rw [hF21] at hm
          simp only [Bool.false_eq_true, if_false] at hm
          replace HR := hide (HR.out.trans (if_neg (by rw [hF21]; decide)))
          clear hF21
          go_upto_region 5 with (go_at_call 64; (with_reducible refine hm.mono ?_); rintro e wm21 ⟨rfl, hA⟩)
          have HEb := hide (ArgsV.keeps hA.2.2 (fun i hi q => by have := hi.1; have := hbw.out; omega) HEa.out)
          have HBb := hide (StsV.keeps hA.2.2 (fun i hi q => by have := hi.1; have := hbw.out; omega) HBl.out)
          replace HS := hide (HS.out.keeps hA.2.2 hbs.out)
          replace HA := hide (HA.out.adv hA hgb.out)
          clear HEa HBl
          have HEa := HEb
          have HBl := HBb
          clear HEb HBb
          clear hm hA
          obtain ⟨⟨d0, d1, d2, d3, d4, d5, d6⟩, e0, e1, e2, e3, e4, e5, e6⟩ := HS.out.cells
          obtain ⟨⟨c0, c1, c2, c3, c4, c5, c6⟩, f0, f1, f2, f3, f4, f5, f6⟩ := HA.out.2.2.2.cells
          generalize hgz : w.heap.size = g at *
          replace hgz := hide hgz
          go_wp2_with fail
          refine set7 (P := fun W => bodyPost _ _ _ _ _ W) HA.out.2.2.2 fun W5 h11 k11 => ?_
          obtain ⟨⟨q0, q1, q2, q3, q4, q5, q6⟩, -⟩ := h11.cells
          refine bodyPost_ret (v := .agg #[.int .i64 6, .string ⟨#[]⟩, .string ⟨#[]⟩, .string ⟨#[]⟩, .slice (some ⟨ga, 0, none⟩) 1 1, .slice bp bm bc, .slice none 0 0]) (by simp [results, Tryd.results89, go_sem, q0, q1, q2, q3, q4, q5, q6]) rfl ?_
          rw [← hQ.out]
          exact part_ok HR.out (res_st rfl hgz.out HA.out.2.2.1 (StC.mk (ArgsV.mono (P' := fun i => g < i) (fun i hi => hi.1) HEa.out) (StsV.mono (fun i hi => hi.1) HBl.out) StsV.nil) (fun i hi => hi) HA.out.1 HA.out.2.1 hbw.out k11)
      · have hsD : Hid (W3.drew.heap.size = W3.heap.size) := hide (by simp)
        go_upto_region 4 with fail
        refine alloc2v (P := fun W => Code.wp _ _ _ _ W) fun W9 hx9 h9 k9 => ?_
        have HT : Hid (IfT w b T x bl ts3 (w8.heap.size + 1) w8.heap.size (.slice bp bm bc) W9) := hide (IfT.mk' (cs := [.int .i64 k', .int .i64 n', .string (sB nm), .string (sB op), .slice sp sm sc]) HA8.out (by have := HAd.out.2.2.size; have := hsD.out; have := hg3.out; have := hgx3.out; have := hk8.out; have := hgx2.out; omega) hbw.out hx9 (by have := HAd.out.2.2.size; have := hsD.out; have := hg3.out; have := hgx3.out; have := hk8.out; have := hgx2.out; omega) (by have := HAd.out.2.2.size; have := hsD.out; have := hg3.out; have := hgx3.out; have := hk8.out; have := hgx2.out; omega) Hx8.out (fun i hi => by have h1 : _ ≤ i := hi.1; have h2 := hi.2; have := HAd.out.2.2.size; have := hsD.out; have := hg3.out; have := hgx3.out; have := hk8.out; have := hgx2.out; constructor <;> omega) HB8.out (fun i hi => by have h1 : _ ≤ i := hi.1; have h2 := hi.2; have := hg3.out; have := hgx3.out; have := hk8.out; have := hgx2.out; have := hsD.out; have := HAd.out.2.2.size; constructor <;> omega) (kF k9 _) h9)
        clear h9 hx9 k9
        clear hneB hcD0 hcDX hcDZ hcDXZ hcDZX hnXx hnZz hnXZx hnXZz hnZXz hnZXx x0 x1 x2 x3 x4 xz0 xz1 xz2 xz3 xz4 hsD hk8 Hx8 HB8 HAd HA8 hg8 H3 HX3 hgx3 HA HR kD0 kDX kDZ kDXZ kDZX hgx2 hg3 y0 y1 y2 y3 y4 yz0 yz1 yz2 yz3 yz4 z0 z1 z2 z3 z4 z5 z6 u0 u1' u2 u3 u4 u5 u6 HZ8
        generalize (w8.heap.size + 1) = gs at *
        generalize w8.heap.size = ga at *
        have HA := hide HT.out.at_
        have HS := hide HT.out.sc
        have hgs := hide HT.out.lt
        have HEa := hide HT.out.ex
        have HBl := hide HT.out.st
        have HR := HR3
        have hbs : Hid (¬ gs = b) := hide (fun q => by have := hgs.out; have := hbw.out; omega)
        have hgg : Hid (¬ w.heap.size = gs) := hide (fun q => by have := hgs.out; omega)
        have hle : Hid (w.heap.size ≤ gs) := hide (Nat.le_of_lt hgs.out)
        clear HT HR3
        cases hF21 : isF kElse ts3 with
        | true =>
          have hm : Calls Tryd.prog 64 #[.pointer (some ⟨b, 0, none⟩), .string ⟨#[101, 108, 115, 101]⟩] _ fun e w' => e = .returned (.bool (isF kElse (ts3))) ∧ AdvP _ b T (if isF kElse (ts3) then (ts3).tail else (ts3)) w' := met_any HA.out.1 HA.out.2.1 kElse
          rw [hF21] at hm
          simp only [if_true] at hm
          replace HR := hide (HR.out.trans (if_pos hF21))
          clear hF21
          go_upto_region 6 with (go_at_call 64; (with_reducible refine hm.mono ?_); rintro e wm21 ⟨rfl, hA⟩)
          have HEb := hide (ArgsV.keeps hA.2.2 (fun i hi q => by have := hi.1; have := hbw.out; omega) HEa.out)
          have HBb := hide (StsV.keeps hA.2.2 (fun i hi q => by have := hi.1; have := hbw.out; omega) HBl.out)
          replace HS := hide (HS.out.keeps hA.2.2 hbs.out)
          replace HA := hide (HA.out.adv hA hgb.out)
          clear HEa HBl
          have HEa := HEb
          have HBl := HBb
          clear HEb HBb
          clear hm hA
          cases hF22 : isF kIf ts3.tail with
          | true =>
            have hm : Calls Tryd.prog 86 #[.pointer (some ⟨b, 0, none⟩), .string ⟨#[105, 102]⟩] _ fun e w' => e = .returned (.bool (isF kIf (ts3.tail))) ∧ w' = _ := is_any HA.out.1 kIf
            rw [hF22] at hm
            replace HR := hide (HR.out.trans (if_pos hF22))
            clear hF22
            go_upto_region 7 with (go_at_call 86; (with_reducible refine hm.mono ?_); rintro e wm22 ⟨rfl, rfl⟩)
            clear hm
            have hne33 : ifD n (ts3.tail) ≠ .out := bind_out HR.out HRo.out
            have hc := HIf.out _ (ts3.tail) HA.out.1 HA.out.2.1 hne33
            cases hR33 : ifD n (ts3.tail) with
            | out => exact absurd hR33 (bind_out HR.out HRo.out)
            | no l er =>
              rw [hR33] at hc
              replace HR := hide (bind_no HR.out hR33)
              clear hR33 hne33
              go_wp2_with fail
              refine hc.mono ?_
              rintro e w9 ⟨rfl, h5, k5⟩
              refine ⟨rfl, ?_⟩
              rw [← hQ.out]
              exact part_no HR.out h5 HA.out.2.2.1 k5
            | ok y ts4 =>
              rw [hR33] at hc
              replace HR := hide (bind_ok HR.out hR33)
              clear hR33 hne33
              go_wp2_with fail
              have hb7 := hide (show gs < _ from HS.out.lt)
              refine hc.mono ?_
              rintro e w7 ⟨v0, rfl, ⟨cs, hv, hx⟩, hA⟩
              obtain ⟨k2, nm2, ky2, vl2, ep2, em2, ec2, bp2, bm2, bc2, lp2, lm2, lc2, rfl⟩ := hx.form
              replace hv : v0 = .agg #[.int .i64 k2, .string (sB nm2), .string (sB ky2), .string (sB vl2), .slice ep2 em2 ec2, .slice bp2 bm2 bc2, .slice lp2 lm2 lc2] := hv
              subst hv
              have HX := hide hx
              have hs7 := hide hA.2.2.size
              have HEb := hide (ArgsV.keeps hA.2.2 (fun i hi q => by have := hi.1; have := hbw.out; omega) HEa.out)
              have HBb := hide (StsV.keeps hA.2.2 (fun i hi q => by have := hi.1; have := hbw.out; omega) HBl.out)
              replace HS := hide (HS.out.keeps hA.2.2 hbs.out)
              replace HA := hide (HA.out.adv hA hgb.out)
              clear HEa HBl
              have HEa := HEb
              have HBl := HBb
              clear HEb HBb
              have kA := (Keeps.refl w7 (fun _ => False)).alloc (.cells #[.int .i64 k2, .string (sB nm2), .string (sB ky2), .string (sB vl2), .slice ep2 em2 ec2, .slice bp2 bm2 bc2, .slice lp2 lm2 lc2] 49)
              have hnew := hide (heap_alloc_new w7 (.cells #[.int .i64 k2, .string (sB nm2), .string (sB ky2), .string (sB vl2), .slice ep2 em2 ec2, .slice bp2 bm2 bc2, .slice lp2 lm2 lc2] 49))
              have HX3' := hide (HX.out.keeps kA (fun _ _ q => q))
              replace HEa := hide (ArgsV.keeps kA (fun _ _ q => q) HEa.out)
              replace HBl := hide (StsV.keeps kA (fun _ _ q => q) HBl.out)
              replace HS := hide (HS.out.keeps kA id)
              replace HA := hide (HA.out.new kA)
              clear hc hA hx kA HX
              obtain ⟨⟨d0, d1, d2, d3, d4, d5, d6⟩, e0, e1, e2, e3, e4, e5, e6⟩ := HS.out.cells
              go_upto_region 9 with fail
              refine Sc.set6 (P := fun W => Code.wp _ _ _ _ W) _ HS.out fun W1 h1 k1 => ?_
              replace HA := hide (HA.out.own k1 hle.out hbw.out hgg.out)
              have hnw := (k1.block _ (heap_lt hnew.out) (fun q => by have := hb7.out; have := hs7.out; omega)).trans hnew.out
              have HX2 := hide (HX3'.out.keeps k1 (fun i hi q => by have : _ ≤ i := hi; have := hb7.out; omega))
              have HXs : Hid (StsV W1 (fun i => w.heap.size < i) [y] (.slice (some ⟨w7.heap.size, 0, none⟩) 1 1)) := hide (StsV.some (l := [_]) (by have := hb7.out; have := hs7.out; have := hgs.out; omega) (heap_lt hnw) (Nat.le_refl _) (range_blk hnw) (StsC.cons (HX2.out.mono (fun i hi => by have : _ ≤ i := hi; have := hb7.out; have := hgs.out; omega)) StsC.nil))
              replace HEa := hide (ArgsV.keeps k1 (fun i hi q => hi.2 q) HEa.out)
              replace HBl := hide (StsV.keeps k1 (fun i hi q => hi.2 q) HBl.out)
              clear hnw
              replace HS := hide h1
              clear d0 d1 d2 d3 d4 d5 d6 e0 e1 e2 e3 e4 e5 e6
              clear h1 k1
              obtain ⟨⟨d0, d1, d2, d3, d4, d5, d6⟩, e0, e1, e2, e3, e4, e5, e6⟩ := HS.out.cells
              obtain ⟨⟨c0, c1, c2, c3, c4, c5, c6⟩, f0, f1, f2, f3, f4, f5, f6⟩ := HA.out.2.2.2.cells
              generalize hgz : w.heap.size = g at *
              replace hgz := hide hgz
              go_wp2_with fail
              refine set7 (P := fun W => bodyPost _ _ _ _ _ W) HA.out.2.2.2 fun W5 h11 k11 => ?_
              obtain ⟨⟨q0, q1, q2, q3, q4, q5, q6⟩, -⟩ := h11.cells
              refine bodyPost_ret (v := .agg #[.int .i64 6, .string ⟨#[]⟩, .string ⟨#[]⟩, .string ⟨#[]⟩, .slice (some ⟨ga, 0, none⟩) 1 1, .slice bp bm bc, .slice (some ⟨w7.heap.size, 0, none⟩) 1 1]) (by simp [results, Tryd.results89, go_sem, q0, q1, q2, q3, q4, q5, q6]) rfl ?_
              rw [← hQ.out]
              exact part_ok HR.out (res_st rfl hgz.out HA.out.2.2.1 (StC.mk (ArgsV.mono (P' := fun i => g < i) (fun i hi => hi.1) HEa.out) (StsV.mono (fun i hi => hi.1) HBl.out) HXs.out) (fun i hi => hi) HA.out.1 HA.out.2.1 hbw.out k11)
          | false =>
            have hm : Calls Tryd.prog 86 #[.pointer (some ⟨b, 0, none⟩), .string ⟨#[105, 102]⟩] _ fun e w' => e = .returned (.bool (isF kIf (ts3.tail))) ∧ w' = _ := is_any HA.out.1 kIf
            rw [hF22] at hm
            replace HR := hide (HR.out.trans (if_neg (by rw [hF22]; decide)))
            clear hF22
            go_upto_region 8 with (go_at_call 86; (with_reducible refine hm.mono ?_); rintro e wm22 ⟨rfl, rfl⟩)
            clear hm
            have hne32 : blockD n (ts3.tail) ≠ .out := bind_out HR.out HRo.out
            have hc := HBk.out _ (ts3.tail) HA.out.1 HA.out.2.1 hne32
            cases hR32 : blockD n (ts3.tail) with
            | out => exact absurd hR32 (bind_out HR.out HRo.out)
            | no l er =>
              rw [hR32] at hc
              replace HR := hide (bind_no HR.out hR32)
              clear hR32 hne32
              go_wp2_with fail
              refine hc.mono ?_
              rintro e w9 ⟨rfl, h5, k5⟩
              refine ⟨rfl, ?_⟩
              rw [← hQ.out]
              exact part_no HR.out h5 HA.out.2.2.1 k5
            | ok el ts4 =>
              rw [hR32] at hc
              replace HR := hide (bind_ok HR.out hR32)
              clear hR32 hne32
              go_wp2_with fail
              have hb7 := hide (show gs < _ from HS.out.lt)
              refine hc.mono ?_
              rintro e w7 ⟨v0, rfl, hx, hA⟩
              have hx' : StsV w7 (fun i => _ ≤ i) el v0 := hx
              obtain ⟨lp, lm, lc, rfl⟩ := hx'.form
              have HX := hide hx
              have HEb := hide (ArgsV.keeps hA.2.2 (fun i hi q => by have := hi.1; have := hbw.out; omega) HEa.out)
              have HBb := hide (StsV.keeps hA.2.2 (fun i hi q => by have := hi.1; have := hbw.out; omega) HBl.out)
              replace HS := hide (HS.out.keeps hA.2.2 hbs.out)
              replace HA := hide (HA.out.adv hA hgb.out)
              clear HEa HBl
              have HEa := HEb
              have HBl := HBb
              clear HEb HBb
              clear hc hA hx hx'
              obtain ⟨⟨d0, d1, d2, d3, d4, d5, d6⟩, e0, e1, e2, e3, e4, e5, e6⟩ := HS.out.cells
              go_upto_region 9 with fail
              refine Sc.set6 (P := fun W => Code.wp _ _ _ _ W) _ HS.out fun W1 h1 k1 => ?_
              replace HA := hide (HA.out.own k1 hle.out hbw.out hgg.out)
              have HX2 := hide (StsV.keeps k1 (fun i hi q => by have : _ ≤ i := hi; have := hb7.out; omega) HX.out)
              replace HEa := hide (ArgsV.keeps k1 (fun i hi q => hi.2 q) HEa.out)
              replace HBl := hide (StsV.keeps k1 (fun i hi q => hi.2 q) HBl.out)
              replace HS := hide h1
              clear d0 d1 d2 d3 d4 d5 d6 e0 e1 e2 e3 e4 e5 e6
              clear h1 k1
              obtain ⟨⟨d0, d1, d2, d3, d4, d5, d6⟩, e0, e1, e2, e3, e4, e5, e6⟩ := HS.out.cells
              obtain ⟨⟨c0, c1, c2, c3, c4, c5, c6⟩, f0, f1, f2, f3, f4, f5, f6⟩ := HA.out.2.2.2.cells
              generalize hgz : w.heap.size = g at *
              replace hgz := hide hgz
              go_wp2_with fail
              refine set7 (P := fun W => bodyPost _ _ _ _ _ W) HA.out.2.2.2 fun W5 h11 k11 => ?_
              obtain ⟨⟨q0, q1, q2, q3, q4, q5, q6⟩, -⟩ := h11.cells
              refine bodyPost_ret (v := .agg #[.int .i64 6, .string ⟨#[]⟩, .string ⟨#[]⟩, .string ⟨#[]⟩, .slice (some ⟨ga, 0, none⟩) 1 1, .slice bp bm bc, .slice lp lm lc]) (by simp [results, Tryd.results89, go_sem, q0, q1, q2, q3, q4, q5, q6]) rfl ?_
              rw [← hQ.out]
              exact part_ok HR.out (res_st rfl hgz.out HA.out.2.2.1 (StC.mk (ArgsV.mono (P' := fun i => g < i) (fun i hi => hi.1) HEa.out) (StsV.mono (fun i hi => hi.1) HBl.out) (StsV.mono (fun i hi => by have : _ ≤ i := hi; have : _ ≤ i := hi; have := hb7.out; have := hgs.out; omega) HX2.out)) (fun i hi => hi) HA.out.1 HA.out.2.1 hbw.out k11)
        | false =>
          have hm : Calls Tryd.prog 64 #[.pointer (some ⟨b, 0, none⟩), .string ⟨#[101, 108, 115, 101]⟩] _ fun e w' => e = .returned (.bool (isF kElse (ts3))) ∧ AdvP _ b T (if isF kElse (ts3) then (ts3).tail else (ts3)) w' := met_any HA.out.1 HA.out.2.1 kElse
          rw [hF21] at hm
          simp only [Bool.false_eq_true, if_false] at hm
          replace HR := hide (HR.out.trans (if_neg (by rw [hF21]; decide)))
          clear hF21
          go_upto_region 5 with (go_at_call 64; (with_reducible refine hm.mono ?_); rintro e wm21 ⟨rfl, hA⟩)
          have HEb := hide (ArgsV.keeps hA.2.2 (fun i hi q => by have := hi.1; have := hbw.out; omega) HEa.out)
          have HBb := hide (StsV.keeps hA.2.2 (fun i hi q => by have := hi.1; have := hbw.out; omega) HBl.out)
          replace HS := hide (HS.out.keeps hA.2.2 hbs.out)
          replace HA := hide (HA.out.adv hA hgb.out)
          clear HEa HBl
          have HEa := HEb
          have HBl := HBb
          clear HEb HBb
          clear hm hA
          obtain ⟨⟨d0, d1, d2, d3, d4, d5, d6⟩, e0, e1, e2, e3, e4, e5, e6⟩ := HS.out.cells
          obtain ⟨⟨c0, c1, c2, c3, c4, c5, c6⟩, f0, f1, f2, f3, f4, f5, f6⟩ := HA.out.2.2.2.cells
          generalize hgz : w.heap.size = g at *
          replace hgz := hide hgz
          go_wp2_with fail
          refine set7 (P := fun W => bodyPost _ _ _ _ _ W) HA.out.2.2.2 fun W5 h11 k11 => ?_
          obtain ⟨⟨q0, q1, q2, q3, q4, q5, q6⟩, -⟩ := h11.cells
          refine bodyPost_ret (v := .agg #[.int .i64 6, .string ⟨#[]⟩, .string ⟨#[]⟩, .string ⟨#[]⟩, .slice (some ⟨ga, 0, none⟩) 1 1, .slice bp bm bc, .slice none 0 0]) (by simp [results, Tryd.results89, go_sem, q0, q1, q2, q3, q4, q5, q6]) rfl ?_
          rw [← hQ.out]
          exact part_ok HR.out (res_st rfl hgz.out HA.out.2.2.1 (StC.mk (ArgsV.mono (P' := fun i => g < i) (fun i hi => hi.1) HEa.out) (StsV.mono (fun i hi => hi.1) HBl.out) StsV.nil) (fun i hi => hi) HA.out.1 HA.out.2.1 hbw.out k11)
      · have hsD : Hid (W3.drew.heap.size = W3.heap.size) := hide (by simp)
        go_upto_region 4 with fail
        refine alloc2v (P := fun W => Code.wp _ _ _ _ W) fun W9 h9 hx9 k9 => ?_
        have HT : Hid (IfT w b T x bl ts3 w8.heap.size (w8.heap.size + 1) (.slice bp bm bc) W9) := hide (IfT.mk' (cs := [.int .i64 k', .int .i64 n', .string (sB nm), .string (sB op), .slice sp sm sc]) HA8.out (by have := HAd.out.2.2.size; have := hsD.out; have := hg3.out; have := hgx3.out; have := hk8.out; have := hgx2.out; omega) hbw.out hx9 (by have := HAd.out.2.2.size; have := hsD.out; have := hg3.out; have := hgx3.out; have := hk8.out; have := hgx2.out; omega) (by have := HAd.out.2.2.size; have := hsD.out; have := hg3.out; have := hgx3.out; have := hk8.out; have := hgx2.out; omega) Hx8.out (fun i hi => by have h1 : _ ≤ i := hi.1; have h2 := hi.2; have := HAd.out.2.2.size; have := hsD.out; have := hg3.out; have := hgx3.out; have := hk8.out; have := hgx2.out; constructor <;> omega) HB8.out (fun i hi => by have h1 : _ ≤ i := hi.1; have h2 := hi.2; have := hg3.out; have := hgx3.out; have := hk8.out; have := hgx2.out; have := hsD.out; have := HAd.out.2.2.size; constructor <;> omega) (kF k9 _) h9)
        clear h9 hx9 k9
        clear hneB hcD0 hcDX hcDZ hcDXZ hcDZX hnXx hnZz hnXZx hnXZz hnZXz hnZXx x0 x1 x2 x3 x4 xz0 xz1 xz2 xz3 xz4 hsD hk8 Hx8 HB8 HAd HA8 hg8 H3 HX3 hgx3 HA HR kD0 kDX kDZ kDXZ kDZX hgx2 hg3 y0 y1 y2 y3 y4 yz0 yz1 yz2 yz3 yz4 z0 z1 z2 z3 z4 z5 z6 u0 u1' u2 u3 u4 u5 u6 HZ8
        generalize (w8.heap.size + 1) = ga at *
        generalize w8.heap.size = gs at *
        have HA := hide HT.out.at_
        have HS := hide HT.out.sc
        have hgs := hide HT.out.lt
        have HEa := hide HT.out.ex
        have HBl := hide HT.out.st
        have HR := HR3
        have hbs : Hid (¬ gs = b) := hide (fun q => by have := hgs.out; have := hbw.out; omega)
        have hgg : Hid (¬ w.heap.size = gs) := hide (fun q => by have := hgs.out; omega)
        have hle : Hid (w.heap.size ≤ gs) := hide (Nat.le_of_lt hgs.out)
        clear HT HR3
        cases hF21 : isF kElse ts3 with
        | true =>
          have hm : Calls Tryd.prog 64 #[.pointer (some ⟨b, 0, none⟩), .string ⟨#[101, 108, 115, 101]⟩] _ fun e w' => e = .returned (.bool (isF kElse (ts3))) ∧ AdvP _ b T (if isF kElse (ts3) then (ts3).tail else (ts3)) w' := met_any HA.out.1 HA.out.2.1 kElse
          rw [hF21] at hm
          simp only [if_true] at hm
          replace HR := hide (HR.out.trans (if_pos hF21))
          clear hF21
          go_upto_region 6 with (go_at_call 64; (with_reducible refine hm.mono ?_); rintro e wm21 ⟨rfl, hA⟩)
          have HEb := hide (ArgsV.keeps hA.2.2 (fun i hi q => by have := hi.1; have := hbw.out; omega) HEa.out)
          have HBb := hide (StsV.keeps hA.2.2 (fun i hi q => by have := hi.1; have := hbw.out; omega) HBl.out)
          replace HS := hide (HS.out.keeps hA.2.2 hbs.out)
          replace HA := hide (HA.out.adv hA hgb.out)
          clear HEa HBl
          have HEa := HEb
          have HBl := HBb
          clear HEb HBb
          clear hm hA
          cases hF22 : isF kIf ts3.tail with
          | true =>
            have hm : Calls Tryd.prog 86 #[.pointer (some ⟨b, 0, none⟩), .string ⟨#[105, 102]⟩] _ fun e w' => e = .returned (.bool (isF kIf (ts3.tail))) ∧ w' = _ := is_any HA.out.1 kIf
            rw [hF22] at hm
            replace HR := hide (HR.out.trans (if_pos hF22))
            clear hF22
            go_upto_region 7 with (go_at_call 86; (with_reducible refine hm.mono ?_); rintro e wm22 ⟨rfl, rfl⟩)
            clear hm
            have hne33 : ifD n (ts3.tail) ≠ .out := bind_out HR.out HRo.out
            have hc := HIf.out _ (ts3.tail) HA.out.1 HA.out.2.1 hne33
            cases hR33 : ifD n (ts3.tail) with
            | out => exact absurd hR33 (bind_out HR.out HRo.out)
            | no l er =>
              rw [hR33] at hc
              replace HR := hide (bind_no HR.out hR33)
              clear hR33 hne33
              go_wp2_with fail
              refine hc.mono ?_
              rintro e w9 ⟨rfl, h5, k5⟩
              refine ⟨rfl, ?_⟩
              rw [← hQ.out]
              exact part_no HR.out h5 HA.out.2.2.1 k5
            | ok y ts4 =>
              rw [hR33] at hc
              replace HR := hide (bind_ok HR.out hR33)
              clear hR33 hne33
              go_wp2_with fail
              have hb7 := hide (show gs < _ from HS.out.lt)
              refine hc.mono ?_
              rintro e w7 ⟨v0, rfl, ⟨cs, hv, hx⟩, hA⟩
              obtain ⟨k2, nm2, ky2, vl2, ep2, em2, ec2, bp2, bm2, bc2, lp2, lm2, lc2, rfl⟩ := hx.form
              replace hv : v0 = .agg #[.int .i64 k2, .string (sB nm2), .string (sB ky2), .string (sB vl2), .slice ep2 em2 ec2, .slice bp2 bm2 bc2, .slice lp2 lm2 lc2] := hv
              subst hv
              have HX := hide hx
              have hs7 := hide hA.2.2.size
              have HEb := hide (ArgsV.keeps hA.2.2 (fun i hi q => by have := hi.1; have := hbw.out; omega) HEa.out)
              have HBb := hide (StsV.keeps hA.2.2 (fun i hi q => by have := hi.1; have := hbw.out; omega) HBl.out)
              replace HS := hide (HS.out.keeps hA.2.2 hbs.out)
              replace HA := hide (HA.out.adv hA hgb.out)
              clear HEa HBl
              have HEa := HEb
              have HBl := HBb
              clear HEb HBb
              have kA := (Keeps.refl w7 (fun _ => False)).alloc (.cells #[.int .i64 k2, .string (sB nm2), .string (sB ky2), .string (sB vl2), .slice ep2 em2 ec2, .slice bp2 bm2 bc2, .slice lp2 lm2 lc2] 49)
              have hnew := hide (heap_alloc_new w7 (.cells #[.int .i64 k2, .string (sB nm2), .string (sB ky2), .string (sB vl2), .slice ep2 em2 ec2, .slice bp2 bm2 bc2, .slice lp2 lm2 lc2] 49))
              have HX3' := hide (HX.out.keeps kA (fun _ _ q => q))
              replace HEa := hide (ArgsV.keeps kA (fun _ _ q => q) HEa.out)
              replace HBl := hide (StsV.keeps kA (fun _ _ q => q) HBl.out)
              replace HS := hide (HS.out.keeps kA id)
              replace HA := hide (HA.out.new kA)
              clear hc hA hx kA HX
              obtain ⟨⟨d0, d1, d2, d3, d4, d5, d6⟩, e0, e1, e2, e3, e4, e5, e6⟩ := HS.out.cells
              go_upto_region 9 with fail
              refine Sc.set6 (P := fun W => Code.wp _ _ _ _ W) _ HS.out fun W1 h1 k1 => ?_
              replace HA := hide (HA.out.own k1 hle.out hbw.out hgg.out)
              have hnw := (k1.block _ (heap_lt hnew.out) (fun q => by have := hb7.out; have := hs7.out; omega)).trans hnew.out
              have HX2 := hide (HX3'.out.keeps k1 (fun i hi q => by have : _ ≤ i := hi; have := hb7.out; omega))
              have HXs : Hid (StsV W1 (fun i => w.heap.size < i) [y] (.slice (some ⟨w7.heap.size, 0, none⟩) 1 1)) := hide (StsV.some (l := [_]) (by have := hb7.out; have := hs7.out; have := hgs.out; omega) (heap_lt hnw) (Nat.le_refl _) (range_blk hnw) (StsC.cons (HX2.out.mono (fun i hi => by have : _ ≤ i := hi; have := hb7.out; have := hgs.out; omega)) StsC.nil))
              replace HEa := hide (ArgsV.keeps k1 (fun i hi q => hi.2 q) HEa.out)
              replace HBl := hide (StsV.keeps k1 (fun i hi q => hi.2 q) HBl.out)
              clear hnw
              replace HS := hide h1
              clear d0 d1 d2 d3 d4 d5 d6 e0 e1 e2 e3 e4 e5 e6
              clear h1 k1
              obtain ⟨⟨d0, d1, d2, d3, d4, d5, d6⟩, e0, e1, e2, e3, e4, e5, e6⟩ := HS.out.cells
              obtain ⟨⟨c0, c1, c2, c3, c4, c5, c6⟩, f0, f1, f2, f3, f4, f5, f6⟩ := HA.out.2.2.2.cells
              generalize hgz : w.heap.size = g at *
              replace hgz := hide hgz
              go_wp2_with fail
              refine set7 (P := fun W => bodyPost _ _ _ _ _ W) HA.out.2.2.2 fun W5 h11 k11 => ?_
              obtain ⟨⟨q0, q1, q2, q3, q4, q5, q6⟩, -⟩ := h11.cells
              refine bodyPost_ret (v := .agg #[.int .i64 6, .string ⟨#[]⟩, .string ⟨#[]⟩, .string ⟨#[]⟩, .slice (some ⟨ga, 0, none⟩) 1 1, .slice bp bm bc, .slice (some ⟨w7.heap.size, 0, none⟩) 1 1]) (by simp [results, Tryd.results89, go_sem, q0, q1, q2, q3, q4, q5, q6]) rfl ?_
              rw [← hQ.out]
              exact part_ok HR.out (res_st rfl hgz.out HA.out.2.2.1 (StC.mk (ArgsV.mono (P' := fun i => g < i) (fun i hi => hi.1) HEa.out) (StsV.mono (fun i hi => hi.1) HBl.out) HXs.out) (fun i hi => hi) HA.out.1 HA.out.2.1 hbw.out k11)
          | false =>
            have hm : Calls Tryd.prog 86 #[.pointer (some ⟨b, 0, none⟩), .string ⟨#[105, 102]⟩] _ fun e w' => e = .returned (.bool (isF kIf (ts3.tail))) ∧ w' = _ := is_any HA.out.1 kIf
            rw [hF22] at hm
            replace HR := hide (HR.out.trans (if_neg (by rw [hF22]; decide)))
            clear hF22
            go_upto_region 8 with (go_at_call 86; (with_reducible refine hm.mono ?_); rintro e wm22 ⟨rfl, rfl⟩)
            clear hm
            have hne32 : blockD n (ts3.tail) ≠ .out := bind_out HR.out HRo.out
            have hc := HBk.out _ (ts3.tail) HA.out.1 HA.out.2.1 hne32
            cases hR32 : blockD n (ts3.tail) with
            | out => exact absurd hR32 (bind_out HR.out HRo.out)
            | no l er =>
              rw [hR32] at hc
              replace HR := hide (bind_no HR.out hR32)
              clear hR32 hne32
              go_wp2_with fail
              refine hc.mono ?_
              rintro e w9 ⟨rfl, h5, k5⟩
              refine ⟨rfl, ?_⟩
              rw [← hQ.out]
              exact part_no HR.out h5 HA.out.2.2.1 k5
            | ok el ts4 =>
              rw [hR32] at hc
              replace HR := hide (bind_ok HR.out hR32)
              clear hR32 hne32
              go_wp2_with fail
              have hb7 := hide (show gs < _ from HS.out.lt)
              refine hc.mono ?_
              rintro e w7 ⟨v0, rfl, hx, hA⟩
              have hx' : StsV w7 (fun i => _ ≤ i) el v0 := hx
              obtain ⟨lp, lm, lc, rfl⟩ := hx'.form
              have HX := hide hx
              have HEb := hide (ArgsV.keeps hA.2.2 (fun i hi q => by have := hi.1; have := hbw.out; omega) HEa.out)
              have HBb := hide (StsV.keeps hA.2.2 (fun i hi q => by have := hi.1; have := hbw.out; omega) HBl.out)
              replace HS := hide (HS.out.keeps hA.2.2 hbs.out)
              replace HA := hide (HA.out.adv hA hgb.out)
              clear HEa HBl
              have HEa := HEb
              have HBl := HBb
              clear HEb HBb
              clear hc hA hx hx'
              obtain ⟨⟨d0, d1, d2, d3, d4, d5, d6⟩, e0, e1, e2, e3, e4, e5, e6⟩ := HS.out.cells
              go_upto_region 9 with fail
              refine Sc.set6 (P := fun W => Code.wp _ _ _ _ W) _ HS.out fun W1 h1 k1 => ?_
              replace HA := hide (HA.out.own k1 hle.out hbw.out hgg.out)
              have HX2 := hide (StsV.keeps k1 (fun i hi q => by have : _ ≤ i := hi; have := hb7.out; omega) HX.out)
              replace HEa := hide (ArgsV.keeps k1 (fun i hi q => hi.2 q) HEa.out)
              replace HBl := hide (StsV.keeps k1 (fun i hi q => hi.2 q) HBl.out)
              replace HS := hide h1
              clear d0 d1 d2 d3 d4 d5 d6 e0 e1 e2 e3 e4 e5 e6
              clear h1 k1
              obtain ⟨⟨d0, d1, d2, d3, d4, d5, d6⟩, e0, e1, e2, e3, e4, e5, e6⟩ := HS.out.cells
              obtain ⟨⟨c0, c1, c2, c3, c4, c5, c6⟩, f0, f1, f2, f3, f4, f5, f6⟩ := HA.out.2.2.2.cells
              generalize hgz : w.heap.size = g at *
              replace hgz := hide hgz
              go_wp2_with fail
              refine set7 (P := fun W => bodyPost _ _ _ _ _ W) HA.out.2.2.2 fun W5 h11 k11 => ?_
              obtain ⟨⟨q0, q1, q2, q3, q4, q5, q6⟩, -⟩ := h11.cells
              refine bodyPost_ret (v := .agg #[.int .i64 6, .string ⟨#[]⟩, .string ⟨#[]⟩, .string ⟨#[]⟩, .slice (some ⟨ga, 0, none⟩) 1 1, .slice bp bm bc, .slice lp lm lc]) (by simp [results, Tryd.results89, go_sem, q0, q1, q2, q3, q4, q5, q6]) rfl ?_
              rw [← hQ.out]
              exact part_ok HR.out (res_st rfl hgz.out HA.out.2.2.1 (StC.mk (ArgsV.mono (P' := fun i => g < i) (fun i hi => hi.1) HEa.out) (StsV.mono (fun i hi => hi.1) HBl.out) (StsV.mono (fun i hi => by have : _ ≤ i := hi; have : _ ≤ i := hi; have := hb7.out; have := hgs.out; omega) HX2.out)) (fun i hi => hi) HA.out.1 HA.out.2.1 hbw.out k11)
        | false =>
          have hm : Calls Tryd.prog 64 #[.pointer (some ⟨b, 0, none⟩), .string ⟨#[101, 108, 115, 101]⟩] _ fun e w' => e = .returned (.bool (isF kElse (ts3))) ∧ AdvP _ b T (if isF kElse (ts3) then (ts3).tail else (ts3)) w' := met_any HA.out.1 HA.out.2.1 kElse
          rw [hF21] at hm
          simp only [Bool.false_eq_true, if_false] at hm
          replace HR := hide (HR.out.trans (if_neg (by rw [hF21]; decide)))
          clear hF21
          go_upto_region 5 with (go_at_call 64; (with_reducible refine hm.mono ?_); rintro e wm21 ⟨rfl, hA⟩)
          have HEb := hide (ArgsV.keeps hA.2.2 (fun i hi q => by have := hi.1; have := hbw.out; omega) HEa.out)
          have HBb := hide (StsV.keeps hA.2.2 (fun i hi q => by have := hi.1; have := hbw.out; omega) HBl.out)
          replace HS := hide (HS.out.keeps hA.2.2 hbs.out)
          replace HA := hide (HA.out.adv hA hgb.out)
          clear HEa HBl
          have HEa := HEb
          have HBl := HBb
          clear HEb HBb
          clear hm hA
          obtain ⟨⟨d0, d1, d2, d3, d4, d5, d6⟩, e0, e1, e2, e3, e4, e5, e6⟩ := HS.out.cells
          obtain ⟨⟨c0, c1, c2, c3, c4, c5, c6⟩, f0, f1, f2, f3, f4, f5, f6⟩ := HA.out.2.2.2.cells
          generalize hgz : w.heap.size = g at *
          replace hgz := hide hgz
          go_wp2_with fail
          refine set7 (P := fun W => bodyPost _ _ _ _ _ W) HA.out.2.2.2 fun W5 h11 k11 => ?_
          obtain ⟨⟨q0, q1, q2, q3, q4, q5, q6⟩, -⟩ := h11.cells
          refine bodyPost_ret (v := .agg #[.int .i64 6, .string ⟨#[]⟩, .string ⟨#[]⟩, .string ⟨#[]⟩, .slice (some ⟨ga, 0, none⟩) 1 1, .slice bp bm bc, .slice none 0 0]) (by simp [results, Tryd.results89, go_sem, q0, q1, q2, q3, q4, q5, q6]) rfl ?_
          rw [← hQ.out]
          exact part_ok HR.out (res_st rfl hgz.out HA.out.2.2.1 (StC.mk (ArgsV.mono (P' := fun i => g < i) (fun i hi => hi.1) HEa.out) (StsV.mono (fun i hi => hi.1) HBl.out) StsV.nil) (fun i hi => hi) HA.out.1 HA.out.2.1 hbw.out k11)
      · have hsD : Hid (((W3.alloc (.cells #[.int .i64 0, .string ⟨#[]⟩, .string ⟨#[]⟩, .string ⟨#[]⟩, .slice none 0 0, .slice none 0 0, .slice none 0 0] 49)).alloc (.cells #[.int .i64 k', .int .i64 n', .string (sB nm), .string (sB op), .slice sp sm sc] 42)).drew.heap.size = W3.heap.size + 2) := hide (by simp)
        go_upto_region 4 with fail
        refine set7 (P := fun W => Code.wp _ _ _ _ W) HZ9.out fun W9 h9 k9 => ?_
        have HT : Hid (IfT w b T x bl ts3 (W3.heap.size) (W3.heap.size + 1) (.slice bp bm bc) W9) := hide (IfT.mk' (cs := [.int .i64 k', .int .i64 n', .string (sB nm), .string (sB op), .slice sp sm sc]) HA8.out (by have := HAd.out.2.2.size; have := hsD.out; have := hg3.out; have := hgx3.out; have := hk8.out; have := hgx2.out; omega) hbw.out ((k9.block _ (heap_lt HX9.out) (by have := HAd.out.2.2.size; have := hsD.out; have := hg3.out; have := hgx3.out; have := hk8.out; have := hgx2.out; omega)).trans HX9.out) (by have := HAd.out.2.2.size; have := hsD.out; have := hg3.out; have := hgx3.out; have := hk8.out; have := hgx2.out; omega) (by have := HAd.out.2.2.size; have := hsD.out; have := hg3.out; have := hgx3.out; have := hk8.out; have := hgx2.out; omega) Hx8.out (fun i hi => by have h1 : _ ≤ i := hi.1; have h2 := hi.2; have := HAd.out.2.2.size; have := hsD.out; have := hg3.out; have := hgx3.out; have := hk8.out; have := hgx2.out; constructor <;> omega) HB8.out (fun i hi => by have h1 : _ ≤ i := hi.1; have h2 := hi.2; have := hg3.out; have := hgx3.out; have := hk8.out; have := hgx2.out; have := hsD.out; have := HAd.out.2.2.size; constructor <;> omega) k9 h9)
        clear h9 k9
        clear hneB hcD0 hcDX hcDZ hcDXZ hcDZX hnXx hnZz hnXZx hnXZz hnZXz hnZXx x0 x1 x2 x3 x4 xz0 xz1 xz2 xz3 xz4 hsD hk8 Hx8 HB8 HAd HA8 hg8 H3 HX3 hgx3 HA HR kD0 kDX kDZ kDXZ kDZX hgx2 hg3 HX9 HZ9 z0 z1 z2 z3 z4 z5 z6 u0 u1' u2 u3 u4 u5 u6
        generalize (W3.heap.size + 1) = ga at *
        generalize W3.heap.size = gs at *
        have HA := hide HT.out.at_
        have HS := hide HT.out.sc
        have hgs := hide HT.out.lt
        have HEa := hide HT.out.ex
        have HBl := hide HT.out.st
        have HR := HR3
        have hbs : Hid (¬ gs = b) := hide (fun q => by have := hgs.out; have := hbw.out; omega)
        have hgg : Hid (¬ w.heap.size = gs) := hide (fun q => by have := hgs.out; omega)
        have hle : Hid (w.heap.size ≤ gs) := hide (Nat.le_of_lt hgs.out)
        clear HT HR3
        cases hF21 : isF kElse ts3 with
        | true =>
          have hm : Calls Tryd.prog 64 #[.pointer (some ⟨b, 0, none⟩), .string ⟨#[101, 108, 115, 101]⟩] _ fun e w' => e = .returned (.bool (isF kElse (ts3))) ∧ AdvP _ b T (if isF kElse (ts3) then (ts3).tail else (ts3)) w' := met_any HA.out.1 HA.out.2.1 kElse
          rw [hF21] at hm
          simp only [if_true] at hm
          replace HR := hide (HR.out.trans (if_pos hF21))
          clear hF21
          go_upto_region 6 with (go_at_call 64; (with_reducible refine hm.mono ?_); rintro e wm21 ⟨rfl, hA⟩)
          have HEb := hide (ArgsV.keeps hA.2.2 (fun i hi q => by have := hi.1; have := hbw.out; omega) HEa.out)
          have HBb := hide (StsV.keeps hA.2.2 (fun i hi q => by have := hi.1; have := hbw.out; omega) HBl.out)
          replace HS := hide (HS.out.keeps hA.2.2 hbs.out)
          replace HA := hide (HA.out.adv hA hgb.out)
          clear HEa HBl
          have HEa := HEb
          have HBl := HBb
          clear HEb HBb
          clear hm hA
          cases hF22 : isF kIf ts3.tail with
          | true =>
            have hm : Calls Tryd.prog 86 #[.pointer (some ⟨b, 0, none⟩), .string ⟨#[105, 102]⟩] _ fun e w' => e = .returned (.bool (isF kIf (ts3.tail))) ∧ w' = _ := is_any HA.out.1 kIf
            rw [hF22] at hm
            replace HR := hide (HR.out.trans (if_pos hF22))
            clear hF22
            go_upto_region 7 with (go_at_call 86; (with_reducible refine hm.mono ?_); rintro e wm22 ⟨rfl, rfl⟩)
            clear hm
            have hne33 : ifD n (ts3.tail) ≠ .out := bind_out HR.out HRo.out
            have hc := HIf.out _ (ts3.tail) HA.out.1 HA.out.2.1 hne33
            cases hR33 : ifD n (ts3.tail) with
            | out => exact absurd hR33 (bind_out HR.out HRo.out)
            | no l er =>
              rw [hR33] at hc
              replace HR := hide (bind_no HR.out hR33)
              clear hR33 hne33
              go_wp2_with fail
              refine hc.mono ?_
              rintro e w9 ⟨rfl, h5, k5⟩
              refine ⟨rfl, ?_⟩
              rw [← hQ.out]
              exact part_no HR.out h5 HA.out.2.2.1 k5
            | ok y ts4 =>
              rw [hR33] at hc
              replace HR := hide (bind_ok HR.out hR33)
              clear hR33 hne33
              go_wp2_with fail
              have hb7 := hide (show gs < _ from HS.out.lt)
              refine hc.mono ?_
              rintro e w7 ⟨v0, rfl, ⟨cs, hv, hx⟩, hA⟩
              obtain ⟨k2, nm2, ky2, vl2, ep2, em2, ec2, bp2, bm2, bc2, lp2, lm2, lc2, rfl⟩ := hx.form
              replace hv : v0 = .agg #[.int .i64 k2, .string (sB nm2), .string (sB ky2), .string (sB vl2), .slice ep2 em2 ec2, .slice bp2 bm2 bc2, .slice lp2 lm2 lc2] := hv
              subst hv
              have HX := hide hx
              have hs7 := hide hA.2.2.size
              have HEb := hide (ArgsV.keeps hA.2.2 (fun i hi q => by have := hi.1; have := hbw.out; omega) HEa.out)
              have HBb := hide (StsV.keeps hA.2.2 (fun i hi q => by have := hi.1; have := hbw.out; omega) HBl.out)
              replace HS := hide (HS.out.keeps hA.2.2 hbs.out)
              replace HA := hide (HA.out.adv hA hgb.out)
              clear HEa HBl
              have HEa := HEb
              have HBl := HBb
              clear HEb HBb
              have kA := (Keeps.refl w7 (fun _ => False)).alloc (.cells #[.int .i64 k2, .string (sB nm2), .string (sB ky2), .string (sB vl2), .slice ep2 em2 ec2, .slice bp2 bm2 bc2, .slice lp2 lm2 lc2] 49)
              have hnew := hide (heap_alloc_new w7 (.cells #[.int .i64 k2, .string (sB nm2), .string (sB ky2), .string (sB vl2), .slice ep2 em2 ec2, .slice bp2 bm2 bc2, .slice lp2 lm2 lc2] 49))
              have HX3' := hide (HX.out.keeps kA (fun _ _ q => q))
              replace HEa := hide (ArgsV.keeps kA (fun _ _ q => q) HEa.out)
              replace HBl := hide (StsV.keeps kA (fun _ _ q => q) HBl.out)
              replace HS := hide (HS.out.keeps kA id)
              replace HA := hide (HA.out.new kA)
              clear hc hA hx kA HX
              obtain ⟨⟨d0, d1, d2, d3, d4, d5, d6⟩, e0, e1, e2, e3, e4, e5, e6⟩ := HS.out.cells
              go_upto_region 9 with fail
              refine Sc.set6 (P := fun W => Code.wp _ _ _ _ W) _ HS.out fun W1 h1 k1 => ?_
              replace HA := hide (HA.out.own k1 hle.out hbw.out hgg.out)
              have hnw := (k1.block _ (heap_lt hnew.out) (fun q => by have := hb7.out; have := hs7.out; omega)).trans hnew.out
              have HX2 := hide (HX3'.out.keeps k1 (fun i hi q => by have : _ ≤ i := hi; have := hb7.out; omega))
              have HXs : Hid (StsV W1 (fun i => w.heap.size < i) [y] (.slice (some ⟨w7.heap.size, 0, none⟩) 1 1)) := hide (StsV.some (l := [_]) (by have := hb7.out; have := hs7.out; have := hgs.out; omega) (heap_lt hnw) (Nat.le_refl _) (range_blk hnw) (StsC.cons (HX2.out.mono (fun i hi => by have : _ ≤ i := hi; have := hb7.out; have := hgs.out; omega)) StsC.nil))
              replace HEa := hide (ArgsV.keeps k1 (fun i hi q => hi.2 q) HEa.out)
              replace HBl := hide (StsV.keeps k1 (fun i hi q => hi.2 q) HBl.out)
              clear hnw
              replace HS := hide h1
              clear d0 d1 d2 d3 d4 d5 d6 e0 e1 e2 e3 e4 e5 e6
              clear h1 k1
              obtain ⟨⟨d0, d1, d2, d3, d4, d5, d6⟩, e0, e1, e2, e3, e4, e5, e6⟩ := HS.out.cells
              obtain ⟨⟨c0, c1, c2, c3, c4, c5, c6⟩, f0, f1, f2, f3, f4, f5, f6⟩ := HA.out.2.2.2.cells
              generalize hgz : w.heap.size = g at *
              replace hgz := hide hgz
              go_wp2_with fail
              refine set7 (P := fun W => bodyPost _ _ _ _ _ W) HA.out.2.2.2 fun W5 h11 k11 => ?_
              obtain ⟨⟨q0, q1, q2, q3, q4, q5, q6⟩, -⟩ := h11.cells
              refine bodyPost_ret (v := .agg #[.int .i64 6, .string ⟨#[]⟩, .string ⟨#[]⟩, .string ⟨#[]⟩, .slice (some ⟨ga, 0, none⟩) 1 1, .slice bp bm bc, .slice (some ⟨w7.heap.size, 0, none⟩) 1 1]) (by simp [results, Tryd.results89, go_sem, q0, q1, q2, q3, q4, q5, q6]) rfl ?_
              rw [← hQ.out]
              exact part_ok HR.out (res_st rfl hgz.out HA.out.2.2.1 (StC.mk (ArgsV.mono (P' := fun i => g < i) (fun i hi => hi.1) HEa.out) (StsV.mono (fun i hi => hi.1) HBl.out) HXs.out) (fun i hi => hi) HA.out.1 HA.out.2.1 hbw.out k11)
          | false =>
            have hm : Calls Tryd.prog 86 #[.pointer (some ⟨b, 0, none⟩), .string ⟨#[105, 102]⟩] _ fun e w' => e = .returned (.bool (isF kIf (ts3.tail))) ∧ w' = _ := is_any HA.out.1 kIf
            rw [hF22] at hm
            replace HR := hide (HR.out.trans (if_neg (by rw [hF22]; decide)))
            clear hF22
            go_upto_region 8 with (go_at_call 86; (with_reducible refine hm.mono ?_); rintro e wm22 ⟨rfl, rfl⟩)
            clear hm
            have hne32 : blockD n (ts3.tail) ≠ .out := bind_out HR.out HRo.out
            have hc := HBk.out _ (ts3.tail) HA.out.1 HA.out.2.1 hne32
            cases hR32 : blockD n (ts3.tail) with
            | out => exact absurd hR32 (bind_out HR.out HRo.out)
            | no l er =>
              rw [hR32] at hc
              replace HR := hide (bind_no HR.out hR32)
              clear hR32 hne32
              go_wp2_with fail
              refine hc.mono ?_
              rintro e w9 ⟨rfl, h5, k5⟩
              refine ⟨rfl, ?_⟩
              rw [← hQ.out]
              exact part_no HR.out h5 HA.out.2.2.1 k5
            | ok el ts4 =>
              rw [hR32] at hc
              replace HR := hide (bind_ok HR.out hR32)
              clear hR32 hne32
              go_wp2_with fail
              have hb7 := hide (show gs < _ from HS.out.lt)
              refine hc.mono ?_
              rintro e w7 ⟨v0, rfl, hx, hA⟩
              have hx' : StsV w7 (fun i => _ ≤ i) el v0 := hx
              obtain ⟨lp, lm, lc, rfl⟩ := hx'.form
              have HX := hide hx
              have HEb := hide (ArgsV.keeps hA.2.2 (fun i hi q => by have := hi.1; have := hbw.out; omega) HEa.out)
              have HBb := hide (StsV.keeps hA.2.2 (fun i hi q => by have := hi.1; have := hbw.out; omega) HBl.out)
              replace HS := hide (HS.out.keeps hA.2.2 hbs.out)
              replace HA := hide (HA.out.adv hA hgb.out)
              clear HEa HBl
              have HEa := HEb
              have HBl := HBb
              clear HEb HBb
              clear hc hA hx hx'
              obtain ⟨⟨d0, d1, d2, d3, d4, d5, d6⟩, e0, e1, e2, e3, e4, e5, e6⟩ := HS.out.cells
              go_upto_region 9 with fail
              refine Sc.set6 (P := fun W => Code.wp _ _ _ _ W) _ HS.out fun W1 h1 k1 => ?_
              replace HA := hide (HA.out.own k1 hle.out hbw.out hgg.out)
              have HX2 := hide (StsV.keeps k1 (fun i hi q => by have : _ ≤ i := hi; have := hb7.out; omega) HX.out)
              replace HEa := hide (ArgsV.keeps k1 (fun i hi q => hi.2 q) HEa.out)
              replace HBl := hide (StsV.keeps k1 (fun i hi q => hi.2 q) HBl.out)
              replace HS := hide h1
              clear d0 d1 d2 d3 d4 d5 d6 e0 e1 e2 e3 e4 e5 e6
              clear h1 k1
              obtain ⟨⟨d0, d1, d2, d3, d4, d5, d6⟩, e0, e1, e2, e3, e4, e5, e6⟩ := HS.out.cells
              obtain ⟨⟨c0, c1, c2, c3, c4, c5, c6⟩, f0, f1, f2, f3, f4, f5, f6⟩ := HA.out.2.2.2.cells
              generalize hgz : w.heap.size = g at *
              replace hgz := hide hgz
              go_wp2_with fail
              refine set7 (P := fun W => bodyPost _ _ _ _ _ W) HA.out.2.2.2 fun W5 h11 k11 => ?_
              obtain ⟨⟨q0, q1, q2, q3, q4, q5, q6⟩, -⟩ := h11.cells
              refine bodyPost_ret (v := .agg #[.int .i64 6, .string ⟨#[]⟩, .string ⟨#[]⟩, .string ⟨#[]⟩, .slice (some ⟨ga, 0, none⟩) 1 1, .slice bp bm bc, .slice lp lm lc]) (by simp [results, Tryd.results89, go_sem, q0, q1, q2, q3, q4, q5, q6]) rfl ?_
              rw [← hQ.out]
              exact part_ok HR.out (res_st rfl hgz.out HA.out.2.2.1 (StC.mk (ArgsV.mono (P' := fun i => g < i) (fun i hi => hi.1) HEa.out) (StsV.mono (fun i hi => hi.1) HBl.out) (StsV.mono (fun i hi => by have : _ ≤ i := hi; have : _ ≤ i := hi; have := hb7.out; have := hgs.out; omega) HX2.out)) (fun i hi => hi) HA.out.1 HA.out.2.1 hbw.out k11)
        | false =>
          have hm : Calls Tryd.prog 64 #[.pointer (some ⟨b, 0, none⟩), .string ⟨#[101, 108, 115, 101]⟩] _ fun e w' => e = .returned (.bool (isF kElse (ts3))) ∧ AdvP _ b T (if isF kElse (ts3) then (ts3).tail else (ts3)) w' := met_any HA.out.1 HA.out.2.1 kElse
          rw [hF21] at hm
          simp only [Bool.false_eq_true, if_false] at hm
          replace HR := hide (HR.out.trans (if_neg (by rw [hF21]; decide)))
          clear hF21
          go_upto_region 5 with (go_at_call 64; (with_reducible refine hm.mono ?_); rintro e wm21 ⟨rfl, hA⟩)
          have HEb := hide (ArgsV.keeps hA.2.2 (fun i hi q => by have := hi.1; have := hbw.out; omega) HEa.out)
          have HBb := hide (StsV.keeps hA.2.2 (fun i hi q => by have := hi.1; have := hbw.out; omega) HBl.out)
          replace HS := hide (HS.out.keeps hA.2.2 hbs.out)
          replace HA := hide (HA.out.adv hA hgb.out)
          clear HEa HBl
          have HEa := HEb
          have HBl := HBb
          clear HEb HBb
          clear hm hA
          obtain ⟨⟨d0, d1, d2, d3, d4, d5, d6⟩, e0, e1, e2, e3, e4, e5, e6⟩ := HS.out.cells
          obtain ⟨⟨c0, c1, c2, c3, c4, c5, c6⟩, f0, f1, f2, f3, f4, f5, f6⟩ := HA.out.2.2.2.cells
          generalize hgz : w.heap.size = g at *
          replace hgz := hide hgz
          go_wp2_with fail
          refine set7 (P := fun W => bodyPost _ _ _ _ _ W) HA.out.2.2.2 fun W5 h11 k11 => ?_
          obtain ⟨⟨q0, q1, q2, q3, q4, q5, q6⟩, -⟩ := h11.cells
          refine bodyPost_ret (v := .agg #[.int .i64 6, .string ⟨#[]⟩, .string ⟨#[]⟩, .string ⟨#[]⟩, .slice (some ⟨ga, 0, none⟩) 1 1, .slice bp bm bc, .slice none 0 0]) (by simp [results, Tryd.results89, go_sem, q0, q1, q2, q3, q4, q5, q6]) rfl ?_
          rw [← hQ.out]
          exact part_ok HR.out (res_st rfl hgz.out HA.out.2.2.1 (StC.mk (ArgsV.mono (P' := fun i => g < i) (fun i hi => hi.1) HEa.out) (StsV.mono (fun i hi => hi.1) HBl.out) StsV.nil) (fun i hi => hi) HA.out.1 HA.out.2.1 hbw.out k11)
      · have hsD : Hid ((W3.alloc (.cells #[.int .i64 0, .string ⟨#[]⟩, .string ⟨#[]⟩, .string ⟨#[]⟩, .slice none 0 0, .slice none 0 0, .slice none 0 0] 49)).drew.heap.size = W3.heap.size + 1) := hide (by simp)
        go_upto_region 4 with fail
        refine set7 (P := fun W => Code.wp _ _ _ _ W) HZ9.out fun W9 h9 k9 => ?_
        have HT : Hid (IfT w b T x bl ts3 (W3.heap.size) (w8.heap.size) (.slice bp bm bc) W9) := hide (IfT.mk' (cs := [.int .i64 k', .int .i64 n', .string (sB nm), .string (sB op), .slice sp sm sc]) (HA8.out.new ((Keeps.refl w8 (fun _ => False)).alloc _)) (by have := HAd.out.2.2.size; have := hsD.out; have := hg3.out; have := hgx3.out; have := hk8.out; have := hgx2.out; omega) hbw.out ((k9.block _ (heap_lt (heap_alloc_new w8 _)) (by have := HAd.out.2.2.size; have := hsD.out; have := hg3.out; have := hgx3.out; have := hk8.out; have := hgx2.out; omega)).trans (heap_alloc_new w8 _)) (by have := HAd.out.2.2.size; have := hsD.out; have := hg3.out; have := hgx3.out; have := hk8.out; have := hgx2.out; omega) (by have := HAd.out.2.2.size; have := hsD.out; have := hg3.out; have := hgx3.out; have := hk8.out; have := hgx2.out; omega) (Hx8.out.keeps ((Keeps.refl w8 (fun _ => False)).alloc _) (fun _ _ q => q)) (fun i hi => by have h1 : _ ≤ i := hi.1; have h2 := hi.2; have := HAd.out.2.2.size; have := hsD.out; have := hg3.out; have := hgx3.out; have := hk8.out; have := hgx2.out; constructor <;> omega) (StsV.keeps ((Keeps.refl w8 (fun _ => False)).alloc _) (fun _ _ q => q) HB8.out) (fun i hi => by have h1 : _ ≤ i := hi.1; have h2 := hi.2; have := hg3.out; have := hgx3.out; have := hk8.out; have := hgx2.out; have := hsD.out; have := HAd.out.2.2.size; constructor <;> omega) k9 h9)
        clear h9 k9
        clear hneB hcD0 hcDX hcDZ hcDXZ hcDZX hnXx hnZz hnXZx hnXZz hnZXz hnZXx x0 x1 x2 x3 x4 xz0 xz1 xz2 xz3 xz4 hsD hk8 Hx8 HB8 HAd HA8 hg8 H3 HX3 hgx3 HA HR kD0 kDX kDZ kDXZ kDZX hgx2 hg3 y0 y1 y2 y3 y4 z0 z1 z2 z3 z4 z5 z6 u0 u1' u2 u3 u4 u5 u6 HZ9
        generalize w8.heap.size = ga at *
        generalize W3.heap.size = gs at *
        have HA := hide HT.out.at_
        have HS := hide HT.out.sc
        have hgs := hide HT.out.lt
        have HEa := hide HT.out.ex
        have HBl := hide HT.out.st
        have HR := HR3
        have hbs : Hid (¬ gs = b) := hide (fun q => by have := hgs.out; have := hbw.out; omega)
        have hgg : Hid (¬ w.heap.size = gs) := hide (fun q => by have := hgs.out; omega)
        have hle : Hid (w.heap.size ≤ gs) := hide (Nat.le_of_lt hgs.out)
        clear HT HR3
        cases hF21 : isF kElse ts3 with
        | true =>
          have hm : Calls Tryd.prog 64 #[.pointer (some ⟨b, 0, none⟩), .string ⟨#[101, 108, 115, 101]⟩] _ fun e w' => e = .returned (.bool (isF kElse (ts3))) ∧ AdvP _ b T (if isF kElse (ts3) then (ts3).tail else (ts3)) w' := met_any HA.out.1 HA.out.2.1 kElse
          rw [hF21] at hm
          simp only [if_true] at hm
          replace HR := hide (HR.out.trans (if_pos hF21))
          clear hF21
          go_upto_region 6 with (go_at_call 64; (with_reducible refine hm.mono ?_); rintro e wm21 ⟨rfl, hA⟩)
          have HEb := hide (ArgsV.keeps hA.2.2 (fun i hi q => by have := hi.1; have := hbw.out; omega) HEa.out)
          have HBb := hide (StsV.keeps hA.2.2 (fun i hi q => by have := hi.1; have := hbw.out; omega) HBl.out)
          replace HS := hide (HS.out.keeps hA.2.2 hbs.out)
          replace HA := hide (HA.out.adv hA hgb.out)
          clear HEa HBl
          have HEa := HEb
          have HBl := HBb
          clear HEb HBb
          clear hm hA
          cases hF22 : isF kIf ts3.tail with
          | true =>
            have hm : Calls Tryd.prog 86 #[.pointer (some ⟨b, 0, none⟩), .string ⟨#[105, 102]⟩] _ fun e w' => e = .returned (.bool (isF kIf (ts3.tail))) ∧ w' = _ := is_any HA.out.1 kIf
            rw [hF22] at hm
            replace HR := hide (HR.out.trans (if_pos hF22))
            clear hF22
            go_upto_region 7 with (go_at_call 86; (with_reducible refine hm.mono ?_); rintro e wm22 ⟨rfl, rfl⟩)
            clear hm
            have hne33 : ifD n (ts3.tail) ≠ .out := bind_out HR.out HRo.out
            have hc := HIf.out _ (ts3.tail) HA.out.1 HA.out.2.1 hne33
            cases hR33 : ifD n (ts3.tail) with
            | out => exact absurd hR33 (bind_out HR.out HRo.out)
            | no l er =>
              rw [hR33] at hc
              replace HR := hide (bind_no HR.out hR33)
              clear hR33 hne33
              go_wp2_with fail
              refine hc.mono ?_
              rintro e w9 ⟨rfl, h5, k5⟩
              refine ⟨rfl, ?_⟩
              rw [← hQ.out]
              exact part_no HR.out h5 HA.out.2.2.1 k5
            | ok y ts4 =>
              rw [hR33] at hc
              replace HR := hide (bind_ok HR.out hR33)
              clear hR33 hne33
              go_wp2_with fail
              have hb7 := hide (show gs < _ from HS.out.lt)
              refine hc.mono ?_
              rintro e w7 ⟨v0, rfl, ⟨cs, hv, hx⟩, hA⟩
              obtain ⟨k2, nm2, ky2, vl2, ep2, em2, ec2, bp2, bm2, bc2, lp2, lm2, lc2, rfl⟩ := hx.form
              replace hv : v0 = .agg #[.int .i64 k2, .string (sB nm2), .string (sB ky2), .string (sB vl2), .slice ep2 em2 ec2, .slice bp2 bm2 bc2, .slice lp2 lm2 lc2] := hv
              subst hv
              have HX := hide hx
              have hs7 := hide hA.2.2.size
              have HEb := hide (ArgsV.keeps hA.2.2 (fun i hi q => by have := hi.1; have := hbw.out; omega) HEa.out)
              have HBb := hide (StsV.keeps hA.2.2 (fun i hi q => by have := hi.1; have := hbw.out; omega) HBl.out)
              replace HS := hide (HS.out.keeps hA.2.2 hbs.out)
              replace HA := hide (HA.out.adv hA hgb.out)
              clear HEa HBl
              have HEa := HEb
              have HBl := HBb
              clear HEb HBb
              have kA := (Keeps.refl w7 (fun _ => False)).alloc (.cells #[.int .i64 k2, .string (sB nm2), .string (sB ky2), .string (sB vl2), .slice ep2 em2 ec2, .slice bp2 bm2 bc2, .slice lp2 lm2 lc2] 49)
              have hnew := hide (heap_alloc_new w7 (.cells #[.int .i64 k2, .string (sB nm2), .string (sB ky2), .string (sB vl2), .slice ep2 em2 ec2, .slice bp2 bm2 bc2, .slice lp2 lm2 lc2] 49))
              have HX3' := hide (HX.out.keeps kA (fun _ _ q => q))
              replace HEa := hide (ArgsV.keeps kA (fun _ _ q => q) HEa.out)
              replace HBl := hide (StsV.keeps kA (fun _ _ q => q) HBl.out)
              replace HS := hide (HS.out.keeps kA id)
              replace HA := hide (HA.out.new kA)
              clear hc hA hx kA HX
              obtain ⟨⟨d0, d1, d2, d3, d4, d5, d6⟩, e0, e1, e2, e3, e4, e5, e6⟩ := HS.out.cells
              go_upto_region 9 with fail
              refine Sc.set6 (P := fun W => Code.wp _ _ _ _ W) _ HS.out fun W1 h1 k1 => ?_
              replace HA := hide (HA.out.own k1 hle.out hbw.out hgg.out)
              have hnw := (k1.block _ (heap_lt hnew.out) (fun q => by have := hb7.out; have := hs7.out; omega)).trans hnew.out
              have HX2 := hide (HX3'.out.keeps k1 (fun i hi q => by have : _ ≤ i := hi; have := hb7.out; omega))
              have HXs : Hid (StsV W1 (fun i => w.heap.size < i) [y] (.slice (some ⟨w7.heap.size, 0, none⟩) 1 1)) := hide (StsV.some (l := [_]) (by have := hb7.out; have := hs7.out; have := hgs.out; omega) (heap_lt hnw) (Nat.le_refl _) (range_blk hnw) (StsC.cons (HX2.out.mono (fun i hi => by have : _ ≤ i := hi; have := hb7.out; have := hgs.out; omega)) StsC.nil))
              replace HEa := hide (ArgsV.keeps k1 (fun i hi q => hi.2 q) HEa.out)
              replace HBl := hide (StsV.keeps k1 (fun i hi q => hi.2 q) HBl.out)
              clear hnw
              replace HS := hide h1
              clear d0 d1 d2 d3 d4 d5 d6 e0 e1 e2 e3 e4 e5 e6
              clear h1 k1
              obtain ⟨⟨d0, d1, d2, d3, d4, d5, d6⟩, e0, e1, e2, e3, e4, e5, e6⟩ := HS.out.cells
              obtain ⟨⟨c0, c1, c2, c3, c4, c5, c6⟩, f0, f1, f2, f3, f4, f5, f6⟩ := HA.out.2.2.2.cells
              generalize hgz : w.heap.size = g at *
              replace hgz := hide hgz
              go_wp2_with fail
              refine set7 (P := fun W => bodyPost _ _ _ _ _ W) HA.out.2.2.2 fun W5 h11 k11 => ?_
              obtain ⟨⟨q0, q1, q2, q3, q4, q5, q6⟩, -⟩ := h11.cells
              refine bodyPost_ret (v := .agg #[.int .i64 6, .string ⟨#[]⟩, .string ⟨#[]⟩, .string ⟨#[]⟩, .slice (some ⟨ga, 0, none⟩) 1 1, .slice bp bm bc, .slice (some ⟨w7.heap.size, 0, none⟩) 1 1]) (by simp [results, Tryd.results89, go_sem, q0, q1, q2, q3, q4, q5, q6]) rfl ?_
              rw [← hQ.out]
              exact part_ok HR.out (res_st rfl hgz.out HA.out.2.2.1 (StC.mk (ArgsV.mono (P' := fun i => g < i) (fun i hi => hi.1) HEa.out) (StsV.mono (fun i hi => hi.1) HBl.out) HXs.out) (fun i hi => hi) HA.out.1 HA.out.2.1 hbw.out k11)
          | false =>
            have hm : Calls Tryd.prog 86 #[.pointer (some ⟨b, 0, none⟩), .string ⟨#[105, 102]⟩] _ fun e w' => e = .returned (.bool (isF kIf (ts3.tail))) ∧ w' = _ := is_any HA.out.1 kIf
            rw [hF22] at hm
            replace HR := hide (HR.out.trans (if_neg (by rw [hF22]; decide)))
            clear hF22
            go_upto_region 8 with (go_at_call 86; (with_reducible refine hm.mono ?_); rintro e wm22 ⟨rfl, rfl⟩)
            clear hm
            have hne32 : blockD n (ts3.tail) ≠ .out := bind_out HR.out HRo.out
            have hc := HBk.out _ (ts3.tail) HA.out.1 HA.out.2.1 hne32
            cases hR32 : blockD n (ts3.tail) with
            | out => exact absurd hR32 (bind_out HR.out HRo.out)
            | no l er =>
              rw [hR32] at hc
              replace HR := hide (bind_no HR.out hR32)
              clear hR32 hne32
              go_wp2_with fail
              refine hc.mono ?_
              rintro e w9 ⟨rfl, h5, k5⟩
              refine ⟨rfl, ?_⟩
              rw [← hQ.out]
              exact part_no HR.out h5 HA.out.2.2.1 k5
            | ok el ts4 =>
              rw [hR32] at hc
              replace HR := hide (bind_ok HR.out hR32)
              clear hR32 hne32
              go_wp2_with fail
              have hb7 := hide (show gs < _ from HS.out.lt)
              refine hc.mono ?_
              rintro e w7 ⟨v0, rfl, hx, hA⟩
              have hx' : StsV w7 (fun i => _ ≤ i) el v0 := hx
              obtain ⟨lp, lm, lc, rfl⟩ := hx'.form
              have HX := hide hx
              have HEb := hide (ArgsV.keeps hA.2.2 (fun i hi q => by have := hi.1; have := hbw.out; omega) HEa.out)
              have HBb := hide (StsV.keeps hA.2.2 (fun i hi q => by have := hi.1; have := hbw.out; omega) HBl.out)
              replace HS := hide (HS.out.keeps hA.2.2 hbs.out)
              replace HA := hide (HA.out.adv hA hgb.out)
              clear HEa HBl
              have HEa := HEb
              have HBl := HBb
              clear HEb HBb
              clear hc hA hx hx'
              obtain ⟨⟨d0, d1, d2, d3, d4, d5, d6⟩, e0, e1, e2, e3, e4, e5, e6⟩ := HS.out.cells
              go_upto_region 9 with fail
              refine Sc.set6 (P := fun W => Code.wp _ _ _ _ W) _ HS.out fun W1 h1 k1 => ?_
              replace HA := hide (HA.out.own k1 hle.out hbw.out hgg.out)
              have HX2 := hide (StsV.keeps k1 (fun i hi q => by have : _ ≤ i := hi; have := hb7.out; omega) HX.out)
              replace HEa := hide (ArgsV.keeps k1 (fun i hi q => hi.2 q) HEa.out)
              replace HBl := hide (StsV.keeps k1 (fun i hi q => hi.2 q) HBl.out)
              replace HS := hide h1
              clear d0 d1 d2 d3 d4 d5 d6 e0 e1 e2 e3 e4 e5 e6
              clear h1 k1
              obtain ⟨⟨d0, d1, d2, d3, d4, d5, d6⟩, e0, e1, e2, e3, e4, e5, e6⟩ := HS.out.cells
              obtain ⟨⟨c0, c1, c2, c3, c4, c5, c6⟩, f0, f1, f2, f3, f4, f5, f6⟩ := HA.out.2.2.2.cells
              generalize hgz : w.heap.size = g at *
              replace hgz := hide hgz
              go_wp2_with fail
              refine set7 (P := fun W => bodyPost _ _ _ _ _ W) HA.out.2.2.2 fun W5 h11 k11 => ?_
              obtain ⟨⟨q0, q1, q2, q3, q4, q5, q6⟩, -⟩ := h11.cells
              refine bodyPost_ret (v := .agg #[.int .i64 6, .string ⟨#[]⟩, .string ⟨#[]⟩, .string ⟨#[]⟩, .slice (some ⟨ga, 0, none⟩) 1 1, .slice bp bm bc, .slice lp lm lc]) (by simp [results, Tryd.results89, go_sem, q0, q1, q2, q3, q4, q5, q6]) rfl ?_
              rw [← hQ.out]
              exact part_ok HR.out (res_st rfl hgz.out HA.out.2.2.1 (StC.mk (ArgsV.mono (P' := fun i => g < i) (fun i hi => hi.1) HEa.out) (StsV.mono (fun i hi => hi.1) HBl.out) (StsV.mono (fun i hi => by have : _ ≤ i := hi; have : _ ≤ i := hi; have := hb7.out; have := hgs.out; omega) HX2.out)) (fun i hi => hi) HA.out.1 HA.out.2.1 hbw.out k11)
        | false =>
          have hm : Calls Tryd.prog 64 #[.pointer (some ⟨b, 0, none⟩), .string ⟨#[101, 108, 115, 101]⟩] _ fun e w' => e = .returned (.bool (isF kElse (ts3))) ∧ AdvP _ b T (if isF kElse (ts3) then (ts3).tail else (ts3)) w' := met_any HA.out.1 HA.out.2.1 kElse
          rw [hF21] at hm
          simp only [Bool.false_eq_true, if_false] at hm
          replace HR := hide (HR.out.trans (if_neg (by rw [hF21]; decide)))
          clear hF21
          go_upto_region 5 with (go_at_call 64; (with_reducible refine hm.mono ?_); rintro e wm21 ⟨rfl, hA⟩)
          have HEb := hide (ArgsV.keeps hA.2.2 (fun i hi q => by have := hi.1; have := hbw.out; omega) HEa.out)
          have HBb := hide (StsV.keeps hA.2.2 (fun i hi q => by have := hi.1; have := hbw.out; omega) HBl.out)
          replace HS := hide (HS.out.keeps hA.2.2 hbs.out)
          replace HA := hide (HA.out.adv hA hgb.out)
          clear HEa HBl
          have HEa := HEb
          have HBl := HBb
          clear HEb HBb
          clear hm hA
          obtain ⟨⟨d0, d1, d2, d3, d4, d5, d6⟩, e0, e1, e2, e3, e4, e5, e6⟩ := HS.out.cells
          obtain ⟨⟨c0, c1, c2, c3, c4, c5, c6⟩, f0, f1, f2, f3, f4, f5, f6⟩ := HA.out.2.2.2.cells
          generalize hgz : w.heap.size = g at *
          replace hgz := hide hgz
          go_wp2_with fail
          refine set7 (P := fun W => bodyPost _ _ _ _ _ W) HA.out.2.2.2 fun W5 h11 k11 => ?_
          obtain ⟨⟨q0, q1, q2, q3, q4, q5, q6⟩, -⟩ := h11.cells
          refine bodyPost_ret (v := .agg #[.int .i64 6, .string ⟨#[]⟩, .string ⟨#[]⟩, .string ⟨#[]⟩, .slice (some ⟨ga, 0, none⟩) 1 1, .slice bp bm bc, .slice none 0 0]) (by simp [results, Tryd.results89, go_sem, q0, q1, q2, q3, q4, q5, q6]) rfl ?_
          rw [← hQ.out]
          exact part_ok HR.out (res_st rfl hgz.out HA.out.2.2.1 (StC.mk (ArgsV.mono (P' := fun i => g < i) (fun i hi => hi.1) HEa.out) (StsV.mono (fun i hi => hi.1) HBl.out) StsV.nil) (fun i hi => hi) HA.out.1 HA.out.2.1 hbw.out k11)
      · have hsD : Hid (W3.drew.heap.size = W3.heap.size) := hide (by simp)
        go_upto_region 4 with fail
        refine alloc2v (P := fun W => Code.wp _ _ _ _ W) fun W9 hx9 h9 k9 => ?_
        have HT : Hid (IfT w b T x bl ts3 (w8.heap.size + 1) w8.heap.size (.slice bp bm bc) W9) := hide (IfT.mk' (cs := [.int .i64 k', .int .i64 n', .string (sB nm), .string (sB op), .slice sp sm sc]) HA8.out (by have := HAd.out.2.2.size; have := hsD.out; have := hg3.out; have := hgx3.out; have := hk8.out; have := hgx2.out; omega) hbw.out hx9 (by have := HAd.out.2.2.size; have := hsD.out; have := hg3.out; have := hgx3.out; have := hk8.out; have := hgx2.out; omega) (by have := HAd.out.2.2.size; have := hsD.out; have := hg3.out; have := hgx3.out; have := hk8.out; have := hgx2.out; omega) Hx8.out (fun i hi => by have h1 : _ ≤ i := hi.1; have h2 := hi.2; have := HAd.out.2.2.size; have := hsD.out; have := hg3.out; have := hgx3.out; have := hk8.out; have := hgx2.out; constructor <;> omega) HB8.out (fun i hi => by have h1 : _ ≤ i := hi.1; have h2 := hi.2; have := hg3.out; have := hgx3.out; have := hk8.out; have := hgx2.out; have := hsD.out; have := HAd.out.2.2.size; constructor <;> omega) (kF k9 _) h9)
        clear h9 hx9 k9
        clear hneB hcD0 hcDX hcDZ hcDXZ hcDZX hnXx hnZz hnXZx hnXZz hnZXz hnZXx x0 x1 x2 x3 x4 xz0 xz1 xz2 xz3 xz4 hsD hk8 Hx8 HB8 HAd HA8 hg8 H3 HX3 hgx3 HA HR kD0 kDX kDZ kDXZ kDZX hgx2 hg3 y0 y1 y2 y3 y4 yz0 yz1 yz2 yz3 yz4 z0 z1 z2 z3 z4 z5 z6 u0 u1' u2 u3 u4 u5 u6 HZ8
        generalize (w8.heap.size + 1) = gs at *
        generalize w8.heap.size = ga at *
        have HA := hide HT.out.at_
        have HS := hide HT.out.sc
        have hgs := hide HT.out.lt
        have HEa := hide HT.out.ex
        have HBl := hide HT.out.st
        have HR := HR3
        have hbs : Hid (¬ gs = b) := hide (fun q => by have := hgs.out; have := hbw.out; omega)
        have hgg : Hid (¬ w.heap.size = gs) := hide (fun q => by have := hgs.out; omega)
        have hle : Hid (w.heap.size ≤ gs) := hide (Nat.le_of_lt hgs.out)
        clear HT HR3
        cases hF21 : isF kElse ts3 with
        | true =>
          have hm : Calls Tryd.prog 64 #[.pointer (some ⟨b, 0, none⟩), .string ⟨#[101, 108, 115, 101]⟩] _ fun e w' => e = .returned (.bool (isF kElse (ts3))) ∧ AdvP _ b T (if isF kElse (ts3) then (ts3).tail else (ts3)) w' := met_any HA.out.1 HA.out.2.1 kElse
          rw [hF21] at hm
          simp only [if_true] at hm
          replace HR := hide (HR.out.trans (if_pos hF21))
          clear hF21
          go_upto_region 6 with (go_at_call 64; (with_reducible refine hm.mono ?_); rintro e wm21 ⟨rfl, hA⟩)
          have HEb := hide (ArgsV.keeps hA.2.2 (fun i hi q => by have := hi.1; have := hbw.out; omega) HEa.out)
          have HBb := hide (StsV.keeps hA.2.2 (fun i hi q => by have := hi.1; have := hbw.out; omega) HBl.out)
          replace HS := hide (HS.out.keeps hA.2.2 hbs.out)
          replace HA := hide (HA.out.adv hA hgb.out)
          clear HEa HBl
          have HEa := HEb
          have HBl := HBb
          clear HEb HBb
          clear hm hA
          cases hF22 : isF kIf ts3.tail with
          | true =>
            have hm : Calls Tryd.prog 86 #[.pointer (some ⟨b, 0, none⟩), .string ⟨#[105, 102]⟩] _ fun e w' => e = .returned (.bool (isF kIf (ts3.tail))) ∧ w' = _ := is_any HA.out.1 kIf
            rw [hF22] at hm
            replace HR := hide (HR.out.trans (if_pos hF22))
            clear hF22
            go_upto_region 7 with (go_at_call 86; (with_reducible refine hm.mono ?_); rintro e wm22 ⟨rfl, rfl⟩)
            clear hm
            have hne33 : ifD n (ts3.tail) ≠ .out := bind_out HR.out HRo.out
            have hc := HIf.out _ (ts3.tail) HA.out.1 HA.out.2.1 hne33
            cases hR33 : ifD n (ts3.tail) with
            | out => exact absurd hR33 (bind_out HR.out HRo.out)
            | no l er =>
              rw [hR33] at hc
              replace HR := hide (bind_no HR.out hR33)
              clear hR33 hne33
              go_wp2_with fail
              refine hc.mono ?_
              rintro e w9 ⟨rfl, h5, k5⟩
              refine ⟨rfl, ?_⟩
              rw [← hQ.out]
              exact part_no HR.out h5 HA.out.2.2.1 k5
            | ok y ts4 =>
              rw [hR33] at hc
              replace HR := hide (bind_ok HR.out hR33)
              clear hR33 hne33
              go_wp2_with fail
              have hb7 := hide (show gs < _ from HS.out.lt)
              refine hc.mono ?_
              rintro e w7 ⟨v0, rfl, ⟨cs, hv, hx⟩, hA⟩
              obtain ⟨k2, nm2, ky2, vl2, ep2, em2, ec2, bp2, bm2, bc2, lp2, lm2, lc2, rfl⟩ := hx.form
              replace hv : v0 = .agg #[.int .i64 k2, .string (sB nm2), .string (sB ky2), .string (sB vl2), .slice ep2 em2 ec2, .slice bp2 bm2 bc2, .slice lp2 lm2 lc2] := hv
              subst hv
              have HX := hide hx
              have hs7 := hide hA.2.2.size
              have HEb := hide (ArgsV.keeps hA.2.2 (fun i hi q => by have := hi.1; have := hbw.out; omega) HEa.out)
              have HBb := hide (StsV.keeps hA.2.2 (fun i hi q => by have := hi.1; have := hbw.out; omega) HBl.out)
              replace HS := hide (HS.out.keeps hA.2.2 hbs.out)
              replace HA := hide (HA.out.adv hA hgb.out)
              clear HEa HBl
              have HEa := HEb
              have HBl := HBb
              clear HEb HBb
              have kA := (Keeps.refl w7 (fun _ => False)).alloc (.cells #[.int .i64 k2, .string (sB nm2), .string (sB ky2), .string (sB vl2), .slice ep2 em2 ec2, .slice bp2 bm2 bc2, .slice lp2 lm2 lc2] 49)
              have hnew := hide (heap_alloc_new w7 (.cells #[.int .i64 k2, .string (sB nm2), .string (sB ky2), .string (sB vl2), .slice ep2 em2 ec2, .slice bp2 bm2 bc2, .slice lp2 lm2 lc2] 49))
              have HX3' := hide (HX.out.keeps kA (fun _ _ q => q))
              replace HEa := hide (ArgsV.keeps kA (fun _ _ q => q) HEa.out)
              replace HBl := hide (StsV.keeps kA (fun _ _ q => q) HBl.out)
              replace HS := hide (HS.out.keeps kA id)
              replace HA := hide (HA.out.new kA)
              clear hc hA hx kA HX
              obtain ⟨⟨d0, d1, d2, d3, d4, d5, d6⟩, e0, e1, e2, e3, e4, e5, e6⟩ := HS.out.cells
              go_upto_region 9 with fail
              refine Sc.set6 (P := fun W => Code.wp _ _ _ _ W) _ HS.out fun W1 h1 k1 => ?_
              replace HA := hide (HA.out.own k1 hle.out hbw.out hgg.out)
              have hnw := (k1.block _ (heap_lt hnew.out) (fun q => by have := hb7.out; have := hs7.out; omega)).trans hnew.out
              have HX2 := hide (HX3'.out.keeps k1 (fun i hi q => by have : _ ≤ i := hi; have := hb7.out; omega))
              have HXs : Hid (StsV W1 (fun i => w.heap.size < i) [y] (.slice (some ⟨w7.heap.size, 0, none⟩) 1 1)) := hide (StsV.some (l := [_]) (by have := hb7.out; have := hs7.out; have := hgs.out; omega) (heap_lt hnw) (Nat.le_refl _) (range_blk hnw) (StsC.cons (HX2.out.mono (fun i hi => by have : _ ≤ i := hi; have := hb7.out; have := hgs.out; omega)) StsC.nil))
              replace HEa := hide (ArgsV.keeps k1 (fun i hi q => hi.2 q) HEa.out)
              replace HBl := hide (StsV.keeps k1 (fun i hi q => hi.2 q) HBl.out)
              clear hnw
              replace HS := hide h1
              clear d0 d1 d2 d3 d4 d5 d6 e0 e1 e2 e3 e4 e5 e6
              clear h1 k1
              obtain ⟨⟨d0, d1, d2, d3, d4, d5, d6⟩, e0, e1, e2, e3, e4, e5, e6⟩ := HS.out.cells
              obtain ⟨⟨c0, c1, c2, c3, c4, c5, c6⟩, f0, f1, f2, f3, f4, f5, f6⟩ := HA.out.2.2.2.cells
              generalize hgz : w.heap.size = g at *
              replace hgz := hide hgz
              go_wp2_with fail
              refine set7 (P := fun W => bodyPost _ _ _ _ _ W) HA.out.2.2.2 fun W5 h11 k11 => ?_
              obtain ⟨⟨q0, q1, q2, q3, q4, q5, q6⟩, -⟩ := h11.cells
              refine bodyPost_ret (v := .agg #[.int .i64 6, .string ⟨#[]⟩, .string ⟨#[]⟩, .string ⟨#[]⟩, .slice (some ⟨ga, 0, none⟩) 1 1, .slice bp bm bc, .slice (some ⟨w7.heap.size, 0, none⟩) 1 1]) (by simp [results, Tryd.results89, go_sem, q0, q1, q2, q3, q4, q5, q6]) rfl ?_
              rw [← hQ.out]
              exact part_ok HR.out (res_st rfl hgz.out HA.out.2.2.1 (StC.mk (ArgsV.mono (P' := fun i => g < i) (fun i hi => hi.1) HEa.out) (StsV.mono (fun i hi => hi.1) HBl.out) HXs.out) (fun i hi => hi) HA.out.1 HA.out.2.1 hbw.out k11)
          | false =>
            have hm : Calls Tryd.prog 86 #[.pointer (some ⟨b, 0, none⟩), .string ⟨#[105, 102]⟩] _ fun e w' => e = .returned (.bool (isF kIf (ts3.tail))) ∧ w' = _ := is_any HA.out.1 kIf
            rw [hF22] at hm
            replace HR := hide (HR.out.trans (if_neg (by rw [hF22]; decide)))
            clear hF22
            go_upto_region 8 with (go_at_call 86; (with_reducible refine hm.mono ?_); rintro e wm22 ⟨rfl, rfl⟩)
            clear hm
            have hne32 : blockD n (ts3.tail) ≠ .out := bind_out HR.out HRo.out
            have hc := HBk.out _ (ts3.tail) HA.out.1 HA.out.2.1 hne32
            cases hR32 : blockD n (ts3.tail) with
            | out => exact absurd hR32 (bind_out HR.out HRo.out)
            | no l er =>
              rw [hR32] at hc
              replace HR := hide (bind_no HR.out hR32)
              clear hR32 hne32
              go_wp2_with fail
              refine hc.mono ?_
              rintro e w9 ⟨rfl, h5, k5⟩
              refine ⟨rfl, ?_⟩
              rw [← hQ.out]
              exact part_no HR.out h5 HA.out.2.2.1 k5
            | ok el ts4 =>
              rw [hR32] at hc
              replace HR := hide (bind_ok HR.out hR32)
              clear hR32 hne32
              go_wp2_with fail
              have hb7 := hide (show gs < _ from HS.out.lt)
              refine hc.mono ?_
              rintro e w7 ⟨v0, rfl, hx, hA⟩
              have hx' : StsV w7 (fun i => _ ≤ i) el v0 := hx
              obtain ⟨lp, lm, lc, rfl⟩ := hx'.form
              have HX := hide hx
              have HEb := hide (ArgsV.keeps hA.2.2 (fun i hi q => by have := hi.1; have := hbw.out; omega) HEa.out)
              have HBb := hide (StsV.keeps hA.2.2 (fun i hi q => by have := hi.1; have := hbw.out; omega) HBl.out)
              replace HS := hide (HS.out.keeps hA.2.2 hbs.out)
              replace HA := hide (HA.out.adv hA hgb.out)
              clear HEa HBl
              have HEa := HEb
              have HBl := HBb
              clear HEb HBb
              clear hc hA hx hx'
              obtain ⟨⟨d0, d1, d2, d3, d4, d5, d6⟩, e0, e1, e2, e3, e4, e5, e6⟩ := HS.out.cells
              go_upto_region 9 with fail
              refine Sc.set6 (P := fun W => Code.wp _ _ _ _ W) _ HS.out fun W1 h1 k1 => ?_
              replace HA := hide (HA.out.own k1 hle.out hbw.out hgg.out)
              have HX2 := hide (StsV.keeps k1 (fun i hi q => by have : _ ≤ i := hi; have := hb7.out; omega) HX.out)
              replace HEa := hide (ArgsV.keeps k1 (fun i hi q => hi.2 q) HEa.out)
              replace HBl := hide (StsV.keeps k1 (fun i hi q => hi.2 q) HBl.out)
              replace HS := hide h1
              clear d0 d1 d2 d3 d4 d5 d6 e0 e1 e2 e3 e4 e5 e6
              clear h1 k1
              obtain ⟨⟨d0, d1, d2, d3, d4, d5, d6⟩, e0, e1, e2, e3, e4, e5, e6⟩ := HS.out.cells
              obtain ⟨⟨c0, c1, c2, c3, c4, c5, c6⟩, f0, f1, f2, f3, f4, f5, f6⟩ := HA.out.2.2.2.cells
              generalize hgz : w.heap.size = g at *
              replace hgz := hide hgz
              go_wp2_with fail
              refine set7 (P := fun W => bodyPost _ _ _ _ _ W) HA.out.2.2.2 fun W5 h11 k11 => ?_
              obtain ⟨⟨q0, q1, q2, q3, q4, q5, q6⟩, -⟩ := h11.cells
              refine bodyPost_ret (v := .agg #[.int .i64 6, .string ⟨#[]⟩, .string ⟨#[]⟩, .string ⟨#[]⟩, .slice (some ⟨ga, 0, none⟩) 1 1, .slice bp bm bc, .slice lp lm lc]) (by simp [results, Tryd.results89, go_sem, q0, q1, q2, q3, q4, q5, q6]) rfl ?_
              rw [← hQ.out]
              exact part_ok HR.out (res_st rfl hgz.out HA.out.2.2.1 (StC.mk (ArgsV.mono (P' := fun i => g < i) (fun i hi => hi.1) HEa.out) (StsV.mono (fun i hi => hi.1) HBl.out) (StsV.mono (fun i hi => by have : _ ≤ i := hi; have : _ ≤ i := hi; have := hb7.out; have := hgs.out; omega) HX2.out)) (fun i hi => hi) HA.out.1 HA.out.2.1 hbw.out k11)
        | false =>
          have hm : Calls Tryd.prog 64 #[.pointer (some ⟨b, 0, none⟩), .string ⟨#[101, 108, 115, 101]⟩] _ fun e w' => e = .returned (.bool (isF kElse (ts3))) ∧ AdvP _ b T (if isF kElse (ts3) then (ts3).tail else (ts3)) w' := met_any HA.out.1 HA.out.2.1 kElse
          rw [hF21] at hm
          simp only [Bool.false_eq_true, if_false] at hm
          replace HR := hide (HR.out.trans (if_neg (by rw [hF21]; decide)))
          clear hF21
          go_upto_region 5 with (go_at_call 64; (with_reducible refine hm.mono ?_); rintro e wm21 ⟨rfl, hA⟩)
          have HEb := hide (ArgsV.keeps hA.2.2 (fun i hi q => by have := hi.1; have := hbw.out; omega) HEa.out)
          have HBb := hide (StsV.keeps hA.2.2 (fun i hi q => by have := hi.1; have := hbw.out; omega) HBl.out)
          replace HS := hide (HS.out.keeps hA.2.2 hbs.out)
          replace HA := hide (HA.out.adv hA hgb.out)
          clear HEa HBl
          have HEa := HEb
          have HBl := HBb
          clear HEb HBb
          clear hm hA
          obtain ⟨⟨d0, d1, d2, d3, d4, d5, d6⟩, e0, e1, e2, e3, e4, e5, e6⟩ := HS.out.cells
          obtain ⟨⟨c0, c1, c2, c3, c4, c5, c6⟩, f0, f1, f2, f3, f4, f5, f6⟩ := HA.out.2.2.2.cells
          generalize hgz : w.heap.size = g at *
          replace hgz := hide hgz
          go_wp2_with fail
          refine set7 (P := fun W => bodyPost _ _ _ _ _ W) HA.out.2.2.2 fun W5 h11 k11 => ?_
          obtain ⟨⟨q0, q1, q2, q3, q4, q5, q6⟩, -⟩ := h11.cells
          refine bodyPost_ret (v := .agg #[.int .i64 6, .string ⟨#[]⟩, .string ⟨#[]⟩, .string ⟨#[]⟩, .slice (some ⟨ga, 0, none⟩) 1 1, .slice bp bm bc, .slice none 0 0]) (by simp [results, Tryd.results89, go_sem, q0, q1, q2, q3, q4, q5, q6]) rfl ?_
          rw [← hQ.out]
          exact part_ok HR.out (res_st rfl hgz.out HA.out.2.2.1 (StC.mk (ArgsV.mono (P' := fun i => g < i) (fun i hi => hi.1) HEa.out) (StsV.mono (fun i hi => hi.1) HBl.out) StsV.nil) (fun i hi => hi) HA.out.1 HA.out.2.1 hbw.out k11)
      · have hsD : Hid (W3.drew.heap.size = W3.heap.size) := hide (by simp)
        go_upto_region 4 with fail
        refine alloc2v (P := fun W => Code.wp _ _ _ _ W) fun W9 h9 hx9 k9 => ?_
        have HT : Hid (IfT w b T x bl ts3 w8.heap.size (w8.heap.size + 1) (.slice bp bm bc) W9) := hide (IfT.mk' (cs := [.int .i64 k', .int .i64 n', .string (sB nm), .string (sB op), .slice sp sm sc]) HA8.out (by have := HAd.out.2.2.size; have := hsD.out; have := hg3.out; have := hgx3.out; have := hk8.out; have := hgx2.out; omega) hbw.out hx9 (by have := HAd.out.2.2.size; have := hsD.out; have := hg3.out; have := hgx3.out; have := hk8.out; have := hgx2.out; omega) (by have := HAd.out.2.2.size; have := hsD.out; have := hg3.out; have := hgx3.out; have := hk8.out; have := hgx2.out; omega) Hx8.out (fun i hi => by have h1 : _ ≤ i := hi.1; have h2 := hi.2; have := HAd.out.2.2.size; have := hsD.out; have := hg3.out; have := hgx3.out; have := hk8.out; have := hgx2.out; constructor <;> omega) HB8.out (fun i hi => by have h1 : _ ≤ i := hi.1; have h2 := hi.2; have := hg3.out; have := hgx3.out; have := hk8.out; have := hgx2.out; have := hsD.out; have := HAd.out.2.2.size; constructor <;> omega) (kF k9 _) h9)
        clear h9 hx9 k9
        clear hneB hcD0 hcDX hcDZ hcDXZ hcDZX hnXx hnZz hnXZx hnXZz hnZXz hnZXx x0 x1 x2 x3 x4 xz0 xz1 xz2 xz3 xz4 hsD hk8 Hx8 HB8 HAd HA8 hg8 H3 HX3 hgx3 HA HR kD0 kDX kDZ kDXZ kDZX hgx2 hg3 y0 y1 y2 y3 y4 yz0 yz1 yz2 yz3 yz4 z0 z1 z2 z3 z4 z5 z6 u0 u1' u2 u3 u4 u5 u6 HZ8
        generalize (w8.heap.size + 1) = ga at *
        generalize w8.heap.size = gs at *
        have HA := hide HT.out.at_
        have HS := hide HT.out.sc
        have hgs := hide HT.out.lt
        have HEa := hide HT.out.ex
        have HBl := hide HT.out.st
        have HR := HR3
        have hbs : Hid (¬ gs = b) := hide (fun q => by have := hgs.out; have := hbw.out; omega)
        have hgg : Hid (¬ w.heap.size = gs) := hide (fun q => by have := hgs.out; omega)
        have hle : Hid (w.heap.size ≤ gs) := hide (Nat.le_of_lt hgs.out)
        clear HT HR3
        cases hF21 : isF kElse ts3 with
        | true =>
          have hm : Calls Tryd.prog 64 #[.pointer (some ⟨b, 0, none⟩), .string ⟨#[101, 108, 115, 101]⟩] _ fun e w' => e = .returned (.bool (isF kElse (ts3))) ∧ AdvP _ b T (if isF kElse (ts3) then (ts3).tail else (ts3)) w' := met_any HA.out.1 HA.out.2.1 kElse
          rw [hF21] at hm
          simp only [if_true] at hm
          replace HR := hide (HR.out.trans (if_pos hF21))
          clear hF21
          go_upto_region 6 with (go_at_call 64; (with_reducible refine hm.mono ?_); rintro e wm21 ⟨rfl, hA⟩)
          have HEb := hide (ArgsV.keeps hA.2.2 (fun i hi q => by have := hi.1; have := hbw.out; omega) HEa.out)
          have HBb := hide (StsV.keeps hA.2.2 (fun i hi q => by have := hi.1; have := hbw.out; omega) HBl.out)
          replace HS := hide (HS.out.keeps hA.2.2 hbs.out)
          replace HA := hide (HA.out.adv hA hgb.out)
          clear HEa HBl
          have HEa := HEb
          have HBl := HBb
          clear HEb HBb
          clear hm hA
          cases hF22 : isF kIf ts3.tail with
          | true =>
            have hm : Calls Tryd.prog 86 #[.pointer (some ⟨b, 0, none⟩), .string ⟨#[105, 102]⟩] _ fun e w' => e = .returned (.bool (isF kIf (ts3.tail))) ∧ w' = _ := is_any HA.out.1 kIf
            rw [hF22] at hm
            replace HR := hide (HR.out.trans (if_pos hF22))
            clear hF22
            go_upto_region 7 with (go_at_call 86; (with_reducible refine hm.mono ?_); rintro e wm22 ⟨rfl, rfl⟩)
            clear hm
            have hne33 : ifD n (ts3.tail) ≠ .out := bind_out HR.out HRo.out
            have hc := HIf.out _ (ts3.tail) HA.out.1 HA.out.2.1 hne33
            cases hR33 : ifD n (ts3.tail) with
            | out => exact absurd hR33 (bind_out HR.out HRo.out)
            | no l er =>
              rw [hR33] at hc
              replace HR := hide (bind_no HR.out hR33)
              clear hR33 hne33
              go_wp2_with fail
              refine hc.mono ?_
              rintro e w9 ⟨rfl, h5, k5⟩
              refine ⟨rfl, ?_⟩
              rw [← hQ.out]
              exact part_no HR.out h5 HA.out.2.2.1 k5
            | ok y ts4 =>
              rw [hR33] at hc
              replace HR := hide (bind_ok HR.out hR33)
              clear hR33 hne33
              go_wp2_with fail
              have hb7 := hide (show gs < _ from HS.out.lt)
              refine hc.mono ?_
              rintro e w7 ⟨v0, rfl, ⟨cs, hv, hx⟩, hA⟩
              obtain ⟨k2, nm2, ky2, vl2, ep2, em2, ec2, bp2, bm2, bc2, lp2, lm2, lc2, rfl⟩ := hx.form
              replace hv : v0 = .agg #[.int .i64 k2, .string (sB nm2), .string (sB ky2), .string (sB vl2), .slice ep2 em2 ec2, .slice bp2 bm2 bc2, .slice lp2 lm2 lc2] := hv
              subst hv
              have HX := hide hx
              have hs7 := hide hA.2.2.size
              have HEb := hide (ArgsV.keeps hA.2.2 (fun i hi q => by have := hi.1; have := hbw.out; omega) HEa.out)
              have HBb := hide (StsV.keeps hA.2.2 (fun i hi q => by have := hi.1; have := hbw.out; omega) HBl.out)
              replace HS := hide (HS.out.keeps hA.2.2 hbs.out)
              replace HA := hide (HA.out.adv hA hgb.out)
              clear HEa HBl
              have HEa := HEb
              have HBl := HBb
              clear HEb HBb
              have kA := (Keeps.refl w7 (fun _ => False)).alloc (.cells #[.int .i64 k2, .string (sB nm2), .string (sB ky2), .string (sB vl2), .slice ep2 em2 ec2, .slice bp2 bm2 bc2, .slice lp2 lm2 lc2] 49)
              have hnew := hide (heap_alloc_new w7 (.cells #[.int .i64 k2, .string (sB nm2), .string (sB ky2), .string (sB vl2), .slice ep2 em2 ec2, .slice bp2 bm2 bc2, .slice lp2 lm2 lc2] 49))
              have HX3' := hide (HX.out.keeps kA (fun _ _ q => q))
              replace HEa := hide (ArgsV.keeps kA (fun _ _ q => q) HEa.out)
              replace HBl := hide (StsV.keeps kA (fun _ _ q => q) HBl.out)
              replace HS := hide (HS.out.keeps kA id)
              replace HA := hide (HA.out.new kA)
              clear hc hA hx kA HX
              obtain ⟨⟨d0, d1, d2, d3, d4, d5, d6⟩, e0, e1, e2, e3, e4, e5, e6⟩ := HS.out.cells
              go_upto_region 9 with fail
              refine Sc.set6 (P := fun W => Code.wp _ _ _ _ W) _ HS.out fun W1 h1 k1 => ?_
              replace HA := hide (HA.out.own k1 hle.out hbw.out hgg.out)
              have hnw := (k1.block _ (heap_lt hnew.out) (fun q => by have := hb7.out; have := hs7.out; omega)).trans hnew.out
              have HX2 := hide (HX3'.out.keeps k1 (fun i hi q => by have : _ ≤ i := hi; have := hb7.out; omega))
              have HXs : Hid (StsV W1 (fun i => w.heap.size < i) [y] (.slice (some ⟨w7.heap.size, 0, none⟩) 1 1)) := hide (StsV.some (l := [_]) (by have := hb7.out; have := hs7.out; have := hgs.out; omega) (heap_lt hnw) (Nat.le_refl _) (range_blk hnw) (StsC.cons (HX2.out.mono (fun i hi => by have : _ ≤ i := hi; have := hb7.out; have := hgs.out; omega)) StsC.nil))
              replace HEa := hide (ArgsV.keeps k1 (fun i hi q => hi.2 q) HEa.out)
              replace HBl := hide (StsV.keeps k1 (fun i hi q => hi.2 q) HBl.out)
              clear hnw
              replace HS := hide h1
              clear d0 d1 d2 d3 d4 d5 d6 e0 e1 e2 e3 e4 e5 e6
              clear h1 k1
              obtain ⟨⟨d0, d1, d2, d3, d4, d5, d6⟩, e0, e1, e2, e3, e4, e5, e6⟩ := HS.out.cells
              obtain ⟨⟨c0, c1, c2, c3, c4, c5, c6⟩, f0, f1, f2, f3, f4, f5, f6⟩ := HA.out.2.2.2.cells
              generalize hgz : w.heap.size = g at *
              replace hgz := hide hgz
              go_wp2_with fail
              refine set7 (P := fun W => bodyPost _ _ _ _ _ W) HA.out.2.2.2 fun W5 h11 k11 => ?_
              obtain ⟨⟨q0, q1, q2, q3, q4, q5, q6⟩, -⟩ := h11.cells
              refine bodyPost_ret (v := .agg #[.int .i64 6, .string ⟨#[]⟩, .string ⟨#[]⟩, .string ⟨#[]⟩, .slice (some ⟨ga, 0, none⟩) 1 1, .slice bp bm bc, .slice (some ⟨w7.heap.size, 0, none⟩) 1 1]) (by simp [results, Tryd.results89, go_sem, q0, q1, q2, q3, q4, q5, q6]) rfl ?_
              rw [← hQ.out]
              exact part_ok HR.out (res_st rfl hgz.out HA.out.2.2.1 (StC.mk (ArgsV.mono (P' := fun i => g < i) (fun i hi => hi.1) HEa.out) (StsV.mono (fun i hi => hi.1) HBl.out) HXs.out) (fun i hi => hi) HA.out.1 HA.out.2.1 hbw.out k11)
          | false =>
            have hm : Calls Tryd.prog 86 #[.pointer (some ⟨b, 0, none⟩), .string ⟨#[105, 102]⟩] _ fun e w' => e = .returned (.bool (isF kIf (ts3.tail))) ∧ w' = _ := is_any HA.out.1 kIf
            rw [hF22] at hm
            replace HR := hide (HR.out.trans (if_neg (by rw [hF22]; decide)))
            clear hF22
            go_upto_region 8 with (go_at_call 86; (with_reducible refine hm.mono ?_); rintro e wm22 ⟨rfl, rfl⟩)
            clear hm
            have hne32 : blockD n (ts3.tail) ≠ .out := bind_out HR.out HRo.out
            have hc := HBk.out _ (ts3.tail) HA.out.1 HA.out.2.1 hne32
            cases hR32 : blockD n (ts3.tail) with
            | out => exact absurd hR32 (bind_out HR.out HRo.out)
            | no l er =>
              rw [hR32] at hc
              replace HR := hide (bind_no HR.out hR32)
              clear hR32 hne32
              go_wp2_with fail
              refine hc.mono ?_
              rintro e w9 ⟨rfl, h5, k5⟩
              refine ⟨rfl, ?_⟩
              rw [← hQ.out]
              exact part_no HR.out h5 HA.out.2.2.1 k5
            | ok el ts4 =>
              rw [hR32] at hc
              replace HR := hide (bind_ok HR.out hR32)
              clear hR32 hne32
              go_wp2_with fail
              have hb7 := hide (show gs < _ from HS.out.lt)
              refine hc.mono ?_
              rintro e w7 ⟨v0, rfl, hx, hA⟩
              have hx' : StsV w7 (fun i => _ ≤ i) el v0 := hx
              obtain ⟨lp, lm, lc, rfl⟩ := hx'.form
              have HX := hide hx
              have HEb := hide (ArgsV.keeps hA.2.2 (fun i hi q => by have := hi.1; have := hbw.out; omega) HEa.out)
              have HBb := hide (StsV.keeps hA.2.2 (fun i hi q => by have := hi.1; have := hbw.out; omega) HBl.out)
              replace HS := hide (HS.out.keeps hA.2.2 hbs.out)
              replace HA := hide (HA.out.adv hA hgb.out)
              clear HEa HBl
              have HEa := HEb
              have HBl := HBb
              clear HEb HBb
              clear hc hA hx hx'
              obtain ⟨⟨d0, d1, d2, d3, d4, d5, d6⟩, e0, e1, e2, e3, e4, e5, e6⟩ := HS.out.cells
              go_upto_region 9 with fail
              refine Sc.set6 (P := fun W => Code.wp _ _ _ _ W) _ HS.out fun W1 h1 k1 => ?_
              replace HA := hide (HA.out.own k1 hle.out hbw.out hgg.out)
              have HX2 := hide (StsV.keeps k1 (fun i hi q => by have : _ ≤ i := hi; have := hb7.out; omega) HX.out)
              replace HEa := hide (ArgsV.keeps k1 (fun i hi q => hi.2 q) HEa.out)
              replace HBl := hide (StsV.keeps k1 (fun i hi q => hi.2 q) HBl.out)
              replace HS := hide h1
              clear d0 d1 d2 d3 d4 d5 d6 e0 e1 e2 e3 e4 e5 e6
              clear h1 k1
              obtain ⟨⟨d0, d1, d2, d3, d4, d5, d6⟩, e0, e1, e2, e3, e4, e5, e6⟩ := HS.out.cells
              obtain ⟨⟨c0, c1, c2, c3, c4, c5, c6⟩, f0, f1, f2, f3, f4, f5, f6⟩ := HA.out.2.2.2.cells
              generalize hgz : w.heap.size = g at *
              replace hgz := hide hgz
              go_wp2_with fail
              refine set7 (P := fun W => bodyPost _ _ _ _ _ W) HA.out.2.2.2 fun W5 h11 k11 => ?_
              obtain ⟨⟨q0, q1, q2, q3, q4, q5, q6⟩, -⟩ := h11.cells
              refine bodyPost_ret (v := .agg #[.int .i64 6, .string ⟨#[]⟩, .string ⟨#[]⟩, .string ⟨#[]⟩, .slice (some ⟨ga, 0, none⟩) 1 1, .slice bp bm bc, .slice lp lm lc]) (by simp [results, Tryd.results89, go_sem, q0, q1, q2, q3, q4, q5, q6]) rfl ?_
              rw [← hQ.out]
              exact part_ok HR.out (res_st rfl hgz.out HA.out.2.2.1 (StC.mk (ArgsV.mono (P' := fun i => g < i) (fun i hi => hi.1) HEa.out) (StsV.mono (fun i hi => hi.1) HBl.out) (StsV.mono (fun i hi => by have : _ ≤ i := hi; have : _ ≤ i := hi; have := hb7.out; have := hgs.out; omega) HX2.out)) (fun i hi => hi) HA.out.1 HA.out.2.1 hbw.out k11)
        | false =>
          have hm : Calls Tryd.prog 64 #[.pointer (some ⟨b, 0, none⟩), .string ⟨#[101, 108, 115, 101]⟩] _ fun e w' => e = .returned (.bool (isF kElse (ts3))) ∧ AdvP _ b T (if isF kElse (ts3) then (ts3).tail else (ts3)) w' := met_any HA.out.1 HA.out.2.1 kElse
          rw [hF21] at hm
          simp only [Bool.false_eq_true, if_false] at hm
          replace HR := hide (HR.out.trans (if_neg (by rw [hF21]; decide)))
          clear hF21
          go_upto_region 5 with (go_at_call 64; (with_reducible refine hm.mono ?_); rintro e wm21 ⟨rfl, hA⟩)
          have HEb := hide (ArgsV.keeps hA.2.2 (fun i hi q => by have := hi.1; have := hbw.out; omega) HEa.out)
          have HBb := hide (StsV.keeps hA.2.2 (fun i hi q => by have := hi.1; have := hbw.out; omega) HBl.out)
          replace HS := hide (HS.out.keeps hA.2.2 hbs.out)
          replace HA := hide (HA.out.adv hA hgb.out)
          clear HEa HBl
          have HEa := HEb
          have HBl := HBb
          clear HEb HBb
          clear hm hA
          obtain ⟨⟨d0, d1, d2, d3, d4, d5, d6⟩, e0, e1, e2, e3, e4, e5, e6⟩ := HS.out.cells
          obtain ⟨⟨c0, c1, c2, c3, c4, c5, c6⟩, f0, f1, f2, f3, f4, f5, f6⟩ := HA.out.2.2.2.cells
          generalize hgz : w.heap.size = g at *
          replace hgz := hide hgz
          go_wp2_with fail
          refine set7 (P := fun W => bodyPost _ _ _ _ _ W) HA.out.2.2.2 fun W5 h11 k11 => ?_
          obtain ⟨⟨q0, q1, q2, q3, q4, q5, q6⟩, -⟩ := h11.cells
          refine bodyPost_ret (v := .agg #[.int .i64 6, .string ⟨#[]⟩, .string ⟨#[]⟩, .string ⟨#[]⟩, .slice (some ⟨ga, 0, none⟩) 1 1, .slice bp bm bc, .slice none 0 0]) (by simp [results, Tryd.results89, go_sem, q0, q1, q2, q3, q4, q5, q6]) rfl ?_
          rw [← hQ.out]
          exact part_ok HR.out (res_st rfl hgz.out HA.out.2.2.1 (StC.mk (ArgsV.mono (P' := fun i => g < i) (fun i hi => hi.1) HEa.out) (StsV.mono (fun i hi => hi.1) HBl.out) StsV.nil) (fun i hi => hi) HA.out.1 HA.out.2.1 hbw.out k11)
      · have hsD : Hid (W3.drew.heap.size = W3.heap.size) := hide (by simp)
        go_upto_region 4 with fail
        refine alloc2v (P := fun W => Code.wp _ _ _ _ W) fun W9 h9 hx9 k9 => ?_
        have HT : Hid (IfT w b T x bl ts3 w8.heap.size (w8.heap.size + 1) (.slice bp bm bc) W9) := hide (IfT.mk' (cs := [.int .i64 k', .int .i64 n', .string (sB nm), .string (sB op), .slice sp sm sc]) HA8.out (by have := HAd.out.2.2.size; have := hsD.out; have := hg3.out; have := hgx3.out; have := hk8.out; have := hgx2.out; omega) hbw.out hx9 (by have := HAd.out.2.2.size; have := hsD.out; have := hg3.out; have := hgx3.out; have := hk8.out; have := hgx2.out; omega) (by have := HAd.out.2.2.size; have := hsD.out; have := hg3.out; have := hgx3.out; have := hk8.out; have := hgx2.out; omega) Hx8.out (fun i hi => by have h1 : _ ≤ i := hi.1; have h2 := hi.2; have := HAd.out.2.2.size; have := hsD.out; have := hg3.out; have := hgx3.out; have := hk8.out; have := hgx2.out; constructor <;> omega) HB8.out (fun i hi => by have h1 : _ ≤ i := hi.1; have h2 := hi.2; have := hg3.out; have := hgx3.out; have := hk8.out; have := hgx2.out; have := hsD.out; have := HAd.out.2.2.size; constructor <;> omega) (kF k9 _) h9)
        clear h9 hx9 k9
        clear hneB hcD0 hcDX hcDZ hcDXZ hcDZX hnXx hnZz hnXZx hnXZz hnZXz hnZXx x0 x1 x2 x3 x4 xz0 xz1 xz2 xz3 xz4 hsD hk8 Hx8 HB8 HAd HA8 hg8 H3 HX3 hgx3 HA HR kD0 kDX kDZ kDXZ kDZX hgx2 hg3 y0 y1 y2 y3 y4 yz0 yz1 yz2 yz3 yz4 z0 z1 z2 z3 z4 z5 z6 u0 u1' u2 u3 u4 u5 u6 HZ8
        generalize (w8.heap.size + 1) = ga at *
        generalize w8.heap.size = gs at *
        have HA := hide HT.out.at_
        have HS := hide HT.out.sc
        have hgs := hide HT.out.lt
        have HEa := hide HT.out.ex
        have HBl := hide HT.out.st
        have HR := HR3
        have hbs : Hid (¬ gs = b) := hide (fun q => by have := hgs.out; have := hbw.out; omega)
        have hgg : Hid (¬ w.heap.size = gs) := hide (fun q => by have := hgs.out; omega)
        have hle : Hid (w.heap.size ≤ gs) := hide (Nat.le_of_lt hgs.out)
        clear HT HR3
        cases hF21 : isF kElse ts3 with
        | true =>
          have hm : Calls Tryd.prog 64 #[.pointer (some ⟨b, 0, none⟩), .string ⟨#[101, 108, 115, 101]⟩] _ fun e w' => e = .returned (.bool (isF kElse (ts3))) ∧ AdvP _ b T (if isF kElse (ts3) then (ts3).tail else (ts3)) w' := met_any HA.out.1 HA.out.2.1 kElse
          rw [hF21] at hm
          simp only [if_true] at hm
          replace HR := hide (HR.out.trans (if_pos hF21))
          clear hF21
          go_upto_region 6 with (go_at_call 64; (with_reducible refine hm.mono ?_); rintro e wm21 ⟨rfl, hA⟩)
          have HEb := hide (ArgsV.keeps hA.2.2 (fun i hi q => by have := hi.1; have := hbw.out; omega) HEa.out)
          have HBb := hide (StsV.keeps hA.2.2 (fun i hi q => by have := hi.1; have := hbw.out; omega) HBl.out)
          replace HS := hide (HS.out.keeps hA.2.2 hbs.out)
          replace HA := hide (HA.out.adv hA hgb.out)
          clear HEa HBl
          have HEa := HEb
          have HBl := HBb
          clear HEb HBb
          clear hm hA
          cases hF22 : isF kIf ts3.tail with
          | true =>
            have hm : Calls Tryd.prog 86 #[.pointer (some ⟨b, 0, none⟩), .string ⟨#[105, 102]⟩] _ fun e w' => e = .returned (.bool (isF kIf (ts3.tail))) ∧ w' = _ := is_any HA.out.1 kIf
            rw [hF22] at hm
            replace HR := hide (HR.out.trans (if_pos hF22))
            clear hF22
            go_upto_region 7 with (go_at_call 86; (with_reducible refine hm.mono ?_); rintro e wm22 ⟨rfl, rfl⟩)
            clear hm
            have hne33 : ifD n (ts3.tail) ≠ .out := bind_out HR.out HRo.out
            have hc := HIf.out _ (ts3.tail) HA.out.1 HA.out.2.1 hne33
            cases hR33 : ifD n (ts3.tail) with
            | out => exact absurd hR33 (bind_out HR.out HRo.out)
            | no l er =>
              rw [hR33] at hc
              replace HR := hide (bind_no HR.out hR33)
              clear hR33 hne33
              go_wp2_with fail
              refine hc.mono ?_
              rintro e w9 ⟨rfl, h5, k5⟩
              refine ⟨rfl, ?_⟩
              rw [← hQ.out]
              exact part_no HR.out h5 HA.out.2.2.1 k5
            | ok y ts4 =>
              rw [hR33] at hc
              replace HR := hide (bind_ok HR.out hR33)
              clear hR33 hne33
              go_wp2_with fail
              have hb7 := hide (show gs < _ from HS.out.lt)
              refine hc.mono ?_
              rintro e w7 ⟨v0, rfl, ⟨cs, hv, hx⟩, hA⟩
              obtain ⟨k2, nm2, ky2, vl2, ep2, em2, ec2, bp2, bm2, bc2, lp2, lm2, lc2, rfl⟩ := hx.form
              replace hv : v0 = .agg #[.int .i64 k2, .string (sB nm2), .string (sB ky2), .string (sB vl2), .slice ep2 em2 ec2, .slice bp2 bm2 bc2, .slice lp2 lm2 lc2] := hv
              subst hv
              have HX := hide hx
              have hs7 := hide hA.2.2.size
              have HEb := hide (ArgsV.keeps hA.2.2 (fun i hi q => by have := hi.1; have := hbw.out; omega) HEa.out)
              have HBb := hide (StsV.keeps hA.2.2 (fun i hi q => by have := hi.1; have := hbw.out; omega) HBl.out)
              replace HS := hide (HS.out.keeps hA.2.2 hbs.out)
              replace HA := hide (HA.out.adv hA hgb.out)
              clear HEa HBl
              have HEa := HEb
              have HBl := HBb
              clear HEb HBb
              have kA := (Keeps.refl w7 (fun _ => False)).alloc (.cells #[.int .i64 k2, .string (sB nm2), .string (sB ky2), .string (sB vl2), .slice ep2 em2 ec2, .slice bp2 bm2 bc2, .slice lp2 lm2 lc2] 49)
              have hnew := hide (heap_alloc_new w7 (.cells #[.int .i64 k2, .string (sB nm2), .string (sB ky2), .string (sB vl2), .slice ep2 em2 ec2, .slice bp2 bm2 bc2, .slice lp2 lm2 lc2] 49))
              have HX3' := hide (HX.out.keeps kA (fun _ _ q => q))
              replace HEa := hide (ArgsV.keeps kA (fun _ _ q => q) HEa.out)
              replace HBl := hide (StsV.keeps kA (fun _ _ q => q) HBl.out)
              replace HS := hide (HS.out.keeps kA id)
              replace HA := hide (HA.out.new kA)
              clear hc hA hx kA HX
              obtain ⟨⟨d0, d1, d2, d3, d4, d5, d6⟩, e0, e1, e2, e3, e4, e5, e6⟩ := HS.out.cells
              go_upto_region 9 with fail
              refine Sc.set6 (P := fun W => Code.wp _ _ _ _ W) _ HS.out fun W1 h1 k1 => ?_
              replace HA := hide (HA.out.own k1 hle.out hbw.out hgg.out)
              have hnw := (k1.block _ (heap_lt hnew.out) (fun q => by have := hb7.out; have := hs7.out; omega)).trans hnew.out
              have HX2 := hide (HX3'.out.keeps k1 (fun i hi q => by have : _ ≤ i := hi; have := hb7.out; omega))
              have HXs : Hid (StsV W1 (fun i => w.heap.size < i) [y] (.slice (some ⟨w7.heap.size, 0, none⟩) 1 1)) := hide (StsV.some (l := [_]) (by have := hb7.out; have := hs7.out; have := hgs.out; omega) (heap_lt hnw) (Nat.le_refl _) (range_blk hnw) (StsC.cons (HX2.out.mono (fun i hi => by have : _ ≤ i := hi; have := hb7.out; have := hgs.out; omega)) StsC.nil))
              replace HEa := hide (ArgsV.keeps k1 (fun i hi q => hi.2 q) HEa.out)
              replace HBl := hide (StsV.keeps k1 (fun i hi q => hi.2 q) HBl.out)
              clear hnw
              replace HS := hide h1
              clear d0 d1 d2 d3 d4 d5 d6 e0 e1 e2 e3 e4 e5 e6
              clear h1 k1
              obtain ⟨⟨d0, d1, d2, d3, d4, d5, d6⟩, e0, e1, e2, e3, e4, e5, e6⟩ := HS.out.cells
              obtain ⟨⟨c0, c1, c2, c3, c4, c5, c6⟩, f0, f1, f2, f3, f4, f5, f6⟩ := HA.out.2.2.2.cells
              generalize hgz : w.heap.size = g at *
              replace hgz := hide hgz
              go_wp2_with fail
              refine set7 (P := fun W => bodyPost _ _ _ _ _ W) HA.out.2.2.2 fun W5 h11 k11 => ?_
              obtain ⟨⟨q0, q1, q2, q3, q4, q5, q6⟩, -⟩ := h11.cells
              refine bodyPost_ret (v := .agg #[.int .i64 6, .string ⟨#[]⟩, .string ⟨#[]⟩, .string ⟨#[]⟩, .slice (some ⟨ga, 0, none⟩) 1 1, .slice bp bm bc, .slice (some ⟨w7.heap.size, 0, none⟩) 1 1]) (by simp [results, Tryd.results89, go_sem, q0, q1, q2, q3, q4, q5, q6]) rfl ?_
              rw [← hQ.out]
              exact part_ok HR.out (res_st rfl hgz.out HA.out.2.2.1 (StC.mk (ArgsV.mono (P' := fun i => g < i) (fun i hi => hi.1) HEa.out) (StsV.mono (fun i hi => hi.1) HBl.out) HXs.out) (fun i hi => hi) HA.out.1 HA.out.2.1 hbw.out k11)
          | false =>
            have hm : Calls Tryd.prog 86 #[.pointer (some ⟨b, 0, none⟩), .string ⟨#[105, 102]⟩] _ fun e w' => e = .returned (.bool (isF kIf (ts3.tail))) ∧ w' = _ := is_any HA.out.1 kIf
            rw [hF22] at hm
            replace HR := hide (HR.out.trans (if_neg (by rw [hF22]; decide)))
            clear hF22
            go_upto_region 8 with (go_at_call 86; (with_reducible refine hm.mono ?_); rintro e wm22 ⟨rfl, rfl⟩)
            clear hm
            have hne32 : blockD n (ts3.tail) ≠ .out := bind_out HR.out HRo.out
            have hc := HBk.out _ (ts3.tail) HA.out.1 HA.out.2.1 hne32
            cases hR32 : blockD n (ts3.tail) with
            | out => exact absurd hR32 (bind_out HR.out HRo.out)
            | no l er =>
              rw [hR32] at hc
              replace HR := hide (bind_no HR.out hR32)
              clear hR32 hne32
              go_wp2_with fail
              refine hc.mono ?_
              rintro e w9 ⟨rfl, h5, k5⟩
              refine ⟨rfl, ?_⟩
              rw [← hQ.out]
              exact part_no HR.out h5 HA.out.2.2.1 k5
            | ok el ts4 =>
              rw [hR32] at hc
              replace HR := hide (bind_ok HR.out hR32)
              clear hR32 hne32
              go_wp2_with fail
              have hb7 := hide (show gs < _ from HS.out.lt)
              refine hc.mono ?_
              rintro e w7 ⟨v0, rfl, hx, hA⟩
              have hx' : StsV w7 (fun i => _ ≤ i) el v0 := hx
              obtain ⟨lp, lm, lc, rfl⟩ := hx'.form
              have HX := hide hx
              have HEb := hide (ArgsV.keeps hA.2.2 (fun i hi q => by have := hi.1; have := hbw.out; omega) HEa.out)
              have HBb := hide (StsV.keeps hA.2.2 (fun i hi q => by have := hi.1; have := hbw.out; omega) HBl.out)
              replace HS := hide (HS.out.keeps hA.2.2 hbs.out)
              replace HA := hide (HA.out.adv hA hgb.out)
              clear HEa HBl
              have HEa := HEb
              have HBl := HBb
              clear HEb HBb
              clear hc hA hx hx'
              obtain ⟨⟨d0, d1, d2, d3, d4, d5, d6⟩, e0, e1, e2, e3, e4, e5, e6⟩ := HS.out.cells
              go_upto_region 9 with fail
              refine Sc.set6 (P := fun W => Code.wp _ _ _ _ W) _ HS.out fun W1 h1 k1 => ?_
              replace HA := hide (HA.out.own k1 hle.out hbw.out hgg.out)
              have HX2 := hide (StsV.keeps k1 (fun i hi q => by have : _ ≤ i := hi; have := hb7.out; omega) HX.out)
              replace HEa := hide (ArgsV.keeps k1 (fun i hi q => hi.2 q) HEa.out)
              replace HBl := hide (StsV.keeps k1 (fun i hi q => hi.2 q) HBl.out)
              replace HS := hide h1
              clear d0 d1 d2 d3 d4 d5 d6 e0 e1 e2 e3 e4 e5 e6
              clear h1 k1
              obtain ⟨⟨d0, d1, d2, d3, d4, d5, d6⟩, e0, e1, e2, e3, e4, e5, e6⟩ := HS.out.cells
              obtain ⟨⟨c0, c1, c2, c3, c4, c5, c6⟩, f0, f1, f2, f3, f4, f5, f6⟩ := HA.out.2.2.2.cells
              generalize hgz : w.heap.size = g at *
              replace hgz := hide hgz
              go_wp2_with fail
              refine set7 (P := fun W => bodyPost _ _ _ _ _ W) HA.out.2.2.2 fun W5 h11 k11 => ?_
              obtain ⟨⟨q0, q1, q2, q3, q4, q5, q6⟩, -⟩ := h11.cells
              refine bodyPost_ret (v := .agg #[.int .i64 6, .string ⟨#[]⟩, .string ⟨#[]⟩, .string ⟨#[]⟩, .slice (some ⟨ga, 0, none⟩) 1 1, .slice bp bm bc, .slice lp lm lc]) (by simp [results, Tryd.results89, go_sem, q0, q1, q2, q3, q4, q5, q6]) rfl ?_
              rw [← hQ.out]
              exact part_ok HR.out (res_st rfl hgz.out HA.out.2.2.1 (StC.mk (ArgsV.mono (P' := fun i => g < i) (fun i hi => hi.1) HEa.out) (StsV.mono (fun i hi => hi.1) HBl.out) (StsV.mono (fun i hi => by have : _ ≤ i := hi; have : _ ≤ i := hi; have := hb7.out; have := hgs.out; omega) HX2.out)) (fun i hi => hi) HA.out.1 HA.out.2.1 hbw.out k11)
        | false =>
          have hm : Calls Tryd.prog 64 #[.pointer (some ⟨b, 0, none⟩), .string ⟨#[101, 108, 115, 101]⟩] _ fun e w' => e = .returned (.bool (isF kElse (ts3))) ∧ AdvP _ b T (if isF kElse (ts3) then (ts3).tail else (ts3)) w' := met_any HA.out.1 HA.out.2.1 kElse
          rw [hF21] at hm
          simp only [Bool.false_eq_true, if_false] at hm
          replace HR := hide (HR.out.trans (if_neg (by rw [hF21]; decide)))
          clear hF21
          go_upto_region 5 with (go_at_call 64; (with_reducible refine hm.mono ?_); rintro e wm21 ⟨rfl, hA⟩)
          have HEb := hide (ArgsV.keeps hA.2.2 (fun i hi q => by have := hi.1; have := hbw.out; omega) HEa.out)
          have HBb := hide (StsV.keeps hA.2.2 (fun i hi q => by have := hi.1; have := hbw.out; omega) HBl.out)
          replace HS := hide (HS.out.keeps hA.2.2 hbs.out)
          replace HA := hide (HA.out.adv hA hgb.out)
          clear HEa HBl
          have HEa := HEb
          have HBl := HBb
          clear HEb HBb
          clear hm hA
          obtain ⟨⟨d0, d1, d2, d3, d4, d5, d6⟩, e0, e1, e2, e3, e4, e5, e6⟩ := HS.out.cells
          obtain ⟨⟨c0, c1, c2, c3, c4, c5, c6⟩, f0, f1, f2, f3, f4, f5, f6⟩ := HA.out.2.2.2.cells
          generalize hgz : w.heap.size = g at *
          replace hgz := hide hgz
          go_wp2_with fail
          refine set7 (P := fun W => bodyPost _ _ _ _ _ W) HA.out.2.2.2 fun W5 h11 k11 => ?_
          obtain ⟨⟨q0, q1, q2, q3, q4, q5, q6⟩, -⟩ := h11.cells
          refine bodyPost_ret (v := .agg #[.int .i64 6, .string ⟨#[]⟩, .string ⟨#[]⟩, .string ⟨#[]⟩, .slice (some ⟨ga, 0, none⟩) 1 1, .slice bp bm bc, .slice none 0 0]) (by simp [results, Tryd.results89, go_sem, q0, q1, q2, q3, q4, q5, q6]) rfl ?_
          rw [← hQ.out]
          exact part_ok HR.out (res_st rfl hgz.out HA.out.2.2.1 (StC.mk (ArgsV.mono (P' := fun i => g < i) (fun i hi => hi.1) HEa.out) (StsV.mono (fun i hi => hi.1) HBl.out) StsV.nil) (fun i hi => hi) HA.out.1 HA.out.2.1 hbw.out k11)
      · have hsD : Hid (((W3.alloc (.cells #[.int .i64 0, .string ⟨#[]⟩, .string ⟨#[]⟩, .string ⟨#[]⟩, .slice none 0 0, .slice none 0 0, .slice none 0 0] 49)).alloc (.cells #[.int .i64 k', .int .i64 n', .string (sB nm), .string (sB op), .slice sp sm sc] 42)).drew.heap.size = W3.heap.size + 2) := hide (by simp)
        go_upto_region 4 with fail
        refine set7 (P := fun W => Code.wp _ _ _ _ W) HZ9.out fun W9 h9 k9 => ?_
        have HT : Hid (IfT w b T x bl ts3 (W3.heap.size) (W3.heap.size + 1) (.slice bp bm bc) W9) := hide (IfT.mk' (cs := [.int .i64 k', .int .i64 n', .string (sB nm), .string (sB op), .slice sp sm sc]) HA8.out (by have := HAd.out.2.2.size; have := hsD.out; have := hg3.out; have := hgx3.out; have := hk8.out; have := hgx2.out; omega) hbw.out ((k9.block _ (heap_lt HX9.out) (by have := HAd.out.2.2.size; have := hsD.out; have := hg3.out; have := hgx3.out; have := hk8.out; have := hgx2.out; omega)).trans HX9.out) (by have := HAd.out.2.2.size; have := hsD.out; have := hg3.out; have := hgx3.out; have := hk8.out; have := hgx2.out; omega) (by have := HAd.out.2.2.size; have := hsD.out; have := hg3.out; have := hgx3.out; have := hk8.out; have := hgx2.out; omega) Hx8.out (fun i hi => by have h1 : _ ≤ i := hi.1; have h2 := hi.2; have := HAd.out.2.2.size; have := hsD.out; have := hg3.out; have := hgx3.out; have := hk8.out; have := hgx2.out; constructor <;> omega) HB8.out (fun i hi => by have h1 : _ ≤ i := hi.1; have h2 := hi.2; have := hg3.out; have := hgx3.out; have := hk8.out; have := hgx2.out; have := hsD.out; have := HAd.out.2.2.size; constructor <;> omega) k9 h9)
        clear h9 k9
        clear hneB hcD0 hcDX hcDZ hcDXZ hcDZX hnXx hnZz hnXZx hnXZz hnZXz hnZXx x0 x1 x2 x3 x4 xz0 xz1 xz2 xz3 xz4 hsD hk8 Hx8 HB8 HAd HA8 hg8 H3 HX3 hgx3 HA HR kD0 kDX kDZ kDXZ kDZX hgx2 hg3 HX9 HZ9 z0 z1 z2 z3 z4 z5 z6 u0 u1' u2 u3 u4 u5 u6
        generalize (W3.heap.size + 1) = ga at *
        generalize W3.heap.size = gs at *
        have HA := hide HT.out.at_
        have HS := hide HT.out.sc
        have hgs := hide HT.out.lt
        have HEa := hide HT.out.ex
        have HBl := hide HT.out.st
        have HR := HR3
        have hbs : Hid (¬ gs = b) := hide (fun q => by have := hgs.out; have := hbw.out; omega)
        have hgg : Hid (¬ w.heap.size = gs) := hide (fun q => by have := hgs.out; omega)
        have hle : Hid (w.heap.size ≤ gs) := hide (Nat.le_of_lt hgs.out)
        clear HT HR3
        cases hF21 : isF kElse ts3 with
        | true =>
          have hm : Calls Tryd.prog 64 #[.pointer (some ⟨b, 0, none⟩), .string ⟨#[101, 108, 115, 101]⟩] _ fun e w' => e = .returned (.bool (isF kElse (ts3))) ∧ AdvP _ b T (if isF kElse (ts3) then (ts3).tail else (ts3)) w' := met_any HA.out.1 HA.out.2.1 kElse
          rw [hF21] at hm
          simp only [if_true] at hm
          replace HR := hide (HR.out.trans (if_pos hF21))
          clear hF21
          go_upto_region 6 with (go_at_call 64; (with_reducible refine hm.mono ?_); rintro e wm21 ⟨rfl, hA⟩)
          have HEb := hide (ArgsV.keeps hA.2.2 (fun i hi q => by have := hi.1; have := hbw.out; omega) HEa.out)
          have HBb := hide (StsV.keeps hA.2.2 (fun i hi q => by have := hi.1; have := hbw.out; omega) HBl.out)
          replace HS := hide (HS.out.keeps hA.2.2 hbs.out)
          replace HA := hide (HA.out.adv hA hgb.out)
          clear HEa HBl
          have HEa := HEb
          have HBl := HBb
          clear HEb HBb
          clear hm hA
          cases hF22 : isF kIf ts3.tail with
          | true =>
            have hm : Calls Tryd.prog 86 #[.pointer (some ⟨b, 0, none⟩), .string ⟨#[105, 102]⟩] _ fun e w' => e = .returned (.bool (isF kIf (ts3.tail))) ∧ w' = _ := is_any HA.out.1 kIf
            rw [hF22] at hm
            replace HR := hide (HR.out.trans (if_pos hF22))
            clear hF22
            go_upto_region 7 with (go_at_call 86; (with_reducible refine hm.mono ?_); rintro e wm22 ⟨rfl, rfl⟩)
            clear hm
            have hne33 : ifD n (ts3.tail) ≠ .out := bind_out HR.out HRo.out
            have hc := HIf.out _ (ts3.tail) HA.out.1 HA.out.2.1 hne33
            cases hR33 : ifD n (ts3.tail) with
            | out => exact absurd hR33 (bind_out HR.out HRo.out)
            | no l er =>
              rw [hR33] at hc
              replace HR := hide (bind_no HR.out hR33)
              clear hR33 hne33
              go_wp2_with fail
              refine hc.mono ?_
              rintro e w9 ⟨rfl, h5, k5⟩
              refine ⟨rfl, ?_⟩
              rw [← hQ.out]
              exact part_no HR.out h5 HA.out.2.2.1 k5
            | ok y ts4 =>
              rw [hR33] at hc
              replace HR := hide (bind_ok HR.out hR33)
              clear hR33 hne33
              go_wp2_with fail
              have hb7 := hide (show gs < _ from HS.out.lt)
              refine hc.mono ?_
              rintro e w7 ⟨v0, rfl, ⟨cs, hv, hx⟩, hA⟩
              obtain ⟨k2, nm2, ky2, vl2, ep2, em2, ec2, bp2, bm2, bc2, lp2, lm2, lc2, rfl⟩ := hx.form
              replace hv : v0 = .agg #[.int .i64 k2, .string (sB nm2), .string (sB ky2), .string (sB vl2), .slice ep2 em2 ec2, .slice bp2 bm2 bc2, .slice lp2 lm2 lc2] := hv
              subst hv
              have HX := hide hx
              have hs7 := hide hA.2.2.size
              have HEb := hide (ArgsV.keeps hA.2.2 (fun i hi q => by have := hi.1; have := hbw.out; omega) HEa.out)
              have HBb := hide (StsV.keeps hA.2.2 (fun i hi q => by have := hi.1; have := hbw.out; omega) HBl.out)
              replace HS := hide (HS.out.keeps hA.2.2 hbs.out)
              replace HA := hide (HA.out.adv hA hgb.out)
              clear HEa HBl
              have HEa := HEb
              have HBl := HBb
              clear HEb HBb
              have kA := (Keeps.refl w7 (fun _ => False)).alloc (.cells #[.int .i64 k2, .string (sB nm2), .string (sB ky2), .string (sB vl2), .slice ep2 em2 ec2, .slice bp2 bm2 bc2, .slice lp2 lm2 lc2] 49)
              have hnew := hide (heap_alloc_new w7 (.cells #[.int .i64 k2, .string (sB nm2), .string (sB ky2), .string (sB vl2), .slice ep2 em2 ec2, .slice bp2 bm2 bc2, .slice lp2 lm2 lc2] 49))
              have HX3' := hide (HX.out.keeps kA (fun _ _ q => q))
              replace HEa := hide (ArgsV.keeps kA (fun _ _ q => q) HEa.out)
              replace HBl := hide (StsV.keeps kA (fun _ _ q => q) HBl.out)
              replace HS := hide (HS.out.keeps kA id)
              replace HA := hide (HA.out.new kA)
              clear hc hA hx kA HX
              obtain ⟨⟨d0, d1, d2, d3, d4, d5, d6⟩, e0, e1, e2, e3, e4, e5, e6⟩ := HS.out.cells
              go_upto_region 9 with fail
              refine Sc.set6 (P := fun W => Code.wp _ _ _ _ W) _ HS.out fun W1 h1 k1 => ?_
              replace HA := hide (HA.out.own k1 hle.out hbw.out hgg.out)
              have hnw := (k1.block _ (heap_lt hnew.out) (fun q => by have := hb7.out; have := hs7.out; omega)).trans hnew.out
              have HX2 := hide (HX3'.out.keeps k1 (fun i hi q => by have : _ ≤ i := hi; have := hb7.out; omega))
              have HXs : Hid (StsV W1 (fun i => w.heap.size < i) [y] (.slice (some ⟨w7.heap.size, 0, none⟩) 1 1)) := hide (StsV.some (l := [_]) (by have := hb7.out; have := hs7.out; have := hgs.out; omega) (heap_lt hnw) (Nat.le_refl _) (range_blk hnw) (StsC.cons (HX2.out.mono (fun i hi => by have : _ ≤ i := hi; have := hb7.out; have := hgs.out; omega)) StsC.nil))
              replace HEa := hide (ArgsV.keeps k1 (fun i hi q => hi.2 q) HEa.out)
              replace HBl := hide (StsV.keeps k1 (fun i hi q => hi.2 q) HBl.out)
              clear hnw
              replace HS := hide h1
              clear d0 d1 d2 d3 d4 d5 d6 e0 e1 e2 e3 e4 e5 e6
              clear h1 k1
              obtain ⟨⟨d0, d1, d2, d3, d4, d5, d6⟩, e0, e1, e2, e3, e4, e5, e6⟩ := HS.out.cells
              obtain ⟨⟨c0, c1, c2, c3, c4, c5, c6⟩, f0, f1, f2, f3, f4, f5, f6⟩ := HA.out.2.2.2.cells
              generalize hgz : w.heap.size = g at *
              replace hgz := hide hgz
              go_wp2_with fail
              refine set7 (P := fun W => bodyPost _ _ _ _ _ W) HA.out.2.2.2 fun W5 h11 k11 => ?_
              obtain ⟨⟨q0, q1, q2, q3, q4, q5, q6⟩, -⟩ := h11.cells
              refine bodyPost_ret (v := .agg #[.int .i64 6, .string ⟨#[]⟩, .string ⟨#[]⟩, .string ⟨#[]⟩, .slice (some ⟨ga, 0, none⟩) 1 1, .slice bp bm bc, .slice (some ⟨w7.heap.size, 0, none⟩) 1 1]) (by simp [results, Tryd.results89, go_sem, q0, q1, q2, q3, q4, q5, q6]) rfl ?_
              rw [← hQ.out]
              exact part_ok HR.out (res_st rfl hgz.out HA.out.2.2.1 (StC.mk (ArgsV.mono (P' := fun i => g < i) (fun i hi => hi.1) HEa.out) (StsV.mono (fun i hi => hi.1) HBl.out) HXs.out) (fun i hi => hi) HA.out.1 HA.out.2.1 hbw.out k11)
          | false =>
            have hm : Calls Tryd.prog 86 #[.pointer (some ⟨b, 0, none⟩), .string ⟨#[105, 102]⟩] _ fun e w' => e = .returned (.bool (isF kIf (ts3.tail))) ∧ w' = _ := is_any HA.out.1 kIf
            rw [hF22] at hm
            replace HR := hide (HR.out.trans (if_neg (by rw [hF22]; decide)))
            clear hF22
            go_upto_region 8 with (go_at_call 86; (with_reducible refine hm.mono ?_); rintro e wm22 ⟨rfl, rfl⟩)
            clear hm
            have hne32 : blockD n (ts3.tail) ≠ .out := bind_out HR.out HRo.out
            have hc := HBk.out _ (ts3.tail) HA.out.1 HA.out.2.1 hne32
            cases hR32 : blockD n (ts3.tail) with
            | out => exact absurd hR32 (bind_out HR.out HRo.out)
            | no l er =>
              rw [hR32] at hc
              replace HR := hide (bind_no HR.out hR32)
              clear hR32 hne32
              go_wp2_with fail
              refine hc.mono ?_
              rintro e w9 ⟨rfl, h5, k5⟩
              refine ⟨rfl, ?_⟩
              rw [← hQ.out]
              exact part_no HR.out h5 HA.out.2.2.1 k5
            | ok el ts4 =>
              rw [hR32] at hc
              replace HR := hide (bind_ok HR.out hR32)
              clear hR32 hne32
              go_wp2_with fail
              have hb7 := hide (show gs < _ from HS.out.lt)
              refine hc.mono ?_
              rintro e w7 ⟨v0, rfl, hx, hA⟩
              have hx' : StsV w7 (fun i => _ ≤ i) el v0 := hx
              obtain ⟨lp, lm, lc, rfl⟩ := hx'.form
              have HX := hide hx
              have HEb := hide (ArgsV.keeps hA.2.2 (fun i hi q => by have := hi.1; have := hbw.out; omega) HEa.out)
              have HBb := hide (StsV.keeps hA.2.2 (fun i hi q => by have := hi.1; have := hbw.out; omega) HBl.out)
              replace HS := hide (HS.out.keeps hA.2.2 hbs.out)
              replace HA := hide (HA.out.adv hA hgb.out)
              clear HEa HBl
              have HEa := HEb
              have HBl := HBb
              clear HEb HBb
              clear hc hA hx hx'
              obtain ⟨⟨d0, d1, d2, d3, d4, d5, d6⟩, e0, e1, e2, e3, e4, e5, e6⟩ := HS.out.cells
              go_upto_region 9 with fail
              refine Sc.set6 (P := fun W => Code.wp _ _ _ _ W) _ HS.out fun W1 h1 k1 => ?_
              replace HA := hide (HA.out.own k1 hle.out hbw.out hgg.out)
              have HX2 := hide (StsV.keeps k1 (fun i hi q => by have : _ ≤ i := hi; have := hb7.out; omega) HX.out)
              replace HEa := hide (ArgsV.keeps k1 (fun i hi q => hi.2 q) HEa.out)
              replace HBl := hide (StsV.keeps k1 (fun i hi q => hi.2 q) HBl.out)
              replace HS := hide h1
              clear d0 d1 d2 d3 d4 d5 d6 e0 e1 e2 e3 e4 e5 e6
              clear h1 k1
              obtain ⟨⟨d0, d1, d2, d3, d4, d5, d6⟩, e0, e1, e2, e3, e4, e5, e6⟩ := HS.out.cells
              obtain ⟨⟨c0, c1, c2, c3, c4, c5, c6⟩, f0, f1, f2, f3, f4, f5, f6⟩ := HA.out.2.2.2.cells
              generalize hgz : w.heap.size = g at *
              replace hgz := hide hgz
              go_wp2_with fail
              refine set7 (P := fun W => bodyPost _ _ _ _ _ W) HA.out.2.2.2 fun W5 h11 k11 => ?_
              obtain ⟨⟨q0, q1, q2, q3, q4, q5, q6⟩, -⟩ := h11.cells
              refine bodyPost_ret (v := .agg #[.int .i64 6, .string ⟨#[]⟩, .string ⟨#[]⟩, .string ⟨#[]⟩, .slice (some ⟨ga, 0, none⟩) 1 1, .slice bp bm bc, .slice lp lm lc]) (by simp [results, Tryd.results89, go_sem, q0, q1, q2, q3, q4, q5, q6]) rfl ?_
              rw [← hQ.out]
              exact part_ok HR.out (res_st rfl hgz.out HA.out.2.2.1 (StC.mk (ArgsV.mono (P' := fun i => g < i) (fun i hi => hi.1) HEa.out) (StsV.mono (fun i hi => hi.1) HBl.out) (StsV.mono (fun i hi => by have : _ ≤ i := hi; have : _ ≤ i := hi; have := hb7.out; have := hgs.out; omega) HX2.out)) (fun i hi => hi) HA.out.1 HA.out.2.1 hbw.out k11)
        | false =>
          have hm : Calls Tryd.prog 64 #[.pointer (some ⟨b, 0, none⟩), .string ⟨#[101, 108, 115, 101]⟩] _ fun e w' => e = .returned (.bool (isF kElse (ts3))) ∧ AdvP _ b T (if isF kElse (ts3) then (ts3).tail else (ts3)) w' := met_any HA.out.1 HA.out.2.1 kElse
          rw [hF21] at hm
          simp only [Bool.false_eq_true, if_false] at hm
          replace HR := hide (HR.out.trans (if_neg (by rw [hF21]; decide)))
          clear hF21
          go_upto_region 5 with (go_at_call 64; (with_reducible refine hm.mono ?_); rintro e wm21 ⟨rfl, hA⟩)
          have HEb := hide (ArgsV.keeps hA.2.2 (fun i hi q => by have := hi.1; have := hbw.out; omega) HEa.out)
          have HBb := hide (StsV.keeps hA.2.2 (fun i hi q => by have := hi.1; have := hbw.out; omega) HBl.out)
          replace HS := hide (HS.out.keeps hA.2.2 hbs.out)
          replace HA := hide (HA.out.adv hA hgb.out)
          clear HEa HBl
          have HEa := HEb
          have HBl := HBb
          clear HEb HBb
          clear hm hA
          obtain ⟨⟨d0, d1, d2, d3, d4, d5, d6⟩, e0, e1, e2, e3, e4, e5, e6⟩ := HS.out.cells
          obtain ⟨⟨c0, c1, c2, c3, c4, c5, c6⟩, f0, f1, f2, f3, f4, f5, f6⟩ := HA.out.2.2.2.cells
          generalize hgz : w.heap.size = g at *
          replace hgz := hide hgz
          go_wp2_with fail
          refine set7 (P := fun W => bodyPost _ _ _ _ _ W) HA.out.2.2.2 fun W5 h11 k11 => ?_
          obtain ⟨⟨q0, q1, q2, q3, q4, q5, q6⟩, -⟩ := h11.cells
          refine bodyPost_ret (v := .agg #[.int .i64 6, .string ⟨#[]⟩, .string ⟨#[]⟩, .string ⟨#[]⟩, .slice (some ⟨ga, 0, none⟩) 1 1, .slice bp bm bc, .slice none 0 0]) (by simp [results, Tryd.results89, go_sem, q0, q1, q2, q3, q4, q5, q6]) rfl ?_
          rw [← hQ.out]
          exact part_ok HR.out (res_st rfl hgz.out HA.out.2.2.1 (StC.mk (ArgsV.mono (P' := fun i => g < i) (fun i hi => hi.1) HEa.out) (StsV.mono (fun i hi => hi.1) HBl.out) StsV.nil) (fun i hi => hi) HA.out.1 HA.out.2.1 hbw.out k11)
      · have hsD : Hid ((W3.alloc (.cells #[.int .i64 0, .string ⟨#[]⟩, .string ⟨#[]⟩, .string ⟨#[]⟩, .slice none 0 0, .slice none 0 0, .slice none 0 0] 49)).drew.heap.size = W3.heap.size + 1) := hide (by simp)
        go_upto_region 4 with fail
        refine set7 (P := fun W => Code.wp _ _ _ _ W) HZ9.out fun W9 h9 k9 => ?_
        have HT : Hid (IfT w b T x bl ts3 (W3.heap.size) (w8.heap.size) (.slice bp bm bc) W9) := hide (IfT.mk' (cs := [.int .i64 k', .int .i64 n', .string (sB nm), .string (sB op), .slice sp sm sc]) (HA8.out.new ((Keeps.refl w8 (fun _ => False)).alloc _)) (by have := HAd.out.2.2.size; have := hsD.out; have := hg3.out; have := hgx3.out; have := hk8.out; have := hgx2.out; omega) hbw.out ((k9.block _ (heap_lt (heap_alloc_new w8 _)) (by have := HAd.out.2.2.size; have := hsD.out; have := hg3.out; have := hgx3.out; have := hk8.out; have := hgx2.out; omega)).trans (heap_alloc_new w8 _)) (by have := HAd.out.2.2.size; have := hsD.out; have := hg3.out; have := hgx3.out; have := hk8.out; have := hgx2.out; omega) (by have := HAd.out.2.2.size; have := hsD.out; have := hg3.out; have := hgx3.out; have := hk8.out; have := hgx2.out; omega) (Hx8.out.keeps ((Keeps.refl w8 (fun _ => False)).alloc _) (fun _ _ q => q)) (fun i hi => by have h1 : _ ≤ i := hi.1; have h2 := hi.2; have := HAd.out.2.2.size; have := hsD.out; have := hg3.out; have := hgx3.out; have := hk8.out; have := hgx2.out; constructor <;> omega) (StsV.keeps ((Keeps.refl w8 (fun _ => False)).alloc _) (fun _ _ q => q) HB8.out) (fun i hi => by have h1 : _ ≤ i := hi.1; have h2 := hi.2; have := hg3.out; have := hgx3.out; have := hk8.out; have := hgx2.out; have := hsD.out; have := HAd.out.2.2.size; constructor <;> omega) k9 h9)
        clear h9 k9
        clear hneB hcD0 hcDX hcDZ hcDXZ hcDZX hnXx hnZz hnXZx hnXZz hnZXz hnZXx x0 x1 x2 x3 x4 xz0 xz1 xz2 xz3 xz4 hsD hk8 Hx8 HB8 HAd HA8 hg8 H3 HX3 hgx3 HA HR kD0 kDX kDZ kDXZ kDZX hgx2 hg3 y0 y1 y2 y3 y4 z0 z1 z2 z3 z4 z5 z6 u0 u1' u2 u3 u4 u5 u6 HZ9
        generalize w8.heap.size = ga at *
        generalize W3.heap.size = gs at *
        have HA := hide HT.out.at_
        have HS := hide HT.out.sc
        have hgs := hide HT.out.lt
        have HEa := hide HT.out.ex
        have HBl := hide HT.out.st
        have HR := HR3
        have hbs : Hid (¬ gs = b) := hide (fun q => by have := hgs.out; have := hbw.out; omega)
        have hgg : Hid (¬ w.heap.size = gs) := hide (fun q => by have := hgs.out; omega)
        have hle : Hid (w.heap.size ≤ gs) := hide (Nat.le_of_lt hgs.out)
        clear HT HR3
        cases hF21 : isF kElse ts3 with
        | true =>
          have hm : Calls Tryd.prog 64 #[.pointer (some ⟨b, 0, none⟩), .string ⟨#[101, 108, 115, 101]⟩] _ fun e w' => e = .returned (.bool (isF kElse (ts3))) ∧ AdvP _ b T (if isF kElse (ts3) then (ts3).tail else (ts3)) w' := met_any HA.out.1 HA.out.2.1 kElse
          rw [hF21] at hm
          simp only [if_true] at hm
          replace HR := hide (HR.out.trans (if_pos hF21))
          clear hF21
          go_upto_region 6 with (go_at_call 64; (with_reducible refine hm.mono ?_); rintro e wm21 ⟨rfl, hA⟩)
          have HEb := hide (ArgsV.keeps hA.2.2 (fun i hi q => by have := hi.1; have := hbw.out; omega) HEa.out)
          have HBb := hide (StsV.keeps hA.2.2 (fun i hi q => by have := hi.1; have := hbw.out; omega) HBl.out)
          replace HS := hide (HS.out.keeps hA.2.2 hbs.out)
          replace HA := hide (HA.out.adv hA hgb.out)
          clear HEa HBl
          have HEa := HEb
          have HBl := HBb
          clear HEb HBb
          clear hm hA
          cases hF22 : isF kIf ts3.tail with
          | true =>
            have hm : Calls Tryd.prog 86 #[.pointer (some ⟨b, 0, none⟩), .string ⟨#[105, 102]⟩] _ fun e w' => e = .returned (.bool (isF kIf (ts3.tail))) ∧ w' = _ := is_any HA.out.1 kIf
            rw [hF22] at hm
            replace HR := hide (HR.out.trans (if_pos hF22))
            clear hF22
            go_upto_region 7 with (go_at_call 86; (with_reducible refine hm.mono ?_); rintro e wm22 ⟨rfl, rfl⟩)
            clear hm
            have hne33 : ifD n (ts3.tail) ≠ .out := bind_out HR.out HRo.out
            have hc := HIf.out _ (ts3.tail) HA.out.1 HA.out.2.1 hne33
            cases hR33 : ifD n (ts3.tail) with
            | out => exact absurd hR33 (bind_out HR.out HRo.out)
            | no l er =>
              rw [hR33] at hc
              replace HR := hide (bind_no HR.out hR33)
              clear hR33 hne33
              go_wp2_with fail
              refine hc.mono ?_
              rintro e w9 ⟨rfl, h5, k5⟩
              refine ⟨rfl, ?_⟩
              rw [← hQ.out]
              exact part_no HR.out h5 HA.out.2.2.1 k5
            | ok y ts4 =>
              rw [hR33] at hc
              replace HR := hide (bind_ok HR.out hR33)
              clear hR33 hne33
              go_wp2_with fail
              have hb7 := hide (show gs < _ from HS.out.lt)
              refine hc.mono ?_
              rintro e w7 ⟨v0, rfl, ⟨cs, hv, hx⟩, hA⟩
              obtain ⟨k2, nm2, ky2, vl2, ep2, em2, ec2, bp2, bm2, bc2, lp2, lm2, lc2, rfl⟩ := hx.form
              replace hv : v0 = .agg #[.int .i64 k2, .string (sB nm2), .string (sB ky2), .string (sB vl2), .slice ep2 em2 ec2, .slice bp2 bm2 bc2, .slice lp2 lm2 lc2] := hv
              subst hv
              have HX := hide hx
              have hs7 := hide hA.2.2.size
              have HEb := hide (ArgsV.keeps hA.2.2 (fun i hi q => by have := hi.1; have := hbw.out; omega) HEa.out)
              have HBb := hide (StsV.keeps hA.2.2 (fun i hi q => by have := hi.1; have := hbw.out; omega) HBl.out)
              replace HS := hide (HS.out.keeps hA.2.2 hbs.out)
              replace HA := hide (HA.out.adv hA hgb.out)
              clear HEa HBl
              have HEa := HEb
              have HBl := HBb
              clear HEb HBb
              have kA := (Keeps.refl w7 (fun _ => False)).alloc (.cells #[.int .i64 k2, .string (sB nm2), .string (sB ky2), .string (sB vl2), .slice ep2 em2 ec2, .slice bp2 bm2 bc2, .slice lp2 lm2 lc2] 49)
              have hnew := hide (heap_alloc_new w7 (.cells #[.int .i64 k2, .string (sB nm2), .string (sB ky2), .string (sB vl2), .slice ep2 em2 ec2, .slice bp2 bm2 bc2, .slice lp2 lm2 lc2] 49))
              have HX3' := hide (HX.out.keeps kA (fun _ _ q => q))
              replace HEa := hide (ArgsV.keeps kA (fun _ _ q => q) HEa.out)
              replace HBl := hide (StsV.keeps kA (fun _ _ q => q) HBl.out)
              replace HS := hide (HS.out.keeps kA id)
              replace HA := hide (HA.out.new kA)
              clear hc hA hx kA HX
              obtain ⟨⟨d0, d1, d2, d3, d4, d5, d6⟩, e0, e1, e2, e3, e4, e5, e6⟩ := HS.out.cells
              go_upto_region 9 with fail
              refine Sc.set6 (P := fun W => Code.wp _ _ _ _ W) _ HS.out fun W1 h1 k1 => ?_
              replace HA := hide (HA.out.own k1 hle.out hbw.out hgg.out)
              have hnw := (k1.block _ (heap_lt hnew.out) (fun q => by have := hb7.out; have := hs7.out; omega)).trans hnew.out
              have HX2 := hide (HX3'.out.keeps k1 (fun i hi q => by have : _ ≤ i := hi; have := hb7.out; omega))
              have HXs : Hid (StsV W1 (fun i => w.heap.size < i) [y] (.slice (some ⟨w7.heap.size, 0, none⟩) 1 1)) := hide (StsV.some (l := [_]) (by have := hb7.out; have := hs7.out; have := hgs.out; omega) (heap_lt hnw) (Nat.le_refl _) (range_blk hnw) (StsC.cons (HX2.out.mono (fun i hi => by have : _ ≤ i := hi; have := hb7.out; have := hgs.out; omega)) StsC.nil))
              replace HEa := hide (ArgsV.keeps k1 (fun i hi q => hi.2 q) HEa.out)
              replace HBl := hide (StsV.keeps k1 (fun i hi q => hi.2 q) HBl.out)
              clear hnw
              replace HS := hide h1
              clear d0 d1 d2 d3 d4 d5 d6 e0 e1 e2 e3 e4 e5 e6
              clear h1 k1
              obtain ⟨⟨d0, d1, d2, d3, d4, d5, d6⟩, e0, e1, e2, e3, e4, e5, e6⟩ := HS.out.cells
              obtain ⟨⟨c0, c1, c2, c3, c4, c5, c6⟩, f0, f1, f2, f3, f4, f5, f6⟩ := HA.out.2.2.2.cells
              generalize hgz : w.heap.size = g at *
              replace hgz := hide hgz
              go_wp2_with fail
              refine set7 (P := fun W => bodyPost _ _ _ _ _ W) HA.out.2.2.2 fun W5 h11 k11 => ?_
              obtain ⟨⟨q0, q1, q2, q3, q4, q5, q6⟩, -⟩ := h11.cells
              refine bodyPost_ret (v := .agg #[.int .i64 6, .string ⟨#[]⟩, .string ⟨#[]⟩, .string ⟨#[]⟩, .slice (some ⟨ga, 0, none⟩) 1 1, .slice bp bm bc, .slice (some ⟨w7.heap.size, 0, none⟩) 1 1]) (by simp [results, Tryd.results89, go_sem, q0, q1, q2, q3, q4, q5, q6]) rfl ?_
              rw [← hQ.out]
              exact part_ok HR.out (res_st rfl hgz.out HA.out.2.2.1 (StC.mk (ArgsV.mono (P' := fun i => g < i) (fun i hi => hi.1) HEa.out) (StsV.mono (fun i hi => hi.1) HBl.out) HXs.out) (fun i hi => hi) HA.out.1 HA.out.2.1 hbw.out k11)
          | false =>
            have hm : Calls Tryd.prog 86 #[.pointer (some ⟨b, 0, none⟩), .string ⟨#[105, 102]⟩] _ fun e w' => e = .returned (.bool (isF kIf (ts3.tail))) ∧ w' = _ := is_any HA.out.1 kIf
            rw [hF22] at hm
            replace HR := hide (HR.out.trans (if_neg (by rw [hF22]; decide)))
            clear hF22
            go_upto_region 8 with (go_at_call 86; (with_reducible refine hm.mono ?_); rintro e wm22 ⟨rfl, rfl⟩)
            clear hm
            have hne32 : blockD n (ts3.tail) ≠ .out := bind_out HR.out HRo.out
            have hc := HBk.out _ (ts3.tail) HA.out.1 HA.out.2.1 hne32
            cases hR32 : blockD n (ts3.tail) with
            | out => exact absurd hR32 (bind_out HR.out HRo.out)
            | no l er =>
              rw [hR32] at hc
              replace HR := hide (bind_no HR.out hR32)
              clear hR32 hne32
              go_wp2_with fail
              refine hc.mono ?_
              rintro e w9 ⟨rfl, h5, k5⟩
              refine ⟨rfl, ?_⟩
              rw [← hQ.out]
              exact part_no HR.out h5 HA.out.2.2.1 k5
            | ok el ts4 =>
              rw [hR32] at hc
              replace HR := hide (bind_ok HR.out hR32)
              clear hR32 hne32
              go_wp2_with fail
              have hb7 := hide (show gs < _ from HS.out.lt)
              refine hc.mono ?_
              rintro e w7 ⟨v0, rfl, hx, hA⟩
              have hx' : StsV w7 (fun i => _ ≤ i) el v0 := hx
              obtain ⟨lp, lm, lc, rfl⟩ := hx'.form
              have HX := hide hx
              have HEb := hide (ArgsV.keeps hA.2.2 (fun i hi q => by have := hi.1; have := hbw.out; omega) HEa.out)
              have HBb := hide (StsV.keeps hA.2.2 (fun i hi q => by have := hi.1; have := hbw.out; omega) HBl.out)
              replace HS := hide (HS.out.keeps hA.2.2 hbs.out)
              replace HA := hide (HA.out.adv hA hgb.out)
              clear HEa HBl
              have HEa := HEb
              have HBl := HBb
              clear HEb HBb
              clear hc hA hx hx'
              obtain ⟨⟨d0, d1, d2, d3, d4, d5, d6⟩, e0, e1, e2, e3, e4, e5, e6⟩ := HS.out.cells
              go_upto_region 9 with fail
              refine Sc.set6 (P := fun W => Code.wp _ _ _ _ W) _ HS.out fun W1 h1 k1 => ?_
              replace HA := hide (HA.out.own k1 hle.out hbw.out hgg.out)
              have HX2 := hide (StsV.keeps k1 (fun i hi q => by have : _ ≤ i := hi; have := hb7.out; omega) HX.out)
              replace HEa := hide (ArgsV.keeps k1 (fun i hi q => hi.2 q) HEa.out)
              replace HBl := hide (StsV.keeps k1 (fun i hi q => hi.2 q) HBl.out)
              replace HS := hide h1
              clear d0 d1 d2 d3 d4 d5 d6 e0 e1 e2 e3 e4 e5 e6
              clear h1 k1
              obtain ⟨⟨d0, d1, d2, d3, d4, d5, d6⟩, e0, e1, e2, e3, e4, e5, e6⟩ := HS.out.cells
              obtain ⟨⟨c0, c1, c2, c3, c4, c5, c6⟩, f0, f1, f2, f3, f4, f5, f6⟩ := HA.out.2.2.2.cells
              generalize hgz : w.heap.size = g at *
              replace hgz := hide hgz
              go_wp2_with fail
              refine set7 (P := fun W => bodyPost _ _ _ _ _ W) HA.out.2.2.2 fun W5 h11 k11 => ?_
              obtain ⟨⟨q0, q1, q2, q3, q4, q5, q6⟩, -⟩ := h11.cells
              refine bodyPost_ret (v := .agg #[.int .i64 6, .string ⟨#[]⟩, .string ⟨#[]⟩, .string ⟨#[]⟩, .slice (some ⟨ga, 0, none⟩) 1 1, .slice bp bm bc, .slice lp lm lc]) (by simp [results, Tryd.results89, go_sem, q0, q1, q2, q3, q4, q5, q6]) rfl ?_
              rw [← hQ.out]
              exact part_ok HR.out (res_st rfl hgz.out HA.out.2.2.1 (StC.mk (ArgsV.mono (P' := fun i => g < i) (fun i hi => hi.1) HEa.out) (StsV.mono (fun i hi => hi.1) HBl.out) (StsV.mono (fun i hi => by have : _ ≤ i := hi; have : _ ≤ i := hi; have := hb7.out; have := hgs.out; omega) HX2.out)) (fun i hi => hi) HA.out.1 HA.out.2.1 hbw.out k11)
        | false =>
          have hm : Calls Tryd.prog 64 #[.pointer (some ⟨b, 0, none⟩), .string ⟨#[101, 108, 115, 101]⟩] _ fun e w' => e = .returned (.bool (isF kElse (ts3))) ∧ AdvP _ b T (if isF kElse (ts3) then (ts3).tail else (ts3)) w' := met_any HA.out.1 HA.out.2.1 kElse
          rw [hF21] at hm
          simp only [Bool.false_eq_true, if_false] at hm
          replace HR := hide (HR.out.trans (if_neg (by rw [hF21]; decide)))
          clear hF21
          go_upto_region 5 with (go_at_call 64; (with_reducible refine hm.mono ?_); rintro e wm21 ⟨rfl, hA⟩)
          have HEb := hide (ArgsV.keeps hA.2.2 (fun i hi q => by have := hi.1; have := hbw.out; omega) HEa.out)
          have HBb := hide (StsV.keeps hA.2.2 (fun i hi q => by have := hi.1; have := hbw.out; omega) HBl.out)
          replace HS := hide (HS.out.keeps hA.2.2 hbs.out)
          replace HA := hide (HA.out.adv hA hgb.out)
          clear HEa HBl
          have HEa := HEb
          have HBl := HBb
          clear HEb HBb
          clear hm hA
          obtain ⟨⟨d0, d1, d2, d3, d4, d5, d6⟩, e0, e1, e2, e3, e4, e5, e6⟩ := HS.out.cells
          obtain ⟨⟨c0, c1, c2, c3, c4, c5, c6⟩, f0, f1, f2, f3, f4, f5, f6⟩ := HA.out.2.2.2.cells
          generalize hgz : w.heap.size = g at *
          replace hgz := hide hgz
          go_wp2_with fail
          refine set7 (P := fun W => bodyPost _ _ _ _ _ W) HA.out.2.2.2 fun W5 h11 k11 => ?_
          obtain ⟨⟨q0, q1, q2, q3, q4, q5, q6⟩, -⟩ := h11.cells
          refine bodyPost_ret (v := .agg #[.int .i64 6, .string ⟨#[]⟩, .string ⟨#[]⟩, .string ⟨#[]⟩, .slice (some ⟨ga, 0, none⟩) 1 1, .slice bp bm bc, .slice none 0 0]) (by simp [results, Tryd.results89, go_sem, q0, q1, q2, q3, q4, q5, q6]) rfl ?_
          rw [← hQ.out]
          exact part_ok HR.out (res_st rfl hgz.out HA.out.2.2.1 (StC.mk (ArgsV.mono (P' := fun i => g < i) (fun i hi => hi.1) HEa.out) (StsV.mono (fun i hi => hi.1) HBl.out) StsV.nil) (fun i hi => hi) HA.out.1 HA.out.2.1 hbw.out k11)
      · have hsD : Hid ((W3.alloc (.cells #[.int .i64 0, .string ⟨#[]⟩, .string ⟨#[]⟩, .string ⟨#[]⟩, .slice none 0 0, .slice none 0 0, .slice none 0 0] 49)).drew.heap.size = W3.heap.size + 1) := hide (by simp)
        go_upto_region 4 with fail
        refine set7 (P := fun W => Code.wp _ _ _ _ W) HZ9.out fun W9 h9 k9 => ?_
        have HT : Hid (IfT w b T x bl ts3 (W3.heap.size) (w8.heap.size) (.slice bp bm bc) W9) := hide (IfT.mk' (cs := [.int .i64 k', .int .i64 n', .string (sB nm), .string (sB op), .slice sp sm sc]) (HA8.out.new ((Keeps.refl w8 (fun _ => False)).alloc _)) (by have := HAd.out.2.2.size; have := hsD.out; have := hg3.out; have := hgx3.out; have := hk8.out; have := hgx2.out; omega) hbw.out ((k9.block _ (heap_lt (heap_alloc_new w8 _)) (by have := HAd.out.2.2.size; have := hsD.out; have := hg3.out; have := hgx3.out; have := hk8.out; have := hgx2.out; omega)).trans (heap_alloc_new w8 _)) (by have := HAd.out.2.2.size; have := hsD.out; have := hg3.out; have := hgx3.out; have := hk8.out; have := hgx2.out; omega) (by have := HAd.out.2.2.size; have := hsD.out; have := hg3.out; have := hgx3.out; have := hk8.out; have := hgx2.out; omega) (Hx8.out.keeps ((Keeps.refl w8 (fun _ => False)).alloc _) (fun _ _ q => q)) (fun i hi => by have h1 : _ ≤ i := hi.1; have h2 := hi.2; have := HAd.out.2.2.size; have := hsD.out; have := hg3.out; have := hgx3.out; have := hk8.out; have := hgx2.out; constructor <;> omega) (StsV.keeps ((Keeps.refl w8 (fun _ => False)).alloc _) (fun _ _ q => q) HB8.out) (fun i hi => by have h1 : _ ≤ i := hi.1; have h2 := hi.2; have := hg3.out; have := hgx3.out; have := hk8.out; have := hgx2.out; have := hsD.out; have := HAd.out.2.2.size; constructor <;> omega) k9 h9)
        clear h9 k9
        clear hneB hcD0 hcDX hcDZ hcDXZ hcDZX hnXx hnZz hnXZx hnXZz hnZXz hnZXx x0 x1 x2 x3 x4 xz0 xz1 xz2 xz3 xz4 hsD hk8 Hx8 HB8 HAd HA8 hg8 H3 HX3 hgx3 HA HR kD0 kDX kDZ kDXZ kDZX hgx2 hg3 y0 y1 y2 y3 y4 z0 z1 z2 z3 z4 z5 z6 u0 u1' u2 u3 u4 u5 u6 HZ9
        generalize w8.heap.size = ga at *
        generalize W3.heap.size = gs at *
        have HA := hide HT.out.at_
        have HS := hide HT.out.sc
        have hgs := hide HT.out.lt
        have HEa := hide HT.out.ex
        have HBl := hide HT.out.st
        have HR := HR3
        have hbs : Hid (¬ gs = b) := hide (fun q => by have := hgs.out; have := hbw.out; omega)
        have hgg : Hid (¬ w.heap.size = gs) := hide (fun q => by have := hgs.out; omega)
        have hle : Hid (w.heap.size ≤ gs) := hide (Nat.le_of_lt hgs.out)
        clear HT HR3
        cases hF21 : isF kElse ts3 with
        | true =>
          have hm : Calls Tryd.prog 64 #[.pointer (some ⟨b, 0, none⟩), .string ⟨#[101, 108, 115, 101]⟩] _ fun e w' => e = .returned (.bool (isF kElse (ts3))) ∧ AdvP _ b T (if isF kElse (ts3) then (ts3).tail else (ts3)) w' := met_any HA.out.1 HA.out.2.1 kElse
          rw [hF21] at hm
          simp only [if_true] at hm
          replace HR := hide (HR.out.trans (if_pos hF21))
          clear hF21
          go_upto_region 6 with (go_at_call 64; (with_reducible refine hm.mono ?_); rintro e wm21 ⟨rfl, hA⟩)
          have HEb := hide (ArgsV.keeps hA.2.2 (fun i hi q => by have := hi.1; have := hbw.out; omega) HEa.out)
          have HBb := hide (StsV.keeps hA.2.2 (fun i hi q => by have := hi.1; have := hbw.out; omega) HBl.out)
          replace HS := hide (HS.out.keeps hA.2.2 hbs.out)
          replace HA := hide (HA.out.adv hA hgb.out)
          clear HEa HBl
          have HEa := HEb
          have HBl := HBb
          clear HEb HBb
          clear hm hA
          cases hF22 : isF kIf ts3.tail with
          | true =>
            have hm : Calls Tryd.prog 86 #[.pointer (some ⟨b, 0, none⟩), .string ⟨#[105, 102]⟩] _ fun e w' => e = .returned (.bool (isF kIf (ts3.tail))) ∧ w' = _ := is_any HA.out.1 kIf
            rw [hF22] at hm
            replace HR := hide (HR.out.trans (if_pos hF22))
            clear hF22
            go_upto_region 7 with (go_at_call 86; (with_reducible refine hm.mono ?_); rintro e wm22 ⟨rfl, rfl⟩)
            clear hm
            have hne33 : ifD n (ts3.tail) ≠ .out := bind_out HR.out HRo.out
            have hc := HIf.out _ (ts3.tail) HA.out.1 HA.out.2.1 hne33
            cases hR33 : ifD n (ts3.tail) with
            | out => exact absurd hR33 (bind_out HR.out HRo.out)
            | no l er =>
              rw [hR33] at hc
              replace HR := hide (bind_no HR.out hR33)
              clear hR33 hne33
              go_wp2_with fail
              refine hc.mono ?_
              rintro e w9 ⟨rfl, h5, k5⟩
              refine ⟨rfl, ?_⟩
              rw [← hQ.out]
              exact part_no HR.out h5 HA.out.2.2.1 k5
            | ok y ts4 =>
              rw [hR33] at hc
              replace HR := hide (bind_ok HR.out hR33)
              clear hR33 hne33
              go_wp2_with fail
              have hb7 := hide (show gs < _ from HS.out.lt)
              refine hc.mono ?_
              rintro e w7 ⟨v0, rfl, ⟨cs, hv, hx⟩, hA⟩
              obtain ⟨k2, nm2, ky2, vl2, ep2, em2, ec2, bp2, bm2, bc2, lp2, lm2, lc2, rfl⟩ := hx.form
              replace hv : v0 = .agg #[.int .i64 k2, .string (sB nm2), .string (sB ky2), .string (sB vl2), .slice ep2 em2 ec2, .slice bp2 bm2 bc2, .slice lp2 lm2 lc2] := hv
              subst hv
              have HX := hide hx
              have hs7 := hide hA.2.2.size
              have HEb := hide (ArgsV.keeps hA.2.2 (fun i hi q => by have := hi.1; have := hbw.out; omega) HEa.out)
              have HBb := hide (StsV.keeps hA.2.2 (fun i hi q => by have := hi.1; have := hbw.out; omega) HBl.out)
              replace HS := hide (HS.out.keeps hA.2.2 hbs.out)
              replace HA := hide (HA.out.adv hA hgb.out)
              clear HEa HBl
              have HEa := HEb
              have HBl := HBb
              clear HEb HBb
              have kA := (Keeps.refl w7 (fun _ => False)).alloc (.cells #[.int .i64 k2, .string (sB nm2), .string (sB ky2), .string (sB vl2), .slice ep2 em2 ec2, .slice bp2 bm2 bc2, .slice lp2 lm2 lc2] 49)
              have hnew := hide (heap_alloc_new w7 (.cells #[.int .i64 k2, .string (sB nm2), .string (sB ky2), .string (sB vl2), .slice ep2 em2 ec2, .slice bp2 bm2 bc2, .slice lp2 lm2 lc2] 49))
              have HX3' := hide (HX.out.keeps kA (fun _ _ q => q))
              replace HEa := hide (ArgsV.keeps kA (fun _ _ q => q) HEa.out)
              replace HBl := hide (StsV.keeps kA (fun _ _ q => q) HBl.out)
              replace HS := hide (HS.out.keeps kA id)
              replace HA := hide (HA.out.new kA)
              clear hc hA hx kA HX
              obtain ⟨⟨d0, d1, d2, d3, d4, d5, d6⟩, e0, e1, e2, e3, e4, e5, e6⟩ := HS.out.cells
              go_upto_region 9 with fail
              refine Sc.set6 (P := fun W => Code.wp _ _ _ _ W) _ HS.out fun W1 h1 k1 => ?_
              replace HA := hide (HA.out.own k1 hle.out hbw.out hgg.out)
              have hnw := (k1.block _ (heap_lt hnew.out) (fun q => by have := hb7.out; have := hs7.out; omega)).trans hnew.out
              have HX2 := hide (HX3'.out.keeps k1 (fun i hi q => by have : _ ≤ i := hi; have := hb7.out; omega))
              have HXs : Hid (StsV W1 (fun i => w.heap.size < i) [y] (.slice (some ⟨w7.heap.size, 0, none⟩) 1 1)) := hide (StsV.some (l := [_]) (by have := hb7.out; have := hs7.out; have := hgs.out; omega) (heap_lt hnw) (Nat.le_refl _) (range_blk hnw) (StsC.cons (HX2.out.mono (fun i hi => by have : _ ≤ i := hi; have := hb7.out; have := hgs.out; omega)) StsC.nil))
              replace HEa := hide (ArgsV.keeps k1 (fun i hi q => hi.2 q) HEa.out)
              replace HBl := hide (StsV.keeps k1 (fun i hi q => hi.2 q) HBl.out)
              clear hnw
              replace HS := hide h1
              clear d0 d1 d2 d3 d4 d5 d6 e0 e1 e2 e3 e4 e5 e6
              clear h1 k1
              obtain ⟨⟨d0, d1, d2, d3, d4, d5, d6⟩, e0, e1, e2, e3, e4, e5, e6⟩ := HS.out.cells
              obtain ⟨⟨c0, c1, c2, c3, c4, c5, c6⟩, f0, f1, f2, f3, f4, f5, f6⟩ := HA.out.2.2.2.cells
              generalize hgz : w.heap.size = g at *
              replace hgz := hide hgz
              go_wp2_with fail
              refine set7 (P := fun W => bodyPost _ _ _ _ _ W) HA.out.2.2.2 fun W5 h11 k11 => ?_
              obtain ⟨⟨q0, q1, q2, q3, q4, q5, q6⟩, -⟩ := h11.cells
              refine bodyPost_ret (v := .agg #[.int .i64 6, .string ⟨#[]⟩, .string ⟨#[]⟩, .string ⟨#[]⟩, .slice (some ⟨ga, 0, none⟩) 1 1, .slice bp bm bc, .slice (some ⟨w7.heap.size, 0, none⟩) 1 1]) (by simp [results, Tryd.results89, go_sem, q0, q1, q2, q3, q4, q5, q6]) rfl ?_
              rw [← hQ.out]
              exact part_ok HR.out (res_st rfl hgz.out HA.out.2.2.1 (StC.mk (ArgsV.mono (P' := fun i => g < i) (fun i hi => hi.1) HEa.out) (StsV.mono (fun i hi => hi.1) HBl.out) HXs.out) (fun i hi => hi) HA.out.1 HA.out.2.1 hbw.out k11)
          | false =>
            have hm : Calls Tryd.prog 86 #[.pointer (some ⟨b, 0, none⟩), .string ⟨#[105, 102]⟩] _ fun e w' => e = .returned (.bool (isF kIf (ts3.tail))) ∧ w' = _ := is_any HA.out.1 kIf
            rw [hF22] at hm
            replace HR := hide (HR.out.trans (if_neg (by rw [hF22]; decide)))
            clear hF22
            go_upto_region 8 with (go_at_call 86; (with_reducible refine hm.mono ?_); rintro e wm22 ⟨rfl, rfl⟩)
            clear hm
            have hne32 : blockD n (ts3.tail) ≠ .out := bind_out HR.out HRo.out
            have hc := HBk.out _ (ts3.tail) HA.out.1 HA.out.2.1 hne32
            cases hR32 : blockD n (ts3.tail) with
            | out => exact absurd hR32 (bind_out HR.out HRo.out)
            | no l er =>
              rw [hR32] at hc
              replace HR := hide (bind_no HR.out hR32)
              clear hR32 hne32
              go_wp2_with fail
              refine hc.mono ?_
              rintro e w9 ⟨rfl, h5, k5⟩
              refine ⟨rfl, ?_⟩
              rw [← hQ.out]
              exact part_no HR.out h5 HA.out.2.2.1 k5
            | ok el ts4 =>
              rw [hR32] at hc
              replace HR := hide (bind_ok HR.out hR32)
              clear hR32 hne32
              go_wp2_with fail
              have hb7 := hide (show gs < _ from HS.out.lt)
              refine hc.mono ?_
              rintro e w7 ⟨v0, rfl, hx, hA⟩
              have hx' : StsV w7 (fun i => _ ≤ i) el v0 := hx
              obtain ⟨lp, lm, lc, rfl⟩ := hx'.form
              have HX := hide hx
              have HEb := hide (ArgsV.keeps hA.2.2 (fun i hi q => by have := hi.1; have := hbw.out; omega) HEa.out)
              have HBb := hide (StsV.keeps hA.2.2 (fun i hi q => by have := hi.1; have := hbw.out; omega) HBl.out)
              replace HS := hide (HS.out.keeps hA.2.2 hbs.out)
              replace HA := hide (HA.out.adv hA hgb.out)
              clear HEa HBl
              have HEa := HEb
              have HBl := HBb
              clear HEb HBb
              clear hc hA hx hx'
              obtain ⟨⟨d0, d1, d2, d3, d4, d5, d6⟩, e0, e1, e2, e3, e4, e5, e6⟩ := HS.out.cells
              go_upto_region 9 with fail
              refine Sc.set6 (P := fun W => Code.wp _ _ _ _ W) _ HS.out fun W1 h1 k1 => ?_
              replace HA := hide (HA.out.own k1 hle.out hbw.out hgg.out)
              have HX2 := hide (StsV.keeps k1 (fun i hi q => by have : _ ≤ i := hi; have := hb7.out; omega) HX.out)
              replace HEa := hide (ArgsV.keeps k1 (fun i hi q => hi.2 q) HEa.out)
              replace HBl := hide (StsV.keeps k1 (fun i hi q => hi.2 q) HBl.out)
              replace HS := hide h1
              clear d0 d1 d2 d3 d4 d5 d6 e0 e1 e2 e3 e4 e5 e6
              clear h1 k1
              obtain ⟨⟨d0, d1, d2, d3, d4, d5, d6⟩, e0, e1, e2, e3, e4, e5, e6⟩ := HS.out.cells
              obtain ⟨⟨c0, c1, c2, c3, c4, c5, c6⟩, f0, f1, f2, f3, f4, f5, f6⟩ := HA.out.2.2.2.cells
              generalize hgz : w.heap.size = g at *
              replace hgz := hide hgz
              go_wp2_with fail
              refine set7 (P := fun W => bodyPost _ _ _ _ _ W) HA.out.2.2.2 fun W5 h11 k11 => ?_
              obtain ⟨⟨q0, q1, q2, q3, q4, q5, q6⟩, -⟩ := h11.cells
              refine bodyPost_ret (v := .agg #[.int .i64 6, .string ⟨#[]⟩, .string ⟨#[]⟩, .string ⟨#[]⟩, .slice (some ⟨ga, 0, none⟩) 1 1, .slice bp bm bc, .slice lp lm lc]) (by simp [results, Tryd.results89, go_sem, q0, q1, q2, q3, q4, q5, q6]) rfl ?_
              rw [← hQ.out]
              exact part_ok HR.out (res_st rfl hgz.out HA.out.2.2.1 (StC.mk (ArgsV.mono (P' := fun i => g < i) (fun i hi => hi.1) HEa.out) (StsV.mono (fun i hi => hi.1) HBl.out) (StsV.mono (fun i hi => by have : _ ≤ i := hi; have : _ ≤ i := hi; have := hb7.out; have := hgs.out; omega) HX2.out)) (fun i hi => hi) HA.out.1 HA.out.2.1 hbw.out k11)
        | false =>
          have hm : Calls Tryd.prog 64 #[.pointer (some ⟨b, 0, none⟩), .string ⟨#[101, 108, 115, 101]⟩] _ fun e w' => e = .returned (.bool (isF kElse (ts3))) ∧ AdvP _ b T (if isF kElse (ts3) then (ts3).tail else (ts3)) w' := met_any HA.out.1 HA.out.2.1 kElse
          rw [hF21] at hm
          simp only [Bool.false_eq_true, if_false] at hm
          replace HR := hide (HR.out.trans (if_neg (by rw [hF21]; decide)))
          clear hF21
          go_upto_region 5 with (go_at_call 64; (with_reducible refine hm.mono ?_); rintro e wm21 ⟨rfl, hA⟩)
          have HEb := hide (ArgsV.keeps hA.2.2 (fun i hi q => by have := hi.1; have := hbw.out; omega) HEa.out)
          have HBb := hide (StsV.keeps hA.2.2 (fun i hi q => by have := hi.1; have := hbw.out; omega) HBl.out)
          replace HS := hide (HS.out.keeps hA.2.2 hbs.out)
          replace HA := hide (HA.out.adv hA hgb.out)
          clear HEa HBl
          have HEa := HEb
          have HBl := HBb
          clear HEb HBb
          clear hm hA
          obtain ⟨⟨d0, d1, d2, d3, d4, d5, d6⟩, e0, e1, e2, e3, e4, e5, e6⟩ := HS.out.cells
          obtain ⟨⟨c0, c1, c2, c3, c4, c5, c6⟩, f0, f1, f2, f3, f4, f5, f6⟩ := HA.out.2.2.2.cells
          generalize hgz : w.heap.size = g at *
          replace hgz := hide hgz
          go_wp2_with fail
          refine set7 (P := fun W => bodyPost _ _ _ _ _ W) HA.out.2.2.2 fun W5 h11 k11 => ?_
          obtain ⟨⟨q0, q1, q2, q3, q4, q5, q6⟩, -⟩ := h11.cells
          refine bodyPost_ret (v := .agg #[.int .i64 6, .string ⟨#[]⟩, .string ⟨#[]⟩, .string ⟨#[]⟩, .slice (some ⟨ga, 0, none⟩) 1 1, .slice bp bm bc, .slice none 0 0]) (by simp [results, Tryd.results89, go_sem, q0, q1, q2, q3, q4, q5, q6]) rfl ?_
          rw [← hQ.out]
          exact part_ok HR.out (res_st rfl hgz.out HA.out.2.2.1 (StC.mk (ArgsV.mono (P' := fun i => g < i) (fun i hi => hi.1) HEa.out) (StsV.mono (fun i hi => hi.1) HBl.out) StsV.nil) (fun i hi => hi) HA.out.1 HA.out.2.1 hbw.out k11)
end Lg
end Go.Proofs.YtlpfnikhnchpdaaDoor
