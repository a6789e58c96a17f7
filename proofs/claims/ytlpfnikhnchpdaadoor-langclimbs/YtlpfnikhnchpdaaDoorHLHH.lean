/-
  lang: LangClimbs, its walk. (Made by genLHH.py.)
-/
import Derived.Test.YtlpfnikhnchpdaaDoorHLHG
namespace Go.Proofs.YtlpfnikhnchpdaaDoor
namespace Lg
open Go.RowKit
set_option linter.unusedVariables false
theorem row_at {W : World} {g : Nat} (h : W.heap[g]? = some (.cells #[.string ⟨#[124, 124]⟩, .string ⟨#[38, 38]⟩, .string ⟨#[61, 61]⟩, .string ⟨#[33, 61]⟩, .string ⟨#[60]⟩, .string ⟨#[60, 61]⟩, .string ⟨#[62]⟩, .string ⟨#[62, 61]⟩, .string ⟨#[43]⟩, .string ⟨#[45]⟩, .string ⟨#[42]⟩, .string ⟨#[47]⟩, .string ⟨#[37]⟩] 9)) (i : Nat) (hi : i < 13) : W.cell? ⟨g, i, none⟩ = some (.string (sB (opD i))) := by
  simp only [World.cell?, h]
  match i, hi with
  | 0, _ => rfl
  | 1, _ => rfl
  | 2, _ => rfl
  | 3, _ => rfl
  | 4, _ => rfl
  | 5, _ => rfl
  | 6, _ => rfl
  | 7, _ => rfl
  | 8, _ => rfl
  | 9, _ => rfl
  | 10, _ => rfl
  | 11, _ => rfl
  | 12, _ => rfl

structure BxR (R : Prop) : Prop where
  out : R
theorem once {R G : Prop} (h : BxR R → G) (r : R) : G := h ⟨r⟩
/-- Behind the two expressions' reading. -/
structure Tl (w : World) (go gx gp i j : Nat) (s : Bool) (k n : Int) (nm op : Bs) (sp : Option Addr) (sm sc : Nat) (ma : Option Addr) (mb mc : Nat) (la : Option Addr) (lb lc : Nat) (W : World) : Prop where
  kp : Keeps w W (fun _ => False)
  row : W.heap[go]? = some (.cells #[.string ⟨#[124, 124]⟩, .string ⟨#[38, 38]⟩, .string ⟨#[61, 61]⟩, .string ⟨#[33, 61]⟩, .string ⟨#[60]⟩, .string ⟨#[60, 61]⟩, .string ⟨#[62]⟩, .string ⟨#[62, 61]⟩, .string ⟨#[43]⟩, .string ⟨#[45]⟩, .string ⟨#[42]⟩, .string ⟨#[47]⟩, .string ⟨#[37]⟩] 9)
  one : Xc W gx (.int .i64 k) (.int .i64 n) (.string (sB nm)) (.string (sB op)) (.slice sp sm sc)
  oneE : ExC W (fun _ => True) (oneD s) [.int .i64 k, .int .i64 n, .string (sB nm), .string (sB op), .slice sp sm sc]
  box : P2 W gp (.slice ma mb mc) (.slice la lb lc)
  pg : ∃ B, PgG B (climbD i j s).1 (.agg #[.slice ma mb mc, .slice la lb lc]) W
/-- Behind want's making. -/
structure Tm (W11 W12 : World) (gw g2 j : Nat) (x : Ex) : Prop where
  kp : Keeps W11 W12 (fun _ => False)
  box : Xc W12 gw (.int .i64 7) (.int .i64 0) (.string (sB [])) (.string (sB (opD j))) (.slice (some ⟨g2, 0, none⟩) 2 2)
  ex : ExC W12 (fun i => i ≠ gw) x [.int .i64 7, .int .i64 0, .string (sB []), .string (sB (opD j)), .slice (some ⟨g2, 0, none⟩) 2 2]
  ge : W11.heap.size ≤ gw
theorem StrsR.keepsUnder {W W' : World} {base : Nat} {v : Value} {l : List Bs} (h : StrsR W base v l) (k : Keeps W W' (fun i => W.heap.size ≤ i)) : StrsR W' base v l :=
  h.keepsOwn k (fun i q => by have := (h.own_lt q).2; omega)
theorem StsV.keepsUnder {W W' : World} {P : Nat → Prop} {l : List St} {v : Value} (h : StsV W P l v) (k : Keeps W W' (fun i => W.heap.size ≤ i)) : StsV W' P l v :=
  StsV.mono (fun i hi => hi.1) (StsV.keeps k (fun i hi q => by have := hi.2; omega) (StsV.under h))
theorem want_small (i j : Nat) (s : Bool) : pgN ⟨[], [.mk 5 [] [] [] [wantD i j s] [] []]⟩ ≤ 1099511627776 := by
  unfold wantD
  split <;> cases s <;> simp [pgN, stsN, stN, exsN, exN, exBin, exNum, oneD]
theorem add_run (a b : Bs) (h : a.length + b.length ≤ 1000) (w : World) : (Op.stringOp .add (sB a) (sB b)).run Tryd.prog w = .ok (.string (sB (a ++ b))) w := by
  have h1 : (sB a).size = a.length := by simp [ByteArray.size]
  have h2 : (sB b).size = b.length := by simp [ByteArray.size]
  have h3 : sB a ++ sB b = sB (a ++ b) := by
    apply ByteArray.ext
    simp [sB]
  have : ¬ ((9223372036854775807 : Int) < ((sB a).size : Int) + ((sB b).size : Int)) := by omega
  rw [← h3]
  simp [Op.stringOp, this]
theorem opD_len (i : Nat) : (opD i).length ≤ 2 := by
  rcases Nat.lt_or_ge i 13 with h | h
  · match i, h with
    | 0, _ => exact (by decide)
    | 1, _ => exact (by decide)
    | 2, _ => exact (by decide)
    | 3, _ => exact (by decide)
    | 4, _ => exact (by decide)
    | 5, _ => exact (by decide)
    | 6, _ => exact (by decide)
    | 7, _ => exact (by decide)
    | 8, _ => exact (by decide)
    | 9, _ => exact (by decide)
    | 10, _ => exact (by decide)
    | 11, _ => exact (by decide)
    | 12, _ => exact (by decide)
  · have e : opD i = [] := by
      unfold opD
      rw [List.getD_eq_getElem?_getD, List.getElem?_eq_none (by show 13 ≤ i; omega)]
      rfl
    rw [e]
    exact Nat.zero_le _
set_option maxRecDepth 100000 in
set_option maxHeartbeats 4000000 in
theorem climbs_walk (i j : Nat) (s : Bool) (hi : i < 13) (hj : j < 13) (w : World) (hG : LgAt w) (hH : Hi w.heap.size) (hE : ∃ ev, w.cell? ⟨10, 0, none⟩ = some ev ∧ (ev = .nilIface ∨ ∃ te pe, ev = .iface te pe)) :
    Calls Tryd.prog 5 #[.int .i64 (i : Int), .int .i64 (j : Int), .bool s] w fun e w' => e = .returned (.bool true) ∧ Keeps w w' (fun _ => False) := by
  have i1 : ¬ (i : Int) < 0 := by omega
  have i2 : ¬ (13 : Int) ≤ (i : Int) := by omega
  have i3 : (i : Int) < 13 := by omega
  have i4 : (0 : Int) ≤ (i : Int) := by omega
  have j1 : ¬ (j : Int) < 0 := by omega
  have j2 : ¬ (13 : Int) ≤ (j : Int) := by omega
  have j3 : (j : Int) < 13 := by omega
  have j4 : (0 : Int) ≤ (j : Int) := by omega
  have HW := hide (And.intro hG (And.intro hH hE))
  have HIJ := hide (And.intro hi hj)
  clear hG hH hE hi hj
  go_enter Tryd.func5, Tryd.ntmps5
  go_upto_region 2 with fail
  refine alloc1 (P := fun W => Code.wp _ _ _ _ W) fun W0 hg hz k0 => ?_
  have HR : Hid (W0.heap[w.heap.size]? = some (.cells #[.string ⟨#[124, 124]⟩, .string ⟨#[38, 38]⟩, .string ⟨#[61, 61]⟩, .string ⟨#[33, 61]⟩, .string ⟨#[60]⟩, .string ⟨#[60, 61]⟩, .string ⟨#[62]⟩, .string ⟨#[62, 61]⟩, .string ⟨#[43]⟩, .string ⟨#[45]⟩, .string ⟨#[42]⟩, .string ⟨#[47]⟩, .string ⟨#[37]⟩] 9)) := hide hg
  have HK := hide k0
  clear hg hz k0
  generalize hgo : w.heap.size = go at *
  replace hgo := hide hgo
  have hnum := num_any 1 W0
  go_upto_region 4 with fail
  go_wp2_with fail
  refine hnum.mono ?_
  rintro e w1 ⟨rfl, k1⟩
  replace HR := hide (kblk k1 HR.out)
  replace HK := hide (HK.out.trans k1 (fun _ _ q => q))
  clear hnum k1
  go_upto_region 5 with fail
  refine alloc1 (P := fun W => Code.wp _ _ _ _ W) fun W2 hx hz k2 => ?_
  have Hgx := hide (show go < w1.heap.size from heap_lt HR.out)
  replace HR := hide (kblk k2 HR.out)
  replace HK := hide (HK.out.trans k2 (fun _ _ q => q))
  have HX : Hid (Xc W2 w1.heap.size (.int .i64 1) (.int .i64 1) (.string ⟨#[]⟩) (.string ⟨#[]⟩) (.slice none 0 0)) := hide hx
  have Hz2 := hide (show W2.heap.size = w1.heap.size + 1 from hz)
  clear hx hz k2
  generalize w1.heap.size = gx at *
  cases s with
  | false =>
    go_upto_region 9 with fail
    have HO : Hid (ExC W2 (fun _ => True) (oneD false) [.int .i64 1, .int .i64 1, .string (sB []), .string (sB []), .slice none 0 0]) := hide (ExC.mk ArgsV.nil)
    have HX9 : Hid (Xc W2 gx (.int .i64 1) (.int .i64 1) (.string (sB [])) (.string (sB [])) (.slice none 0 0)) := hide HX.out
    clear HX Hz2
    have hli := opD_len i
    have hlj := opD_len j
    obtain ⟨x1, hx1⟩ : ∃ x : Bs, x = [112, 114, 105, 110, 116, 32, 49] ++ opD i := ⟨_, rfl⟩
    obtain ⟨x2, hx2⟩ : ∃ x : Bs, x = x1 ++ [50] := ⟨_, rfl⟩
    obtain ⟨x3, hx3⟩ : ∃ x : Bs, x = x2 ++ opD j := ⟨_, rfl⟩
    obtain ⟨x4, hx4⟩ : ∃ x : Bs, x = x3 ++ [51, 59] := ⟨_, rfl⟩
    have n1 : x1.length ≤ 10 := by rw [hx1, List.length_append]; show 7 + (opD i).length ≤ 10; omega
    have n2 : x2.length ≤ 11 := by rw [hx2, List.length_append]; show x1.length + 1 ≤ 11; omega
    have n3 : x3.length ≤ 13 := by rw [hx3, List.length_append]; omega
    have A1 : ∀ W : World, (Op.stringOp .add ⟨#[112, 114, 105, 110, 116, 32, 49]⟩ (sB (opD i))).run Tryd.prog W = .ok (.string (sB x1)) W := fun W => by rw [hx1]; exact add_run [112, 114, 105, 110, 116, 32, 49] (opD i) (by show 7 + _ ≤ 1000; omega) W
    have A2 : ∀ W : World, (Op.stringOp .add (sB x1) ⟨#[50]⟩).run Tryd.prog W = .ok (.string (sB x2)) W := fun W => by rw [hx2]; exact add_run x1 [50] (by show x1.length + 1 ≤ 1000; omega) W
    have A3 : ∀ W : World, (Op.stringOp .add (sB x2) (sB (opD j))).run Tryd.prog W = .ok (.string (sB x3)) W := fun W => by rw [hx3]; exact add_run x2 (opD j) (by omega) W
    have A4 : ∀ W : World, (Op.stringOp .add (sB x3) ⟨#[51, 59]⟩).run Tryd.prog W = .ok (.string (sB x4)) W := fun W => by rw [hx4]; exact add_run x3 [51, 59] (by show x3.length + 2 ≤ 1000; omega) W
    have hx : x4 = textD i j false := by rw [hx4, hx3, hx2, hx1]; rfl
    have n4 : x4.length ≤ 15 := by rw [hx4, List.length_append]; show x3.length + 2 ≤ 15; omega
    have hk9 := HK.out
    have hpa : ∀ W', Keeps W2 W' (fun _ => False) → Calls Tryd.prog 15 #[.string (sB x4)] W' (ParseP W' (climbD i j false)) := fun W' k => by
      have kk := hk9.trans k (fun _ _ q => q)
      have hg := hgo.out
      have e := climbs i j false HIJ.out.1 HIJ.out.2
      rw [← hx] at e
      have hH' : Hi W'.heap.size := by
        have q := HW.out.2.1
        have := kk.size
        unfold Hi at q ⊢
        omega
      have h := parse_any (w := W') x4 (by omega) (HW.out.1.keeps kk (fun _ q => q.elim)) hH' (by
        obtain ⟨ev, q1, q2⟩ := HW.out.2.2
        exact ⟨ev, kcell kk q1, q2⟩)
      rw [e] at h
      exact h
    have hg9 : go < W2.heap.size := heap_lt HR.out
    have HPA := hide hpa
    clear hx1 hx2 hx3 hx4 n1 n2 n3 n4 hx hli hlj hk9 hpa
    have Z9 := heap_alloc_new W2 (.cells #[.slice none 0 0, .slice none 0 0] 25)
    have kD := hide ((Keeps.refl W2 (fun _ => False)).drew)
    have kA := hide (((Keeps.refl W2 (fun _ => False)).alloc (.cells #[.slice none 0 0, .slice none 0 0] 25)).drew)
    have p1 := HPA.out _ kD.out
    have p2 := HPA.out _ kA.out
    have S0 : (fun w' : World => w'.cell? ⟨go, i, none⟩ = some (.string (sB (opD i))) ∧ w'.cell? ⟨go, j, none⟩ = some (.string (sB (opD j)))) W2.drew := ⟨row_at HR.out i HIJ.out.1, row_at HR.out j HIJ.out.2⟩
    have HSK : Hid (∀ W' : World, Keeps W2 W' (fun k => ¬ k = go) → (fun w' : World => w'.cell? ⟨go, i, none⟩ = some (.string (sB (opD i))) ∧ w'.cell? ⟨go, j, none⟩ = some (.string (sB (opD j)))) W') := hide (fun W' k => ⟨row_at ((k.block _ hg9 (fun q => q rfl)).trans HR.out) i HIJ.out.1, row_at ((k.block _ hg9 (fun q => q rfl)).trans HR.out) j HIJ.out.2⟩)
    have S0a : (fun w' : World => w'.cell? ⟨go, i, none⟩ = some (.string (sB (opD i))) ∧ w'.cell? ⟨go, j, none⟩ = some (.string (sB (opD j)))) ((W2.alloc (.cells #[.slice none 0 0, .slice none 0 0] 25)).drew) := HSK.out _ (kA.out.mono (fun _ _ q => q.elim))
    apply once
    · intro hrest
      go_region_held3 (fun w' : World => w'.cell? ⟨go, i, none⟩ = some (.string (sB (opD i))) ∧ w'.cell? ⟨go, j, none⟩ = some (.string (sB (opD j)))) (first | with_reducible assumption) (first
        | (refine p1.mono ?_
           rintro e w10 ⟨v, rfl, ⟨mv, lv, rfl, hm, hl⟩, kP⟩
           obtain ⟨ma, mb, mc, rfl⟩ := hm.form
           have hl0 : StsV w10 (fun i => _ ≤ i) _ lv := hl
           obtain ⟨la, lb, lc, rfl⟩ := hl0.form
           have Hk10 := hide (kD.out.trans kP (fun _ _ q => q))
           have kz := (Keeps.refl w10 (fun _ => False)).alloc (.cells #[.slice none 0 0, .slice none 0 0] 25)
           have kv := (Keeps.refl w10 (fun _ => False)).alloc (.cells #[.slice ma mb mc, .slice la lb lc] 25)
           have S1 : (fun w' : World => w'.cell? ⟨go, i, none⟩ = some (.string (sB (opD i))) ∧ w'.cell? ⟨go, j, none⟩ = some (.string (sB (opD j)))) w10 := HSK.out _ (Hk10.out.mono (fun _ _ q => q.elim))
           have S2 : (fun w' : World => w'.cell? ⟨go, i, none⟩ = some (.string (sB (opD i))) ∧ w'.cell? ⟨go, j, none⟩ = some (.string (sB (opD j)))) (w10.alloc (.cells #[.slice none 0 0, .slice none 0 0] 25)) := HSK.out _ ((Hk10.out.trans kz (fun _ _ q => q)).mono (fun _ _ q => q.elim))
           have S3 : (fun w' : World => w'.cell? ⟨go, i, none⟩ = some (.string (sB (opD i))) ∧ w'.cell? ⟨go, j, none⟩ = some (.string (sB (opD j)))) (w10.alloc (.cells #[.slice ma mb mc, .slice la lb lc] 25)) := HSK.out _ ((Hk10.out.trans kv (fun _ _ q => q)).mono (fun _ _ q => q.elim))
           have HPg := hide (And.intro hm hl)
           clear hm hl hl0 kP kz kv)
        | (refine p2.mono ?_
           rintro e w10 ⟨v, rfl, ⟨mv, lv, rfl, hm, hl⟩, kP⟩
           obtain ⟨ma, mb, mc, rfl⟩ := hm.form
           have hl0 : StsV w10 (fun i => _ ≤ i) _ lv := hl
           obtain ⟨la, lb, lc, rfl⟩ := hl0.form
           have Hk10 := hide (kA.out.trans kP (fun _ _ q => q))
           have hb10 : P2 w10 W2.heap.size (.slice none 0 0) (.slice none 0 0) := (kP.block _ (heap_lt Z9) id).trans Z9
           have HB10 := hide hb10
           obtain ⟨⟨z0, z1⟩, y0, y1⟩ := hb10.cells
           have S1 : (fun w' : World => w'.cell? ⟨go, i, none⟩ = some (.string (sB (opD i))) ∧ w'.cell? ⟨go, j, none⟩ = some (.string (sB (opD j)))) w10 := HSK.out _ (Hk10.out.mono (fun _ _ q => q.elim))
           have S3 : (fun w' : World => w'.cell? ⟨go, i, none⟩ = some (.string (sB (opD i))) ∧ w'.cell? ⟨go, j, none⟩ = some (.string (sB (opD j)))) ((w10.setCell ⟨W2.heap.size, 0, none⟩ (.slice ma mb mc)).setCell ⟨W2.heap.size, 1, none⟩ (.slice la lb lc)) := HSK.out _ (((Hk10.out.mono (S1 := fun k => ¬ k = go) (fun _ _ q => q.elim)).setCell _ (fun _ => Nat.ne_of_gt hg9) _).setCell _ (fun _ => Nat.ne_of_gt hg9) _)
           have HPg := hide (And.intro hm hl)
           clear hm hl hl0 kP hb10))
      · rename_i hh
        clear hh
        refine alloc1 (P := fun W => _) fun W11 h11 hz11 k11 => ?_
        have k9 := Hk10.out.trans k11 (fun _ _ q => q)
        have HF : Hid (Tl w go gx w10.heap.size i j false 1 1 [] [] none 0 0 ma mb mc la lb lc W11) := hide ⟨HK.out.trans k9 (fun _ _ q => q), kblk k9 HR.out, HX9.out.keeps k9 id, HO.out.keeps k9 (fun _ _ q => q), h11, _, _, _, rfl, HPg.out.1.keeps k11 (fun _ _ q => q), StsV.keeps k11 (fun _ _ q => q) HPg.out.2⟩
        clear h11 hz11 k11 k9 S1 S2 S3 HPg
        revert HF
        generalize w10.heap.size = gp
        revert gp W11 ma mb mc la lb lc
        exact hrest.out
      · rename_i hh
        clear hh
        refine P2.set2 (P := fun W => _) HB10.out fun W11 h11 k11 => ?_
        have k9 : Keeps W2 W11 (fun _ => False) := Hk10.out.trans k11 (fun i hi q => by omega)
        have hsz : ((W2.alloc (.cells #[.slice none 0 0, .slice none 0 0] 25)).drew).heap.size = W2.heap.size + 1 := by simp
        have HF : Hid (Tl w go gx W2.heap.size i j false 1 1 [] [] none 0 0 ma mb mc la lb lc W11) := hide ⟨HK.out.trans k9 (fun _ _ q => q), kblk k9 HR.out, HX9.out.keeps k9 id, HO.out.keeps k9 (fun _ _ q => q), h11, _, _, _, rfl, HPg.out.1.keeps k11 (fun i hi q => by omega), StsV.keeps k11 (fun i hi q => by have : _ ≤ i := hi; omega) HPg.out.2⟩
        clear h11 k11 k9 hsz S1 S3 HPg z0 z1 y0 y1 HB10
        revert HF
        generalize W2.heap.size = gp
        revert gp W11 ma mb mc la lb lc
        exact hrest.out
    clear p1 p2 S0 S0a HSK kD kA Z9 HPA A1 A2 A3 A4 HR HX9 HO HK hg9
    intro ma mb mc la lb lc W11 gp HF
    have r1 := row_at HF.out.row i HIJ.out.1
    have r2 := row_at HF.out.row j HIJ.out.2
    have hs := strength_any i HIJ.out.1 W11
    have hs2 := strength_any j HIJ.out.2 W11
    have h3 := kind_is (k := strD i) (n := 3) (z := 3) rfl
    have h4 := kind_is (k := strD j) (n := 3) (z := 3) rfl
    cases e3 : strD i == 3 with
    | true =>
      rw [e3] at h3
      cases e4 : strD j == 3 with
      | true =>
        rw [e4] at h4
        have hc : climbD i j false = (⟨[], []⟩, 1, 230) := by unfold climbD; rw [e3, e4]; rfl
        rw [hc]
        clear hc
        go_wp2_with (first | (go_at_call 16; (with_reducible refine hs.mono ?_); rintro e wa ⟨rfl, hwa⟩; obtain rfl := hwa.symm) | (go_at_call 16; (with_reducible refine hs2.mono ?_); rintro e wb ⟨rfl, hwb⟩; obtain rfl := hwb.symm))
        go_ret
        exact ⟨rfl, HF.out.kp⟩
      | false =>
        rw [e4] at h4
        have hc : climbD i j false = (⟨[], [.mk 5 [] [] [] [wantD i j false] [] []]⟩, 0, 0) := by unfold climbD; rw [e3, e4]; rfl
        have HPG : Hid (∃ B, PgG B ⟨[], [.mk 5 [] [] [] [wantD i j false] [] []]⟩ (.agg #[.slice ma mb mc, .slice la lb lc]) W11) := hide (by have q := HF.out.pg; rw [hc] at q; exact q)
        rw [hc]
        clear hc
        go_upto_region 12 with (first | (go_at_call 16; (with_reducible refine hs.mono ?_); rintro e wa ⟨rfl, hwa⟩; obtain rfl := hwa.symm) | (go_at_call 16; (with_reducible refine hs2.mono ?_); rintro e wb ⟨rfl, hwb⟩; obtain rfl := hwb.symm))
        clear hs hs2 h3 h4 r1 r2
        have HSK2 : Hid (∀ W' : World, Keeps W11 W' (fun k => W11.heap.size ≤ k) → (fun w' : World => w'.cell? ⟨go, i, none⟩ = some (.string (sB (opD i))) ∧ w'.cell? ⟨go, j, none⟩ = some (.string (sB (opD j))) ∧ w'.cell? ⟨gx, 0, none⟩ = some (.int .i64 1) ∧ w'.cell? ⟨gx, 1, none⟩ = some (.int .i64 1) ∧ w'.cell? ⟨gx, 2, none⟩ = some (.string (sB [])) ∧ w'.cell? ⟨gx, 3, none⟩ = some (.string (sB [])) ∧ w'.cell? ⟨gx, 4, none⟩ = some (.slice none 0 0)) W') := hide (fun W' k => by
          have q1 := heap_lt HF.out.row
          have q2 := heap_lt HF.out.one
          have e1 := (k.block _ q1 (fun q => by omega)).trans HF.out.row
          have e2 : Xc W' gx _ _ _ _ _ := (k.block _ q2 (fun q => by omega)).trans HF.out.one
          exact ⟨row_at e1 i HIJ.out.1, row_at e1 j HIJ.out.2, e2.cells.1⟩)
        have HO1 : Hid (∀ W', Keeps W11 W' (fun _ => False) → ExC W' (fun i => i < W11.heap.size) (oneD false) [.int .i64 1, .int .i64 1, .string (sB []), .string (sB []), .slice none 0 0]) := hide (fun W' k => (HF.out.oneE.under.keeps k (fun _ _ q => q)).mono (fun _ h => h.2))
        have kD := hide ((Keeps.refl W11 (fun _ => False)).drew)
        have kZ := hide (((Keeps.refl W11 (fun _ => False)).alloc (.cells #[.int .i64 0, .int .i64 0, .string ⟨#[]⟩, .string ⟨#[]⟩, .slice none 0 0] 42)).drew)
        have hnZ : Hid (((W11.alloc (.cells #[.int .i64 0, .int .i64 0, .string ⟨#[]⟩, .string ⟨#[]⟩, .slice none 0 0] 42)).drew).heap[W11.heap.size]? = some (.cells #[.int .i64 0, .int .i64 0, .string ⟨#[]⟩, .string ⟨#[]⟩, .slice none 0 0] 42)) := hide (heap_alloc_new W11 _)
        have S0 : (fun w' : World => w'.cell? ⟨go, i, none⟩ = some (.string (sB (opD i))) ∧ w'.cell? ⟨go, j, none⟩ = some (.string (sB (opD j))) ∧ w'.cell? ⟨gx, 0, none⟩ = some (.int .i64 1) ∧ w'.cell? ⟨gx, 1, none⟩ = some (.int .i64 1) ∧ w'.cell? ⟨gx, 2, none⟩ = some (.string (sB [])) ∧ w'.cell? ⟨gx, 3, none⟩ = some (.string (sB [])) ∧ w'.cell? ⟨gx, 4, none⟩ = some (.slice none 0 0)) W11.drew := HSK2.out _ (kD.out.mono (fun _ _ q => q.elim))
        have S0z : (fun w' : World => w'.cell? ⟨go, i, none⟩ = some (.string (sB (opD i))) ∧ w'.cell? ⟨go, j, none⟩ = some (.string (sB (opD j))) ∧ w'.cell? ⟨gx, 0, none⟩ = some (.int .i64 1) ∧ w'.cell? ⟨gx, 1, none⟩ = some (.int .i64 1) ∧ w'.cell? ⟨gx, 2, none⟩ = some (.string (sB [])) ∧ w'.cell? ⟨gx, 3, none⟩ = some (.string (sB [])) ∧ w'.cell? ⟨gx, 4, none⟩ = some (.slice none 0 0)) ((W11.alloc (.cells #[.int .i64 0, .int .i64 0, .string ⟨#[]⟩, .string ⟨#[]⟩, .slice none 0 0] 42)).drew) := HSK2.out _ (kZ.out.mono (fun _ _ q => q.elim))
        apply once
        · intro hrest
          go_region_held3 (fun w' : World => w'.cell? ⟨go, i, none⟩ = some (.string (sB (opD i))) ∧ w'.cell? ⟨go, j, none⟩ = some (.string (sB (opD j))) ∧ w'.cell? ⟨gx, 0, none⟩ = some (.int .i64 1) ∧ w'.cell? ⟨gx, 1, none⟩ = some (.int .i64 1) ∧ w'.cell? ⟨gx, 2, none⟩ = some (.string (sB [])) ∧ w'.cell? ⟨gx, 3, none⟩ = some (.string (sB [])) ∧ w'.cell? ⟨gx, 4, none⟩ = some (.slice none 0 0)) (first | with_reducible assumption | exact S_f) (first
           | (go_at_call 14
              (with_reducible refine (num_any 2 W11.drew).mono ?_)
              rintro e wn2 ⟨rfl, kn⟩
              have k2 := hide (kD.out.trans kn (fun _ _ q => q))
              have S_wn2 : (fun w' : World => w'.cell? ⟨go, i, none⟩ = some (.string (sB (opD i))) ∧ w'.cell? ⟨go, j, none⟩ = some (.string (sB (opD j))) ∧ w'.cell? ⟨gx, 0, none⟩ = some (.int .i64 1) ∧ w'.cell? ⟨gx, 1, none⟩ = some (.int .i64 1) ∧ w'.cell? ⟨gx, 2, none⟩ = some (.string (sB [])) ∧ w'.cell? ⟨gx, 3, none⟩ = some (.string (sB [])) ∧ w'.cell? ⟨gx, 4, none⟩ = some (.slice none 0 0)) wn2 := HSK2.out _ (k2.out.mono (fun _ _ q => q.elim))
              have Sz_wn2 : (fun w' : World => w'.cell? ⟨go, i, none⟩ = some (.string (sB (opD i))) ∧ w'.cell? ⟨go, j, none⟩ = some (.string (sB (opD j))) ∧ w'.cell? ⟨gx, 0, none⟩ = some (.int .i64 1) ∧ w'.cell? ⟨gx, 1, none⟩ = some (.int .i64 1) ∧ w'.cell? ⟨gx, 2, none⟩ = some (.string (sB [])) ∧ w'.cell? ⟨gx, 3, none⟩ = some (.string (sB [])) ∧ w'.cell? ⟨gx, 4, none⟩ = some (.slice none 0 0)) (wn2.alloc (.cells #[.int .i64 0, .int .i64 0, .string ⟨#[]⟩, .string ⟨#[]⟩, .slice none 0 0] 42)) := HSK2.out _ ((k2.out.trans ((Keeps.refl wn2 (fun _ => False)).alloc (.cells #[.int .i64 0, .int .i64 0, .string ⟨#[]⟩, .string ⟨#[]⟩, .slice none 0 0] 42)) (fun _ _ q => q)).mono (fun _ _ q => q.elim))
              clear kn)
           | (go_at_call 14
              (with_reducible refine (num_any 2 ((W11.alloc (.cells #[.int .i64 0, .int .i64 0, .string ⟨#[]⟩, .string ⟨#[]⟩, .slice none 0 0] 42)).drew)).mono ?_)
              rintro e wn2 ⟨rfl, kn⟩
              have k2 := hide (kZ.out.trans kn (fun _ _ q => q))
              have hz0 : X0 wn2 W11.heap.size := (kn.block _ (heap_lt hnZ.out) id).trans hnZ.out
              have hz := hide (And.intro hz0 (And.intro (Nat.le_refl W11.heap.size) (heap_lt hz0)))
              have S_wn2 : (fun w' : World => w'.cell? ⟨go, i, none⟩ = some (.string (sB (opD i))) ∧ w'.cell? ⟨go, j, none⟩ = some (.string (sB (opD j))) ∧ w'.cell? ⟨gx, 0, none⟩ = some (.int .i64 1) ∧ w'.cell? ⟨gx, 1, none⟩ = some (.int .i64 1) ∧ w'.cell? ⟨gx, 2, none⟩ = some (.string (sB [])) ∧ w'.cell? ⟨gx, 3, none⟩ = some (.string (sB [])) ∧ w'.cell? ⟨gx, 4, none⟩ = some (.slice none 0 0)) wn2 := HSK2.out _ (k2.out.mono (fun _ _ q => q.elim))
              have Sz_wn2 : (fun w' : World => w'.cell? ⟨go, i, none⟩ = some (.string (sB (opD i))) ∧ w'.cell? ⟨go, j, none⟩ = some (.string (sB (opD j))) ∧ w'.cell? ⟨gx, 0, none⟩ = some (.int .i64 1) ∧ w'.cell? ⟨gx, 1, none⟩ = some (.int .i64 1) ∧ w'.cell? ⟨gx, 2, none⟩ = some (.string (sB [])) ∧ w'.cell? ⟨gx, 3, none⟩ = some (.string (sB [])) ∧ w'.cell? ⟨gx, 4, none⟩ = some (.slice none 0 0)) (wn2.alloc (.cells #[.int .i64 0, .int .i64 0, .string ⟨#[]⟩, .string ⟨#[]⟩, .slice none 0 0] 42)) := HSK2.out _ ((k2.out.trans ((Keeps.refl wn2 (fun _ => False)).alloc (.cells #[.int .i64 0, .int .i64 0, .string ⟨#[]⟩, .string ⟨#[]⟩, .slice none 0 0] 42)) (fun _ _ q => q)).mono (fun _ _ q => q.elim))
              clear kn hz0)
           | (go_at_call 17
              have hz9 := hz.out.2.2
              have hj := (join_any (opD i) (x := oneD false) (y := exNum 2) (Pd := fun k => k ≠ W11.heap.size) wn2 ((HO1.out _ k2.out).mono (fun i hi => by have := k2.out.size; show i ≠ _; omega)) (ExC.mk ArgsV.nil) (fun i hi => by have q : wn2.heap.size ≤ i := hi; (try simp at q); have := hz9; show i ≠ _; omega))
              (with_reducible refine hj.mono ?_)
              clear hj
              rintro e wj1 ⟨g1, rfl, hXj, kn⟩
              have kj := hide ((k2.out).trans kn (fun _ _ q => q))
              have HJ1 : Hid (∀ W', Keeps wj1 W' (fun _ => False) → ExC W' (fun k => k ≠ W11.heap.size) (exBin (opD i) (oneD false) (exNum 2)) [.int .i64 7, .int .i64 0, .string (sB []), .string (sB (opD i)), .slice (some ⟨g1, 0, none⟩) 2 2]) := hide (fun W' k => hXj.keeps k (fun _ _ q => q))
              have hz0 := hz.out.1.keeps kn id
              replace hz := hide (And.intro hz0 (And.intro hz.out.2.1 (heap_lt hz0)))
              have S_wj1 : (fun w' : World => w'.cell? ⟨go, i, none⟩ = some (.string (sB (opD i))) ∧ w'.cell? ⟨go, j, none⟩ = some (.string (sB (opD j))) ∧ w'.cell? ⟨gx, 0, none⟩ = some (.int .i64 1) ∧ w'.cell? ⟨gx, 1, none⟩ = some (.int .i64 1) ∧ w'.cell? ⟨gx, 2, none⟩ = some (.string (sB [])) ∧ w'.cell? ⟨gx, 3, none⟩ = some (.string (sB [])) ∧ w'.cell? ⟨gx, 4, none⟩ = some (.slice none 0 0)) wj1 := HSK2.out _ (kj.out.mono (fun _ _ q => q.elim))
              have Sz_wj1 : (fun w' : World => w'.cell? ⟨go, i, none⟩ = some (.string (sB (opD i))) ∧ w'.cell? ⟨go, j, none⟩ = some (.string (sB (opD j))) ∧ w'.cell? ⟨gx, 0, none⟩ = some (.int .i64 1) ∧ w'.cell? ⟨gx, 1, none⟩ = some (.int .i64 1) ∧ w'.cell? ⟨gx, 2, none⟩ = some (.string (sB [])) ∧ w'.cell? ⟨gx, 3, none⟩ = some (.string (sB [])) ∧ w'.cell? ⟨gx, 4, none⟩ = some (.slice none 0 0)) (wj1.alloc (.cells #[.int .i64 0, .int .i64 0, .string ⟨#[]⟩, .string ⟨#[]⟩, .slice none 0 0] 42)) := HSK2.out _ ((kj.out.trans ((Keeps.refl wj1 (fun _ => False)).alloc (.cells #[.int .i64 0, .int .i64 0, .string ⟨#[]⟩, .string ⟨#[]⟩, .slice none 0 0] 42)) (fun _ _ q => q)).mono (fun _ _ q => q.elim))
              clear kn hXj hz0 hz9)
           | (go_at_call 17
              have hj := (join_any (opD i) (x := oneD false) (y := exNum 2) (Pd := fun _ => True) wn2 ((HO1.out _ k2.out).mono (fun _ _ => trivial)) (ExC.mk ArgsV.nil) (fun _ _ => trivial))
              (with_reducible refine hj.mono ?_)
              clear hj
              rintro e wj1 ⟨g1, rfl, hXj, kn⟩
              have kj := hide (k2.out.trans kn (fun _ _ q => q))
              have HJ1 : Hid (∀ W', Keeps wj1 W' (fun _ => False) → ExC W' (fun i => i < wj1.heap.size) (exBin (opD i) (oneD false) (exNum 2)) [.int .i64 7, .int .i64 0, .string (sB []), .string (sB (opD i)), .slice (some ⟨g1, 0, none⟩) 2 2]) := hide (fun W' k => (hXj.under.keeps k (fun _ _ q => q)).mono (fun _ h => h.2))
              have S_wj1 : (fun w' : World => w'.cell? ⟨go, i, none⟩ = some (.string (sB (opD i))) ∧ w'.cell? ⟨go, j, none⟩ = some (.string (sB (opD j))) ∧ w'.cell? ⟨gx, 0, none⟩ = some (.int .i64 1) ∧ w'.cell? ⟨gx, 1, none⟩ = some (.int .i64 1) ∧ w'.cell? ⟨gx, 2, none⟩ = some (.string (sB [])) ∧ w'.cell? ⟨gx, 3, none⟩ = some (.string (sB [])) ∧ w'.cell? ⟨gx, 4, none⟩ = some (.slice none 0 0)) wj1 := HSK2.out _ (kj.out.mono (fun _ _ q => q.elim))
              have Sz_wj1 : (fun w' : World => w'.cell? ⟨go, i, none⟩ = some (.string (sB (opD i))) ∧ w'.cell? ⟨go, j, none⟩ = some (.string (sB (opD j))) ∧ w'.cell? ⟨gx, 0, none⟩ = some (.int .i64 1) ∧ w'.cell? ⟨gx, 1, none⟩ = some (.int .i64 1) ∧ w'.cell? ⟨gx, 2, none⟩ = some (.string (sB [])) ∧ w'.cell? ⟨gx, 3, none⟩ = some (.string (sB [])) ∧ w'.cell? ⟨gx, 4, none⟩ = some (.slice none 0 0)) (wj1.alloc (.cells #[.int .i64 0, .int .i64 0, .string ⟨#[]⟩, .string ⟨#[]⟩, .slice none 0 0] 42)) := HSK2.out _ ((kj.out.trans ((Keeps.refl wj1 (fun _ => False)).alloc (.cells #[.int .i64 0, .int .i64 0, .string ⟨#[]⟩, .string ⟨#[]⟩, .slice none 0 0] 42)) (fun _ _ q => q)).mono (fun _ _ q => q.elim))
              clear kn hXj)
           | (go_at_call 17
              have hz9 : True := trivial
              have hj := (join_any (opD i) (x := oneD false) (y := exNum 2) (Pd := fun k => k ≠ wn2.heap.size) (wn2.alloc (.cells #[.int .i64 0, .int .i64 0, .string ⟨#[]⟩, .string ⟨#[]⟩, .slice none 0 0] 42)) ((HO1.out _ (k2.out.trans ((Keeps.refl wn2 (fun _ => False)).alloc (.cells #[.int .i64 0, .int .i64 0, .string ⟨#[]⟩, .string ⟨#[]⟩, .slice none 0 0] 42)) (fun _ _ q => q))).mono (fun i hi => by have := k2.out.size; show i ≠ _; omega)) (ExC.mk ArgsV.nil) (fun i hi => by have q : (wn2.alloc (.cells #[.int .i64 0, .int .i64 0, .string ⟨#[]⟩, .string ⟨#[]⟩, .slice none 0 0] 42)).heap.size ≤ i := hi; (try simp at q); have := hz9; show i ≠ _; omega))
              (with_reducible refine hj.mono ?_)
              clear hj
              rintro e wj1 ⟨g1, rfl, hXj, kn⟩
              have kj := hide (((k2.out.trans ((Keeps.refl wn2 (fun _ => False)).alloc (.cells #[.int .i64 0, .int .i64 0, .string ⟨#[]⟩, .string ⟨#[]⟩, .slice none 0 0] 42)) (fun _ _ q => q))).trans kn (fun _ _ q => q))
              have HJ1 : Hid (∀ W', Keeps wj1 W' (fun _ => False) → ExC W' (fun k => k ≠ wn2.heap.size) (exBin (opD i) (oneD false) (exNum 2)) [.int .i64 7, .int .i64 0, .string (sB []), .string (sB (opD i)), .slice (some ⟨g1, 0, none⟩) 2 2]) := hide (fun W' k => hXj.keeps k (fun _ _ q => q))
              have hz0 : X0 wj1 wn2.heap.size := (kn.block _ (heap_lt (heap_alloc_new wn2 (.cells #[.int .i64 0, .int .i64 0, .string ⟨#[]⟩, .string ⟨#[]⟩, .slice none 0 0] 42))) id).trans (heap_alloc_new wn2 (.cells #[.int .i64 0, .int .i64 0, .string ⟨#[]⟩, .string ⟨#[]⟩, .slice none 0 0] 42))
              have hz := hide (And.intro hz0 (And.intro k2.out.size (heap_lt hz0)))
              have S_wj1 : (fun w' : World => w'.cell? ⟨go, i, none⟩ = some (.string (sB (opD i))) ∧ w'.cell? ⟨go, j, none⟩ = some (.string (sB (opD j))) ∧ w'.cell? ⟨gx, 0, none⟩ = some (.int .i64 1) ∧ w'.cell? ⟨gx, 1, none⟩ = some (.int .i64 1) ∧ w'.cell? ⟨gx, 2, none⟩ = some (.string (sB [])) ∧ w'.cell? ⟨gx, 3, none⟩ = some (.string (sB [])) ∧ w'.cell? ⟨gx, 4, none⟩ = some (.slice none 0 0)) wj1 := HSK2.out _ (kj.out.mono (fun _ _ q => q.elim))
              have Sz_wj1 : (fun w' : World => w'.cell? ⟨go, i, none⟩ = some (.string (sB (opD i))) ∧ w'.cell? ⟨go, j, none⟩ = some (.string (sB (opD j))) ∧ w'.cell? ⟨gx, 0, none⟩ = some (.int .i64 1) ∧ w'.cell? ⟨gx, 1, none⟩ = some (.int .i64 1) ∧ w'.cell? ⟨gx, 2, none⟩ = some (.string (sB [])) ∧ w'.cell? ⟨gx, 3, none⟩ = some (.string (sB [])) ∧ w'.cell? ⟨gx, 4, none⟩ = some (.slice none 0 0)) (wj1.alloc (.cells #[.int .i64 0, .int .i64 0, .string ⟨#[]⟩, .string ⟨#[]⟩, .slice none 0 0] 42)) := HSK2.out _ ((kj.out.trans ((Keeps.refl wj1 (fun _ => False)).alloc (.cells #[.int .i64 0, .int .i64 0, .string ⟨#[]⟩, .string ⟨#[]⟩, .slice none 0 0] 42)) (fun _ _ q => q)).mono (fun _ _ q => q.elim))
              clear kn hXj hz0 hz9)
           | (go_at_call 14
              have hz9 := hz.out.1
              (with_reducible refine (num_any 3 wj1).mono ?_)
              rintro e wn3 ⟨rfl, kn⟩
              have k3 := hide (kj.out.trans kn (fun _ _ q => q))
              have hj3 := kn.size
              have HJ3 := hide (fun W' (k : Keeps wn3 W' (fun _ => False)) => HJ1.out W' (kn.trans k (fun _ _ q => q)))
              have hz0 := hz9.keeps kn id
              replace hz := hide (And.intro hz0 (And.intro hz.out.2.1 (heap_lt hz0)))
              have S_wn3 : (fun w' : World => w'.cell? ⟨go, i, none⟩ = some (.string (sB (opD i))) ∧ w'.cell? ⟨go, j, none⟩ = some (.string (sB (opD j))) ∧ w'.cell? ⟨gx, 0, none⟩ = some (.int .i64 1) ∧ w'.cell? ⟨gx, 1, none⟩ = some (.int .i64 1) ∧ w'.cell? ⟨gx, 2, none⟩ = some (.string (sB [])) ∧ w'.cell? ⟨gx, 3, none⟩ = some (.string (sB [])) ∧ w'.cell? ⟨gx, 4, none⟩ = some (.slice none 0 0)) wn3 := HSK2.out _ (k3.out.mono (fun _ _ q => q.elim))
              have Sz_wn3 : (fun w' : World => w'.cell? ⟨go, i, none⟩ = some (.string (sB (opD i))) ∧ w'.cell? ⟨go, j, none⟩ = some (.string (sB (opD j))) ∧ w'.cell? ⟨gx, 0, none⟩ = some (.int .i64 1) ∧ w'.cell? ⟨gx, 1, none⟩ = some (.int .i64 1) ∧ w'.cell? ⟨gx, 2, none⟩ = some (.string (sB [])) ∧ w'.cell? ⟨gx, 3, none⟩ = some (.string (sB [])) ∧ w'.cell? ⟨gx, 4, none⟩ = some (.slice none 0 0)) (wn3.alloc (.cells #[.int .i64 0, .int .i64 0, .string ⟨#[]⟩, .string ⟨#[]⟩, .slice none 0 0] 42)) := HSK2.out _ ((k3.out.trans ((Keeps.refl wn3 (fun _ => False)).alloc (.cells #[.int .i64 0, .int .i64 0, .string ⟨#[]⟩, .string ⟨#[]⟩, .slice none 0 0] 42)) (fun _ _ q => q)).mono (fun _ _ q => q.elim))
              clear kn hz0 hz9)
           | (go_at_call 14
              (with_reducible refine (num_any 3 wj1).mono ?_)
              rintro e wn3 ⟨rfl, kn⟩
              have k3 := hide (kj.out.trans kn (fun _ _ q => q))
              have hj3 := kn.size
              have HJ3 := hide (fun W' (k : Keeps wn3 W' (fun _ => False)) => HJ1.out W' (kn.trans k (fun _ _ q => q)))
              have S_wn3 : (fun w' : World => w'.cell? ⟨go, i, none⟩ = some (.string (sB (opD i))) ∧ w'.cell? ⟨go, j, none⟩ = some (.string (sB (opD j))) ∧ w'.cell? ⟨gx, 0, none⟩ = some (.int .i64 1) ∧ w'.cell? ⟨gx, 1, none⟩ = some (.int .i64 1) ∧ w'.cell? ⟨gx, 2, none⟩ = some (.string (sB [])) ∧ w'.cell? ⟨gx, 3, none⟩ = some (.string (sB [])) ∧ w'.cell? ⟨gx, 4, none⟩ = some (.slice none 0 0)) wn3 := HSK2.out _ (k3.out.mono (fun _ _ q => q.elim))
              have Sz_wn3 : (fun w' : World => w'.cell? ⟨go, i, none⟩ = some (.string (sB (opD i))) ∧ w'.cell? ⟨go, j, none⟩ = some (.string (sB (opD j))) ∧ w'.cell? ⟨gx, 0, none⟩ = some (.int .i64 1) ∧ w'.cell? ⟨gx, 1, none⟩ = some (.int .i64 1) ∧ w'.cell? ⟨gx, 2, none⟩ = some (.string (sB [])) ∧ w'.cell? ⟨gx, 3, none⟩ = some (.string (sB [])) ∧ w'.cell? ⟨gx, 4, none⟩ = some (.slice none 0 0)) (wn3.alloc (.cells #[.int .i64 0, .int .i64 0, .string ⟨#[]⟩, .string ⟨#[]⟩, .slice none 0 0] 42)) := HSK2.out _ ((k3.out.trans ((Keeps.refl wn3 (fun _ => False)).alloc (.cells #[.int .i64 0, .int .i64 0, .string ⟨#[]⟩, .string ⟨#[]⟩, .slice none 0 0] 42)) (fun _ _ q => q)).mono (fun _ _ q => q.elim))
              clear kn)
           | (go_at_call 14
              (with_reducible refine (num_any 3 (wj1.alloc (.cells #[.int .i64 0, .int .i64 0, .string ⟨#[]⟩, .string ⟨#[]⟩, .slice none 0 0] 42))).mono ?_)
              rintro e wn3 ⟨rfl, kn⟩
              have kAl := (Keeps.refl wj1 (fun _ => False)).alloc (.cells #[.int .i64 0, .int .i64 0, .string ⟨#[]⟩, .string ⟨#[]⟩, .slice none 0 0] 42)
              have k3 := hide ((kj.out.trans kAl (fun _ _ q => q)).trans kn (fun _ _ q => q))
              have hj3 := (kAl.trans kn (fun _ _ q => q)).size
              have HJ3 : Hid (∀ W', Keeps wn3 W' (fun _ => False) → ExC W' (fun k => k ≠ wj1.heap.size) (exBin (opD i) (oneD false) (exNum 2)) [.int .i64 7, .int .i64 0, .string (sB []), .string (sB (opD i)), .slice (some ⟨g1, 0, none⟩) 2 2]) := hide (fun W' k => (HJ1.out W' ((kAl.trans kn (fun _ _ q => q)).trans k (fun _ _ q => q))).mono (fun i hi => Nat.ne_of_lt hi))
              have hz0 : X0 wn3 wj1.heap.size := (kn.block _ (heap_lt (heap_alloc_new wj1 (.cells #[.int .i64 0, .int .i64 0, .string ⟨#[]⟩, .string ⟨#[]⟩, .slice none 0 0] 42))) id).trans (heap_alloc_new wj1 (.cells #[.int .i64 0, .int .i64 0, .string ⟨#[]⟩, .string ⟨#[]⟩, .slice none 0 0] 42))
              have hz := hide (And.intro hz0 (And.intro kj.out.size (heap_lt hz0)))
              have S_wn3 : (fun w' : World => w'.cell? ⟨go, i, none⟩ = some (.string (sB (opD i))) ∧ w'.cell? ⟨go, j, none⟩ = some (.string (sB (opD j))) ∧ w'.cell? ⟨gx, 0, none⟩ = some (.int .i64 1) ∧ w'.cell? ⟨gx, 1, none⟩ = some (.int .i64 1) ∧ w'.cell? ⟨gx, 2, none⟩ = some (.string (sB [])) ∧ w'.cell? ⟨gx, 3, none⟩ = some (.string (sB [])) ∧ w'.cell? ⟨gx, 4, none⟩ = some (.slice none 0 0)) wn3 := HSK2.out _ (k3.out.mono (fun _ _ q => q.elim))
              have Sz_wn3 : (fun w' : World => w'.cell? ⟨go, i, none⟩ = some (.string (sB (opD i))) ∧ w'.cell? ⟨go, j, none⟩ = some (.string (sB (opD j))) ∧ w'.cell? ⟨gx, 0, none⟩ = some (.int .i64 1) ∧ w'.cell? ⟨gx, 1, none⟩ = some (.int .i64 1) ∧ w'.cell? ⟨gx, 2, none⟩ = some (.string (sB [])) ∧ w'.cell? ⟨gx, 3, none⟩ = some (.string (sB [])) ∧ w'.cell? ⟨gx, 4, none⟩ = some (.slice none 0 0)) (wn3.alloc (.cells #[.int .i64 0, .int .i64 0, .string ⟨#[]⟩, .string ⟨#[]⟩, .slice none 0 0] 42)) := HSK2.out _ ((k3.out.trans ((Keeps.refl wn3 (fun _ => False)).alloc (.cells #[.int .i64 0, .int .i64 0, .string ⟨#[]⟩, .string ⟨#[]⟩, .slice none 0 0] 42)) (fun _ _ q => q)).mono (fun _ _ q => q.elim))
              clear kn hz0 kAl)
           | (go_at_call 17
              have hz9 := hz.out
              have hj := (join_any (opD j) (x := (exBin (opD i) (oneD false) (exNum 2))) (y := exNum 3) wn3 (HJ3.out _ (Keeps.refl _ _)) (ExC.mk ArgsV.nil) (fun i hi q => by have h9 := hz9.2.2; have q2 : _ ≤ i := hi; omega))
              (with_reducible refine hj.mono ?_)
              clear hj
              rintro e wj2 ⟨g2, rfl, hXj, kn⟩
              have k4 := hide (k3.out.trans kn (fun _ _ q => q))
              have HJ2 := hide hXj
              have hz0 := hz9.1.keeps kn id
              replace hz := hide (And.intro hz0 (And.intro hz9.2.1 (heap_lt hz0)))
              have S_wj2 : (fun w' : World => w'.cell? ⟨go, i, none⟩ = some (.string (sB (opD i))) ∧ w'.cell? ⟨go, j, none⟩ = some (.string (sB (opD j))) ∧ w'.cell? ⟨gx, 0, none⟩ = some (.int .i64 1) ∧ w'.cell? ⟨gx, 1, none⟩ = some (.int .i64 1) ∧ w'.cell? ⟨gx, 2, none⟩ = some (.string (sB [])) ∧ w'.cell? ⟨gx, 3, none⟩ = some (.string (sB [])) ∧ w'.cell? ⟨gx, 4, none⟩ = some (.slice none 0 0)) wj2 := HSK2.out _ (k4.out.mono (fun _ _ q => q.elim))
              have Sz_wj2 : (fun w' : World => w'.cell? ⟨go, i, none⟩ = some (.string (sB (opD i))) ∧ w'.cell? ⟨go, j, none⟩ = some (.string (sB (opD j))) ∧ w'.cell? ⟨gx, 0, none⟩ = some (.int .i64 1) ∧ w'.cell? ⟨gx, 1, none⟩ = some (.int .i64 1) ∧ w'.cell? ⟨gx, 2, none⟩ = some (.string (sB [])) ∧ w'.cell? ⟨gx, 3, none⟩ = some (.string (sB [])) ∧ w'.cell? ⟨gx, 4, none⟩ = some (.slice none 0 0)) (wj2.alloc (.cells #[.int .i64 0, .int .i64 0, .string ⟨#[]⟩, .string ⟨#[]⟩, .slice none 0 0] 42)) := HSK2.out _ ((k4.out.trans ((Keeps.refl wj2 (fun _ => False)).alloc (.cells #[.int .i64 0, .int .i64 0, .string ⟨#[]⟩, .string ⟨#[]⟩, .slice none 0 0] 42)) (fun _ _ q => q)).mono (fun _ _ q => q.elim))
              obtain ⟨⟨z0, z1, z2, z3, z4⟩, y0, y1, y2, y3, y4⟩ := hz.out.1.cells
              have hge := hz.out.2.1
              have S_f := HSK2.out _ ((((((k4.out.mono (fun _ _ q => q.elim) : Keeps W11 wj2 (fun k => W11.heap.size ≤ k)).setCell ⟨_, 0, none⟩ (fun _ => hge) (.int .i64 7)).setCell ⟨_, 1, none⟩ (fun _ => hge) (.int .i64 0)).setCell ⟨_, 2, none⟩ (fun _ => hge) (.string (sB []))).setCell ⟨_, 3, none⟩ (fun _ => hge) (.string (sB (opD j)))).setCell ⟨_, 4, none⟩ (fun _ => hge) (.slice (some ⟨g2, 0, none⟩) 2 2))
              clear kn hXj hz0 hge hz9)
           | (go_at_call 17
              have hj := (join_any (opD j) (x := (exBin (opD i) (oneD false) (exNum 2))) (y := exNum 3) (Pd := fun _ => True) wn3 ((HJ3.out _ (Keeps.refl _ _)).mono (fun _ _ => trivial)) (ExC.mk ArgsV.nil) (fun _ _ => trivial))
              (with_reducible refine hj.mono ?_)
              clear hj
              rintro e wj2 ⟨g2, rfl, hXj, kn⟩
              have k4 := hide (k3.out.trans kn (fun _ _ q => q))
              have HJ2 := hide hXj.under
              have Sv : (fun w' : World => w'.cell? ⟨go, i, none⟩ = some (.string (sB (opD i))) ∧ w'.cell? ⟨go, j, none⟩ = some (.string (sB (opD j))) ∧ w'.cell? ⟨gx, 0, none⟩ = some (.int .i64 1) ∧ w'.cell? ⟨gx, 1, none⟩ = some (.int .i64 1) ∧ w'.cell? ⟨gx, 2, none⟩ = some (.string (sB [])) ∧ w'.cell? ⟨gx, 3, none⟩ = some (.string (sB [])) ∧ w'.cell? ⟨gx, 4, none⟩ = some (.slice none 0 0)) (wj2.alloc (.cells #[.int .i64 7, .int .i64 0, .string (sB []), .string (sB (opD j)), .slice (some ⟨g2, 0, none⟩) 2 2] 42)) := HSK2.out _ ((k4.out.trans ((Keeps.refl wj2 (fun _ => False)).alloc _) (fun _ _ q => q)).mono (fun _ _ q => q.elim))
              have S_wj2 : (fun w' : World => w'.cell? ⟨go, i, none⟩ = some (.string (sB (opD i))) ∧ w'.cell? ⟨go, j, none⟩ = some (.string (sB (opD j))) ∧ w'.cell? ⟨gx, 0, none⟩ = some (.int .i64 1) ∧ w'.cell? ⟨gx, 1, none⟩ = some (.int .i64 1) ∧ w'.cell? ⟨gx, 2, none⟩ = some (.string (sB [])) ∧ w'.cell? ⟨gx, 3, none⟩ = some (.string (sB [])) ∧ w'.cell? ⟨gx, 4, none⟩ = some (.slice none 0 0)) wj2 := HSK2.out _ (k4.out.mono (fun _ _ q => q.elim))
              have Sz_wj2 : (fun w' : World => w'.cell? ⟨go, i, none⟩ = some (.string (sB (opD i))) ∧ w'.cell? ⟨go, j, none⟩ = some (.string (sB (opD j))) ∧ w'.cell? ⟨gx, 0, none⟩ = some (.int .i64 1) ∧ w'.cell? ⟨gx, 1, none⟩ = some (.int .i64 1) ∧ w'.cell? ⟨gx, 2, none⟩ = some (.string (sB [])) ∧ w'.cell? ⟨gx, 3, none⟩ = some (.string (sB [])) ∧ w'.cell? ⟨gx, 4, none⟩ = some (.slice none 0 0)) (wj2.alloc (.cells #[.int .i64 0, .int .i64 0, .string ⟨#[]⟩, .string ⟨#[]⟩, .slice none 0 0] 42)) := HSK2.out _ ((k4.out.trans ((Keeps.refl wj2 (fun _ => False)).alloc (.cells #[.int .i64 0, .int .i64 0, .string ⟨#[]⟩, .string ⟨#[]⟩, .slice none 0 0] 42)) (fun _ _ q => q)).mono (fun _ _ q => q.elim))
              clear kn hXj)
           | (go_at_call 17
              have hj := (join_any (opD j) (x := (exBin (opD i) (oneD false) (exNum 2))) (y := exNum 3) (Pd := fun k => k ≠ wn3.heap.size) (wn3.alloc (.cells #[.int .i64 0, .int .i64 0, .string ⟨#[]⟩, .string ⟨#[]⟩, .slice none 0 0] 42)) ((HJ3.out _ ((Keeps.refl wn3 (fun _ => False)).alloc (.cells #[.int .i64 0, .int .i64 0, .string ⟨#[]⟩, .string ⟨#[]⟩, .slice none 0 0] 42))).mono (fun i hi => by have q : i < wj1.heap.size := hi; show i ≠ _; omega)) (ExC.mk ArgsV.nil) (fun i hi => by have q : (wn3.alloc (.cells #[.int .i64 0, .int .i64 0, .string ⟨#[]⟩, .string ⟨#[]⟩, .slice none 0 0] 42)).heap.size ≤ i := hi; simp at q; show i ≠ _; omega))
              (with_reducible refine hj.mono ?_)
              clear hj
              rintro e wj2 ⟨g2, rfl, hXj, kn⟩
              have kAl := (Keeps.refl wn3 (fun _ => False)).alloc (.cells #[.int .i64 0, .int .i64 0, .string ⟨#[]⟩, .string ⟨#[]⟩, .slice none 0 0] 42)
              have k4 := hide ((k3.out.trans kAl (fun _ _ q => q)).trans kn (fun _ _ q => q))
              have HJ2 := hide hXj
              have hz0 : X0 wj2 wn3.heap.size := (kn.block _ (heap_lt (heap_alloc_new wn3 (.cells #[.int .i64 0, .int .i64 0, .string ⟨#[]⟩, .string ⟨#[]⟩, .slice none 0 0] 42))) id).trans (heap_alloc_new wn3 (.cells #[.int .i64 0, .int .i64 0, .string ⟨#[]⟩, .string ⟨#[]⟩, .slice none 0 0] 42))
              have hz := hide (And.intro hz0 (And.intro k3.out.size (heap_lt hz0)))
              have S_wj2 : (fun w' : World => w'.cell? ⟨go, i, none⟩ = some (.string (sB (opD i))) ∧ w'.cell? ⟨go, j, none⟩ = some (.string (sB (opD j))) ∧ w'.cell? ⟨gx, 0, none⟩ = some (.int .i64 1) ∧ w'.cell? ⟨gx, 1, none⟩ = some (.int .i64 1) ∧ w'.cell? ⟨gx, 2, none⟩ = some (.string (sB [])) ∧ w'.cell? ⟨gx, 3, none⟩ = some (.string (sB [])) ∧ w'.cell? ⟨gx, 4, none⟩ = some (.slice none 0 0)) wj2 := HSK2.out _ (k4.out.mono (fun _ _ q => q.elim))
              have Sz_wj2 : (fun w' : World => w'.cell? ⟨go, i, none⟩ = some (.string (sB (opD i))) ∧ w'.cell? ⟨go, j, none⟩ = some (.string (sB (opD j))) ∧ w'.cell? ⟨gx, 0, none⟩ = some (.int .i64 1) ∧ w'.cell? ⟨gx, 1, none⟩ = some (.int .i64 1) ∧ w'.cell? ⟨gx, 2, none⟩ = some (.string (sB [])) ∧ w'.cell? ⟨gx, 3, none⟩ = some (.string (sB [])) ∧ w'.cell? ⟨gx, 4, none⟩ = some (.slice none 0 0)) (wj2.alloc (.cells #[.int .i64 0, .int .i64 0, .string ⟨#[]⟩, .string ⟨#[]⟩, .slice none 0 0] 42)) := HSK2.out _ ((k4.out.trans ((Keeps.refl wj2 (fun _ => False)).alloc (.cells #[.int .i64 0, .int .i64 0, .string ⟨#[]⟩, .string ⟨#[]⟩, .slice none 0 0] 42)) (fun _ _ q => q)).mono (fun _ _ q => q.elim))
              obtain ⟨⟨z0, z1, z2, z3, z4⟩, y0, y1, y2, y3, y4⟩ := hz.out.1.cells
              have hge := hz.out.2.1
              have S_f := HSK2.out _ ((((((k4.out.mono (fun _ _ q => q.elim) : Keeps W11 wj2 (fun k => W11.heap.size ≤ k)).setCell ⟨_, 0, none⟩ (fun _ => hge) (.int .i64 7)).setCell ⟨_, 1, none⟩ (fun _ => hge) (.int .i64 0)).setCell ⟨_, 2, none⟩ (fun _ => hge) (.string (sB []))).setCell ⟨_, 3, none⟩ (fun _ => hge) (.string (sB (opD j)))).setCell ⟨_, 4, none⟩ (fun _ => hge) (.slice (some ⟨g2, 0, none⟩) 2 2))
              clear kn hXj hz0 hge kAl))
          · rename_i hh
            clear hh
            refine alloc1 (P := fun W => _) fun W12 h12 hz12 k12 => ?_
            have HM : Hid (Tm W11 W12 wj2.heap.size g2 j (exBin (opD j) (exBin (opD i) (oneD false) (exNum 2)) (exNum 3))) := hide ⟨k4.out.trans k12 (fun _ _ q => q), h12, (HJ2.out.keeps k12 (fun _ _ q => q)).mono (fun i hi => Nat.ne_of_lt hi.2), k4.out.size⟩
            clear h12 hz12 k12 HJ1 HJ3 HJ2 Sv
            revert HM
            generalize wj2.heap.size = gw
            revert gw
            revert W12
            revert g2
            revert g1
            exact hrest.out
          · rename_i hh
            clear hh S_f
            refine set5 (P := fun W => _) hz.out.1 fun W12 h12 k12 => ?_
            have HM : Hid (Tm W11 W12 wn3.heap.size g2 j (exBin (opD j) (exBin (opD i) (oneD false) (exNum 2)) (exNum 3))) := hide ⟨k4.out.trans k12 (fun i hi q => by have := hz.out.2.1; omega), h12, HJ2.out.keeps k12 (fun i hi => hi), hz.out.2.1⟩
            clear h12 k12 HJ1 HJ3 HJ2 z0 z1 z2 z3 z4 y0 y1 y2 y3 y4
            revert HM
            generalize wn3.heap.size = gw
            revert gw
            revert W12
            revert g2
            revert g1
            exact hrest.out
          · rename_i hh
            clear hh S_f
            refine set5 (P := fun W => _) hz.out.1 fun W12 h12 k12 => ?_
            have HM : Hid (Tm W11 W12 wj1.heap.size g2 j (exBin (opD j) (exBin (opD i) (oneD false) (exNum 2)) (exNum 3))) := hide ⟨k4.out.trans k12 (fun i hi q => by have := hz.out.2.1; omega), h12, HJ2.out.keeps k12 (fun i hi => hi), hz.out.2.1⟩
            clear h12 k12 HJ1 HJ3 HJ2 z0 z1 z2 z3 z4 y0 y1 y2 y3 y4
            revert HM
            generalize wj1.heap.size = gw
            revert gw
            revert W12
            revert g2
            revert g1
            exact hrest.out
          · rename_i hh
            clear hh S_f
            refine set5 (P := fun W => _) hz.out.1 fun W12 h12 k12 => ?_
            have HM : Hid (Tm W11 W12 wn2.heap.size g2 j (exBin (opD j) (exBin (opD i) (oneD false) (exNum 2)) (exNum 3))) := hide ⟨k4.out.trans k12 (fun i hi q => by have := hz.out.2.1; omega), h12, HJ2.out.keeps k12 (fun i hi => hi), hz.out.2.1⟩
            clear h12 k12 HJ1 HJ3 HJ2 z0 z1 z2 z3 z4 y0 y1 y2 y3 y4
            revert HM
            generalize wn2.heap.size = gw
            revert gw
            revert W12
            revert g2
            revert g1
            exact hrest.out
          · rename_i hh
            clear hh S_f
            refine set5 (P := fun W => _) hz.out.1 fun W12 h12 k12 => ?_
            have HM : Hid (Tm W11 W12 W11.heap.size g2 j (exBin (opD j) (exBin (opD i) (oneD false) (exNum 2)) (exNum 3))) := hide ⟨k4.out.trans k12 (fun i hi q => by have := hz.out.2.1; omega), h12, HJ2.out.keeps k12 (fun i hi => hi), hz.out.2.1⟩
            clear h12 k12 HJ1 HJ3 HJ2 z0 z1 z2 z3 z4 y0 y1 y2 y3 y4
            revert HM
            generalize W11.heap.size = gw
            revert gw
            revert W12
            revert g2
            revert g1
            exact hrest.out
        clear S0 S0z hnZ kD kZ HSK2 HO1
        intro g1 g2 W12 gw HM
        go_upto_region 13 with fail
        have q1 := heap_lt HF.out.row
        have q2 := heap_lt HF.out.one
        have q3 := HM.out.ge
        have HSK3 : Hid (∀ W' : World, Keeps W12 W' (fun k => k = gw) → (fun w' : World => w'.cell? ⟨go, i, none⟩ = some (.string (sB (opD i))) ∧ w'.cell? ⟨go, j, none⟩ = some (.string (sB (opD j))) ∧ w'.cell? ⟨gx, 0, none⟩ = some (.int .i64 1) ∧ w'.cell? ⟨gx, 1, none⟩ = some (.int .i64 1) ∧ w'.cell? ⟨gx, 2, none⟩ = some (.string (sB [])) ∧ w'.cell? ⟨gx, 3, none⟩ = some (.string (sB [])) ∧ w'.cell? ⟨gx, 4, none⟩ = some (.slice none 0 0)) W') := hide (fun W' k => by
          have kk := HM.out.kp
          have e1 := (k.block _ (heap_lt (kblk kk HF.out.row)) (fun q => by omega)).trans (kblk kk HF.out.row)
          have e2 : Xc W' gx _ _ _ _ _ := (k.block _ (heap_lt (kblk kk HF.out.one)) (fun q => by omega)).trans (kblk kk HF.out.one)
          exact ⟨row_at e1 i HIJ.out.1, row_at e1 j HIJ.out.2, e2.cells.1⟩)
        have kD := hide ((Keeps.refl W12 (fun _ => False)).drew)
        have S0 : (fun w' : World => w'.cell? ⟨go, i, none⟩ = some (.string (sB (opD i))) ∧ w'.cell? ⟨go, j, none⟩ = some (.string (sB (opD j)))) W12.drew := ⟨(HSK3.out _ (kD.out.mono (fun _ _ q => q.elim))).1, (HSK3.out _ (kD.out.mono (fun _ _ q => q.elim))).2.1⟩
        by_cases hlt : strD i < strD j
        · have hlt' : (strD i : Int) < (strD j : Int) := by omega
          go_region_held3 (fun w' : World => w'.cell? ⟨go, i, none⟩ = some (.string (sB (opD i))) ∧ w'.cell? ⟨go, j, none⟩ = some (.string (sB (opD j)))) (with_reducible assumption) (first
           | (go_at_call 16
              (with_reducible refine (strength_any i HIJ.out.1 _).mono ?_)
              rintro e wx ⟨rfl, rfl⟩)
           | (go_at_call 16
              (with_reducible refine (strength_any j HIJ.out.2 _).mono ?_)
              rintro e wx ⟨rfl, rfl⟩))
          have hw : wantD i j false = exBin (opD i) (oneD false) (exBin (opD j) (exNum 2) (exNum 3)) := by unfold wantD; rw [if_pos hlt]
          clear S0 hlt'
          go_upto_region 14 with fail
          have HO2 : Hid (∀ W', Keeps W12 W' (fun _ => False) → ExC W' (fun k => k ≠ gw) (oneD false) [.int .i64 1, .int .i64 1, .string (sB []), .string (sB []), .slice none 0 0]) := hide (fun W' k => (HF.out.oneE.under.keeps (HM.out.kp.trans k (fun _ _ q => q)) (fun _ _ q => q)).mono (fun i hi => by have := hi.2; show i ≠ _; omega))
          have hg12 := heap_lt HM.out.box
          have k2D := hide (kD.out.drew)
          have S0 : (fun w' : World => w'.cell? ⟨go, i, none⟩ = some (.string (sB (opD i))) ∧ w'.cell? ⟨go, j, none⟩ = some (.string (sB (opD j))) ∧ w'.cell? ⟨gx, 0, none⟩ = some (.int .i64 1) ∧ w'.cell? ⟨gx, 1, none⟩ = some (.int .i64 1) ∧ w'.cell? ⟨gx, 2, none⟩ = some (.string (sB [])) ∧ w'.cell? ⟨gx, 3, none⟩ = some (.string (sB [])) ∧ w'.cell? ⟨gx, 4, none⟩ = some (.slice none 0 0)) W12.drew.drew := HSK3.out _ (k2D.out.mono (fun _ _ q => q.elim))
          go_region_held3 (fun w' : World => w'.cell? ⟨go, i, none⟩ = some (.string (sB (opD i))) ∧ w'.cell? ⟨go, j, none⟩ = some (.string (sB (opD j))) ∧ w'.cell? ⟨gx, 0, none⟩ = some (.int .i64 1) ∧ w'.cell? ⟨gx, 1, none⟩ = some (.int .i64 1) ∧ w'.cell? ⟨gx, 2, none⟩ = some (.string (sB [])) ∧ w'.cell? ⟨gx, 3, none⟩ = some (.string (sB [])) ∧ w'.cell? ⟨gx, 4, none⟩ = some (.slice none 0 0)) (first | with_reducible assumption | exact S_f) (first
           | (go_at_call 14
              (with_reducible refine (num_any 2 W12.drew.drew).mono ?_)
              rintro e wm2 ⟨rfl, kn⟩
              have k2 := hide (k2D.out.trans kn (fun _ _ q => q))
              have S_2 : (fun w' : World => w'.cell? ⟨go, i, none⟩ = some (.string (sB (opD i))) ∧ w'.cell? ⟨go, j, none⟩ = some (.string (sB (opD j))) ∧ w'.cell? ⟨gx, 0, none⟩ = some (.int .i64 1) ∧ w'.cell? ⟨gx, 1, none⟩ = some (.int .i64 1) ∧ w'.cell? ⟨gx, 2, none⟩ = some (.string (sB [])) ∧ w'.cell? ⟨gx, 3, none⟩ = some (.string (sB [])) ∧ w'.cell? ⟨gx, 4, none⟩ = some (.slice none 0 0)) wm2 := HSK3.out _ (k2.out.mono (fun _ _ q => q.elim))
              clear kn)
           | (go_at_call 14
              (with_reducible refine (num_any 3 wm2).mono ?_)
              rintro e wm3 ⟨rfl, kn⟩
              have k3 := hide (k2.out.trans kn (fun _ _ q => q))
              have S_3 : (fun w' : World => w'.cell? ⟨go, i, none⟩ = some (.string (sB (opD i))) ∧ w'.cell? ⟨go, j, none⟩ = some (.string (sB (opD j))) ∧ w'.cell? ⟨gx, 0, none⟩ = some (.int .i64 1) ∧ w'.cell? ⟨gx, 1, none⟩ = some (.int .i64 1) ∧ w'.cell? ⟨gx, 2, none⟩ = some (.string (sB [])) ∧ w'.cell? ⟨gx, 3, none⟩ = some (.string (sB [])) ∧ w'.cell? ⟨gx, 4, none⟩ = some (.slice none 0 0)) wm3 := HSK3.out _ (k3.out.mono (fun _ _ q => q.elim))
              clear kn)
           | (go_at_call 17
              have hj := (join_any (opD j) (x := exNum 2) (y := exNum 3) (Pd := fun k => k ≠ gw) wm3 (ExC.mk ArgsV.nil) (ExC.mk ArgsV.nil) (fun i hi => by have := k3.out.size; have q : _ ≤ i := hi; show i ≠ _; omega))
              (with_reducible refine hj.mono ?_)
              clear hj
              rintro e wj3 ⟨g3, rfl, hXj, kn⟩
              have k4 := hide (k3.out.trans kn (fun _ _ q => q))
              have HJ3 := hide hXj
              have S_4 : (fun w' : World => w'.cell? ⟨go, i, none⟩ = some (.string (sB (opD i))) ∧ w'.cell? ⟨go, j, none⟩ = some (.string (sB (opD j))) ∧ w'.cell? ⟨gx, 0, none⟩ = some (.int .i64 1) ∧ w'.cell? ⟨gx, 1, none⟩ = some (.int .i64 1) ∧ w'.cell? ⟨gx, 2, none⟩ = some (.string (sB [])) ∧ w'.cell? ⟨gx, 3, none⟩ = some (.string (sB [])) ∧ w'.cell? ⟨gx, 4, none⟩ = some (.slice none 0 0)) wj3 := HSK3.out _ (k4.out.mono (fun _ _ q => q.elim))
              clear kn hXj)
           | (go_at_call 17
              have hj := (join_any (opD i) (x := oneD false) (y := exBin (opD j) (exNum 2) (exNum 3)) wj3 (HO2.out _ k4.out) HJ3.out (fun i hi => by have := k4.out.size; have q : _ ≤ i := hi; show i ≠ _; omega))
              (with_reducible refine hj.mono ?_)
              clear hj
              rintro e wj4 ⟨g4, rfl, hXj, kn⟩
              have k5 := hide (k4.out.trans kn (fun _ _ q => q))
              have HJ4 := hide hXj
              have hb := HM.out.box.keeps k5.out id
              have HB := hide hb
              obtain ⟨⟨z0, z1, z2, z3, z4⟩, y0, y1, y2, y3, y4⟩ := hb.cells
              have S_5 : (fun w' : World => w'.cell? ⟨go, i, none⟩ = some (.string (sB (opD i))) ∧ w'.cell? ⟨go, j, none⟩ = some (.string (sB (opD j))) ∧ w'.cell? ⟨gx, 0, none⟩ = some (.int .i64 1) ∧ w'.cell? ⟨gx, 1, none⟩ = some (.int .i64 1) ∧ w'.cell? ⟨gx, 2, none⟩ = some (.string (sB [])) ∧ w'.cell? ⟨gx, 3, none⟩ = some (.string (sB [])) ∧ w'.cell? ⟨gx, 4, none⟩ = some (.slice none 0 0)) wj4 := HSK3.out _ (k5.out.mono (fun _ _ q => q.elim))
              have S_f := HSK3.out _ ((((((k5.out.mono (fun _ _ q => q.elim) : Keeps W12 wj4 (fun k => k = gw)).setCell ⟨gw, 0, none⟩ (fun _ => rfl) (.int .i64 7)).setCell ⟨gw, 1, none⟩ (fun _ => rfl) (.int .i64 0)).setCell ⟨gw, 2, none⟩ (fun _ => rfl) (.string (sB []))).setCell ⟨gw, 3, none⟩ (fun _ => rfl) (.string (sB (opD i)))).setCell ⟨gw, 4, none⟩ (fun _ => rfl) (.slice (some ⟨g4, 0, none⟩) 2 2))
              clear kn hXj hb))
          rename_i hh
          clear hh S_f
          refine set5 (P := fun W => _) HB.out fun W14 h14 k14 => ?_
          have HX : Hid (Xc W14 gw (.int .i64 7) (.int .i64 0) (.string (sB [])) (.string (sB (opD i))) (.slice (some ⟨g4, 0, none⟩) 2 2)) := hide h14
          have HE := hide (HJ4.out.keeps k14 (fun i hi => hi))
          have HK := hide ((HF.out.kp.trans (HM.out.kp.trans k5.out (fun _ _ q => q)) (fun _ _ q => q)).trans k14 (fun i hi q => by have := (HF.out.kp).size; omega))
          have HKP := hide ((k5.out.mono (fun _ _ q => q.elim) : Keeps W12 wj4 (fun k => k = gw)).trans k14 (fun _ _ q => q))
          have HBX : Hid (P2 W14 gp (.slice ma mb mc) (.slice la lb lc)) := hide ((HF.out.box.keeps HM.out.kp id).keeps HKP.out (fun q => by have := HF.out.box.lt; omega))
          have HPW : Hid (∃ B, PgG B ⟨[], [.mk 5 [] [] [] [wantD i j false] [] []]⟩ (.agg #[.slice ma mb mc, .slice la lb lc]) W14) := hide (by
            obtain ⟨B, m1, l1, e1, hm1, hl1⟩ := HPG.out
            have kk : Keeps W11 W14 (fun k => W11.heap.size ≤ k) := (HM.out.kp.mono (fun _ _ q => q.elim)).trans (HKP.out.mono (fun i _ q => by show W11.heap.size ≤ i; omega)) (fun _ _ q => q)
            exact ⟨B, m1, l1, e1, hm1.keepsUnder kk, hl1.keepsUnder kk⟩)
          clear S0 HJ3 HJ4 HB k14 h14 z0 z1 z2 z3 z4 y0 y1 y2 y3 y4 S_2 S_3 S_4 S_5
          go_upto_region 15 with fail
          obtain ⟨⟨c0, c1⟩, -⟩ := HBX.out.cells
          obtain ⟨⟨d0, d1, d2, d3, d4⟩, -⟩ := HX.out.cells
          have kB := ((Keeps.refl W14 (fun _ => False)).alloc (.cells #[.int .i64 7, .int .i64 0, .string (sB []), .string (sB (opD i)), .slice (some ⟨g4, 0, none⟩) 2 2] 42)).alloc (.cells #[.int .i64 5, .string ⟨#[]⟩, .string ⟨#[]⟩, .string ⟨#[]⟩, .slice (some ⟨W14.heap.size, 0, none⟩) 1 1, .slice none 0 0, .slice none 0 0] 49)
          have hn1 := heap_old2 W14 (.cells #[.int .i64 7, .int .i64 0, .string (sB []), .string (sB (opD i)), .slice (some ⟨g4, 0, none⟩) 2 2] 42) (.cells #[.int .i64 5, .string ⟨#[]⟩, .string ⟨#[]⟩, .string ⟨#[]⟩, .slice (some ⟨W14.heap.size, 0, none⟩) 1 1, .slice none 0 0, .slice none 0 0] 49)
          have hn2 := heap_new2 W14 (.cells #[.int .i64 7, .int .i64 0, .string (sB []), .string (sB (opD i)), .slice (some ⟨g4, 0, none⟩) 2 2] 42) (.cells #[.int .i64 5, .string ⟨#[]⟩, .string ⟨#[]⟩, .string ⟨#[]⟩, .slice (some ⟨W14.heap.size, 0, none⟩) 1 1, .slice none 0 0, .slice none 0 0] 49)
          have hsm : Calls Tryd.prog 10 #[.agg #[.slice ma mb mc, .slice la lb lc], .agg #[.slice none 0 0, .slice (some ⟨W14.heap.size + 1, 0, none⟩) 1 1]] ((W14.alloc (.cells #[.int .i64 7, .int .i64 0, .string (sB []), .string (sB (opD i)), .slice (some ⟨g4, 0, none⟩) 2 2] 42)).alloc (.cells #[.int .i64 5, .string ⟨#[]⟩, .string ⟨#[]⟩, .string ⟨#[]⟩, .slice (some ⟨W14.heap.size, 0, none⟩) 1 1, .slice none 0 0, .slice none 0 0] 49)) fun e w' => e = .returned (.bool true) ∧ Keeps ((W14.alloc (.cells #[.int .i64 7, .int .i64 0, .string (sB []), .string (sB (opD i)), .slice (some ⟨g4, 0, none⟩) 2 2] 42)).alloc (.cells #[.int .i64 5, .string ⟨#[]⟩, .string ⟨#[]⟩, .string ⟨#[]⟩, .slice (some ⟨W14.heap.size, 0, none⟩) 1 1, .slice none 0 0, .slice none 0 0] 49)) w' (fun _ => False) := by
            obtain ⟨B, m1, l1, e1, hm1, hl1⟩ := HPW.out
            exact same_true _ (want_small i j false) _ B 0 _ _ ⟨m1, l1, e1, hm1.keeps kB (fun _ _ q => q), StsV.keeps kB (fun _ _ q => q) hl1⟩
              ⟨_, _, rfl, StrsR.nil _ _, StsV.some (l := [_]) (Nat.zero_le _) (heap_lt hn2) (Nat.le_refl _) (range_blk hn2) (StsC.cons (StC.mk (ArgsV.some (args := [_]) (Nat.zero_le _) (heap_lt hn1) (Nat.le_refl _) (range_blk hn1) (ExsC.cons ((show ExC W14 _ (wantD i j false) _ by rw [hw]; exact HE.out).keeps kB (fun _ _ q => q) |>.mono (fun _ _ => Nat.zero_le _)) ExsC.nil)) StsV.nil StsV.nil) StsC.nil)⟩
          have HKB := hide kB
          clear hn1 hn2 kB
          go_wp2_with (go_at_call 10; (with_reducible refine hsm.mono ?_); rintro e wz ⟨rfl, kz⟩)
          go_ret
          exact ⟨rfl, (HK.out.trans HKB.out (fun _ _ q => q)).trans kz (fun _ _ q => q)⟩
        · have hlt' : ¬ (strD i : Int) < (strD j : Int) := by omega
          go_region_held3 (fun w' : World => w'.cell? ⟨go, i, none⟩ = some (.string (sB (opD i))) ∧ w'.cell? ⟨go, j, none⟩ = some (.string (sB (opD j)))) (with_reducible assumption) (first
           | (go_at_call 16
              (with_reducible refine (strength_any i HIJ.out.1 _).mono ?_)
              rintro e wx ⟨rfl, rfl⟩)
           | (go_at_call 16
              (with_reducible refine (strength_any j HIJ.out.2 _).mono ?_)
              rintro e wx ⟨rfl, rfl⟩))
          have hw : wantD i j false = exBin (opD j) (exBin (opD i) (oneD false) (exNum 2)) (exNum 3) := by unfold wantD; rw [if_neg hlt]
          clear S0 hlt'
          go_upto_region 15 with fail
          have HX : Hid (Xc W12.drew gw (.int .i64 7) (.int .i64 0) (.string (sB [])) (.string (sB (opD j))) (.slice (some ⟨g2, 0, none⟩) 2 2)) := hide (HM.out.box.keeps kD.out id)
          have HE := hide (HM.out.ex.keeps kD.out (fun _ _ q => q))
          have HK := hide ((HF.out.kp.trans HM.out.kp (fun _ _ q => q)).trans kD.out (fun _ _ q => q))
          have HBX : Hid (P2 W12.drew gp (.slice ma mb mc) (.slice la lb lc)) := hide ((HF.out.box.keeps HM.out.kp id).keeps kD.out id)
          have HPW : Hid (∃ B, PgG B ⟨[], [.mk 5 [] [] [] [wantD i j false] [] []]⟩ (.agg #[.slice ma mb mc, .slice la lb lc]) W12.drew) := hide (by
            obtain ⟨B, m1, l1, e1, hm1, hl1⟩ := HPG.out
            have kk := HM.out.kp.trans kD.out (fun _ _ q => q)
            exact ⟨B, m1, l1, e1, hm1.keeps kk (fun _ _ q => q), StsV.keeps kk (fun _ _ q => q) hl1⟩)
          generalize W12.drew = W13 at *
          obtain ⟨⟨c0, c1⟩, -⟩ := HBX.out.cells
          obtain ⟨⟨d0, d1, d2, d3, d4⟩, -⟩ := HX.out.cells
          have kB := ((Keeps.refl W13 (fun _ => False)).alloc (.cells #[.int .i64 7, .int .i64 0, .string (sB []), .string (sB (opD j)), .slice (some ⟨g2, 0, none⟩) 2 2] 42)).alloc (.cells #[.int .i64 5, .string ⟨#[]⟩, .string ⟨#[]⟩, .string ⟨#[]⟩, .slice (some ⟨W13.heap.size, 0, none⟩) 1 1, .slice none 0 0, .slice none 0 0] 49)
          have hn1 := heap_old2 W13 (.cells #[.int .i64 7, .int .i64 0, .string (sB []), .string (sB (opD j)), .slice (some ⟨g2, 0, none⟩) 2 2] 42) (.cells #[.int .i64 5, .string ⟨#[]⟩, .string ⟨#[]⟩, .string ⟨#[]⟩, .slice (some ⟨W13.heap.size, 0, none⟩) 1 1, .slice none 0 0, .slice none 0 0] 49)
          have hn2 := heap_new2 W13 (.cells #[.int .i64 7, .int .i64 0, .string (sB []), .string (sB (opD j)), .slice (some ⟨g2, 0, none⟩) 2 2] 42) (.cells #[.int .i64 5, .string ⟨#[]⟩, .string ⟨#[]⟩, .string ⟨#[]⟩, .slice (some ⟨W13.heap.size, 0, none⟩) 1 1, .slice none 0 0, .slice none 0 0] 49)
          have hsm : Calls Tryd.prog 10 #[.agg #[.slice ma mb mc, .slice la lb lc], .agg #[.slice none 0 0, .slice (some ⟨W13.heap.size + 1, 0, none⟩) 1 1]] ((W13.alloc (.cells #[.int .i64 7, .int .i64 0, .string (sB []), .string (sB (opD j)), .slice (some ⟨g2, 0, none⟩) 2 2] 42)).alloc (.cells #[.int .i64 5, .string ⟨#[]⟩, .string ⟨#[]⟩, .string ⟨#[]⟩, .slice (some ⟨W13.heap.size, 0, none⟩) 1 1, .slice none 0 0, .slice none 0 0] 49)) fun e w' => e = .returned (.bool true) ∧ Keeps ((W13.alloc (.cells #[.int .i64 7, .int .i64 0, .string (sB []), .string (sB (opD j)), .slice (some ⟨g2, 0, none⟩) 2 2] 42)).alloc (.cells #[.int .i64 5, .string ⟨#[]⟩, .string ⟨#[]⟩, .string ⟨#[]⟩, .slice (some ⟨W13.heap.size, 0, none⟩) 1 1, .slice none 0 0, .slice none 0 0] 49)) w' (fun _ => False) := by
            obtain ⟨B, m1, l1, e1, hm1, hl1⟩ := HPW.out
            exact same_true _ (want_small i j false) _ B 0 _ _ ⟨m1, l1, e1, hm1.keeps kB (fun _ _ q => q), StsV.keeps kB (fun _ _ q => q) hl1⟩
              ⟨_, _, rfl, StrsR.nil _ _, StsV.some (l := [_]) (Nat.zero_le _) (heap_lt hn2) (Nat.le_refl _) (range_blk hn2) (StsC.cons (StC.mk (ArgsV.some (args := [_]) (Nat.zero_le _) (heap_lt hn1) (Nat.le_refl _) (range_blk hn1) (ExsC.cons ((show ExC W13 _ (wantD i j false) _ by rw [hw]; exact HE.out).keeps kB (fun _ _ q => q) |>.mono (fun _ _ => Nat.zero_le _)) ExsC.nil)) StsV.nil StsV.nil) StsC.nil)⟩
          have HKB := hide kB
          clear hn1 hn2 kB
          go_wp2_with (go_at_call 10; (with_reducible refine hsm.mono ?_); rintro e wz ⟨rfl, kz⟩)
          go_ret
          exact ⟨rfl, (HK.out.trans HKB.out (fun _ _ q => q)).trans kz (fun _ _ q => q)⟩
    | false =>
      rw [e3] at h3
      have hc : climbD i j false = (⟨[], [.mk 5 [] [] [] [wantD i j false] [] []]⟩, 0, 0) := by unfold climbD; rw [e3]; rfl
      have HPG : Hid (∃ B, PgG B ⟨[], [.mk 5 [] [] [] [wantD i j false] [] []]⟩ (.agg #[.slice ma mb mc, .slice la lb lc]) W11) := hide (by have q := HF.out.pg; rw [hc] at q; exact q)
      rw [hc]
      clear hc
      go_upto_region 12 with (first | (go_at_call 16; (with_reducible refine hs.mono ?_); rintro e wa ⟨rfl, hwa⟩; obtain rfl := hwa.symm) | (go_at_call 16; (with_reducible refine hs2.mono ?_); rintro e wb ⟨rfl, hwb⟩; obtain rfl := hwb.symm))
      clear hs hs2 h3 h4 r1 r2
      have HSK2 : Hid (∀ W' : World, Keeps W11 W' (fun k => W11.heap.size ≤ k) → (fun w' : World => w'.cell? ⟨go, i, none⟩ = some (.string (sB (opD i))) ∧ w'.cell? ⟨go, j, none⟩ = some (.string (sB (opD j))) ∧ w'.cell? ⟨gx, 0, none⟩ = some (.int .i64 1) ∧ w'.cell? ⟨gx, 1, none⟩ = some (.int .i64 1) ∧ w'.cell? ⟨gx, 2, none⟩ = some (.string (sB [])) ∧ w'.cell? ⟨gx, 3, none⟩ = some (.string (sB [])) ∧ w'.cell? ⟨gx, 4, none⟩ = some (.slice none 0 0)) W') := hide (fun W' k => by
        have q1 := heap_lt HF.out.row
        have q2 := heap_lt HF.out.one
        have e1 := (k.block _ q1 (fun q => by omega)).trans HF.out.row
        have e2 : Xc W' gx _ _ _ _ _ := (k.block _ q2 (fun q => by omega)).trans HF.out.one
        exact ⟨row_at e1 i HIJ.out.1, row_at e1 j HIJ.out.2, e2.cells.1⟩)
      have HO1 : Hid (∀ W', Keeps W11 W' (fun _ => False) → ExC W' (fun i => i < W11.heap.size) (oneD false) [.int .i64 1, .int .i64 1, .string (sB []), .string (sB []), .slice none 0 0]) := hide (fun W' k => (HF.out.oneE.under.keeps k (fun _ _ q => q)).mono (fun _ h => h.2))
      have kD := hide ((Keeps.refl W11 (fun _ => False)).drew)
      have kZ := hide (((Keeps.refl W11 (fun _ => False)).alloc (.cells #[.int .i64 0, .int .i64 0, .string ⟨#[]⟩, .string ⟨#[]⟩, .slice none 0 0] 42)).drew)
      have hnZ : Hid (((W11.alloc (.cells #[.int .i64 0, .int .i64 0, .string ⟨#[]⟩, .string ⟨#[]⟩, .slice none 0 0] 42)).drew).heap[W11.heap.size]? = some (.cells #[.int .i64 0, .int .i64 0, .string ⟨#[]⟩, .string ⟨#[]⟩, .slice none 0 0] 42)) := hide (heap_alloc_new W11 _)
      have S0 : (fun w' : World => w'.cell? ⟨go, i, none⟩ = some (.string (sB (opD i))) ∧ w'.cell? ⟨go, j, none⟩ = some (.string (sB (opD j))) ∧ w'.cell? ⟨gx, 0, none⟩ = some (.int .i64 1) ∧ w'.cell? ⟨gx, 1, none⟩ = some (.int .i64 1) ∧ w'.cell? ⟨gx, 2, none⟩ = some (.string (sB [])) ∧ w'.cell? ⟨gx, 3, none⟩ = some (.string (sB [])) ∧ w'.cell? ⟨gx, 4, none⟩ = some (.slice none 0 0)) W11.drew := HSK2.out _ (kD.out.mono (fun _ _ q => q.elim))
      have S0z : (fun w' : World => w'.cell? ⟨go, i, none⟩ = some (.string (sB (opD i))) ∧ w'.cell? ⟨go, j, none⟩ = some (.string (sB (opD j))) ∧ w'.cell? ⟨gx, 0, none⟩ = some (.int .i64 1) ∧ w'.cell? ⟨gx, 1, none⟩ = some (.int .i64 1) ∧ w'.cell? ⟨gx, 2, none⟩ = some (.string (sB [])) ∧ w'.cell? ⟨gx, 3, none⟩ = some (.string (sB [])) ∧ w'.cell? ⟨gx, 4, none⟩ = some (.slice none 0 0)) ((W11.alloc (.cells #[.int .i64 0, .int .i64 0, .string ⟨#[]⟩, .string ⟨#[]⟩, .slice none 0 0] 42)).drew) := HSK2.out _ (kZ.out.mono (fun _ _ q => q.elim))
      apply once
      · intro hrest
        go_region_held3 (fun w' : World => w'.cell? ⟨go, i, none⟩ = some (.string (sB (opD i))) ∧ w'.cell? ⟨go, j, none⟩ = some (.string (sB (opD j))) ∧ w'.cell? ⟨gx, 0, none⟩ = some (.int .i64 1) ∧ w'.cell? ⟨gx, 1, none⟩ = some (.int .i64 1) ∧ w'.cell? ⟨gx, 2, none⟩ = some (.string (sB [])) ∧ w'.cell? ⟨gx, 3, none⟩ = some (.string (sB [])) ∧ w'.cell? ⟨gx, 4, none⟩ = some (.slice none 0 0)) (first | with_reducible assumption | exact S_f) (first
         | (go_at_call 14
            (with_reducible refine (num_any 2 W11.drew).mono ?_)
            rintro e wn2 ⟨rfl, kn⟩
            have k2 := hide (kD.out.trans kn (fun _ _ q => q))
            have S_wn2 : (fun w' : World => w'.cell? ⟨go, i, none⟩ = some (.string (sB (opD i))) ∧ w'.cell? ⟨go, j, none⟩ = some (.string (sB (opD j))) ∧ w'.cell? ⟨gx, 0, none⟩ = some (.int .i64 1) ∧ w'.cell? ⟨gx, 1, none⟩ = some (.int .i64 1) ∧ w'.cell? ⟨gx, 2, none⟩ = some (.string (sB [])) ∧ w'.cell? ⟨gx, 3, none⟩ = some (.string (sB [])) ∧ w'.cell? ⟨gx, 4, none⟩ = some (.slice none 0 0)) wn2 := HSK2.out _ (k2.out.mono (fun _ _ q => q.elim))
            have Sz_wn2 : (fun w' : World => w'.cell? ⟨go, i, none⟩ = some (.string (sB (opD i))) ∧ w'.cell? ⟨go, j, none⟩ = some (.string (sB (opD j))) ∧ w'.cell? ⟨gx, 0, none⟩ = some (.int .i64 1) ∧ w'.cell? ⟨gx, 1, none⟩ = some (.int .i64 1) ∧ w'.cell? ⟨gx, 2, none⟩ = some (.string (sB [])) ∧ w'.cell? ⟨gx, 3, none⟩ = some (.string (sB [])) ∧ w'.cell? ⟨gx, 4, none⟩ = some (.slice none 0 0)) (wn2.alloc (.cells #[.int .i64 0, .int .i64 0, .string ⟨#[]⟩, .string ⟨#[]⟩, .slice none 0 0] 42)) := HSK2.out _ ((k2.out.trans ((Keeps.refl wn2 (fun _ => False)).alloc (.cells #[.int .i64 0, .int .i64 0, .string ⟨#[]⟩, .string ⟨#[]⟩, .slice none 0 0] 42)) (fun _ _ q => q)).mono (fun _ _ q => q.elim))
            clear kn)
         | (go_at_call 14
            (with_reducible refine (num_any 2 ((W11.alloc (.cells #[.int .i64 0, .int .i64 0, .string ⟨#[]⟩, .string ⟨#[]⟩, .slice none 0 0] 42)).drew)).mono ?_)
            rintro e wn2 ⟨rfl, kn⟩
            have k2 := hide (kZ.out.trans kn (fun _ _ q => q))
            have hz0 : X0 wn2 W11.heap.size := (kn.block _ (heap_lt hnZ.out) id).trans hnZ.out
            have hz := hide (And.intro hz0 (And.intro (Nat.le_refl W11.heap.size) (heap_lt hz0)))
            have S_wn2 : (fun w' : World => w'.cell? ⟨go, i, none⟩ = some (.string (sB (opD i))) ∧ w'.cell? ⟨go, j, none⟩ = some (.string (sB (opD j))) ∧ w'.cell? ⟨gx, 0, none⟩ = some (.int .i64 1) ∧ w'.cell? ⟨gx, 1, none⟩ = some (.int .i64 1) ∧ w'.cell? ⟨gx, 2, none⟩ = some (.string (sB [])) ∧ w'.cell? ⟨gx, 3, none⟩ = some (.string (sB [])) ∧ w'.cell? ⟨gx, 4, none⟩ = some (.slice none 0 0)) wn2 := HSK2.out _ (k2.out.mono (fun _ _ q => q.elim))
            have Sz_wn2 : (fun w' : World => w'.cell? ⟨go, i, none⟩ = some (.string (sB (opD i))) ∧ w'.cell? ⟨go, j, none⟩ = some (.string (sB (opD j))) ∧ w'.cell? ⟨gx, 0, none⟩ = some (.int .i64 1) ∧ w'.cell? ⟨gx, 1, none⟩ = some (.int .i64 1) ∧ w'.cell? ⟨gx, 2, none⟩ = some (.string (sB [])) ∧ w'.cell? ⟨gx, 3, none⟩ = some (.string (sB [])) ∧ w'.cell? ⟨gx, 4, none⟩ = some (.slice none 0 0)) (wn2.alloc (.cells #[.int .i64 0, .int .i64 0, .string ⟨#[]⟩, .string ⟨#[]⟩, .slice none 0 0] 42)) := HSK2.out _ ((k2.out.trans ((Keeps.refl wn2 (fun _ => False)).alloc (.cells #[.int .i64 0, .int .i64 0, .string ⟨#[]⟩, .string ⟨#[]⟩, .slice none 0 0] 42)) (fun _ _ q => q)).mono (fun _ _ q => q.elim))
            clear kn hz0)
         | (go_at_call 17
            have hz9 := hz.out.2.2
            have hj := (join_any (opD i) (x := oneD false) (y := exNum 2) (Pd := fun k => k ≠ W11.heap.size) wn2 ((HO1.out _ k2.out).mono (fun i hi => by have := k2.out.size; show i ≠ _; omega)) (ExC.mk ArgsV.nil) (fun i hi => by have q : wn2.heap.size ≤ i := hi; (try simp at q); have := hz9; show i ≠ _; omega))
            (with_reducible refine hj.mono ?_)
            clear hj
            rintro e wj1 ⟨g1, rfl, hXj, kn⟩
            have kj := hide ((k2.out).trans kn (fun _ _ q => q))
            have HJ1 : Hid (∀ W', Keeps wj1 W' (fun _ => False) → ExC W' (fun k => k ≠ W11.heap.size) (exBin (opD i) (oneD false) (exNum 2)) [.int .i64 7, .int .i64 0, .string (sB []), .string (sB (opD i)), .slice (some ⟨g1, 0, none⟩) 2 2]) := hide (fun W' k => hXj.keeps k (fun _ _ q => q))
            have hz0 := hz.out.1.keeps kn id
            replace hz := hide (And.intro hz0 (And.intro hz.out.2.1 (heap_lt hz0)))
            have S_wj1 : (fun w' : World => w'.cell? ⟨go, i, none⟩ = some (.string (sB (opD i))) ∧ w'.cell? ⟨go, j, none⟩ = some (.string (sB (opD j))) ∧ w'.cell? ⟨gx, 0, none⟩ = some (.int .i64 1) ∧ w'.cell? ⟨gx, 1, none⟩ = some (.int .i64 1) ∧ w'.cell? ⟨gx, 2, none⟩ = some (.string (sB [])) ∧ w'.cell? ⟨gx, 3, none⟩ = some (.string (sB [])) ∧ w'.cell? ⟨gx, 4, none⟩ = some (.slice none 0 0)) wj1 := HSK2.out _ (kj.out.mono (fun _ _ q => q.elim))
            have Sz_wj1 : (fun w' : World => w'.cell? ⟨go, i, none⟩ = some (.string (sB (opD i))) ∧ w'.cell? ⟨go, j, none⟩ = some (.string (sB (opD j))) ∧ w'.cell? ⟨gx, 0, none⟩ = some (.int .i64 1) ∧ w'.cell? ⟨gx, 1, none⟩ = some (.int .i64 1) ∧ w'.cell? ⟨gx, 2, none⟩ = some (.string (sB [])) ∧ w'.cell? ⟨gx, 3, none⟩ = some (.string (sB [])) ∧ w'.cell? ⟨gx, 4, none⟩ = some (.slice none 0 0)) (wj1.alloc (.cells #[.int .i64 0, .int .i64 0, .string ⟨#[]⟩, .string ⟨#[]⟩, .slice none 0 0] 42)) := HSK2.out _ ((kj.out.trans ((Keeps.refl wj1 (fun _ => False)).alloc (.cells #[.int .i64 0, .int .i64 0, .string ⟨#[]⟩, .string ⟨#[]⟩, .slice none 0 0] 42)) (fun _ _ q => q)).mono (fun _ _ q => q.elim))
            clear kn hXj hz0 hz9)
         | (go_at_call 17
            have hj := (join_any (opD i) (x := oneD false) (y := exNum 2) (Pd := fun _ => True) wn2 ((HO1.out _ k2.out).mono (fun _ _ => trivial)) (ExC.mk ArgsV.nil) (fun _ _ => trivial))
            (with_reducible refine hj.mono ?_)
            clear hj
            rintro e wj1 ⟨g1, rfl, hXj, kn⟩
            have kj := hide (k2.out.trans kn (fun _ _ q => q))
            have HJ1 : Hid (∀ W', Keeps wj1 W' (fun _ => False) → ExC W' (fun i => i < wj1.heap.size) (exBin (opD i) (oneD false) (exNum 2)) [.int .i64 7, .int .i64 0, .string (sB []), .string (sB (opD i)), .slice (some ⟨g1, 0, none⟩) 2 2]) := hide (fun W' k => (hXj.under.keeps k (fun _ _ q => q)).mono (fun _ h => h.2))
            have S_wj1 : (fun w' : World => w'.cell? ⟨go, i, none⟩ = some (.string (sB (opD i))) ∧ w'.cell? ⟨go, j, none⟩ = some (.string (sB (opD j))) ∧ w'.cell? ⟨gx, 0, none⟩ = some (.int .i64 1) ∧ w'.cell? ⟨gx, 1, none⟩ = some (.int .i64 1) ∧ w'.cell? ⟨gx, 2, none⟩ = some (.string (sB [])) ∧ w'.cell? ⟨gx, 3, none⟩ = some (.string (sB [])) ∧ w'.cell? ⟨gx, 4, none⟩ = some (.slice none 0 0)) wj1 := HSK2.out _ (kj.out.mono (fun _ _ q => q.elim))
            have Sz_wj1 : (fun w' : World => w'.cell? ⟨go, i, none⟩ = some (.string (sB (opD i))) ∧ w'.cell? ⟨go, j, none⟩ = some (.string (sB (opD j))) ∧ w'.cell? ⟨gx, 0, none⟩ = some (.int .i64 1) ∧ w'.cell? ⟨gx, 1, none⟩ = some (.int .i64 1) ∧ w'.cell? ⟨gx, 2, none⟩ = some (.string (sB [])) ∧ w'.cell? ⟨gx, 3, none⟩ = some (.string (sB [])) ∧ w'.cell? ⟨gx, 4, none⟩ = some (.slice none 0 0)) (wj1.alloc (.cells #[.int .i64 0, .int .i64 0, .string ⟨#[]⟩, .string ⟨#[]⟩, .slice none 0 0] 42)) := HSK2.out _ ((kj.out.trans ((Keeps.refl wj1 (fun _ => False)).alloc (.cells #[.int .i64 0, .int .i64 0, .string ⟨#[]⟩, .string ⟨#[]⟩, .slice none 0 0] 42)) (fun _ _ q => q)).mono (fun _ _ q => q.elim))
            clear kn hXj)
         | (go_at_call 17
            have hz9 : True := trivial
            have hj := (join_any (opD i) (x := oneD false) (y := exNum 2) (Pd := fun k => k ≠ wn2.heap.size) (wn2.alloc (.cells #[.int .i64 0, .int .i64 0, .string ⟨#[]⟩, .string ⟨#[]⟩, .slice none 0 0] 42)) ((HO1.out _ (k2.out.trans ((Keeps.refl wn2 (fun _ => False)).alloc (.cells #[.int .i64 0, .int .i64 0, .string ⟨#[]⟩, .string ⟨#[]⟩, .slice none 0 0] 42)) (fun _ _ q => q))).mono (fun i hi => by have := k2.out.size; show i ≠ _; omega)) (ExC.mk ArgsV.nil) (fun i hi => by have q : (wn2.alloc (.cells #[.int .i64 0, .int .i64 0, .string ⟨#[]⟩, .string ⟨#[]⟩, .slice none 0 0] 42)).heap.size ≤ i := hi; (try simp at q); have := hz9; show i ≠ _; omega))
            (with_reducible refine hj.mono ?_)
            clear hj
            rintro e wj1 ⟨g1, rfl, hXj, kn⟩
            have kj := hide (((k2.out.trans ((Keeps.refl wn2 (fun _ => False)).alloc (.cells #[.int .i64 0, .int .i64 0, .string ⟨#[]⟩, .string ⟨#[]⟩, .slice none 0 0] 42)) (fun _ _ q => q))).trans kn (fun _ _ q => q))
            have HJ1 : Hid (∀ W', Keeps wj1 W' (fun _ => False) → ExC W' (fun k => k ≠ wn2.heap.size) (exBin (opD i) (oneD false) (exNum 2)) [.int .i64 7, .int .i64 0, .string (sB []), .string (sB (opD i)), .slice (some ⟨g1, 0, none⟩) 2 2]) := hide (fun W' k => hXj.keeps k (fun _ _ q => q))
            have hz0 : X0 wj1 wn2.heap.size := (kn.block _ (heap_lt (heap_alloc_new wn2 (.cells #[.int .i64 0, .int .i64 0, .string ⟨#[]⟩, .string ⟨#[]⟩, .slice none 0 0] 42))) id).trans (heap_alloc_new wn2 (.cells #[.int .i64 0, .int .i64 0, .string ⟨#[]⟩, .string ⟨#[]⟩, .slice none 0 0] 42))
            have hz := hide (And.intro hz0 (And.intro k2.out.size (heap_lt hz0)))
            have S_wj1 : (fun w' : World => w'.cell? ⟨go, i, none⟩ = some (.string (sB (opD i))) ∧ w'.cell? ⟨go, j, none⟩ = some (.string (sB (opD j))) ∧ w'.cell? ⟨gx, 0, none⟩ = some (.int .i64 1) ∧ w'.cell? ⟨gx, 1, none⟩ = some (.int .i64 1) ∧ w'.cell? ⟨gx, 2, none⟩ = some (.string (sB [])) ∧ w'.cell? ⟨gx, 3, none⟩ = some (.string (sB [])) ∧ w'.cell? ⟨gx, 4, none⟩ = some (.slice none 0 0)) wj1 := HSK2.out _ (kj.out.mono (fun _ _ q => q.elim))
            have Sz_wj1 : (fun w' : World => w'.cell? ⟨go, i, none⟩ = some (.string (sB (opD i))) ∧ w'.cell? ⟨go, j, none⟩ = some (.string (sB (opD j))) ∧ w'.cell? ⟨gx, 0, none⟩ = some (.int .i64 1) ∧ w'.cell? ⟨gx, 1, none⟩ = some (.int .i64 1) ∧ w'.cell? ⟨gx, 2, none⟩ = some (.string (sB [])) ∧ w'.cell? ⟨gx, 3, none⟩ = some (.string (sB [])) ∧ w'.cell? ⟨gx, 4, none⟩ = some (.slice none 0 0)) (wj1.alloc (.cells #[.int .i64 0, .int .i64 0, .string ⟨#[]⟩, .string ⟨#[]⟩, .slice none 0 0] 42)) := HSK2.out _ ((kj.out.trans ((Keeps.refl wj1 (fun _ => False)).alloc (.cells #[.int .i64 0, .int .i64 0, .string ⟨#[]⟩, .string ⟨#[]⟩, .slice none 0 0] 42)) (fun _ _ q => q)).mono (fun _ _ q => q.elim))
            clear kn hXj hz0 hz9)
         | (go_at_call 14
            have hz9 := hz.out.1
            (with_reducible refine (num_any 3 wj1).mono ?_)
            rintro e wn3 ⟨rfl, kn⟩
            have k3 := hide (kj.out.trans kn (fun _ _ q => q))
            have hj3 := kn.size
            have HJ3 := hide (fun W' (k : Keeps wn3 W' (fun _ => False)) => HJ1.out W' (kn.trans k (fun _ _ q => q)))
            have hz0 := hz9.keeps kn id
            replace hz := hide (And.intro hz0 (And.intro hz.out.2.1 (heap_lt hz0)))
            have S_wn3 : (fun w' : World => w'.cell? ⟨go, i, none⟩ = some (.string (sB (opD i))) ∧ w'.cell? ⟨go, j, none⟩ = some (.string (sB (opD j))) ∧ w'.cell? ⟨gx, 0, none⟩ = some (.int .i64 1) ∧ w'.cell? ⟨gx, 1, none⟩ = some (.int .i64 1) ∧ w'.cell? ⟨gx, 2, none⟩ = some (.string (sB [])) ∧ w'.cell? ⟨gx, 3, none⟩ = some (.string (sB [])) ∧ w'.cell? ⟨gx, 4, none⟩ = some (.slice none 0 0)) wn3 := HSK2.out _ (k3.out.mono (fun _ _ q => q.elim))
            have Sz_wn3 : (fun w' : World => w'.cell? ⟨go, i, none⟩ = some (.string (sB (opD i))) ∧ w'.cell? ⟨go, j, none⟩ = some (.string (sB (opD j))) ∧ w'.cell? ⟨gx, 0, none⟩ = some (.int .i64 1) ∧ w'.cell? ⟨gx, 1, none⟩ = some (.int .i64 1) ∧ w'.cell? ⟨gx, 2, none⟩ = some (.string (sB [])) ∧ w'.cell? ⟨gx, 3, none⟩ = some (.string (sB [])) ∧ w'.cell? ⟨gx, 4, none⟩ = some (.slice none 0 0)) (wn3.alloc (.cells #[.int .i64 0, .int .i64 0, .string ⟨#[]⟩, .string ⟨#[]⟩, .slice none 0 0] 42)) := HSK2.out _ ((k3.out.trans ((Keeps.refl wn3 (fun _ => False)).alloc (.cells #[.int .i64 0, .int .i64 0, .string ⟨#[]⟩, .string ⟨#[]⟩, .slice none 0 0] 42)) (fun _ _ q => q)).mono (fun _ _ q => q.elim))
            clear kn hz0 hz9)
         | (go_at_call 14
            (with_reducible refine (num_any 3 wj1).mono ?_)
            rintro e wn3 ⟨rfl, kn⟩
            have k3 := hide (kj.out.trans kn (fun _ _ q => q))
            have hj3 := kn.size
            have HJ3 := hide (fun W' (k : Keeps wn3 W' (fun _ => False)) => HJ1.out W' (kn.trans k (fun _ _ q => q)))
            have S_wn3 : (fun w' : World => w'.cell? ⟨go, i, none⟩ = some (.string (sB (opD i))) ∧ w'.cell? ⟨go, j, none⟩ = some (.string (sB (opD j))) ∧ w'.cell? ⟨gx, 0, none⟩ = some (.int .i64 1) ∧ w'.cell? ⟨gx, 1, none⟩ = some (.int .i64 1) ∧ w'.cell? ⟨gx, 2, none⟩ = some (.string (sB [])) ∧ w'.cell? ⟨gx, 3, none⟩ = some (.string (sB [])) ∧ w'.cell? ⟨gx, 4, none⟩ = some (.slice none 0 0)) wn3 := HSK2.out _ (k3.out.mono (fun _ _ q => q.elim))
            have Sz_wn3 : (fun w' : World => w'.cell? ⟨go, i, none⟩ = some (.string (sB (opD i))) ∧ w'.cell? ⟨go, j, none⟩ = some (.string (sB (opD j))) ∧ w'.cell? ⟨gx, 0, none⟩ = some (.int .i64 1) ∧ w'.cell? ⟨gx, 1, none⟩ = some (.int .i64 1) ∧ w'.cell? ⟨gx, 2, none⟩ = some (.string (sB [])) ∧ w'.cell? ⟨gx, 3, none⟩ = some (.string (sB [])) ∧ w'.cell? ⟨gx, 4, none⟩ = some (.slice none 0 0)) (wn3.alloc (.cells #[.int .i64 0, .int .i64 0, .string ⟨#[]⟩, .string ⟨#[]⟩, .slice none 0 0] 42)) := HSK2.out _ ((k3.out.trans ((Keeps.refl wn3 (fun _ => False)).alloc (.cells #[.int .i64 0, .int .i64 0, .string ⟨#[]⟩, .string ⟨#[]⟩, .slice none 0 0] 42)) (fun _ _ q => q)).mono (fun _ _ q => q.elim))
            clear kn)
         | (go_at_call 14
            (with_reducible refine (num_any 3 (wj1.alloc (.cells #[.int .i64 0, .int .i64 0, .string ⟨#[]⟩, .string ⟨#[]⟩, .slice none 0 0] 42))).mono ?_)
            rintro e wn3 ⟨rfl, kn⟩
            have kAl := (Keeps.refl wj1 (fun _ => False)).alloc (.cells #[.int .i64 0, .int .i64 0, .string ⟨#[]⟩, .string ⟨#[]⟩, .slice none 0 0] 42)
            have k3 := hide ((kj.out.trans kAl (fun _ _ q => q)).trans kn (fun _ _ q => q))
            have hj3 := (kAl.trans kn (fun _ _ q => q)).size
            have HJ3 : Hid (∀ W', Keeps wn3 W' (fun _ => False) → ExC W' (fun k => k ≠ wj1.heap.size) (exBin (opD i) (oneD false) (exNum 2)) [.int .i64 7, .int .i64 0, .string (sB []), .string (sB (opD i)), .slice (some ⟨g1, 0, none⟩) 2 2]) := hide (fun W' k => (HJ1.out W' ((kAl.trans kn (fun _ _ q => q)).trans k (fun _ _ q => q))).mono (fun i hi => Nat.ne_of_lt hi))
            have hz0 : X0 wn3 wj1.heap.size := (kn.block _ (heap_lt (heap_alloc_new wj1 (.cells #[.int .i64 0, .int .i64 0, .string ⟨#[]⟩, .string ⟨#[]⟩, .slice none 0 0] 42))) id).trans (heap_alloc_new wj1 (.cells #[.int .i64 0, .int .i64 0, .string ⟨#[]⟩, .string ⟨#[]⟩, .slice none 0 0] 42))
            have hz := hide (And.intro hz0 (And.intro kj.out.size (heap_lt hz0)))
            have S_wn3 : (fun w' : World => w'.cell? ⟨go, i, none⟩ = some (.string (sB (opD i))) ∧ w'.cell? ⟨go, j, none⟩ = some (.string (sB (opD j))) ∧ w'.cell? ⟨gx, 0, none⟩ = some (.int .i64 1) ∧ w'.cell? ⟨gx, 1, none⟩ = some (.int .i64 1) ∧ w'.cell? ⟨gx, 2, none⟩ = some (.string (sB [])) ∧ w'.cell? ⟨gx, 3, none⟩ = some (.string (sB [])) ∧ w'.cell? ⟨gx, 4, none⟩ = some (.slice none 0 0)) wn3 := HSK2.out _ (k3.out.mono (fun _ _ q => q.elim))
            have Sz_wn3 : (fun w' : World => w'.cell? ⟨go, i, none⟩ = some (.string (sB (opD i))) ∧ w'.cell? ⟨go, j, none⟩ = some (.string (sB (opD j))) ∧ w'.cell? ⟨gx, 0, none⟩ = some (.int .i64 1) ∧ w'.cell? ⟨gx, 1, none⟩ = some (.int .i64 1) ∧ w'.cell? ⟨gx, 2, none⟩ = some (.string (sB [])) ∧ w'.cell? ⟨gx, 3, none⟩ = some (.string (sB [])) ∧ w'.cell? ⟨gx, 4, none⟩ = some (.slice none 0 0)) (wn3.alloc (.cells #[.int .i64 0, .int .i64 0, .string ⟨#[]⟩, .string ⟨#[]⟩, .slice none 0 0] 42)) := HSK2.out _ ((k3.out.trans ((Keeps.refl wn3 (fun _ => False)).alloc (.cells #[.int .i64 0, .int .i64 0, .string ⟨#[]⟩, .string ⟨#[]⟩, .slice none 0 0] 42)) (fun _ _ q => q)).mono (fun _ _ q => q.elim))
            clear kn hz0 kAl)
         | (go_at_call 17
            have hz9 := hz.out
            have hj := (join_any (opD j) (x := (exBin (opD i) (oneD false) (exNum 2))) (y := exNum 3) wn3 (HJ3.out _ (Keeps.refl _ _)) (ExC.mk ArgsV.nil) (fun i hi q => by have h9 := hz9.2.2; have q2 : _ ≤ i := hi; omega))
            (with_reducible refine hj.mono ?_)
            clear hj
            rintro e wj2 ⟨g2, rfl, hXj, kn⟩
            have k4 := hide (k3.out.trans kn (fun _ _ q => q))
            have HJ2 := hide hXj
            have hz0 := hz9.1.keeps kn id
            replace hz := hide (And.intro hz0 (And.intro hz9.2.1 (heap_lt hz0)))
            have S_wj2 : (fun w' : World => w'.cell? ⟨go, i, none⟩ = some (.string (sB (opD i))) ∧ w'.cell? ⟨go, j, none⟩ = some (.string (sB (opD j))) ∧ w'.cell? ⟨gx, 0, none⟩ = some (.int .i64 1) ∧ w'.cell? ⟨gx, 1, none⟩ = some (.int .i64 1) ∧ w'.cell? ⟨gx, 2, none⟩ = some (.string (sB [])) ∧ w'.cell? ⟨gx, 3, none⟩ = some (.string (sB [])) ∧ w'.cell? ⟨gx, 4, none⟩ = some (.slice none 0 0)) wj2 := HSK2.out _ (k4.out.mono (fun _ _ q => q.elim))
            have Sz_wj2 : (fun w' : World => w'.cell? ⟨go, i, none⟩ = some (.string (sB (opD i))) ∧ w'.cell? ⟨go, j, none⟩ = some (.string (sB (opD j))) ∧ w'.cell? ⟨gx, 0, none⟩ = some (.int .i64 1) ∧ w'.cell? ⟨gx, 1, none⟩ = some (.int .i64 1) ∧ w'.cell? ⟨gx, 2, none⟩ = some (.string (sB [])) ∧ w'.cell? ⟨gx, 3, none⟩ = some (.string (sB [])) ∧ w'.cell? ⟨gx, 4, none⟩ = some (.slice none 0 0)) (wj2.alloc (.cells #[.int .i64 0, .int .i64 0, .string ⟨#[]⟩, .string ⟨#[]⟩, .slice none 0 0] 42)) := HSK2.out _ ((k4.out.trans ((Keeps.refl wj2 (fun _ => False)).alloc (.cells #[.int .i64 0, .int .i64 0, .string ⟨#[]⟩, .string ⟨#[]⟩, .slice none 0 0] 42)) (fun _ _ q => q)).mono (fun _ _ q => q.elim))
            obtain ⟨⟨z0, z1, z2, z3, z4⟩, y0, y1, y2, y3, y4⟩ := hz.out.1.cells
            have hge := hz.out.2.1
            have S_f := HSK2.out _ ((((((k4.out.mono (fun _ _ q => q.elim) : Keeps W11 wj2 (fun k => W11.heap.size ≤ k)).setCell ⟨_, 0, none⟩ (fun _ => hge) (.int .i64 7)).setCell ⟨_, 1, none⟩ (fun _ => hge) (.int .i64 0)).setCell ⟨_, 2, none⟩ (fun _ => hge) (.string (sB []))).setCell ⟨_, 3, none⟩ (fun _ => hge) (.string (sB (opD j)))).setCell ⟨_, 4, none⟩ (fun _ => hge) (.slice (some ⟨g2, 0, none⟩) 2 2))
            clear kn hXj hz0 hge hz9)
         | (go_at_call 17
            have hj := (join_any (opD j) (x := (exBin (opD i) (oneD false) (exNum 2))) (y := exNum 3) (Pd := fun _ => True) wn3 ((HJ3.out _ (Keeps.refl _ _)).mono (fun _ _ => trivial)) (ExC.mk ArgsV.nil) (fun _ _ => trivial))
            (with_reducible refine hj.mono ?_)
            clear hj
            rintro e wj2 ⟨g2, rfl, hXj, kn⟩
            have k4 := hide (k3.out.trans kn (fun _ _ q => q))
            have HJ2 := hide hXj.under
            have Sv : (fun w' : World => w'.cell? ⟨go, i, none⟩ = some (.string (sB (opD i))) ∧ w'.cell? ⟨go, j, none⟩ = some (.string (sB (opD j))) ∧ w'.cell? ⟨gx, 0, none⟩ = some (.int .i64 1) ∧ w'.cell? ⟨gx, 1, none⟩ = some (.int .i64 1) ∧ w'.cell? ⟨gx, 2, none⟩ = some (.string (sB [])) ∧ w'.cell? ⟨gx, 3, none⟩ = some (.string (sB [])) ∧ w'.cell? ⟨gx, 4, none⟩ = some (.slice none 0 0)) (wj2.alloc (.cells #[.int .i64 7, .int .i64 0, .string (sB []), .string (sB (opD j)), .slice (some ⟨g2, 0, none⟩) 2 2] 42)) := HSK2.out _ ((k4.out.trans ((Keeps.refl wj2 (fun _ => False)).alloc _) (fun _ _ q => q)).mono (fun _ _ q => q.elim))
            have S_wj2 : (fun w' : World => w'.cell? ⟨go, i, none⟩ = some (.string (sB (opD i))) ∧ w'.cell? ⟨go, j, none⟩ = some (.string (sB (opD j))) ∧ w'.cell? ⟨gx, 0, none⟩ = some (.int .i64 1) ∧ w'.cell? ⟨gx, 1, none⟩ = some (.int .i64 1) ∧ w'.cell? ⟨gx, 2, none⟩ = some (.string (sB [])) ∧ w'.cell? ⟨gx, 3, none⟩ = some (.string (sB [])) ∧ w'.cell? ⟨gx, 4, none⟩ = some (.slice none 0 0)) wj2 := HSK2.out _ (k4.out.mono (fun _ _ q => q.elim))
            have Sz_wj2 : (fun w' : World => w'.cell? ⟨go, i, none⟩ = some (.string (sB (opD i))) ∧ w'.cell? ⟨go, j, none⟩ = some (.string (sB (opD j))) ∧ w'.cell? ⟨gx, 0, none⟩ = some (.int .i64 1) ∧ w'.cell? ⟨gx, 1, none⟩ = some (.int .i64 1) ∧ w'.cell? ⟨gx, 2, none⟩ = some (.string (sB [])) ∧ w'.cell? ⟨gx, 3, none⟩ = some (.string (sB [])) ∧ w'.cell? ⟨gx, 4, none⟩ = some (.slice none 0 0)) (wj2.alloc (.cells #[.int .i64 0, .int .i64 0, .string ⟨#[]⟩, .string ⟨#[]⟩, .slice none 0 0] 42)) := HSK2.out _ ((k4.out.trans ((Keeps.refl wj2 (fun _ => False)).alloc (.cells #[.int .i64 0, .int .i64 0, .string ⟨#[]⟩, .string ⟨#[]⟩, .slice none 0 0] 42)) (fun _ _ q => q)).mono (fun _ _ q => q.elim))
            clear kn hXj)
         | (go_at_call 17
            have hj := (join_any (opD j) (x := (exBin (opD i) (oneD false) (exNum 2))) (y := exNum 3) (Pd := fun k => k ≠ wn3.heap.size) (wn3.alloc (.cells #[.int .i64 0, .int .i64 0, .string ⟨#[]⟩, .string ⟨#[]⟩, .slice none 0 0] 42)) ((HJ3.out _ ((Keeps.refl wn3 (fun _ => False)).alloc (.cells #[.int .i64 0, .int .i64 0, .string ⟨#[]⟩, .string ⟨#[]⟩, .slice none 0 0] 42))).mono (fun i hi => by have q : i < wj1.heap.size := hi; show i ≠ _; omega)) (ExC.mk ArgsV.nil) (fun i hi => by have q : (wn3.alloc (.cells #[.int .i64 0, .int .i64 0, .string ⟨#[]⟩, .string ⟨#[]⟩, .slice none 0 0] 42)).heap.size ≤ i := hi; simp at q; show i ≠ _; omega))
            (with_reducible refine hj.mono ?_)
            clear hj
            rintro e wj2 ⟨g2, rfl, hXj, kn⟩
            have kAl := (Keeps.refl wn3 (fun _ => False)).alloc (.cells #[.int .i64 0, .int .i64 0, .string ⟨#[]⟩, .string ⟨#[]⟩, .slice none 0 0] 42)
            have k4 := hide ((k3.out.trans kAl (fun _ _ q => q)).trans kn (fun _ _ q => q))
            have HJ2 := hide hXj
            have hz0 : X0 wj2 wn3.heap.size := (kn.block _ (heap_lt (heap_alloc_new wn3 (.cells #[.int .i64 0, .int .i64 0, .string ⟨#[]⟩, .string ⟨#[]⟩, .slice none 0 0] 42))) id).trans (heap_alloc_new wn3 (.cells #[.int .i64 0, .int .i64 0, .string ⟨#[]⟩, .string ⟨#[]⟩, .slice none 0 0] 42))
            have hz := hide (And.intro hz0 (And.intro k3.out.size (heap_lt hz0)))
            have S_wj2 : (fun w' : World => w'.cell? ⟨go, i, none⟩ = some (.string (sB (opD i))) ∧ w'.cell? ⟨go, j, none⟩ = some (.string (sB (opD j))) ∧ w'.cell? ⟨gx, 0, none⟩ = some (.int .i64 1) ∧ w'.cell? ⟨gx, 1, none⟩ = some (.int .i64 1) ∧ w'.cell? ⟨gx, 2, none⟩ = some (.string (sB [])) ∧ w'.cell? ⟨gx, 3, none⟩ = some (.string (sB [])) ∧ w'.cell? ⟨gx, 4, none⟩ = some (.slice none 0 0)) wj2 := HSK2.out _ (k4.out.mono (fun _ _ q => q.elim))
            have Sz_wj2 : (fun w' : World => w'.cell? ⟨go, i, none⟩ = some (.string (sB (opD i))) ∧ w'.cell? ⟨go, j, none⟩ = some (.string (sB (opD j))) ∧ w'.cell? ⟨gx, 0, none⟩ = some (.int .i64 1) ∧ w'.cell? ⟨gx, 1, none⟩ = some (.int .i64 1) ∧ w'.cell? ⟨gx, 2, none⟩ = some (.string (sB [])) ∧ w'.cell? ⟨gx, 3, none⟩ = some (.string (sB [])) ∧ w'.cell? ⟨gx, 4, none⟩ = some (.slice none 0 0)) (wj2.alloc (.cells #[.int .i64 0, .int .i64 0, .string ⟨#[]⟩, .string ⟨#[]⟩, .slice none 0 0] 42)) := HSK2.out _ ((k4.out.trans ((Keeps.refl wj2 (fun _ => False)).alloc (.cells #[.int .i64 0, .int .i64 0, .string ⟨#[]⟩, .string ⟨#[]⟩, .slice none 0 0] 42)) (fun _ _ q => q)).mono (fun _ _ q => q.elim))
            obtain ⟨⟨z0, z1, z2, z3, z4⟩, y0, y1, y2, y3, y4⟩ := hz.out.1.cells
            have hge := hz.out.2.1
            have S_f := HSK2.out _ ((((((k4.out.mono (fun _ _ q => q.elim) : Keeps W11 wj2 (fun k => W11.heap.size ≤ k)).setCell ⟨_, 0, none⟩ (fun _ => hge) (.int .i64 7)).setCell ⟨_, 1, none⟩ (fun _ => hge) (.int .i64 0)).setCell ⟨_, 2, none⟩ (fun _ => hge) (.string (sB []))).setCell ⟨_, 3, none⟩ (fun _ => hge) (.string (sB (opD j)))).setCell ⟨_, 4, none⟩ (fun _ => hge) (.slice (some ⟨g2, 0, none⟩) 2 2))
            clear kn hXj hz0 hge kAl))
        · rename_i hh
          clear hh
          refine alloc1 (P := fun W => _) fun W12 h12 hz12 k12 => ?_
          have HM : Hid (Tm W11 W12 wj2.heap.size g2 j (exBin (opD j) (exBin (opD i) (oneD false) (exNum 2)) (exNum 3))) := hide ⟨k4.out.trans k12 (fun _ _ q => q), h12, (HJ2.out.keeps k12 (fun _ _ q => q)).mono (fun i hi => Nat.ne_of_lt hi.2), k4.out.size⟩
          clear h12 hz12 k12 HJ1 HJ3 HJ2 Sv
          revert HM
          generalize wj2.heap.size = gw
          revert gw
          revert W12
          revert g2
          revert g1
          exact hrest.out
        · rename_i hh
          clear hh S_f
          refine set5 (P := fun W => _) hz.out.1 fun W12 h12 k12 => ?_
          have HM : Hid (Tm W11 W12 wn3.heap.size g2 j (exBin (opD j) (exBin (opD i) (oneD false) (exNum 2)) (exNum 3))) := hide ⟨k4.out.trans k12 (fun i hi q => by have := hz.out.2.1; omega), h12, HJ2.out.keeps k12 (fun i hi => hi), hz.out.2.1⟩
          clear h12 k12 HJ1 HJ3 HJ2 z0 z1 z2 z3 z4 y0 y1 y2 y3 y4
          revert HM
          generalize wn3.heap.size = gw
          revert gw
          revert W12
          revert g2
          revert g1
          exact hrest.out
        · rename_i hh
          clear hh S_f
          refine set5 (P := fun W => _) hz.out.1 fun W12 h12 k12 => ?_
          have HM : Hid (Tm W11 W12 wj1.heap.size g2 j (exBin (opD j) (exBin (opD i) (oneD false) (exNum 2)) (exNum 3))) := hide ⟨k4.out.trans k12 (fun i hi q => by have := hz.out.2.1; omega), h12, HJ2.out.keeps k12 (fun i hi => hi), hz.out.2.1⟩
          clear h12 k12 HJ1 HJ3 HJ2 z0 z1 z2 z3 z4 y0 y1 y2 y3 y4
          revert HM
          generalize wj1.heap.size = gw
          revert gw
          revert W12
          revert g2
          revert g1
          exact hrest.out
        · rename_i hh
          clear hh S_f
          refine set5 (P := fun W => _) hz.out.1 fun W12 h12 k12 => ?_
          have HM : Hid (Tm W11 W12 wn2.heap.size g2 j (exBin (opD j) (exBin (opD i) (oneD false) (exNum 2)) (exNum 3))) := hide ⟨k4.out.trans k12 (fun i hi q => by have := hz.out.2.1; omega), h12, HJ2.out.keeps k12 (fun i hi => hi), hz.out.2.1⟩
          clear h12 k12 HJ1 HJ3 HJ2 z0 z1 z2 z3 z4 y0 y1 y2 y3 y4
          revert HM
          generalize wn2.heap.size = gw
          revert gw
          revert W12
          revert g2
          revert g1
          exact hrest.out
        · rename_i hh
          clear hh S_f
          refine set5 (P := fun W => _) hz.out.1 fun W12 h12 k12 => ?_
          have HM : Hid (Tm W11 W12 W11.heap.size g2 j (exBin (opD j) (exBin (opD i) (oneD false) (exNum 2)) (exNum 3))) := hide ⟨k4.out.trans k12 (fun i hi q => by have := hz.out.2.1; omega), h12, HJ2.out.keeps k12 (fun i hi => hi), hz.out.2.1⟩
          clear h12 k12 HJ1 HJ3 HJ2 z0 z1 z2 z3 z4 y0 y1 y2 y3 y4
          revert HM
          generalize W11.heap.size = gw
          revert gw
          revert W12
          revert g2
          revert g1
          exact hrest.out
      clear S0 S0z hnZ kD kZ HSK2 HO1
      intro g1 g2 W12 gw HM
      go_upto_region 13 with fail
      have q1 := heap_lt HF.out.row
      have q2 := heap_lt HF.out.one
      have q3 := HM.out.ge
      have HSK3 : Hid (∀ W' : World, Keeps W12 W' (fun k => k = gw) → (fun w' : World => w'.cell? ⟨go, i, none⟩ = some (.string (sB (opD i))) ∧ w'.cell? ⟨go, j, none⟩ = some (.string (sB (opD j))) ∧ w'.cell? ⟨gx, 0, none⟩ = some (.int .i64 1) ∧ w'.cell? ⟨gx, 1, none⟩ = some (.int .i64 1) ∧ w'.cell? ⟨gx, 2, none⟩ = some (.string (sB [])) ∧ w'.cell? ⟨gx, 3, none⟩ = some (.string (sB [])) ∧ w'.cell? ⟨gx, 4, none⟩ = some (.slice none 0 0)) W') := hide (fun W' k => by
        have kk := HM.out.kp
        have e1 := (k.block _ (heap_lt (kblk kk HF.out.row)) (fun q => by omega)).trans (kblk kk HF.out.row)
        have e2 : Xc W' gx _ _ _ _ _ := (k.block _ (heap_lt (kblk kk HF.out.one)) (fun q => by omega)).trans (kblk kk HF.out.one)
        exact ⟨row_at e1 i HIJ.out.1, row_at e1 j HIJ.out.2, e2.cells.1⟩)
      have kD := hide ((Keeps.refl W12 (fun _ => False)).drew)
      have S0 : (fun w' : World => w'.cell? ⟨go, i, none⟩ = some (.string (sB (opD i))) ∧ w'.cell? ⟨go, j, none⟩ = some (.string (sB (opD j)))) W12.drew := ⟨(HSK3.out _ (kD.out.mono (fun _ _ q => q.elim))).1, (HSK3.out _ (kD.out.mono (fun _ _ q => q.elim))).2.1⟩
      by_cases hlt : strD i < strD j
      · have hlt' : (strD i : Int) < (strD j : Int) := by omega
        go_region_held3 (fun w' : World => w'.cell? ⟨go, i, none⟩ = some (.string (sB (opD i))) ∧ w'.cell? ⟨go, j, none⟩ = some (.string (sB (opD j)))) (with_reducible assumption) (first
         | (go_at_call 16
            (with_reducible refine (strength_any i HIJ.out.1 _).mono ?_)
            rintro e wx ⟨rfl, rfl⟩)
         | (go_at_call 16
            (with_reducible refine (strength_any j HIJ.out.2 _).mono ?_)
            rintro e wx ⟨rfl, rfl⟩))
        have hw : wantD i j false = exBin (opD i) (oneD false) (exBin (opD j) (exNum 2) (exNum 3)) := by unfold wantD; rw [if_pos hlt]
        clear S0 hlt'
        go_upto_region 14 with fail
        have HO2 : Hid (∀ W', Keeps W12 W' (fun _ => False) → ExC W' (fun k => k ≠ gw) (oneD false) [.int .i64 1, .int .i64 1, .string (sB []), .string (sB []), .slice none 0 0]) := hide (fun W' k => (HF.out.oneE.under.keeps (HM.out.kp.trans k (fun _ _ q => q)) (fun _ _ q => q)).mono (fun i hi => by have := hi.2; show i ≠ _; omega))
        have hg12 := heap_lt HM.out.box
        have k2D := hide (kD.out.drew)
        have S0 : (fun w' : World => w'.cell? ⟨go, i, none⟩ = some (.string (sB (opD i))) ∧ w'.cell? ⟨go, j, none⟩ = some (.string (sB (opD j))) ∧ w'.cell? ⟨gx, 0, none⟩ = some (.int .i64 1) ∧ w'.cell? ⟨gx, 1, none⟩ = some (.int .i64 1) ∧ w'.cell? ⟨gx, 2, none⟩ = some (.string (sB [])) ∧ w'.cell? ⟨gx, 3, none⟩ = some (.string (sB [])) ∧ w'.cell? ⟨gx, 4, none⟩ = some (.slice none 0 0)) W12.drew.drew := HSK3.out _ (k2D.out.mono (fun _ _ q => q.elim))
        go_region_held3 (fun w' : World => w'.cell? ⟨go, i, none⟩ = some (.string (sB (opD i))) ∧ w'.cell? ⟨go, j, none⟩ = some (.string (sB (opD j))) ∧ w'.cell? ⟨gx, 0, none⟩ = some (.int .i64 1) ∧ w'.cell? ⟨gx, 1, none⟩ = some (.int .i64 1) ∧ w'.cell? ⟨gx, 2, none⟩ = some (.string (sB [])) ∧ w'.cell? ⟨gx, 3, none⟩ = some (.string (sB [])) ∧ w'.cell? ⟨gx, 4, none⟩ = some (.slice none 0 0)) (first | with_reducible assumption | exact S_f) (first
         | (go_at_call 14
            (with_reducible refine (num_any 2 W12.drew.drew).mono ?_)
            rintro e wm2 ⟨rfl, kn⟩
            have k2 := hide (k2D.out.trans kn (fun _ _ q => q))
            have S_2 : (fun w' : World => w'.cell? ⟨go, i, none⟩ = some (.string (sB (opD i))) ∧ w'.cell? ⟨go, j, none⟩ = some (.string (sB (opD j))) ∧ w'.cell? ⟨gx, 0, none⟩ = some (.int .i64 1) ∧ w'.cell? ⟨gx, 1, none⟩ = some (.int .i64 1) ∧ w'.cell? ⟨gx, 2, none⟩ = some (.string (sB [])) ∧ w'.cell? ⟨gx, 3, none⟩ = some (.string (sB [])) ∧ w'.cell? ⟨gx, 4, none⟩ = some (.slice none 0 0)) wm2 := HSK3.out _ (k2.out.mono (fun _ _ q => q.elim))
            clear kn)
         | (go_at_call 14
            (with_reducible refine (num_any 3 wm2).mono ?_)
            rintro e wm3 ⟨rfl, kn⟩
            have k3 := hide (k2.out.trans kn (fun _ _ q => q))
            have S_3 : (fun w' : World => w'.cell? ⟨go, i, none⟩ = some (.string (sB (opD i))) ∧ w'.cell? ⟨go, j, none⟩ = some (.string (sB (opD j))) ∧ w'.cell? ⟨gx, 0, none⟩ = some (.int .i64 1) ∧ w'.cell? ⟨gx, 1, none⟩ = some (.int .i64 1) ∧ w'.cell? ⟨gx, 2, none⟩ = some (.string (sB [])) ∧ w'.cell? ⟨gx, 3, none⟩ = some (.string (sB [])) ∧ w'.cell? ⟨gx, 4, none⟩ = some (.slice none 0 0)) wm3 := HSK3.out _ (k3.out.mono (fun _ _ q => q.elim))
            clear kn)
         | (go_at_call 17
            have hj := (join_any (opD j) (x := exNum 2) (y := exNum 3) (Pd := fun k => k ≠ gw) wm3 (ExC.mk ArgsV.nil) (ExC.mk ArgsV.nil) (fun i hi => by have := k3.out.size; have q : _ ≤ i := hi; show i ≠ _; omega))
            (with_reducible refine hj.mono ?_)
            clear hj
            rintro e wj3 ⟨g3, rfl, hXj, kn⟩
            have k4 := hide (k3.out.trans kn (fun _ _ q => q))
            have HJ3 := hide hXj
            have S_4 : (fun w' : World => w'.cell? ⟨go, i, none⟩ = some (.string (sB (opD i))) ∧ w'.cell? ⟨go, j, none⟩ = some (.string (sB (opD j))) ∧ w'.cell? ⟨gx, 0, none⟩ = some (.int .i64 1) ∧ w'.cell? ⟨gx, 1, none⟩ = some (.int .i64 1) ∧ w'.cell? ⟨gx, 2, none⟩ = some (.string (sB [])) ∧ w'.cell? ⟨gx, 3, none⟩ = some (.string (sB [])) ∧ w'.cell? ⟨gx, 4, none⟩ = some (.slice none 0 0)) wj3 := HSK3.out _ (k4.out.mono (fun _ _ q => q.elim))
            clear kn hXj)
         | (go_at_call 17
            have hj := (join_any (opD i) (x := oneD false) (y := exBin (opD j) (exNum 2) (exNum 3)) wj3 (HO2.out _ k4.out) HJ3.out (fun i hi => by have := k4.out.size; have q : _ ≤ i := hi; show i ≠ _; omega))
            (with_reducible refine hj.mono ?_)
            clear hj
            rintro e wj4 ⟨g4, rfl, hXj, kn⟩
            have k5 := hide (k4.out.trans kn (fun _ _ q => q))
            have HJ4 := hide hXj
            have hb := HM.out.box.keeps k5.out id
            have HB := hide hb
            obtain ⟨⟨z0, z1, z2, z3, z4⟩, y0, y1, y2, y3, y4⟩ := hb.cells
            have S_5 : (fun w' : World => w'.cell? ⟨go, i, none⟩ = some (.string (sB (opD i))) ∧ w'.cell? ⟨go, j, none⟩ = some (.string (sB (opD j))) ∧ w'.cell? ⟨gx, 0, none⟩ = some (.int .i64 1) ∧ w'.cell? ⟨gx, 1, none⟩ = some (.int .i64 1) ∧ w'.cell? ⟨gx, 2, none⟩ = some (.string (sB [])) ∧ w'.cell? ⟨gx, 3, none⟩ = some (.string (sB [])) ∧ w'.cell? ⟨gx, 4, none⟩ = some (.slice none 0 0)) wj4 := HSK3.out _ (k5.out.mono (fun _ _ q => q.elim))
            have S_f := HSK3.out _ ((((((k5.out.mono (fun _ _ q => q.elim) : Keeps W12 wj4 (fun k => k = gw)).setCell ⟨gw, 0, none⟩ (fun _ => rfl) (.int .i64 7)).setCell ⟨gw, 1, none⟩ (fun _ => rfl) (.int .i64 0)).setCell ⟨gw, 2, none⟩ (fun _ => rfl) (.string (sB []))).setCell ⟨gw, 3, none⟩ (fun _ => rfl) (.string (sB (opD i)))).setCell ⟨gw, 4, none⟩ (fun _ => rfl) (.slice (some ⟨g4, 0, none⟩) 2 2))
            clear kn hXj hb))
        rename_i hh
        clear hh S_f
        refine set5 (P := fun W => _) HB.out fun W14 h14 k14 => ?_
        have HX : Hid (Xc W14 gw (.int .i64 7) (.int .i64 0) (.string (sB [])) (.string (sB (opD i))) (.slice (some ⟨g4, 0, none⟩) 2 2)) := hide h14
        have HE := hide (HJ4.out.keeps k14 (fun i hi => hi))
        have HK := hide ((HF.out.kp.trans (HM.out.kp.trans k5.out (fun _ _ q => q)) (fun _ _ q => q)).trans k14 (fun i hi q => by have := (HF.out.kp).size; omega))
        have HKP := hide ((k5.out.mono (fun _ _ q => q.elim) : Keeps W12 wj4 (fun k => k = gw)).trans k14 (fun _ _ q => q))
        have HBX : Hid (P2 W14 gp (.slice ma mb mc) (.slice la lb lc)) := hide ((HF.out.box.keeps HM.out.kp id).keeps HKP.out (fun q => by have := HF.out.box.lt; omega))
        have HPW : Hid (∃ B, PgG B ⟨[], [.mk 5 [] [] [] [wantD i j false] [] []]⟩ (.agg #[.slice ma mb mc, .slice la lb lc]) W14) := hide (by
          obtain ⟨B, m1, l1, e1, hm1, hl1⟩ := HPG.out
          have kk : Keeps W11 W14 (fun k => W11.heap.size ≤ k) := (HM.out.kp.mono (fun _ _ q => q.elim)).trans (HKP.out.mono (fun i _ q => by show W11.heap.size ≤ i; omega)) (fun _ _ q => q)
          exact ⟨B, m1, l1, e1, hm1.keepsUnder kk, hl1.keepsUnder kk⟩)
        clear S0 HJ3 HJ4 HB k14 h14 z0 z1 z2 z3 z4 y0 y1 y2 y3 y4 S_2 S_3 S_4 S_5
        go_upto_region 15 with fail
        obtain ⟨⟨c0, c1⟩, -⟩ := HBX.out.cells
        obtain ⟨⟨d0, d1, d2, d3, d4⟩, -⟩ := HX.out.cells
        have kB := ((Keeps.refl W14 (fun _ => False)).alloc (.cells #[.int .i64 7, .int .i64 0, .string (sB []), .string (sB (opD i)), .slice (some ⟨g4, 0, none⟩) 2 2] 42)).alloc (.cells #[.int .i64 5, .string ⟨#[]⟩, .string ⟨#[]⟩, .string ⟨#[]⟩, .slice (some ⟨W14.heap.size, 0, none⟩) 1 1, .slice none 0 0, .slice none 0 0] 49)
        have hn1 := heap_old2 W14 (.cells #[.int .i64 7, .int .i64 0, .string (sB []), .string (sB (opD i)), .slice (some ⟨g4, 0, none⟩) 2 2] 42) (.cells #[.int .i64 5, .string ⟨#[]⟩, .string ⟨#[]⟩, .string ⟨#[]⟩, .slice (some ⟨W14.heap.size, 0, none⟩) 1 1, .slice none 0 0, .slice none 0 0] 49)
        have hn2 := heap_new2 W14 (.cells #[.int .i64 7, .int .i64 0, .string (sB []), .string (sB (opD i)), .slice (some ⟨g4, 0, none⟩) 2 2] 42) (.cells #[.int .i64 5, .string ⟨#[]⟩, .string ⟨#[]⟩, .string ⟨#[]⟩, .slice (some ⟨W14.heap.size, 0, none⟩) 1 1, .slice none 0 0, .slice none 0 0] 49)
        have hsm : Calls Tryd.prog 10 #[.agg #[.slice ma mb mc, .slice la lb lc], .agg #[.slice none 0 0, .slice (some ⟨W14.heap.size + 1, 0, none⟩) 1 1]] ((W14.alloc (.cells #[.int .i64 7, .int .i64 0, .string (sB []), .string (sB (opD i)), .slice (some ⟨g4, 0, none⟩) 2 2] 42)).alloc (.cells #[.int .i64 5, .string ⟨#[]⟩, .string ⟨#[]⟩, .string ⟨#[]⟩, .slice (some ⟨W14.heap.size, 0, none⟩) 1 1, .slice none 0 0, .slice none 0 0] 49)) fun e w' => e = .returned (.bool true) ∧ Keeps ((W14.alloc (.cells #[.int .i64 7, .int .i64 0, .string (sB []), .string (sB (opD i)), .slice (some ⟨g4, 0, none⟩) 2 2] 42)).alloc (.cells #[.int .i64 5, .string ⟨#[]⟩, .string ⟨#[]⟩, .string ⟨#[]⟩, .slice (some ⟨W14.heap.size, 0, none⟩) 1 1, .slice none 0 0, .slice none 0 0] 49)) w' (fun _ => False) := by
          obtain ⟨B, m1, l1, e1, hm1, hl1⟩ := HPW.out
          exact same_true _ (want_small i j false) _ B 0 _ _ ⟨m1, l1, e1, hm1.keeps kB (fun _ _ q => q), StsV.keeps kB (fun _ _ q => q) hl1⟩
            ⟨_, _, rfl, StrsR.nil _ _, StsV.some (l := [_]) (Nat.zero_le _) (heap_lt hn2) (Nat.le_refl _) (range_blk hn2) (StsC.cons (StC.mk (ArgsV.some (args := [_]) (Nat.zero_le _) (heap_lt hn1) (Nat.le_refl _) (range_blk hn1) (ExsC.cons ((show ExC W14 _ (wantD i j false) _ by rw [hw]; exact HE.out).keeps kB (fun _ _ q => q) |>.mono (fun _ _ => Nat.zero_le _)) ExsC.nil)) StsV.nil StsV.nil) StsC.nil)⟩
        have HKB := hide kB
        clear hn1 hn2 kB
        go_wp2_with (go_at_call 10; (with_reducible refine hsm.mono ?_); rintro e wz ⟨rfl, kz⟩)
        go_ret
        exact ⟨rfl, (HK.out.trans HKB.out (fun _ _ q => q)).trans kz (fun _ _ q => q)⟩
      · have hlt' : ¬ (strD i : Int) < (strD j : Int) := by omega
        go_region_held3 (fun w' : World => w'.cell? ⟨go, i, none⟩ = some (.string (sB (opD i))) ∧ w'.cell? ⟨go, j, none⟩ = some (.string (sB (opD j)))) (with_reducible assumption) (first
         | (go_at_call 16
            (with_reducible refine (strength_any i HIJ.out.1 _).mono ?_)
            rintro e wx ⟨rfl, rfl⟩)
         | (go_at_call 16
            (with_reducible refine (strength_any j HIJ.out.2 _).mono ?_)
            rintro e wx ⟨rfl, rfl⟩))
        have hw : wantD i j false = exBin (opD j) (exBin (opD i) (oneD false) (exNum 2)) (exNum 3) := by unfold wantD; rw [if_neg hlt]
        clear S0 hlt'
        go_upto_region 15 with fail
        have HX : Hid (Xc W12.drew gw (.int .i64 7) (.int .i64 0) (.string (sB [])) (.string (sB (opD j))) (.slice (some ⟨g2, 0, none⟩) 2 2)) := hide (HM.out.box.keeps kD.out id)
        have HE := hide (HM.out.ex.keeps kD.out (fun _ _ q => q))
        have HK := hide ((HF.out.kp.trans HM.out.kp (fun _ _ q => q)).trans kD.out (fun _ _ q => q))
        have HBX : Hid (P2 W12.drew gp (.slice ma mb mc) (.slice la lb lc)) := hide ((HF.out.box.keeps HM.out.kp id).keeps kD.out id)
        have HPW : Hid (∃ B, PgG B ⟨[], [.mk 5 [] [] [] [wantD i j false] [] []]⟩ (.agg #[.slice ma mb mc, .slice la lb lc]) W12.drew) := hide (by
          obtain ⟨B, m1, l1, e1, hm1, hl1⟩ := HPG.out
          have kk := HM.out.kp.trans kD.out (fun _ _ q => q)
          exact ⟨B, m1, l1, e1, hm1.keeps kk (fun _ _ q => q), StsV.keeps kk (fun _ _ q => q) hl1⟩)
        generalize W12.drew = W13 at *
        obtain ⟨⟨c0, c1⟩, -⟩ := HBX.out.cells
        obtain ⟨⟨d0, d1, d2, d3, d4⟩, -⟩ := HX.out.cells
        have kB := ((Keeps.refl W13 (fun _ => False)).alloc (.cells #[.int .i64 7, .int .i64 0, .string (sB []), .string (sB (opD j)), .slice (some ⟨g2, 0, none⟩) 2 2] 42)).alloc (.cells #[.int .i64 5, .string ⟨#[]⟩, .string ⟨#[]⟩, .string ⟨#[]⟩, .slice (some ⟨W13.heap.size, 0, none⟩) 1 1, .slice none 0 0, .slice none 0 0] 49)
        have hn1 := heap_old2 W13 (.cells #[.int .i64 7, .int .i64 0, .string (sB []), .string (sB (opD j)), .slice (some ⟨g2, 0, none⟩) 2 2] 42) (.cells #[.int .i64 5, .string ⟨#[]⟩, .string ⟨#[]⟩, .string ⟨#[]⟩, .slice (some ⟨W13.heap.size, 0, none⟩) 1 1, .slice none 0 0, .slice none 0 0] 49)
        have hn2 := heap_new2 W13 (.cells #[.int .i64 7, .int .i64 0, .string (sB []), .string (sB (opD j)), .slice (some ⟨g2, 0, none⟩) 2 2] 42) (.cells #[.int .i64 5, .string ⟨#[]⟩, .string ⟨#[]⟩, .string ⟨#[]⟩, .slice (some ⟨W13.heap.size, 0, none⟩) 1 1, .slice none 0 0, .slice none 0 0] 49)
        have hsm : Calls Tryd.prog 10 #[.agg #[.slice ma mb mc, .slice la lb lc], .agg #[.slice none 0 0, .slice (some ⟨W13.heap.size + 1, 0, none⟩) 1 1]] ((W13.alloc (.cells #[.int .i64 7, .int .i64 0, .string (sB []), .string (sB (opD j)), .slice (some ⟨g2, 0, none⟩) 2 2] 42)).alloc (.cells #[.int .i64 5, .string ⟨#[]⟩, .string ⟨#[]⟩, .string ⟨#[]⟩, .slice (some ⟨W13.heap.size, 0, none⟩) 1 1, .slice none 0 0, .slice none 0 0] 49)) fun e w' => e = .returned (.bool true) ∧ Keeps ((W13.alloc (.cells #[.int .i64 7, .int .i64 0, .string (sB []), .string (sB (opD j)), .slice (some ⟨g2, 0, none⟩) 2 2] 42)).alloc (.cells #[.int .i64 5, .string ⟨#[]⟩, .string ⟨#[]⟩, .string ⟨#[]⟩, .slice (some ⟨W13.heap.size, 0, none⟩) 1 1, .slice none 0 0, .slice none 0 0] 49)) w' (fun _ => False) := by
          obtain ⟨B, m1, l1, e1, hm1, hl1⟩ := HPW.out
          exact same_true _ (want_small i j false) _ B 0 _ _ ⟨m1, l1, e1, hm1.keeps kB (fun _ _ q => q), StsV.keeps kB (fun _ _ q => q) hl1⟩
            ⟨_, _, rfl, StrsR.nil _ _, StsV.some (l := [_]) (Nat.zero_le _) (heap_lt hn2) (Nat.le_refl _) (range_blk hn2) (StsC.cons (StC.mk (ArgsV.some (args := [_]) (Nat.zero_le _) (heap_lt hn1) (Nat.le_refl _) (range_blk hn1) (ExsC.cons ((show ExC W13 _ (wantD i j false) _ by rw [hw]; exact HE.out).keeps kB (fun _ _ q => q) |>.mono (fun _ _ => Nat.zero_le _)) ExsC.nil)) StsV.nil StsV.nil) StsC.nil)⟩
        have HKB := hide kB
        clear hn1 hn2 kB
        go_wp2_with (go_at_call 10; (with_reducible refine hsm.mono ?_); rintro e wz ⟨rfl, kz⟩)
        go_ret
        exact ⟨rfl, (HK.out.trans HKB.out (fun _ _ q => q)).trans kz (fun _ _ q => q)⟩
  | true =>
    obtain ⟨⟨a0, a1, a2, a3, a4⟩, -⟩ := HX.out.cells
    have kA := (Keeps.refl W2 (fun _ => False)).alloc (.cells #[.int .i64 1, .int .i64 1, .string ⟨#[]⟩, .string ⟨#[]⟩, .slice none 0 0] 42)
    have X4 := HX.out.keeps kA id
    obtain ⟨⟨c0, c1, c2, c3, c4⟩, f0, f1, f2, f3, f4⟩ := X4.cells
    have HA := hide (And.intro X4 (And.intro kA (heap_alloc_new W2 (.cells #[.int .i64 1, .int .i64 1, .string ⟨#[]⟩, .string ⟨#[]⟩, .slice none 0 0] 42))))
    clear X4 kA
    go_upto_region 8 with fail
    refine set5 (P := fun W => Code.wp _ _ _ _ W) HA.out.1 fun W5 h11 k11 => ?_
    have hz2 := Hz2.out
    have hgx := Hgx.out
    have hgx2 := hgo.out
    obtain ⟨-, kA, hn⟩ := HA.out
    have hr5 := range_blk ((k11.block _ (heap_lt hn) (fun q => by omega)).trans hn)
    have hl5 := Nat.lt_of_lt_of_le (heap_lt hn) k11.size
    have HO : Hid (ExC W5 (fun _ => True) (oneD true) [.int .i64 6, .int .i64 0, .string (sB []), .string (sB [45]), .slice (some ⟨W2.heap.size, 0, none⟩) 1 1]) := hide (ExC.mk (ArgsV.some (args := [_]) trivial hl5 (Nat.le_refl _) hr5 (ExsC.cons (ExC.mk ArgsV.nil) ExsC.nil)))
    have HX9 : Hid (Xc W5 gx (.int .i64 6) (.int .i64 0) (.string (sB [])) (.string (sB [45])) (.slice (some ⟨W2.heap.size, 0, none⟩) 1 1)) := hide h11
    replace HR := hide ((k11.block _ (heap_lt (kblk kA HR.out)) (fun q => by omega)).trans (kblk kA HR.out))
    replace HK : Hid (Keeps w W5 (fun _ => False)) := hide ((HK.out.trans kA (fun _ _ q => q)).trans k11 (fun i hi q => by omega))
    clear a0 a1 a2 a3 a4 c0 c1 c2 c3 c4 f0 f1 f2 f3 f4 h11 k11 hr5 hl5 kA hn HA hz2 hgx hgx2 HX Hz2
    go_upto_region 9 with fail
    have hli := opD_len i
    have hlj := opD_len j
    obtain ⟨x1, hx1⟩ : ∃ x : Bs, x = [112, 114, 105, 110, 116, 32, 45, 49] ++ opD i := ⟨_, rfl⟩
    obtain ⟨x2, hx2⟩ : ∃ x : Bs, x = x1 ++ [50] := ⟨_, rfl⟩
    obtain ⟨x3, hx3⟩ : ∃ x : Bs, x = x2 ++ opD j := ⟨_, rfl⟩
    obtain ⟨x4, hx4⟩ : ∃ x : Bs, x = x3 ++ [51, 59] := ⟨_, rfl⟩
    have n1 : x1.length ≤ 10 := by rw [hx1, List.length_append]; show 8 + (opD i).length ≤ 10; omega
    have n2 : x2.length ≤ 11 := by rw [hx2, List.length_append]; show x1.length + 1 ≤ 11; omega
    have n3 : x3.length ≤ 13 := by rw [hx3, List.length_append]; omega
    have A1 : ∀ W : World, (Op.stringOp .add ⟨#[112, 114, 105, 110, 116, 32, 45, 49]⟩ (sB (opD i))).run Tryd.prog W = .ok (.string (sB x1)) W := fun W => by rw [hx1]; exact add_run [112, 114, 105, 110, 116, 32, 45, 49] (opD i) (by show 8 + _ ≤ 1000; omega) W
    have A2 : ∀ W : World, (Op.stringOp .add (sB x1) ⟨#[50]⟩).run Tryd.prog W = .ok (.string (sB x2)) W := fun W => by rw [hx2]; exact add_run x1 [50] (by show x1.length + 1 ≤ 1000; omega) W
    have A3 : ∀ W : World, (Op.stringOp .add (sB x2) (sB (opD j))).run Tryd.prog W = .ok (.string (sB x3)) W := fun W => by rw [hx3]; exact add_run x2 (opD j) (by omega) W
    have A4 : ∀ W : World, (Op.stringOp .add (sB x3) ⟨#[51, 59]⟩).run Tryd.prog W = .ok (.string (sB x4)) W := fun W => by rw [hx4]; exact add_run x3 [51, 59] (by show x3.length + 2 ≤ 1000; omega) W
    have hx : x4 = textD i j true := by rw [hx4, hx3, hx2, hx1]; rfl
    have n4 : x4.length ≤ 15 := by rw [hx4, List.length_append]; show x3.length + 2 ≤ 15; omega
    have hk9 := HK.out
    have hpa : ∀ W', Keeps W5 W' (fun _ => False) → Calls Tryd.prog 15 #[.string (sB x4)] W' (ParseP W' (climbD i j true)) := fun W' k => by
      have kk := hk9.trans k (fun _ _ q => q)
      have hg := hgo.out
      have e := climbs i j true HIJ.out.1 HIJ.out.2
      rw [← hx] at e
      have hH' : Hi W'.heap.size := by
        have q := HW.out.2.1
        have := kk.size
        unfold Hi at q ⊢
        omega
      have h := parse_any (w := W') x4 (by omega) (HW.out.1.keeps kk (fun _ q => q.elim)) hH' (by
        obtain ⟨ev, q1, q2⟩ := HW.out.2.2
        exact ⟨ev, kcell kk q1, q2⟩)
      rw [e] at h
      exact h
    have hg9 : go < W5.heap.size := heap_lt HR.out
    have HPA := hide hpa
    clear hx1 hx2 hx3 hx4 n1 n2 n3 n4 hx hli hlj hk9 hpa
    have Z9 := heap_alloc_new W5 (.cells #[.slice none 0 0, .slice none 0 0] 25)
    have kD := hide ((Keeps.refl W5 (fun _ => False)).drew)
    have kA := hide (((Keeps.refl W5 (fun _ => False)).alloc (.cells #[.slice none 0 0, .slice none 0 0] 25)).drew)
    have p1 := HPA.out _ kD.out
    have p2 := HPA.out _ kA.out
    have S0 : (fun w' : World => w'.cell? ⟨go, i, none⟩ = some (.string (sB (opD i))) ∧ w'.cell? ⟨go, j, none⟩ = some (.string (sB (opD j)))) W5.drew := ⟨row_at HR.out i HIJ.out.1, row_at HR.out j HIJ.out.2⟩
    have HSK : Hid (∀ W' : World, Keeps W5 W' (fun k => ¬ k = go) → (fun w' : World => w'.cell? ⟨go, i, none⟩ = some (.string (sB (opD i))) ∧ w'.cell? ⟨go, j, none⟩ = some (.string (sB (opD j)))) W') := hide (fun W' k => ⟨row_at ((k.block _ hg9 (fun q => q rfl)).trans HR.out) i HIJ.out.1, row_at ((k.block _ hg9 (fun q => q rfl)).trans HR.out) j HIJ.out.2⟩)
    have S0a : (fun w' : World => w'.cell? ⟨go, i, none⟩ = some (.string (sB (opD i))) ∧ w'.cell? ⟨go, j, none⟩ = some (.string (sB (opD j)))) ((W5.alloc (.cells #[.slice none 0 0, .slice none 0 0] 25)).drew) := HSK.out _ (kA.out.mono (fun _ _ q => q.elim))
    apply once
    · intro hrest
      go_region_held3 (fun w' : World => w'.cell? ⟨go, i, none⟩ = some (.string (sB (opD i))) ∧ w'.cell? ⟨go, j, none⟩ = some (.string (sB (opD j)))) (first | with_reducible assumption) (first
        | (refine p1.mono ?_
           rintro e w10 ⟨v, rfl, ⟨mv, lv, rfl, hm, hl⟩, kP⟩
           obtain ⟨ma, mb, mc, rfl⟩ := hm.form
           have hl0 : StsV w10 (fun i => _ ≤ i) _ lv := hl
           obtain ⟨la, lb, lc, rfl⟩ := hl0.form
           have Hk10 := hide (kD.out.trans kP (fun _ _ q => q))
           have kz := (Keeps.refl w10 (fun _ => False)).alloc (.cells #[.slice none 0 0, .slice none 0 0] 25)
           have kv := (Keeps.refl w10 (fun _ => False)).alloc (.cells #[.slice ma mb mc, .slice la lb lc] 25)
           have S1 : (fun w' : World => w'.cell? ⟨go, i, none⟩ = some (.string (sB (opD i))) ∧ w'.cell? ⟨go, j, none⟩ = some (.string (sB (opD j)))) w10 := HSK.out _ (Hk10.out.mono (fun _ _ q => q.elim))
           have S2 : (fun w' : World => w'.cell? ⟨go, i, none⟩ = some (.string (sB (opD i))) ∧ w'.cell? ⟨go, j, none⟩ = some (.string (sB (opD j)))) (w10.alloc (.cells #[.slice none 0 0, .slice none 0 0] 25)) := HSK.out _ ((Hk10.out.trans kz (fun _ _ q => q)).mono (fun _ _ q => q.elim))
           have S3 : (fun w' : World => w'.cell? ⟨go, i, none⟩ = some (.string (sB (opD i))) ∧ w'.cell? ⟨go, j, none⟩ = some (.string (sB (opD j)))) (w10.alloc (.cells #[.slice ma mb mc, .slice la lb lc] 25)) := HSK.out _ ((Hk10.out.trans kv (fun _ _ q => q)).mono (fun _ _ q => q.elim))
           have HPg := hide (And.intro hm hl)
           clear hm hl hl0 kP kz kv)
        | (refine p2.mono ?_
           rintro e w10 ⟨v, rfl, ⟨mv, lv, rfl, hm, hl⟩, kP⟩
           obtain ⟨ma, mb, mc, rfl⟩ := hm.form
           have hl0 : StsV w10 (fun i => _ ≤ i) _ lv := hl
           obtain ⟨la, lb, lc, rfl⟩ := hl0.form
           have Hk10 := hide (kA.out.trans kP (fun _ _ q => q))
           have hb10 : P2 w10 W5.heap.size (.slice none 0 0) (.slice none 0 0) := (kP.block _ (heap_lt Z9) id).trans Z9
           have HB10 := hide hb10
           obtain ⟨⟨z0, z1⟩, y0, y1⟩ := hb10.cells
           have S1 : (fun w' : World => w'.cell? ⟨go, i, none⟩ = some (.string (sB (opD i))) ∧ w'.cell? ⟨go, j, none⟩ = some (.string (sB (opD j)))) w10 := HSK.out _ (Hk10.out.mono (fun _ _ q => q.elim))
           have S3 : (fun w' : World => w'.cell? ⟨go, i, none⟩ = some (.string (sB (opD i))) ∧ w'.cell? ⟨go, j, none⟩ = some (.string (sB (opD j)))) ((w10.setCell ⟨W5.heap.size, 0, none⟩ (.slice ma mb mc)).setCell ⟨W5.heap.size, 1, none⟩ (.slice la lb lc)) := HSK.out _ (((Hk10.out.mono (S1 := fun k => ¬ k = go) (fun _ _ q => q.elim)).setCell _ (fun _ => Nat.ne_of_gt hg9) _).setCell _ (fun _ => Nat.ne_of_gt hg9) _)
           have HPg := hide (And.intro hm hl)
           clear hm hl hl0 kP hb10))
      · rename_i hh
        clear hh
        refine alloc1 (P := fun W => _) fun W11 h11 hz11 k11 => ?_
        have k9 := Hk10.out.trans k11 (fun _ _ q => q)
        have HF : Hid (Tl w go gx w10.heap.size i j true 6 0 [] [45] (some ⟨W2.heap.size, 0, none⟩) 1 1 ma mb mc la lb lc W11) := hide ⟨HK.out.trans k9 (fun _ _ q => q), kblk k9 HR.out, HX9.out.keeps k9 id, HO.out.keeps k9 (fun _ _ q => q), h11, _, _, _, rfl, HPg.out.1.keeps k11 (fun _ _ q => q), StsV.keeps k11 (fun _ _ q => q) HPg.out.2⟩
        clear h11 hz11 k11 k9 S1 S2 S3 HPg
        revert HF
        generalize w10.heap.size = gp
        revert gp W11 ma mb mc la lb lc
        exact hrest.out
      · rename_i hh
        clear hh
        refine P2.set2 (P := fun W => _) HB10.out fun W11 h11 k11 => ?_
        have k9 : Keeps W5 W11 (fun _ => False) := Hk10.out.trans k11 (fun i hi q => by omega)
        have hsz : ((W5.alloc (.cells #[.slice none 0 0, .slice none 0 0] 25)).drew).heap.size = W5.heap.size + 1 := by simp
        have HF : Hid (Tl w go gx W5.heap.size i j true 6 0 [] [45] (some ⟨W2.heap.size, 0, none⟩) 1 1 ma mb mc la lb lc W11) := hide ⟨HK.out.trans k9 (fun _ _ q => q), kblk k9 HR.out, HX9.out.keeps k9 id, HO.out.keeps k9 (fun _ _ q => q), h11, _, _, _, rfl, HPg.out.1.keeps k11 (fun i hi q => by omega), StsV.keeps k11 (fun i hi q => by have : _ ≤ i := hi; omega) HPg.out.2⟩
        clear h11 k11 k9 hsz S1 S3 HPg z0 z1 y0 y1 HB10
        revert HF
        generalize W5.heap.size = gp
        revert gp W11 ma mb mc la lb lc
        exact hrest.out
    clear p1 p2 S0 S0a HSK kD kA Z9 HPA A1 A2 A3 A4 HR HX9 HO HK hg9
    intro ma mb mc la lb lc W11 gp HF
    have r1 := row_at HF.out.row i HIJ.out.1
    have r2 := row_at HF.out.row j HIJ.out.2
    have hs := strength_any i HIJ.out.1 W11
    have hs2 := strength_any j HIJ.out.2 W11
    have h3 := kind_is (k := strD i) (n := 3) (z := 3) rfl
    have h4 := kind_is (k := strD j) (n := 3) (z := 3) rfl
    cases e3 : strD i == 3 with
    | true =>
      rw [e3] at h3
      cases e4 : strD j == 3 with
      | true =>
        rw [e4] at h4
        have hc : climbD i j true = (⟨[], []⟩, 1, 230) := by unfold climbD; rw [e3, e4]; rfl
        rw [hc]
        clear hc
        go_wp2_with (first | (go_at_call 16; (with_reducible refine hs.mono ?_); rintro e wa ⟨rfl, hwa⟩; obtain rfl := hwa.symm) | (go_at_call 16; (with_reducible refine hs2.mono ?_); rintro e wb ⟨rfl, hwb⟩; obtain rfl := hwb.symm))
        go_ret
        exact ⟨rfl, HF.out.kp⟩
      | false =>
        rw [e4] at h4
        have hc : climbD i j true = (⟨[], [.mk 5 [] [] [] [wantD i j true] [] []]⟩, 0, 0) := by unfold climbD; rw [e3, e4]; rfl
        have HPG : Hid (∃ B, PgG B ⟨[], [.mk 5 [] [] [] [wantD i j true] [] []]⟩ (.agg #[.slice ma mb mc, .slice la lb lc]) W11) := hide (by have q := HF.out.pg; rw [hc] at q; exact q)
        rw [hc]
        clear hc
        go_upto_region 12 with (first | (go_at_call 16; (with_reducible refine hs.mono ?_); rintro e wa ⟨rfl, hwa⟩; obtain rfl := hwa.symm) | (go_at_call 16; (with_reducible refine hs2.mono ?_); rintro e wb ⟨rfl, hwb⟩; obtain rfl := hwb.symm))
        clear hs hs2 h3 h4 r1 r2
        have HSK2 : Hid (∀ W' : World, Keeps W11 W' (fun k => W11.heap.size ≤ k) → (fun w' : World => w'.cell? ⟨go, i, none⟩ = some (.string (sB (opD i))) ∧ w'.cell? ⟨go, j, none⟩ = some (.string (sB (opD j))) ∧ w'.cell? ⟨gx, 0, none⟩ = some (.int .i64 6) ∧ w'.cell? ⟨gx, 1, none⟩ = some (.int .i64 0) ∧ w'.cell? ⟨gx, 2, none⟩ = some (.string (sB [])) ∧ w'.cell? ⟨gx, 3, none⟩ = some (.string (sB [45])) ∧ w'.cell? ⟨gx, 4, none⟩ = some (.slice (some ⟨W2.heap.size, 0, none⟩) 1 1)) W') := hide (fun W' k => by
          have q1 := heap_lt HF.out.row
          have q2 := heap_lt HF.out.one
          have e1 := (k.block _ q1 (fun q => by omega)).trans HF.out.row
          have e2 : Xc W' gx _ _ _ _ _ := (k.block _ q2 (fun q => by omega)).trans HF.out.one
          exact ⟨row_at e1 i HIJ.out.1, row_at e1 j HIJ.out.2, e2.cells.1⟩)
        have HO1 : Hid (∀ W', Keeps W11 W' (fun _ => False) → ExC W' (fun i => i < W11.heap.size) (oneD true) [.int .i64 6, .int .i64 0, .string (sB []), .string (sB [45]), .slice (some ⟨W2.heap.size, 0, none⟩) 1 1]) := hide (fun W' k => (HF.out.oneE.under.keeps k (fun _ _ q => q)).mono (fun _ h => h.2))
        have kD := hide ((Keeps.refl W11 (fun _ => False)).drew)
        have kZ := hide (((Keeps.refl W11 (fun _ => False)).alloc (.cells #[.int .i64 0, .int .i64 0, .string ⟨#[]⟩, .string ⟨#[]⟩, .slice none 0 0] 42)).drew)
        have hnZ : Hid (((W11.alloc (.cells #[.int .i64 0, .int .i64 0, .string ⟨#[]⟩, .string ⟨#[]⟩, .slice none 0 0] 42)).drew).heap[W11.heap.size]? = some (.cells #[.int .i64 0, .int .i64 0, .string ⟨#[]⟩, .string ⟨#[]⟩, .slice none 0 0] 42)) := hide (heap_alloc_new W11 _)
        have S0 : (fun w' : World => w'.cell? ⟨go, i, none⟩ = some (.string (sB (opD i))) ∧ w'.cell? ⟨go, j, none⟩ = some (.string (sB (opD j))) ∧ w'.cell? ⟨gx, 0, none⟩ = some (.int .i64 6) ∧ w'.cell? ⟨gx, 1, none⟩ = some (.int .i64 0) ∧ w'.cell? ⟨gx, 2, none⟩ = some (.string (sB [])) ∧ w'.cell? ⟨gx, 3, none⟩ = some (.string (sB [45])) ∧ w'.cell? ⟨gx, 4, none⟩ = some (.slice (some ⟨W2.heap.size, 0, none⟩) 1 1)) W11.drew := HSK2.out _ (kD.out.mono (fun _ _ q => q.elim))
        have S0z : (fun w' : World => w'.cell? ⟨go, i, none⟩ = some (.string (sB (opD i))) ∧ w'.cell? ⟨go, j, none⟩ = some (.string (sB (opD j))) ∧ w'.cell? ⟨gx, 0, none⟩ = some (.int .i64 6) ∧ w'.cell? ⟨gx, 1, none⟩ = some (.int .i64 0) ∧ w'.cell? ⟨gx, 2, none⟩ = some (.string (sB [])) ∧ w'.cell? ⟨gx, 3, none⟩ = some (.string (sB [45])) ∧ w'.cell? ⟨gx, 4, none⟩ = some (.slice (some ⟨W2.heap.size, 0, none⟩) 1 1)) ((W11.alloc (.cells #[.int .i64 0, .int .i64 0, .string ⟨#[]⟩, .string ⟨#[]⟩, .slice none 0 0] 42)).drew) := HSK2.out _ (kZ.out.mono (fun _ _ q => q.elim))
        apply once
        · intro hrest
          go_region_held3 (fun w' : World => w'.cell? ⟨go, i, none⟩ = some (.string (sB (opD i))) ∧ w'.cell? ⟨go, j, none⟩ = some (.string (sB (opD j))) ∧ w'.cell? ⟨gx, 0, none⟩ = some (.int .i64 6) ∧ w'.cell? ⟨gx, 1, none⟩ = some (.int .i64 0) ∧ w'.cell? ⟨gx, 2, none⟩ = some (.string (sB [])) ∧ w'.cell? ⟨gx, 3, none⟩ = some (.string (sB [45])) ∧ w'.cell? ⟨gx, 4, none⟩ = some (.slice (some ⟨W2.heap.size, 0, none⟩) 1 1)) (first | with_reducible assumption | exact S_f) (first
           | (go_at_call 14
              (with_reducible refine (num_any 2 W11.drew).mono ?_)
              rintro e wn2 ⟨rfl, kn⟩
              have k2 := hide (kD.out.trans kn (fun _ _ q => q))
              have S_wn2 : (fun w' : World => w'.cell? ⟨go, i, none⟩ = some (.string (sB (opD i))) ∧ w'.cell? ⟨go, j, none⟩ = some (.string (sB (opD j))) ∧ w'.cell? ⟨gx, 0, none⟩ = some (.int .i64 6) ∧ w'.cell? ⟨gx, 1, none⟩ = some (.int .i64 0) ∧ w'.cell? ⟨gx, 2, none⟩ = some (.string (sB [])) ∧ w'.cell? ⟨gx, 3, none⟩ = some (.string (sB [45])) ∧ w'.cell? ⟨gx, 4, none⟩ = some (.slice (some ⟨W2.heap.size, 0, none⟩) 1 1)) wn2 := HSK2.out _ (k2.out.mono (fun _ _ q => q.elim))
              have Sz_wn2 : (fun w' : World => w'.cell? ⟨go, i, none⟩ = some (.string (sB (opD i))) ∧ w'.cell? ⟨go, j, none⟩ = some (.string (sB (opD j))) ∧ w'.cell? ⟨gx, 0, none⟩ = some (.int .i64 6) ∧ w'.cell? ⟨gx, 1, none⟩ = some (.int .i64 0) ∧ w'.cell? ⟨gx, 2, none⟩ = some (.string (sB [])) ∧ w'.cell? ⟨gx, 3, none⟩ = some (.string (sB [45])) ∧ w'.cell? ⟨gx, 4, none⟩ = some (.slice (some ⟨W2.heap.size, 0, none⟩) 1 1)) (wn2.alloc (.cells #[.int .i64 0, .int .i64 0, .string ⟨#[]⟩, .string ⟨#[]⟩, .slice none 0 0] 42)) := HSK2.out _ ((k2.out.trans ((Keeps.refl wn2 (fun _ => False)).alloc (.cells #[.int .i64 0, .int .i64 0, .string ⟨#[]⟩, .string ⟨#[]⟩, .slice none 0 0] 42)) (fun _ _ q => q)).mono (fun _ _ q => q.elim))
              clear kn)
           | (go_at_call 14
              (with_reducible refine (num_any 2 ((W11.alloc (.cells #[.int .i64 0, .int .i64 0, .string ⟨#[]⟩, .string ⟨#[]⟩, .slice none 0 0] 42)).drew)).mono ?_)
              rintro e wn2 ⟨rfl, kn⟩
              have k2 := hide (kZ.out.trans kn (fun _ _ q => q))
              have hz0 : X0 wn2 W11.heap.size := (kn.block _ (heap_lt hnZ.out) id).trans hnZ.out
              have hz := hide (And.intro hz0 (And.intro (Nat.le_refl W11.heap.size) (heap_lt hz0)))
              have S_wn2 : (fun w' : World => w'.cell? ⟨go, i, none⟩ = some (.string (sB (opD i))) ∧ w'.cell? ⟨go, j, none⟩ = some (.string (sB (opD j))) ∧ w'.cell? ⟨gx, 0, none⟩ = some (.int .i64 6) ∧ w'.cell? ⟨gx, 1, none⟩ = some (.int .i64 0) ∧ w'.cell? ⟨gx, 2, none⟩ = some (.string (sB [])) ∧ w'.cell? ⟨gx, 3, none⟩ = some (.string (sB [45])) ∧ w'.cell? ⟨gx, 4, none⟩ = some (.slice (some ⟨W2.heap.size, 0, none⟩) 1 1)) wn2 := HSK2.out _ (k2.out.mono (fun _ _ q => q.elim))
              have Sz_wn2 : (fun w' : World => w'.cell? ⟨go, i, none⟩ = some (.string (sB (opD i))) ∧ w'.cell? ⟨go, j, none⟩ = some (.string (sB (opD j))) ∧ w'.cell? ⟨gx, 0, none⟩ = some (.int .i64 6) ∧ w'.cell? ⟨gx, 1, none⟩ = some (.int .i64 0) ∧ w'.cell? ⟨gx, 2, none⟩ = some (.string (sB [])) ∧ w'.cell? ⟨gx, 3, none⟩ = some (.string (sB [45])) ∧ w'.cell? ⟨gx, 4, none⟩ = some (.slice (some ⟨W2.heap.size, 0, none⟩) 1 1)) (wn2.alloc (.cells #[.int .i64 0, .int .i64 0, .string ⟨#[]⟩, .string ⟨#[]⟩, .slice none 0 0] 42)) := HSK2.out _ ((k2.out.trans ((Keeps.refl wn2 (fun _ => False)).alloc (.cells #[.int .i64 0, .int .i64 0, .string ⟨#[]⟩, .string ⟨#[]⟩, .slice none 0 0] 42)) (fun _ _ q => q)).mono (fun _ _ q => q.elim))
              clear kn hz0)
           | (go_at_call 17
              have hz9 := hz.out.2.2
              have hj := (join_any (opD i) (x := oneD true) (y := exNum 2) (Pd := fun k => k ≠ W11.heap.size) wn2 ((HO1.out _ k2.out).mono (fun i hi => by have := k2.out.size; show i ≠ _; omega)) (ExC.mk ArgsV.nil) (fun i hi => by have q : wn2.heap.size ≤ i := hi; (try simp at q); have := hz9; show i ≠ _; omega))
              (with_reducible refine hj.mono ?_)
              clear hj
              rintro e wj1 ⟨g1, rfl, hXj, kn⟩
              have kj := hide ((k2.out).trans kn (fun _ _ q => q))
              have HJ1 : Hid (∀ W', Keeps wj1 W' (fun _ => False) → ExC W' (fun k => k ≠ W11.heap.size) (exBin (opD i) (oneD true) (exNum 2)) [.int .i64 7, .int .i64 0, .string (sB []), .string (sB (opD i)), .slice (some ⟨g1, 0, none⟩) 2 2]) := hide (fun W' k => hXj.keeps k (fun _ _ q => q))
              have hz0 := hz.out.1.keeps kn id
              replace hz := hide (And.intro hz0 (And.intro hz.out.2.1 (heap_lt hz0)))
              have S_wj1 : (fun w' : World => w'.cell? ⟨go, i, none⟩ = some (.string (sB (opD i))) ∧ w'.cell? ⟨go, j, none⟩ = some (.string (sB (opD j))) ∧ w'.cell? ⟨gx, 0, none⟩ = some (.int .i64 6) ∧ w'.cell? ⟨gx, 1, none⟩ = some (.int .i64 0) ∧ w'.cell? ⟨gx, 2, none⟩ = some (.string (sB [])) ∧ w'.cell? ⟨gx, 3, none⟩ = some (.string (sB [45])) ∧ w'.cell? ⟨gx, 4, none⟩ = some (.slice (some ⟨W2.heap.size, 0, none⟩) 1 1)) wj1 := HSK2.out _ (kj.out.mono (fun _ _ q => q.elim))
              have Sz_wj1 : (fun w' : World => w'.cell? ⟨go, i, none⟩ = some (.string (sB (opD i))) ∧ w'.cell? ⟨go, j, none⟩ = some (.string (sB (opD j))) ∧ w'.cell? ⟨gx, 0, none⟩ = some (.int .i64 6) ∧ w'.cell? ⟨gx, 1, none⟩ = some (.int .i64 0) ∧ w'.cell? ⟨gx, 2, none⟩ = some (.string (sB [])) ∧ w'.cell? ⟨gx, 3, none⟩ = some (.string (sB [45])) ∧ w'.cell? ⟨gx, 4, none⟩ = some (.slice (some ⟨W2.heap.size, 0, none⟩) 1 1)) (wj1.alloc (.cells #[.int .i64 0, .int .i64 0, .string ⟨#[]⟩, .string ⟨#[]⟩, .slice none 0 0] 42)) := HSK2.out _ ((kj.out.trans ((Keeps.refl wj1 (fun _ => False)).alloc (.cells #[.int .i64 0, .int .i64 0, .string ⟨#[]⟩, .string ⟨#[]⟩, .slice none 0 0] 42)) (fun _ _ q => q)).mono (fun _ _ q => q.elim))
              clear kn hXj hz0 hz9)
           | (go_at_call 17
              have hj := (join_any (opD i) (x := oneD true) (y := exNum 2) (Pd := fun _ => True) wn2 ((HO1.out _ k2.out).mono (fun _ _ => trivial)) (ExC.mk ArgsV.nil) (fun _ _ => trivial))
              (with_reducible refine hj.mono ?_)
              clear hj
              rintro e wj1 ⟨g1, rfl, hXj, kn⟩
              have kj := hide (k2.out.trans kn (fun _ _ q => q))
              have HJ1 : Hid (∀ W', Keeps wj1 W' (fun _ => False) → ExC W' (fun i => i < wj1.heap.size) (exBin (opD i) (oneD true) (exNum 2)) [.int .i64 7, .int .i64 0, .string (sB []), .string (sB (opD i)), .slice (some ⟨g1, 0, none⟩) 2 2]) := hide (fun W' k => (hXj.under.keeps k (fun _ _ q => q)).mono (fun _ h => h.2))
              have S_wj1 : (fun w' : World => w'.cell? ⟨go, i, none⟩ = some (.string (sB (opD i))) ∧ w'.cell? ⟨go, j, none⟩ = some (.string (sB (opD j))) ∧ w'.cell? ⟨gx, 0, none⟩ = some (.int .i64 6) ∧ w'.cell? ⟨gx, 1, none⟩ = some (.int .i64 0) ∧ w'.cell? ⟨gx, 2, none⟩ = some (.string (sB [])) ∧ w'.cell? ⟨gx, 3, none⟩ = some (.string (sB [45])) ∧ w'.cell? ⟨gx, 4, none⟩ = some (.slice (some ⟨W2.heap.size, 0, none⟩) 1 1)) wj1 := HSK2.out _ (kj.out.mono (fun _ _ q => q.elim))
              have Sz_wj1 : (fun w' : World => w'.cell? ⟨go, i, none⟩ = some (.string (sB (opD i))) ∧ w'.cell? ⟨go, j, none⟩ = some (.string (sB (opD j))) ∧ w'.cell? ⟨gx, 0, none⟩ = some (.int .i64 6) ∧ w'.cell? ⟨gx, 1, none⟩ = some (.int .i64 0) ∧ w'.cell? ⟨gx, 2, none⟩ = some (.string (sB [])) ∧ w'.cell? ⟨gx, 3, none⟩ = some (.string (sB [45])) ∧ w'.cell? ⟨gx, 4, none⟩ = some (.slice (some ⟨W2.heap.size, 0, none⟩) 1 1)) (wj1.alloc (.cells #[.int .i64 0, .int .i64 0, .string ⟨#[]⟩, .string ⟨#[]⟩, .slice none 0 0] 42)) := HSK2.out _ ((kj.out.trans ((Keeps.refl wj1 (fun _ => False)).alloc (.cells #[.int .i64 0, .int .i64 0, .string ⟨#[]⟩, .string ⟨#[]⟩, .slice none 0 0] 42)) (fun _ _ q => q)).mono (fun _ _ q => q.elim))
              clear kn hXj)
           | (go_at_call 17
              have hz9 : True := trivial
              have hj := (join_any (opD i) (x := oneD true) (y := exNum 2) (Pd := fun k => k ≠ wn2.heap.size) (wn2.alloc (.cells #[.int .i64 0, .int .i64 0, .string ⟨#[]⟩, .string ⟨#[]⟩, .slice none 0 0] 42)) ((HO1.out _ (k2.out.trans ((Keeps.refl wn2 (fun _ => False)).alloc (.cells #[.int .i64 0, .int .i64 0, .string ⟨#[]⟩, .string ⟨#[]⟩, .slice none 0 0] 42)) (fun _ _ q => q))).mono (fun i hi => by have := k2.out.size; show i ≠ _; omega)) (ExC.mk ArgsV.nil) (fun i hi => by have q : (wn2.alloc (.cells #[.int .i64 0, .int .i64 0, .string ⟨#[]⟩, .string ⟨#[]⟩, .slice none 0 0] 42)).heap.size ≤ i := hi; (try simp at q); have := hz9; show i ≠ _; omega))
              (with_reducible refine hj.mono ?_)
              clear hj
              rintro e wj1 ⟨g1, rfl, hXj, kn⟩
              have kj := hide (((k2.out.trans ((Keeps.refl wn2 (fun _ => False)).alloc (.cells #[.int .i64 0, .int .i64 0, .string ⟨#[]⟩, .string ⟨#[]⟩, .slice none 0 0] 42)) (fun _ _ q => q))).trans kn (fun _ _ q => q))
              have HJ1 : Hid (∀ W', Keeps wj1 W' (fun _ => False) → ExC W' (fun k => k ≠ wn2.heap.size) (exBin (opD i) (oneD true) (exNum 2)) [.int .i64 7, .int .i64 0, .string (sB []), .string (sB (opD i)), .slice (some ⟨g1, 0, none⟩) 2 2]) := hide (fun W' k => hXj.keeps k (fun _ _ q => q))
              have hz0 : X0 wj1 wn2.heap.size := (kn.block _ (heap_lt (heap_alloc_new wn2 (.cells #[.int .i64 0, .int .i64 0, .string ⟨#[]⟩, .string ⟨#[]⟩, .slice none 0 0] 42))) id).trans (heap_alloc_new wn2 (.cells #[.int .i64 0, .int .i64 0, .string ⟨#[]⟩, .string ⟨#[]⟩, .slice none 0 0] 42))
              have hz := hide (And.intro hz0 (And.intro k2.out.size (heap_lt hz0)))
              have S_wj1 : (fun w' : World => w'.cell? ⟨go, i, none⟩ = some (.string (sB (opD i))) ∧ w'.cell? ⟨go, j, none⟩ = some (.string (sB (opD j))) ∧ w'.cell? ⟨gx, 0, none⟩ = some (.int .i64 6) ∧ w'.cell? ⟨gx, 1, none⟩ = some (.int .i64 0) ∧ w'.cell? ⟨gx, 2, none⟩ = some (.string (sB [])) ∧ w'.cell? ⟨gx, 3, none⟩ = some (.string (sB [45])) ∧ w'.cell? ⟨gx, 4, none⟩ = some (.slice (some ⟨W2.heap.size, 0, none⟩) 1 1)) wj1 := HSK2.out _ (kj.out.mono (fun _ _ q => q.elim))
              have Sz_wj1 : (fun w' : World => w'.cell? ⟨go, i, none⟩ = some (.string (sB (opD i))) ∧ w'.cell? ⟨go, j, none⟩ = some (.string (sB (opD j))) ∧ w'.cell? ⟨gx, 0, none⟩ = some (.int .i64 6) ∧ w'.cell? ⟨gx, 1, none⟩ = some (.int .i64 0) ∧ w'.cell? ⟨gx, 2, none⟩ = some (.string (sB [])) ∧ w'.cell? ⟨gx, 3, none⟩ = some (.string (sB [45])) ∧ w'.cell? ⟨gx, 4, none⟩ = some (.slice (some ⟨W2.heap.size, 0, none⟩) 1 1)) (wj1.alloc (.cells #[.int .i64 0, .int .i64 0, .string ⟨#[]⟩, .string ⟨#[]⟩, .slice none 0 0] 42)) := HSK2.out _ ((kj.out.trans ((Keeps.refl wj1 (fun _ => False)).alloc (.cells #[.int .i64 0, .int .i64 0, .string ⟨#[]⟩, .string ⟨#[]⟩, .slice none 0 0] 42)) (fun _ _ q => q)).mono (fun _ _ q => q.elim))
              clear kn hXj hz0 hz9)
           | (go_at_call 14
              have hz9 := hz.out.1
              (with_reducible refine (num_any 3 wj1).mono ?_)
              rintro e wn3 ⟨rfl, kn⟩
              have k3 := hide (kj.out.trans kn (fun _ _ q => q))
              have hj3 := kn.size
              have HJ3 := hide (fun W' (k : Keeps wn3 W' (fun _ => False)) => HJ1.out W' (kn.trans k (fun _ _ q => q)))
              have hz0 := hz9.keeps kn id
              replace hz := hide (And.intro hz0 (And.intro hz.out.2.1 (heap_lt hz0)))
              have S_wn3 : (fun w' : World => w'.cell? ⟨go, i, none⟩ = some (.string (sB (opD i))) ∧ w'.cell? ⟨go, j, none⟩ = some (.string (sB (opD j))) ∧ w'.cell? ⟨gx, 0, none⟩ = some (.int .i64 6) ∧ w'.cell? ⟨gx, 1, none⟩ = some (.int .i64 0) ∧ w'.cell? ⟨gx, 2, none⟩ = some (.string (sB [])) ∧ w'.cell? ⟨gx, 3, none⟩ = some (.string (sB [45])) ∧ w'.cell? ⟨gx, 4, none⟩ = some (.slice (some ⟨W2.heap.size, 0, none⟩) 1 1)) wn3 := HSK2.out _ (k3.out.mono (fun _ _ q => q.elim))
              have Sz_wn3 : (fun w' : World => w'.cell? ⟨go, i, none⟩ = some (.string (sB (opD i))) ∧ w'.cell? ⟨go, j, none⟩ = some (.string (sB (opD j))) ∧ w'.cell? ⟨gx, 0, none⟩ = some (.int .i64 6) ∧ w'.cell? ⟨gx, 1, none⟩ = some (.int .i64 0) ∧ w'.cell? ⟨gx, 2, none⟩ = some (.string (sB [])) ∧ w'.cell? ⟨gx, 3, none⟩ = some (.string (sB [45])) ∧ w'.cell? ⟨gx, 4, none⟩ = some (.slice (some ⟨W2.heap.size, 0, none⟩) 1 1)) (wn3.alloc (.cells #[.int .i64 0, .int .i64 0, .string ⟨#[]⟩, .string ⟨#[]⟩, .slice none 0 0] 42)) := HSK2.out _ ((k3.out.trans ((Keeps.refl wn3 (fun _ => False)).alloc (.cells #[.int .i64 0, .int .i64 0, .string ⟨#[]⟩, .string ⟨#[]⟩, .slice none 0 0] 42)) (fun _ _ q => q)).mono (fun _ _ q => q.elim))
              clear kn hz0 hz9)
           | (go_at_call 14
              (with_reducible refine (num_any 3 wj1).mono ?_)
              rintro e wn3 ⟨rfl, kn⟩
              have k3 := hide (kj.out.trans kn (fun _ _ q => q))
              have hj3 := kn.size
              have HJ3 := hide (fun W' (k : Keeps wn3 W' (fun _ => False)) => HJ1.out W' (kn.trans k (fun _ _ q => q)))
              have S_wn3 : (fun w' : World => w'.cell? ⟨go, i, none⟩ = some (.string (sB (opD i))) ∧ w'.cell? ⟨go, j, none⟩ = some (.string (sB (opD j))) ∧ w'.cell? ⟨gx, 0, none⟩ = some (.int .i64 6) ∧ w'.cell? ⟨gx, 1, none⟩ = some (.int .i64 0) ∧ w'.cell? ⟨gx, 2, none⟩ = some (.string (sB [])) ∧ w'.cell? ⟨gx, 3, none⟩ = some (.string (sB [45])) ∧ w'.cell? ⟨gx, 4, none⟩ = some (.slice (some ⟨W2.heap.size, 0, none⟩) 1 1)) wn3 := HSK2.out _ (k3.out.mono (fun _ _ q => q.elim))
              have Sz_wn3 : (fun w' : World => w'.cell? ⟨go, i, none⟩ = some (.string (sB (opD i))) ∧ w'.cell? ⟨go, j, none⟩ = some (.string (sB (opD j))) ∧ w'.cell? ⟨gx, 0, none⟩ = some (.int .i64 6) ∧ w'.cell? ⟨gx, 1, none⟩ = some (.int .i64 0) ∧ w'.cell? ⟨gx, 2, none⟩ = some (.string (sB [])) ∧ w'.cell? ⟨gx, 3, none⟩ = some (.string (sB [45])) ∧ w'.cell? ⟨gx, 4, none⟩ = some (.slice (some ⟨W2.heap.size, 0, none⟩) 1 1)) (wn3.alloc (.cells #[.int .i64 0, .int .i64 0, .string ⟨#[]⟩, .string ⟨#[]⟩, .slice none 0 0] 42)) := HSK2.out _ ((k3.out.trans ((Keeps.refl wn3 (fun _ => False)).alloc (.cells #[.int .i64 0, .int .i64 0, .string ⟨#[]⟩, .string ⟨#[]⟩, .slice none 0 0] 42)) (fun _ _ q => q)).mono (fun _ _ q => q.elim))
              clear kn)
           | (go_at_call 14
              (with_reducible refine (num_any 3 (wj1.alloc (.cells #[.int .i64 0, .int .i64 0, .string ⟨#[]⟩, .string ⟨#[]⟩, .slice none 0 0] 42))).mono ?_)
              rintro e wn3 ⟨rfl, kn⟩
              have kAl := (Keeps.refl wj1 (fun _ => False)).alloc (.cells #[.int .i64 0, .int .i64 0, .string ⟨#[]⟩, .string ⟨#[]⟩, .slice none 0 0] 42)
              have k3 := hide ((kj.out.trans kAl (fun _ _ q => q)).trans kn (fun _ _ q => q))
              have hj3 := (kAl.trans kn (fun _ _ q => q)).size
              have HJ3 : Hid (∀ W', Keeps wn3 W' (fun _ => False) → ExC W' (fun k => k ≠ wj1.heap.size) (exBin (opD i) (oneD true) (exNum 2)) [.int .i64 7, .int .i64 0, .string (sB []), .string (sB (opD i)), .slice (some ⟨g1, 0, none⟩) 2 2]) := hide (fun W' k => (HJ1.out W' ((kAl.trans kn (fun _ _ q => q)).trans k (fun _ _ q => q))).mono (fun i hi => Nat.ne_of_lt hi))
              have hz0 : X0 wn3 wj1.heap.size := (kn.block _ (heap_lt (heap_alloc_new wj1 (.cells #[.int .i64 0, .int .i64 0, .string ⟨#[]⟩, .string ⟨#[]⟩, .slice none 0 0] 42))) id).trans (heap_alloc_new wj1 (.cells #[.int .i64 0, .int .i64 0, .string ⟨#[]⟩, .string ⟨#[]⟩, .slice none 0 0] 42))
              have hz := hide (And.intro hz0 (And.intro kj.out.size (heap_lt hz0)))
              have S_wn3 : (fun w' : World => w'.cell? ⟨go, i, none⟩ = some (.string (sB (opD i))) ∧ w'.cell? ⟨go, j, none⟩ = some (.string (sB (opD j))) ∧ w'.cell? ⟨gx, 0, none⟩ = some (.int .i64 6) ∧ w'.cell? ⟨gx, 1, none⟩ = some (.int .i64 0) ∧ w'.cell? ⟨gx, 2, none⟩ = some (.string (sB [])) ∧ w'.cell? ⟨gx, 3, none⟩ = some (.string (sB [45])) ∧ w'.cell? ⟨gx, 4, none⟩ = some (.slice (some ⟨W2.heap.size, 0, none⟩) 1 1)) wn3 := HSK2.out _ (k3.out.mono (fun _ _ q => q.elim))
              have Sz_wn3 : (fun w' : World => w'.cell? ⟨go, i, none⟩ = some (.string (sB (opD i))) ∧ w'.cell? ⟨go, j, none⟩ = some (.string (sB (opD j))) ∧ w'.cell? ⟨gx, 0, none⟩ = some (.int .i64 6) ∧ w'.cell? ⟨gx, 1, none⟩ = some (.int .i64 0) ∧ w'.cell? ⟨gx, 2, none⟩ = some (.string (sB [])) ∧ w'.cell? ⟨gx, 3, none⟩ = some (.string (sB [45])) ∧ w'.cell? ⟨gx, 4, none⟩ = some (.slice (some ⟨W2.heap.size, 0, none⟩) 1 1)) (wn3.alloc (.cells #[.int .i64 0, .int .i64 0, .string ⟨#[]⟩, .string ⟨#[]⟩, .slice none 0 0] 42)) := HSK2.out _ ((k3.out.trans ((Keeps.refl wn3 (fun _ => False)).alloc (.cells #[.int .i64 0, .int .i64 0, .string ⟨#[]⟩, .string ⟨#[]⟩, .slice none 0 0] 42)) (fun _ _ q => q)).mono (fun _ _ q => q.elim))
              clear kn hz0 kAl)
           | (go_at_call 17
              have hz9 := hz.out
              have hj := (join_any (opD j) (x := (exBin (opD i) (oneD true) (exNum 2))) (y := exNum 3) wn3 (HJ3.out _ (Keeps.refl _ _)) (ExC.mk ArgsV.nil) (fun i hi q => by have h9 := hz9.2.2; have q2 : _ ≤ i := hi; omega))
              (with_reducible refine hj.mono ?_)
              clear hj
              rintro e wj2 ⟨g2, rfl, hXj, kn⟩
              have k4 := hide (k3.out.trans kn (fun _ _ q => q))
              have HJ2 := hide hXj
              have hz0 := hz9.1.keeps kn id
              replace hz := hide (And.intro hz0 (And.intro hz9.2.1 (heap_lt hz0)))
              have S_wj2 : (fun w' : World => w'.cell? ⟨go, i, none⟩ = some (.string (sB (opD i))) ∧ w'.cell? ⟨go, j, none⟩ = some (.string (sB (opD j))) ∧ w'.cell? ⟨gx, 0, none⟩ = some (.int .i64 6) ∧ w'.cell? ⟨gx, 1, none⟩ = some (.int .i64 0) ∧ w'.cell? ⟨gx, 2, none⟩ = some (.string (sB [])) ∧ w'.cell? ⟨gx, 3, none⟩ = some (.string (sB [45])) ∧ w'.cell? ⟨gx, 4, none⟩ = some (.slice (some ⟨W2.heap.size, 0, none⟩) 1 1)) wj2 := HSK2.out _ (k4.out.mono (fun _ _ q => q.elim))
              have Sz_wj2 : (fun w' : World => w'.cell? ⟨go, i, none⟩ = some (.string (sB (opD i))) ∧ w'.cell? ⟨go, j, none⟩ = some (.string (sB (opD j))) ∧ w'.cell? ⟨gx, 0, none⟩ = some (.int .i64 6) ∧ w'.cell? ⟨gx, 1, none⟩ = some (.int .i64 0) ∧ w'.cell? ⟨gx, 2, none⟩ = some (.string (sB [])) ∧ w'.cell? ⟨gx, 3, none⟩ = some (.string (sB [45])) ∧ w'.cell? ⟨gx, 4, none⟩ = some (.slice (some ⟨W2.heap.size, 0, none⟩) 1 1)) (wj2.alloc (.cells #[.int .i64 0, .int .i64 0, .string ⟨#[]⟩, .string ⟨#[]⟩, .slice none 0 0] 42)) := HSK2.out _ ((k4.out.trans ((Keeps.refl wj2 (fun _ => False)).alloc (.cells #[.int .i64 0, .int .i64 0, .string ⟨#[]⟩, .string ⟨#[]⟩, .slice none 0 0] 42)) (fun _ _ q => q)).mono (fun _ _ q => q.elim))
              obtain ⟨⟨z0, z1, z2, z3, z4⟩, y0, y1, y2, y3, y4⟩ := hz.out.1.cells
              have hge := hz.out.2.1
              have S_f := HSK2.out _ ((((((k4.out.mono (fun _ _ q => q.elim) : Keeps W11 wj2 (fun k => W11.heap.size ≤ k)).setCell ⟨_, 0, none⟩ (fun _ => hge) (.int .i64 7)).setCell ⟨_, 1, none⟩ (fun _ => hge) (.int .i64 0)).setCell ⟨_, 2, none⟩ (fun _ => hge) (.string (sB []))).setCell ⟨_, 3, none⟩ (fun _ => hge) (.string (sB (opD j)))).setCell ⟨_, 4, none⟩ (fun _ => hge) (.slice (some ⟨g2, 0, none⟩) 2 2))
              clear kn hXj hz0 hge hz9)
           | (go_at_call 17
              have hj := (join_any (opD j) (x := (exBin (opD i) (oneD true) (exNum 2))) (y := exNum 3) (Pd := fun _ => True) wn3 ((HJ3.out _ (Keeps.refl _ _)).mono (fun _ _ => trivial)) (ExC.mk ArgsV.nil) (fun _ _ => trivial))
              (with_reducible refine hj.mono ?_)
              clear hj
              rintro e wj2 ⟨g2, rfl, hXj, kn⟩
              have k4 := hide (k3.out.trans kn (fun _ _ q => q))
              have HJ2 := hide hXj.under
              have Sv : (fun w' : World => w'.cell? ⟨go, i, none⟩ = some (.string (sB (opD i))) ∧ w'.cell? ⟨go, j, none⟩ = some (.string (sB (opD j))) ∧ w'.cell? ⟨gx, 0, none⟩ = some (.int .i64 6) ∧ w'.cell? ⟨gx, 1, none⟩ = some (.int .i64 0) ∧ w'.cell? ⟨gx, 2, none⟩ = some (.string (sB [])) ∧ w'.cell? ⟨gx, 3, none⟩ = some (.string (sB [45])) ∧ w'.cell? ⟨gx, 4, none⟩ = some (.slice (some ⟨W2.heap.size, 0, none⟩) 1 1)) (wj2.alloc (.cells #[.int .i64 7, .int .i64 0, .string (sB []), .string (sB (opD j)), .slice (some ⟨g2, 0, none⟩) 2 2] 42)) := HSK2.out _ ((k4.out.trans ((Keeps.refl wj2 (fun _ => False)).alloc _) (fun _ _ q => q)).mono (fun _ _ q => q.elim))
              have S_wj2 : (fun w' : World => w'.cell? ⟨go, i, none⟩ = some (.string (sB (opD i))) ∧ w'.cell? ⟨go, j, none⟩ = some (.string (sB (opD j))) ∧ w'.cell? ⟨gx, 0, none⟩ = some (.int .i64 6) ∧ w'.cell? ⟨gx, 1, none⟩ = some (.int .i64 0) ∧ w'.cell? ⟨gx, 2, none⟩ = some (.string (sB [])) ∧ w'.cell? ⟨gx, 3, none⟩ = some (.string (sB [45])) ∧ w'.cell? ⟨gx, 4, none⟩ = some (.slice (some ⟨W2.heap.size, 0, none⟩) 1 1)) wj2 := HSK2.out _ (k4.out.mono (fun _ _ q => q.elim))
              have Sz_wj2 : (fun w' : World => w'.cell? ⟨go, i, none⟩ = some (.string (sB (opD i))) ∧ w'.cell? ⟨go, j, none⟩ = some (.string (sB (opD j))) ∧ w'.cell? ⟨gx, 0, none⟩ = some (.int .i64 6) ∧ w'.cell? ⟨gx, 1, none⟩ = some (.int .i64 0) ∧ w'.cell? ⟨gx, 2, none⟩ = some (.string (sB [])) ∧ w'.cell? ⟨gx, 3, none⟩ = some (.string (sB [45])) ∧ w'.cell? ⟨gx, 4, none⟩ = some (.slice (some ⟨W2.heap.size, 0, none⟩) 1 1)) (wj2.alloc (.cells #[.int .i64 0, .int .i64 0, .string ⟨#[]⟩, .string ⟨#[]⟩, .slice none 0 0] 42)) := HSK2.out _ ((k4.out.trans ((Keeps.refl wj2 (fun _ => False)).alloc (.cells #[.int .i64 0, .int .i64 0, .string ⟨#[]⟩, .string ⟨#[]⟩, .slice none 0 0] 42)) (fun _ _ q => q)).mono (fun _ _ q => q.elim))
              clear kn hXj)
           | (go_at_call 17
              have hj := (join_any (opD j) (x := (exBin (opD i) (oneD true) (exNum 2))) (y := exNum 3) (Pd := fun k => k ≠ wn3.heap.size) (wn3.alloc (.cells #[.int .i64 0, .int .i64 0, .string ⟨#[]⟩, .string ⟨#[]⟩, .slice none 0 0] 42)) ((HJ3.out _ ((Keeps.refl wn3 (fun _ => False)).alloc (.cells #[.int .i64 0, .int .i64 0, .string ⟨#[]⟩, .string ⟨#[]⟩, .slice none 0 0] 42))).mono (fun i hi => by have q : i < wj1.heap.size := hi; show i ≠ _; omega)) (ExC.mk ArgsV.nil) (fun i hi => by have q : (wn3.alloc (.cells #[.int .i64 0, .int .i64 0, .string ⟨#[]⟩, .string ⟨#[]⟩, .slice none 0 0] 42)).heap.size ≤ i := hi; simp at q; show i ≠ _; omega))
              (with_reducible refine hj.mono ?_)
              clear hj
              rintro e wj2 ⟨g2, rfl, hXj, kn⟩
              have kAl := (Keeps.refl wn3 (fun _ => False)).alloc (.cells #[.int .i64 0, .int .i64 0, .string ⟨#[]⟩, .string ⟨#[]⟩, .slice none 0 0] 42)
              have k4 := hide ((k3.out.trans kAl (fun _ _ q => q)).trans kn (fun _ _ q => q))
              have HJ2 := hide hXj
              have hz0 : X0 wj2 wn3.heap.size := (kn.block _ (heap_lt (heap_alloc_new wn3 (.cells #[.int .i64 0, .int .i64 0, .string ⟨#[]⟩, .string ⟨#[]⟩, .slice none 0 0] 42))) id).trans (heap_alloc_new wn3 (.cells #[.int .i64 0, .int .i64 0, .string ⟨#[]⟩, .string ⟨#[]⟩, .slice none 0 0] 42))
              have hz := hide (And.intro hz0 (And.intro k3.out.size (heap_lt hz0)))
              have S_wj2 : (fun w' : World => w'.cell? ⟨go, i, none⟩ = some (.string (sB (opD i))) ∧ w'.cell? ⟨go, j, none⟩ = some (.string (sB (opD j))) ∧ w'.cell? ⟨gx, 0, none⟩ = some (.int .i64 6) ∧ w'.cell? ⟨gx, 1, none⟩ = some (.int .i64 0) ∧ w'.cell? ⟨gx, 2, none⟩ = some (.string (sB [])) ∧ w'.cell? ⟨gx, 3, none⟩ = some (.string (sB [45])) ∧ w'.cell? ⟨gx, 4, none⟩ = some (.slice (some ⟨W2.heap.size, 0, none⟩) 1 1)) wj2 := HSK2.out _ (k4.out.mono (fun _ _ q => q.elim))
              have Sz_wj2 : (fun w' : World => w'.cell? ⟨go, i, none⟩ = some (.string (sB (opD i))) ∧ w'.cell? ⟨go, j, none⟩ = some (.string (sB (opD j))) ∧ w'.cell? ⟨gx, 0, none⟩ = some (.int .i64 6) ∧ w'.cell? ⟨gx, 1, none⟩ = some (.int .i64 0) ∧ w'.cell? ⟨gx, 2, none⟩ = some (.string (sB [])) ∧ w'.cell? ⟨gx, 3, none⟩ = some (.string (sB [45])) ∧ w'.cell? ⟨gx, 4, none⟩ = some (.slice (some ⟨W2.heap.size, 0, none⟩) 1 1)) (wj2.alloc (.cells #[.int .i64 0, .int .i64 0, .string ⟨#[]⟩, .string ⟨#[]⟩, .slice none 0 0] 42)) := HSK2.out _ ((k4.out.trans ((Keeps.refl wj2 (fun _ => False)).alloc (.cells #[.int .i64 0, .int .i64 0, .string ⟨#[]⟩, .string ⟨#[]⟩, .slice none 0 0] 42)) (fun _ _ q => q)).mono (fun _ _ q => q.elim))
              obtain ⟨⟨z0, z1, z2, z3, z4⟩, y0, y1, y2, y3, y4⟩ := hz.out.1.cells
              have hge := hz.out.2.1
              have S_f := HSK2.out _ ((((((k4.out.mono (fun _ _ q => q.elim) : Keeps W11 wj2 (fun k => W11.heap.size ≤ k)).setCell ⟨_, 0, none⟩ (fun _ => hge) (.int .i64 7)).setCell ⟨_, 1, none⟩ (fun _ => hge) (.int .i64 0)).setCell ⟨_, 2, none⟩ (fun _ => hge) (.string (sB []))).setCell ⟨_, 3, none⟩ (fun _ => hge) (.string (sB (opD j)))).setCell ⟨_, 4, none⟩ (fun _ => hge) (.slice (some ⟨g2, 0, none⟩) 2 2))
              clear kn hXj hz0 hge kAl))
          · rename_i hh
            clear hh
            refine alloc1 (P := fun W => _) fun W12 h12 hz12 k12 => ?_
            have HM : Hid (Tm W11 W12 wj2.heap.size g2 j (exBin (opD j) (exBin (opD i) (oneD true) (exNum 2)) (exNum 3))) := hide ⟨k4.out.trans k12 (fun _ _ q => q), h12, (HJ2.out.keeps k12 (fun _ _ q => q)).mono (fun i hi => Nat.ne_of_lt hi.2), k4.out.size⟩
            clear h12 hz12 k12 HJ1 HJ3 HJ2 Sv
            revert HM
            generalize wj2.heap.size = gw
            revert gw
            revert W12
            revert g2
            revert g1
            exact hrest.out
          · rename_i hh
            clear hh S_f
            refine set5 (P := fun W => _) hz.out.1 fun W12 h12 k12 => ?_
            have HM : Hid (Tm W11 W12 wn3.heap.size g2 j (exBin (opD j) (exBin (opD i) (oneD true) (exNum 2)) (exNum 3))) := hide ⟨k4.out.trans k12 (fun i hi q => by have := hz.out.2.1; omega), h12, HJ2.out.keeps k12 (fun i hi => hi), hz.out.2.1⟩
            clear h12 k12 HJ1 HJ3 HJ2 z0 z1 z2 z3 z4 y0 y1 y2 y3 y4
            revert HM
            generalize wn3.heap.size = gw
            revert gw
            revert W12
            revert g2
            revert g1
            exact hrest.out
          · rename_i hh
            clear hh S_f
            refine set5 (P := fun W => _) hz.out.1 fun W12 h12 k12 => ?_
            have HM : Hid (Tm W11 W12 wj1.heap.size g2 j (exBin (opD j) (exBin (opD i) (oneD true) (exNum 2)) (exNum 3))) := hide ⟨k4.out.trans k12 (fun i hi q => by have := hz.out.2.1; omega), h12, HJ2.out.keeps k12 (fun i hi => hi), hz.out.2.1⟩
            clear h12 k12 HJ1 HJ3 HJ2 z0 z1 z2 z3 z4 y0 y1 y2 y3 y4
            revert HM
            generalize wj1.heap.size = gw
            revert gw
            revert W12
            revert g2
            revert g1
            exact hrest.out
          · rename_i hh
            clear hh S_f
            refine set5 (P := fun W => _) hz.out.1 fun W12 h12 k12 => ?_
            have HM : Hid (Tm W11 W12 wn2.heap.size g2 j (exBin (opD j) (exBin (opD i) (oneD true) (exNum 2)) (exNum 3))) := hide ⟨k4.out.trans k12 (fun i hi q => by have := hz.out.2.1; omega), h12, HJ2.out.keeps k12 (fun i hi => hi), hz.out.2.1⟩
            clear h12 k12 HJ1 HJ3 HJ2 z0 z1 z2 z3 z4 y0 y1 y2 y3 y4
            revert HM
            generalize wn2.heap.size = gw
            revert gw
            revert W12
            revert g2
            revert g1
            exact hrest.out
          · rename_i hh
            clear hh S_f
            refine set5 (P := fun W => _) hz.out.1 fun W12 h12 k12 => ?_
            have HM : Hid (Tm W11 W12 W11.heap.size g2 j (exBin (opD j) (exBin (opD i) (oneD true) (exNum 2)) (exNum 3))) := hide ⟨k4.out.trans k12 (fun i hi q => by have := hz.out.2.1; omega), h12, HJ2.out.keeps k12 (fun i hi => hi), hz.out.2.1⟩
            clear h12 k12 HJ1 HJ3 HJ2 z0 z1 z2 z3 z4 y0 y1 y2 y3 y4
            revert HM
            generalize W11.heap.size = gw
            revert gw
            revert W12
            revert g2
            revert g1
            exact hrest.out
        clear S0 S0z hnZ kD kZ HSK2 HO1
        intro g1 g2 W12 gw HM
        go_upto_region 13 with fail
        have q1 := heap_lt HF.out.row
        have q2 := heap_lt HF.out.one
        have q3 := HM.out.ge
        have HSK3 : Hid (∀ W' : World, Keeps W12 W' (fun k => k = gw) → (fun w' : World => w'.cell? ⟨go, i, none⟩ = some (.string (sB (opD i))) ∧ w'.cell? ⟨go, j, none⟩ = some (.string (sB (opD j))) ∧ w'.cell? ⟨gx, 0, none⟩ = some (.int .i64 6) ∧ w'.cell? ⟨gx, 1, none⟩ = some (.int .i64 0) ∧ w'.cell? ⟨gx, 2, none⟩ = some (.string (sB [])) ∧ w'.cell? ⟨gx, 3, none⟩ = some (.string (sB [45])) ∧ w'.cell? ⟨gx, 4, none⟩ = some (.slice (some ⟨W2.heap.size, 0, none⟩) 1 1)) W') := hide (fun W' k => by
          have kk := HM.out.kp
          have e1 := (k.block _ (heap_lt (kblk kk HF.out.row)) (fun q => by omega)).trans (kblk kk HF.out.row)
          have e2 : Xc W' gx _ _ _ _ _ := (k.block _ (heap_lt (kblk kk HF.out.one)) (fun q => by omega)).trans (kblk kk HF.out.one)
          exact ⟨row_at e1 i HIJ.out.1, row_at e1 j HIJ.out.2, e2.cells.1⟩)
        have kD := hide ((Keeps.refl W12 (fun _ => False)).drew)
        have S0 : (fun w' : World => w'.cell? ⟨go, i, none⟩ = some (.string (sB (opD i))) ∧ w'.cell? ⟨go, j, none⟩ = some (.string (sB (opD j)))) W12.drew := ⟨(HSK3.out _ (kD.out.mono (fun _ _ q => q.elim))).1, (HSK3.out _ (kD.out.mono (fun _ _ q => q.elim))).2.1⟩
        by_cases hlt : strD i < strD j
        · have hlt' : (strD i : Int) < (strD j : Int) := by omega
          go_region_held3 (fun w' : World => w'.cell? ⟨go, i, none⟩ = some (.string (sB (opD i))) ∧ w'.cell? ⟨go, j, none⟩ = some (.string (sB (opD j)))) (with_reducible assumption) (first
           | (go_at_call 16
              (with_reducible refine (strength_any i HIJ.out.1 _).mono ?_)
              rintro e wx ⟨rfl, rfl⟩)
           | (go_at_call 16
              (with_reducible refine (strength_any j HIJ.out.2 _).mono ?_)
              rintro e wx ⟨rfl, rfl⟩))
          have hw : wantD i j true = exBin (opD i) (oneD true) (exBin (opD j) (exNum 2) (exNum 3)) := by unfold wantD; rw [if_pos hlt]
          clear S0 hlt'
          go_upto_region 14 with fail
          have HO2 : Hid (∀ W', Keeps W12 W' (fun _ => False) → ExC W' (fun k => k ≠ gw) (oneD true) [.int .i64 6, .int .i64 0, .string (sB []), .string (sB [45]), .slice (some ⟨W2.heap.size, 0, none⟩) 1 1]) := hide (fun W' k => (HF.out.oneE.under.keeps (HM.out.kp.trans k (fun _ _ q => q)) (fun _ _ q => q)).mono (fun i hi => by have := hi.2; show i ≠ _; omega))
          have hg12 := heap_lt HM.out.box
          have k2D := hide (kD.out.drew)
          have S0 : (fun w' : World => w'.cell? ⟨go, i, none⟩ = some (.string (sB (opD i))) ∧ w'.cell? ⟨go, j, none⟩ = some (.string (sB (opD j))) ∧ w'.cell? ⟨gx, 0, none⟩ = some (.int .i64 6) ∧ w'.cell? ⟨gx, 1, none⟩ = some (.int .i64 0) ∧ w'.cell? ⟨gx, 2, none⟩ = some (.string (sB [])) ∧ w'.cell? ⟨gx, 3, none⟩ = some (.string (sB [45])) ∧ w'.cell? ⟨gx, 4, none⟩ = some (.slice (some ⟨W2.heap.size, 0, none⟩) 1 1)) W12.drew.drew := HSK3.out _ (k2D.out.mono (fun _ _ q => q.elim))
          go_region_held3 (fun w' : World => w'.cell? ⟨go, i, none⟩ = some (.string (sB (opD i))) ∧ w'.cell? ⟨go, j, none⟩ = some (.string (sB (opD j))) ∧ w'.cell? ⟨gx, 0, none⟩ = some (.int .i64 6) ∧ w'.cell? ⟨gx, 1, none⟩ = some (.int .i64 0) ∧ w'.cell? ⟨gx, 2, none⟩ = some (.string (sB [])) ∧ w'.cell? ⟨gx, 3, none⟩ = some (.string (sB [45])) ∧ w'.cell? ⟨gx, 4, none⟩ = some (.slice (some ⟨W2.heap.size, 0, none⟩) 1 1)) (first | with_reducible assumption | exact S_f) (first
           | (go_at_call 14
              (with_reducible refine (num_any 2 W12.drew.drew).mono ?_)
              rintro e wm2 ⟨rfl, kn⟩
              have k2 := hide (k2D.out.trans kn (fun _ _ q => q))
              have S_2 : (fun w' : World => w'.cell? ⟨go, i, none⟩ = some (.string (sB (opD i))) ∧ w'.cell? ⟨go, j, none⟩ = some (.string (sB (opD j))) ∧ w'.cell? ⟨gx, 0, none⟩ = some (.int .i64 6) ∧ w'.cell? ⟨gx, 1, none⟩ = some (.int .i64 0) ∧ w'.cell? ⟨gx, 2, none⟩ = some (.string (sB [])) ∧ w'.cell? ⟨gx, 3, none⟩ = some (.string (sB [45])) ∧ w'.cell? ⟨gx, 4, none⟩ = some (.slice (some ⟨W2.heap.size, 0, none⟩) 1 1)) wm2 := HSK3.out _ (k2.out.mono (fun _ _ q => q.elim))
              clear kn)
           | (go_at_call 14
              (with_reducible refine (num_any 3 wm2).mono ?_)
              rintro e wm3 ⟨rfl, kn⟩
              have k3 := hide (k2.out.trans kn (fun _ _ q => q))
              have S_3 : (fun w' : World => w'.cell? ⟨go, i, none⟩ = some (.string (sB (opD i))) ∧ w'.cell? ⟨go, j, none⟩ = some (.string (sB (opD j))) ∧ w'.cell? ⟨gx, 0, none⟩ = some (.int .i64 6) ∧ w'.cell? ⟨gx, 1, none⟩ = some (.int .i64 0) ∧ w'.cell? ⟨gx, 2, none⟩ = some (.string (sB [])) ∧ w'.cell? ⟨gx, 3, none⟩ = some (.string (sB [45])) ∧ w'.cell? ⟨gx, 4, none⟩ = some (.slice (some ⟨W2.heap.size, 0, none⟩) 1 1)) wm3 := HSK3.out _ (k3.out.mono (fun _ _ q => q.elim))
              clear kn)
           | (go_at_call 17
              have hj := (join_any (opD j) (x := exNum 2) (y := exNum 3) (Pd := fun k => k ≠ gw) wm3 (ExC.mk ArgsV.nil) (ExC.mk ArgsV.nil) (fun i hi => by have := k3.out.size; have q : _ ≤ i := hi; show i ≠ _; omega))
              (with_reducible refine hj.mono ?_)
              clear hj
              rintro e wj3 ⟨g3, rfl, hXj, kn⟩
              have k4 := hide (k3.out.trans kn (fun _ _ q => q))
              have HJ3 := hide hXj
              have S_4 : (fun w' : World => w'.cell? ⟨go, i, none⟩ = some (.string (sB (opD i))) ∧ w'.cell? ⟨go, j, none⟩ = some (.string (sB (opD j))) ∧ w'.cell? ⟨gx, 0, none⟩ = some (.int .i64 6) ∧ w'.cell? ⟨gx, 1, none⟩ = some (.int .i64 0) ∧ w'.cell? ⟨gx, 2, none⟩ = some (.string (sB [])) ∧ w'.cell? ⟨gx, 3, none⟩ = some (.string (sB [45])) ∧ w'.cell? ⟨gx, 4, none⟩ = some (.slice (some ⟨W2.heap.size, 0, none⟩) 1 1)) wj3 := HSK3.out _ (k4.out.mono (fun _ _ q => q.elim))
              clear kn hXj)
           | (go_at_call 17
              have hj := (join_any (opD i) (x := oneD true) (y := exBin (opD j) (exNum 2) (exNum 3)) wj3 (HO2.out _ k4.out) HJ3.out (fun i hi => by have := k4.out.size; have q : _ ≤ i := hi; show i ≠ _; omega))
              (with_reducible refine hj.mono ?_)
              clear hj
              rintro e wj4 ⟨g4, rfl, hXj, kn⟩
              have k5 := hide (k4.out.trans kn (fun _ _ q => q))
              have HJ4 := hide hXj
              have hb := HM.out.box.keeps k5.out id
              have HB := hide hb
              obtain ⟨⟨z0, z1, z2, z3, z4⟩, y0, y1, y2, y3, y4⟩ := hb.cells
              have S_5 : (fun w' : World => w'.cell? ⟨go, i, none⟩ = some (.string (sB (opD i))) ∧ w'.cell? ⟨go, j, none⟩ = some (.string (sB (opD j))) ∧ w'.cell? ⟨gx, 0, none⟩ = some (.int .i64 6) ∧ w'.cell? ⟨gx, 1, none⟩ = some (.int .i64 0) ∧ w'.cell? ⟨gx, 2, none⟩ = some (.string (sB [])) ∧ w'.cell? ⟨gx, 3, none⟩ = some (.string (sB [45])) ∧ w'.cell? ⟨gx, 4, none⟩ = some (.slice (some ⟨W2.heap.size, 0, none⟩) 1 1)) wj4 := HSK3.out _ (k5.out.mono (fun _ _ q => q.elim))
              have S_f := HSK3.out _ ((((((k5.out.mono (fun _ _ q => q.elim) : Keeps W12 wj4 (fun k => k = gw)).setCell ⟨gw, 0, none⟩ (fun _ => rfl) (.int .i64 7)).setCell ⟨gw, 1, none⟩ (fun _ => rfl) (.int .i64 0)).setCell ⟨gw, 2, none⟩ (fun _ => rfl) (.string (sB []))).setCell ⟨gw, 3, none⟩ (fun _ => rfl) (.string (sB (opD i)))).setCell ⟨gw, 4, none⟩ (fun _ => rfl) (.slice (some ⟨g4, 0, none⟩) 2 2))
              clear kn hXj hb))
          rename_i hh
          clear hh S_f
          refine set5 (P := fun W => _) HB.out fun W14 h14 k14 => ?_
          have HX : Hid (Xc W14 gw (.int .i64 7) (.int .i64 0) (.string (sB [])) (.string (sB (opD i))) (.slice (some ⟨g4, 0, none⟩) 2 2)) := hide h14
          have HE := hide (HJ4.out.keeps k14 (fun i hi => hi))
          have HK := hide ((HF.out.kp.trans (HM.out.kp.trans k5.out (fun _ _ q => q)) (fun _ _ q => q)).trans k14 (fun i hi q => by have := (HF.out.kp).size; omega))
          have HKP := hide ((k5.out.mono (fun _ _ q => q.elim) : Keeps W12 wj4 (fun k => k = gw)).trans k14 (fun _ _ q => q))
          have HBX : Hid (P2 W14 gp (.slice ma mb mc) (.slice la lb lc)) := hide ((HF.out.box.keeps HM.out.kp id).keeps HKP.out (fun q => by have := HF.out.box.lt; omega))
          have HPW : Hid (∃ B, PgG B ⟨[], [.mk 5 [] [] [] [wantD i j true] [] []]⟩ (.agg #[.slice ma mb mc, .slice la lb lc]) W14) := hide (by
            obtain ⟨B, m1, l1, e1, hm1, hl1⟩ := HPG.out
            have kk : Keeps W11 W14 (fun k => W11.heap.size ≤ k) := (HM.out.kp.mono (fun _ _ q => q.elim)).trans (HKP.out.mono (fun i _ q => by show W11.heap.size ≤ i; omega)) (fun _ _ q => q)
            exact ⟨B, m1, l1, e1, hm1.keepsUnder kk, hl1.keepsUnder kk⟩)
          clear S0 HJ3 HJ4 HB k14 h14 z0 z1 z2 z3 z4 y0 y1 y2 y3 y4 S_2 S_3 S_4 S_5
          go_upto_region 15 with fail
          obtain ⟨⟨c0, c1⟩, -⟩ := HBX.out.cells
          obtain ⟨⟨d0, d1, d2, d3, d4⟩, -⟩ := HX.out.cells
          have kB := ((Keeps.refl W14 (fun _ => False)).alloc (.cells #[.int .i64 7, .int .i64 0, .string (sB []), .string (sB (opD i)), .slice (some ⟨g4, 0, none⟩) 2 2] 42)).alloc (.cells #[.int .i64 5, .string ⟨#[]⟩, .string ⟨#[]⟩, .string ⟨#[]⟩, .slice (some ⟨W14.heap.size, 0, none⟩) 1 1, .slice none 0 0, .slice none 0 0] 49)
          have hn1 := heap_old2 W14 (.cells #[.int .i64 7, .int .i64 0, .string (sB []), .string (sB (opD i)), .slice (some ⟨g4, 0, none⟩) 2 2] 42) (.cells #[.int .i64 5, .string ⟨#[]⟩, .string ⟨#[]⟩, .string ⟨#[]⟩, .slice (some ⟨W14.heap.size, 0, none⟩) 1 1, .slice none 0 0, .slice none 0 0] 49)
          have hn2 := heap_new2 W14 (.cells #[.int .i64 7, .int .i64 0, .string (sB []), .string (sB (opD i)), .slice (some ⟨g4, 0, none⟩) 2 2] 42) (.cells #[.int .i64 5, .string ⟨#[]⟩, .string ⟨#[]⟩, .string ⟨#[]⟩, .slice (some ⟨W14.heap.size, 0, none⟩) 1 1, .slice none 0 0, .slice none 0 0] 49)
          have hsm : Calls Tryd.prog 10 #[.agg #[.slice ma mb mc, .slice la lb lc], .agg #[.slice none 0 0, .slice (some ⟨W14.heap.size + 1, 0, none⟩) 1 1]] ((W14.alloc (.cells #[.int .i64 7, .int .i64 0, .string (sB []), .string (sB (opD i)), .slice (some ⟨g4, 0, none⟩) 2 2] 42)).alloc (.cells #[.int .i64 5, .string ⟨#[]⟩, .string ⟨#[]⟩, .string ⟨#[]⟩, .slice (some ⟨W14.heap.size, 0, none⟩) 1 1, .slice none 0 0, .slice none 0 0] 49)) fun e w' => e = .returned (.bool true) ∧ Keeps ((W14.alloc (.cells #[.int .i64 7, .int .i64 0, .string (sB []), .string (sB (opD i)), .slice (some ⟨g4, 0, none⟩) 2 2] 42)).alloc (.cells #[.int .i64 5, .string ⟨#[]⟩, .string ⟨#[]⟩, .string ⟨#[]⟩, .slice (some ⟨W14.heap.size, 0, none⟩) 1 1, .slice none 0 0, .slice none 0 0] 49)) w' (fun _ => False) := by
            obtain ⟨B, m1, l1, e1, hm1, hl1⟩ := HPW.out
            exact same_true _ (want_small i j true) _ B 0 _ _ ⟨m1, l1, e1, hm1.keeps kB (fun _ _ q => q), StsV.keeps kB (fun _ _ q => q) hl1⟩
              ⟨_, _, rfl, StrsR.nil _ _, StsV.some (l := [_]) (Nat.zero_le _) (heap_lt hn2) (Nat.le_refl _) (range_blk hn2) (StsC.cons (StC.mk (ArgsV.some (args := [_]) (Nat.zero_le _) (heap_lt hn1) (Nat.le_refl _) (range_blk hn1) (ExsC.cons ((show ExC W14 _ (wantD i j true) _ by rw [hw]; exact HE.out).keeps kB (fun _ _ q => q) |>.mono (fun _ _ => Nat.zero_le _)) ExsC.nil)) StsV.nil StsV.nil) StsC.nil)⟩
          have HKB := hide kB
          clear hn1 hn2 kB
          go_wp2_with (go_at_call 10; (with_reducible refine hsm.mono ?_); rintro e wz ⟨rfl, kz⟩)
          go_ret
          exact ⟨rfl, (HK.out.trans HKB.out (fun _ _ q => q)).trans kz (fun _ _ q => q)⟩
        · have hlt' : ¬ (strD i : Int) < (strD j : Int) := by omega
          go_region_held3 (fun w' : World => w'.cell? ⟨go, i, none⟩ = some (.string (sB (opD i))) ∧ w'.cell? ⟨go, j, none⟩ = some (.string (sB (opD j)))) (with_reducible assumption) (first
           | (go_at_call 16
              (with_reducible refine (strength_any i HIJ.out.1 _).mono ?_)
              rintro e wx ⟨rfl, rfl⟩)
           | (go_at_call 16
              (with_reducible refine (strength_any j HIJ.out.2 _).mono ?_)
              rintro e wx ⟨rfl, rfl⟩))
          have hw : wantD i j true = exBin (opD j) (exBin (opD i) (oneD true) (exNum 2)) (exNum 3) := by unfold wantD; rw [if_neg hlt]
          clear S0 hlt'
          go_upto_region 15 with fail
          have HX : Hid (Xc W12.drew gw (.int .i64 7) (.int .i64 0) (.string (sB [])) (.string (sB (opD j))) (.slice (some ⟨g2, 0, none⟩) 2 2)) := hide (HM.out.box.keeps kD.out id)
          have HE := hide (HM.out.ex.keeps kD.out (fun _ _ q => q))
          have HK := hide ((HF.out.kp.trans HM.out.kp (fun _ _ q => q)).trans kD.out (fun _ _ q => q))
          have HBX : Hid (P2 W12.drew gp (.slice ma mb mc) (.slice la lb lc)) := hide ((HF.out.box.keeps HM.out.kp id).keeps kD.out id)
          have HPW : Hid (∃ B, PgG B ⟨[], [.mk 5 [] [] [] [wantD i j true] [] []]⟩ (.agg #[.slice ma mb mc, .slice la lb lc]) W12.drew) := hide (by
            obtain ⟨B, m1, l1, e1, hm1, hl1⟩ := HPG.out
            have kk := HM.out.kp.trans kD.out (fun _ _ q => q)
            exact ⟨B, m1, l1, e1, hm1.keeps kk (fun _ _ q => q), StsV.keeps kk (fun _ _ q => q) hl1⟩)
          generalize W12.drew = W13 at *
          obtain ⟨⟨c0, c1⟩, -⟩ := HBX.out.cells
          obtain ⟨⟨d0, d1, d2, d3, d4⟩, -⟩ := HX.out.cells
          have kB := ((Keeps.refl W13 (fun _ => False)).alloc (.cells #[.int .i64 7, .int .i64 0, .string (sB []), .string (sB (opD j)), .slice (some ⟨g2, 0, none⟩) 2 2] 42)).alloc (.cells #[.int .i64 5, .string ⟨#[]⟩, .string ⟨#[]⟩, .string ⟨#[]⟩, .slice (some ⟨W13.heap.size, 0, none⟩) 1 1, .slice none 0 0, .slice none 0 0] 49)
          have hn1 := heap_old2 W13 (.cells #[.int .i64 7, .int .i64 0, .string (sB []), .string (sB (opD j)), .slice (some ⟨g2, 0, none⟩) 2 2] 42) (.cells #[.int .i64 5, .string ⟨#[]⟩, .string ⟨#[]⟩, .string ⟨#[]⟩, .slice (some ⟨W13.heap.size, 0, none⟩) 1 1, .slice none 0 0, .slice none 0 0] 49)
          have hn2 := heap_new2 W13 (.cells #[.int .i64 7, .int .i64 0, .string (sB []), .string (sB (opD j)), .slice (some ⟨g2, 0, none⟩) 2 2] 42) (.cells #[.int .i64 5, .string ⟨#[]⟩, .string ⟨#[]⟩, .string ⟨#[]⟩, .slice (some ⟨W13.heap.size, 0, none⟩) 1 1, .slice none 0 0, .slice none 0 0] 49)
          have hsm : Calls Tryd.prog 10 #[.agg #[.slice ma mb mc, .slice la lb lc], .agg #[.slice none 0 0, .slice (some ⟨W13.heap.size + 1, 0, none⟩) 1 1]] ((W13.alloc (.cells #[.int .i64 7, .int .i64 0, .string (sB []), .string (sB (opD j)), .slice (some ⟨g2, 0, none⟩) 2 2] 42)).alloc (.cells #[.int .i64 5, .string ⟨#[]⟩, .string ⟨#[]⟩, .string ⟨#[]⟩, .slice (some ⟨W13.heap.size, 0, none⟩) 1 1, .slice none 0 0, .slice none 0 0] 49)) fun e w' => e = .returned (.bool true) ∧ Keeps ((W13.alloc (.cells #[.int .i64 7, .int .i64 0, .string (sB []), .string (sB (opD j)), .slice (some ⟨g2, 0, none⟩) 2 2] 42)).alloc (.cells #[.int .i64 5, .string ⟨#[]⟩, .string ⟨#[]⟩, .string ⟨#[]⟩, .slice (some ⟨W13.heap.size, 0, none⟩) 1 1, .slice none 0 0, .slice none 0 0] 49)) w' (fun _ => False) := by
            obtain ⟨B, m1, l1, e1, hm1, hl1⟩ := HPW.out
            exact same_true _ (want_small i j true) _ B 0 _ _ ⟨m1, l1, e1, hm1.keeps kB (fun _ _ q => q), StsV.keeps kB (fun _ _ q => q) hl1⟩
              ⟨_, _, rfl, StrsR.nil _ _, StsV.some (l := [_]) (Nat.zero_le _) (heap_lt hn2) (Nat.le_refl _) (range_blk hn2) (StsC.cons (StC.mk (ArgsV.some (args := [_]) (Nat.zero_le _) (heap_lt hn1) (Nat.le_refl _) (range_blk hn1) (ExsC.cons ((show ExC W13 _ (wantD i j true) _ by rw [hw]; exact HE.out).keeps kB (fun _ _ q => q) |>.mono (fun _ _ => Nat.zero_le _)) ExsC.nil)) StsV.nil StsV.nil) StsC.nil)⟩
          have HKB := hide kB
          clear hn1 hn2 kB
          go_wp2_with (go_at_call 10; (with_reducible refine hsm.mono ?_); rintro e wz ⟨rfl, kz⟩)
          go_ret
          exact ⟨rfl, (HK.out.trans HKB.out (fun _ _ q => q)).trans kz (fun _ _ q => q)⟩
    | false =>
      rw [e3] at h3
      have hc : climbD i j true = (⟨[], [.mk 5 [] [] [] [wantD i j true] [] []]⟩, 0, 0) := by unfold climbD; rw [e3]; rfl
      have HPG : Hid (∃ B, PgG B ⟨[], [.mk 5 [] [] [] [wantD i j true] [] []]⟩ (.agg #[.slice ma mb mc, .slice la lb lc]) W11) := hide (by have q := HF.out.pg; rw [hc] at q; exact q)
      rw [hc]
      clear hc
      go_upto_region 12 with (first | (go_at_call 16; (with_reducible refine hs.mono ?_); rintro e wa ⟨rfl, hwa⟩; obtain rfl := hwa.symm) | (go_at_call 16; (with_reducible refine hs2.mono ?_); rintro e wb ⟨rfl, hwb⟩; obtain rfl := hwb.symm))
      clear hs hs2 h3 h4 r1 r2
      have HSK2 : Hid (∀ W' : World, Keeps W11 W' (fun k => W11.heap.size ≤ k) → (fun w' : World => w'.cell? ⟨go, i, none⟩ = some (.string (sB (opD i))) ∧ w'.cell? ⟨go, j, none⟩ = some (.string (sB (opD j))) ∧ w'.cell? ⟨gx, 0, none⟩ = some (.int .i64 6) ∧ w'.cell? ⟨gx, 1, none⟩ = some (.int .i64 0) ∧ w'.cell? ⟨gx, 2, none⟩ = some (.string (sB [])) ∧ w'.cell? ⟨gx, 3, none⟩ = some (.string (sB [45])) ∧ w'.cell? ⟨gx, 4, none⟩ = some (.slice (some ⟨W2.heap.size, 0, none⟩) 1 1)) W') := hide (fun W' k => by
        have q1 := heap_lt HF.out.row
        have q2 := heap_lt HF.out.one
        have e1 := (k.block _ q1 (fun q => by omega)).trans HF.out.row
        have e2 : Xc W' gx _ _ _ _ _ := (k.block _ q2 (fun q => by omega)).trans HF.out.one
        exact ⟨row_at e1 i HIJ.out.1, row_at e1 j HIJ.out.2, e2.cells.1⟩)
      have HO1 : Hid (∀ W', Keeps W11 W' (fun _ => False) → ExC W' (fun i => i < W11.heap.size) (oneD true) [.int .i64 6, .int .i64 0, .string (sB []), .string (sB [45]), .slice (some ⟨W2.heap.size, 0, none⟩) 1 1]) := hide (fun W' k => (HF.out.oneE.under.keeps k (fun _ _ q => q)).mono (fun _ h => h.2))
      have kD := hide ((Keeps.refl W11 (fun _ => False)).drew)
      have kZ := hide (((Keeps.refl W11 (fun _ => False)).alloc (.cells #[.int .i64 0, .int .i64 0, .string ⟨#[]⟩, .string ⟨#[]⟩, .slice none 0 0] 42)).drew)
      have hnZ : Hid (((W11.alloc (.cells #[.int .i64 0, .int .i64 0, .string ⟨#[]⟩, .string ⟨#[]⟩, .slice none 0 0] 42)).drew).heap[W11.heap.size]? = some (.cells #[.int .i64 0, .int .i64 0, .string ⟨#[]⟩, .string ⟨#[]⟩, .slice none 0 0] 42)) := hide (heap_alloc_new W11 _)
      have S0 : (fun w' : World => w'.cell? ⟨go, i, none⟩ = some (.string (sB (opD i))) ∧ w'.cell? ⟨go, j, none⟩ = some (.string (sB (opD j))) ∧ w'.cell? ⟨gx, 0, none⟩ = some (.int .i64 6) ∧ w'.cell? ⟨gx, 1, none⟩ = some (.int .i64 0) ∧ w'.cell? ⟨gx, 2, none⟩ = some (.string (sB [])) ∧ w'.cell? ⟨gx, 3, none⟩ = some (.string (sB [45])) ∧ w'.cell? ⟨gx, 4, none⟩ = some (.slice (some ⟨W2.heap.size, 0, none⟩) 1 1)) W11.drew := HSK2.out _ (kD.out.mono (fun _ _ q => q.elim))
      have S0z : (fun w' : World => w'.cell? ⟨go, i, none⟩ = some (.string (sB (opD i))) ∧ w'.cell? ⟨go, j, none⟩ = some (.string (sB (opD j))) ∧ w'.cell? ⟨gx, 0, none⟩ = some (.int .i64 6) ∧ w'.cell? ⟨gx, 1, none⟩ = some (.int .i64 0) ∧ w'.cell? ⟨gx, 2, none⟩ = some (.string (sB [])) ∧ w'.cell? ⟨gx, 3, none⟩ = some (.string (sB [45])) ∧ w'.cell? ⟨gx, 4, none⟩ = some (.slice (some ⟨W2.heap.size, 0, none⟩) 1 1)) ((W11.alloc (.cells #[.int .i64 0, .int .i64 0, .string ⟨#[]⟩, .string ⟨#[]⟩, .slice none 0 0] 42)).drew) := HSK2.out _ (kZ.out.mono (fun _ _ q => q.elim))
      apply once
      · intro hrest
        go_region_held3 (fun w' : World => w'.cell? ⟨go, i, none⟩ = some (.string (sB (opD i))) ∧ w'.cell? ⟨go, j, none⟩ = some (.string (sB (opD j))) ∧ w'.cell? ⟨gx, 0, none⟩ = some (.int .i64 6) ∧ w'.cell? ⟨gx, 1, none⟩ = some (.int .i64 0) ∧ w'.cell? ⟨gx, 2, none⟩ = some (.string (sB [])) ∧ w'.cell? ⟨gx, 3, none⟩ = some (.string (sB [45])) ∧ w'.cell? ⟨gx, 4, none⟩ = some (.slice (some ⟨W2.heap.size, 0, none⟩) 1 1)) (first | with_reducible assumption | exact S_f) (first
         | (go_at_call 14
            (with_reducible refine (num_any 2 W11.drew).mono ?_)
            rintro e wn2 ⟨rfl, kn⟩
            have k2 := hide (kD.out.trans kn (fun _ _ q => q))
            have S_wn2 : (fun w' : World => w'.cell? ⟨go, i, none⟩ = some (.string (sB (opD i))) ∧ w'.cell? ⟨go, j, none⟩ = some (.string (sB (opD j))) ∧ w'.cell? ⟨gx, 0, none⟩ = some (.int .i64 6) ∧ w'.cell? ⟨gx, 1, none⟩ = some (.int .i64 0) ∧ w'.cell? ⟨gx, 2, none⟩ = some (.string (sB [])) ∧ w'.cell? ⟨gx, 3, none⟩ = some (.string (sB [45])) ∧ w'.cell? ⟨gx, 4, none⟩ = some (.slice (some ⟨W2.heap.size, 0, none⟩) 1 1)) wn2 := HSK2.out _ (k2.out.mono (fun _ _ q => q.elim))
            have Sz_wn2 : (fun w' : World => w'.cell? ⟨go, i, none⟩ = some (.string (sB (opD i))) ∧ w'.cell? ⟨go, j, none⟩ = some (.string (sB (opD j))) ∧ w'.cell? ⟨gx, 0, none⟩ = some (.int .i64 6) ∧ w'.cell? ⟨gx, 1, none⟩ = some (.int .i64 0) ∧ w'.cell? ⟨gx, 2, none⟩ = some (.string (sB [])) ∧ w'.cell? ⟨gx, 3, none⟩ = some (.string (sB [45])) ∧ w'.cell? ⟨gx, 4, none⟩ = some (.slice (some ⟨W2.heap.size, 0, none⟩) 1 1)) (wn2.alloc (.cells #[.int .i64 0, .int .i64 0, .string ⟨#[]⟩, .string ⟨#[]⟩, .slice none 0 0] 42)) := HSK2.out _ ((k2.out.trans ((Keeps.refl wn2 (fun _ => False)).alloc (.cells #[.int .i64 0, .int .i64 0, .string ⟨#[]⟩, .string ⟨#[]⟩, .slice none 0 0] 42)) (fun _ _ q => q)).mono (fun _ _ q => q.elim))
            clear kn)
         | (go_at_call 14
            (with_reducible refine (num_any 2 ((W11.alloc (.cells #[.int .i64 0, .int .i64 0, .string ⟨#[]⟩, .string ⟨#[]⟩, .slice none 0 0] 42)).drew)).mono ?_)
            rintro e wn2 ⟨rfl, kn⟩
            have k2 := hide (kZ.out.trans kn (fun _ _ q => q))
            have hz0 : X0 wn2 W11.heap.size := (kn.block _ (heap_lt hnZ.out) id).trans hnZ.out
            have hz := hide (And.intro hz0 (And.intro (Nat.le_refl W11.heap.size) (heap_lt hz0)))
            have S_wn2 : (fun w' : World => w'.cell? ⟨go, i, none⟩ = some (.string (sB (opD i))) ∧ w'.cell? ⟨go, j, none⟩ = some (.string (sB (opD j))) ∧ w'.cell? ⟨gx, 0, none⟩ = some (.int .i64 6) ∧ w'.cell? ⟨gx, 1, none⟩ = some (.int .i64 0) ∧ w'.cell? ⟨gx, 2, none⟩ = some (.string (sB [])) ∧ w'.cell? ⟨gx, 3, none⟩ = some (.string (sB [45])) ∧ w'.cell? ⟨gx, 4, none⟩ = some (.slice (some ⟨W2.heap.size, 0, none⟩) 1 1)) wn2 := HSK2.out _ (k2.out.mono (fun _ _ q => q.elim))
            have Sz_wn2 : (fun w' : World => w'.cell? ⟨go, i, none⟩ = some (.string (sB (opD i))) ∧ w'.cell? ⟨go, j, none⟩ = some (.string (sB (opD j))) ∧ w'.cell? ⟨gx, 0, none⟩ = some (.int .i64 6) ∧ w'.cell? ⟨gx, 1, none⟩ = some (.int .i64 0) ∧ w'.cell? ⟨gx, 2, none⟩ = some (.string (sB [])) ∧ w'.cell? ⟨gx, 3, none⟩ = some (.string (sB [45])) ∧ w'.cell? ⟨gx, 4, none⟩ = some (.slice (some ⟨W2.heap.size, 0, none⟩) 1 1)) (wn2.alloc (.cells #[.int .i64 0, .int .i64 0, .string ⟨#[]⟩, .string ⟨#[]⟩, .slice none 0 0] 42)) := HSK2.out _ ((k2.out.trans ((Keeps.refl wn2 (fun _ => False)).alloc (.cells #[.int .i64 0, .int .i64 0, .string ⟨#[]⟩, .string ⟨#[]⟩, .slice none 0 0] 42)) (fun _ _ q => q)).mono (fun _ _ q => q.elim))
            clear kn hz0)
         | (go_at_call 17
            have hz9 := hz.out.2.2
            have hj := (join_any (opD i) (x := oneD true) (y := exNum 2) (Pd := fun k => k ≠ W11.heap.size) wn2 ((HO1.out _ k2.out).mono (fun i hi => by have := k2.out.size; show i ≠ _; omega)) (ExC.mk ArgsV.nil) (fun i hi => by have q : wn2.heap.size ≤ i := hi; (try simp at q); have := hz9; show i ≠ _; omega))
            (with_reducible refine hj.mono ?_)
            clear hj
            rintro e wj1 ⟨g1, rfl, hXj, kn⟩
            have kj := hide ((k2.out).trans kn (fun _ _ q => q))
            have HJ1 : Hid (∀ W', Keeps wj1 W' (fun _ => False) → ExC W' (fun k => k ≠ W11.heap.size) (exBin (opD i) (oneD true) (exNum 2)) [.int .i64 7, .int .i64 0, .string (sB []), .string (sB (opD i)), .slice (some ⟨g1, 0, none⟩) 2 2]) := hide (fun W' k => hXj.keeps k (fun _ _ q => q))
            have hz0 := hz.out.1.keeps kn id
            replace hz := hide (And.intro hz0 (And.intro hz.out.2.1 (heap_lt hz0)))
            have S_wj1 : (fun w' : World => w'.cell? ⟨go, i, none⟩ = some (.string (sB (opD i))) ∧ w'.cell? ⟨go, j, none⟩ = some (.string (sB (opD j))) ∧ w'.cell? ⟨gx, 0, none⟩ = some (.int .i64 6) ∧ w'.cell? ⟨gx, 1, none⟩ = some (.int .i64 0) ∧ w'.cell? ⟨gx, 2, none⟩ = some (.string (sB [])) ∧ w'.cell? ⟨gx, 3, none⟩ = some (.string (sB [45])) ∧ w'.cell? ⟨gx, 4, none⟩ = some (.slice (some ⟨W2.heap.size, 0, none⟩) 1 1)) wj1 := HSK2.out _ (kj.out.mono (fun _ _ q => q.elim))
            have Sz_wj1 : (fun w' : World => w'.cell? ⟨go, i, none⟩ = some (.string (sB (opD i))) ∧ w'.cell? ⟨go, j, none⟩ = some (.string (sB (opD j))) ∧ w'.cell? ⟨gx, 0, none⟩ = some (.int .i64 6) ∧ w'.cell? ⟨gx, 1, none⟩ = some (.int .i64 0) ∧ w'.cell? ⟨gx, 2, none⟩ = some (.string (sB [])) ∧ w'.cell? ⟨gx, 3, none⟩ = some (.string (sB [45])) ∧ w'.cell? ⟨gx, 4, none⟩ = some (.slice (some ⟨W2.heap.size, 0, none⟩) 1 1)) (wj1.alloc (.cells #[.int .i64 0, .int .i64 0, .string ⟨#[]⟩, .string ⟨#[]⟩, .slice none 0 0] 42)) := HSK2.out _ ((kj.out.trans ((Keeps.refl wj1 (fun _ => False)).alloc (.cells #[.int .i64 0, .int .i64 0, .string ⟨#[]⟩, .string ⟨#[]⟩, .slice none 0 0] 42)) (fun _ _ q => q)).mono (fun _ _ q => q.elim))
            clear kn hXj hz0 hz9)
         | (go_at_call 17
            have hj := (join_any (opD i) (x := oneD true) (y := exNum 2) (Pd := fun _ => True) wn2 ((HO1.out _ k2.out).mono (fun _ _ => trivial)) (ExC.mk ArgsV.nil) (fun _ _ => trivial))
            (with_reducible refine hj.mono ?_)
            clear hj
            rintro e wj1 ⟨g1, rfl, hXj, kn⟩
            have kj := hide (k2.out.trans kn (fun _ _ q => q))
            have HJ1 : Hid (∀ W', Keeps wj1 W' (fun _ => False) → ExC W' (fun i => i < wj1.heap.size) (exBin (opD i) (oneD true) (exNum 2)) [.int .i64 7, .int .i64 0, .string (sB []), .string (sB (opD i)), .slice (some ⟨g1, 0, none⟩) 2 2]) := hide (fun W' k => (hXj.under.keeps k (fun _ _ q => q)).mono (fun _ h => h.2))
            have S_wj1 : (fun w' : World => w'.cell? ⟨go, i, none⟩ = some (.string (sB (opD i))) ∧ w'.cell? ⟨go, j, none⟩ = some (.string (sB (opD j))) ∧ w'.cell? ⟨gx, 0, none⟩ = some (.int .i64 6) ∧ w'.cell? ⟨gx, 1, none⟩ = some (.int .i64 0) ∧ w'.cell? ⟨gx, 2, none⟩ = some (.string (sB [])) ∧ w'.cell? ⟨gx, 3, none⟩ = some (.string (sB [45])) ∧ w'.cell? ⟨gx, 4, none⟩ = some (.slice (some ⟨W2.heap.size, 0, none⟩) 1 1)) wj1 := HSK2.out _ (kj.out.mono (fun _ _ q => q.elim))
            have Sz_wj1 : (fun w' : World => w'.cell? ⟨go, i, none⟩ = some (.string (sB (opD i))) ∧ w'.cell? ⟨go, j, none⟩ = some (.string (sB (opD j))) ∧ w'.cell? ⟨gx, 0, none⟩ = some (.int .i64 6) ∧ w'.cell? ⟨gx, 1, none⟩ = some (.int .i64 0) ∧ w'.cell? ⟨gx, 2, none⟩ = some (.string (sB [])) ∧ w'.cell? ⟨gx, 3, none⟩ = some (.string (sB [45])) ∧ w'.cell? ⟨gx, 4, none⟩ = some (.slice (some ⟨W2.heap.size, 0, none⟩) 1 1)) (wj1.alloc (.cells #[.int .i64 0, .int .i64 0, .string ⟨#[]⟩, .string ⟨#[]⟩, .slice none 0 0] 42)) := HSK2.out _ ((kj.out.trans ((Keeps.refl wj1 (fun _ => False)).alloc (.cells #[.int .i64 0, .int .i64 0, .string ⟨#[]⟩, .string ⟨#[]⟩, .slice none 0 0] 42)) (fun _ _ q => q)).mono (fun _ _ q => q.elim))
            clear kn hXj)
         | (go_at_call 17
            have hz9 : True := trivial
            have hj := (join_any (opD i) (x := oneD true) (y := exNum 2) (Pd := fun k => k ≠ wn2.heap.size) (wn2.alloc (.cells #[.int .i64 0, .int .i64 0, .string ⟨#[]⟩, .string ⟨#[]⟩, .slice none 0 0] 42)) ((HO1.out _ (k2.out.trans ((Keeps.refl wn2 (fun _ => False)).alloc (.cells #[.int .i64 0, .int .i64 0, .string ⟨#[]⟩, .string ⟨#[]⟩, .slice none 0 0] 42)) (fun _ _ q => q))).mono (fun i hi => by have := k2.out.size; show i ≠ _; omega)) (ExC.mk ArgsV.nil) (fun i hi => by have q : (wn2.alloc (.cells #[.int .i64 0, .int .i64 0, .string ⟨#[]⟩, .string ⟨#[]⟩, .slice none 0 0] 42)).heap.size ≤ i := hi; (try simp at q); have := hz9; show i ≠ _; omega))
            (with_reducible refine hj.mono ?_)
            clear hj
            rintro e wj1 ⟨g1, rfl, hXj, kn⟩
            have kj := hide (((k2.out.trans ((Keeps.refl wn2 (fun _ => False)).alloc (.cells #[.int .i64 0, .int .i64 0, .string ⟨#[]⟩, .string ⟨#[]⟩, .slice none 0 0] 42)) (fun _ _ q => q))).trans kn (fun _ _ q => q))
            have HJ1 : Hid (∀ W', Keeps wj1 W' (fun _ => False) → ExC W' (fun k => k ≠ wn2.heap.size) (exBin (opD i) (oneD true) (exNum 2)) [.int .i64 7, .int .i64 0, .string (sB []), .string (sB (opD i)), .slice (some ⟨g1, 0, none⟩) 2 2]) := hide (fun W' k => hXj.keeps k (fun _ _ q => q))
            have hz0 : X0 wj1 wn2.heap.size := (kn.block _ (heap_lt (heap_alloc_new wn2 (.cells #[.int .i64 0, .int .i64 0, .string ⟨#[]⟩, .string ⟨#[]⟩, .slice none 0 0] 42))) id).trans (heap_alloc_new wn2 (.cells #[.int .i64 0, .int .i64 0, .string ⟨#[]⟩, .string ⟨#[]⟩, .slice none 0 0] 42))
            have hz := hide (And.intro hz0 (And.intro k2.out.size (heap_lt hz0)))
            have S_wj1 : (fun w' : World => w'.cell? ⟨go, i, none⟩ = some (.string (sB (opD i))) ∧ w'.cell? ⟨go, j, none⟩ = some (.string (sB (opD j))) ∧ w'.cell? ⟨gx, 0, none⟩ = some (.int .i64 6) ∧ w'.cell? ⟨gx, 1, none⟩ = some (.int .i64 0) ∧ w'.cell? ⟨gx, 2, none⟩ = some (.string (sB [])) ∧ w'.cell? ⟨gx, 3, none⟩ = some (.string (sB [45])) ∧ w'.cell? ⟨gx, 4, none⟩ = some (.slice (some ⟨W2.heap.size, 0, none⟩) 1 1)) wj1 := HSK2.out _ (kj.out.mono (fun _ _ q => q.elim))
            have Sz_wj1 : (fun w' : World => w'.cell? ⟨go, i, none⟩ = some (.string (sB (opD i))) ∧ w'.cell? ⟨go, j, none⟩ = some (.string (sB (opD j))) ∧ w'.cell? ⟨gx, 0, none⟩ = some (.int .i64 6) ∧ w'.cell? ⟨gx, 1, none⟩ = some (.int .i64 0) ∧ w'.cell? ⟨gx, 2, none⟩ = some (.string (sB [])) ∧ w'.cell? ⟨gx, 3, none⟩ = some (.string (sB [45])) ∧ w'.cell? ⟨gx, 4, none⟩ = some (.slice (some ⟨W2.heap.size, 0, none⟩) 1 1)) (wj1.alloc (.cells #[.int .i64 0, .int .i64 0, .string ⟨#[]⟩, .string ⟨#[]⟩, .slice none 0 0] 42)) := HSK2.out _ ((kj.out.trans ((Keeps.refl wj1 (fun _ => False)).alloc (.cells #[.int .i64 0, .int .i64 0, .string ⟨#[]⟩, .string ⟨#[]⟩, .slice none 0 0] 42)) (fun _ _ q => q)).mono (fun _ _ q => q.elim))
            clear kn hXj hz0 hz9)
         | (go_at_call 14
            have hz9 := hz.out.1
            (with_reducible refine (num_any 3 wj1).mono ?_)
            rintro e wn3 ⟨rfl, kn⟩
            have k3 := hide (kj.out.trans kn (fun _ _ q => q))
            have hj3 := kn.size
            have HJ3 := hide (fun W' (k : Keeps wn3 W' (fun _ => False)) => HJ1.out W' (kn.trans k (fun _ _ q => q)))
            have hz0 := hz9.keeps kn id
            replace hz := hide (And.intro hz0 (And.intro hz.out.2.1 (heap_lt hz0)))
            have S_wn3 : (fun w' : World => w'.cell? ⟨go, i, none⟩ = some (.string (sB (opD i))) ∧ w'.cell? ⟨go, j, none⟩ = some (.string (sB (opD j))) ∧ w'.cell? ⟨gx, 0, none⟩ = some (.int .i64 6) ∧ w'.cell? ⟨gx, 1, none⟩ = some (.int .i64 0) ∧ w'.cell? ⟨gx, 2, none⟩ = some (.string (sB [])) ∧ w'.cell? ⟨gx, 3, none⟩ = some (.string (sB [45])) ∧ w'.cell? ⟨gx, 4, none⟩ = some (.slice (some ⟨W2.heap.size, 0, none⟩) 1 1)) wn3 := HSK2.out _ (k3.out.mono (fun _ _ q => q.elim))
            have Sz_wn3 : (fun w' : World => w'.cell? ⟨go, i, none⟩ = some (.string (sB (opD i))) ∧ w'.cell? ⟨go, j, none⟩ = some (.string (sB (opD j))) ∧ w'.cell? ⟨gx, 0, none⟩ = some (.int .i64 6) ∧ w'.cell? ⟨gx, 1, none⟩ = some (.int .i64 0) ∧ w'.cell? ⟨gx, 2, none⟩ = some (.string (sB [])) ∧ w'.cell? ⟨gx, 3, none⟩ = some (.string (sB [45])) ∧ w'.cell? ⟨gx, 4, none⟩ = some (.slice (some ⟨W2.heap.size, 0, none⟩) 1 1)) (wn3.alloc (.cells #[.int .i64 0, .int .i64 0, .string ⟨#[]⟩, .string ⟨#[]⟩, .slice none 0 0] 42)) := HSK2.out _ ((k3.out.trans ((Keeps.refl wn3 (fun _ => False)).alloc (.cells #[.int .i64 0, .int .i64 0, .string ⟨#[]⟩, .string ⟨#[]⟩, .slice none 0 0] 42)) (fun _ _ q => q)).mono (fun _ _ q => q.elim))
            clear kn hz0 hz9)
         | (go_at_call 14
            (with_reducible refine (num_any 3 wj1).mono ?_)
            rintro e wn3 ⟨rfl, kn⟩
            have k3 := hide (kj.out.trans kn (fun _ _ q => q))
            have hj3 := kn.size
            have HJ3 := hide (fun W' (k : Keeps wn3 W' (fun _ => False)) => HJ1.out W' (kn.trans k (fun _ _ q => q)))
            have S_wn3 : (fun w' : World => w'.cell? ⟨go, i, none⟩ = some (.string (sB (opD i))) ∧ w'.cell? ⟨go, j, none⟩ = some (.string (sB (opD j))) ∧ w'.cell? ⟨gx, 0, none⟩ = some (.int .i64 6) ∧ w'.cell? ⟨gx, 1, none⟩ = some (.int .i64 0) ∧ w'.cell? ⟨gx, 2, none⟩ = some (.string (sB [])) ∧ w'.cell? ⟨gx, 3, none⟩ = some (.string (sB [45])) ∧ w'.cell? ⟨gx, 4, none⟩ = some (.slice (some ⟨W2.heap.size, 0, none⟩) 1 1)) wn3 := HSK2.out _ (k3.out.mono (fun _ _ q => q.elim))
            have Sz_wn3 : (fun w' : World => w'.cell? ⟨go, i, none⟩ = some (.string (sB (opD i))) ∧ w'.cell? ⟨go, j, none⟩ = some (.string (sB (opD j))) ∧ w'.cell? ⟨gx, 0, none⟩ = some (.int .i64 6) ∧ w'.cell? ⟨gx, 1, none⟩ = some (.int .i64 0) ∧ w'.cell? ⟨gx, 2, none⟩ = some (.string (sB [])) ∧ w'.cell? ⟨gx, 3, none⟩ = some (.string (sB [45])) ∧ w'.cell? ⟨gx, 4, none⟩ = some (.slice (some ⟨W2.heap.size, 0, none⟩) 1 1)) (wn3.alloc (.cells #[.int .i64 0, .int .i64 0, .string ⟨#[]⟩, .string ⟨#[]⟩, .slice none 0 0] 42)) := HSK2.out _ ((k3.out.trans ((Keeps.refl wn3 (fun _ => False)).alloc (.cells #[.int .i64 0, .int .i64 0, .string ⟨#[]⟩, .string ⟨#[]⟩, .slice none 0 0] 42)) (fun _ _ q => q)).mono (fun _ _ q => q.elim))
            clear kn)
         | (go_at_call 14
            (with_reducible refine (num_any 3 (wj1.alloc (.cells #[.int .i64 0, .int .i64 0, .string ⟨#[]⟩, .string ⟨#[]⟩, .slice none 0 0] 42))).mono ?_)
            rintro e wn3 ⟨rfl, kn⟩
            have kAl := (Keeps.refl wj1 (fun _ => False)).alloc (.cells #[.int .i64 0, .int .i64 0, .string ⟨#[]⟩, .string ⟨#[]⟩, .slice none 0 0] 42)
            have k3 := hide ((kj.out.trans kAl (fun _ _ q => q)).trans kn (fun _ _ q => q))
            have hj3 := (kAl.trans kn (fun _ _ q => q)).size
            have HJ3 : Hid (∀ W', Keeps wn3 W' (fun _ => False) → ExC W' (fun k => k ≠ wj1.heap.size) (exBin (opD i) (oneD true) (exNum 2)) [.int .i64 7, .int .i64 0, .string (sB []), .string (sB (opD i)), .slice (some ⟨g1, 0, none⟩) 2 2]) := hide (fun W' k => (HJ1.out W' ((kAl.trans kn (fun _ _ q => q)).trans k (fun _ _ q => q))).mono (fun i hi => Nat.ne_of_lt hi))
            have hz0 : X0 wn3 wj1.heap.size := (kn.block _ (heap_lt (heap_alloc_new wj1 (.cells #[.int .i64 0, .int .i64 0, .string ⟨#[]⟩, .string ⟨#[]⟩, .slice none 0 0] 42))) id).trans (heap_alloc_new wj1 (.cells #[.int .i64 0, .int .i64 0, .string ⟨#[]⟩, .string ⟨#[]⟩, .slice none 0 0] 42))
            have hz := hide (And.intro hz0 (And.intro kj.out.size (heap_lt hz0)))
            have S_wn3 : (fun w' : World => w'.cell? ⟨go, i, none⟩ = some (.string (sB (opD i))) ∧ w'.cell? ⟨go, j, none⟩ = some (.string (sB (opD j))) ∧ w'.cell? ⟨gx, 0, none⟩ = some (.int .i64 6) ∧ w'.cell? ⟨gx, 1, none⟩ = some (.int .i64 0) ∧ w'.cell? ⟨gx, 2, none⟩ = some (.string (sB [])) ∧ w'.cell? ⟨gx, 3, none⟩ = some (.string (sB [45])) ∧ w'.cell? ⟨gx, 4, none⟩ = some (.slice (some ⟨W2.heap.size, 0, none⟩) 1 1)) wn3 := HSK2.out _ (k3.out.mono (fun _ _ q => q.elim))
            have Sz_wn3 : (fun w' : World => w'.cell? ⟨go, i, none⟩ = some (.string (sB (opD i))) ∧ w'.cell? ⟨go, j, none⟩ = some (.string (sB (opD j))) ∧ w'.cell? ⟨gx, 0, none⟩ = some (.int .i64 6) ∧ w'.cell? ⟨gx, 1, none⟩ = some (.int .i64 0) ∧ w'.cell? ⟨gx, 2, none⟩ = some (.string (sB [])) ∧ w'.cell? ⟨gx, 3, none⟩ = some (.string (sB [45])) ∧ w'.cell? ⟨gx, 4, none⟩ = some (.slice (some ⟨W2.heap.size, 0, none⟩) 1 1)) (wn3.alloc (.cells #[.int .i64 0, .int .i64 0, .string ⟨#[]⟩, .string ⟨#[]⟩, .slice none 0 0] 42)) := HSK2.out _ ((k3.out.trans ((Keeps.refl wn3 (fun _ => False)).alloc (.cells #[.int .i64 0, .int .i64 0, .string ⟨#[]⟩, .string ⟨#[]⟩, .slice none 0 0] 42)) (fun _ _ q => q)).mono (fun _ _ q => q.elim))
            clear kn hz0 kAl)
         | (go_at_call 17
            have hz9 := hz.out
            have hj := (join_any (opD j) (x := (exBin (opD i) (oneD true) (exNum 2))) (y := exNum 3) wn3 (HJ3.out _ (Keeps.refl _ _)) (ExC.mk ArgsV.nil) (fun i hi q => by have h9 := hz9.2.2; have q2 : _ ≤ i := hi; omega))
            (with_reducible refine hj.mono ?_)
            clear hj
            rintro e wj2 ⟨g2, rfl, hXj, kn⟩
            have k4 := hide (k3.out.trans kn (fun _ _ q => q))
            have HJ2 := hide hXj
            have hz0 := hz9.1.keeps kn id
            replace hz := hide (And.intro hz0 (And.intro hz9.2.1 (heap_lt hz0)))
            have S_wj2 : (fun w' : World => w'.cell? ⟨go, i, none⟩ = some (.string (sB (opD i))) ∧ w'.cell? ⟨go, j, none⟩ = some (.string (sB (opD j))) ∧ w'.cell? ⟨gx, 0, none⟩ = some (.int .i64 6) ∧ w'.cell? ⟨gx, 1, none⟩ = some (.int .i64 0) ∧ w'.cell? ⟨gx, 2, none⟩ = some (.string (sB [])) ∧ w'.cell? ⟨gx, 3, none⟩ = some (.string (sB [45])) ∧ w'.cell? ⟨gx, 4, none⟩ = some (.slice (some ⟨W2.heap.size, 0, none⟩) 1 1)) wj2 := HSK2.out _ (k4.out.mono (fun _ _ q => q.elim))
            have Sz_wj2 : (fun w' : World => w'.cell? ⟨go, i, none⟩ = some (.string (sB (opD i))) ∧ w'.cell? ⟨go, j, none⟩ = some (.string (sB (opD j))) ∧ w'.cell? ⟨gx, 0, none⟩ = some (.int .i64 6) ∧ w'.cell? ⟨gx, 1, none⟩ = some (.int .i64 0) ∧ w'.cell? ⟨gx, 2, none⟩ = some (.string (sB [])) ∧ w'.cell? ⟨gx, 3, none⟩ = some (.string (sB [45])) ∧ w'.cell? ⟨gx, 4, none⟩ = some (.slice (some ⟨W2.heap.size, 0, none⟩) 1 1)) (wj2.alloc (.cells #[.int .i64 0, .int .i64 0, .string ⟨#[]⟩, .string ⟨#[]⟩, .slice none 0 0] 42)) := HSK2.out _ ((k4.out.trans ((Keeps.refl wj2 (fun _ => False)).alloc (.cells #[.int .i64 0, .int .i64 0, .string ⟨#[]⟩, .string ⟨#[]⟩, .slice none 0 0] 42)) (fun _ _ q => q)).mono (fun _ _ q => q.elim))
            obtain ⟨⟨z0, z1, z2, z3, z4⟩, y0, y1, y2, y3, y4⟩ := hz.out.1.cells
            have hge := hz.out.2.1
            have S_f := HSK2.out _ ((((((k4.out.mono (fun _ _ q => q.elim) : Keeps W11 wj2 (fun k => W11.heap.size ≤ k)).setCell ⟨_, 0, none⟩ (fun _ => hge) (.int .i64 7)).setCell ⟨_, 1, none⟩ (fun _ => hge) (.int .i64 0)).setCell ⟨_, 2, none⟩ (fun _ => hge) (.string (sB []))).setCell ⟨_, 3, none⟩ (fun _ => hge) (.string (sB (opD j)))).setCell ⟨_, 4, none⟩ (fun _ => hge) (.slice (some ⟨g2, 0, none⟩) 2 2))
            clear kn hXj hz0 hge hz9)
         | (go_at_call 17
            have hj := (join_any (opD j) (x := (exBin (opD i) (oneD true) (exNum 2))) (y := exNum 3) (Pd := fun _ => True) wn3 ((HJ3.out _ (Keeps.refl _ _)).mono (fun _ _ => trivial)) (ExC.mk ArgsV.nil) (fun _ _ => trivial))
            (with_reducible refine hj.mono ?_)
            clear hj
            rintro e wj2 ⟨g2, rfl, hXj, kn⟩
            have k4 := hide (k3.out.trans kn (fun _ _ q => q))
            have HJ2 := hide hXj.under
            have Sv : (fun w' : World => w'.cell? ⟨go, i, none⟩ = some (.string (sB (opD i))) ∧ w'.cell? ⟨go, j, none⟩ = some (.string (sB (opD j))) ∧ w'.cell? ⟨gx, 0, none⟩ = some (.int .i64 6) ∧ w'.cell? ⟨gx, 1, none⟩ = some (.int .i64 0) ∧ w'.cell? ⟨gx, 2, none⟩ = some (.string (sB [])) ∧ w'.cell? ⟨gx, 3, none⟩ = some (.string (sB [45])) ∧ w'.cell? ⟨gx, 4, none⟩ = some (.slice (some ⟨W2.heap.size, 0, none⟩) 1 1)) (wj2.alloc (.cells #[.int .i64 7, .int .i64 0, .string (sB []), .string (sB (opD j)), .slice (some ⟨g2, 0, none⟩) 2 2] 42)) := HSK2.out _ ((k4.out.trans ((Keeps.refl wj2 (fun _ => False)).alloc _) (fun _ _ q => q)).mono (fun _ _ q => q.elim))
            have S_wj2 : (fun w' : World => w'.cell? ⟨go, i, none⟩ = some (.string (sB (opD i))) ∧ w'.cell? ⟨go, j, none⟩ = some (.string (sB (opD j))) ∧ w'.cell? ⟨gx, 0, none⟩ = some (.int .i64 6) ∧ w'.cell? ⟨gx, 1, none⟩ = some (.int .i64 0) ∧ w'.cell? ⟨gx, 2, none⟩ = some (.string (sB [])) ∧ w'.cell? ⟨gx, 3, none⟩ = some (.string (sB [45])) ∧ w'.cell? ⟨gx, 4, none⟩ = some (.slice (some ⟨W2.heap.size, 0, none⟩) 1 1)) wj2 := HSK2.out _ (k4.out.mono (fun _ _ q => q.elim))
            have Sz_wj2 : (fun w' : World => w'.cell? ⟨go, i, none⟩ = some (.string (sB (opD i))) ∧ w'.cell? ⟨go, j, none⟩ = some (.string (sB (opD j))) ∧ w'.cell? ⟨gx, 0, none⟩ = some (.int .i64 6) ∧ w'.cell? ⟨gx, 1, none⟩ = some (.int .i64 0) ∧ w'.cell? ⟨gx, 2, none⟩ = some (.string (sB [])) ∧ w'.cell? ⟨gx, 3, none⟩ = some (.string (sB [45])) ∧ w'.cell? ⟨gx, 4, none⟩ = some (.slice (some ⟨W2.heap.size, 0, none⟩) 1 1)) (wj2.alloc (.cells #[.int .i64 0, .int .i64 0, .string ⟨#[]⟩, .string ⟨#[]⟩, .slice none 0 0] 42)) := HSK2.out _ ((k4.out.trans ((Keeps.refl wj2 (fun _ => False)).alloc (.cells #[.int .i64 0, .int .i64 0, .string ⟨#[]⟩, .string ⟨#[]⟩, .slice none 0 0] 42)) (fun _ _ q => q)).mono (fun _ _ q => q.elim))
            clear kn hXj)
         | (go_at_call 17
            have hj := (join_any (opD j) (x := (exBin (opD i) (oneD true) (exNum 2))) (y := exNum 3) (Pd := fun k => k ≠ wn3.heap.size) (wn3.alloc (.cells #[.int .i64 0, .int .i64 0, .string ⟨#[]⟩, .string ⟨#[]⟩, .slice none 0 0] 42)) ((HJ3.out _ ((Keeps.refl wn3 (fun _ => False)).alloc (.cells #[.int .i64 0, .int .i64 0, .string ⟨#[]⟩, .string ⟨#[]⟩, .slice none 0 0] 42))).mono (fun i hi => by have q : i < wj1.heap.size := hi; show i ≠ _; omega)) (ExC.mk ArgsV.nil) (fun i hi => by have q : (wn3.alloc (.cells #[.int .i64 0, .int .i64 0, .string ⟨#[]⟩, .string ⟨#[]⟩, .slice none 0 0] 42)).heap.size ≤ i := hi; simp at q; show i ≠ _; omega))
            (with_reducible refine hj.mono ?_)
            clear hj
            rintro e wj2 ⟨g2, rfl, hXj, kn⟩
            have kAl := (Keeps.refl wn3 (fun _ => False)).alloc (.cells #[.int .i64 0, .int .i64 0, .string ⟨#[]⟩, .string ⟨#[]⟩, .slice none 0 0] 42)
            have k4 := hide ((k3.out.trans kAl (fun _ _ q => q)).trans kn (fun _ _ q => q))
            have HJ2 := hide hXj
            have hz0 : X0 wj2 wn3.heap.size := (kn.block _ (heap_lt (heap_alloc_new wn3 (.cells #[.int .i64 0, .int .i64 0, .string ⟨#[]⟩, .string ⟨#[]⟩, .slice none 0 0] 42))) id).trans (heap_alloc_new wn3 (.cells #[.int .i64 0, .int .i64 0, .string ⟨#[]⟩, .string ⟨#[]⟩, .slice none 0 0] 42))
            have hz := hide (And.intro hz0 (And.intro k3.out.size (heap_lt hz0)))
            have S_wj2 : (fun w' : World => w'.cell? ⟨go, i, none⟩ = some (.string (sB (opD i))) ∧ w'.cell? ⟨go, j, none⟩ = some (.string (sB (opD j))) ∧ w'.cell? ⟨gx, 0, none⟩ = some (.int .i64 6) ∧ w'.cell? ⟨gx, 1, none⟩ = some (.int .i64 0) ∧ w'.cell? ⟨gx, 2, none⟩ = some (.string (sB [])) ∧ w'.cell? ⟨gx, 3, none⟩ = some (.string (sB [45])) ∧ w'.cell? ⟨gx, 4, none⟩ = some (.slice (some ⟨W2.heap.size, 0, none⟩) 1 1)) wj2 := HSK2.out _ (k4.out.mono (fun _ _ q => q.elim))
            have Sz_wj2 : (fun w' : World => w'.cell? ⟨go, i, none⟩ = some (.string (sB (opD i))) ∧ w'.cell? ⟨go, j, none⟩ = some (.string (sB (opD j))) ∧ w'.cell? ⟨gx, 0, none⟩ = some (.int .i64 6) ∧ w'.cell? ⟨gx, 1, none⟩ = some (.int .i64 0) ∧ w'.cell? ⟨gx, 2, none⟩ = some (.string (sB [])) ∧ w'.cell? ⟨gx, 3, none⟩ = some (.string (sB [45])) ∧ w'.cell? ⟨gx, 4, none⟩ = some (.slice (some ⟨W2.heap.size, 0, none⟩) 1 1)) (wj2.alloc (.cells #[.int .i64 0, .int .i64 0, .string ⟨#[]⟩, .string ⟨#[]⟩, .slice none 0 0] 42)) := HSK2.out _ ((k4.out.trans ((Keeps.refl wj2 (fun _ => False)).alloc (.cells #[.int .i64 0, .int .i64 0, .string ⟨#[]⟩, .string ⟨#[]⟩, .slice none 0 0] 42)) (fun _ _ q => q)).mono (fun _ _ q => q.elim))
            obtain ⟨⟨z0, z1, z2, z3, z4⟩, y0, y1, y2, y3, y4⟩ := hz.out.1.cells
            have hge := hz.out.2.1
            have S_f := HSK2.out _ ((((((k4.out.mono (fun _ _ q => q.elim) : Keeps W11 wj2 (fun k => W11.heap.size ≤ k)).setCell ⟨_, 0, none⟩ (fun _ => hge) (.int .i64 7)).setCell ⟨_, 1, none⟩ (fun _ => hge) (.int .i64 0)).setCell ⟨_, 2, none⟩ (fun _ => hge) (.string (sB []))).setCell ⟨_, 3, none⟩ (fun _ => hge) (.string (sB (opD j)))).setCell ⟨_, 4, none⟩ (fun _ => hge) (.slice (some ⟨g2, 0, none⟩) 2 2))
            clear kn hXj hz0 hge kAl))
        · rename_i hh
          clear hh
          refine alloc1 (P := fun W => _) fun W12 h12 hz12 k12 => ?_
          have HM : Hid (Tm W11 W12 wj2.heap.size g2 j (exBin (opD j) (exBin (opD i) (oneD true) (exNum 2)) (exNum 3))) := hide ⟨k4.out.trans k12 (fun _ _ q => q), h12, (HJ2.out.keeps k12 (fun _ _ q => q)).mono (fun i hi => Nat.ne_of_lt hi.2), k4.out.size⟩
          clear h12 hz12 k12 HJ1 HJ3 HJ2 Sv
          revert HM
          generalize wj2.heap.size = gw
          revert gw
          revert W12
          revert g2
          revert g1
          exact hrest.out
        · rename_i hh
          clear hh S_f
          refine set5 (P := fun W => _) hz.out.1 fun W12 h12 k12 => ?_
          have HM : Hid (Tm W11 W12 wn3.heap.size g2 j (exBin (opD j) (exBin (opD i) (oneD true) (exNum 2)) (exNum 3))) := hide ⟨k4.out.trans k12 (fun i hi q => by have := hz.out.2.1; omega), h12, HJ2.out.keeps k12 (fun i hi => hi), hz.out.2.1⟩
          clear h12 k12 HJ1 HJ3 HJ2 z0 z1 z2 z3 z4 y0 y1 y2 y3 y4
          revert HM
          generalize wn3.heap.size = gw
          revert gw
          revert W12
          revert g2
          revert g1
          exact hrest.out
        · rename_i hh
          clear hh S_f
          refine set5 (P := fun W => _) hz.out.1 fun W12 h12 k12 => ?_
          have HM : Hid (Tm W11 W12 wj1.heap.size g2 j (exBin (opD j) (exBin (opD i) (oneD true) (exNum 2)) (exNum 3))) := hide ⟨k4.out.trans k12 (fun i hi q => by have := hz.out.2.1; omega), h12, HJ2.out.keeps k12 (fun i hi => hi), hz.out.2.1⟩
          clear h12 k12 HJ1 HJ3 HJ2 z0 z1 z2 z3 z4 y0 y1 y2 y3 y4
          revert HM
          generalize wj1.heap.size = gw
          revert gw
          revert W12
          revert g2
          revert g1
          exact hrest.out
        · rename_i hh
          clear hh S_f
          refine set5 (P := fun W => _) hz.out.1 fun W12 h12 k12 => ?_
          have HM : Hid (Tm W11 W12 wn2.heap.size g2 j (exBin (opD j) (exBin (opD i) (oneD true) (exNum 2)) (exNum 3))) := hide ⟨k4.out.trans k12 (fun i hi q => by have := hz.out.2.1; omega), h12, HJ2.out.keeps k12 (fun i hi => hi), hz.out.2.1⟩
          clear h12 k12 HJ1 HJ3 HJ2 z0 z1 z2 z3 z4 y0 y1 y2 y3 y4
          revert HM
          generalize wn2.heap.size = gw
          revert gw
          revert W12
          revert g2
          revert g1
          exact hrest.out
        · rename_i hh
          clear hh S_f
          refine set5 (P := fun W => _) hz.out.1 fun W12 h12 k12 => ?_
          have HM : Hid (Tm W11 W12 W11.heap.size g2 j (exBin (opD j) (exBin (opD i) (oneD true) (exNum 2)) (exNum 3))) := hide ⟨k4.out.trans k12 (fun i hi q => by have := hz.out.2.1; omega), h12, HJ2.out.keeps k12 (fun i hi => hi), hz.out.2.1⟩
          clear h12 k12 HJ1 HJ3 HJ2 z0 z1 z2 z3 z4 y0 y1 y2 y3 y4
          revert HM
          generalize W11.heap.size = gw
          revert gw
          revert W12
          revert g2
          revert g1
          exact hrest.out
      clear S0 S0z hnZ kD kZ HSK2 HO1
      intro g1 g2 W12 gw HM
      go_upto_region 13 with fail
      have q1 := heap_lt HF.out.row
      have q2 := heap_lt HF.out.one
      have q3 := HM.out.ge
      have HSK3 : Hid (∀ W' : World, Keeps W12 W' (fun k => k = gw) → (fun w' : World => w'.cell? ⟨go, i, none⟩ = some (.string (sB (opD i))) ∧ w'.cell? ⟨go, j, none⟩ = some (.string (sB (opD j))) ∧ w'.cell? ⟨gx, 0, none⟩ = some (.int .i64 6) ∧ w'.cell? ⟨gx, 1, none⟩ = some (.int .i64 0) ∧ w'.cell? ⟨gx, 2, none⟩ = some (.string (sB [])) ∧ w'.cell? ⟨gx, 3, none⟩ = some (.string (sB [45])) ∧ w'.cell? ⟨gx, 4, none⟩ = some (.slice (some ⟨W2.heap.size, 0, none⟩) 1 1)) W') := hide (fun W' k => by
        have kk := HM.out.kp
        have e1 := (k.block _ (heap_lt (kblk kk HF.out.row)) (fun q => by omega)).trans (kblk kk HF.out.row)
        have e2 : Xc W' gx _ _ _ _ _ := (k.block _ (heap_lt (kblk kk HF.out.one)) (fun q => by omega)).trans (kblk kk HF.out.one)
        exact ⟨row_at e1 i HIJ.out.1, row_at e1 j HIJ.out.2, e2.cells.1⟩)
      have kD := hide ((Keeps.refl W12 (fun _ => False)).drew)
      have S0 : (fun w' : World => w'.cell? ⟨go, i, none⟩ = some (.string (sB (opD i))) ∧ w'.cell? ⟨go, j, none⟩ = some (.string (sB (opD j)))) W12.drew := ⟨(HSK3.out _ (kD.out.mono (fun _ _ q => q.elim))).1, (HSK3.out _ (kD.out.mono (fun _ _ q => q.elim))).2.1⟩
      by_cases hlt : strD i < strD j
      · have hlt' : (strD i : Int) < (strD j : Int) := by omega
        go_region_held3 (fun w' : World => w'.cell? ⟨go, i, none⟩ = some (.string (sB (opD i))) ∧ w'.cell? ⟨go, j, none⟩ = some (.string (sB (opD j)))) (with_reducible assumption) (first
         | (go_at_call 16
            (with_reducible refine (strength_any i HIJ.out.1 _).mono ?_)
            rintro e wx ⟨rfl, rfl⟩)
         | (go_at_call 16
            (with_reducible refine (strength_any j HIJ.out.2 _).mono ?_)
            rintro e wx ⟨rfl, rfl⟩))
        have hw : wantD i j true = exBin (opD i) (oneD true) (exBin (opD j) (exNum 2) (exNum 3)) := by unfold wantD; rw [if_pos hlt]
        clear S0 hlt'
        go_upto_region 14 with fail
        have HO2 : Hid (∀ W', Keeps W12 W' (fun _ => False) → ExC W' (fun k => k ≠ gw) (oneD true) [.int .i64 6, .int .i64 0, .string (sB []), .string (sB [45]), .slice (some ⟨W2.heap.size, 0, none⟩) 1 1]) := hide (fun W' k => (HF.out.oneE.under.keeps (HM.out.kp.trans k (fun _ _ q => q)) (fun _ _ q => q)).mono (fun i hi => by have := hi.2; show i ≠ _; omega))
        have hg12 := heap_lt HM.out.box
        have k2D := hide (kD.out.drew)
        have S0 : (fun w' : World => w'.cell? ⟨go, i, none⟩ = some (.string (sB (opD i))) ∧ w'.cell? ⟨go, j, none⟩ = some (.string (sB (opD j))) ∧ w'.cell? ⟨gx, 0, none⟩ = some (.int .i64 6) ∧ w'.cell? ⟨gx, 1, none⟩ = some (.int .i64 0) ∧ w'.cell? ⟨gx, 2, none⟩ = some (.string (sB [])) ∧ w'.cell? ⟨gx, 3, none⟩ = some (.string (sB [45])) ∧ w'.cell? ⟨gx, 4, none⟩ = some (.slice (some ⟨W2.heap.size, 0, none⟩) 1 1)) W12.drew.drew := HSK3.out _ (k2D.out.mono (fun _ _ q => q.elim))
        go_region_held3 (fun w' : World => w'.cell? ⟨go, i, none⟩ = some (.string (sB (opD i))) ∧ w'.cell? ⟨go, j, none⟩ = some (.string (sB (opD j))) ∧ w'.cell? ⟨gx, 0, none⟩ = some (.int .i64 6) ∧ w'.cell? ⟨gx, 1, none⟩ = some (.int .i64 0) ∧ w'.cell? ⟨gx, 2, none⟩ = some (.string (sB [])) ∧ w'.cell? ⟨gx, 3, none⟩ = some (.string (sB [45])) ∧ w'.cell? ⟨gx, 4, none⟩ = some (.slice (some ⟨W2.heap.size, 0, none⟩) 1 1)) (first | with_reducible assumption | exact S_f) (first
         | (go_at_call 14
            (with_reducible refine (num_any 2 W12.drew.drew).mono ?_)
            rintro e wm2 ⟨rfl, kn⟩
            have k2 := hide (k2D.out.trans kn (fun _ _ q => q))
            have S_2 : (fun w' : World => w'.cell? ⟨go, i, none⟩ = some (.string (sB (opD i))) ∧ w'.cell? ⟨go, j, none⟩ = some (.string (sB (opD j))) ∧ w'.cell? ⟨gx, 0, none⟩ = some (.int .i64 6) ∧ w'.cell? ⟨gx, 1, none⟩ = some (.int .i64 0) ∧ w'.cell? ⟨gx, 2, none⟩ = some (.string (sB [])) ∧ w'.cell? ⟨gx, 3, none⟩ = some (.string (sB [45])) ∧ w'.cell? ⟨gx, 4, none⟩ = some (.slice (some ⟨W2.heap.size, 0, none⟩) 1 1)) wm2 := HSK3.out _ (k2.out.mono (fun _ _ q => q.elim))
            clear kn)
         | (go_at_call 14
            (with_reducible refine (num_any 3 wm2).mono ?_)
            rintro e wm3 ⟨rfl, kn⟩
            have k3 := hide (k2.out.trans kn (fun _ _ q => q))
            have S_3 : (fun w' : World => w'.cell? ⟨go, i, none⟩ = some (.string (sB (opD i))) ∧ w'.cell? ⟨go, j, none⟩ = some (.string (sB (opD j))) ∧ w'.cell? ⟨gx, 0, none⟩ = some (.int .i64 6) ∧ w'.cell? ⟨gx, 1, none⟩ = some (.int .i64 0) ∧ w'.cell? ⟨gx, 2, none⟩ = some (.string (sB [])) ∧ w'.cell? ⟨gx, 3, none⟩ = some (.string (sB [45])) ∧ w'.cell? ⟨gx, 4, none⟩ = some (.slice (some ⟨W2.heap.size, 0, none⟩) 1 1)) wm3 := HSK3.out _ (k3.out.mono (fun _ _ q => q.elim))
            clear kn)
         | (go_at_call 17
            have hj := (join_any (opD j) (x := exNum 2) (y := exNum 3) (Pd := fun k => k ≠ gw) wm3 (ExC.mk ArgsV.nil) (ExC.mk ArgsV.nil) (fun i hi => by have := k3.out.size; have q : _ ≤ i := hi; show i ≠ _; omega))
            (with_reducible refine hj.mono ?_)
            clear hj
            rintro e wj3 ⟨g3, rfl, hXj, kn⟩
            have k4 := hide (k3.out.trans kn (fun _ _ q => q))
            have HJ3 := hide hXj
            have S_4 : (fun w' : World => w'.cell? ⟨go, i, none⟩ = some (.string (sB (opD i))) ∧ w'.cell? ⟨go, j, none⟩ = some (.string (sB (opD j))) ∧ w'.cell? ⟨gx, 0, none⟩ = some (.int .i64 6) ∧ w'.cell? ⟨gx, 1, none⟩ = some (.int .i64 0) ∧ w'.cell? ⟨gx, 2, none⟩ = some (.string (sB [])) ∧ w'.cell? ⟨gx, 3, none⟩ = some (.string (sB [45])) ∧ w'.cell? ⟨gx, 4, none⟩ = some (.slice (some ⟨W2.heap.size, 0, none⟩) 1 1)) wj3 := HSK3.out _ (k4.out.mono (fun _ _ q => q.elim))
            clear kn hXj)
         | (go_at_call 17
            have hj := (join_any (opD i) (x := oneD true) (y := exBin (opD j) (exNum 2) (exNum 3)) wj3 (HO2.out _ k4.out) HJ3.out (fun i hi => by have := k4.out.size; have q : _ ≤ i := hi; show i ≠ _; omega))
            (with_reducible refine hj.mono ?_)
            clear hj
            rintro e wj4 ⟨g4, rfl, hXj, kn⟩
            have k5 := hide (k4.out.trans kn (fun _ _ q => q))
            have HJ4 := hide hXj
            have hb := HM.out.box.keeps k5.out id
            have HB := hide hb
            obtain ⟨⟨z0, z1, z2, z3, z4⟩, y0, y1, y2, y3, y4⟩ := hb.cells
            have S_5 : (fun w' : World => w'.cell? ⟨go, i, none⟩ = some (.string (sB (opD i))) ∧ w'.cell? ⟨go, j, none⟩ = some (.string (sB (opD j))) ∧ w'.cell? ⟨gx, 0, none⟩ = some (.int .i64 6) ∧ w'.cell? ⟨gx, 1, none⟩ = some (.int .i64 0) ∧ w'.cell? ⟨gx, 2, none⟩ = some (.string (sB [])) ∧ w'.cell? ⟨gx, 3, none⟩ = some (.string (sB [45])) ∧ w'.cell? ⟨gx, 4, none⟩ = some (.slice (some ⟨W2.heap.size, 0, none⟩) 1 1)) wj4 := HSK3.out _ (k5.out.mono (fun _ _ q => q.elim))
            have S_f := HSK3.out _ ((((((k5.out.mono (fun _ _ q => q.elim) : Keeps W12 wj4 (fun k => k = gw)).setCell ⟨gw, 0, none⟩ (fun _ => rfl) (.int .i64 7)).setCell ⟨gw, 1, none⟩ (fun _ => rfl) (.int .i64 0)).setCell ⟨gw, 2, none⟩ (fun _ => rfl) (.string (sB []))).setCell ⟨gw, 3, none⟩ (fun _ => rfl) (.string (sB (opD i)))).setCell ⟨gw, 4, none⟩ (fun _ => rfl) (.slice (some ⟨g4, 0, none⟩) 2 2))
            clear kn hXj hb))
        rename_i hh
        clear hh S_f
        refine set5 (P := fun W => _) HB.out fun W14 h14 k14 => ?_
        have HX : Hid (Xc W14 gw (.int .i64 7) (.int .i64 0) (.string (sB [])) (.string (sB (opD i))) (.slice (some ⟨g4, 0, none⟩) 2 2)) := hide h14
        have HE := hide (HJ4.out.keeps k14 (fun i hi => hi))
        have HK := hide ((HF.out.kp.trans (HM.out.kp.trans k5.out (fun _ _ q => q)) (fun _ _ q => q)).trans k14 (fun i hi q => by have := (HF.out.kp).size; omega))
        have HKP := hide ((k5.out.mono (fun _ _ q => q.elim) : Keeps W12 wj4 (fun k => k = gw)).trans k14 (fun _ _ q => q))
        have HBX : Hid (P2 W14 gp (.slice ma mb mc) (.slice la lb lc)) := hide ((HF.out.box.keeps HM.out.kp id).keeps HKP.out (fun q => by have := HF.out.box.lt; omega))
        have HPW : Hid (∃ B, PgG B ⟨[], [.mk 5 [] [] [] [wantD i j true] [] []]⟩ (.agg #[.slice ma mb mc, .slice la lb lc]) W14) := hide (by
          obtain ⟨B, m1, l1, e1, hm1, hl1⟩ := HPG.out
          have kk : Keeps W11 W14 (fun k => W11.heap.size ≤ k) := (HM.out.kp.mono (fun _ _ q => q.elim)).trans (HKP.out.mono (fun i _ q => by show W11.heap.size ≤ i; omega)) (fun _ _ q => q)
          exact ⟨B, m1, l1, e1, hm1.keepsUnder kk, hl1.keepsUnder kk⟩)
        clear S0 HJ3 HJ4 HB k14 h14 z0 z1 z2 z3 z4 y0 y1 y2 y3 y4 S_2 S_3 S_4 S_5
        go_upto_region 15 with fail
        obtain ⟨⟨c0, c1⟩, -⟩ := HBX.out.cells
        obtain ⟨⟨d0, d1, d2, d3, d4⟩, -⟩ := HX.out.cells
        have kB := ((Keeps.refl W14 (fun _ => False)).alloc (.cells #[.int .i64 7, .int .i64 0, .string (sB []), .string (sB (opD i)), .slice (some ⟨g4, 0, none⟩) 2 2] 42)).alloc (.cells #[.int .i64 5, .string ⟨#[]⟩, .string ⟨#[]⟩, .string ⟨#[]⟩, .slice (some ⟨W14.heap.size, 0, none⟩) 1 1, .slice none 0 0, .slice none 0 0] 49)
        have hn1 := heap_old2 W14 (.cells #[.int .i64 7, .int .i64 0, .string (sB []), .string (sB (opD i)), .slice (some ⟨g4, 0, none⟩) 2 2] 42) (.cells #[.int .i64 5, .string ⟨#[]⟩, .string ⟨#[]⟩, .string ⟨#[]⟩, .slice (some ⟨W14.heap.size, 0, none⟩) 1 1, .slice none 0 0, .slice none 0 0] 49)
        have hn2 := heap_new2 W14 (.cells #[.int .i64 7, .int .i64 0, .string (sB []), .string (sB (opD i)), .slice (some ⟨g4, 0, none⟩) 2 2] 42) (.cells #[.int .i64 5, .string ⟨#[]⟩, .string ⟨#[]⟩, .string ⟨#[]⟩, .slice (some ⟨W14.heap.size, 0, none⟩) 1 1, .slice none 0 0, .slice none 0 0] 49)
        have hsm : Calls Tryd.prog 10 #[.agg #[.slice ma mb mc, .slice la lb lc], .agg #[.slice none 0 0, .slice (some ⟨W14.heap.size + 1, 0, none⟩) 1 1]] ((W14.alloc (.cells #[.int .i64 7, .int .i64 0, .string (sB []), .string (sB (opD i)), .slice (some ⟨g4, 0, none⟩) 2 2] 42)).alloc (.cells #[.int .i64 5, .string ⟨#[]⟩, .string ⟨#[]⟩, .string ⟨#[]⟩, .slice (some ⟨W14.heap.size, 0, none⟩) 1 1, .slice none 0 0, .slice none 0 0] 49)) fun e w' => e = .returned (.bool true) ∧ Keeps ((W14.alloc (.cells #[.int .i64 7, .int .i64 0, .string (sB []), .string (sB (opD i)), .slice (some ⟨g4, 0, none⟩) 2 2] 42)).alloc (.cells #[.int .i64 5, .string ⟨#[]⟩, .string ⟨#[]⟩, .string ⟨#[]⟩, .slice (some ⟨W14.heap.size, 0, none⟩) 1 1, .slice none 0 0, .slice none 0 0] 49)) w' (fun _ => False) := by
          obtain ⟨B, m1, l1, e1, hm1, hl1⟩ := HPW.out
          exact same_true _ (want_small i j true) _ B 0 _ _ ⟨m1, l1, e1, hm1.keeps kB (fun _ _ q => q), StsV.keeps kB (fun _ _ q => q) hl1⟩
            ⟨_, _, rfl, StrsR.nil _ _, StsV.some (l := [_]) (Nat.zero_le _) (heap_lt hn2) (Nat.le_refl _) (range_blk hn2) (StsC.cons (StC.mk (ArgsV.some (args := [_]) (Nat.zero_le _) (heap_lt hn1) (Nat.le_refl _) (range_blk hn1) (ExsC.cons ((show ExC W14 _ (wantD i j true) _ by rw [hw]; exact HE.out).keeps kB (fun _ _ q => q) |>.mono (fun _ _ => Nat.zero_le _)) ExsC.nil)) StsV.nil StsV.nil) StsC.nil)⟩
        have HKB := hide kB
        clear hn1 hn2 kB
        go_wp2_with (go_at_call 10; (with_reducible refine hsm.mono ?_); rintro e wz ⟨rfl, kz⟩)
        go_ret
        exact ⟨rfl, (HK.out.trans HKB.out (fun _ _ q => q)).trans kz (fun _ _ q => q)⟩
      · have hlt' : ¬ (strD i : Int) < (strD j : Int) := by omega
        go_region_held3 (fun w' : World => w'.cell? ⟨go, i, none⟩ = some (.string (sB (opD i))) ∧ w'.cell? ⟨go, j, none⟩ = some (.string (sB (opD j)))) (with_reducible assumption) (first
         | (go_at_call 16
            (with_reducible refine (strength_any i HIJ.out.1 _).mono ?_)
            rintro e wx ⟨rfl, rfl⟩)
         | (go_at_call 16
            (with_reducible refine (strength_any j HIJ.out.2 _).mono ?_)
            rintro e wx ⟨rfl, rfl⟩))
        have hw : wantD i j true = exBin (opD j) (exBin (opD i) (oneD true) (exNum 2)) (exNum 3) := by unfold wantD; rw [if_neg hlt]
        clear S0 hlt'
        go_upto_region 15 with fail
        have HX : Hid (Xc W12.drew gw (.int .i64 7) (.int .i64 0) (.string (sB [])) (.string (sB (opD j))) (.slice (some ⟨g2, 0, none⟩) 2 2)) := hide (HM.out.box.keeps kD.out id)
        have HE := hide (HM.out.ex.keeps kD.out (fun _ _ q => q))
        have HK := hide ((HF.out.kp.trans HM.out.kp (fun _ _ q => q)).trans kD.out (fun _ _ q => q))
        have HBX : Hid (P2 W12.drew gp (.slice ma mb mc) (.slice la lb lc)) := hide ((HF.out.box.keeps HM.out.kp id).keeps kD.out id)
        have HPW : Hid (∃ B, PgG B ⟨[], [.mk 5 [] [] [] [wantD i j true] [] []]⟩ (.agg #[.slice ma mb mc, .slice la lb lc]) W12.drew) := hide (by
          obtain ⟨B, m1, l1, e1, hm1, hl1⟩ := HPG.out
          have kk := HM.out.kp.trans kD.out (fun _ _ q => q)
          exact ⟨B, m1, l1, e1, hm1.keeps kk (fun _ _ q => q), StsV.keeps kk (fun _ _ q => q) hl1⟩)
        generalize W12.drew = W13 at *
        obtain ⟨⟨c0, c1⟩, -⟩ := HBX.out.cells
        obtain ⟨⟨d0, d1, d2, d3, d4⟩, -⟩ := HX.out.cells
        have kB := ((Keeps.refl W13 (fun _ => False)).alloc (.cells #[.int .i64 7, .int .i64 0, .string (sB []), .string (sB (opD j)), .slice (some ⟨g2, 0, none⟩) 2 2] 42)).alloc (.cells #[.int .i64 5, .string ⟨#[]⟩, .string ⟨#[]⟩, .string ⟨#[]⟩, .slice (some ⟨W13.heap.size, 0, none⟩) 1 1, .slice none 0 0, .slice none 0 0] 49)
        have hn1 := heap_old2 W13 (.cells #[.int .i64 7, .int .i64 0, .string (sB []), .string (sB (opD j)), .slice (some ⟨g2, 0, none⟩) 2 2] 42) (.cells #[.int .i64 5, .string ⟨#[]⟩, .string ⟨#[]⟩, .string ⟨#[]⟩, .slice (some ⟨W13.heap.size, 0, none⟩) 1 1, .slice none 0 0, .slice none 0 0] 49)
        have hn2 := heap_new2 W13 (.cells #[.int .i64 7, .int .i64 0, .string (sB []), .string (sB (opD j)), .slice (some ⟨g2, 0, none⟩) 2 2] 42) (.cells #[.int .i64 5, .string ⟨#[]⟩, .string ⟨#[]⟩, .string ⟨#[]⟩, .slice (some ⟨W13.heap.size, 0, none⟩) 1 1, .slice none 0 0, .slice none 0 0] 49)
        have hsm : Calls Tryd.prog 10 #[.agg #[.slice ma mb mc, .slice la lb lc], .agg #[.slice none 0 0, .slice (some ⟨W13.heap.size + 1, 0, none⟩) 1 1]] ((W13.alloc (.cells #[.int .i64 7, .int .i64 0, .string (sB []), .string (sB (opD j)), .slice (some ⟨g2, 0, none⟩) 2 2] 42)).alloc (.cells #[.int .i64 5, .string ⟨#[]⟩, .string ⟨#[]⟩, .string ⟨#[]⟩, .slice (some ⟨W13.heap.size, 0, none⟩) 1 1, .slice none 0 0, .slice none 0 0] 49)) fun e w' => e = .returned (.bool true) ∧ Keeps ((W13.alloc (.cells #[.int .i64 7, .int .i64 0, .string (sB []), .string (sB (opD j)), .slice (some ⟨g2, 0, none⟩) 2 2] 42)).alloc (.cells #[.int .i64 5, .string ⟨#[]⟩, .string ⟨#[]⟩, .string ⟨#[]⟩, .slice (some ⟨W13.heap.size, 0, none⟩) 1 1, .slice none 0 0, .slice none 0 0] 49)) w' (fun _ => False) := by
          obtain ⟨B, m1, l1, e1, hm1, hl1⟩ := HPW.out
          exact same_true _ (want_small i j true) _ B 0 _ _ ⟨m1, l1, e1, hm1.keeps kB (fun _ _ q => q), StsV.keeps kB (fun _ _ q => q) hl1⟩
            ⟨_, _, rfl, StrsR.nil _ _, StsV.some (l := [_]) (Nat.zero_le _) (heap_lt hn2) (Nat.le_refl _) (range_blk hn2) (StsC.cons (StC.mk (ArgsV.some (args := [_]) (Nat.zero_le _) (heap_lt hn1) (Nat.le_refl _) (range_blk hn1) (ExsC.cons ((show ExC W13 _ (wantD i j true) _ by rw [hw]; exact HE.out).keeps kB (fun _ _ q => q) |>.mono (fun _ _ => Nat.zero_le _)) ExsC.nil)) StsV.nil StsV.nil) StsC.nil)⟩
        have HKB := hide kB
        clear hn1 hn2 kB
        go_wp2_with (go_at_call 10; (with_reducible refine hsm.mono ?_); rintro e wz ⟨rfl, kz⟩)
        go_ret
        exact ⟨rfl, (HK.out.trans HKB.out (fun _ _ q => q)).trans kz (fun _ _ q => q)⟩
end Lg
end Go.Proofs.YtlpfnikhnchpdaaDoor
