/-
  code: CodeWrites, its walk.
-/
import Derived.Test.YtnicbillhlhmmaaDoorCW20
import Derived.Test.YtnicbillhlhmmaaDoorCW19
namespace Go.Proofs.YtnicbillhlhmmaaDoor
namespace Cw
open Go.RowKit
set_option linter.unusedVariables false
theorem eq_self (S : ByteArray) : (S.toList == S.toList) = true := by simp
set_option maxRecDepth 100000 in
set_option maxHeartbeats 4000000 in
theorem writes_walk (v m : Int) (sl : Value) (is : List In) (w : World) (hT : TabW w) (hF : FormsAt w) (hE : ErrW w) (hv : Fit v) (hm : Fit m) (hi : ∀ x, x ∈ is → x.fit) (hs : InsV w sl is) (hlen : is.length ≤ 1048576) :
    Calls Tryd.prog 3 #[cdV v m sl] w fun e w' => e = .returned (.bool true) ∧ Keeps w w' (fun _ => False) := by
  obtain ⟨p, c, hse, -⟩ := id hs
  obtain ⟨W1, hW1⟩ : ∃ W1, W1 = w.alloc (.cells #[.int .i64 v, .int .i64 m, sl] 24) := ⟨_, rfl⟩
  have k1 : Keeps w W1 (fun _ => False) := by rw [hW1]; exact (Keeps.refl _ _).alloc _
  have hbox : CdB W1 w.heap.size v m sl := by rw [hW1]; exact heap_alloc_new _ _
  have hLe := lent_any v m sl is W1 (hs.keeps k1) hlen
  have HS := hide (And.intro hT (And.intro hF (And.intro hE (And.intro hv (And.intro hm (And.intro hi (And.intro hs hlen)))))))
  have HB := hide (And.intro k1 hbox)
  obtain ⟨⟨c0, c1, c2⟩, -⟩ := hbox.cells
  clear hT hF hE hv hm hi hs hlen k1 hbox
  obtain ⟨T, hTT⟩ : ∃ T, sB (textC ⟨v, m, is⟩) = T := ⟨_, rfl⟩
  have HT := hide hTT
  clear hTT
  subst hse
  unfold cdV at *
  rw [hW1] at c0 c1 c2
  go_enter Tryd.func3, Tryd.ntmps3
  go_wp2_with fail
  rw [← hW1]
  refine hLe.mono ?_
  rintro e w2 ⟨r, rfl, hr, k2⟩
  obtain ⟨g, cc, hre, -⟩ := hr.mark
  subst hre
  unfold cdV
  obtain ⟨W3, hW3⟩ : ∃ W3, W3 = w2.alloc (.cells #[.int .i64 v, .int .i64 m, .slice (some ⟨g, 0, none⟩) is.length cc] 24) := ⟨_, rfl⟩
  have k3 : Keeps w2 W3 (fun _ => False) := by rw [hW3]; exact (Keeps.refl _ _).alloc _
  have hx3 : CdB W3 w2.heap.size v m (.slice (some ⟨g, 0, none⟩) is.length cc) := by rw [hW3]; exact heap_alloc_new _ _
  have k13 : Keeps W1 W3 (fun _ => False) := k2.trans k3 (fun _ _ e => e)
  have hr3 := hr.keeps k3
  obtain ⟨hT, hF, hE, hv, hm, hi, hs, hlen⟩ := HS.out
  have k03 : Keeps w W3 (fun _ => False) := HB.out.1.trans k13 (fun _ _ e => e)
  have hTx := text_any v m _ is W3 (hT.keeps k03) (hF.keeps k03) hv hm hi hr3.ins hlen
  rw [HT.out] at hTx
  obtain ⟨⟨x0, x1, x2⟩, -⟩ := hx3.cells
  have H3 := hide (And.intro k13 (And.intro k03 (And.intro hx3 hr3)))
  clear hLe hr k2 k3 hx3 k13 hr3 hT hF hE hv hm hi hs hlen k03 c0 c1 c2
  rw [hW3] at x0 x1 x2
  unfold cdV at hTx
  go_wp2_with fail
  rw [← hW3]
  clear hW3 x0 x1 x2 hW1
  refine hTx.mono ?_
  rintro e w4 ⟨rfl, k4⟩
  obtain ⟨k13, k03, hx3, hr3⟩ := H3.out
  obtain ⟨hT, hF, hE, hv, hm, hi, hs, hlen⟩ := HS.out
  have k14 := k13.trans k4 (fun _ _ e => e)
  have k04 := k03.trans k4 (fun _ _ e => e)
  have hb4 : CdB w4 w.heap.size v m (.slice p is.length c) := (k14.block _ (heap_lt HB.out.2) id).trans HB.out.2
  have hRT := rtext_any v m _ is w4 hv hm hi (hs.keeps k04) hlen
  rw [HT.out] at hRT
  obtain ⟨⟨b0, b1, b2⟩, -⟩ := hb4.cells
  have H4 := hide (And.intro k04 (And.intro hb4 (And.intro ((k4.block _ (heap_lt hx3) id).trans hx3) (hr3.keeps k4))))
  clear hTx k4 k13 k03 hx3 hr3 hT hF hE hv hm hi hs hlen k14 k04 hb4 H3
  unfold cdV at hRT
  have heq := eq_self T
  go_wp2_with fail
  (with_reducible refine hRT.mono ?_)
  rintro e w5 ⟨rfl, k5⟩
  obtain ⟨k04, hb4, hx4, hr4⟩ := H4.out
  obtain ⟨hT, hF, hE, hv, hm, hi, hs, hlen⟩ := HS.out
  have k05 := k04.trans k5 (fun _ _ e => e)
  have hb5 : CdB w5 w.heap.size v m (.slice p is.length c) := (k5.block _ (heap_lt hb4) id).trans hb4
  have hx5 : CdB w5 w2.heap.size v m (.slice (some ⟨g, 0, none⟩) is.length cc) := (k5.block _ (heap_lt hx4) id).trans hx4
  have hKp := kept_any v m _ _ _ is w5 (hr4.keeps k5) (hs.keeps k05) hlen
  obtain ⟨⟨b0, b1, b2⟩, -⟩ := hb5.cells
  obtain ⟨⟨x0, x1, x2⟩, -⟩ := hx5.cells
  have H5 := hide (And.intro k05 hb5)
  clear hRT k5 k04 hb4 hx4 hr4 hT hF hE hv hm hi hs hlen k05 hb5 hx5 H4
  unfold cdV at hKp
  go_wp2_with fail
  (with_reducible refine hKp.mono ?_)
  rintro e w6 ⟨rfl, k6⟩
  have k06 := H5.out.1.trans k6 (fun _ _ e => e)
  have hb6 : CdB w6 w.heap.size v m (.slice p is.length c) := (k6.block _ (heap_lt H5.out.2) id).trans H5.out.2
  have H6 := hide (And.intro k06 hb6)
  clear hKp k6 k06 hb6 b0 b1 b2 x0 x1 x2 H5
  by_cases hbig : (T.size : Int) > 1048576
  · go_wp2_with fail
    go_ret
    exact ⟨rfl, H6.out.1⟩
  · obtain ⟨hT, hF, hE, hv, hm, hi, hs, hlen⟩ := HS.out
    have hA := assemble_any (textC ⟨v, m, is⟩) w6 (hF.keeps H6.out.1) (hE.keeps H6.out.1)
    have hsz : (textC ⟨v, m, is⟩).length ≤ 1048576 := by
      have : (sB (textC ⟨v, m, is⟩)).size = (textC ⟨v, m, is⟩).length := rfl
      rw [HT.out] at this
      omega
    rw [asm_text ⟨v, m, is⟩ ⟨hv, hm, hi⟩ hsz, HT.out] at hA
    clear hsz hT hF hE hv hm hi hs hlen
    go_wp2_with fail
    (with_reducible refine hA.mono ?_)
    rintro e w7 ⟨k7, sd, rfl, own⟩
    obtain ⟨dp, dl, dc, rfl⟩ := own_form own
    unfold cdV
    dsimp only
    obtain ⟨W8, hW8⟩ : ∃ W8, W8 = w7.alloc (.cells #[.int .i64 v, .int .i64 m, .slice dp dl dc] 24) := ⟨_, rfl⟩
    have k8 : Keeps w7 W8 (fun _ => False) := by rw [hW8]; exact (Keeps.refl _ _).alloc _
    have k68 : Keeps w6 W8 (fun _ => False) := k7.trans k8 (fun _ _ e => e)
    have k08 := H6.out.1.trans k68 (fun _ _ e => e)
    have hb8 : CdB W8 w.heap.size v m (.slice p is.length c) := (k68.block _ (heap_lt H6.out.2) id).trans H6.out.2
    have hd8 : CdB W8 w7.heap.size v m (.slice dp dl dc) := by rw [hW8]; exact heap_alloc_new _ _
    have hSm := same_same v m _ _ is W8 ((own_ins own).keeps k8) (HS.out.2.2.2.2.2.2.1.keeps k08) (by have := HS.out.2.2.2.2.2.2.2; omega)
    obtain ⟨⟨b0, b1, b2⟩, -⟩ := hb8.cells
    obtain ⟨⟨x0, x1, x2⟩, -⟩ := hd8.cells
    have H8 := hide k08
    clear hA own k7 k8 k68 k08 hb8 hd8
    unfold cdV at hSm
    rw [hW8] at b0 b1 b2 x0 x1 x2
    go_wp2_with fail
    rw [← hW8]
    clear hW8 b0 b1 b2 x0 x1 x2
    refine hSm.mono ?_
    rintro e w9 ⟨rfl, k9⟩
    have HF := hide (H8.out.trans k9 (fun _ _ e => e))
    clear hSm k9
    go_wp2_with fail
    go_ret
    exact ⟨rfl, HF.out⟩
end Cw
end Go.Proofs.YtnicbillhlhmmaaDoor
