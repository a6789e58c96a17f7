/-
  script: the law's reads: the program's Parse beside the reference's.
-/
import Derived.Test.YtfpiibccggjjpaaDoorHSVM
import Derived.Test.YtfpiibccggjjpaaDoorHSR8
import Derived.Test.YtfpiibccggjjpaaDoorUn13
namespace Go.Proofs.YtfpiibccggjjpaaDoor
open Go.RowKit
set_option linter.unusedVariables false
def RPar : Prop := ∀ (s : ByteArray) (hs : s.size ≤ 9223372036854775807) (w : World), Calls Tryd.prog 27 #[.string s] w fun e w' => PaT (parseD s.data.toList) w e w'

set_option maxRecDepth 100000 in
set_option maxHeartbeats 8000000 in
theorem reads_any (HP : RPar) (s : ByteArray) (hs : s.size ≤ 9223372036854775807) (w : World) (hR : RowsF w) (he : ErrW w) : Calls Tryd.prog 14 #[.string s] w fun e w' => e = .returned (.bool true) ∧ Keeps w w' (fun _ => False) := by
  have h1 := parse_any16 s hs w hR he
  have H2 := hide (fun W => HP s hs W)
  clear hR he HP hs
  cases hP : parseD s.data.toList with
  | inr x =>
    rw [hP] at h1 H2
    obtain ⟨ln, ec⟩ := x
    clear hP
    go_enter Tryd.func14, Tryd.ntmps14
    go_wp2_with fail
    (with_reducible refine h1.mono ?_)
    rintro e w1 ⟨k1, rfl⟩
    dsimp only
    go_upto_region 2 with fail
    refine alloc1 (P := fun W => Code.wp _ _ _ _ W) fun W1 hb1 hs1 kb1 => ?_
    have h2 := H2.out W1
    have K1 := hide (k1.trans kb1 (fun _ _ e => e))
    have Hb1 := hide hb1
    clear h1 k1 hb1 hs1 kb1 H2
    generalize w1.heap.size = B1 at *
    go_wp2_with fail
    (with_reducible refine h2.mono ?_)
    rintro e w2 ⟨k2, rfl⟩
    dsimp only
    go_upto_region 3 with fail
    refine alloc1 (P := fun W => Code.wp _ _ _ _ W) fun W2 hb2 hs2 kb2 => ?_
    have K2 := hide ((K1.out.trans k2 (fun _ _ e => e)).trans kb2 (fun _ _ e => e))
    obtain ⟨x0, x1, x2⟩ := three_cells9 (kb2.blk8 (k2.blk8 Hb1.out))
    obtain ⟨y0, y1, y2⟩ := three_cells9 hb2
    have hsm := same_zero W2
    clear h2 k2 hb2 hs2 kb2 K1 Hb1
    generalize w2.heap.size = B2 at *
    go_wp2_with fail
    (with_reducible refine hsm.mono ?_)
    rintro e w3 ⟨rfl, k3⟩
    have K3 := hide (K2.out.trans k3 (fun _ _ e => e))
    clear hsm k3 K2 x0 x1 x2 y0 y1 y2
    go_wp2_with fail
    go_ret
    exact ⟨rfl, K3.out⟩
  | inl st =>
    rw [hP] at h1 H2
    obtain ⟨hfn, hlen⟩ := parse_fine hP
    have HFn := hide hfn
    clear hP hfn hlen
    go_enter Tryd.func14, Tryd.ntmps14
    go_wp2_with fail
    (with_reducible refine h1.mono ?_)
    rintro e w1 ⟨k1, vo, vc, L, rfl, hS⟩
    obtain ⟨so, co, rfl⟩ := ownsRow_slice hS.os
    obtain ⟨sc, cc, rfl⟩ := ownsRow_slice hS.cs
    have Ho := hide (And.intro (hS.fineO HFn.out) (And.intro (hS.fineC HFn.out) hS.eq))
    clear hS
    dsimp only
    go_upto_region 2 with fail
    refine alloc1 (P := fun W => Code.wp _ _ _ _ W) fun W1 hb1 hs1 kb1 => ?_
    have h2 := H2.out W1
    have K1 := hide (k1.trans kb1 (fun _ _ e => e))
    have Hb1 := hide hb1
    have Ho1 := hide (And.intro (Ho.out.1.keeps kb1) (And.intro (Ho.out.2.1.keeps kb1) Ho.out.2.2))
    clear h1 k1 hb1 hs1 kb1 H2 Ho
    generalize w1.heap.size = B1 at *
    go_wp2_with fail
    (with_reducible refine h2.mono ?_)
    rintro e w2 ⟨k2, vo2, vc2, L2, rfl, hT⟩
    obtain ⟨so2, co2, rfl⟩ := ownsRow_slice hT.os
    obtain ⟨sc2, cc2, rfl⟩ := ownsRow_slice hT.cs
    have Ht := hide (And.intro (hT.fineO HFn.out) (And.intro (hT.fineC HFn.out) hT.eq))
    clear hT
    dsimp only
    go_upto_region 3 with fail
    refine alloc1 (P := fun W => Code.wp _ _ _ _ W) fun W2 hb2 hs2 kb2 => ?_
    have K2 := hide ((K1.out.trans k2 (fun _ _ e => e)).trans kb2 (fun _ _ e => e))
    obtain ⟨x0, x1, x2⟩ := three_cells9 (kb2.blk8 (k2.blk8 Hb1.out))
    obtain ⟨y0, y1, y2⟩ := three_cells9 hb2
    have hsm := same_true st.lim _ _ _ _ st.os L L2 (Ht.out.2.2.trans Ho1.out.2.2.symm) W2 ((Ho1.out.1.keeps k2).keeps kb2) (Ht.out.1.keeps kb2) ((Ho1.out.2.1.keeps k2).keeps kb2) (Ht.out.2.1.keeps kb2) (by rw [Ho1.out.2.2]; exact Nat.le_trans HFn.out.cost (by decide))
    clear h2 k2 hb2 hs2 kb2 K1 Hb1 Ho1 Ht
    generalize w2.heap.size = B2 at *
    go_wp2_with fail
    (with_reducible refine hsm.mono ?_)
    rintro e w3 ⟨rfl, k3⟩
    have K3 := hide (K2.out.trans k3 (fun _ _ e => e))
    clear hsm k3 K2 x0 x1 x2 y0 y1 y2
    go_wp2_with fail
    go_ret
    exact ⟨rfl, K3.out⟩
end Go.Proofs.YtfpiibccggjjpaaDoor
