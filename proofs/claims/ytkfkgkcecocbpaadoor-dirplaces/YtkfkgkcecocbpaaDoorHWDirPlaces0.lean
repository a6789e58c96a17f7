/-
  DirPlaces's walk.
-/
import Derived.Test.YtkfkgkcecocbpaaDoorHWDirPicks
namespace Go.Proofs.YtkfkgkcecocbpaaDoor
open Go.RowKit Go.Shelf
set_option linter.unusedVariables false
namespace dirPlaces

set_option maxRecDepth 100000 in
set_option maxHeartbeats 2000000 in
theorem walk_no (i e t k : Int) (v : Value) (zs : List Int) (w : World) (hz : InZ w v zs) (hl : zs.length ≤ 17592186044000) (hd : depI zs.length < 0) :
    Calls Tryd.prog 5 #[v, .int .i64 i, .int .i64 e, .int .i64 t, .int .i64 k] w fun e w' => Post w e w' := by
  have hM := made_no v zs w hz hl hd
  have hDp := fun W => depthOf_any zs.length W
  obtain ⟨so, cap, rfl, -⟩ := hz.form
  generalize depI zs.length = dq at *
  clear hz
  go_enter Tryd.func5, Tryd.ntmps5
  go_wp2_with fail
  (with_reducible refine hM.mono ?_)
  rintro e w2 ⟨p, rfl, k2⟩
  have hbl := hide ((k2.alloc (.cells #[.pointer none, .int .i64 0, .int .i64 0] 28)).below (Nat.le_refl _) (fun _ _ e => e))
  clear hM k2
  go_wp2_with fail
  (with_reducible refine (hDp _).mono ?_)
  rintro e w3 ⟨rfl, rfl⟩
  clear hDp
  go_wp2_with fail
  go_ret
  exact ⟨by simp, hbl.out⟩

theorem ent_in {ts : List Int} {m : Nat} (h : m < ts.length) : entV ts (m : Int) = (ts[m], 0) := by
  unfold entV
  rw [if_pos ⟨by omega, by omega⟩, Int.toNat_natCast, List.getD_eq_getElem?_getD, List.getElem?_eq_getElem h]
  rfl
theorem ent_out {ts : List Int} {k : Int} (h : k < 0 ∨ (ts.length : Int) ≤ k) : entV ts k = (0, 101) := by
  unfold entV
  rw [if_neg (by omega)]

set_option maxRecDepth 100000 in
set_option maxHeartbeats 4000000 in
theorem walk_bad (i e t k : Int) (v : Value) (zs : List Int) (w : World) (hT : TabAt w) (hz : InZ w v zs) (hl : zs.length ≤ 17592186044000) (hfit : ∀ j (h : j < zs.length), fitsI zs[j]) (hd : ¬ depI zs.length < 0) (hq : i < 0 ∨ (¬ i < 0 ∧ (zs.length : Int) ≤ i) ∨ ((¬ i < 0 ∧ i < (zs.length : Int)) ∧ e < 0) ∨ ((¬ i < 0 ∧ i < (zs.length : Int)) ∧ ¬ e < 0 ∧ depI zs.length < e)) :
    Calls Tryd.prog 5 #[v, .int .i64 i, .int .i64 e, .int .i64 t, .int .i64 k] w fun e w' => Post w e w' := by
  have hM := made_yes v zs w hT hz hl hfit hd
  obtain ⟨so, cap, rfl, -⟩ := hz.form
  have HZ := hide hz
  have Hq := hide hq
  clear hz hT hfit hd hq
  go_enter Tryd.func5, Tryd.ntmps5
  go_wp2_with fail
  (with_reducible refine hM.mono ?_)
  rintro r w2 ⟨p, off, D, d, rfl, hMd⟩
  clear hM
  have hD6 := hMd.dir.dep
  have hb : ¬ (0 ≤ i ∧ i < ((2 ^ D : Nat) : Int)) ∨ e < 0 ∨ (D : Int) < e := by
    have h1 := hMd.dir.len
    have h2 := hMd.dep
    have h3 := Hq.out
    omega
  have hR := fun W => drun_no p off D i e W hD6 hb
  have hP := fun W => dplace_no p off D i e t W hD6 hb
  have hq : i < 0 ∨ (¬ i < 0 ∧ (zs.length : Int) ≤ i) ∨ ((¬ i < 0 ∧ i < (zs.length : Int)) ∧ e < 0) ∨ ((¬ i < 0 ∧ i < (zs.length : Int)) ∧ ¬ e < 0 ∧ (D : Int) < e) := by
    have h2 := hMd.dep
    have h3 := Hq.out
    omega
  have Hq2 := hide hq
  clear Hq hb hq
  have K4 : Keeps w2 (w2.alloc (.cells #[.pointer (some ⟨p, 0, none⟩), .int .i64 (off : Int), .int .i64 (D : Int)] 28)) (fun _ => False) := (Keeps.refl _ _).alloc _
  have B4 : DirB (w2.alloc (.cells #[.pointer (some ⟨p, 0, none⟩), .int .i64 (off : Int), .int .i64 (D : Int)] 28)) w2.heap.size p off D := heap_alloc_new _ _
  have HM := hide (hMd.stay K4)
  obtain ⟨⟨c0, c1, c2⟩, -⟩ := three_cells B4
  clear hMd K4
  go_wp2_with fail
  (with_reducible refine (hR _).mono ?_)
  rintro r w5 ⟨rfl, k5⟩
  have HM5 := hide (HM.out.stay k5)
  have B5 := k5.blk B4
  clear hR HM c0 c1 c2 k5 B4
  obtain ⟨⟨c0, c1, c2⟩, -⟩ := three_cells B5
  go_wp2_with fail
  (with_reducible refine (hP _).mono ?_)
  rintro r w6 ⟨rfl, k6⟩
  have HM6 := hide (HM5.out.stay k6)
  have B6 := k6.blk B5
  clear hP HM5 c0 c1 c2 k6 B5
  obtain ⟨⟨c0, c1, c2⟩, -⟩ := three_cells B6
  have hE := dentry_any HM6.out.dir k
  have hDe := fun W => dDepth_any p off D W
  by_cases hk0 : k < 0
  · rw [ent_out (Or.inl hk0)] at hE
    go_wp2_with fail
    (with_reducible refine hE.mono ?_)
    rintro r w7 ⟨rfl, k7⟩
    have hbl := hide (HM6.out.stay k7).below
    clear hE c0 c1 c2 k7 HM6 Hq2
    go_wp2_with fail
    go_ret
    exact ⟨rfl, hbl.out⟩
  · by_cases hk1 : (zs.length : Int) ≤ k
    · rw [ent_out (Or.inr hk1)] at hE
      go_wp2_with fail
      (with_reducible refine hE.mono ?_)
      rintro r w7 ⟨rfl, k7⟩
      have hbl := hide (HM6.out.stay k7).below
      clear hE c0 c1 c2 k7 HM6 Hq2
      go_wp2_with fail
      go_ret
      exact ⟨rfl, hbl.out⟩
    · obtain ⟨m, rfl⟩ := Int.eq_ofNat_of_zero_le (show 0 ≤ k by omega)
      have hm : m < zs.length := by omega
      have hm' : (m : Int) < (zs.length : Int) := by omega
      rw [ent_in hm] at hE
      obtain ⟨b, o, rfl, hcell⟩ := cells_of HZ.out m hm
      generalize zs[m] = z at *
      rcases Hq2.out with q | ⟨q, q2⟩ | ⟨⟨q, q2⟩, q3⟩ | ⟨⟨q, q2⟩, q3, q4⟩
      · go_wp2_with fail
        (with_reducible refine hE.mono ?_)
        rintro r w7 ⟨rfl, k7⟩
        have hM7 := HM6.out.stay k7
        have hbl := hide hM7.below
        have hc2 := hM7.dir.own.keeps.cellK hcell
        clear hE c0 c1 c2 k7 HM6 Hq2 hM7 hcell HZ
        go_wp2_with fail
        go_ret
        exact ⟨rfl, hbl.out⟩
      · go_wp2_with fail
        (with_reducible refine hE.mono ?_)
        rintro r w7 ⟨rfl, k7⟩
        have hM7 := HM6.out.stay k7
        have hbl := hide hM7.below
        have hc2 := hM7.dir.own.keeps.cellK hcell
        clear hE c0 c1 c2 k7 HM6 Hq2 hM7 hcell HZ
        go_wp2_with fail
        go_ret
        exact ⟨rfl, hbl.out⟩
      · go_wp2_with fail
        (with_reducible refine hE.mono ?_)
        rintro r w7 ⟨rfl, k7⟩
        have hM7 := HM6.out.stay k7
        have hbl := hide hM7.below
        have hc2 := hM7.dir.own.keeps.cellK hcell
        clear hE c0 c1 c2 k7 HM6 Hq2 hM7 hcell HZ
        go_wp2_with fail
        go_ret
        exact ⟨rfl, hbl.out⟩
      · go_wp2_with fail
        (with_reducible refine hE.mono ?_)
        rintro r w7 ⟨rfl, k7⟩
        have HM7 := hide (HM6.out.stay k7)
        have B7 := k7.blk B6
        clear hE c0 c1 c2 k7 HM6 Hq2
        obtain ⟨⟨c0, c1, c2⟩, -⟩ := three_cells B7
        go_wp2_with fail
        (with_reducible refine (hDe _).mono ?_)
        rintro r w8 ⟨rfl, k8⟩
        have hM8 := HM7.out.stay k8
        have hbl := hide hM8.below
        have hc2 := hM8.dir.own.keeps.cellK hcell
        clear hDe c0 c1 c2 k8 HM7 hM8 hcell HZ
        go_wp2_with fail
        go_ret
        exact ⟨rfl, hbl.out⟩

theorem shares_iff {N K I : Nat} (hN : 1 ≤ N) : (K / N = I / N) ↔ (I / N * N ≤ K ∧ K < I / N * N + N) := by
  constructor
  · intro e
    rw [← e]
    have h1 := Nat.div_mul_le_self K N
    have h2 := Nat.lt_div_mul_add (a := K) hN
    exact ⟨h1, h2⟩
  · rintro ⟨h1, h2⟩
    exact Nat.div_eq_of_lt_le h1 (by rw [Nat.succ_mul]; exact h2)
end dirPlaces
end Go.Proofs.YtkfkgkcecocbpaaDoor
