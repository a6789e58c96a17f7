import Derived.Test.YtkfkgkcecocbpaaDoorDn11
/-
  The law's made.
-/
namespace Go.Proofs.YtkfkgkcecocbpaaDoor
open Go.RowKit Go.Shelf
set_option linter.unusedVariables false

theorem class_pow : ∀ D, D < 8 → classN (8 * 2 ^ D) ≤ 1024 := by decide +kernel
theorem Own.pre1 {w W0 w1 : World} {p : Nat} {d : AD} (h : Own W0 w1 p (fun _ => False) d) (k : Keeps w W0 (fun _ => False)) (hs : W0.heap.size = w.heap.size + 1) : Own w w1 p (fun i => i = w.heap.size) d :=
  ⟨h.arena.mono (fun i _ e => ⟨by have := e.1; omega, fun q => by have := e.1; omega⟩), k.trans h.keeps (fun _ _ e => e)⟩
abbrev C3v (W : World) (b : Nat) (v0 v1 v2 : Value) : Prop := W.cell? ⟨b, 0, none⟩ = some v0 ∧ W.cell? ⟨b, 1, none⟩ = some v1 ∧ W.cell? ⟨b, 2, none⟩ = some v2
theorem c3v_keeps {W W1 : World} {b : Nat} {v0 v1 v2 : Value} {S : Nat → Prop} (k : Keeps W W1 S) (hS : ¬ S b) (h : C3v W b v0 v1 v2) : C3v W1 b v0 v1 v2 := by
  obtain ⟨c0, c1, c2⟩ := h
  have hc : ∀ j v, W.cell? ⟨b, j, none⟩ = some v → W1.cell? ⟨b, j, none⟩ = some v := fun j v q => by
    have : b < W.heap.size := by
      refine Nat.lt_of_not_le fun hn => ?_
      rw [World.cell?, Array.getElem?_eq_none hn] at q
      cases q
    exact (World.cell?_of_block (w := W) (a := ⟨b, j, none⟩) (k.block b this hS)).trans q
  exact ⟨hc _ _ c0, hc _ _ c1, hc _ _ c2⟩
theorem c3v_store {W : World} {b bl : Nat} {v0 v1 v2 x0 x1 x2 : Value} (hne : ¬ b = bl) (h : C3v W.drew b v0 v1 v2) : C3v (set3 W bl x0 x1 x2).drew b v0 v1 v2 :=
  c3v_keeps (W := W) ((set3_keeps W bl x0 x1 x2).trans ((Keeps.refl (set3 W bl x0 x1 x2) (fun _ => False)).drew) (fun _ _ e => e.elim)) hne h
def MadeNo (w : World) (e : Ending) (w' : World) : Prop := ∃ p, e = .returned (.tuple #[.pointer (some ⟨p, 0, none⟩), .agg #[.pointer none, .int .i64 0, .int .i64 0], .bool false]) ∧ Keeps w w' (fun _ => False)
def MadeYes (w : World) (zs : List Int) (e : Ending) (w' : World) : Prop := ∃ (p off D : Nat) (d : AD), e = .returned (.tuple #[.pointer (some ⟨p, 0, none⟩), .agg #[.pointer (some ⟨p, 0, none⟩), .int .i64 (off : Int), .int .i64 (D : Int)], .bool true]) ∧ Made w w' p off D d zs 65536

set_option maxRecDepth 100000 in
set_option maxHeartbeats 2000000 in
theorem made_no (v : Value) (zs : List Int) (w : World) (hz : InZ w v zs) (hl : zs.length ≤ 17592186044000) (hd : depI zs.length < 0) :
    Calls Tryd.prog 16 #[v] w fun e w' => MadeNo w e w' := by
  obtain ⟨so, cap, rfl, -⟩ := hz.form
  have HZ := hide hz
  have hN := fun W => own_new (w := W) 65536 (by omega)
  rw [show ((65536 : Nat) : Int) = 65536 from rfl] at hN
  clear hz
  go_enter Tryd.func16, Tryd.ntmps16
  go_wp2_with fail
  refine alloc1 (P := fun W => Calls _ _ _ W _) fun W0 B0 S0 K0 => ?_
  (with_reducible refine (hN _).mono ?_)
  rintro e w1 ⟨p, rfl, O1⟩
  obtain ⟨a, c, W2, hap, hrow, ha, kc⟩ := ((HZ.out.keeps K0).keeps O1.keeps).copyB (by omega)
  have hNw := fun W => dnew_no (.pointer (some ⟨p, 0, none⟩)) zs.length c (some ⟨a, 0, none⟩) W hd
  generalize depI zs.length = dq at *
  have K2 : Keeps w W2 (fun _ => False) := (K0.trans O1.keeps (fun _ _ e => e)).trans kc (fun _ _ e => e)
  have B2 := (O1.keeps.trans kc (fun _ _ e => e)).blk B0
  clear hN O1 hrow kc K0
  go_wp2_with (first | (at_builtin; have _t := hap; refine app_run _ rfl (.tmp 21) (.tmp 22) 22 rfl rfl rfl hap ?_; clear hap))
  (with_reducible refine (hNw _).mono ?_)
  rintro e w3 ⟨rfl, k3⟩
  have K3 : Keeps w w3 (fun _ => False) := K2.trans k3 (fun _ _ e => e)
  have B3 := k3.blk B2
  clear hNw
  go_wp2_with fail
  refine alloc1 (P := fun W => Code.wp _ _ _ _ W) fun W4 B4 S4 K4 => ?_
  have K5 : Keeps w W4 (fun _ => False) := K3.trans K4 (fun _ _ e => e)
  obtain ⟨⟨c0, c1, c2⟩, -⟩ := three_cells B4
  have R4 := K4.blk B3
  have R4d : W4.drew.heap[w.heap.size]? = _ := R4
  have C4d : W4.drew.heap[w3.heap.size]? = _ := B4
  obtain ⟨⟨y0, y1, y2⟩, g0, g1, g2⟩ := three_cells R4d
  obtain ⟨⟨yy0, yy1, yy2⟩, gg0, gg1, gg2⟩ := three_cells R4
  have hlt := heap_lt B3
  have S6 : C3v W4.drew w3.heap.size (.pointer none) (.int .i64 0) (.int .i64 0) := (three_cells C4d).1
  have hne : Hid (¬ w3.heap.size = w.heap.size) := hide (by omega)
  have HR := hide R4
  clear R4 R4d B4 C4d
  go_region_held3 (fun w' => w'.cell? ⟨w3.heap.size, 0, none⟩ = some (.pointer none) ∧ w'.cell? ⟨w3.heap.size, 1, none⟩ = some (.int .i64 0) ∧ w'.cell? ⟨w3.heap.size, 2, none⟩ = some (.int .i64 0)) (first | with_reducible assumption | with_reducible exact S6 | with_reducible exact c3v_store hne.out S6) (fail)
  refine set3_any HR.out (P := fun W => Exit.then _ _ _ _ W.drew) fun W9 h9 k9 => ?_
  have KD : Hid (Keeps w W9.drew (fun _ => False)) := (K5.trans k9 (fun i hi e => by omega)).drew
  have h9' : W9.drew.heap[w.heap.size]? = _ := h9
  obtain ⟨⟨z0, z1, z2⟩, -⟩ := three_cells h9'
  clear y0 y1 y2 yy0 yy1 yy2 g0 g1 g2 gg0 gg1 gg2 c0 c1 c2 S6
  go_wp2_with fail
  exact bodyPost_ret (v := .tuple #[.pointer (some ⟨p, 0, none⟩), .agg #[.pointer none, .int .i64 0, .int .i64 0], .bool false]) (by simp [results, Tryd.results16, go_sem, z0, z1, z2]) rfl ⟨p, rfl, KD.out⟩

set_option maxRecDepth 100000 in
set_option maxHeartbeats 2000000 in
theorem made_yes (v : Value) (zs : List Int) (w : World) (hT : TabAt w) (hz : InZ w v zs) (hl : zs.length ≤ 17592186044000) (hfit : ∀ j (h : j < zs.length), fitsI zs[j]) (hd : ¬ depI zs.length < 0) :
    Calls Tryd.prog 16 #[v] w fun e w' => MadeYes w zs e w' := by
  obtain ⟨so, cap, rfl, -⟩ := hz.form
  have HZ := hide hz
  have HF := hide hfit
  have HT := hide hT
  have hN := fun W => own_new (w := W) 65536 (by omega)
  rw [show ((65536 : Nat) : Int) = 65536 from rfl] at hN
  have hDp := fun W => depthOf_any zs.length W
  obtain ⟨D, hD6, hzD, hdD, h64, h1⟩ := depI_yes hd
  rw [hdD] at hDp
  have hcl : classN (8 * zs.length) ≤ 1024 := by rw [hzD]; exact class_pow D (by omega)
  have HdD := hide hdD
  have Hd := hide hd
  clear hz hfit hT hdD hzD hd
  go_enter Tryd.func16, Tryd.ntmps16
  go_wp2_with fail
  refine alloc1 (P := fun W => Calls _ _ _ W _) fun W0 B0 S0 K0 => ?_
  (with_reducible refine (hN _).mono ?_)
  rintro e w1 ⟨p, rfl, O1⟩
  obtain ⟨a, c, W2, hap, hrow, ha, kc⟩ := ((HZ.out.keeps K0).keeps O1.keeps).copyB (by omega)
  have hNw := new_copy O1 (AD.fresh_fine (by omega)) (fresh_well 65536) (HT.out.keeps K0) kc a c ha zs hrow HF.out (by have := Hd.out; omega) (by show 0 + _ ≤ 65536; omega)
  clear hN O1 hrow kc ha
  go_wp2_with (first | (at_builtin; have _t := hap; refine app_run _ rfl (.tmp 21) (.tmp 22) 22 rfl rfl rfl hap ?_; clear hap))
  (with_reducible refine hNw.mono ?_)
  intro e w3 hpost
  obtain ⟨off, D', d, rfl, hM⟩ := made_of hpost
  obtain rfl : D' = D := by have := hM.dep; have := HdD.out; omega
  clear hNw hpost HdD
  have B3 := hM.dir.own.keeps.blk B0
  have hDe := fun W => dDepth_any p off D' W
  have B4 : DirB (w3.alloc (.cells #[.pointer (some ⟨p, 0, none⟩), .int .i64 (off : Int), .int .i64 (D' : Int)] 28)) w3.heap.size p off D' := heap_alloc_new _ _
  have K4 : Keeps w3 (w3.alloc (.cells #[.pointer (some ⟨p, 0, none⟩), .int .i64 (off : Int), .int .i64 (D' : Int)] 28)) (fun _ => False) := (Keeps.refl _ _).alloc _
  obtain ⟨⟨c0, c1, c2⟩, -⟩ := three_cells B4
  go_wp2_with fail
  (with_reducible refine (hDe _).mono ?_)
  rintro e w5 ⟨rfl, k5⟩
  clear hDe c0 c1 c2
  go_wp2_with fail
  (with_reducible refine (hDp _).mono ?_)
  rintro e w6 ⟨rfl, rfl⟩
  clear hDp
  have B6 := k5.blk B4
  have R6 := (K4.trans k5 (fun _ _ e => e)).blk B3
  have hlt := heap_lt B3
  have HM := hide (hM.stay (K4.trans k5 (fun _ _ e => e)))
  have C6d : w6.drew.heap[w3.heap.size]? = _ := B6
  have R6d : w6.drew.heap[w.heap.size]? = _ := R6
  have S6 : C3v w6.drew w3.heap.size (.pointer (some ⟨p, 0, none⟩)) (.int .i64 (off : Int)) (.int .i64 (D' : Int)) := (three_cells C6d).1
  obtain ⟨⟨y0, y1, y2⟩, g0, g1, g2⟩ := three_cells R6d
  obtain ⟨⟨yy0, yy1, yy2⟩, gg0, gg1, gg2⟩ := three_cells R6
  have hne : Hid (¬ w3.heap.size = w.heap.size) := hide (by omega)
  have HR := hide R6
  clear R6 R6d B4 B6 C6d hM K4 k5
  go_wp2_with fail
  go_region_held3 (fun w' => w'.cell? ⟨w3.heap.size, 0, none⟩ = some (.pointer (some ⟨p, 0, none⟩)) ∧ w'.cell? ⟨w3.heap.size, 1, none⟩ = some (.int .i64 (off : Int)) ∧ w'.cell? ⟨w3.heap.size, 2, none⟩ = some (.int .i64 (D' : Int))) (first | with_reducible assumption | with_reducible exact S6 | with_reducible exact c3v_store hne.out S6) (fail)
  refine set3_any HR.out (P := fun W => Exit.then _ _ _ _ W.drew) fun W9 h9 k9 => ?_
  have h9' : W9.drew.heap[w.heap.size]? = _ := h9
  obtain ⟨⟨z0, z1, z2⟩, -⟩ := three_cells h9'
  have hfin : Hid (Made w W9.drew p off D' d zs 65536) := by
    obtain ⟨m1, m2, m3, m4, m5⟩ := HM.out
    have o1 := ((m1.own.pre1 K0 S0).kept k9 (fun i e => e) (fun i e => by omega)).less (Y := fun _ => False) (fun i _ _ e => e.elim)
    exact ⟨⟨o1.stay (Keeps.refl W9 (fun _ => False)).drew, m1.fine, m1.well, m1.dir, m1.len, m1.dep, m1.fit⟩, m2, m3, m4, m5⟩
  clear y0 y1 y2 yy0 yy1 yy2 g0 g1 g2 gg0 gg1 gg2 S6 HM
  go_wp2_with fail
  exact bodyPost_ret (v := .tuple #[.pointer (some ⟨p, 0, none⟩), .agg #[.pointer (some ⟨p, 0, none⟩), .int .i64 (off : Int), .int .i64 (D' : Int)], .bool true]) (by simp [results, Tryd.results16, go_sem, z0, z1, z2]) rfl ⟨p, off, D', d, rfl, hfin.out⟩
end Go.Proofs.YtkfkgkcecocbpaaDoor
