/-
  ArenaRestores.
-/
import Derived.Test.YtdlibnjgmdffnaaGreatFn17
namespace Go.Proofs.YtdlibnjgmdffnaaGreat
open Go.RowKit Go.Shelf
set_option linter.unusedVariables false
namespace arenaRestores
set_option maxRecDepth 100000 in
set_option maxHeartbeats 8000000 in
theorem no (x : Int) (hx : x ≠ 0) (lim : Int) (a : Option Addr) (ca : Nat) (ps : List (Int × Int × Bool)) (S : ByteArray) (v : Value) (w : World) (hn : ps.length ≤ 134217728) (ha : a = none → ca = 0) (hca : ps.length ≤ ca) (h1 : PartsIn w a ps)
    (hP : ∀ W g cap, Keeps w W (fun _ => False) → PartsIn W (some ⟨g, 0, none⟩) ps → ps.length ≤ cap → Calls Tryz.prog 11 #[.int .i64 lim, .slice (some ⟨g, 0, none⟩) ps.length cap, .string S] W fun e w' => NoPost W x e w')
    (hR : ∀ W, Keeps w W (fun _ => False) → Calls Tryz.prog 12 #[.int .i64 lim, .slice a ps.length ca, .string S] W fun e w' => NoPost W x e w') :
    Calls Tryz.prog 5 #[.agg #[.int .i64 lim, .slice a ps.length ca, .string S], v] w fun e w' => YesKeeps w e w' := by
  have k1 : Keeps w (w.alloc (.cells #[.int .i64 lim, .slice a ps.length ca, .string S] 42)) (fun _ => False) := (Keeps.refl _ _).alloc _
  have hnew := heap_alloc_new w (.cells #[.int .i64 lim, .slice a ps.length ca, .string S] 42)
  obtain ⟨so, c1, w2, g, cap, w3, hap1, hap2, hroom, k3⟩ := room_made a ca ps (h1.keeps k1) hn ha
  have hx' : (x != 0) = true := by simpa using hx
  have hx2 : (x == 0) = false := by simpa using hx
  have hxx : (x != x) = false := by simp
  have hcap : ps.length ≤ cap := by have := hroom.room; omega
  have hcut := fun W => head_parts0 W g 0 (ps.length + 2) cap ps.length hcap
  have HP := hide hP
  have HR := hide hR
  have HROOM := hide hroom
  have K3 := hide (k1.trans k3 (fun _ _ e => e))
  have hboxw : Hid (∀ W, Keeps (w.alloc (.cells #[.int .i64 lim, .slice a ps.length ca, .string S] 42)) W (fun _ => False) → W.cell? ⟨w.heap.size, 0, none⟩ = some (.int .i64 lim) ∧ W.cell? ⟨w.heap.size, 1, none⟩ = some (.slice a ps.length ca) ∧ W.cell? ⟨w.heap.size, 2, none⟩ = some (.string S)) := fun W kW => three_cells ((kW.block _ (heap_lt hnew) id).trans hnew)
  have B0 := hboxw.out _ (Keeps.refl _ _)
  have B3 := hboxw.out _ k3
  have K13 := hide k3
  obtain ⟨b0, b1, b2⟩ := B0
  obtain ⟨d0, d1, d2⟩ := B3
  have HP1 := hide h1
  clear hP hR hroom k3 k1 hnew h1
  go_enter Tryz.func5, Tryz.ntmps5
  go_wp2_with (first | (at_builtin; have _t := hap1; refine append_run _ rfl (.tmp 12) (.tmp 14) 40 rfl rfl rfl hap1 ?_; clear hap1) | (at_builtin; have _t := hap2; refine append_run _ rfl (.tmp 16) (.tmp 19) 40 rfl rfl rfl hap2 ?_; clear hap2))
  have hP3 := HP.out w3.drew g cap K3.out.drew (HROOM.out.parts.keeps (Keeps.refl _ _).drew) hcap
  have S3 := hboxw.out w3.drew K13.out.drew
  go_region_held3 (fun w' => w'.cell? ⟨w.heap.size, 0, none⟩ = some (.int .i64 lim) ∧ w'.cell? ⟨w.heap.size, 1, none⟩ = some (.slice a ps.length ca) ∧ w'.cell? ⟨w.heap.size, 2, none⟩ = some (.string S)) (first | with_reducible assumption | exact S3 | exact hboxw.out _ (K13.out.drew.trans (by assumption) (fun _ _ e => e))) (first | (go_at_call 11; (with_reducible refine hP3.mono ?_); rintro e w4 ⟨rfl, k4⟩))
  all_goals (
    have K4 := hide (K3.out.drew.trans k4 (fun _ _ e => e))
    have K14 := hide (K13.out.drew.trans k4 (fun _ _ e => e))
    have R4 := hide ((HROOM.out.stay (Keeps.refl _ _).drew).stay k4)
    have hR4 := HR.out w4 K4.out
    obtain ⟨b0, b1, b2⟩ := hboxw.out w4 K14.out
    clear d0 d1 d2 hP3 S3 k4 HP HR HROOM K3 K13
    go_wp2_with fail)
  (with_reducible refine hR4.mono ?_)
  rintro e w5 ⟨rfl, k5⟩
  have K5 := hide (K4.out.trans k5 (fun _ _ e => e))
  have K15 := hide (K14.out.trans k5 (fun _ _ e => e))
  have R5 := hide (R4.out.stay k5)
  have hN5 := num_any x w5
  clear b0 b1 b2 hR4 k5 K4 K14 R4
  obtain ⟨b0, b1, b2⟩ := hboxw.out w5 K15.out
  obtain ⟨r7, r8⟩ := R5.out.ends
  obtain ⟨cs5, hL5⟩ := R5.out.left
  have hgs : w.heap.size + 1 ≤ g := by have := R5.out.new; simpa using this
  have hS5 : Hid (Calls Tryz.prog 13 #[.slice (some ⟨g, 0, none⟩) ps.length cap, .slice a ps.length ca] w5.drew fun e w' => e = .returned (.bool true) ∧ Keeps w5.drew w' (fun k => k = g)) := by
    obtain ⟨cs6, hL6⟩ := (R5.out.stay (Keeps.refl _ _).drew).left
    exact hide (sameI_any a ca hL6 HP1.out K5.out.drew (by omega) hn)
  have K5d := hide K5.out.drew
  have q1 : (ps.length : Int) < ((ps.length + 2 : Nat) : Int) := by omega
  have q2 : (ps.length : Int) + 1 < ((ps.length + 2 : Nat) : Int) := by omega
  go_wp2_with fail
  (with_reducible refine hN5.mono ?_)
  rintro e w6 ⟨rfl, hw6⟩
  subst hw6
  clear hN5
  go_wp2_with fail
  have hX : Hid (∀ w7, Keeps w6.drew w7 (fun k => k = g) → Keeps w w7 (fun _ => False)) := fun w7 k7 => (K5d.out.mono (S1 := fun k => k = g) (fun _ _ e => e.elim)).trans k7 (fun _ _ e => e) |>.mono (fun i hi e => by omega)
  have hY : Hid (∀ w7, Keeps w6.drew w7 (fun k => k = g) → w7.cell? ⟨w.heap.size, 1, none⟩ = some (.slice a ps.length ca)) := fun w7 k7 => (World.cell?_of_block (k7.block w.heap.size (cell_blk b1) (by omega))).trans b1
  go_region_held3 (fun w' => w'.cell? ⟨w.heap.size, 1, none⟩ = some (.slice a ps.length ca)) (first | with_reducible assumption | exact hY.out _ (Keeps.refl _ _) | exact hY.out _ (by assumption)) (first | (go_at_call 13; (with_reducible refine hS5.out.mono ?_); rintro e w7 ⟨rfl, k7⟩))
  all_goals (
    have K7 := hide (hX.out _ k7)
    clear hX hY k7 b0 b1 b2 r7 r8 hS5
    go_wp2_with fail
    go_ret
    exact ⟨rfl, K7.out⟩)
end arenaRestores
end Go.Proofs.YtdlibnjgmdffnaaGreat
