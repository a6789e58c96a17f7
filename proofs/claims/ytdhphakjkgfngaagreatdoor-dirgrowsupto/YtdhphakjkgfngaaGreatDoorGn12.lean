import Derived.Test.YtdhphakjkgfngaaGreatDoorRows
import Derived.ProofKit
import Derived.LaidMore
import Derived.OpenShut
import Derived.Stop.Joined
import Derived.Lib.LaidTab
import Derived.Deep.Slices
import Derived.Deep.SlicePairs
import Derived.Lib.SmallJoins
import Derived.ChangeOld
import Derived.RangeFuncBox
import Derived.RangeFuncNested
import Derived.Stop.RegionWithIn
import Derived.Sort.AtCallIn
import Derived.Sort.LoopGhostIn
import Derived.RangeFuncLeaves
import Derived.OwnWalkIn
import Derived.TacticsInMore
import Derived.LoopNIn
import Derived.LoopIn
import Derived.Test.YtdhphakjkgfngaaGreatDoorGn11
/-
  The law's made.
-/
namespace Go.Proofs.YtdhphakjkgfngaaGreatDoor
open Go.RowKit Go.Shelf
set_option linter.unusedVariables false

theorem class_pow : ∀ D, D < 8 → classN (8 * 2 ^ D) ≤ 1024 := by decide +kernel
theorem Own.pre1 {w W0 w1 : World} {p : Nat} {d : AD} (h : Own W0 w1 p (fun _ => False) d) (k : Keeps w W0 (fun _ => False)) (hs : W0.heap.size = w.heap.size + 1) : Own w w1 p (fun i => i = w.heap.size) d :=
  ⟨h.arena.mono (fun i _ e => ⟨by have := e.1; omega, fun q => by have := e.1; omega⟩), k.trans h.keeps (fun _ _ e => e)⟩
abbrev C3v (W : World) (b : Nat) (v0 v1 v2 : Value) : Prop := W.cell? ⟨b, 0, none⟩ = some v0 ∧ W.cell? ⟨b, 1, none⟩ = some v1 ∧ W.cell? ⟨b, 2, none⟩ = some v2
theorem c3v_keeps {W W1 : World} {b : Nat} {v0 v1 v2 : Value} {S : Nat → Prop} (k : Keeps W W1 S) (hS : ¬ S b) (h : C3v W b v0 v1 v2) : C3v W1 b v0 v1 v2 := by
  obtain ⟨c0, c1, c2⟩ := h
  have hc : ∀ j v, W.cell? ⟨b, j, none⟩ = some v → W1.cell? ⟨b, j, none⟩ = some v := fun j v q => by
    have : b < W.heap.size := by
      refine Nat.lt_of_not_le fun hn => ?_
      rw [World.cell?, Array.getElem?_eq_none hn] at q
      cases q
    exact (World.cell?_of_block (w := W) (a := ⟨b, j, none⟩) (k.block b this hS)).trans q
  exact ⟨hc _ _ c0, hc _ _ c1, hc _ _ c2⟩
theorem c3v_store {W : World} {b bl : Nat} {v0 v1 v2 x0 x1 x2 : Value} (hne : ¬ b = bl) (h : C3v W.drew b v0 v1 v2) : C3v (set3 W bl x0 x1 x2).drew b v0 v1 v2 :=
  c3v_keeps (W := W) ((set3_keeps W bl x0 x1 x2).trans ((Keeps.refl (set3 W bl x0 x1 x2) (fun _ => False)).drew) (fun _ _ e => e.elim)) hne h
def MadeNo (w : World) (e : Ending) (w' : World) : Prop := ∃ p, e = .returned (.tuple #[.pointer (some ⟨p, 0, none⟩), .agg #[.pointer none, .int .i64 0, .int .i64 0], .bool false]) ∧ Keeps w w' (fun _ => False)
def MadeYes (w : World) (zs : List Int) (e : Ending) (w' : World) : Prop := ∃ (p off D : Nat) (d : AD), e = .returned (.tuple #[.pointer (some ⟨p, 0, none⟩), .agg #[.pointer (some ⟨p, 0, none⟩), .int .i64 (off : Int), .int .i64 (D : Int)], .bool true]) ∧ Made w w' p off D d zs 65536

set_option maxRecDepth 100000 in
set_option maxHeartbeats 2000000 in
theorem made_no (v : Value) (zs : List Int) (w : World) (hz : InZ w v zs) (hl : zs.length ≤ 17592186044000) (hd : depI zs.length < 0) :
    Calls Tryz.prog 4 #[v] w fun e w' => MadeNo w e w' := by
  obtain ⟨so, cap, rfl, -⟩ := hz.form
  have HZ := hide hz
  have hN := fun W => own_new (w := W) 65536 (by omega)
  rw [show ((65536 : Nat) : Int) = 65536 from rfl] at hN
  clear hz
  go_enter Tryz.func4, Tryz.ntmps4
  go_wp2_with fail
  refine alloc1 (P := fun W => Calls _ _ _ W _) fun W0 B0 S0 K0 => ?_
  (with_reducible refine (hN _).mono ?_)
  rintro e w1 ⟨p, rfl, O1⟩
  obtain ⟨a, c, W2, hap, hrow, ha, kc⟩ := ((HZ.out.keeps K0).keeps O1.keeps).copyB (by omega)
  have hNw := fun W => dnew_no (.pointer (some ⟨p, 0, none⟩)) zs.length c (some ⟨a, 0, none⟩) W hd
  generalize depI zs.length = dq at *
  have K2 : Keeps w W2 (fun _ => False) := (K0.trans O1.keeps (fun _ _ e => e)).trans kc (fun _ _ e => e)
  have B2 := (O1.keeps.trans kc (fun _ _ e => e)).blk B0
  clear hN O1 hrow kc K0
  go_wp2_with (first | (at_builtin; have _t := hap; refine app_run _ rfl (.tmp 21) (.tmp 22) 29 rfl rfl rfl hap ?_; clear hap))
  (with_reducible refine (hNw _).mono ?_)
  rintro e w3 ⟨rfl, k3⟩
  have K3 : Keeps w w3 (fun _ => False) := K2.trans k3 (fun _ _ e => e)
  have B3 := k3.blk B2
  clear hNw
  go_wp2_with fail
  refine alloc1 (P := fun W => Code.wp _ _ _ _ W) fun W4 B4 S4 K4 => ?_
  have K5 : Keeps w W4 (fun _ => False) := K3.trans K4 (fun _ _ e => e)
  obtain ⟨⟨c0, c1, c2⟩, -⟩ := three_cells B4
  have R4 := K4.blk B3
  have R4d : W4.drew.heap[w.heap.size]? = _ := R4
  have C4d : W4.drew.heap[w3.heap.size]? = _ := B4
  obtain ⟨⟨y0, y1, y2⟩, g0, g1, g2⟩ := three_cells R4d
  obtain ⟨⟨yy0, yy1, yy2⟩, gg0, gg1, gg2⟩ := three_cells R4
  have hlt := heap_lt B3
  have S6 : C3v W4.drew w3.heap.size (.pointer none) (.int .i64 0) (.int .i64 0) := (three_cells C4d).1
  have hne : Hid (¬ w3.heap.size = w.heap.size) := hide (by omega)
  have HR := hide R4
  clear R4 R4d B4 C4d
  go_region_held3 (fun w' => w'.cell? ⟨w3.heap.size, 0, none⟩ = some (.pointer none) ∧ w'.cell? ⟨w3.heap.size, 1, none⟩ = some (.int .i64 0) ∧ w'.cell? ⟨w3.heap.size, 2, none⟩ = some (.int .i64 0)) (first | with_reducible assumption | with_reducible exact S6 | with_reducible exact c3v_store hne.out S6) (fail)
  refine set3_any HR.out (P := fun W => Exit.then _ _ _ _ W.drew) fun W9 h9 k9 => ?_
  have KD : Hid (Keeps w W9.drew (fun _ => False)) := (K5.trans k9 (fun i hi e => by omega)).drew
  have h9' : W9.drew.heap[w.heap.size]? = _ := h9
  obtain ⟨⟨z0, z1, z2⟩, -⟩ := three_cells h9'
  clear y0 y1 y2 yy0 yy1 yy2 g0 g1 g2 gg0 gg1 gg2 c0 c1 c2 S6
  go_wp2_with fail
  exact bodyPost_ret (v := .tuple #[.pointer (some ⟨p, 0, none⟩), .agg #[.pointer none, .int .i64 0, .int .i64 0], .bool false]) (by simp [results, Tryz.results4, go_sem, z0, z1, z2]) rfl ⟨p, rfl, KD.out⟩

set_option maxRecDepth 100000 in
set_option maxHeartbeats 2000000 in
theorem made_yes (v : Value) (zs : List Int) (w : World) (hT : TabAt w) (hz : InZ w v zs) (hl : zs.length ≤ 17592186044000) (hfit : ∀ j (h : j < zs.length), fitsI zs[j]) (hd : ¬ depI zs.length < 0) :
    Calls Tryz.prog 4 #[v] w fun e w' => MadeYes w zs e w' := by
  obtain ⟨so, cap, rfl, -⟩ := hz.form
  have HZ := hide hz
  have HF := hide hfit
  have HT := hide hT
  have hN := fun W => own_new (w := W) 65536 (by omega)
  rw [show ((65536 : Nat) : Int) = 65536 from rfl] at hN
  have hDp := fun W => depthOf_any zs.length W
  obtain ⟨D, hD6, hzD, hdD, h64, h1⟩ := depI_yes hd
  rw [hdD] at hDp
  have hcl : classN (8 * zs.length) ≤ 1024 := by rw [hzD]; exact class_pow D (by omega)
  have HdD := hide hdD
  have Hd := hide hd
  clear hz hfit hT hdD hzD hd
  go_enter Tryz.func4, Tryz.ntmps4
  go_wp2_with fail
  refine alloc1 (P := fun W => Calls _ _ _ W _) fun W0 B0 S0 K0 => ?_
  (with_reducible refine (hN _).mono ?_)
  rintro e w1 ⟨p, rfl, O1⟩
  obtain ⟨a, c, W2, hap, hrow, ha, kc⟩ := ((HZ.out.keeps K0).keeps O1.keeps).copyB (by omega)
  have hNw := new_copy O1 (AD.fresh_fine (by omega)) (fresh_well 65536) (HT.out.keeps K0) kc a c ha zs hrow HF.out (by have := Hd.out; omega) (by show 0 + _ ≤ 65536; omega)
  clear hN O1 hrow kc ha
  go_wp2_with (first | (at_builtin; have _t := hap; refine app_run _ rfl (.tmp 21) (.tmp 22) 29 rfl rfl rfl hap ?_; clear hap))
  (with_reducible refine hNw.mono ?_)
  intro e w3 hpost
  obtain ⟨off, D', d, rfl, hM⟩ := made_of hpost
  obtain rfl : D' = D := by have := hM.dep; have := HdD.out; omega
  clear hNw hpost HdD
  have B3 := hM.dir.own.keeps.blk B0
  have hDe := fun W => dDepth_any p off D' W
  have B4 : DirB (w3.alloc (.cells #[.pointer (some ⟨p, 0, none⟩), .int .i64 (off : Int), .int .i64 (D' : Int)] 26)) w3.heap.size p off D' := heap_alloc_new _ _
  have K4 : Keeps w3 (w3.alloc (.cells #[.pointer (some ⟨p, 0, none⟩), .int .i64 (off : Int), .int .i64 (D' : Int)] 26)) (fun _ => False) := (Keeps.refl _ _).alloc _
  obtain ⟨⟨c0, c1, c2⟩, -⟩ := three_cells B4
  go_wp2_with fail
  (with_reducible refine (hDe _).mono ?_)
  rintro e w5 ⟨rfl, k5⟩
  clear hDe c0 c1 c2
  go_wp2_with fail
  (with_reducible refine (hDp _).mono ?_)
  rintro e w6 ⟨rfl, rfl⟩
  clear hDp
  have B6 := k5.blk B4
  have R6 := (K4.trans k5 (fun _ _ e => e)).blk B3
  have hlt := heap_lt B3
  have HM := hide (hM.stay (K4.trans k5 (fun _ _ e => e)))
  have C6d : w6.drew.heap[w3.heap.size]? = _ := B6
  have R6d : w6.drew.heap[w.heap.size]? = _ := R6
  have S6 : C3v w6.drew w3.heap.size (.pointer (some ⟨p, 0, none⟩)) (.int .i64 (off : Int)) (.int .i64 (D' : Int)) := (three_cells C6d).1
  obtain ⟨⟨y0, y1, y2⟩, g0, g1, g2⟩ := three_cells R6d
  obtain ⟨⟨yy0, yy1, yy2⟩, gg0, gg1, gg2⟩ := three_cells R6
  have hne : Hid (¬ w3.heap.size = w.heap.size) := hide (by omega)
  have HR := hide R6
  clear R6 R6d B4 B6 C6d hM K4 k5
  go_wp2_with fail
  go_region_held3 (fun w' => w'.cell? ⟨w3.heap.size, 0, none⟩ = some (.pointer (some ⟨p, 0, none⟩)) ∧ w'.cell? ⟨w3.heap.size, 1, none⟩ = some (.int .i64 (off : Int)) ∧ w'.cell? ⟨w3.heap.size, 2, none⟩ = some (.int .i64 (D' : Int))) (first | with_reducible assumption | with_reducible exact S6 | with_reducible exact c3v_store hne.out S6) (fail)
  refine set3_any HR.out (P := fun W => Exit.then _ _ _ _ W.drew) fun W9 h9 k9 => ?_
  have h9' : W9.drew.heap[w.heap.size]? = _ := h9
  obtain ⟨⟨z0, z1, z2⟩, -⟩ := three_cells h9'
  have hfin : Hid (Made w W9.drew p off D' d zs 65536) := by
    obtain ⟨m1, m2, m3, m4, m5⟩ := HM.out
    have o1 := ((m1.own.pre1 K0 S0).kept k9 (fun i e => e) (fun i e => by omega)).less (Y := fun _ => False) (fun i _ _ e => e.elim)
    exact ⟨⟨o1.stay (Keeps.refl W9 (fun _ => False)).drew, m1.fine, m1.well, m1.dir, m1.len, m1.dep, m1.fit⟩, m2, m3, m4, m5⟩
  clear y0 y1 y2 yy0 yy1 yy2 g0 g1 g2 gg0 gg1 gg2 S6 HM
  go_wp2_with fail
  exact bodyPost_ret (v := .tuple #[.pointer (some ⟨p, 0, none⟩), .agg #[.pointer (some ⟨p, 0, none⟩), .int .i64 (off : Int), .int .i64 (D' : Int)], .bool true]) (by simp [results, Tryz.results4, go_sem, z0, z1, z2]) rfl ⟨p, off, D', d, rfl, hfin.out⟩
end Go.Proofs.YtdhphakjkgfngaaGreatDoor
/-
  What Widen leaves, as a statement asks it.
-/
namespace Go.Proofs.YtdhphakjkgfngaaGreatDoor
open Go.RowKit Go.Shelf
set_option linter.unusedVariables false

theorem TookB.old {d d1 : AD} {off o c cc : Nat} (hF : d.Fine) (hB : TookB d d1 o c) (h1 : d.lv (off : Int) = some (cc : Int)) : d1.lv (off : Int) = some (cc : Int) := by
  obtain ⟨o', n', e1, e2, hm⟩ := hF.live _ _ h1
  have eo : o' = off := by omega
  have ec : n' = cc := by omega
  subst eo ec
  have hold : (o', n') ∈ livesOf d.L d.lv := List.mem_filter.2 ⟨hm, by simp [h1]⟩
  have hnew : (o', n') ∈ livesOf d1.L d1.lv := hB.perm.mem_iff.2 (List.mem_cons_of_mem _ hold)
  have hm2 := List.mem_filter.1 hnew
  obtain ⟨s, hs⟩ := Option.isSome_iff_exists.1 hm2.2
  obtain ⟨o2, n2, f1, f2, hm3⟩ := hB.fine.live _ _ hs
  have e3 : (o2, n2) = (o', n') := tiles_unique hB.fine.tiles hm3 hm2.1 (by simp at f1 ⊢; omega)
  cases e3
  rw [← f2]
  exact hs
theorem widen_used {d d1 d2 d3 : AD} {off o c cc n : Nat} (hF : d.Fine) (hB : TookB d d1 o c) (hW : Wr d1 d2 o n) (hg : Gone d2 (off : Int) d3) (h1 : d.lv (off : Int) = some (cc : Int)) (hu : d.used = cc) : d3.used = c ∧ d3.limit = d.limit ∧ d3.lv (o : Int) = (if (o : Int) = (off : Int) then none else some (c : Int)) := by
  obtain ⟨s1, s2, s3, s4, s5⟩ := hW.same
  obtain ⟨s, hs, rfl⟩ := hg
  rw [s2, hB.old hF h1] at hs
  have es : cc = s := by have h := Option.some.inj hs; omega
  subst es
  refine ⟨?_, ?_, ?_⟩
  · show d2.used - cc = c
    rw [s3, hB.used, hu]
    omega
  · show d2.limit = _
    rw [s4, hB.limit]
  · show upd d2.lv (off : Int) none (o : Int) = _
    unfold upd
    split
    · rfl
    · rw [s2, hB.lv]
theorem widen_ne {d d1 : AD} {off o c : Nat} {ts : List Int} (h : DirD d off ts) (hF : d.Fine) (hB : TookB d d1 o c) : o ≠ off := (h.took hF hB).2
end Go.Proofs.YtdhphakjkgfngaaGreatDoor
/-
  What the given condition on the tables of math/bits tells.
-/
namespace Go.Proofs.YtdhphakjkgfngaaGreatDoor
open Go.ChangeShapes Go.WideShapes Go.ChangeAt Go.WideMaps Go.WideElems Go.RowKit

theorem own : ownKnob Tryz.prog.godebug = none := by kernel_rfl
theorem laidOut : laidOutB Tryz.prog = true := by kernel_rfl
theorem gTab : Tryz.prog.globalNamed "math/bits.deBruijn64tab" = some 1 := by kernel_rfl
theorem tTab : (Tryz.prog.globals[1]?).map (·.type) = some 91 := by kernel_rfl

def laidO : List (String × DataW Unit) := [("math/bits.deBruijn32tab", Rows.laid_math_bits_deBruijn32tab), ("math/bits.deBruijn64tab", Rows.laid_math_bits_deBruijn64tab)]
theorem door_met (os : Os) (args : Array Value) : laidMetH Tryz.prog laidO ((World.doorLaid Tryz.prog 400 os).forCall (fun _ _ => 0) ⟨#[], args, []⟩).memory :=
  laidMetH_of_parts3 (fuel := 8) (laidMet_of_run' 8 (by kernel_rfl) (by kernel_rfl)) (by kernel_rfl) (by kernel_rfl)

theorem of_laid {W : World} (h : laidMetH Tryz.prog laidO W) : TabAt W := by
  rw [MakeChecks.laidMetH_plain _ _ _ (by kernel_rfl)] at h
  have h2 : laidMet Tryz.prog (("math/bits.deBruijn32tab", Rows.laid_math_bits_deBruijn32tab) :: ("math/bits.deBruijn64tab", Lib.tabData .u8 (tabL.map fun n : Nat => (n : Int))) :: []) W := h
  have h3 : laidMet Tryz.prog (("math/bits.deBruijn64tab", Lib.tabData .u8 (tabL.map fun n : Nat => (n : Int))) :: []) W := by
    obtain ⟨ps, ⟨g', t', cs, fuel, p, q, _, _, _, _, hrest, hps⟩, hnd, hok⟩ := h2
    subst hps
    exact ⟨q, hrest, (List.nodup_append.1 hnd).2.1, fun b off hm => hok b off (List.mem_append_right _ hm)⟩
  have t := Lib.tabIs_of_head gTab tTab Tryz.underlying91 Tryz.underlying5 (by kernel_rfl) (by kernel_rfl) h3
  intro k hk
  have e := t.cell gTab k (by rw [List.length_map]; exact hk)
  rw [e]
  congr 2
  have : (tabL.map fun n : Nat => (n : Int)).getD k 0 = ((tabL.getD k 0 : Nat) : Int) := by
    simp [List.getD]
    cases tabL[k]? <;> rfl
  exact this
end Go.Proofs.YtdhphakjkgfngaaGreatDoor
/-
  Lists of numbers that came in, opened.
-/
namespace Go.Proofs.YtdhphakjkgfngaaGreatDoor
open Go.ChangeShapes Go.WideShapes Go.ChangeAt Go.RowKit
set_option linter.unusedVariables false

theorem one_le {H : Type} (d : DataW H) : 1 ≤ Rows.uptoBulk d := by
  cases d with
  | lit l => cases l <;> simp [Rows.uptoBulk]
  | _ => simp [Rows.uptoBulk]
theorem part_le {H : Type} {d : DataW H} {l : List (DataW H)} (h : d ∈ l) : Rows.uptoBulk d ≤ Rows.uptoBulkAll l := by
  induction l with
  | nil => cases h
  | cons x r ih =>
    simp only [Rows.uptoBulkAll]
    cases List.mem_cons.1 h with
    | inl e => subst e; omega
    | inr e => have := ih e; omega
theorem length_le {H : Type} (l : List (DataW H)) : l.length ≤ Rows.uptoBulkAll l := by
  induction l with
  | nil => simp [Rows.uptoBulkAll]
  | cons x r ih => have := one_le x; simp only [Rows.uptoBulkAll, List.length_cons]; omega
theorem plain_of_cell {w : World} {a : Addr} {v : Value} (h : w.cell? (a.add 0) = some v) : ∃ bb oo, a = ⟨bb, oo, none⟩ ∧ bb < w.heap.size := by
  obtain ⟨bb, oo, sp⟩ := a
  have h' : w.cell? ⟨bb, oo, sp⟩ = some v := h
  have hlt : bb < w.heap.size := by
    rcases Nat.lt_or_ge bb w.heap.size with h1 | h1
    · exact h1
    · simp [World.cell?, Array.getElem?_eq_none h1] at h'
  cases sp with
  | none => exact ⟨bb, oo, rfl, hlt⟩
  | some s =>
    exfalso
    unfold World.cell? at h'
    split at h' <;> simp at h'

set_option maxRecDepth 100000 in
theorem open_ints {H : Type} {enc : TypeId × Value → H} {w : World} {held : Bool} {base : Nat} {v : Value} {d : DataW H} {ps : List MemPlace} (h : DataW.Trod enc Tryz.prog w 0 (fun _ => true) held 29 v d ps) (hv : Value.okWide Tryz.prog w .any base 29 v) :
    ∃ xs : List Int, InZ w v xs ∧ (∀ j (h : j < xs.length), fitsI xs[j]) ∧ xs.length ≤ Rows.uptoBulk d ∧ ((∀ n ∈ d.weights Tryz.prog 29, n ≤ reachBytes) → xs.length ≤ 17592186044000) := by
  obtain ⟨a0, l0, c0, rfl⟩ := okWide_slice Tryz.underlying29 hv
  obtain ⟨fuel, hf⟩ := h
  rcases Go.Deep.open_slice1 Tryz.underlying29 (by kernel_rfl) hf with ⟨hcs, _⟩ | ⟨a, len, cap, m, n', V, D, Pl, hcs, _, hl, hm, hmm, hy, hx⟩
  · have hcs' : Value.slice a0 l0 c0 = .slice none 0 0 := by simpa [Value.cells] using hcs
    rw [hcs']
    exact ⟨[], Or.inl ⟨rfl, rfl⟩, fun j hj => by simp at hj, Nat.zero_le _, fun _ => Nat.zero_le _⟩
  · have hcs' : Value.slice a0 l0 c0 = .slice (some a) len cap := by simpa [Value.cells] using hcs
    rw [hcs']
    have hmc : m = cap := by simpa using hmm
    subst hmc
    simp only [Prod.mk.injEq] at hy
    obtain ⟨rfl, _⟩ := hy
    have hn := length_le ((List.range len).map D)
    rw [List.length_map, List.length_range] at hn
    obtain ⟨f, hf⟩ := Go.Deep.choose_lt (α := Int) (n := len) (p := fun i x => w.cell? (a.add i) = some (.int .i64 x) ∧ fitsI x) (fun i hi => by
      obtain ⟨g1, g2⟩ := hx i (by omega)
      obtain ⟨x, e, _, hw⟩ := DataW.trod_int Tryz.underlying3 g2
      simp at e
      exact ⟨x, by rw [g1, e], hw⟩)
    refine ⟨(List.range len).map f, Or.inr ⟨a, m, by rw [List.length_map, List.length_range], fun j hj => ?_, fun h0 => ?_⟩, fun j hj => ?_, ?_, ?_⟩
    · have hj' : j < len := by simpa using hj
      rw [(hf j hj').1]
      simp
    · rw [List.length_map, List.length_range] at h0
      exact plain_of_cell (w := w) (a := a) (hf 0 h0).1
    · have hj' : j < len := by simpa using hj
      simpa using (hf j hj').2
    · rw [List.length_map, List.length_range]
      simp only [Rows.uptoBulk]
      omega
    · intro hw
      have h47 : reachBytes = 140737488351232 := by decide
      have hby : Tryz.prog.bytesOf 3 = 8 := by kernel_rfl
      have := hw (((List.map D (List.range len)).length + (List.map D ((List.range m).drop len)).length) * Tryz.prog.bytesOf 3) (by simp [DataW.weights, Tryz.underlying29])
      rw [hby, List.length_map, List.length_range] at this
      have h2 := Nat.le_trans (Nat.mul_le_mul_right 8 (Nat.le_add_right len _)) this
      rw [List.length_map, List.length_range]
      omega
end Go.Proofs.YtdhphakjkgfngaaGreatDoor
/-
  For DirWidens: what a hash picks behind Widen; lists of hashes that came in.
-/
namespace Go.Proofs.YtdhphakjkgfngaaGreatDoor
open Go.ChangeShapes Go.WideShapes Go.ChangeAt Go.RowKit
set_option linter.unusedVariables false

theorem pick_wid {ts : List Int} {h D : Nat} (hD : D < 6) (hi : headN h (D + 1) < (dbl ts).length) (hj : headN h D < ts.length) : (dbl ts)[headN h (D + 1)] = ts[headN h D] := by
  rw [dbl_get hi]
  have e : headN h (D + 1) / 2 = headN h D := by
    have h1 := headN_succ h D (by omega)
    have h2 := bitN_lt h (D : Int)
    omega
  simp only [e]
/-- A list of hashes that came in. -/
def InU (w : World) (v : Value) (hs : List Nat) : Prop := (v = .slice none 0 0 ∧ hs = []) ∨ ∃ (a : Addr) (cap : Nat), v = .slice (some a) hs.length cap ∧ (∀ j (h : j < hs.length), w.cell? (a.add j) = some (.int .u64 ((hs[j] : Nat) : Int))) ∧ (0 < hs.length → ∃ b o, a = ⟨b, o, none⟩ ∧ b < w.heap.size)
theorem InU.form {w : World} {v : Value} {hs : List Nat} (h : InU w v hs) : ∃ so cap, v = .slice so hs.length cap ∧ ∀ j (hj : j < hs.length), ∃ b o, so = some ⟨b, o, none⟩ ∧ w.cell? ⟨b, o + j, none⟩ = some (.int .u64 ((hs[j] : Nat) : Int)) := by
  rcases h with ⟨rfl, rfl⟩ | ⟨a, cap, rfl, hc, hb⟩
  · exact ⟨none, 0, rfl, fun j hj => by simp at hj⟩
  · refine ⟨some a, cap, rfl, fun j hj => ?_⟩
    obtain ⟨b, o, rfl, _⟩ := hb (by omega)
    have := hc j hj
    rw [addr_add] at this
    exact ⟨b, o, rfl, this⟩

set_option maxRecDepth 100000 in
theorem open_u64s {H : Type} {enc : TypeId × Value → H} {w : World} {held : Bool} {base : Nat} {v : Value} {d : DataW H} {ps : List MemPlace} (h : DataW.Trod enc Tryz.prog w 0 (fun _ => true) held 23 v d ps) (hv : Value.okWide Tryz.prog w .any base 23 v) :
    ∃ xs : List Nat, InU w v xs ∧ (∀ j (h : j < xs.length), xs[j] < 18446744073709551616) ∧ xs.length ≤ Rows.uptoBulk d ∧ ((∀ n ∈ d.weights Tryz.prog 23, n ≤ reachBytes) → xs.length ≤ 17592186044000) := by
  obtain ⟨a0, l0, c0, rfl⟩ := okWide_slice Tryz.underlying23 hv
  obtain ⟨fuel, hf⟩ := h
  rcases Go.Deep.open_slice1 Tryz.underlying23 (by kernel_rfl) hf with ⟨hcs, _⟩ | ⟨a, len, cap, m, n', V, D, Pl, hcs, _, hl, hm, hmm, hy, hx⟩
  · have hcs' : Value.slice a0 l0 c0 = .slice none 0 0 := by simpa [Value.cells] using hcs
    rw [hcs']
    exact ⟨[], Or.inl ⟨rfl, rfl⟩, fun j hj => by simp at hj, Nat.zero_le _, fun _ => Nat.zero_le _⟩
  · have hcs' : Value.slice a0 l0 c0 = .slice (some a) len cap := by simpa [Value.cells] using hcs
    rw [hcs']
    have hmc : m = cap := by simpa using hmm
    subst hmc
    simp only [Prod.mk.injEq] at hy
    obtain ⟨rfl, _⟩ := hy
    have hn := length_le ((List.range len).map D)
    rw [List.length_map, List.length_range] at hn
    obtain ⟨f, hf⟩ := Go.Deep.choose_lt (α := Nat) (n := len) (p := fun i x => w.cell? (a.add i) = some (.int .u64 (x : Int)) ∧ x < 18446744073709551616) (fun i hi => by
      obtain ⟨g1, g2⟩ := hx i (by omega)
      obtain ⟨x, e, _, hw⟩ := DataW.trod_int Tryz.underlying30 g2
      simp at e
      obtain ⟨y, rfl, hy⟩ := u64_nat hw
      exact ⟨y, by rw [g1, e], hy⟩)
    refine ⟨(List.range len).map f, Or.inr ⟨a, m, by rw [List.length_map, List.length_range], fun j hj => ?_, fun h0 => ?_⟩, fun j hj => ?_, ?_, ?_⟩
    · have hj' : j < len := by simpa using hj
      rw [(hf j hj').1]
      simp
    · rw [List.length_map, List.length_range] at h0
      exact plain_of_cell (w := w) (a := a) (hf 0 h0).1
    · have hj' : j < len := by simpa using hj
      simpa using (hf j hj').2
    · rw [List.length_map, List.length_range]
      simp only [Rows.uptoBulk]
      omega
    · intro hw
      have h47 : reachBytes = 140737488351232 := by decide
      have hby : Tryz.prog.bytesOf 30 = 8 := by kernel_rfl
      have := hw (((List.map D (List.range len)).length + (List.map D ((List.range m).drop len)).length) * Tryz.prog.bytesOf 30) (by simp [DataW.weights, Tryz.underlying23])
      rw [hby, List.length_map, List.length_range] at this
      have h2 := Nat.le_trans (Nat.mul_le_mul_right 8 (Nat.le_add_right len _)) this
      rw [List.length_map, List.length_range]
      omega
end Go.Proofs.YtdhphakjkgfngaaGreatDoor
/-
  For DirWidens: a directory beside its box and a row of numbers that grows.
-/
namespace Go.Proofs.YtdhphakjkgfngaaGreatDoor
open Go.RowKit Go.Shelf
set_option linter.unusedVariables false

theorem row_kept {w w' : World} {base : Nat} {e : TypeId} {size : Nat} {v : Value} {n : Nat} {xs : List Value} (h : w.ownsRow base e size v n xs) (k : ∀ b, v.ownBlock = some b → w'.heap[b]? = w.heap[b]?) : w'.ownsRow base e size v n xs := by
  refine ⟨h.1, ?_⟩
  rcases h.2 with h2 | ⟨g, cap, cur, e1, h1, h2, h3⟩
  · exact Or.inl h2
  · exact Or.inr ⟨g, cap, cur, e1, h1, (k g (by rw [e1]; rfl)).trans h2, h3⟩
theorem Own.swap {w w1 w2 : World} {p : Nat} {X Y : Nat → Prop} {d : AD} (h : Own w w1 p X d) (k : Keeps w1 w2 X) (hX : ∀ i, X i → w.heap.size ≤ i) (hY : ∀ i, Y i → X i ∨ w1.heap.size ≤ i) : Own w w2 p Y d := by
  refine ⟨(h.here.keeps k (fun i _ e s => e.1.2 s)).mono (fun i _ e => ⟨e.1.1, fun y => ?_⟩), h.keeps.trans k (fun i hi e => by have := hX i e; omega)⟩
  rcases hY i y with x | x
  · exact e.1.2 x
  · have := e.2
    omega

/-- A directory, the statement's own copy of it (in block B, as it was at ob, Db) and a row of numbers. -/
structure Wid (w wr : World) (p B : Nat) (v : Value) (ys : List Int) (d : AD) (off D : Nat) (ts : List Int) (ob Db : Nat) : Prop where
  dir : DirO w wr p (fun i => i = B ∨ v.ownBlock = some i) d off D ts
  box : DirB wr B p ob Db
  row : wr.ownsRow w.heap.size 3 1 v ys.length (ys.map cellI)
  used : d.used = classN (8 * ts.length)
  limit : d.limit = 65536
  lv : d.lv (off : Int) = some (classN (8 * ts.length) : Int)
  base : w.heap.size ≤ B
  ne : v.ownBlock ≠ some B
section
variable {w w1 w2 : World} {p B : Nat} {v : Value} {ys : List Int} {d : AD} {off D : Nat} {ts : List Int} {ob Db : Nat}
theorem Wid.lt (h : Wid w w1 p B v ys d off D ts ob Db) : ∀ k, (k = B ∨ v.ownBlock = some k) → k < w1.heap.size := fun k hk => hk.elim (fun e => by rw [e]; exact heap_lt h.box) (fun e => (h.row.lt k e).2)
theorem Wid.stay (h : Wid w w1 p B v ys d off D ts ob Db) (k : Keeps w1 w2 (fun _ => False)) : Wid w w2 p B v ys d off D ts ob Db :=
  ⟨h.dir.stay k, k.blk h.box, row_kept h.row (fun b hb => k.block b (h.lt b (Or.inr hb)) id), h.used, h.limit, h.lv, h.base, h.ne⟩
theorem Wid.of {zs : List Int} (h : Made w w1 p off D d zs 65536) : Wid w (w1.alloc (.cells #[.pointer (some ⟨p, 0, none⟩), .int .i64 (off : Int), .int .i64 (D : Int)] 26)) p w1.heap.size (.slice none 0 0) [] d off D zs off D := by
  refine ⟨(h.dir.grow ((Keeps.refl w1 (fun _ => False)).alloc _)).less (fun k e => ?_), heap_alloc_new _ _, World.ownsRow_nil _ _ _ _, h.used, h.limit, h.lv, h.dir.own.keeps.size, by simp [Value.ownBlock]⟩
  rcases e with e | e
  · exact Or.inr (by rw [e]; simp)
  · simp [Value.ownBlock] at e
theorem Wid.push (h : Wid w w1 p B v ys d off D ts ob Db) (z : Int) (hn : ys.length < 17592186044000) :
    ∃ g cap w2, (∀ ty, (Builtin.append_ #[29, 29] ty #[v, .slice (some ⟨w1.heap.size, 0, none⟩) 1 1]).run Tryz.prog (w1.alloc (.cells #[.int .i64 z] 3)) = .ok (.slice (some ⟨g, 0, none⟩) (ys.length + 1) cap) w2) ∧ Wid w w2 p B (.slice (some ⟨g, 0, none⟩) (ys.length + 1) cap) (ys ++ [z]) d off D ts ob Db := by
  have hBv := h.ne
  have hsz := h.dir.own.keeps.size
  have hBl := heap_lt h.box
  obtain ⟨g, cap, w2, hr, hown, kk, hloc⟩ := append_one (P := Tryz.prog) 29 3 (.int .i64 0) 8 Tryz.underlying29 (by kernel_rfl) rfl (h.row.alloc (.cells #[.int .i64 z] 3)) (heap_alloc_new w1 (.cells #[.int .i64 z] 3)) rfl (by omega) (by simp only [maxLen]; omega) (by simp; omega)
  have k1 : Keeps w1 w2 (fun k => v.ownBlock = some k) := ((Keeps.refl w1 _).alloc _).trans kk (fun _ _ e => e)
  have hgB : g ≠ B := by
    rcases hloc with e1 | e1
    · intro e; rw [e] at e1; exact hBv e1
    · simp at e1; omega
  refine ⟨g, cap, w2, hr, ⟨⟨?_, h.dir.fine, h.dir.well, h.dir.dir, h.dir.len, h.dir.dep, h.dir.fit⟩, k1.blkF h.box hBv, by simpa [cellI] using hown, h.used, h.limit, h.lv, h.base, by simpa [Value.ownBlock] using hgB⟩⟩
  have k2 : Keeps w1 w2 (fun i => i = B ∨ v.ownBlock = some i) := k1.mono (fun i _ e => Or.inr e)
  refine h.dir.own.swap k2 (fun i e => e.elim (fun q => by rw [q]; exact h.base) (fun q => (h.row.lt i q).1)) (fun i e => ?_)
  rcases e with e | e
  · exact Or.inl (Or.inl e)
  · have e' : g = i := by simpa [Value.ownBlock] using e
    subst e'
    rcases hloc with e1 | e1
    · exact Or.inl (Or.inr e1)
    · exact Or.inr (by rw [e1]; simp)
/-- Widen, as the statement has it. -/
theorem Wid.widen (h : Wid w w1 p B v ys d off D ts ob Db) (hT : TabAt w) (hD : D < 6) :
    Calls Tryz.prog 14 #[.agg #[.pointer (some ⟨p, 0, none⟩), .int .i64 (off : Int), .int .i64 (D : Int)]] w1 fun e w' => ∃ (o2 : Nat) (d3 : AD), e = .returned (.tuple #[.agg #[.pointer (some ⟨p, 0, none⟩), .int .i64 (o2 : Int), .int .i64 (((D + 1 : Nat)) : Int)], .int .i64 0]) ∧ Wid w w' p B v ys d3 o2 (D + 1) (dbl ts) ob Db := by
  have h64 := h.dir.low.2.1
  have hlen := h.dir.len
  have c1 : classN (8 * ts.length) ≤ 1024 := by rw [hlen]; exact class_pow D (by omega)
  have e16 : 16 * ts.length = 8 * 2 ^ (D + 1) := by rw [hlen, Nat.pow_succ]; omega
  have c2 : classN (16 * ts.length) ≤ 1024 := by rw [e16]; exact class_pow (D + 1) (by omega)
  refine (dwiden_yes h.dir h.lt hT hD (by rw [h.used, h.limit]; omega)).mono ?_
  rintro e w' ⟨o2, d1, d2, d3, rfl, hB, hWr, hg, hD3, k⟩
  obtain ⟨u1, u2, u3⟩ := widen_used h.dir.fine hB hWr hg h.lv h.used
  have hne := widen_ne h.dir.dir h.dir.fine hB
  have e8 : 8 * (dbl ts).length = 16 * ts.length := by rw [dbl_length]; omega
  refine ⟨o2, d3, rfl, hD3, k.blkF h.box (fun e => e.1.2 (Or.inl rfl)), row_kept h.row (fun b hb => k.block b (h.lt b (Or.inr hb)) (fun e => e.1.2 (Or.inr hb))), by rw [e8]; exact u1, u2.trans h.limit, ?_, h.base, h.ne⟩
  rw [u3, if_neg (by omega), e8]
/-- The statement's copy is the directory as it is now. -/
theorem Wid.set (h : Wid w w1 p B v ys d off D ts ob Db) (hb : DirB w2 B p off D) (k : Keeps w1 w2 (fun i => i = B)) : Wid w w2 p B v ys d off D ts off D :=
  ⟨h.dir.kept k (fun i e => Or.inl e) (fun i e => by rw [e]; exact h.base), hb, row_kept h.row (fun b hb => k.block b (h.lt b (Or.inr hb)) (fun e => h.ne (by rw [hb, e]))), h.used, h.limit, h.lv, h.base, h.ne⟩
theorem Wid.form (h : Wid w w1 p B v ys d off D ts ob Db) : ∃ so cap, v = .slice so ys.length cap ∧ ∀ j (hj : j < ys.length), ∃ g, so = some ⟨g, 0, none⟩ ∧ ∀ W d off D ts ob Db, Wid w W p B v ys d off D ts ob Db → W.cell? ⟨g, j, none⟩ = some (.int .i64 ys[j]) := by
  rcases h.row.2 with ⟨h1, h2⟩ | ⟨g, cap, cur, e1, h1, h2, h3⟩
  · have : ys = [] := List.eq_nil_of_length_eq_zero h2
    subst this
    exact ⟨none, 0, h1, fun j hj => by simp at hj⟩
  · refine ⟨_, cap, e1, fun j hj => ⟨g, rfl, fun W _ _ _ _ _ _ hW => ?_⟩⟩
    subst e1
    have := row_cells hW.row j hj
    rwa [Nat.zero_add] at this
end
theorem dbl_pick {ts : List Int} {D : Nat} {h : Nat} (hD : D < 6) (hl : ts.length = 2 ^ D) (hh : h < 18446744073709551616) : (dbl ts).getD (headN h (D + 1)) 0 = ts.getD (headN h D) 0 := by
  have hj : headN h D < ts.length := by rw [hl]; exact headN_lt h D hh (by omega)
  have hi : headN h (D + 1) < (dbl ts).length := by
    have := headN_lt h (D + 1) hh (by omega)
    rw [dbl_length, hl]
    rw [Nat.pow_succ] at this
    omega
  rw [List.getD_eq_getElem?_getD, List.getD_eq_getElem?_getD, List.getElem?_eq_getElem hi, List.getElem?_eq_getElem hj, Option.getD_some, Option.getD_some]
  exact pick_wid hD hi hj
end Go.Proofs.YtdhphakjkgfngaaGreatDoor
/-
  A range over a function whose rounds see the world as it is at that moment: what a round is given hangs on a state that the body may turn.
-/
namespace Go.Proofs.YtdhphakjkgfngaaGreatDoor
open Go.RowKit Go.Shelf
set_option linter.unusedVariables false

section
variable {σ α : Type}

/-- The iterator's word: at a state s it gives an x with Gx x s; behind the round the state is one with Nx x s; at its end Ex holds of the state. What it needs of the world at a state is Rx. -/
def SeqTied (n : Nat) (g : Nat) (lb : Array Value) (encs : α → Array Value) (Gx : α → σ → Prop) (Nx : α → σ → σ → Prop) (Ex : σ → Prop) (Rx : σ → World → Prop) (s0 : σ) : Prop :=
  ∀ (l : Nat) (J : σ → World → Prop) (Jx : World → Prop) (W : World), (∀ s V V', J s V → Keeps V V' (fun _ => False) → J s V') → (∀ s V, J s V → Rx s V) →
    (∀ x s V, J s V → Gx x s → YieldAt Fence.wide (n - 1) Tryz.prog l (encs x) V fun e V' => (e = .returned (.bool true) ∧ ∃ s', Nx x s s' ∧ J s' V') ∨ (e = .returned (.bool false) ∧ Jx V')) →
    J s0 W →
    CallsIn Fence.wide n Tryz.prog g (#[.func (.yield l) #[] #[]] ++ lb) W fun e W' => (∃ v, e = .returned v) ∧ ((∃ s, Ex s ∧ J s W') ∨ Jx W')

/-- How a round's body may be left: the loop's two blocks lie as they lay. -/
def TiedPost (B : Nat) (I : σ → World → Prop) (Ix : Code → World → Prop) (Nx : σ → Prop) (W : World) : Exit → Act → World → Prop
  | .normal, _, V => (∀ k, k = B ∨ k = B + 1 → V.heap[k]? = W.heap[k]?) ∧ ∃ s, Nx s ∧ I s V
  | .ret, _, V => (∀ k, k = B ∨ k = B + 1 → V.heap[k]? = W.heap[k]?) ∧ Ix .ret V
  | .exit i, _, V => (∀ k, k = B ∨ k = B + 1 → V.heap[k]? = W.heap[k]?) ∧ Ix (.exit i) V
  | .goto t, _, V => (∀ k, k = B ∨ k = B + 1 → V.heap[k]? = W.heap[k]?) ∧ Ix (.goto t) V
  | .panic _, _, _ => False
  | .outgrown, _, _ => False

theorem range_tied {n : Nat} {op : Operand} {ps : Array Tmp} {assign body : Code} {Q : Exit → Act → World → Prop} {a : Act} {w : World} (h1 : 2 ≤ n) {gf : Nat} {lb : Array Value}
    (hop : a.eval op = .func (.func gf) #[] lb) (eg : ∀ args w, (callFunc gf args).run Tryz.prog w = .ok (.enter gf args) w)
    {encs : α → Array Value} {Gx : α → σ → Prop} {Nx : α → σ → σ → Prop} {Ex : σ → Prop} {Rx : σ → World → Prop} {s0 : σ} (hseq : SeqTied (n - 1) gf lb encs Gx Nx Ex Rx s0)
    (hps : ∀ x, (encs x).size = ps.size) (Ax : Act → α → Act → World → Prop) (hAx : ∀ x a' V r o, Ax a x a' V → V.heap[w.heap.size + 1]? = some (.loop r) → Ax a x a' (V.putObj (w.heap.size + 1) o)) (I : σ → World → Prop) (Ix : Code → World → Prop) (hR : ∀ s V, I s V → Rx s V)
    (hI : ∀ s V V', I s V → Keeps V V' (fun _ => False) → I s V')
    (hIp : ∀ s V r o, I s V → V.heap[w.heap.size + 1]? = some (.loop r) → I s (V.putObj (w.heap.size + 1) o))
    (hXp : ∀ c V r o, Ix c V → V.heap[w.heap.size + 1]? = some (.loop r) → Ix c (V.putObj (w.heap.size + 1) o))
    (h0 : ∀ r, I s0 ((w.alloc (.deferred (some []))).alloc (.loop r)))
    (hassign : ∀ x s W (K : Act → World → Prop), I s W → (∀ a' W', Keeps W W' (fun _ => False) → Ax a x a' W' → K a' W') →
      assign.wpIn (Fence.wide.inRound (w.heap.size + 1)) (n - 1 - 1) Tryz.prog (Exit.then K (fun _ _ _ => False)) { tmps := (ps.zip (encs x)).foldl (fun t (p, v) => t.setIfInBounds p v) a.tmps, defers := [] } W)
    (hbody : ∀ x s a' W, I s W → Ax a x a' W → Gx x s → body.wpIn (Fence.wide.inRound (w.heap.size + 1)) (n - 1 - 1) Tryz.prog (TiedPost w.heap.size I Ix (Nx x s) W) a' W)
    (hdone : ∀ s W, Ex s → I s W → W.heap[w.heap.size]? = some (.deferred (some [])) → Q .normal { a with defers := { target := .collected w.heap.size, args := #[] } :: a.defers } W)
    (hstop : ∀ c W, Ix c W → W.heap[w.heap.size]? = some (.deferred (some [])) → c.wpIn Fence.wide n Tryz.prog Q { a with defers := { target := .collected w.heap.size, args := #[] } :: a.defers } W) :
    (Code.rangeFunc op ps assign body).wpIn Fence.wide n Tryz.prog Q a w := by
  apply wpIn_rangeFunc
  intro fn hfn
  let rec_ : LoopState → Option Code → Loop := fun st pe => { state := st, pending := pe, fn := fn, tmps := a.tmps, params := ps, assign := assign, body := body, defers := w.heap.size }
  obtain ⟨W1, hW1⟩ : ∃ W1, (w.alloc (.deferred (some []))).alloc (.loop (rec_ .ready none)) = W1 := ⟨_, rfl⟩
  have hi0 : I s0 W1 := hW1 ▸ h0 _
  have hLs : W1.heap[w.heap.size + 1]? = some (.loop (rec_ .ready none)) := by
    have := World.alloc_heap_new (w.alloc (.deferred (some []))) (.loop (rec_ .ready none))
    rw [← hW1]
    rwa [World.size_alloc] at this
  have hDs : W1.heap[w.heap.size]? = some (.deferred (some [])) := by
    rw [← hW1]
    exact (Below.heap_alloc _ _ _ (by simp)).trans (World.alloc_heap_new w _)
  refine ⟨w.heap.size + 1, [{ target := .collected w.heap.size, args := #[] }], W1, { target := .fn (.func gf) lb, args := #[.func (.yield (w.heap.size + 1)) #[] #[]] }, W1, gf,
    #[.func (.yield (w.heap.size + 1)) #[] #[]] ++ lb, W1, by rw [← hW1]; exact run_enterLoop_outer fn a.tmps ps assign body, ?_, fun _ _ => trivial, ?_, fun _ => by omega, ?_⟩
  · simp only [resolve, hop]
    simp [go_sem]
  · simp [invoke, go_sem, eg]
  · have two : ∀ {U : World} {o : Obj}, U.heap[w.heap.size + 1]? = some o → U.heap[w.heap.size]? = some (.deferred (some [])) → ∀ o' : Obj,
        (U.putObj (w.heap.size + 1) o').heap[w.heap.size + 1]? = some o' ∧ (U.putObj (w.heap.size + 1) o').heap[w.heap.size]? = some (.deferred (some [])) := fun hu hd o' =>
      ⟨World.putObj_heap_same (heap_lt hu), (World.putObj_heap_other (by omega)).trans hd⟩
    refine (hseq (w.heap.size + 1) (fun s U => I s U ∧ U.heap[w.heap.size + 1]? = some (.loop (rec_ .ready none)) ∧ U.heap[w.heap.size]? = some (.deferred (some [])))
      (fun U => ∃ c, Ix c U ∧ U.heap[w.heap.size + 1]? = some (.loop (rec_ .done (some c))) ∧ U.heap[w.heap.size]? = some (.deferred (some []))) W1
      (fun s U U' h k => ⟨hI s U U' h.1 k, k.blk h.2.1, k.blk h.2.2⟩) (fun s U h => hR s U h.1) ?_ ⟨hi0, hLs, hDs⟩).mono ?_
    · rintro x s U ⟨hi, hl, hd⟩ hG
      refine ⟨fn, _, assign, body, run_yield hl (hps x), roundIn_of_wpIn hfn (hassign x s U _ hi ?_)⟩
      intro a' U1 k1 hax
      replace hi := hI s U U1 hi k1
      replace hl := k1.blk hl
      replace hd := k1.blk hd
      clear k1
      obtain ⟨U, rfl⟩ : ∃ U, U = U1 := ⟨_, rfl⟩
      refine ⟨_, run_beginRound hl rfl, ?_⟩
      have hb := two hl hd (.loop { rec_ .ready none with state := .busy })
      have hi2 := hIp s U _ (.loop { rec_ .ready none with state := .busy }) hi hl
      refine wpIn_mono (hbody x s a' _ hi2 (hAx x a' U _ _ hax hl) hG) ?_
      have fin : ∀ (j : Option Code) (U' : World), (∀ k, k = w.heap.size ∨ k = w.heap.size + 1 → U'.heap[k]? = (U.putObj (w.heap.size + 1) (.loop { rec_ .ready none with state := .busy })).heap[k]?) →
          (Instr.endRound (w.heap.size + 1) j).run Tryz.prog U' = .ok (.bool j.isNone) (U'.putObj (w.heap.size + 1) (.loop (rec_ (if j.isNone then .ready else .done) j))) ∧
          U'.heap[w.heap.size + 1]? = some (.loop { rec_ .ready none with state := .busy }) ∧ U'.heap[w.heap.size]? = some (.deferred (some [])) := fun j U' h =>
        ⟨run_endRound j ((h _ (Or.inr rfl)).trans hb.1), (h _ (Or.inr rfl)).trans hb.1, (h _ (Or.inl rfl)).trans hb.2⟩
      intro e a2 U' hp
      cases e with
      | normal =>
        obtain ⟨hk, s', hN, hi'⟩ := hp
        obtain ⟨r1, r2, r3⟩ := fin none U' hk
        exact ⟨_, _, r1, .inl ⟨rfl, s', hN, hIp s' U' _ _ hi' r2, two r2 r3 _⟩⟩
      | ret =>
        obtain ⟨r1, r2, r3⟩ := fin (some .ret) U' hp.1
        exact ⟨_, _, r1, .inr ⟨rfl, _, hXp _ U' _ _ hp.2 r2, two r2 r3 _⟩⟩
      | exit i =>
        obtain ⟨r1, r2, r3⟩ := fin (some (.exit i)) U' hp.1
        exact ⟨_, _, r1, .inr ⟨rfl, _, hXp _ U' _ _ hp.2 r2, two r2 r3 _⟩⟩
      | goto t =>
        obtain ⟨r1, r2, r3⟩ := fin (some (.goto t)) U' hp.1
        exact ⟨_, _, r1, .inr ⟨rfl, _, hXp _ U' _ _ hp.2 r2, two r2 r3 _⟩⟩
      | panic _ => exact hp.elim
      | outgrown => exact hp.elim
    · rintro e U ⟨⟨v, rfl⟩, h⟩
      rcases h with ⟨s, hE, hi, hl, hd⟩ | ⟨c, hx, hl, hd⟩
      · exact ⟨none, _, run_endLoop hl (by simp [rec_]), hdone s _ hE (hIp s U _ _ hi hl) (two hl hd _).2⟩
      · exact ⟨some c, _, run_endLoop hl (by simp [rec_]), hstop c _ (hXp c U _ _ hx hl) (two hl hd _).2⟩
end
end Go.Proofs.YtdhphakjkgfngaaGreatDoor
/-
  Tables of dir: a range over it gives the first entry of each run.
-/
namespace Go.Proofs.YtdhphakjkgfngaaGreatDoor
open Go.RowKit Go.Shelf
set_option linter.unusedVariables false

attribute [local go_sem] Oper.semAt_some

set_option maxHeartbeats 1000000 in
theorem dtab_call (p off D : Nat) (w : World) :
    Calls Tryz.prog 8 #[.agg #[.pointer (some ⟨p, 0, none⟩), .int .i64 (off : Int), .int .i64 (D : Int)]] w fun e w' => e = .returned (.func (.func 19) #[] #[.pointer (some ⟨w.heap.size, 0, none⟩)]) ∧ w' = w.alloc (.cells #[.pointer (some ⟨p, 0, none⟩), .int .i64 (off : Int), .int .i64 (D : Int)] 26) := by
  go_enter Tryz.func8, Tryz.ntmps8
  go_wp2
  go_ret
  exact ⟨rfl, rfl⟩

/-- Does a run begin at entry j? -/
def run1 (ts : List Int) (j : Nat) : Prop := j = 0 ∨ ts.getD j 0 ≠ ts.getD (j - 1) 0
def lastA (ts : List Int) (k : Nat) : Int := if k = 0 then 0 else ts.getD (k - 1) 0
theorem lastA_succ (ts : List Int) (k : Nat) : lastA ts (k + 1) = ts.getD k 0 := by simp [lastA]
def GxT (ts : List Int) (x : Nat × Int) (s : Nat) : Prop := s ≤ x.1 ∧ x.1 < ts.length ∧ x.2 = ts.getD x.1 0 ∧ run1 ts x.1 ∧ ∀ j, s ≤ j → j < x.1 → ¬ run1 ts j
def NxT (x : Nat × Int) (s s' : Nat) : Prop := s' = x.1 + 1
def ExT (ts : List Int) (s : Nat) : Prop := ∀ j, s ≤ j → j < ts.length → ¬ run1 ts j
def RxT (p Bq off D : Nat) (ts : List Int) (s : Nat) (V : World) : Prop := (∃ w X d, DirO w V p X d off D ts) ∧ DirB V Bq p off D

set_option maxRecDepth 100000 in
set_option maxHeartbeats 4000000 in
theorem dtab_each (n : Nat) (h1 : 1 ≤ n) (p Bq off D : Nat) (ts : List Int) (hl : ts.length = 2 ^ D) (hD : D ≤ 6) :
    SeqTied n 19 #[.pointer (some ⟨Bq, 0, none⟩)] (fun x : Nat × Int => #[.int .i64 (x.1 : Int), .int .i64 x.2]) (GxT ts) NxT (ExT ts) (RxT p Bq off D ts) 0 := by
  intro lp J Jx W hJk hJR hY hJ0
  have hro : Fence.wide.round = none := rfl
  have hEn := fun V => dentries_any p off D V hD
  rw [← hl] at hEn
  have h64 : ts.length ≤ 64 := by rw [hl]; exact pow_le6 hD
  have HB0 := hide (hJR 0 W hJ0).2
  obtain ⟨⟨e0, e1, e2⟩, -⟩ := three_cells HB0.out
  have HJR := hide hJR
  have HJk := hide hJk
  have HJ0 := hide hJ0
  clear hJR hJk hJ0 HB0 hl
  refine callsIn_of_wp Tryz.func19 rfl trivial ?_ hro
  simp only [Tryz.ntmps19, List.size_toArray, List.length_cons, List.length_nil, Nat.reduceAdd, Nat.reduceSub, Array.replicate_succ, Array.replicate_zero, List.push_toArray, List.append_toArray, List.nil_append, List.cons_append]
  gi_wp2_with fail
  refine ⟨trivial, (callsIn_wide.2 (hEn _)).mono ?_⟩
  rintro e W1 ⟨rfl, k1⟩
  have HJ1 := hide (HJk.out _ _ _ HJ0.out k1)
  clear hEn e0 e1 e2 k1 HJ0
  gi_wp2_with fail
  gi_loopw [3, 9] (fun v3 v9 wr => ∃ (k s : Nat), v9 = .int .i64 (k : Int) ∧ v3 = .int .i64 (lastA ts k) ∧ k ≤ ts.length ∧ J s wr ∧ s ≤ k ∧ ∀ j, s ≤ j → j < k → ¬ run1 ts j) (fun _ v9 _ => ts.length - (intOf v9).toNat)
  case atStart => exact ⟨0, 0, rfl, rfl, Nat.zero_le _, HJ1.out, Nat.le_refl _, fun j h1 h2 => by omega⟩
  case round =>
    clear HJ1
    obtain ⟨k, s, rfl, rfl, hk, hJ, hsk, hno⟩ := hrel
    by_cases h8 : k < ts.length
    · have h8' : (k : Int) < (ts.length : Int) := by omega
      obtain ⟨⟨w0, X, d, hO⟩, hB⟩ := HJR.out s wr hJ
      have hLd := dload_any hO k h8
      obtain ⟨⟨e0, e1, e2⟩, -⟩ := three_cells hB
      have hgd : ts[k] = ts.getD k 0 := by rw [List.getD_eq_getElem?_getD, List.getElem?_eq_getElem h8]; rfl
      rw [hgd] at hLd
      have HN := hide hno
      have HJ := hide hJ
      have Hls := hide (lastA_succ ts k)
      clear hno hO hB hJ hgd
      by_cases h2 : run1 ts k
      · have hYk := fun V hV hg => hY (k, ts.getD k 0) s V hV hg
        have HG : Hid (GxT ts (k, ts.getD k 0) s) := hide ⟨hsk, h8, rfl, h2, HN.out⟩
        have hcs : k = 0 ∨ (¬ k = 0 ∧ (ts.getD k 0 != lastA ts k) = true) := by
          by_cases h0 : k = 0
          · exact Or.inl h0
          · refine Or.inr ⟨h0, ?_⟩
            have := h2.resolve_left h0
            simp only [lastA, if_neg h0, bne_iff_ne, ne_eq]
            exact this
        clear hY h2
        generalize ts.getD k 0 = z at *
        generalize lastA ts k = la at *
        gi_wp2_with fail
        refine ⟨trivial, (callsIn_wide.2 hLd).mono ?_⟩
        rintro e W2 ⟨rfl, k2⟩
        have HJ2 := hide (HJk.out _ _ _ HJ.out k2)
        clear HJ hLd e0 e1 e2 k2
        obtain ⟨fn, tmps, assign, body, hy, hRd⟩ := hYk _ HJ2.out HG.out
        clear hYk HG HJ2
        rcases hcs with q0 | ⟨q0, q1⟩
        · have q0' : ((k : Int) == 0) = true := by simp; omega
          have q0'' : (k : Int) = 0 ↔ True := by simp; omega
          have Q0 := hide q0
          clear q0
          gi_wp2_with fail
          refine hRd.mono ?_
          rintro e W4 (⟨rfl, s', hN', hJ4⟩ | ⟨rfl, hJx4⟩)
          · have HJ4 := hide hJ4
            have HN' : Hid (s' = k + 1) := hide hN'
            clear hRd hy hJ4 hN'
            gi_wp2_with fail
            go_roundw
            case rel => exact ⟨k + 1, s', by go_num, by rw [Hls.out], by omega, HJ4.out, by rw [HN'.out]; exact Nat.le_refl _, fun j q1 q2 => by rw [HN'.out] at q1; omega⟩
            case measure => simp [intOf]; omega
          · have HX4 := hide hJx4
            clear hRd hy hJx4
            gi_wp2_with fail
            refine bodyPost_ret (results_none rfl _ _ _) rfl ?_
            exact ⟨⟨_, rfl⟩, .inr HX4.out⟩
        · have q0' : ((k : Int) == 0) = false := by simp; omega
          gi_wp2_with fail
          refine hRd.mono ?_
          rintro e W4 (⟨rfl, s', hN', hJ4⟩ | ⟨rfl, hJx4⟩)
          · have HJ4 := hide hJ4
            have HN' : Hid (s' = k + 1) := hide hN'
            clear hRd hy hJ4 hN'
            gi_wp2_with fail
            go_roundw
            case rel => exact ⟨k + 1, s', by go_num, by rw [Hls.out], by omega, HJ4.out, by rw [HN'.out]; exact Nat.le_refl _, fun j q1 q2 => by rw [HN'.out] at q1; omega⟩
            case measure => simp [intOf]; omega
          · have HX4 := hide hJx4
            clear hRd hy hJx4
            gi_wp2_with fail
            refine bodyPost_ret (results_none rfl _ _ _) rfl ?_
            exact ⟨⟨_, rfl⟩, .inr HX4.out⟩
      · have q0 : ¬ k = 0 := fun q => h2 (Or.inl q)
        have q0' : ((k : Int) == 0) = false := by simp; omega
        have hez : ts.getD k 0 = lastA ts k := by
          simp only [lastA, if_neg q0]
          exact Classical.byContradiction fun q => h2 (Or.inr q)
        have H2 := hide h2
        rw [hez] at hLd Hls
        clear hY h2 hez
        generalize lastA ts k = la at *
        gi_wp2_with fail
        refine ⟨trivial, (callsIn_wide.2 hLd).mono ?_⟩
        rintro e W2 ⟨rfl, k2⟩
        have HJ2 := hide (HJk.out _ _ _ HJ.out k2)
        clear HJ hLd e0 e1 e2 k2
        gi_wp2_with fail
        refine ⟨fun f hf => (nomatch hf), ?_⟩
        gi_wp2_with fail
        go_roundw
        case rel => exact ⟨k + 1, s, by go_num, by rw [Hls.out], by omega, HJ2.out, by omega, fun j q1 q2 => by
          by_cases e : j = k
          · rw [e]; exact H2.out
          · exact HN.out j q1 (by omega)⟩
        case measure => simp [intOf]; omega
    · obtain rfl : k = ts.length := by omega
      have HE : Hid (ExT ts s) := hide hno
      have HJ := hide hJ
      clear hno hJ
      gi_wp2_with fail
      go_end0
      exact ⟨⟨_, rfl⟩, .inl ⟨s, HE.out, HJ.out⟩⟩
end Go.Proofs.YtdhphakjkgfngaaGreatDoor
