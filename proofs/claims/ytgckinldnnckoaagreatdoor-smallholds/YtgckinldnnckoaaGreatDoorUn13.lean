import Derived.RegionTactic
import Derived.Test.YtgckinldnnckoaaGreatDoorChecked
import Derived.WalkKit
import Derived.Laws.Bits64
import Derived.Laws.BitsAll
import Derived.Deep.QuietTactic
import Derived.BigQuiet
import Derived.Deep.RegionHeld3
import Derived.Maps.OwnSet
import Derived.Test.YtgckinldnnckoaaGreatDoorUn12
/-
  small: New.
-/
namespace Go.Proofs.YtgckinldnnckoaaGreatDoor
open Go.RowKit Go.Shelf Ly Ct
set_option linter.unusedVariables false
/-- A new one's header. -/
def hdS : Nat → Int := fun i => if i = 0 then 1 else 0
/-- A new block of zeros, its first word laid: what is left is its group. -/
theorem snew_data {d : AD} {l : Lay} {c : Nat} (hF : d.Fine) (hv : validB l = true) (hc : 32 + l.g.toNat ≤ c) (hr : d.bs.length + c ≤ 134217728) (hu : d.used + c ≤ d.limit) :
    (d.took c).Fine ∧ storeR (d.took c) ((d.bs.length : Nat) : Int) 8 (u64of 1) = (0, (d.took c).bytes (splice (d.took c).bs d.bs.length (leBytes (u64of 1) 8))) ∧ Touch (d.took c) ((d.took c).bytes (splice (d.took c).bs d.bs.length (leBytes (u64of 1) 8))) d.bs.length 32 ∧ thereB ((d.took c).bytes (splice (d.took c).bs d.bs.length (leBytes (u64of 1) 8))) l ((d.bs.length + 32 : Nat) : Int) = true ∧
    ∀ d3, Touch ((d.took c).bytes (splice (d.took c).bs d.bs.length (leBytes (u64of 1) 8))) d3 (d.bs.length + 32) l.g.toNat → GroupAt d3 l (d.bs.length + 32) (fun _ => GC.zero) → SmD d3 l d.bs.length hdS (fun _ => GC.zero) := by
  have hvm := valid_more hv
  have hF1 : (d.took c).Fine := hF.took (by omega) (by omega) (by omega)
  have hbs : (d.took c).bs = d.bs ++ zeros c := AD.took_bs _ _
  have hlen : (d.took c).bs.length = d.bs.length + c := by rw [hbs, List.length_append, zeros_length]
  have hv1 : (d.took c).lv (d.bs.length : Int) = some (c : Int) := by rw [AD.took_lv, upd_same]
  have m1 : (d.bs.length, c) ∈ (d.took c).L := by rw [AD.took_L]; simp
  have hg32 : (d.took c).goodB (d.bs.length : Int) 32 = true := AD.goodB_mk m1 hv1 (by omega) (by simp) (by simp; omega)
  have hg8 : (d.took c).goodB (d.bs.length : Int) 8 = true := AD.goodB_mk m1 hv1 (by omega) (by simp) (by simp; omega)
  have hgg : (d.took c).goodB ((d.bs.length + 32 : Nat) : Int) l.g = true := AD.goodB_mk m1 hv1 (by omega) (by omega) (by omega)
  have hll : d.bs.length + (leBytes (u64of 1) 8).length ≤ (d.took c).bs.length := by rw [leBytes_length]; omega
  have ht : Touch (d.took c) ((d.took c).bytes (splice (d.took c).bs d.bs.length (leBytes (u64of 1) 8))) d.bs.length 32 := Touch.splice (d.took c) (Nat.le_refl _) (by rw [leBytes_length]; omega) hll
  have hz : ∀ i, i < 4 → hdr (d.took c) d.bs.length i = 0 := fun i hi => by
    unfold hdr AD.span
    rw [hbs, show ((d.bs.length : Int) + (i : Int) * 8).toNat = d.bs.length + i * 8 by omega, show (8 : Int).toNat = 8 from rfl, drop_zeros _ _ 0 _ _ (by omega) (by omega), numOf_zeros]
    unfold wrap64
    omega
  refine ⟨hF1, ?_, ht, ?_, fun d3 h3 hg => ⟨?_, ?_, fun i hi => ?_, hg⟩⟩
  · unfold storeR
    rw [hg8, Int.toNat_natCast]
    rfl
  · unfold thereB
    rw [hv, ht.goodB, hgg]
    rfl
  · rw [h3.goodB, ht.goodB]
    exact hg32
  · rw [h3.len, ht.len]
    omega
  · rw [hdr_touch4 h3 (Or.inl (Nat.le_refl _)) hi]
    have := hdr_set4 (d := d.took c) (off := d.bs.length) (by omega) (i := 0) (j := i) (by omega) hi (u64of 1)
    rw [Nat.zero_mul, Nat.add_zero] at this
    rw [this, hz i hi]
    unfold hdS
    by_cases e : i = 0
    · rw [if_pos e, if_pos e, Nat.mod_eq_of_lt (u64of_lt 1)]
      exact wrap_u64of (fitsI_mk (by omega) (by omega))
    · rw [if_neg e, if_neg e]
set_option maxRecDepth 100000 in
set_option maxHeartbeats 400000 in
theorem smat_any (p : Nat) (l : Lay) (off : Int) (w : World) : Calls Tryz.prog 57 #[.pointer (some ⟨p, 0, none⟩), .agg #[.int .i64 l.k, .int .i64 l.e, .int .i64 l.a, .int .i64 l.b, .int .i64 l.c, .int .i64 l.eo, .int .i64 l.bo, .int .i64 l.s, .int .i64 l.g], .int .i64 off] w fun e w' => e = .returned (.agg #[.pointer (some ⟨p, 0, none⟩), .int .i64 l.k, .int .i64 l.e, .int .i64 l.a, .int .i64 l.b, .int .i64 l.c, .int .i64 l.eo, .int .i64 l.bo, .int .i64 l.s, .int .i64 l.g, .int .i64 off]) ∧ Keeps w w' (fun _ => False) := by
  go_enter Tryz.func57, Tryz.ntmps57
  go_wp2_with fail
  refine bodyPost_ret (v := .agg #[.pointer (some ⟨p, 0, none⟩), .int .i64 l.k, .int .i64 l.e, .int .i64 l.a, .int .i64 l.b, .int .i64 l.c, .int .i64 l.eo, .int .i64 l.bo, .int .i64 l.s, .int .i64 l.g, .int .i64 off]) (by simp [results, Tryz.results57, go_sem]) rfl ⟨rfl, ?_⟩
  exact ((Keeps.refl _ _).alloc _).alloc _
/-- The two structs while New ends: the one that is answered, and the one in hand. -/
structure NW (w4 : World) (B1 B8 p : Nat) (l : Lay) (off : Int) (v0 v1 v2 v3 v4 v5 v6 v7 v8 v9 v10 : Value) (W : World) : Prop where
  b8 : W.heap[B8]? = some (.cells #[.pointer (some ⟨p, 0, none⟩), .int .i64 l.k, .int .i64 l.e, .int .i64 l.a, .int .i64 l.b, .int .i64 l.c, .int .i64 l.eo, .int .i64 l.bo, .int .i64 l.s, .int .i64 l.g, .int .i64 off] 41)
  b1 : W.heap[B1]? = some (.cells #[v0, v1, v2, v3, v4, v5, v6, v7, v8, v9, v10] 41)
  kp : Keeps w4 W (fun k => k = B1)
abbrev set11 (W : World) (B1 p : Nat) (l : Lay) (off : Int) : World := (((((((((((W.setCell ⟨B1, 0, none⟩ (.pointer (some ⟨p, 0, none⟩))).setCell ⟨B1, 1, none⟩ (.int .i64 l.k)).setCell ⟨B1, 2, none⟩ (.int .i64 l.e)).setCell ⟨B1, 3, none⟩ (.int .i64 l.a)).setCell ⟨B1, 4, none⟩ (.int .i64 l.b)).setCell ⟨B1, 5, none⟩ (.int .i64 l.c)).setCell ⟨B1, 6, none⟩ (.int .i64 l.eo)).setCell ⟨B1, 7, none⟩ (.int .i64 l.bo)).setCell ⟨B1, 8, none⟩ (.int .i64 l.s)).setCell ⟨B1, 9, none⟩ (.int .i64 l.g)).setCell ⟨B1, 10, none⟩ (.int .i64 off))
section
variable {w4 W W' : World} {B1 B8 p : Nat} {l : Lay} {off : Int} {v0 v1 v2 v3 v4 v5 v6 v7 v8 v9 v10 : Value}
theorem NW.keep (h : NW w4 B1 B8 p l off v0 v1 v2 v3 v4 v5 v6 v7 v8 v9 v10 W) (k : Keeps W W' (fun _ => False)) : NW w4 B1 B8 p l off v0 v1 v2 v3 v4 v5 v6 v7 v8 v9 v10 W' := ⟨k.blk h.b8, k.blk h.b1, h.kp.trans k (fun _ _ e => e.elim)⟩
theorem NW.set (h : NW w4 B1 B8 p l off v0 v1 v2 v3 v4 v5 v6 v7 v8 v9 v10 W) (hne : B8 ≠ B1) : NW w4 B1 B8 p l off (.pointer (some ⟨p, 0, none⟩)) (.int .i64 l.k) (.int .i64 l.e) (.int .i64 l.a) (.int .i64 l.b) (.int .i64 l.c) (.int .i64 l.eo) (.int .i64 l.bo) (.int .i64 l.s) (.int .i64 l.g) (.int .i64 off) (set11 W B1 p l off) :=
  eleven_set h.b1 (Keeps.refl W (fun i => i = B1)) (fun _ => rfl) (P := fun W9 => NW w4 B1 B8 p l off (.pointer (some ⟨p, 0, none⟩)) (.int .i64 l.k) (.int .i64 l.e) (.int .i64 l.a) (.int .i64 l.b) (.int .i64 l.c) (.int .i64 l.eo) (.int .i64 l.bo) (.int .i64 l.s) (.int .i64 l.g) (.int .i64 off) W9) fun w9 h9 k9 _ => ⟨(k9.block B8 (heap_lt h.b8) hne).trans h.b8, h9, h.kp.trans k9 (fun _ _ e => e)⟩
end
end Go.Proofs.YtgckinldnnckoaaGreatDoor
/-
  small: New, its walk.
-/
namespace Go.Proofs.YtgckinldnnckoaaGreatDoor
open Go.RowKit Go.Shelf Ly Ct
set_option linter.unusedVariables false
def SNewPost (d0 : AD) (w : World) (p : Nat) (F : Nat → Prop) (l : Lay) (off : Nat) (e : Ending) (w' : World) : Prop :=
  e = .returned (.tuple #[.agg #[.pointer (some ⟨p, 0, none⟩), .int .i64 l.k, .int .i64 l.e, .int .i64 l.a, .int .i64 l.b, .int .i64 l.c, .int .i64 l.eo, .int .i64 l.bo, .int .i64 l.s, .int .i64 l.g, .int .i64 (off : Int)], .int .i64 0]) ∧ ∃ d', Turned w w' p F d' ∧ d'.Fine ∧ SmD d' l off hdS (fun _ => GC.zero) ∧ Touch d0 d' off (32 + l.g.toNat)

theorem new_end {w w4 V w6 : World} {B1 p : Nat} {F F2 : Nat → Prop} {d3 : AD} (hk : Keeps w w4 F) (kp : Keeps w4 V (fun k => k = B1)) (hB : w.heap.size ≤ B1) (h : Turned V w6 p F2 d3) (h2 : ∀ k, F2 k → F k ∨ w.heap.size ≤ k) : Turned w w6 p F d3 :=
  ⟨h.1.mono (fun i _ q => q.elim (h2 i) (fun e => Or.inr (by have := hk.size; have := kp.size; omega))), (hk.trans kp (fun i hi e => by omega)).trans h.2 (fun i hi q => (h2 i q).elim id (fun e => by omega))⟩
theorem new_end2 {w w4 V w6 W9 : World} {B1 p : Nat} {F F2 : Nat → Prop} {d3 : AD} (hk : Keeps w w4 F) (kp : Keeps w4 V (fun k => k = B1)) (hB : w.heap.size ≤ B1) (h : Turned V w6 p F2 d3) (h2 : ∀ k, F2 k → F k ∨ w.heap.size ≤ k) (k9 : Keeps w6 W9 (fun k => k = B1)) (hB2 : B1 < V.heap.size) (hBF : ¬ F2 B1) : Turned w W9 p F d3 :=
  ⟨(h.1.keeps k9 (fun i _ q e => by
    subst e
    rcases q with q | q
    · exact hBF q
    · omega)).mono (fun i _ q => q.elim (h2 i) (fun e => Or.inr (by have := hk.size; have := kp.size; omega))), ((hk.trans kp (fun i hi e => by omega)).trans h.2 (fun i hi q => (h2 i q).elim id (fun e => by omega))).trans k9 (fun i hi e => by omega)⟩

set_option maxRecDepth 100000 in
set_option maxHeartbeats 8000000 in
theorem snew_yes {w : World} {p : Nat} {F : Nat → Prop} {d : AD} (hA : Arena w p F d) (hF : d.Fine) (hW : newG d) (hFl : ∀ k, F k → k < w.heap.size) (l : Lay) (hv : validB l = true) (c : Nat) (hc : classN (32 + l.g.toNat) = c) (hu : d.used + c ≤ d.limit) :
    Calls Tryz.prog 28 #[.pointer (some ⟨p, 0, none⟩), .agg #[.int .i64 l.k, .int .i64 l.e, .int .i64 l.a, .int .i64 l.b, .int .i64 l.c, .int .i64 l.eo, .int .i64 l.bo, .int .i64 l.s, .int .i64 l.g]] w fun e w' => SNewPost (d.took c) w p F l d.bs.length e w' := by
  have hvm := valid_more hv
  have hcl := class_le (32 + l.g.toNat) (by omega) (by omega)
  rw [hc] at hcl
  have hlm := hF.lim
  have hbl := hW.2
  obtain ⟨hF1, hSt, ht2, hth, hfin⟩ := snew_data (c := c) hF hv hcl.1 (by omega) hu
  have hoff : ((d.bs.length : Nat) : Int) ≤ 134217728 := by omega
  have HAl : Hid (∀ W, Keeps w W (fun _ => False) → Calls Tryz.prog 56 #[.pointer (some ⟨p, 0, none⟩), .int .i64 (32 + l.g)] W fun e w' => e = .returned (.tuple #[.int .i64 (d.bs.length : Int), .int .i64 0]) ∧ Turned W w' p F (d.took c)) := fun W k => by
    have := alloc_yes newOK (hA.keeps k (fun _ _ _ e => e)) (fun i hi => Nat.lt_of_lt_of_le (hFl i hi) k.size) hW hF (32 + l.g.toNat) (by omega) (by omega) (by rw [hc]; exact hu)
    rw [hc, show ((32 + l.g.toNat : Nat) : Int) = 32 + l.g by omega] at this
    exact this
  have HSe : Hid (∀ W (G : Nat → Prop), Arena W p G (d.took c) → (∀ k, G k → k < W.heap.size) → Calls Tryz.prog 48 #[.agg #[.pointer (some ⟨p, 0, none⟩), .int .i64 l.k, .int .i64 l.e, .int .i64 l.a, .int .i64 l.b, .int .i64 l.c, .int .i64 l.eo, .int .i64 l.bo, .int .i64 l.s, .int .i64 l.g, .int .i64 (d.bs.length : Int)], .int .i64 0, .int .i64 1] W fun e w' => e = .returned (.int .i64 0) ∧ Turned W w' p G ((d.took c).bytes (splice (d.took c).bs d.bs.length (leBytes (u64of 1) 8)))) := fun W G a b => by
    have := sset_any a hF1 b l (d.bs.length : Int) 0 1 (by omega) (by omega) (by omega) (by omega)
    rw [show ((d.bs.length : Nat) : Int) + 0 * 8 = (d.bs.length : Int) by omega, hSt] at this
    exact this
  have HRs : Hid (∀ W (G : Nat → Prop), Arena W p G ((d.took c).bytes (splice (d.took c).bs d.bs.length (leBytes (u64of 1) 8))) → (∀ k, G k → k < W.heap.size) → Calls Tryz.prog 58 #[.agg #[.pointer (some ⟨p, 0, none⟩), .int .i64 l.k, .int .i64 l.e, .int .i64 l.a, .int .i64 l.b, .int .i64 l.c, .int .i64 l.eo, .int .i64 l.bo, .int .i64 l.s, .int .i64 l.g, .int .i64 ((d.bs.length : Int) + 32)]] W fun e w' => e = .returned (.int .i64 0) ∧ ∃ d3, Turned W w' p G d3 ∧ d3.Fine ∧ SmD d3 l d.bs.length hdS (fun _ => GC.zero) ∧ Touch (d.took c) d3 d.bs.length (32 + l.g.toNat)) := fun W G a b => by
    have h0 := greset_any a (ht2.fine hF1) b l ((d.bs.length + 32 : Nat) : Int) (fitsI_mk (by omega) (by omega)) (fitsI_mk (by omega) (by omega))
    obtain ⟨r1, r2, r3⟩ := reset_group (ht2.fine hF1) hth
    rw [r1] at h0
    refine h0.mono ?_
    rintro e w' ⟨rfl, hT⟩
    exact ⟨rfl, _, hT, r3.fine (ht2.fine hF1), hfin _ r3 r2, (ht2.wide (Nat.le_refl _) (by omega)).trans (r3.wide (by omega) (by omega))⟩
  have hG := fun W => sgroup_any p l (d.bs.length : Int) W (by omega) (by omega)
  have hAt := fun W => smat_any p l (d.bs.length : Int) W
  have HFl := hide hFl
  have hw1 : wrap64 (32 + l.g) = 32 + l.g := by unfold wrap64; omega
  have hw2 : IntKind.i64.wrap (32 + l.g) = 32 + l.g := by rw [IntKind.wrap_i64]; omega
  unfold SNewPost
  generalize (d.took c).bytes (splice (d.took c).bs d.bs.length (leBytes (u64of 1) 8)) = d2 at *
  generalize d.took c = D1 at *
  generalize d.bs.length = off at *
  clear hA hF hW hvm hv hcl hlm hbl hF1 hSt ht2 hth hfin hoff hu hc hFl
  go_enter Tryz.func28, Tryz.ntmps28
  go_wp2_with fail
  refine alloc2 (P := fun W => Calls _ _ _ W _) fun W0 hb hr hz K0 => ?_
  (with_reducible refine (HAl.out _ K0).mono ?_)
  rintro r w1 ⟨rfl, hT1⟩
  have hnb : ¬ F w.heap.size := fun q => by have := HFl.out _ q; omega
  have hnr : ¬ F (w.heap.size + 1) := fun q => by have := HFl.out _ q; omega
  have hb1 := (hT1.2.block w.heap.size (heap_lt hb) hnb).trans hb
  have hr1 := (hT1.2.block (w.heap.size + 1) (heap_lt hr) hnr).trans hr
  have n0 : w1.cell? ⟨w.heap.size, 0, none⟩ = some (.int .i64 l.k) := by simp [World.cell?, hb1]
  have n1 : w1.cell? ⟨w.heap.size, 1, none⟩ = some (.int .i64 l.e) := by simp [World.cell?, hb1]
  have n2 : w1.cell? ⟨w.heap.size, 2, none⟩ = some (.int .i64 l.a) := by simp [World.cell?, hb1]
  have n3 : w1.cell? ⟨w.heap.size, 3, none⟩ = some (.int .i64 l.b) := by simp [World.cell?, hb1]
  have n4 : w1.cell? ⟨w.heap.size, 4, none⟩ = some (.int .i64 l.c) := by simp [World.cell?, hb1]
  have n5 : w1.cell? ⟨w.heap.size, 5, none⟩ = some (.int .i64 l.eo) := by simp [World.cell?, hb1]
  have n6 : w1.cell? ⟨w.heap.size, 6, none⟩ = some (.int .i64 l.bo) := by simp [World.cell?, hb1]
  have n7 : w1.cell? ⟨w.heap.size, 7, none⟩ = some (.int .i64 l.s) := by simp [World.cell?, hb1]
  have n8 : w1.cell? ⟨w.heap.size, 8, none⟩ = some (.int .i64 l.g) := by simp [World.cell?, hb1]
  have HT1 := hide hT1
  have Hz := hide hz
  clear hb hr hb1 hT1 HAl hw1 hw2 hz
  go_wp2_with fail
  (with_reducible refine (hAt _).mono ?_)
  rintro r w2 ⟨rfl, k2⟩
  clear hAt n0 n1 n2 n3 n4 n5 n6 n7 n8
  go_upto_region 5 with fail
  refine alloc1 (P := fun W => Code.wp _ _ _ _ W) fun W3 hb8 hz8 k8 => ?_
  have k13 : Keeps w1 W3 (fun _ => False) := k2.trans k8 (fun _ _ e => e)
  have hr3 := k13.blk hr1
  have hS3 := HSe.out W3 _ (HT1.out.arena.keeps k13 (fun _ _ _ e => e)) (fun k q => Nat.lt_of_lt_of_le q.2 k13.size)
  obtain ⟨c0, c1, c2, c3, c4, c5, c6, c7, c8, c9, c10⟩ := c11_of hb8
  have HB := hide (And.intro hb8 (And.intro hr3 (And.intro k13 (And.intro k2.size (heap_lt hb8)))))
  clear HSe hb8 hz8 k8 k2 hr1 k13 hr3
  obtain ⟨B8, hB8⟩ : ∃ B8, w2.heap.size = B8 := ⟨_, rfl⟩
  rw [hB8] at HB c0 c1 c2 c3 c4 c5 c6 c7 c8 c9 c10 ⊢
  clear hB8
  go_wp2_with fail
  (with_reducible refine hS3.mono ?_)
  rintro r w4 ⟨rfl, hT2⟩
  obtain ⟨hb8, hr3, k13, h12, hlt8⟩ := HB.out
  have hn8 : ¬ ((F B8 ∨ W0.heap.size ≤ B8) ∧ B8 < w1.heap.size) := fun q => by have := q.2; omega
  have hn1 : ¬ ((F (w.heap.size + 1) ∨ W0.heap.size ≤ w.heap.size + 1) ∧ w.heap.size + 1 < w1.heap.size) := fun q => by
    have := Hz.out
    rcases q.1 with e | e
    · exact hnr e
    · omega
  have N4 : NW w4 (w.heap.size + 1) B8 p l (off : Int) _ _ _ _ _ _ _ _ _ _ _ w4 := ⟨(hT2.2.block B8 (heap_lt hb8) hn8).trans hb8, (hT2.2.block _ (heap_lt hr3) hn1).trans hr3, Keeps.refl _ _⟩
  have hne : B8 ≠ w.heap.size + 1 := by
    have a := HT1.out.2.size
    have b := Hz.out
    omega
  have HT2 := hide hT2
  have HN4 := hide (N4.keep ((Keeps.refl w4 (fun _ => False)).drew))
  have HN5 := hide ((N4.set hne).keep ((Keeps.refl _ (fun _ => False)).drew))
  have hF2 : Hid ((¬ ((((F B8 ∨ W0.heap.size ≤ B8) ∧ B8 < w1.heap.size) ∨ W3.heap.size ≤ B8) ∧ B8 < w4.heap.size)) ∧ ¬ ((((F (w.heap.size + 1) ∨ W0.heap.size ≤ w.heap.size + 1) ∧ w.heap.size + 1 < w1.heap.size) ∨ W3.heap.size ≤ w.heap.size + 1) ∧ w.heap.size + 1 < w4.heap.size)) := ⟨fun q => q.1.elim hn8 (fun e => by omega), fun q => q.1.elim hn1 (fun e => by have := heap_lt hr3; omega)⟩
  have HA4 := hide hT2.arena
  have HKW : Hid (Keeps w w4 F) := ((((K0.mono (fun _ _ e => e.elim)).trans HT1.out.2 (fun _ _ e => e)).trans k13 (fun _ _ e => e.elim)).trans hT2.2 (fun i hi q => by
    rcases q.1 with e | e
    · exact e
    · have := Hz.out; omega))
  obtain ⟨c0, c1, c2, c3, c4, c5, c6, c7, c8, c9, c10⟩ := c11_of N4.b8
  obtain ⟨⟨d0, d1, d2', d3, d4, d5, d6, d7, d8, d9, d10⟩, f0, f1, f2, f3, f4, f5, f6, f7, f8, f9, f10⟩ := eleven_cells N4.b1
  have S5 := c11_of (N4.set hne).b8
  obtain ⟨s0, s1, s2, s3, s4, s5, s6, s7, s8, s9, s10⟩ := S5
  have H2 : Hid (∀ k, ((((F k ∨ W0.heap.size ≤ k) ∧ k < w1.heap.size) ∨ W3.heap.size ≤ k) ∧ k < w4.heap.size) → F k ∨ w.heap.size ≤ k) := fun k q => by
    have a := K0.size
    have b := HT1.out.2.size
    have e := k13.size
    rcases q.1 with ⟨q1 | q1, -⟩ | q1
    · exact Or.inl q1
    · exact Or.inr (by omega)
    · exact Or.inr (by omega)
  have HLt : Hid (w.heap.size + 1 < w4.heap.size) := heap_lt N4.b1
  have HR4 : Hid (∀ V v0 v1 v2 v3 v4 v5 v6 v7 v8 v9 v10, NW w4 (w.heap.size + 1) B8 p l (off : Int) v0 v1 v2 v3 v4 v5 v6 v7 v8 v9 v10 V → Calls Tryz.prog 58 #[.agg #[.pointer (some ⟨p, 0, none⟩), .int .i64 l.k, .int .i64 l.e, .int .i64 l.a, .int .i64 l.b, .int .i64 l.c, .int .i64 l.eo, .int .i64 l.bo, .int .i64 l.s, .int .i64 l.g, .int .i64 ((off : Int) + 32)]] V fun e w' => e = .returned (.int .i64 0) ∧ NW w4 (w.heap.size + 1) B8 p l (off : Int) v0 v1 v2 v3 v4 v5 v6 v7 v8 v9 v10 V ∧ ∃ d3, Turned V w' p (fun k => ((((F k ∨ W0.heap.size ≤ k) ∧ k < w1.heap.size) ∨ W3.heap.size ≤ k) ∧ k < w4.heap.size)) d3 ∧ d3.Fine ∧ SmD d3 l off hdS (fun _ => GC.zero) ∧ Touch D1 d3 off (32 + l.g.toNat)) := fun V v0 v1 v2 v3 v4 v5 v6 v7 v8 v9 v10 N => by
    refine (HRs.out V _ (HA4.out.keeps N.kp (fun i _ q e => by subst e; exact hF2.out.2 q)) (fun k q => Nat.lt_of_lt_of_le q.2 N.kp.size)).mono ?_
    rintro e w' ⟨rfl, r⟩
    exact ⟨rfl, N, r⟩
  clear N4 hT2 hb8 hr3 k13 h12 hlt8 hn8 hn1 HB hS3 HRs HA4
  go_wp2_with fail
  go_region_with (first
    | (go_at_call 49; (with_reducible refine (hG _).mono ?_); rintro r wG ⟨rfl, kG⟩; (first | (with_reducible have NG := HN4.out.keep kG) | (with_reducible have NG := HN5.out.keep kG)); obtain ⟨c0, c1, c2, c3, c4, c5, c6, c7, c8, c9, c10⟩ := c11_of NG.b8; obtain ⟨⟨d0, d1, d2', d3, d4, d5, d6, d7, d8, d9, d10⟩, f0, f1, f2, f3, f4, f5, f6, f7, f8, f9, f10⟩ := eleven_cells NG.b1)
    | (go_at_call 58; (first | (with_reducible refine (HR4.out _ _ _ _ _ _ _ _ _ _ _ _ NG).mono ?_) | (with_reducible refine (HR4.out _ _ _ _ _ _ _ _ _ _ _ _ (NG.set hne)).mono ?_)); rintro r w6 ⟨rfl, NV, d3, hT3, hF3, hS3, hto3⟩; have b86 := (hT3.2.block B8 (heap_lt NV.b8) hF2.out.1).trans NV.b8; have b16 := (hT3.2.block _ (heap_lt NV.b1) hF2.out.2).trans NV.b1; obtain ⟨c0, c1, c2, c3, c4, c5, c6, c7, c8, c9, c10⟩ := c11_of b86; obtain ⟨⟨d0, d1, d2', d3', d4, d5, d6, d7, d8, d9, d10⟩, f0, f1, f2, f3, f4, f5, f6, f7, f8, f9, f10⟩ := eleven_cells b16))
  all_goals (
    have HE := hide (And.intro hF3 (And.intro hS3 hto3))
    have HTT := hide (fun (W9 : World) (k9 : Keeps w6 W9 (fun k => k = w.heap.size + 1)) => new_end2 HKW.out NV.kp (Nat.le_succ _) hT3 H2.out k9 (heap_lt NV.b1) hF2.out.2)
    clear hF3 hS3 hto3 hT3 NV NG b86
    go_wp2_with fail
    refine eleven_set b16 (Keeps.refl w6 (fun i => i = w.heap.size + 1)) (fun _ => rfl) (P := fun w9 => bodyPost _ _ _ _ _ w9) fun w9 h9 k9 _ => ?_
    obtain ⟨⟨e0, e1, e2, e3, e4, e5, e6, e7, e8, e9, e10⟩, -⟩ := eleven_cells h9
    exact bodyPost_ret (v := .tuple #[.agg #[.pointer (some ⟨p, 0, none⟩), .int .i64 l.k, .int .i64 l.e, .int .i64 l.a, .int .i64 l.b, .int .i64 l.c, .int .i64 l.eo, .int .i64 l.bo, .int .i64 l.s, .int .i64 l.g, .int .i64 (off : Int)], .int .i64 0]) (by simp [results, Tryz.results28, go_sem, e0, e1, e2, e3, e4, e5, e6, e7, e8, e9, e10]) rfl ⟨rfl, d3, HTT.out _ k9, HE.out.1, HE.out.2.1, HE.out.2.2⟩)
end Go.Proofs.YtgckinldnnckoaaGreatDoor
/-
  The hash as plain numbers: the mixer, its steps undone, the parts of a hash.
-/
namespace Go.Proofs.YtgckinldnnckoaaGreatDoor.Oc

/-- h xor (h shifted by s). -/
def foldN (s h : Nat) : Nat := h ^^^ h / 2 ^ s
def mulN (f h : Nat) : Nat := h * f % 18446744073709551616
def stepN (h c : Nat) : Nat := foldN 31 (mulN 11329751410908088055 (h ^^^ c))
def bytesN (h : Nat) (cs : List UInt8) : Nat := cs.foldl (fun h c => stepN h c.toNat) h
def startN (seed n : Nat) : Nat := seed ^^^ mulN 13234230157428861123 (1 + n)
def endN (h : Nat) : Nat := foldN 32 (mulN 13234230157428861123 (foldN 29 h))
def mixN (seed : Nat) (cs : List UInt8) : Nat := endN (bytesN (startN seed cs.length) cs)

theorem foldN_lt {s h : Nat} (hh : h < 18446744073709551616) : foldN s h < 18446744073709551616 := by
  have : h ^^^ h / 2 ^ s < 2 ^ 64 := Nat.xor_lt_two_pow hh (Nat.lt_of_le_of_lt (Nat.div_le_self _ _) hh)
  exact this
theorem mulN_lt (f h : Nat) : mulN f h < 18446744073709551616 := Nat.mod_lt _ (by decide)
theorem stepN_lt (h c : Nat) : stepN h c < 18446744073709551616 := foldN_lt (mulN_lt _ _)
theorem bytesN_lt {h : Nat} (cs : List UInt8) (hh : h < 18446744073709551616) : bytesN h cs < 18446744073709551616 := by
  induction cs generalizing h with
  | nil => exact hh
  | cons c t ih => exact ih (stepN_lt _ _)
theorem xorN_lt {a b : Nat} (ha : a < 18446744073709551616) (hb : b < 18446744073709551616) : a ^^^ b < 18446744073709551616 := by
  have : a ^^^ b < 2 ^ 64 := Nat.xor_lt_two_pow ha hb
  exact this
theorem startN_lt {seed : Nat} (n : Nat) (h : seed < 18446744073709551616) : startN seed n < 18446744073709551616 := xorN_lt h (mulN_lt _ _)
theorem endN_lt (h : Nat) : endN h < 18446744073709551616 := foldN_lt (mulN_lt _ _)
theorem mixN_lt (seed : Nat) (cs : List UInt8) : mixN seed cs < 18446744073709551616 := endN_lt _
theorem bytesN_take (h : Nat) (cs : List UInt8) (k : Nat) (hk : k < cs.length) : bytesN h (cs.take (k + 1)) = stepN (bytesN h (cs.take k)) (cs[k].toNat) := by
  unfold bytesN
  rw [List.take_succ_eq_append_getElem hk, List.foldl_append, List.foldl_cons, List.foldl_nil]
theorem bytesN_append (h : Nat) (a b : List UInt8) : bytesN h (a ++ b) = bytesN (bytesN h a) b := by simp [bytesN]
theorem bytesN_one (h : Nat) (c : UInt8) : bytesN h [c] = stepN h c.toNat := by unfold bytesN; rw [List.foldl_cons, List.foldl_nil]

theorem foldN_inj {s a b : Nat} (hs : 0 < s) (ha : a < 18446744073709551616) (hb : b < 18446744073709551616) (h : foldN s a = foldN s b) : a = b := by
  have hbit : ∀ n i, 64 ≤ i + n → a.testBit i = b.testBit i := by
    intro n
    induction n with
    | zero =>
      intro i hi
      have h2 : (2 : Nat) ^ 64 ≤ 2 ^ i := Nat.pow_le_pow_right (by decide) (by omega)
      rw [Nat.testBit_lt_two_pow (Nat.lt_of_lt_of_le ha h2), Nat.testBit_lt_two_pow (Nat.lt_of_lt_of_le hb h2)]
    | succ n ih =>
      intro i hi
      have e := congrArg (fun x => Nat.testBit x i) h
      simp only [foldN, Nat.testBit_xor, Nat.testBit_div_two_pow] at e
      have e2 := ih (i + s) (by omega)
      rw [e2] at e
      cases h1 : a.testBit i <;> cases h2 : b.testBit i <;> cases h3 : b.testBit (i + s) <;> simp_all
  exact Nat.eq_of_testBit_eq fun i => hbit 64 i (by omega)
theorem mulN_inj {f g a b : Nat} (hfg : f * g % 18446744073709551616 = 1) (ha : a < 18446744073709551616) (hb : b < 18446744073709551616) (h : mulN f a = mulN f b) : a = b := by
  have back : ∀ x, x < 18446744073709551616 → mulN f x * g % 18446744073709551616 = x := by
    intro x hx
    unfold mulN
    rw [Nat.mod_mul_mod, Nat.mul_assoc, ← Nat.mul_mod_mod, hfg, Nat.mul_one, Nat.mod_eq_of_lt hx]
  rw [← back a ha, ← back b hb, h]
theorem xorN_inj {a b c : Nat} (h : a ^^^ c = b ^^^ c) : a = b := by
  have := congrArg (· ^^^ c) h
  simpa [Nat.xor_assoc] using this
theorem xorN_inj2 {a b c : Nat} (h : c ^^^ a = c ^^^ b) : a = b := by
  rw [Nat.xor_comm c a, Nat.xor_comm c b] at h
  exact xorN_inj h
theorem B_inv : 11329751410908088055 * 11986966857307544263 % 18446744073709551616 = 1 := by decide
theorem A_inv : 13234230157428861123 * 1295998937641175019 % 18446744073709551616 = 1 := by decide
theorem stepN_inj {a b c : Nat} (ha : a < 18446744073709551616) (hb : b < 18446744073709551616) (hc : c < 18446744073709551616) (h : stepN a c = stepN b c) : a = b :=
  xorN_inj (mulN_inj B_inv (xorN_lt ha hc) (xorN_lt hb hc) (foldN_inj (by decide) (mulN_lt _ _) (mulN_lt _ _) h))
theorem stepN_inj2 {a b c : Nat} (ha : a < 18446744073709551616) (hb : b < 18446744073709551616) (hc : c < 18446744073709551616) (h : stepN c a = stepN c b) : a = b :=
  xorN_inj2 (mulN_inj B_inv (xorN_lt hc ha) (xorN_lt hc hb) (foldN_inj (by decide) (mulN_lt _ _) (mulN_lt _ _) h))
theorem byte_small (c : UInt8) : c.toNat < 18446744073709551616 := Nat.lt_of_lt_of_le c.toNat_lt (by decide)
theorem bytesN_inj {a b : Nat} (cs : List UInt8) (ha : a < 18446744073709551616) (hb : b < 18446744073709551616) (h : bytesN a cs = bytesN b cs) : a = b := by
  induction cs generalizing a b with
  | nil => exact h
  | cons c t ih => exact stepN_inj ha hb (byte_small c) (ih (stepN_lt _ _) (stepN_lt _ _) h)
theorem endN_inj {a b : Nat} (ha : a < 18446744073709551616) (hb : b < 18446744073709551616) (h : endN a = endN b) : a = b :=
  foldN_inj (by decide) ha hb (mulN_inj A_inv (foldN_lt ha) (foldN_lt hb) (foldN_inj (by decide) (mulN_lt _ _) (mulN_lt _ _) h))
/-- One key under two seeds. -/
theorem mixN_seed {a b : Nat} (cs : List UInt8) (ha : a < 18446744073709551616) (hb : b < 18446744073709551616) : mixN a cs = mixN b cs ↔ a = b := by
  refine ⟨fun h => ?_, fun h => by rw [h]⟩
  exact xorN_inj (bytesN_inj cs (startN_lt _ ha) (startN_lt _ hb) (endN_inj (bytesN_lt _ (startN_lt _ ha)) (bytesN_lt _ (startN_lt _ hb)) h))
/-- Two keys that differ at one place. -/
theorem mixN_byte {seed : Nat} (hs : seed < 18446744073709551616) (a b : List UInt8) (x y : UInt8) : mixN seed (a ++ [x] ++ b) = mixN seed (a ++ [y] ++ b) ↔ x = y := by
  refine ⟨fun h => ?_, fun h => by rw [h]⟩
  have hl : (a ++ [x] ++ b).length = (a ++ [y] ++ b).length := by simp
  have hs1 := startN_lt (a ++ [y] ++ b).length hs
  unfold mixN at h
  rw [hl] at h
  have h1 := endN_inj (bytesN_lt _ hs1) (bytesN_lt _ hs1) h
  rw [bytesN_append, bytesN_append, bytesN_append, bytesN_append, bytesN_one, bytesN_one] at h1
  have h2 := bytesN_inj b (stepN_lt _ _) (stepN_lt _ _) h1
  exact UInt8.toNat_inj.1 (stepN_inj2 (byte_small x) (byte_small y) (bytesN_lt _ hs1) h2)
end Go.Proofs.YtgckinldnnckoaaGreatDoor.Oc
/-
  The mixer: folded, Mix.
-/
namespace Go.Proofs.YtgckinldnnckoaaGreatDoor.Oc
open Go.RowKit

/-- What was there stays; what is new may be anything. -/
def Kp (w w' : World) : Prop := Below w.heap.size w w'
theorem Kp.refl (w : World) : Kp w w := Below.refl _ _
theorem Kp.trans {w w1 w2 : World} (h : Kp w w1) (k : Kp w1 w2) : Kp w w2 := Below.trans h (Below.mono k h.size)
theorem Kp.alloc {w w1 : World} (h : Kp w w1) (o : Obj) : Kp w (w1.alloc o) := Below.alloc h h.size o
theorem Kp.drew {w w1 : World} (h : Kp w w1) : Kp w w1.drew := Below.drew h
theorem Kp.cell {w w1 : World} (h : Kp w w1) {p : Addr} {v : Value} (hp : w.cell? p = some v) : w1.cell? p = some v := by
  have : p.block < w.heap.size := by
    refine Nat.lt_of_not_le fun hn => ?_
    rw [World.cell?, Array.getElem?_eq_none hn] at hp
    cases hp
  exact (Below.cell h this).trans hp

/-- The mixer's two factors, where the program lays them. -/
def OddAt (w : World) : Prop := w.cell? ⟨0, 0, none⟩ = some (.int .u64 13234230157428861123) ∧ w.cell? ⟨0, 1, none⟩ = some (.int .u64 11329751410908088055)

set_option maxHeartbeats 400000 in
theorem folded_any (h s : Nat) (hh : h < 18446744073709551616) (hs : s < 64) (w : World) :
    Calls Tryz.prog 115 #[.int .u64 (h : Int), .int .i64 (s : Int)] w fun e w' => e = .returned (.int .u64 (foldN s h : Nat)) ∧ w' = w := by
  have hx : bits BinOp.xor IntKind.u64 (h : Int) ((h : Int) / 2 ^ s) = ((foldN s h : Nat) : Int) := by
    have := xorShift_u64 h (2 ^ s) hh
    rw [Int.natCast_pow] at this
    exact this
  go_enter Tryz.func115, Tryz.ntmps115
  go_wp2_with fail
  go_ret
  exact ⟨rfl, rfl⟩

theorem mul_odd (f a : Nat) : IntKind.u64.wrap ((a : Int) * (f : Int)) = ((mulN f a : Nat) : Int) := by
  rw [IntKind.wrap_u64]
  unfold mulN
  rw [Int.natCast_emod, Int.natCast_mul]
  rfl

theorem OddAt.kp {w w' : World} (h : OddAt w) (k : Kp w w') : OddAt w' := ⟨k.cell h.1, k.cell h.2⟩

/-- A call of folded by its answer. -/
def FoldIs (h s r : Int) : Prop := ∃ H S : Nat, h = (H : Int) ∧ s = (S : Int) ∧ H < 18446744073709551616 ∧ S < 64 ∧ r = ((foldN S H : Nat) : Int)
theorem fold_is {h s r : Int} (q : FoldIs h s r) (w : World) :
    Calls Tryz.prog 115 #[.int .u64 h, .int .i64 s] w fun e w' => e = .returned (.int .u64 r) ∧ w' = w := by
  obtain ⟨H, S, rfl, rfl, h1, h2, rfl⟩ := q
  exact folded_any H S h1 h2 w

theorem hide {p : Prop} (h : p) : Hid p := h

set_option maxHeartbeats 1000000 in
theorem mix_walk (seed S R : Nat) (key : ByteArray) (cs : List UInt8) (w : World) (hS : S < 18446744073709551616) (hl : key.size < 9223372036854775808) (ho : OddAt w)
    (h1 : IntKind.u64.wrap (13234230157428861123 * (1 + (key.size : Int))) = ((mulN 13234230157428861123 (1 + key.size) : Nat) : Int))
    (h2 : bits BinOp.xor IntKind.u64 (seed : Int) ((mulN 13234230157428861123 (1 + key.size) : Nat) : Int) = ((S : Nat) : Int))
    (hR : Hid (R = endN (bytesN S cs))) (hlen : cs.length = key.size) (hget : ∀ i (hi : i < key.size), key[i] = cs[i]'(by omega)) :
    Calls Tryz.prog 75 #[.int .u64 (seed : Int), .string key] w fun e w' => e = .returned (.int .u64 (R : Nat)) ∧ Kp w w' := by
  obtain ⟨o0, o1⟩ := ho
  go_enter Tryz.func75, Tryz.ntmps75
  go_wp2_with fail
  clear h1 h2
  go_loopw [5, 18] (fun vh vi wr => ∃ i : Nat, vi = .int .i64 (i : Int) ∧ i ≤ key.size ∧ vh = .int .u64 ((bytesN S (cs.take i) : Nat) : Int) ∧ Kp w wr) (fun _ vi _ => key.size - (intOf vi).toNat)
  case atStart => exact ⟨0, rfl, Nat.zero_le _, rfl, Kp.refl _⟩
  case round =>
    obtain ⟨i, rfl, hi, rfl, kr⟩ := hrel
    replace o0 := kr.cell o0
    replace o1 := kr.cell o1
    by_cases hlt : i < key.size
    · have hlt' : (i : Int) < (key.size : Int) := by omega
      have hN : Hid (bytesN S (cs.take (i + 1)) = foldN 31 (mulN 11329751410908088055 (bytesN S (cs.take i) ^^^ cs[i].toNat))) := bytesN_take S cs i (by omega)
      have hH := bytesN_lt (cs.take i) hS
      have hg := hget i hlt
      generalize bytesN S (cs.take i) = H at *
      have x1 : bits BinOp.xor IntKind.u64 (H : Int) ((cs[i].toNat : Nat) : Int) = ((H ^^^ cs[i].toNat : Nat) : Int) := bits_xor_u64_nat _ _ hH (byte_small _)
      have x2 : IntKind.u64.wrap (((H ^^^ cs[i].toNat : Nat) : Int) * 11329751410908088055) = ((mulN 11329751410908088055 (H ^^^ cs[i].toNat) : Nat) : Int) := mul_odd 11329751410908088055 _
      have x3 : IntKind.u64.wrap ((cs[i].toNat : Nat) : Int) = ((cs[i].toNat : Nat) : Int) := by
        rw [IntKind.wrap_u64]
        have := byte_small cs[i]
        omega
      have hF : FoldIs ((mulN 11329751410908088055 (H ^^^ cs[i].toNat) : Nat) : Int) 31 ((foldN 31 (mulN 11329751410908088055 (H ^^^ cs[i].toNat)) : Nat) : Int) := ⟨_, 31, rfl, rfl, mulN_lt _ _, by decide, rfl⟩
      generalize foldN 31 (mulN 11329751410908088055 (H ^^^ cs[i].toNat)) = R1 at *
      generalize mulN 11329751410908088055 (H ^^^ cs[i].toNat) = Z at *
      generalize (H ^^^ cs[i].toNat) = Y at *
      clear hR hget o0
      go_wp2_with fail
      go_region_held3 (fun w' => w'.cell? ⟨0, 1, none⟩ = some (.int .u64 11329751410908088055)) (go_keep) (first | (go_at_call 115; refine (fold_is (by assumption) _).mono ?_; rintro r w5 ⟨rfl, rfl⟩))
      go_wp2_with fail
      exact ⟨⟨i + 1, by simp, by omega, by rw [hN.out], kr.drew⟩, by simp [intOf]; omega⟩
    · have hlt' : ¬ (i : Int) < (key.size : Int) := by omega
      have ht : cs.take i = cs := List.take_of_length_le (by omega)
      rw [ht]
      have hH := bytesN_lt cs hS
      have hR2 : Hid (R = foldN 32 (mulN 13234230157428861123 (foldN 29 (bytesN S cs)))) := hR
      generalize bytesN S cs = H at *
      have hF : FoldIs (H : Int) 29 ((foldN 29 H : Nat) : Int) := ⟨H, 29, rfl, rfl, hH, by decide, rfl⟩
      have x1 : IntKind.u64.wrap (((foldN 29 H : Nat) : Int) * 13234230157428861123) = ((mulN 13234230157428861123 (foldN 29 H) : Nat) : Int) := mul_odd 13234230157428861123 _
      have hF2 : FoldIs ((mulN 13234230157428861123 (foldN 29 H) : Nat) : Int) 32 ((foldN 32 (mulN 13234230157428861123 (foldN 29 H)) : Nat) : Int) := ⟨_, 32, rfl, rfl, mulN_lt _ _, by decide, rfl⟩
      generalize foldN 32 (mulN 13234230157428861123 (foldN 29 H)) = R1 at *
      generalize mulN 13234230157428861123 (foldN 29 H) = Z at *
      generalize foldN 29 H = Y at *
      clear hR hget o1
      go_wp2_with fail
      go_region_held3 (fun w' => w'.cell? ⟨0, 0, none⟩ = some (.int .u64 13234230157428861123)) (go_keep) (first | (go_at_call 115; refine (fold_is (by assumption) _).mono ?_; rintro r w5 ⟨rfl, rfl⟩))
      go_wp2_with fail
      go_ret
      obtain rfl : R = R1 := hR2
      exact ⟨rfl, kr.drew⟩

theorem mix_any (seed : Nat) (key : ByteArray) (w : World) (hs : seed < 18446744073709551616) (hl : key.size < 9223372036854775808) (ho : OddAt w) :
    Calls Tryz.prog 75 #[.int .u64 (seed : Int), .string key] w fun e w' => e = .returned (.int .u64 (mixN seed key.data.toList : Nat)) ∧ Kp w w' := by
  refine mix_walk seed (startN seed key.size) _ key key.data.toList w (startN_lt _ hs) hl ho ?_ (bits_xor_u64_nat _ _ hs (mulN_lt _ _)) (hide rfl) rfl (fun _ _ => rfl)
  rw [Int.mul_comm]
  exact mul_odd 13234230157428861123 (1 + key.size)
end Go.Proofs.YtgckinldnnckoaaGreatDoor.Oc
/-
  Mix by its answer, in regions with several calls.
-/
namespace Go.Proofs.YtgckinldnnckoaaGreatDoor.Oc
open Go.RowKit

/-- The factors stand, and all that stood in w. -/
abbrev Sm (w W : World) : Prop := W.cell? ⟨0, 0, none⟩ = some (.int .u64 13234230157428861123) ∧ W.cell? ⟨0, 1, none⟩ = some (.int .u64 11329751410908088055) ∧ Kp w W
theorem sm_drew {w W : World} (h : Sm w W) : Sm w W.drew := ⟨h.1, h.2.1, h.2.2.drew⟩
theorem sm_call {w W W1 : World} (k : Kp W W1) (h : Sm w W) : Sm w W1 := ⟨k.cell h.1, k.cell h.2.1, h.2.2.trans k⟩
theorem sm_odd {w W : World} (h : Sm w W) : OddAt W := ⟨h.1, h.2.1⟩
theorem sm_mk {w : World} (h : OddAt w) : Sm w w := ⟨h.1, h.2, Kp.refl _⟩

/-- A call of Mix by its answer. -/
def MixIs (seed : Int) (key : ByteArray) (r : Int) : Prop := ∃ S : Nat, seed = (S : Int) ∧ S < 18446744073709551616 ∧ key.size < 9223372036854775808 ∧ r = ((mixN S key.data.toList : Nat) : Int)
theorem mix_is {seed r : Int} {key : ByteArray} (q : MixIs seed key r) (w : World) (ho : OddAt w) :
    Calls Tryz.prog 75 #[.int .u64 seed, .string key] w fun e w' => e = .returned (.int .u64 r) ∧ Kp w w' := by
  obtain ⟨S, rfl, h1, h2, rfl⟩ := q
  exact mix_any S key w h1 h2 ho
end Go.Proofs.YtgckinldnnckoaaGreatDoor.Oc
/-
  A map from texts to numbers, as a partial function.
-/
namespace Go.Proofs.YtgckinldnnckoaaGreatDoor.Oc
open Go.RowKit Go.Maps Go.WideMaps

def rdS : Value → Option (DataW Unit × List MemPlace)
  | .int .u64 a => some (.lit (.int .u64 a), [])
  | _ => none
theorem rdS_int (a : Int) : rdS (.int .u64 a) = some (.lit (.int .u64 a), []) := rfl
theorem rdS_inv {v : Value} {a : Int} {ps : List MemPlace} (h : rdS v = some (.lit (.int .u64 a), ps)) : v = .int .u64 a := by
  unfold rdS at h
  split at h
  · simp at h
    rw [h.1]
  · cases h
theorem key_ne {x y : List UInt8} (h : x ≠ y) : Lit.string x ≠ Lit.string y := fun e => h (by simpa using e)

/-- Block b is a map that holds a at each key x with f x = some a, and nothing else. -/
def MapS (w : World) (b n : Nat) (f : List UInt8 → Option Nat) : Prop :=
  ∃ D : DataW Unit, w.ownsMap Tryz.prog 9 rdS b n D ∧ ∀ x, has D (.string x) = (f x).isSome ∧ ∀ a, f x = some a → ∀ z, D.atKey (.string x) z = .lit (.int .u64 (a : Nat))
def updS (f : List UInt8 → Option Nat) (x : List UInt8) (a : Option Nat) : List UInt8 → Option Nat := fun y => if y = x then a else f y
theorem updS_same (f : List UInt8 → Option Nat) (x : List UInt8) (a : Option Nat) : updS f x a x = a := by simp [updS]
theorem updS_other (f : List UInt8 → Option Nat) (x y : List UInt8) (a : Option Nat) (h : y ≠ x) : updS f x a y = f y := by simp [updS, h]
theorem law9 : Keyed Tryz.prog 9 := string_keyed Tryz.underlying9

section
variable {w : World} {b n : Nat} {f : List UInt8 → Option Nat}
theorem MapS.lt (h : MapS w b n f) : b < w.heap.size := by
  obtain ⟨D, ho, _⟩ := h
  exact ho.lt
theorem MapS.same {w' : World} (h : MapS w b n f) (e : w'.heap[b]? = w.heap[b]?) : MapS w' b n f := by
  obtain ⟨D, ho, hd⟩ := h
  obtain ⟨es, clock, hb, r⟩ := ho
  exact ⟨D, ⟨es, clock, e.trans hb, r⟩, hd⟩
theorem MapS.kp {w' : World} (h : MapS w b n f) (k : Kp w w') : MapS w' b n f := h.same (k.block b h.lt)
theorem MapS.made (w : World) : MapS (w.alloc (.map #[] 0)) w.heap.size 0 (fun _ => none) :=
  ⟨.map [], World.ownsMap_made w Tryz.prog 9 rdS, fun x => ⟨rfl, fun a h => by cases h⟩⟩
theorem MapS.store {t : TypeId} (ht : Tryz.prog.underlying t = some (.map 9 24)) (h : MapS w b n f) (hn : n < maxLen) {s : ByteArray} (hs : s.size ≤ maxLen) (a : Nat) :
    ∃ w', (Instr.mapUpdate t (.map (some b)) (.string s) (.int .u64 (a : Int))).run Tryz.prog w = .ok () w' ∧ MapS w' b (n + 1) (updS f s.data.toList (some a)) ∧ w'.heap.size = w.heap.size ∧ (∀ k, k ≠ b → w'.heap[k]? = w.heap[k]?) ∧ w'.os = w.os ∧ w'.tape = w.tape ∧ w'.output = w.output := by
  obtain ⟨D, ho, hd⟩ := h
  obtain ⟨w', hrun, ho', ht'⟩ := ho.store law9 ht hn (keyOf_string_mk (s := s) Tryz.underlying9 hs) (rdS_int (a : Int))
  refine ⟨w', hrun, ⟨_, ho', fun y => ?_⟩, ?_, ?_, ?_⟩
  · by_cases hxy : y = s.data.toList
    · subst hxy
      exact ⟨by rw [has_put_same (k := .string s.data.toList) ho.isMap trivial, updS_same]; rfl, fun a' ha z => by rw [updS_same] at ha; cases ha; exact atKey_put_same (k := .string s.data.toList) ho.isMap trivial _ _⟩
    · obtain ⟨h1, h2⟩ := hd y
      exact ⟨by rw [has_put_other (key_ne hxy), h1, updS_other _ _ _ _ hxy], fun a' ha z => by rw [updS_other _ _ _ _ hxy] at ha; rw [atKey_put_other (key_ne hxy)]; exact h2 a' ha z⟩
  · obtain ⟨es, cl, es', cl', hb, rfl⟩ := ht'
    simp [Go.ChangeMaps.setBlock]
  · obtain ⟨es, cl, es', cl', hb, rfl⟩ := ht'
    exact fun k hk => Go.ChangeMaps.heap_setBlock_other hb _ hk
  · obtain ⟨es, cl, es', cl', hb, rfl⟩ := ht'
    exact ⟨rfl, rfl, rfl⟩
theorem MapS.look {t : TypeId} (ht : Tryz.prog.underlying t = some (.map 9 24)) (h : MapS w b n f) {s : ByteArray} (hs : s.size ≤ maxLen) :
    (Instr.lookup t (.map (some b)) (.string s) true).run Tryz.prog w = .ok (.tuple #[.int .u64 (((f s.data.toList).getD 0 : Nat) : Int), .bool (f s.data.toList).isSome]) w := by
  obtain ⟨D, ho, hd⟩ := h
  obtain ⟨h1, h2⟩ := hd s.data.toList
  have hz : (zeroValue 24).run Tryz.prog w = .ok (.int .u64 0) w := by kernel_rfl
  obtain ⟨v, ps, hrun, hv⟩ := ho.look_ok law9 ht hz (rdS_int 0) (keyOf_string_mk (s := s) Tryz.underlying9 hs)
  rw [hrun, h1]
  cases hf : f s.data.toList with
  | none =>
    rw [hf] at h1
    rw [atKey_of_not_has h1] at hv
    rw [rdS_inv hv]
    rfl
  | some a =>
    rw [h2 a hf] at hv
    rw [rdS_inv hv]
    rfl
end
end Go.Proofs.YtgckinldnnckoaaGreatDoor.Oc
/-
  An oracle's overrides: add, Hash.
-/
namespace Go.Proofs.YtgckinldnnckoaaGreatDoor.Oc
open Go.RowKit
set_option linter.unusedVariables false

theorem cell_blk {w : World} {b j : Nat} {cs : Array Value} {t : TypeId} {v : Value} (h : w.heap[b]? = some (.cells cs t)) (hv : cs[j]? = some v) : w.cell? ⟨b, j, none⟩ = some v := by
  simp [World.cell?, h, hv]
theorem heap_new (w : World) (o : Obj) : (w.alloc o).heap[w.heap.size]? = some o := by
  show (w.heap.push o)[w.heap.size]? = _
  simp
theorem heap_old {w : World} {b : Nat} {x : Obj} (h : w.heap[b]? = some x) (o : Obj) : (w.alloc o).heap[b]? = some x :=
  (Below.heap_alloc w o b (Array.getElem?_eq_some_iff.1 h).1).trans h
theorem Kp.blk {w w1 : World} {b : Nat} {x : Obj} (h : Kp w w1) (hb : w.heap[b]? = some x) : w1.heap[b]? = some x := (h.block b (Array.getElem?_eq_some_iff.1 hb).1).trans hb

/-- An oracle at block p, its overrides in the map at block m. -/
def OrcAt (w : World) (p m n : Nat) (f : List UInt8 → Option Nat) : Prop := w.heap[p]? = some (.cells #[.map (some m)] 131) ∧ MapS w m n f
theorem OrcAt.kp {w w1 : World} {p m n : Nat} {f : List UInt8 → Option Nat} (h : OrcAt w p m n f) (k : Kp w w1) : OrcAt w1 p m n f := ⟨k.blk h.1, h.2.kp k⟩
theorem OrcAt.cell {w : World} {p m n : Nat} {f : List UInt8 → Option Nat} (h : OrcAt w p m n f) : w.cell? ⟨p, 0, none⟩ = some (.map (some m)) := cell_blk h.1 rfl

/-- What the oracle answers. -/
def hashN (f : List UInt8 → Option Nat) (seed : Nat) (k : List UInt8) : Nat := (f k).getD (mixN seed k)

set_option maxRecDepth 100000 in
set_option maxHeartbeats 1000000 in
theorem hash_none (seed : Int) (key : ByteArray) (X : Nat) {p m : Nat} (w : World) (hc : w.cell? ⟨p, 0, none⟩ = some (.map (some m)))
    (hk : (Instr.lookup 129 (.map (some m)) (.string key) true).run Tryz.prog w = .ok (.tuple #[.int .u64 0, .bool false]) w)
    (hM : Calls Tryz.prog 75 #[.int .u64 seed, .string key] w fun e w' => e = .returned (.int .u64 (X : Nat)) ∧ Kp w w') :
    Calls Tryz.prog 44 #[.pointer (some ⟨p, 0, none⟩), .int .u64 seed, .string key] w fun e w' => e = .returned (.int .u64 (X : Nat)) ∧ Kp w w' := by
  go_enter Tryz.func44, Tryz.ntmps44
  go_wp2_with fail
  refine hM.mono ?_
  rintro r w1 ⟨rfl, k1⟩
  go_wp2_with fail
  go_ret
  exact ⟨rfl, k1⟩

set_option maxRecDepth 100000 in
set_option maxHeartbeats 1000000 in
theorem hash_some (seed : Int) (key : ByteArray) (a : Nat) {p m : Nat} (w : World) (hc : w.cell? ⟨p, 0, none⟩ = some (.map (some m)))
    (hk : (Instr.lookup 129 (.map (some m)) (.string key) true).run Tryz.prog w = .ok (.tuple #[.int .u64 (a : Int), .bool true]) w) :
    Calls Tryz.prog 44 #[.pointer (some ⟨p, 0, none⟩), .int .u64 seed, .string key] w fun e w' => e = .returned (.int .u64 (a : Int)) ∧ Kp w w' := by
  go_enter Tryz.func44, Tryz.ntmps44
  go_wp2_with fail
  go_ret
  exact ⟨rfl, Kp.refl _⟩

theorem hashN_none {f : List UInt8 → Option Nat} {seed : Nat} {k : List UInt8} (h : f k = none) : hashN f seed k = mixN seed k := by
  unfold hashN
  rw [h, Option.getD_none]
theorem hashN_some {f : List UInt8 → Option Nat} {seed a : Nat} {k : List UInt8} (h : f k = some a) : hashN f seed k = a := by
  unfold hashN
  rw [h, Option.getD_some]
theorem look_none {w : World} {m n : Nat} {f : List UInt8 → Option Nat} (h : MapS w m n f) {key : ByteArray} (hl : key.size ≤ maxLen) (hf : f key.data.toList = none) :
    (Instr.lookup 129 (.map (some m)) (.string key) true).run Tryz.prog w = .ok (.tuple #[.int .u64 0, .bool false]) w := by
  have hk := h.look Tryz.underlying129 hl
  rw [hf, Option.getD_none, Option.isSome_none] at hk
  exact hk
theorem look_some {w : World} {m n a : Nat} {f : List UInt8 → Option Nat} (h : MapS w m n f) {key : ByteArray} (hl : key.size ≤ maxLen) (hf : f key.data.toList = some a) :
    (Instr.lookup 129 (.map (some m)) (.string key) true).run Tryz.prog w = .ok (.tuple #[.int .u64 (a : Int), .bool true]) w := by
  have hk := h.look Tryz.underlying129 hl
  rw [hf, Option.getD_some, Option.isSome_some] at hk
  exact hk
theorem max_of {n : Nat} (h : n < 9223372036854775808) : n ≤ maxLen := by
  unfold maxLen
  omega
theorem hash_any (seed : Nat) (key : ByteArray) {p m n : Nat} {f : List UInt8 → Option Nat} (w : World) (h : OrcAt w p m n f) (hs : seed < 18446744073709551616) (hl : key.size < 9223372036854775808) (ho : OddAt w) (R : Nat) (hR : R = hashN f seed key.data.toList) :
    Calls Tryz.prog 44 #[.pointer (some ⟨p, 0, none⟩), .int .u64 (seed : Int), .string key] w fun e w' => e = .returned (.int .u64 ((R : Nat) : Int)) ∧ Kp w w' := by
  cases hf : f key.data.toList with
  | none =>
    rw [hashN_none hf] at hR
    rw [hR]
    exact hash_none _ key _ w h.cell (look_none h.2 (max_of hl) hf) (mix_any seed key w hs hl ho)
  | some a =>
    rw [hashN_some hf] at hR
    rw [hR]
    exact hash_some _ key a w h.cell (look_some h.2 (max_of hl) hf)

set_option maxRecDepth 100000 in
set_option maxHeartbeats 1000000 in
theorem add_long (key : ByteArray) (x : Nat) (p : Nat) (w : World) (hb : key.size < 1 ∨ 128 < key.size) (hl : key.size ≤ maxLen) :
    Calls Tryz.prog 55 #[.pointer (some ⟨p, 0, none⟩), .agg #[.string key, .int .u64 (x : Int)]] w fun e w' => e = .returned (.int .i64 41) ∧ Kp w w' := by
  by_cases h1 : key.size < 1
  · have h1' : (key.size : Int) < 1 := by omega
    clear hb
    go_enter Tryz.func55, Tryz.ntmps55
    go_wp2_with fail
    go_ret
    exact ⟨rfl, (Kp.refl _).alloc _⟩
  · have h1' : ¬ (key.size : Int) < 1 := by omega
    have h2' : (128 : Int) < (key.size : Int) := by omega
    clear hb
    go_enter Tryz.func55, Tryz.ntmps55
    go_wp2_with fail
    go_ret
    exact ⟨rfl, (Kp.refl _).alloc _⟩

theorem Kp.drewN {w w1 : World} (h : Kp w w1) (n : Nat) : Kp w (w1.drewN n) := ⟨h.os, h.tape, h.output, h.size, h.block⟩
/-- What add leaves. -/
def AddPost (w : World) (p m n : Nat) (f : List UInt8 → Option Nat) (e : Ending) (w' : World) : Prop :=
  e = .returned (.int .i64 0) ∧ OrcAt w' p m (n + 1) f ∧ w.heap.size ≤ w'.heap.size ∧ (∀ k, k < w.heap.size → k ≠ m → w'.heap[k]? = w.heap[k]?) ∧ w'.os = w.os ∧ w'.tape = w.tape ∧ w'.output = w.output

set_option maxRecDepth 100000 in
set_option maxHeartbeats 1000000 in
theorem add_twice (key : ByteArray) (x a : Nat) {p m n : Nat} {f : List UInt8 → Option Nat} (w : World) (h : OrcAt w p m n f) (hb1 : 1 ≤ key.size) (hb2 : key.size ≤ 128) (hf : f key.data.toList = some a) :
    Calls Tryz.prog 55 #[.pointer (some ⟨p, 0, none⟩), .agg #[.string key, .int .u64 (x : Int)]] w fun e w' => e = .returned (.int .i64 42) ∧ Kp w w' := by
  have hl : key.size ≤ maxLen := Nat.le_trans hb2 (by decide)
  have h1' : ¬ (key.size : Int) < 1 := by omega
  have h2' : ¬ (128 : Int) < (key.size : Int) := by omega
  have hO := h.kp ((Kp.refl w).alloc (.cells #[.string key, .int .u64 (x : Int)] 126))
  have hc := hO.cell
  have hk := fun n => look_some (w := (w.alloc (.cells #[.string key, .int .u64 (x : Int)] 126)).drewN n) (hO.2.same rfl) hl hf
  have c0 : (w.alloc (.cells #[.string key, .int .u64 (x : Int)] 126)).cell? ⟨w.heap.size, 0, none⟩ = some (.string key) := cell_blk (heap_new _ _) rfl
  have c1 : (w.alloc (.cells #[.string key, .int .u64 (x : Int)] 126)).cell? ⟨w.heap.size, 1, none⟩ = some (.int .u64 (x : Int)) := cell_blk (heap_new _ _) rfl
  have kw : Kp w (w.alloc (.cells #[.string key, .int .u64 (x : Int)] 126)) := (Kp.refl w).alloc _
  clear h hO
  go_enter Tryz.func55, Tryz.ntmps55
  go_wp2_with fail
  generalize hB : w.heap.size = B at *
  generalize (w.alloc (.cells #[.string key, .int .u64 (x : Int)] 126)) = W at *
  go_quiet (fail)
  go_wp2_with fail
  go_ret
  exact ⟨rfl, kw.drewN _⟩

set_option maxRecDepth 100000 in
set_option maxHeartbeats 1000000 in
theorem add_new (key : ByteArray) (x : Nat) {p m n : Nat} {f : List UInt8 → Option Nat} (w : World) (h : OrcAt w p m n f) (hb1 : 1 ≤ key.size) (hb2 : key.size ≤ 128) (hf : f key.data.toList = none) (hn : n < 1000) :
    Calls Tryz.prog 55 #[.pointer (some ⟨p, 0, none⟩), .agg #[.string key, .int .u64 (x : Int)]] w (AddPost w p m n (updS f key.data.toList (some x))) := by
  have hl : key.size ≤ maxLen := Nat.le_trans hb2 (by decide)
  have h1' : ¬ (key.size : Int) < 1 := by omega
  have h2' : ¬ (128 : Int) < (key.size : Int) := by omega
  have hO := h.kp ((Kp.refl w).alloc (.cells #[.string key, .int .u64 (x : Int)] 126))
  have hc := hO.cell
  have hk := fun n => look_none (w := (w.alloc (.cells #[.string key, .int .u64 (x : Int)] 126)).drewN n) (hO.2.same rfl) hl hf
  have c0 : (w.alloc (.cells #[.string key, .int .u64 (x : Int)] 126)).cell? ⟨w.heap.size, 0, none⟩ = some (.string key) := cell_blk (heap_new _ _) rfl
  have c1 : (w.alloc (.cells #[.string key, .int .u64 (x : Int)] 126)).cell? ⟨w.heap.size, 1, none⟩ = some (.int .u64 (x : Int)) := cell_blk (heap_new _ _) rfl
  have kw : Kp w (w.alloc (.cells #[.string key, .int .u64 (x : Int)] 126)) := (Kp.refl w).alloc _
  clear h
  go_enter Tryz.func55, Tryz.ntmps55
  go_wp2_with fail
  generalize hB : w.heap.size = B at *
  generalize (w.alloc (.cells #[.string key, .int .u64 (x : Int)] 126)) = W at *
  go_quiet (fail)
  go_wp2_with fail
  have hS : MapS (W.drewN (nq + 1)) m n f := hO.2.same rfl
  obtain ⟨w2, r2, m2, s1, s2, s3, s4, s5⟩ := hS.store Tryz.underlying129 (by unfold maxLen; omega) hl x
  have hpm : p ≠ m := by
    intro e
    obtain ⟨D, ⟨es, cl, hb, _⟩, _⟩ := hO.2
    have := hO.1
    rw [e, hb] at this
    cases this
  have hend : Hid (AddPost w p m n (updS f key.data.toList (some x)) (.returned (.int .i64 0)) w2) := by
    have hsz : W.heap.size = (W.drewN (nq + 1)).heap.size := rfl
    refine ⟨rfl, ⟨(s2 p hpm).trans hO.1, m2⟩, by rw [s1, ← hsz]; exact kw.size, fun k hk hkm => (s2 k hkm).trans (kw.block k hk), s3.trans kw.os, s4.trans kw.tape, s5.trans kw.output⟩
  clear hS m2 s1 s2 s3 s4 s5 hpm hO kw hk
  go_region
  go_wp2_with fail
  go_ret
  exact hend.out
end Go.Proofs.YtgckinldnnckoaaGreatDoor.Oc
/-
  small's law: text, num, key.
-/
namespace Go.Proofs.YtgckinldnnckoaaGreatDoor
open Go.RowKit Go.Shelf
set_option linter.unusedVariables false

set_option maxRecDepth 100000 in
set_option maxHeartbeats 1000000 in
theorem stext_any (n : Int) (k0 : Nat) (w : World) (hn : fitsI n) (hk0 : k0 ≤ 1000) : Calls Tryz.prog 31 #[.int .i64 n, .int .i64 (k0 : Int)] w fun e w' => e = .returned (.string (strOf (txL n k0))) ∧ Keeps w w' (fun _ => False) := by
  have hmk := run_make_bytes (P := Tryz.prog) w 134 5 Tryz.underlying134 Tryz.infoE k0 (by omega)
  obtain ⟨S, hS⟩ : ∃ S, strOf (txL n k0) = S := ⟨_, rfl⟩
  rw [hS]
  go_enter Tryz.func31, Tryz.ntmps31
  go_wp2_with fail
  go_loopw [0, 6] (fun v0 i wr => ∃ k : Nat, v0 = .int .i64 (n / 256 ^ k) ∧ i = .int .i64 (k : Int) ∧ k ≤ k0 ∧ wr.heap[w.heap.size]? = some (.cells (rowOf (txL n k ++ zeros (k0 - k))) 5) ∧ Keeps w wr (fun _ => False)) (fun _ i _ => k0 - (intOf i).toNat)
  case atStart => exact ⟨0, by simp, rfl, Nat.zero_le _, heap_alloc_new _ _, (Keeps.refl _ _).alloc _⟩
  case round =>
    obtain ⟨k, rfl, rfl, hk, hr, K⟩ := hrel
    clear hmk
    have hfk := fitsI_bounds (div_fits hn k)
    by_cases hlt : k < k0
    · have hlt' : (k : Int) < (k0 : Int) := by omega
      have hb := txB_nat n k
      have hq : (n / 256 ^ k) / 256 = n / 256 ^ (k + 1) := by
        rw [Int.pow_succ, Int.ediv_ediv_of_nonneg (Int.le_of_lt (Int.pow_pos (by decide)))]
      have hc : wr.cell? ⟨w.heap.size, k, none⟩ = some (.int .u8 ((((txL n k ++ zeros (k0 - k))[k]'(by simp [txL_length, zeros_length]; omega)).toNat : Int))) := by
        have := rowOf_get (txL n k ++ zeros (k0 - k)) k (by simp [txL_length, zeros_length]; omega)
        simp only [World.cell?, hr]
        simpa using this
      have hf : wr.frozen? ⟨w.heap.size, k, none⟩ = false := by simp [World.frozen?, hr]
      have hr2 : (wr.setCell ⟨w.heap.size, k, none⟩ (.int .u8 ((txB n k).toNat : Int))).heap[w.heap.size]? = some (.cells (rowOf (txL n (k + 1) ++ zeros (k0 - (k + 1)))) 5) := by
        rw [setCell_eq_setRow wr w.heap.size k _ 5 (0, 0) _ hr, heap_setRow_same hr, tx_mix n k0 k hlt]
      have K2 : Keeps w (wr.setCell ⟨w.heap.size, k, none⟩ (.int .u8 ((txB n k).toNat : Int))) (fun _ => False) := K.setCell ⟨w.heap.size, k, none⟩ (fun h => absurd h (Nat.lt_irrefl _)) _
      generalize ((txL n k ++ zeros (k0 - k))[k]'(by simp [txL_length, zeros_length]; omega)).toNat = old at *
      rw [hb] at hr2 K2
      have HR := hide hr2
      have HK := hide K2
      have HQ := hide hq
      generalize n / 256 ^ k = x at *
      have hwx : IntKind.u8.wrap x = x % 256 := IntKind.wrap_u8 x
      clear hr K hr2 K2 hq hb
      go_wp2_with fail
      go_roundw
      case rel => exact ⟨k + 1, by rw [← HQ.out], by go_num, by omega, HR.out, HK.out⟩
      case measure => simp [intOf]; omega
    · have hkn : k = k0 := by omega
      subst hkn
      have hlt' : ¬ (k : Int) < (k : Int) := by omega
      have htx := run_text wr ⟨w.heap.size, 0, none⟩ k k (txL n k) (txL_length n k) (fun j hj => by
        rw [addr_add, Nat.zero_add]
        have := rowOf_get (txL n k ++ zeros (k - k)) j (by simp; omega)
        simp only [World.cell?, hr]
        simpa [List.getElem_append_left hj] using this)
      rw [hS] at htx
      have K2 := hide K
      clear hr K hS
      go_wp2_with fail
      go_ret
      exact ⟨rfl, K2.out⟩

set_option maxRecDepth 100000 in
theorem snum_any (x : Int) (w : World) : Calls Tryz.prog 12 #[.int .i64 x] w fun e w' => e = .returned (.int .i64 x) ∧ w' = w := by
  go_enter Tryz.func12, Tryz.ntmps12
  go_wp2
  go_ret
  exact ⟨rfl, rfl⟩
end Go.Proofs.YtgckinldnnckoaaGreatDoor
