import Derived.Deep.QuietTactic
import Derived.BigQuiet
import Derived.Shelf.Abstract
import Derived.RegionTactic
import Derived.Deep.RegionLaw
import Derived.Deep.AppendLies
import Derived.WalkSmall
import Derived.Test.YtgckinldnnckoaaGreatDoorPn11
/-
  small: Put of a new key, Delete.
-/
namespace Go.Proofs.YtgckinldnnckoaaGreatDoor
open Go.RowKit Go.Shelf Ly Ct
set_option linter.unusedVariables false
section
variable {w : World} {p : Nat} {F : Nat → Prop} {d : AD} {l : Lay} {off : Nat} {f : Nat → Int} {c : Nat → GC}

set_option maxRecDepth 100000 in
set_option maxHeartbeats 2000000 in
/-- Put of a key that is not there: it takes the lowest empty slot. -/
theorem sput_new (hA : Arena w p F d) (hF : d.Fine) (hSm : d.small) (hFl : ∀ k, F k → k < w.heap.size) (h : SmD d l off f c) (hT : TabAt w) (tag : Int) (key elem : ByteArray) (birth : Int) (h0 : 0 ≤ tag) (h1 : tag ≤ 127) (hk : (key.size : Int) = l.k) (he : (elem.size : Int) = l.e) (hb0 : 0 ≤ birth) (hb1 : birth ≤ 9223372036854775807) (h8 : low (mtC c tag key) 8 = 8) (hE : empL c < 8) (hu0 : 0 ≤ f 3) (hu8 : f 3 ≤ 8) :
    Calls Tryz.prog 32 #[.agg #[.pointer (some ⟨p, 0, none⟩), .int .i64 l.k, .int .i64 l.e, .int .i64 l.a, .int .i64 l.b, .int .i64 l.c, .int .i64 l.eo, .int .i64 l.bo, .int .i64 l.s, .int .i64 l.g, .int .i64 (off : Int)], .int .i64 tag, .string key, .string elem, .int .i64 birth] w fun e w' => e = .returned (.tuple #[.int .i64 2, .int .i64 0]) ∧ SmT w w' p F d l off (updI f 3 (f 3 + 1)) (updC c (empL c) (GC.full tag key elem birth)) := by
  have ho := h.off_le hF
  have hv := valid_more h.grp.valid
  have hK := fun W (k : Keeps w W (fun _ => False)) => skeyed_any (hA.keeps k (fun _ _ _ e => e)) hF h key hk
  have hS := fun W (k : Keeps w W (fun _ => False)) => sslot_any (hA.keeps k (fun _ _ _ e => e)) hF h (hT.kp (k.below (Nat.le_refl _) (fun _ _ e => e))) tag key h0 h1 hk
  unfold sltI at hS
  rw [if_pos h8] at hS
  have hM := fun W (k : Keeps w W (fun _ => False)) => sempty_any (hA.keeps k (fun _ _ _ e => e)) hF h
  unfold empI at hM
  rw [if_neg (by omega)] at hM
  have hG := fun W => sgroup_any p l (off : Int) W (by omega) (by omega)
  have HFi : Hid (∀ W (k : Keeps w W (fun _ => False)), Calls Tryz.prog 63 #[.agg #[.pointer (some ⟨p, 0, none⟩), .int .i64 l.k, .int .i64 l.e, .int .i64 l.a, .int .i64 l.b, .int .i64 l.c, .int .i64 l.eo, .int .i64 l.bo, .int .i64 l.s, .int .i64 l.g, .int .i64 ((off : Int) + 32)], .int .i64 ((empL c : Nat) : Int), .int .i64 tag, .string key, .string elem, .int .i64 birth] W fun e w' => e = .returned (.int .i64 0) ∧ SmT W w' p F d l off f (updC c (empL c) (GC.full tag key elem birth))) := fun W k => by
    have hcall := gfill_any (hA.keeps k (fun _ _ _ e => e)) hF hSm (fun i hi => Nat.lt_of_lt_of_le (hFl i hi) k.size) l ((off + 32 : Nat) : Int) ((empL c : Nat) : Int) tag key elem birth hb1 (fitsI_mk (by omega) (by omega)) (fitsI_mk (by omega) (by omega))
    obtain ⟨r1, r2, r3⟩ := h.grp.fill hE h0 h1 hk he hb0 hb1
    rw [r1] at hcall
    refine hcall.mono ?_
    rintro e w' ⟨rfl, hT⟩
    exact ⟨rfl, _, hT, r3.wide (by omega) (by omega), h.turn r2 r3⟩
  have heb : (((elem.size : Nat) : Int) != l.e) = false := by simp [he]
  have hb' : ¬ birth < 0 := by omega
  have hn0 : ¬ ((empL c : Nat) : Int) < 0 := by omega
  have hnB : ¬ F w.heap.size := fun q => Nat.lt_irrefl _ (hFl _ q)
  obtain ⟨cc, hcc⟩ : ∃ cc, updC c (empL c) (GC.full tag key elem birth) = cc := ⟨_, rfl⟩
  rw [hcc] at HFi ⊢
  generalize ((empL c : Nat) : Int) = lw at *
  unfold statS at hK
  have HFF := hide (And.intro hF hFl)
  clear hA h hv hT hcc h8 hk he hb0 ho hF hFl
  generalize (off : Int) + 32 = y at *
  obtain ⟨f3, hf3⟩ : ∃ f3, f 3 = f3 := ⟨_, rfl⟩
  obtain ⟨ff, hff⟩ : ∃ ff, updI f 3 (f 3 + 1) = ff := ⟨_, rfl⟩
  have HSE : Hid (∀ (W W' : World) d1 (F' : Nat → Prop), Arena W p F' d1 → d1.Fine → (∀ k, F' k → k < W.heap.size) → SmD d1 l off f cc → Calls Tryz.prog 48 #[.agg #[.pointer (some ⟨p, 0, none⟩), .int .i64 l.k, .int .i64 l.e, .int .i64 l.a, .int .i64 l.b, .int .i64 l.c, .int .i64 l.eo, .int .i64 l.bo, .int .i64 l.s, .int .i64 l.g, .int .i64 (off : Int)], .int .i64 3, .int .i64 (f3 + 1)] W fun e w' => e = .returned (.int .i64 0) ∧ HeadS W p F' d1 l off ff cc w') := fun W W' d1 F' a b e g => by
    have := sset_sm a b e g 3 (by omega) (f 3 + 1) (fitsI_mk (by omega) (by omega))
    rw [hf3] at this
    rw [← hff, hf3]
    exact this
  rw [hff]
  rw [hf3] at hK hu0 hu8
  clear hff hf3
  have hw1 : wrap64 (f3 + 1) = f3 + 1 := by unfold wrap64; omega
  have hw2 : IntKind.i64.wrap (f3 + 1) = f3 + 1 := by rw [IntKind.wrap_i64]; omega
  have Hw := hide (And.intro hw1 hw2)
  clear hw1 hw2 hu0 hu8
  generalize f 0 = f0 at *
  generalize f 1 = f1 at *
  generalize f 2 = f2 at *
  go_enter Tryz.func32, Tryz.ntmps32
  go_wp2_with fail
  refine alloc1 (P := fun W => Calls _ _ _ W _) fun W0 hb hz K0 => ?_
  (with_reducible refine (hK _ K0).mono ?_)
  rintro r w1 ⟨rfl, k1⟩
  have K1 : Keeps w w1 (fun _ => False) := K0.trans k1 (fun _ _ e => e)
  have k2 : Keeps w1 (w1.alloc (.cells #[.int .i64 f3, .int .i64 f1, .int .i64 f2, .bool (f0 == 3)] 51)) (fun _ => False) := (Keeps.refl _ _).alloc _
  have hb2 := k2.blk (k1.blk hb)
  have hst2 := heap_alloc_new w1 (.cells #[.int .i64 f3, .int .i64 f1, .int .i64 f2, .bool (f0 == 3)] 51)
  obtain ⟨c0, c1, c2, c3, c4, c5, c6, c7, c8, c9, c10⟩ := c11_of hb2
  have K2 : Keeps w (w1.alloc (.cells #[.int .i64 f3, .int .i64 f1, .int .i64 f2, .bool (f0 == 3)] 51)) (fun _ => False) := K1.trans k2 (fun _ _ e => e)
  have hS2 := hS _ K2
  have hnS : ¬ F w1.heap.size := fun q => by have := HFF.out.2 _ q; have := K1.size; omega
  clear hK hS
  go_wp2_with fail
  (with_reducible refine hS2.mono ?_)
  rintro r w3 ⟨rfl, k3⟩
  have K3 : Keeps w w3 (fun _ => False) := K2.trans k3 (fun _ _ e => e)
  obtain ⟨c0, c1, c2, c3, c4, c5, c6, c7, c8, c9, c10⟩ := c11_of (k3.blk hb2)
  have hM3 := hM _ K3
  clear hS2 hM
  go_wp2_with fail
  (with_reducible refine hM3.mono ?_)
  rintro r w4 ⟨rfl, k4⟩
  have K4 : Keeps w w4 (fun _ => False) := K3.trans k4 (fun _ _ e => e)
  obtain ⟨c0, c1, c2, c3, c4, c5, c6, c7, c8, c9, c10⟩ := c11_of (k4.blk (k3.blk hb2))
  clear hM3
  go_wp2_with fail
  (with_reducible refine (hG _).mono ?_)
  rintro r w5 ⟨rfl, k5⟩
  have K5 : Keeps w w5 (fun _ => False) := K4.trans k5 (fun _ _ e => e)
  have hb5 := k5.blk (k4.blk (k3.blk hb2))
  have hst5 := k5.blk (k4.blk (k3.blk hst2))
  have hF5 := HFi.out _ K5
  clear hG HFi c0 c1 c2 c3 c4 c5 c6 c7 c8 c9 c10
  go_wp2_with fail
  (with_reducible refine hF5.mono ?_)
  rintro r w6 ⟨rfl, d1, hT1, ht1, h1⟩
  have hb6 := (hT1.2.block w.heap.size (heap_lt hb5) hnB).trans hb5
  have hst6 := (hT1.2.block w1.heap.size (heap_lt hst5) hnS).trans hst5
  obtain ⟨c0, c1, c2, c3, c4, c5, c6, c7, c8, c9, c10⟩ := c11_of hb6
  obtain ⟨⟨t0, t1, t2, t3⟩, -⟩ := st4_cells hst6
  have hSe := HSE.out _ w6 _ _ hT1.arena (ht1.fine HFF.out.1) (fun _ q => q.2) h1
  have HT := hide hT1
  have HT1 := hide ht1
  obtain ⟨a6, a7⟩ := Hw.out
  clear hF5 hT1 h1 ht1 HSE hb5 hst5 hst2
  go_wp2_with fail
  (with_reducible refine hSe.mono ?_)
  rintro r w7 ⟨rfl, d2, hT2, hF2, h2, ht2⟩
  have HP : Hid (SmT w w7 p F d l off ff cc) := ⟨d2, Turned.pre K5 (HT.out.then hT2), HT1.out.trans (ht2.wide (Nat.le_refl _) (by omega)), h2⟩
  clear hSe hT2 h2 ht2 HT HT1 c0 c1 c2 c3 c4 c5 c6 c7 c8 c9 c10
  go_wp2_with fail
  go_ret2
  exact ⟨rfl, HP.out⟩

set_option maxRecDepth 100000 in
set_option maxHeartbeats 2000000 in
/-- Delete of a key that is not there. -/
theorem sdelete_no (hA : Arena w p F d) (hF : d.Fine) (h : SmD d l off f c) (hT : TabAt w) (tag : Int) (key : ByteArray) (h0 : 0 ≤ tag) (h1 : tag ≤ 127) (hk : (key.size : Int) = l.k) (h8 : low (mtC c tag key) 8 = 8) :
    Calls Tryz.prog 33 #[.agg #[.pointer (some ⟨p, 0, none⟩), .int .i64 l.k, .int .i64 l.e, .int .i64 l.a, .int .i64 l.b, .int .i64 l.c, .int .i64 l.eo, .int .i64 l.bo, .int .i64 l.s, .int .i64 l.g, .int .i64 (off : Int)], .int .i64 tag, .string key] w fun e w' => e = .returned (.tuple #[.bool false, .int .i64 0]) ∧ Keeps w w' (fun _ => False) := by
  have hK := fun W (k : Keeps w W (fun _ => False)) => skeyed_any (hA.keeps k (fun _ _ _ e => e)) hF h key hk
  have hS := fun W (k : Keeps w W (fun _ => False)) => sslot_any (hA.keeps k (fun _ _ _ e => e)) hF h (hT.kp (k.below (Nat.le_refl _) (fun _ _ e => e))) tag key h0 h1 hk
  unfold sltI at hS
  rw [if_pos h8] at hS
  unfold statS at hK
  clear hA h hT h8 hk
  generalize f 0 = f0 at *
  generalize f 1 = f1 at *
  generalize f 2 = f2 at *
  generalize f 3 = f3 at *
  go_enter Tryz.func33, Tryz.ntmps33
  go_wp2_with fail
  refine alloc1 (P := fun W => Calls _ _ _ W _) fun W0 hb hz K0 => ?_
  (with_reducible refine (hK _ K0).mono ?_)
  rintro r w1 ⟨rfl, k1⟩
  have K1 : Keeps w w1 (fun _ => False) := K0.trans k1 (fun _ _ e => e)
  have k2 : Keeps w1 (w1.alloc (.cells #[.int .i64 f3, .int .i64 f1, .int .i64 f2, .bool (f0 == 3)] 51)) (fun _ => False) := (Keeps.refl _ _).alloc _
  have hb2 := k2.blk (k1.blk hb)
  obtain ⟨c0, c1, c2, c3, c4, c5, c6, c7, c8, c9, c10⟩ := c11_of hb2
  have K2 : Keeps w (w1.alloc (.cells #[.int .i64 f3, .int .i64 f1, .int .i64 f2, .bool (f0 == 3)] 51)) (fun _ => False) := K1.trans k2 (fun _ _ e => e)
  have hS2 := hS _ K2
  clear hK hS
  go_wp2_with fail
  (with_reducible refine hS2.mono ?_)
  rintro r w3 ⟨rfl, k3⟩
  have K3 : Keeps w w3 (fun _ => False) := K2.trans k3 (fun _ _ e => e)
  clear hS2 c0 c1 c2 c3 c4 c5 c6 c7 c8 c9 c10
  go_wp2_with fail
  go_ret2
  exact ⟨rfl, K3⟩

set_option maxRecDepth 100000 in
set_option maxHeartbeats 2000000 in
/-- Delete of a key that is there: its slot is empty. -/
theorem sdelete_yes (hA : Arena w p F d) (hF : d.Fine) (hFl : ∀ k, F k → k < w.heap.size) (h : SmD d l off f c) (hT : TabAt w) (tag : Int) (key : ByteArray) (h0 : 0 ≤ tag) (h1 : tag ≤ 127) (hk : (key.size : Int) = l.k) (h8 : ¬ low (mtC c tag key) 8 = 8) (hu0 : 0 ≤ f 3) (hu8 : f 3 ≤ 8) :
    Calls Tryz.prog 33 #[.agg #[.pointer (some ⟨p, 0, none⟩), .int .i64 l.k, .int .i64 l.e, .int .i64 l.a, .int .i64 l.b, .int .i64 l.c, .int .i64 l.eo, .int .i64 l.bo, .int .i64 l.s, .int .i64 l.g, .int .i64 (off : Int)], .int .i64 tag, .string key] w fun e w' => e = .returned (.tuple #[.bool true, .int .i64 0]) ∧ SmT w w' p F d l off (updI f 3 (f 3 - 1)) (updC c (low (mtC c tag key) 8) GC.zero) := by
  have ho := h.off_le hF
  have hv := valid_more h.grp.valid
  obtain ⟨hl8, -, -, -⟩ := low_full h8
  have hK := fun W (k : Keeps w W (fun _ => False)) => skeyed_any (hA.keeps k (fun _ _ _ e => e)) hF h key hk
  have hS := fun W (k : Keeps w W (fun _ => False)) => sslot_any (hA.keeps k (fun _ _ _ e => e)) hF h (hT.kp (k.below (Nat.le_refl _) (fun _ _ e => e))) tag key h0 h1 hk
  unfold sltI at hS
  rw [if_neg h8] at hS
  have hG := fun W => sgroup_any p l (off : Int) W (by omega) (by omega)
  have HFi : Hid (∀ W (k : Keeps w W (fun _ => False)), Calls Tryz.prog 64 #[.agg #[.pointer (some ⟨p, 0, none⟩), .int .i64 l.k, .int .i64 l.e, .int .i64 l.a, .int .i64 l.b, .int .i64 l.c, .int .i64 l.eo, .int .i64 l.bo, .int .i64 l.s, .int .i64 l.g, .int .i64 ((off : Int) + 32)], .int .i64 ((low (mtC c tag key) 8 : Nat) : Int), .bool false] W fun e w' => e = .returned (.int .i64 0) ∧ SmT W w' p F d l off f (updC c (low (mtC c tag key) 8) GC.zero)) := fun W k => by
    have hcall := gerase_any (hA.keeps k (fun _ _ _ e => e)) hF (fun i hi => Nat.lt_of_lt_of_le (hFl i hi) k.size) l ((off + 32 : Nat) : Int) ((low (mtC c tag key) 8 : Nat) : Int) false (fitsI_mk (by omega) (by omega)) (fitsI_mk (by omega) (by omega))
    obtain ⟨r1, r2, r3⟩ := h.grp.erase hl8 false
    rw [r1] at hcall
    refine hcall.mono ?_
    rintro e w' ⟨rfl, hT⟩
    exact ⟨rfl, _, hT, r3.wide (by omega) (by omega), h.turn r2 r3⟩
  have hn0 : ¬ ((low (mtC c tag key) 8 : Nat) : Int) < 0 := by omega
  have hnB : ¬ F w.heap.size := fun q => Nat.lt_irrefl _ (hFl _ q)
  obtain ⟨cc, hcc⟩ : ∃ cc, updC c (low (mtC c tag key) 8) GC.zero = cc := ⟨_, rfl⟩
  rw [hcc] at HFi ⊢
  generalize ((low (mtC c tag key) 8 : Nat) : Int) = lw at *
  unfold statS at hK
  have HFF := hide (And.intro hF hFl)
  clear hA h hv hT hcc h8 hk ho hF hFl hl8
  generalize (off : Int) + 32 = y at *
  obtain ⟨f3, hf3⟩ : ∃ f3, f 3 = f3 := ⟨_, rfl⟩
  obtain ⟨ff, hff⟩ : ∃ ff, updI f 3 (f 3 - 1) = ff := ⟨_, rfl⟩
  have HSE : Hid (∀ (W W' : World) d1 (F' : Nat → Prop), Arena W p F' d1 → d1.Fine → (∀ k, F' k → k < W.heap.size) → SmD d1 l off f cc → Calls Tryz.prog 48 #[.agg #[.pointer (some ⟨p, 0, none⟩), .int .i64 l.k, .int .i64 l.e, .int .i64 l.a, .int .i64 l.b, .int .i64 l.c, .int .i64 l.eo, .int .i64 l.bo, .int .i64 l.s, .int .i64 l.g, .int .i64 (off : Int)], .int .i64 3, .int .i64 (f3 - 1)] W fun e w' => e = .returned (.int .i64 0) ∧ HeadS W p F' d1 l off ff cc w') := fun W W' d1 F' a b e g => by
    have := sset_sm a b e g 3 (by omega) (f 3 - 1) (fitsI_mk (by omega) (by omega))
    rw [hf3] at this
    rw [← hff, hf3]
    exact this
  rw [hff]
  rw [hf3] at hK hu0 hu8
  clear hff hf3
  have hw1 : wrap64 (f3 - 1) = f3 - 1 := by unfold wrap64; omega
  have hw2 : IntKind.i64.wrap (f3 - 1) = f3 - 1 := by rw [IntKind.wrap_i64]; omega
  have Hw := hide (And.intro hw1 hw2)
  clear hw1 hw2 hu0 hu8
  generalize f 0 = f0 at *
  generalize f 1 = f1 at *
  generalize f 2 = f2 at *
  go_enter Tryz.func33, Tryz.ntmps33
  go_wp2_with fail
  refine alloc1 (P := fun W => Calls _ _ _ W _) fun W0 hb hz K0 => ?_
  (with_reducible refine (hK _ K0).mono ?_)
  rintro r w1 ⟨rfl, k1⟩
  have K1 : Keeps w w1 (fun _ => False) := K0.trans k1 (fun _ _ e => e)
  have k2 : Keeps w1 (w1.alloc (.cells #[.int .i64 f3, .int .i64 f1, .int .i64 f2, .bool (f0 == 3)] 51)) (fun _ => False) := (Keeps.refl _ _).alloc _
  have hb2 := k2.blk (k1.blk hb)
  have hst2 := heap_alloc_new w1 (.cells #[.int .i64 f3, .int .i64 f1, .int .i64 f2, .bool (f0 == 3)] 51)
  obtain ⟨c0, c1, c2, c3, c4, c5, c6, c7, c8, c9, c10⟩ := c11_of hb2
  have K2 : Keeps w (w1.alloc (.cells #[.int .i64 f3, .int .i64 f1, .int .i64 f2, .bool (f0 == 3)] 51)) (fun _ => False) := K1.trans k2 (fun _ _ e => e)
  have hS2 := hS _ K2
  have hnS : ¬ F w1.heap.size := fun q => by have := HFF.out.2 _ q; have := K1.size; omega
  clear hK hS
  go_wp2_with fail
  (with_reducible refine hS2.mono ?_)
  rintro r w3 ⟨rfl, k3⟩
  have K3 : Keeps w w3 (fun _ => False) := K2.trans k3 (fun _ _ e => e)
  obtain ⟨c0, c1, c2, c3, c4, c5, c6, c7, c8, c9, c10⟩ := c11_of (k3.blk hb2)
  clear hS2
  go_wp2_with fail
  (with_reducible refine (hG _).mono ?_)
  rintro r w5 ⟨rfl, k5⟩
  have K5 : Keeps w w5 (fun _ => False) := K3.trans k5 (fun _ _ e => e)
  have hb5 := k5.blk (k3.blk hb2)
  have hst5 := k5.blk (k3.blk hst2)
  have hF5 := HFi.out _ K5
  clear hG HFi c0 c1 c2 c3 c4 c5 c6 c7 c8 c9 c10
  go_wp2_with fail
  (with_reducible refine hF5.mono ?_)
  rintro r w6 ⟨rfl, d1, hT1, ht1, h1⟩
  have hb6 := (hT1.2.block w.heap.size (heap_lt hb5) hnB).trans hb5
  have hst6 := (hT1.2.block w1.heap.size (heap_lt hst5) hnS).trans hst5
  obtain ⟨c0, c1, c2, c3, c4, c5, c6, c7, c8, c9, c10⟩ := c11_of hb6
  obtain ⟨⟨t0, t1, t2, t3⟩, -⟩ := st4_cells hst6
  have hSe := HSE.out _ w6 _ _ hT1.arena (ht1.fine HFF.out.1) (fun _ q => q.2) h1
  have HT := hide hT1
  have HT1 := hide ht1
  obtain ⟨a6, a7⟩ := Hw.out
  clear hF5 hT1 h1 ht1 HSE hb5 hst5 hst2
  go_wp2_with fail
  (with_reducible refine hSe.mono ?_)
  rintro r w7 ⟨rfl, d2, hT2, hF2, h2, ht2⟩
  have HP : Hid (SmT w w7 p F d l off ff cc) := ⟨d2, Turned.pre K5 (HT.out.then hT2), HT1.out.trans (ht2.wide (Nat.le_refl _) (by omega)), h2⟩
  clear hSe hT2 h2 ht2 HT HT1 c0 c1 c2 c3 c4 c5 c6 c7 c8 c9 c10
  go_wp2_with fail
  go_ret2
  exact ⟨rfl, HP.out⟩
end
end Go.Proofs.YtgckinldnnckoaaGreatDoor
/-
  small: what a dead one answers.
-/
namespace Go.Proofs.YtgckinldnnckoaaGreatDoor
open Go.RowKit Go.Shelf Ly Ct
set_option linter.unusedVariables false
section
variable {w : World} {p : Nat} {F : Nat → Prop} {d : AD} {off : Nat}
set_option maxRecDepth 100000 in
set_option maxHeartbeats 1000000 in
theorem skeyed_dead (hA : Arena w p F d) (hF : d.Fine) (l : Lay) (hg : d.goodB (off : Int) 8 = false) (h1 : off ≤ 134217728) (key : ByteArray) :
    Calls Tryz.prog 59 #[.agg #[.pointer (some ⟨p, 0, none⟩), .int .i64 l.k, .int .i64 l.e, .int .i64 l.a, .int .i64 l.b, .int .i64 l.c, .int .i64 l.eo, .int .i64 l.bo, .int .i64 l.s, .int .i64 l.g, .int .i64 (off : Int)], .string key] w fun e w' => e = .returned (.tuple #[stat0S, .int .i64 24]) ∧ Keeps w w' (fun _ => False) := by
  have hSt := fun W (k : Keeps w W (fun _ => False)) => sstat_no (hA.keeps k (fun _ _ _ e => e)) hF l off hg h1
  unfold stat0S at hSt ⊢
  clear hA
  go_enter Tryz.func59, Tryz.ntmps59
  go_wp2_with fail
  refine alloc2 (P := fun W => Calls _ _ _ W _) fun W0 hb hr hz K0 => ?_
  (with_reducible refine (hSt _ K0).mono ?_)
  rintro r w1 ⟨rfl, k1⟩
  have K1 : Keeps w w1 (fun _ => False) := K0.trans k1 (fun _ _ e => e)
  have k2 : Keeps w1 (w1.alloc (.cells #[.int .i64 0, .int .i64 0, .int .i64 0, .bool false] 51)) (fun _ => False) := (Keeps.refl _ _).alloc _
  obtain ⟨⟨t0, t1, t2, t3⟩, -⟩ := st4_cells (heap_alloc_new w1 (.cells #[.int .i64 0, .int .i64 0, .int .i64 0, .bool false] 51))
  have hr2 := k2.blk (k1.blk hr)
  obtain ⟨⟨d0, d1, d2, d3⟩, g0, g1, g2, g3⟩ := st4_cells hr2
  have K2 : Keeps w (w1.alloc (.cells #[.int .i64 0, .int .i64 0, .int .i64 0, .bool false] 51)) (fun _ => False) := K1.trans k2 (fun _ _ e => e)
  clear hSt
  go_wp2_with fail
  refine st4_set hr2 K2 (fun h => by omega) (P := fun w9 => bodyPost _ _ _ _ _ w9) fun w9 h9 k9 _ => ?_
  obtain ⟨⟨e0, e1, e2, e3⟩, -⟩ := st4_cells h9
  exact bodyPost_ret (v := .tuple #[.agg #[.int .i64 0, .int .i64 0, .int .i64 0, .bool false], .int .i64 24]) (by simp [results, Tryz.results59, go_sem, e0, e1, e2, e3]) rfl ⟨rfl, k9⟩

set_option maxRecDepth 100000 in
set_option maxHeartbeats 1000000 in
theorem sfind_dead (hA : Arena w p F d) (hF : d.Fine) (l : Lay) (hg : d.goodB (off : Int) 8 = false) (h1 : off ≤ 134217728) (tag : Int) (key : ByteArray) :
    Calls Tryz.prog 34 #[.agg #[.pointer (some ⟨p, 0, none⟩), .int .i64 l.k, .int .i64 l.e, .int .i64 l.a, .int .i64 l.b, .int .i64 l.c, .int .i64 l.eo, .int .i64 l.bo, .int .i64 l.s, .int .i64 l.g, .int .i64 (off : Int)], .int .i64 tag, .string key] w fun e w' => e = .returned (.tuple #[.int .i64 0, .int .i64 24]) ∧ Keeps w w' (fun _ => False) := by
  have hK := fun W (k : Keeps w W (fun _ => False)) => skeyed_dead (hA.keeps k (fun _ _ _ e => e)) hF l hg h1 key
  unfold stat0S at hK
  clear hA
  go_enter Tryz.func34, Tryz.ntmps34
  go_wp2_with fail
  refine alloc1 (P := fun W => Calls _ _ _ W _) fun W0 hb hz K0 => ?_
  (with_reducible refine (hK _ K0).mono ?_)
  rintro r w1 ⟨rfl, k1⟩
  have K1 : Keeps w w1 (fun _ => False) := K0.trans k1 (fun _ _ e => e)
  clear hK
  go_wp2_with fail
  go_ret2
  exact ⟨rfl, K1.alloc _⟩

set_option maxRecDepth 100000 in
set_option maxHeartbeats 1000000 in
theorem sget_dead (hA : Arena w p F d) (hF : d.Fine) (l : Lay) (hg : d.goodB (off : Int) 8 = false) (h1 : off ≤ 134217728) (tag : Int) (key : ByteArray) :
    Calls Tryz.prog 35 #[.agg #[.pointer (some ⟨p, 0, none⟩), .int .i64 l.k, .int .i64 l.e, .int .i64 l.a, .int .i64 l.b, .int .i64 l.c, .int .i64 l.eo, .int .i64 l.bo, .int .i64 l.s, .int .i64 l.g, .int .i64 (off : Int)], .int .i64 tag, .string key] w fun e w' => CellPost w GC.zero 24 e w' := by
  have hFi := fun W (k : Keeps w W (fun _ => False)) => sfind_dead (hA.keeps k (fun _ _ _ e => e)) hF l hg h1 tag key
  clear hA
  unfold CellPost at *
  unfold GC.val GC.zero at *
  go_enter Tryz.func35, Tryz.ntmps35
  go_wp2_with fail
  refine alloc2 (P := fun W => Calls _ _ _ W _) fun W0 hb hr hz K0 => ?_
  (with_reducible refine (hFi _ K0).mono ?_)
  rintro r w1 ⟨rfl, k1⟩
  have K1 : Keeps w w1 (fun _ => False) := K0.trans k1 (fun _ _ e => e)
  have hr1 := k1.blk hr
  obtain ⟨d0, d1, d2, d3, d4, f0, f1, f2, f3, f4⟩ := five_cells hr1
  clear hFi
  go_wp2_with fail
  refine five_set hr1 K1 (fun h => by omega) (P := fun w9 => bodyPost _ _ _ _ _ w9) fun w9 h9 k9 _ => ?_
  obtain ⟨e0, e1, e2, e3, e4, -⟩ := five_cells h9
  exact bodyPost_ret (v := .tuple #[.agg #[.int .i64 0, .int .i64 0, .string ⟨#[]⟩, .string ⟨#[]⟩, .int .i64 0], .int .i64 24]) (by simp [results, Tryz.results35, go_sem, e0, e1, e2, e3, e4]) rfl ⟨rfl, k9⟩

set_option maxRecDepth 100000 in
set_option maxHeartbeats 1000000 in
theorem scell_dead (hA : Arena w p F d) (hF : d.Fine) (l : Lay) (hg : d.goodB (off : Int) 8 = false) (h1 : off ≤ 134217728) (s : Int) :
    Calls Tryz.prog 21 #[.agg #[.pointer (some ⟨p, 0, none⟩), .int .i64 l.k, .int .i64 l.e, .int .i64 l.a, .int .i64 l.b, .int .i64 l.c, .int .i64 l.eo, .int .i64 l.bo, .int .i64 l.s, .int .i64 l.g, .int .i64 (off : Int)], .int .i64 s] w fun e w' => CellPost w GC.zero 24 e w' := by
  have hSt := fun W (k : Keeps w W (fun _ => False)) => sstat_no (hA.keeps k (fun _ _ _ e => e)) hF l off hg h1
  clear hA
  unfold stat0S at hSt
  unfold CellPost at *
  unfold GC.val GC.zero at *
  go_enter Tryz.func21, Tryz.ntmps21
  go_wp2_with fail
  refine alloc2 (P := fun W => Calls _ _ _ W _) fun W0 hb hr hz K0 => ?_
  (with_reducible refine (hSt _ K0).mono ?_)
  rintro r w1 ⟨rfl, k1⟩
  have k2 : Keeps w1 (w1.alloc (.cells #[.int .i64 0, .int .i64 0, .int .i64 0, .bool false] 51)) (fun _ => False) := (Keeps.refl _ _).alloc _
  have K1 : Keeps w (w1.alloc (.cells #[.int .i64 0, .int .i64 0, .int .i64 0, .bool false] 51)) (fun _ => False) := (K0.trans k1 (fun _ _ e => e)).trans k2 (fun _ _ e => e)
  have hr1 := k2.blk (k1.blk hr)
  obtain ⟨d0, d1, d2, d3, d4, f0, f1, f2, f3, f4⟩ := five_cells hr1
  clear hSt
  go_wp2_with fail
  refine five_set hr1 K1 (fun h => by omega) (P := fun w9 => bodyPost _ _ _ _ _ w9) fun w9 h9 k9 _ => ?_
  obtain ⟨e0, e1, e2, e3, e4, -⟩ := five_cells h9
  exact bodyPost_ret (v := .tuple #[.agg #[.int .i64 0, .int .i64 0, .string ⟨#[]⟩, .string ⟨#[]⟩, .int .i64 0], .int .i64 24]) (by simp [results, Tryz.results21, go_sem, e0, e1, e2, e3, e4]) rfl ⟨rfl, k9⟩

set_option maxRecDepth 100000 in
set_option maxHeartbeats 1000000 in
theorem sput_dead (hA : Arena w p F d) (hF : d.Fine) (l : Lay) (hg : d.goodB (off : Int) 8 = false) (h1 : off ≤ 134217728) (tag : Int) (key elem : ByteArray) (birth : Int) :
    Calls Tryz.prog 32 #[.agg #[.pointer (some ⟨p, 0, none⟩), .int .i64 l.k, .int .i64 l.e, .int .i64 l.a, .int .i64 l.b, .int .i64 l.c, .int .i64 l.eo, .int .i64 l.bo, .int .i64 l.s, .int .i64 l.g, .int .i64 (off : Int)], .int .i64 tag, .string key, .string elem, .int .i64 birth] w fun e w' => e = .returned (.tuple #[.int .i64 0, .int .i64 24]) ∧ Keeps w w' (fun _ => False) := by
  have hK := fun W (k : Keeps w W (fun _ => False)) => skeyed_dead (hA.keeps k (fun _ _ _ e => e)) hF l hg h1 key
  unfold stat0S at hK
  clear hA
  go_enter Tryz.func32, Tryz.ntmps32
  go_wp2_with fail
  refine alloc1 (P := fun W => Calls _ _ _ W _) fun W0 hb hz K0 => ?_
  (with_reducible refine (hK _ K0).mono ?_)
  rintro r w1 ⟨rfl, k1⟩
  have K1 : Keeps w w1 (fun _ => False) := K0.trans k1 (fun _ _ e => e)
  clear hK
  go_wp2_with fail
  go_ret2
  exact ⟨rfl, K1.alloc _⟩

set_option maxRecDepth 100000 in
set_option maxHeartbeats 1000000 in
theorem sdelete_dead (hA : Arena w p F d) (hF : d.Fine) (l : Lay) (hg : d.goodB (off : Int) 8 = false) (h1 : off ≤ 134217728) (tag : Int) (key : ByteArray) :
    Calls Tryz.prog 33 #[.agg #[.pointer (some ⟨p, 0, none⟩), .int .i64 l.k, .int .i64 l.e, .int .i64 l.a, .int .i64 l.b, .int .i64 l.c, .int .i64 l.eo, .int .i64 l.bo, .int .i64 l.s, .int .i64 l.g, .int .i64 (off : Int)], .int .i64 tag, .string key] w fun e w' => e = .returned (.tuple #[.bool false, .int .i64 24]) ∧ Keeps w w' (fun _ => False) := by
  have hK := fun W (k : Keeps w W (fun _ => False)) => skeyed_dead (hA.keeps k (fun _ _ _ e => e)) hF l hg h1 key
  unfold stat0S at hK
  clear hA
  go_enter Tryz.func33, Tryz.ntmps33
  go_wp2_with fail
  refine alloc1 (P := fun W => Calls _ _ _ W _) fun W0 hb hz K0 => ?_
  (with_reducible refine (hK _ K0).mono ?_)
  rintro r w1 ⟨rfl, k1⟩
  have K1 : Keeps w w1 (fun _ => False) := K0.trans k1 (fun _ _ e => e)
  clear hK
  go_wp2_with fail
  go_ret2
  exact ⟨rfl, K1.alloc _⟩

set_option maxRecDepth 100000 in
set_option maxHeartbeats 1000000 in
theorem spin_dead (hA : Arena w p F d) (hF : d.Fine) (l : Lay) (hg : d.goodB (off : Int) 8 = false) (h1 : off ≤ 134217728) (b : Int) :
    Calls Tryz.prog 18 #[.agg #[.pointer (some ⟨p, 0, none⟩), .int .i64 l.k, .int .i64 l.e, .int .i64 l.a, .int .i64 l.b, .int .i64 l.c, .int .i64 l.eo, .int .i64 l.bo, .int .i64 l.s, .int .i64 l.g, .int .i64 (off : Int)], .int .i64 b] w fun e w' => e = .returned (.tuple #[.int .i64 0, .int .i64 24]) ∧ Keeps w w' (fun _ => False) := by
  have hK := fun W (k : Keeps w W (fun _ => False)) => sstat_no (hA.keeps k (fun _ _ _ e => e)) hF l off hg h1
  unfold stat0S at hK
  clear hA
  go_enter Tryz.func18, Tryz.ntmps18
  go_wp2_with fail
  refine alloc1 (P := fun W => Calls _ _ _ W _) fun W0 hb hz K0 => ?_
  (with_reducible refine (hK _ K0).mono ?_)
  rintro r w1 ⟨rfl, k1⟩
  have K1 : Keeps w w1 (fun _ => False) := K0.trans k1 (fun _ _ e => e)
  clear hK
  go_wp2_with fail
  go_ret2
  exact ⟨rfl, K1.alloc _⟩

set_option maxRecDepth 100000 in
set_option maxHeartbeats 1000000 in
theorem snext_dead (hA : Arena w p F d) (hF : d.Fine) (l : Lay) (hg : d.goodB (off : Int) 8 = false) (h1 : off ≤ 134217728) (v : Int) :
    Calls Tryz.prog 20 #[.agg #[.pointer (some ⟨p, 0, none⟩), .int .i64 l.k, .int .i64 l.e, .int .i64 l.a, .int .i64 l.b, .int .i64 l.c, .int .i64 l.eo, .int .i64 l.bo, .int .i64 l.s, .int .i64 l.g, .int .i64 (off : Int)], .int .i64 v] w fun e w' => e = .returned (.int .i64 24) ∧ Keeps w w' (fun _ => False) := by
  have hK := fun W (k : Keeps w W (fun _ => False)) => sstat_no (hA.keeps k (fun _ _ _ e => e)) hF l off hg h1
  unfold stat0S at hK
  clear hA
  go_enter Tryz.func20, Tryz.ntmps20
  go_wp2_with fail
  refine alloc1 (P := fun W => Calls _ _ _ W _) fun W0 hb hz K0 => ?_
  (with_reducible refine (hK _ K0).mono ?_)
  rintro r w1 ⟨rfl, k1⟩
  have K1 : Keeps w w1 (fun _ => False) := K0.trans k1 (fun _ _ e => e)
  clear hK
  go_wp2_with fail
  go_ret
  exact ⟨rfl, K1.alloc _⟩

set_option maxRecDepth 100000 in
set_option maxHeartbeats 1000000 in
theorem sretire_dead (hA : Arena w p F d) (hF : d.Fine) (l : Lay) (hg : d.goodB (off : Int) 8 = false) (h1 : off ≤ 134217728) (v : Int) :
    Calls Tryz.prog 19 #[.agg #[.pointer (some ⟨p, 0, none⟩), .int .i64 l.k, .int .i64 l.e, .int .i64 l.a, .int .i64 l.b, .int .i64 l.c, .int .i64 l.eo, .int .i64 l.bo, .int .i64 l.s, .int .i64 l.g, .int .i64 (off : Int)], .int .i64 v] w fun e w' => e = .returned (.int .i64 24) ∧ Keeps w w' (fun _ => False) := by
  have hK := fun W (k : Keeps w W (fun _ => False)) => snext_dead (hA.keeps k (fun _ _ _ e => e)) hF l hg h1 v
  clear hA
  go_enter Tryz.func19, Tryz.ntmps19
  go_wp2_with fail
  refine alloc1 (P := fun W => Calls _ _ _ W _) fun W0 hb hz K0 => ?_
  (with_reducible refine (hK _ K0).mono ?_)
  rintro r w1 ⟨rfl, k1⟩
  have K1 : Keeps w w1 (fun _ => False) := K0.trans k1 (fun _ _ e => e)
  clear hK
  go_wp2_with fail
  go_ret
  exact ⟨rfl, K1⟩

set_option maxRecDepth 100000 in
set_option maxHeartbeats 1000000 in
theorem sfree_dead (hA : Arena w p F d) (hF : d.Fine) (l : Lay) (hg : d.goodB (off : Int) 8 = false) (h1 : off ≤ 134217728) :
    Calls Tryz.prog 53 #[.agg #[.pointer (some ⟨p, 0, none⟩), .int .i64 l.k, .int .i64 l.e, .int .i64 l.a, .int .i64 l.b, .int .i64 l.c, .int .i64 l.eo, .int .i64 l.bo, .int .i64 l.s, .int .i64 l.g, .int .i64 (off : Int)]] w fun e w' => e = .returned (.int .i64 24) ∧ Keeps w w' (fun _ => False) := by
  have hK := fun W (k : Keeps w W (fun _ => False)) => sstat_no (hA.keeps k (fun _ _ _ e => e)) hF l off hg h1
  unfold stat0S at hK
  clear hA
  go_enter Tryz.func53, Tryz.ntmps53
  go_wp2_with fail
  refine alloc1 (P := fun W => Calls _ _ _ W _) fun W0 hb hz K0 => ?_
  (with_reducible refine (hK _ K0).mono ?_)
  rintro r w1 ⟨rfl, k1⟩
  have K1 : Keeps w w1 (fun _ => False) := K0.trans k1 (fun _ _ e => e)
  clear hK
  go_wp2_with fail
  go_ret
  exact ⟨rfl, K1.alloc _⟩

theorem alloc4z {w : World} {o1 o2 o3 o4 : Obj} {P : World → Prop} (h : ∀ W0, W0.heap[w.heap.size + 1 + 1 + 1]? = some o4 → W0.heap.size = w.heap.size + 4 → Keeps w W0 (fun _ => False) → P W0) : P ((((w.alloc o1).alloc o2).alloc o3).alloc o4) := by
  refine h _ ?_ (by simp) (((((Keeps.refl _ _).alloc _).alloc _).alloc _).alloc _)
  have := heap_alloc_new (((w.alloc o1).alloc o2).alloc o3) o4
  simpa using this

set_option maxRecDepth 100000 in
set_option maxHeartbeats 1000000 in
theorem spromote_dead (hA : Arena w p F d) (hF : d.Fine) (l : Lay) (hg : d.goodB (off : Int) 8 = false) (h1 : off ≤ 134217728) (q : Nat) (seed : Int) :
    Calls Tryz.prog 15 #[.agg #[.pointer (some ⟨p, 0, none⟩), .int .i64 l.k, .int .i64 l.e, .int .i64 l.a, .int .i64 l.b, .int .i64 l.c, .int .i64 l.eo, .int .i64 l.bo, .int .i64 l.s, .int .i64 l.g, .int .i64 (off : Int)], .pointer (some ⟨q, 0, none⟩), .int .u64 seed] w fun e w' => e = .returned (.tuple #[.agg #[.pointer none, .int .i64 0, .int .i64 0, .int .i64 0, .int .i64 0, .int .i64 0, .int .i64 0, .int .i64 0, .int .i64 0, .int .i64 0, .int .i64 0], .int .i64 24]) ∧ Keeps w w' (fun _ => False) := by
  have hK := fun W (k : Keeps w W (fun _ => False)) => sstat_no (hA.keeps k (fun _ _ _ e => e)) hF l off hg h1
  unfold stat0S at hK
  clear hA
  go_enter Tryz.func15, Tryz.ntmps15
  go_wp2_with fail
  refine alloc4z (P := fun W => Calls _ _ _ W _) fun W0 hr hz K0 => ?_
  (with_reducible refine (hK _ K0).mono ?_)
  rintro r w1 ⟨rfl, k1⟩
  have k2 : Keeps w1 (w1.alloc (.cells #[.int .i64 0, .int .i64 0, .int .i64 0, .bool false] 51)) (fun _ => False) := (Keeps.refl _ _).alloc _
  have K1 : Keeps w (w1.alloc (.cells #[.int .i64 0, .int .i64 0, .int .i64 0, .bool false] 51)) (fun _ => False) := (K0.trans k1 (fun _ _ e => e)).trans k2 (fun _ _ e => e)
  have hr1 := k2.blk (k1.blk hr)
  obtain ⟨⟨d0, d1, d2, d3, d4, d5, d6, d7, d8, d9, d10⟩, f0, f1, f2, f3, f4, f5, f6, f7, f8, f9, f10⟩ := eleven_cells hr1
  clear hK
  go_wp2_with fail
  refine eleven_set hr1 K1 (fun h => by omega) (P := fun w9 => bodyPost _ _ _ _ _ w9) fun w9 h9 k9 _ => ?_
  obtain ⟨⟨e0, e1, e2, e3, e4, e5, e6, e7, e8, e9, e10⟩, -⟩ := eleven_cells h9
  exact bodyPost_ret (v := .tuple #[.agg #[.pointer none, .int .i64 0, .int .i64 0, .int .i64 0, .int .i64 0, .int .i64 0, .int .i64 0, .int .i64 0, .int .i64 0, .int .i64 0, .int .i64 0], .int .i64 24]) (by simp [results, Tryz.results15, go_sem, e0, e1, e2, e3, e4, e5, e6, e7, e8, e9, e10]) rfl ⟨rfl, k9⟩
end
end Go.Proofs.YtgckinldnnckoaaGreatDoor
/-
  What the methods of a heap of offsets do.
-/
namespace Go.Proofs.YtgckinldnnckoaaGreatDoor
open Go.RowKit Go.Shelf

theorem low_len {w : World} {hb : Nat} {v : Value} {xs : List Int} (h : HeapAt w hb v xs) :
    Calls Tryz.prog 168 #[.pointer (some ⟨hb, 0, none⟩)] w fun e w' => e = .returned (.int .i64 (xs.length : Int)) ∧ w' = w := by
  have c0 := h.cell
  rcases Go.Joins.ownsRow_forms h.row with ⟨hv, hn⟩ | ⟨g, cap, hv⟩
  · subst hv
    rw [hn]
    clear h
    go_enter Tryz.func168, Tryz.ntmps168
    go_wp2
    go_ret
    exact ⟨rfl, rfl⟩
  · subst hv
    clear h
    go_enter Tryz.func168, Tryz.ntmps168
    go_wp2
    go_ret
    exact ⟨rfl, rfl⟩

set_option maxHeartbeats 1000000 in
theorem low_less {w : World} {hb : Nat} {v : Value} {xs : List Int} (h : HeapAt w hb v xs) (i j : Nat) (hi : i < xs.length) (hj : j < xs.length) (hl : xs.length ≤ 134217728) :
    Calls Tryz.prog 229 #[.pointer (some ⟨hb, 0, none⟩), .int .i64 (i : Int), .int .i64 (j : Int)] w fun e w' => e = .returned (.bool (decide (at0 xs i < at0 xs j))) ∧ ∃ q, w' = w.drewN q := by
  have c0 := h.cell
  obtain ⟨g, cap, rfl, _, _, hc, _⟩ := h.form (by omega)
  have ci := hc i hi
  have cj := hc j hj
  clear h hc
  go_enter Tryz.func229, Tryz.ntmps229
  go_wp2
  go_quiet (fail)
  go_wp2
  go_ret
  exact ⟨rfl, nq, rfl⟩
end Go.Proofs.YtgckinldnnckoaaGreatDoor
namespace Go.Proofs.YtgckinldnnckoaaGreatDoor
open Go.RowKit Go.Shelf

def SwapPost (w : World) (hb : Nat) (v : Value) (xs : List Int) (e : Ending) (w' : World) : Prop := e = .returned (.tuple #[]) ∧ HeapAt w' hb v xs ∧ Keeps w w' (fun k => v.ownBlock = some k)

set_option maxHeartbeats 2000000 in
theorem low_swap {w : World} {hb : Nat} {v : Value} {xs : List Int} (h : HeapAt w hb v xs) (i j : Nat) (hi : i < xs.length) (hj : j < xs.length) (hl : xs.length ≤ 134217728) :
    Calls Tryz.prog 232 #[.pointer (some ⟨hb, 0, none⟩), .int .i64 (i : Int), .int .i64 (j : Int)] w fun e w' => SwapPost w hb v (sw xs i j) e w' := by
  have c0 := h.cell
  obtain ⟨g, cap, rfl, _, _, hc, hf⟩ := h.form (by omega)
  have ci := hc i hi
  have cj := hc j hj
  have fi := hf i
  have fj := hf j
  obtain ⟨v', hy'⟩ := cell?_setCell_some (w := w) (p := ⟨g, i, none⟩) (x := .int .i64 (at0 xs j)) (q := ⟨g, j, none⟩) cj
  have hfin : ∀ q, SwapPost w hb (.slice (some ⟨g, 0, none⟩) xs.length cap) (sw xs i j) (.returned (.tuple #[])) (((w.setCell ⟨g, i, none⟩ (.int .i64 (at0 xs j))).setCell ⟨g, j, none⟩ (.int .i64 (at0 xs i))).drewN q) := fun q => by
    have k1 : Keeps w ((w.setCell ⟨g, i, none⟩ (.int .i64 (at0 xs j))).setCell ⟨g, j, none⟩ (.int .i64 (at0 xs i))) (fun k => (Value.slice (some ⟨g, 0, none⟩) xs.length cap).ownBlock = some k) := ((Keeps.refl w (fun k => (Value.slice (some ⟨g, 0, none⟩) xs.length cap).ownBlock = some k)).setCell ⟨g, i, none⟩ (fun _ => rfl) _).setCell ⟨g, j, none⟩ (fun _ => rfl) _
    exact ⟨rfl, (h.swapped i j).keeps ((Keeps.refl _ (fun _ => False)).drewN q) id (fun _ _ => id), k1.drewN q⟩
  have HF := hide hfin
  clear hfin h hc hf
  go_enter Tryz.func232, Tryz.ntmps232
  go_wp2
  go_region
  all_goals (try go_wp2)
  all_goals go_end0
  all_goals exact HF.out 1
end Go.Proofs.YtgckinldnnckoaaGreatDoor
namespace Go.Proofs.YtgckinldnnckoaaGreatDoor
open Go.RowKit Go.Shelf

/-- A builtin append whose run is known, in a region that draws. -/
theorem step_append_run {P : Program} {w : World} {ops : Array Oper} {o : Oper} {a : Act} {K : Act → World → Prop} {Q : Exit → Act → World → Prop} {E : Prop} (hgd : o.guard = none) (s x : Operand) (t : TypeId)
    (ho : o.op = .call { callee := .builtin .append, args := #[s, x], argTypes := #[t, t] }) {v u v' : Value} {w' : World} (hs : a.eval s = v) (hx : a.eval x = u)
    (hrun : ∀ ty, (Builtin.append_ #[t, t] ty #[v, u]).run P w = .ok v' w') (h : K (a.put o.dst v') w') :
    if Region.wanted o (yielded ops a.tmps) = true then Oper.wp P o a w K Q else E := by
  have hw : Region.wanted o (yielded ops a.tmps) = true := by simp [Region.wanted, hgd]
  rw [if_pos hw]
  unfold Oper.wp execOp
  simp only [ho, resolve, invoke, builtin, Sem.run_bind, Sem.run_pure, Result.andThen_ok, List.map_toArray, List.map_cons, List.map_nil, hs, hx, hrun]
  exact h

/-- A heap turned to another: its row may have moved. -/
def HeapTurned (w : World) (hb : Nat) (v : Value) (ys : List Int) (w' : World) : Prop :=
  ∃ v', HeapAt w' hb v' ys ∧ Keeps w w' (fun k => k = hb ∨ v.ownBlock = some k) ∧ (v'.ownBlock = v.ownBlock ∨ ∃ k, v'.ownBlock = some k ∧ w.heap.size ≤ k)

set_option maxRecDepth 100000 in
set_option maxHeartbeats 2000000 in
theorem low_push {w : World} {hb : Nat} {v : Value} {xs : List Int} (h : HeapAt w hb v xs) (x : Int) (hl : xs.length ≤ 134217728) :
    Calls Tryz.prog 231 #[.pointer (some ⟨hb, 0, none⟩), .iface 3 (.int .i64 x)] w fun e w' => e = .returned (.tuple #[]) ∧ HeapTurned w hb v (xs ++ [x]) w' := by
  have c0 := h.cell
  have cA : (w.alloc (.cells #[.int .i64 x] 3)).cell? ⟨hb, 0, none⟩ = some v := (h.keeps ((Keeps.refl w (fun _ => False)).alloc (.cells #[.int .i64 x] 3)) id (fun _ _ => id)).cell
  have k3 : Keeps w (w.drew.alloc (.cells #[cellI x] 3)) (fun _ => False) := ((Keeps.refl w (fun _ => False)).drewN 1).alloc _
  have h3 := h.keeps k3 id (fun _ _ => id)
  obtain ⟨g4, cap4, w4, hap, beg4, k4, hloc⟩ := append_one (P := Tryz.prog) 213 3 (.int .i64 0) 8 Tryz.underlying213 Tryz.infoI rfl h3.row (heap_alloc_new w.drew (.cells #[cellI x] 3)) rfl (by omega) (by unfold maxLen; omega) (Nat.zero_le _)
  have hp4 := (k4.block hb h3.lt (fun e => h3.ne e rfl)).trans h3.hp
  have c4 : w4.cell? ⟨hb, 0, none⟩ = some v := cell_of_one hp4
  have f4 : w4.frozen? ⟨hb, 0, none⟩ = false := free_of_one hp4
  have hfin : HeapTurned w hb v (xs ++ [x]) (w4.setCell ⟨hb, 0, none⟩ (.slice (some ⟨g4, 0, none⟩) (xs.length + 1) cap4)) := by
    have hsz : w.heap.size ≤ w.drew.heap.size := Nat.le_refl _
    have hne : hb ≠ g4 := fun e => by
      rcases hloc with e2 | e2
      · exact h.ne e2 e
      · have := h3.lt
        have := h.lt
        simp at e2
        have : g4 = w.heap.size + 1 := e2
        omega
    refine ⟨.slice (some ⟨g4, 0, none⟩) (xs.length + 1) cap4, ⟨one_setCell hp4, ?_⟩, ?_, ?_⟩
    · have := ownsRow_setCell_other beg4 (a := ⟨hb, 0, none⟩) (by simp [Value.ownBlock]; exact fun e => hne e.symm) (.slice (some ⟨g4, 0, none⟩) (xs.length + 1) cap4)
      simpa using this
    · exact ((k3.mono (S1 := fun k => k = hb ∨ v.ownBlock = some k) (fun _ _ e => e.elim)).trans k4 (fun _ _ e => Or.inr e)).setCell _ (fun _ => Or.inl rfl) _
    · rcases hloc with e | e
      · exact Or.inl (by rw [e]; rfl)
      · refine Or.inr ⟨g4, rfl, ?_⟩
        simp at e
        have : g4 = w.heap.size + 1 := e
        omega
  have HF := hide hfin
  clear hfin h h3 k3 k4 beg4 hloc hp4
  have hta : ∀ w', Sem.run Tryz.prog (Instr.typeAssert (.iface 3 (.int .i64 x)) 20 3 false) w' = .ok (.int .i64 x) w' := fun _ => by kernel_rfl
  unfold cellI at hap
  go_enter Tryz.func231, Tryz.ntmps231
  go_wp2
  go_region_law (refine step_append_run (by rfl) _ _ 213 (by rfl) (by rfl) (by rfl) hap ?_)
  all_goals (try go_wp2)
  all_goals go_end0
  all_goals exact ⟨rfl, HF.out⟩
end Go.Proofs.YtgckinldnnckoaaGreatDoor
namespace Go.Proofs.YtgckinldnnckoaaGreatDoor
open Go.RowKit Go.Shelf

set_option maxRecDepth 100000 in
set_option maxHeartbeats 2000000 in
theorem low_pop {w : World} {hb : Nat} {v : Value} {ys : List Int} {m : Int} (h : HeapAt w hb v (ys ++ [m])) (hl : ys.length ≤ 134217728) :
    Calls Tryz.prog 230 #[.pointer (some ⟨hb, 0, none⟩)] w fun e w' => e = .returned (.iface 3 (.int .i64 m)) ∧ HeapTurned w hb v ys w' := by
  have c0 := h.cell
  have f0 := h.frozen
  obtain ⟨g, cap, hv, hcap, hm, hc, _⟩ := h.form (by simp)
  have hlen : (ys ++ [m]).length = ys.length + 1 := by simp
  rw [hlen] at hv hcap
  subst hv
  have cm := hc ys.length (by simp)
  have hat : at0 (ys ++ [m]) ys.length = m := by simp [at0]
  rw [hat] at cm
  unfold maxLen at hm
  have hfin : HeapTurned w hb (.slice (some ⟨g, 0, none⟩) (ys.length + 1) cap) ys (w.setCell ⟨hb, 0, none⟩ (.slice (some ⟨g, 0, none⟩) ys.length cap)) := by
    have hne : hb ≠ g := h.ne rfl
    have hr := h.row
    rw [hlen, List.map_append] at hr
    have hr2 := ownsRow_pop (by simp) hr
    refine ⟨_, ⟨one_setCell h.hp, ownsRow_setCell_other hr2 (a := ⟨hb, 0, none⟩) (by simp [Value.ownBlock]; exact fun e => hne e.symm) _⟩, ?_, Or.inl rfl⟩
    exact (Keeps.refl w (fun k => k = hb ∨ (Value.slice (some ⟨g, 0, none⟩) (ys.length + 1) cap).ownBlock = some k)).setCell _ (fun _ => Or.inl rfl) _
  have HF := hide hfin
  have HH := hide h
  clear hfin h hc hat hlen
  go_enter Tryz.func230, Tryz.ntmps230
  go_wp2
  go_ret
  exact ⟨rfl, HF.out⟩
end Go.Proofs.YtgckinldnnckoaaGreatDoor
namespace Go.Proofs.YtgckinldnnckoaaGreatDoor
open Go.RowKit Go.Shelf

abbrev lowP (hb : Nat) : Value := .pointer (some ⟨hb, 0, none⟩)
theorem reach_less (hb : Nat) (w : World) : Sem.run Tryz.prog (method (Tryz.prog.types.size + 100) 212 (.pointer (some ⟨hb, 0, none⟩)) "Less") w = .ok (229, .pointer (some ⟨hb, 0, none⟩)) w := by kernel_rfl
theorem reach_swap (hb : Nat) (w : World) : Sem.run Tryz.prog (method (Tryz.prog.types.size + 100) 212 (.pointer (some ⟨hb, 0, none⟩)) "Swap") w = .ok (232, .pointer (some ⟨hb, 0, none⟩)) w := by kernel_rfl
theorem reach_len (hb : Nat) (w : World) : Sem.run Tryz.prog (method (Tryz.prog.types.size + 100) 212 (.pointer (some ⟨hb, 0, none⟩)) "Len") w = .ok (168, .pointer (some ⟨hb, 0, none⟩)) w := by kernel_rfl
theorem reach_push (hb : Nat) (w : World) : Sem.run Tryz.prog (method (Tryz.prog.types.size + 100) 212 (.pointer (some ⟨hb, 0, none⟩)) "Push") w = .ok (231, .pointer (some ⟨hb, 0, none⟩)) w := by kernel_rfl
theorem reach_pop (hb : Nat) (w : World) : Sem.run Tryz.prog (method (Tryz.prog.types.size + 100) 212 (.pointer (some ⟨hb, 0, none⟩)) "Pop") w = .ok (230, .pointer (some ⟨hb, 0, none⟩)) w := by kernel_rfl
theorem ent_less : Enters Tryz.prog 229 := enters_of Tryz.func229 (by kernel_rfl) rfl
theorem ent_swap : Enters Tryz.prog 232 := enters_of Tryz.func232 (by kernel_rfl) rfl
theorem ent_len : Enters Tryz.prog 168 := enters_of Tryz.func168 (by kernel_rfl) rfl
theorem ent_push : Enters Tryz.prog 231 := enters_of Tryz.func231 (by kernel_rfl) rfl
theorem ent_pop : Enters Tryz.prog 230 := enters_of Tryz.func230 (by kernel_rfl) rfl

def UpPost (w : World) (hb : Nat) (v : Value) (xs : List Int) (e : Ending) (w' : World) : Prop := e = .returned (.tuple #[]) ∧ ∃ ys : List Int, ys.Perm xs ∧ Heapy ys.length ys ∧ HeapAt w' hb v ys ∧ Keeps w w' (fun k => v.ownBlock = some k)
def UpRel (w : World) (hb : Nat) (v : Value) (xs : List Int) (j : Nat) (wr : World) : Prop := ∃ ys : List Int, j < ys.length ∧ ys.Perm xs ∧ UpInv ys j ∧ HeapAt wr hb v ys ∧ Keeps w wr (fun k => v.ownBlock = some k)

set_option maxRecDepth 100000 in
set_option maxHeartbeats 2000000 in
theorem heap_up {w : World} {hb : Nat} {v : Value} {xs : List Int} {j0 : Nat} (h : UpRel w hb v xs j0 w) (hl : xs.length ≤ 134217728) :
    Calls Tryz.prog 180 #[.iface 212 (.pointer (some ⟨hb, 0, none⟩)), .int .i64 (j0 : Int)] w fun e w' => UpPost w hb v xs e w' := by
  have mL := reach_less hb
  have mS := reach_swap hb
  have eL := ent_less
  have eS := ent_swap
  unfold Enters at eL eS
  have H0 := hide h
  clear h
  go_enter Tryz.func180, Tryz.ntmps180
  go_wp2
  go_loopw [1] (fun vj wr => ∃ j : Nat, vj = .int .i64 (j : Int) ∧ UpRel w hb v xs j wr) (fun vj _ => (intOf vj).toNat)
  case atStart => exact ⟨j0, rfl, H0.out⟩
  case round =>
    obtain ⟨j, rfl, ys, hj, hperm, hinv, hat, hk⟩ := hrel
    have hlen := hperm.length_eq
    have P0 := hide hperm
    have I0 := hide hinv
    clear hperm hinv
    rcases Nat.eq_zero_or_pos j with hz | hpos
    · subst hz
      have hfin : UpPost w hb v xs (.returned (.tuple #[])) wr := ⟨rfl, ys, P0.out, I0.out.stop (Or.inl rfl), hat, hk⟩
      have HF := hide hfin
      clear hfin hat hk hlen hj I0 P0 H0
      go_wp2_with fail
      go_end0
      exact HF.out
    · obtain ⟨i, hi⟩ : ∃ i, i = (j - 1) / 2 := ⟨_, rfl⟩
      have hij : i < j := by omega
      have hil : i < ys.length := by omega
      have hq : Int.tdiv ((j : Int) - 1) 2 = (i : Int) := by
        rw [Int.tdiv_eq_ediv_of_nonneg (by omega)]
        omega
      have hne : ((i : Int) == (j : Int)) = false := by simp; omega
      have hbl : j ≤ 134217728 := by omega
      have hL := low_less hat j i hj hil (by omega)
      by_cases hlt : at0 ys j < at0 ys i
      · have hstep : Hid (∀ q, Calls Tryz.prog 232 #[.pointer (some ⟨hb, 0, none⟩), .int .i64 (i : Int), .int .i64 (j : Int)] (wr.drewN q) fun e w' => e = .returned (.tuple #[]) ∧ UpRel w hb v xs i w') := fun q => by
          have kq : Keeps wr (wr.drewN q) (fun _ => False) := (Keeps.refl wr _).drewN q
          refine (low_swap (hat.keeps kq id (fun _ _ => id)) i j hil hj (by omega)).mono ?_
          rintro e w' ⟨rfl, h1, h2⟩
          refine ⟨rfl, sw ys i j, by rw [sw_length]; exact hil, (sw_perm hil hj).trans P0.out, ?_, h1, (hk.trans kq (fun _ _ e => e.elim)).trans h2 (fun _ _ e => e)⟩
          subst hi
          exact I0.out.step hj hpos hlt
        rw [decide_eq_true hlt] at hL
        clear hat hk hlen hj I0 P0 H0 hlt hil hi
        go_wp2_with fail
        refine hL.mono ?_
        rintro e w1 ⟨rfl, q, rfl⟩
        have hS := hstep.out q
        clear hL hstep
        go_wp2_with fail
        refine hS.mono ?_
        rintro e w2 ⟨rfl, hr⟩
        have HR := hide hr
        clear hS hr
        go_wp2_with fail
        exact ⟨⟨i, rfl, HR.out⟩, by simp [intOf]; omega⟩
      · have hfin : ∀ q, UpPost w hb v xs (.returned (.tuple #[])) (wr.drewN q) := fun q => by
          have kq : Keeps wr (wr.drewN q) (fun _ => False) := (Keeps.refl wr _).drewN q
          refine ⟨rfl, ys, P0.out, I0.out.stop (Or.inr ?_), hat.keeps kq id (fun _ _ => id), hk.trans kq (fun _ _ e => e.elim)⟩
          subst hi
          omega
        have HF := hide hfin
        rw [decide_eq_false hlt] at hL
        clear hfin hat hk hlen hj I0 P0 H0 hlt hil hi
        go_wp2_with fail
        refine hL.mono ?_
        rintro e w1 ⟨rfl, q, rfl⟩
        clear hL
        go_wp2_with fail
        go_end0
        exact HF.out q
end Go.Proofs.YtgckinldnnckoaaGreatDoor
namespace Go.Proofs.YtgckinldnnckoaaGreatDoor
open Go.RowKit Go.Shelf

def PushPost (w : World) (hb : Nat) (v : Value) (xs : List Int) (e : Ending) (w' : World) : Prop := e = .returned (.tuple #[]) ∧ ∃ ys : List Int, ys.Perm xs ∧ Heapy ys.length ys ∧ HeapTurned w hb v ys w'

theorem HeapTurned.then {w w1 w2 : World} {hb : Nat} {v v1 : Value} {ys : List Int} (k1 : Keeps w w1 (fun k => k = hb ∨ v.ownBlock = some k)) (l1 : v1.ownBlock = v.ownBlock ∨ ∃ k, v1.ownBlock = some k ∧ w.heap.size ≤ k)
    (h2 : HeapAt w2 hb v1 ys) (k2 : Keeps w1 w2 (fun k => v1.ownBlock = some k)) : HeapTurned w hb v ys w2 := by
  refine ⟨v1, h2, k1.trans k2 (fun i hi e => ?_), l1⟩
  rcases l1 with l | ⟨k, l, hk⟩
  · exact Or.inr (l ▸ e)
  · rw [l] at e
    cases e
    omega

set_option maxRecDepth 100000 in
set_option maxHeartbeats 2000000 in
theorem heap_push {w : World} {hb : Nat} {v : Value} {xs : List Int} (h : HeapAt w hb v xs) (hh : Heapy xs.length xs) (x : Int) (hl : xs.length < 134217728) :
    Calls Tryz.prog 158 #[.iface 212 (.pointer (some ⟨hb, 0, none⟩)), .iface 3 (.int .i64 x)] w fun e w' => PushPost w hb v (xs ++ [x]) e w' := by
  have mP := reach_push hb
  have mL := reach_len hb
  have eP := ent_push
  have eL := ent_len
  unfold Enters at eP eL
  have hP := low_push h x (by omega)
  clear h
  go_enter Tryz.func158, Tryz.ntmps158
  go_wp2_with fail
  refine hP.mono ?_
  rintro e w1 ⟨rfl, v1, h1, k1, l1⟩
  clear hP
  have hL := low_len h1
  have hlen : (((xs ++ [x]).length : Nat) : Int) = (xs.length : Int) + 1 := by simp
  rw [hlen] at hL
  have hU : Hid (Calls Tryz.prog 180 #[.iface 212 (.pointer (some ⟨hb, 0, none⟩)), .int .i64 (xs.length : Int)] w1 fun e w' => PushPost w hb v (xs ++ [x]) e w') := by
    refine (heap_up (xs := xs ++ [x]) (j0 := xs.length) ⟨xs ++ [x], by simp, List.Perm.refl _, UpInv.start hh, h1, Keeps.refl _ _⟩ (by simp; omega)).mono ?_
    rintro e w2 ⟨rfl, ys, p2, hy, h2, k2⟩
    exact ⟨rfl, ys, p2, hy, HeapTurned.then k1 l1 h2 k2⟩
  clear h1 k1 l1 hlen hh
  go_wp2_with fail
  refine hL.mono ?_
  rintro e w2 ⟨rfl, rfl⟩
  have hU := hU.out
  clear hL
  go_wp2_with fail
  refine hU.mono ?_
  intro e w3 hp
  have he := hp.1
  subst he
  have HP := hide hp
  clear hU hp
  go_wp2_with fail
  go_end0
  exact HP.out
end Go.Proofs.YtgckinldnnckoaaGreatDoor
/-
  A block is laid among the free ones: the data.
-/
namespace Go.Proofs.YtgckinldnnckoaaGreatDoor
open Go.RowKit Go.Shelf

def AD.freed (d : AD) (x : Int) (ys : List Int) : AD := { d with fm := upd d.fm x (some ys) }
def fupd (fv : Int → Value) (x : Int) (v : Value) : Int → Value := fun y => if y = x then v else fv y
theorem fupd_same (fv : Int → Value) (x : Int) (v : Value) : fupd fv x v x = v := by simp [fupd]
theorem fupd_other (fv : Int → Value) (x y : Int) (v : Value) (h : y ≠ x) : fupd fv x v y = fv y := by simp [fupd, h]

/-- A heap's head is no row. -/
theorem HeapAt.row_ne {w : World} {b b' : Nat} {v v' : Value} {xs xs' : List Int} (h : HeapAt w b v xs) (h' : HeapAt w b' v' xs') : v.ownBlock ≠ some b' := fun e => by
  obtain ⟨cur, hc⟩ := own_obj h.row e
  exact ne_of_obj h'.hp hc (by simp) rfl

/-- A heap has turned. -/
theorem ArenaAt.heap_turned' {w w' : World} {p : Nat} {c : AR} {d : AD} (h : ArenaAt w p c d) {x : Int} {b : Nat} (hb : c.hb x = some b) {ys : List Int} (hy : Heapy ys.length ys) (ht : HeapTurned w b (c.fv x) ys w') :
    ∃ v', (∀ zs : List Int, ys.Perm zs → ArenaAt w' p { c with fv := fupd c.fv x v' } (d.freed x zs)) ∧ Keeps w w' (c.foot p) ∧ ∀ k, ({ c with fv := fupd c.fv x v' } : AR).foot p k → c.foot p k ∨ w.heap.size ≤ k := by
  obtain ⟨v', h1, k1, l1⟩ := ht
  obtain ⟨xs, ys0, hxs, _, ha, _⟩ := h.heaps.some_of hb
  have hS : ∀ k, (k = b ∨ (c.fv x).ownBlock = some k) → heapsFoot c.hb c.fv k := fun k hk => ⟨x, b, hb, hk⟩
  have hne : ∀ k, (k = b ∨ (c.fv x).ownBlock = some k) → k ≠ p ∧ k ≠ c.b ∧ k ≠ c.g ∧ k ≠ c.bl ∧ k ≠ c.bf ∧ c.v.ownBlock ≠ some k := fun k hk => h.heap_ne (hS k hk)
  have hnew : ∀ k, v'.ownBlock = some k → (c.fv x).ownBlock = some k ∨ w.heap.size ≤ k := fun k hk => by
    rcases l1 with e | ⟨k', e, hk'⟩
    · exact Or.inl (e ▸ hk)
    · rw [e] at hk
      cases hk
      exact Or.inr hk'
  have hlt : ∀ k, heapsFoot c.hb c.fv k → k < w.heap.size := fun k hk => h.foot_lt (Or.inr (Or.inr (Or.inr (Or.inr (Or.inr (Or.inr hk))))))
  have hvlt : ∀ k, c.v.ownBlock = some k → k < w.heap.size := fun k hk => h.foot_lt (Or.inr (Or.inr (Or.inr (Or.inr (Or.inr (Or.inl hk))))))
  refine ⟨v', fun zs hyz => ⟨?_, ?_, ?_, ?_, ?_, h.hlf, ?_, ?_, ?_, ?_⟩, k1.mono (fun i _ e => Or.inr (Or.inr (Or.inr (Or.inr (Or.inr (Or.inr (hS i e))))))), ?_⟩
  · exact (k1.block p (heap_lt h.hp) (fun e => (hne p e).1 rfl)).trans h.hp
  · exact h.mem.keeps k1 (fun e => (hne _ e).2.1 rfl) (fun e => (hne _ e).2.2.1 rfl)
  · exact ownsRow_keeps h.beg k1 (fun k hk e => (hne k e).2.2.2.2.2 hk)
  · exact h.live.keeps k1 (fun e => (hne _ e).2.2.2.1 rfl)
  · exact h.free.keeps k1 (fun e => (hne _ e).2.2.2.2.1 rfl)
  · intro y
    show (c.hb y).isSome = (upd d.fm x (some zs) y).isSome
    by_cases e : y = x
    · subst e
      rw [upd_same, hb]
      rfl
    · rw [upd_other _ _ _ _ e]
      exact h.heaps.dom y
  · intro y b' ts hb0 hz0
    have hz : upd d.fm x (some zs) y = some ts := hz0
    have hb' : c.hb y = some b' := hb0
    show ∃ us : List Int, us.Perm ts ∧ HeapAt w' b' (fupd c.fv x v' y) us ∧ Heapy us.length us
    clear hz0 hb0
    by_cases e : y = x
    · subst e
      rw [upd_same] at hz
      cases hz
      rw [hb] at hb'
      cases hb'
      rw [fupd_same]
      exact ⟨ys, hyz, h1, hy⟩
    · rw [upd_other _ _ _ _ e] at hz
      rw [fupd_other _ _ _ _ e]
      have hap := h.heaps.apart y x b' b e hb' hb
      obtain ⟨us, g1, g2, g3⟩ := h.heaps.heap y b' ts hb' hz
      refine ⟨us, g1, g2.keeps k1 (fun e1 => ?_) (fun k hk e1 => ?_), g3⟩
      · rcases e1 with e1 | e1
        · exact hap.1 e1
        · exact ha.row_ne g2 e1
      · rcases e1 with e1 | e1
        · subst e1
          exact g2.row_ne ha hk
        · exact hap.2 k hk e1
  · intro y b' k hb' hk
    have hb' : c.hb y = some b' := hb'
    have hk : (fupd c.fv x v' y).ownBlock = some k := hk
    by_cases e : y = x
    · subst e
      rw [fupd_same] at hk
      rcases hnew k hk with e1 | e1
      · exact h.heaps.row y b' k hb' e1
      · exact fun e2 => by have := hvlt k e2; omega
    · rw [fupd_other _ _ _ _ e] at hk
      exact h.heaps.row y b' k hb' hk
  · intro y z b1 b2 hyz hb1 hb2
    have hb1 : c.hb y = some b1 := hb1
    have hb2 : c.hb z = some b2 := hb2
    have hap := h.heaps.apart y z b1 b2 hyz hb1 hb2
    refine ⟨hap.1, fun k hk0 hk20 => ?_⟩
    have hk : (fupd c.fv x v' y).ownBlock = some k := hk0
    have hk2 : (fupd c.fv x v' z).ownBlock = some k := hk20
    clear hk0 hk20
    by_cases e : y = x
    · subst e
      rw [fupd_same] at hk
      rw [fupd_other _ _ _ _ (fun e => hyz e.symm)] at hk2
      rcases hnew k hk with e1 | e1
      · exact hap.2 k e1 hk2
      · have := hlt k ⟨z, b2, hb2, Or.inr hk2⟩
        omega
    · rw [fupd_other _ _ _ _ e] at hk
      by_cases e2 : z = x
      · subst e2
        rw [fupd_same] at hk2
        rcases hnew k hk2 with e1 | e1
        · exact hap.2 k hk e1
        · have := hlt k ⟨y, b1, hb1, Or.inr hk⟩
          omega
      · rw [fupd_other _ _ _ _ e2] at hk2
        exact hap.2 k hk hk2
  · intro k hk
    rcases hk with e | e | e | e | e | e | ⟨y, b', hb', hk⟩
    · exact Or.inl (Or.inl e)
    · exact Or.inl (Or.inr (Or.inl e))
    · exact Or.inl (Or.inr (Or.inr (Or.inl e)))
    · exact Or.inl (Or.inr (Or.inr (Or.inr (Or.inl e))))
    · exact Or.inl (Or.inr (Or.inr (Or.inr (Or.inr (Or.inl e)))))
    · exact Or.inl (Or.inr (Or.inr (Or.inr (Or.inr (Or.inr (Or.inl e))))))
    · have hb' : c.hb y = some b' := hb'
      have hk : k = b' ∨ (fupd c.fv x v' y).ownBlock = some k := hk
      have hin : ∀ k, heapsFoot c.hb c.fv k → c.foot p k := fun k hk => Or.inr (Or.inr (Or.inr (Or.inr (Or.inr (Or.inr hk)))))
      rcases hk with e | e
      · exact Or.inl (hin _ ⟨y, b', hb', Or.inl e⟩)
      · by_cases e2 : y = x
        · subst e2
          rw [fupd_same] at e
          rcases hnew k e with e1 | e1
          · exact Or.inl (hin _ ⟨y, b', hb', Or.inr e1⟩)
          · exact Or.inr e1
        · rw [fupd_other _ _ _ _ e2] at e
          exact Or.inl (hin _ ⟨y, b', hb', Or.inr e⟩)

/-- A new heap, still empty. -/
theorem ArenaAt.heap_new {w w' : World} {p : Nat} {c : AR} {d : AD} (h : ArenaAt w p c d) {x : Int} (hx : d.fm x = none) {b : Nat} {v' : Value} {nf : Nat} (k1 : Keeps w w' (fun i => i = c.bf)) (hf : MapTo Tryz.prog cPtr w' c.bf nf (upd c.hb x (some b)))
    (hb : HeapAt w' b v' []) (hbn : w.heap.size ≤ b) (hvn : ∀ k, v'.ownBlock = some k → w.heap.size ≤ k) :
    ArenaAt w' p { c with nf := nf, hb := upd c.hb x (some b), fv := fupd c.fv x v' } (d.freed x []) ∧ Keeps w w' (c.foot p) ∧ ∀ k, ({ c with nf := nf, hb := upd c.hb x (some b), fv := fupd c.fv x v' } : AR).foot p k → c.foot p k ∨ w.heap.size ≤ k := by
  have hlt : ∀ k, heapsFoot c.hb c.fv k → k < w.heap.size := fun k hk => h.foot_lt (Or.inr (Or.inr (Or.inr (Or.inr (Or.inr (Or.inr hk))))))
  have hvlt : ∀ k, c.v.ownBlock = some k → k < w.heap.size := fun k hk => h.foot_lt (Or.inr (Or.inr (Or.inr (Or.inr (Or.inr (Or.inl hk))))))
  have hnone := h.heaps.none_of hx
  refine ⟨⟨?_, ?_, ?_, ?_, hf, h.hlf, ?_, ?_, ?_, ?_⟩, k1.mono (fun i _ e => Or.inr (Or.inr (Or.inr (Or.inr (Or.inl e))))), ?_⟩
  · exact (k1.block p (heap_lt h.hp) h.p_bf).trans h.hp
  · exact h.mem.keeps k1 h.bf_b.symm h.bf_g.symm
  · exact ownsRow_keeps h.beg k1 (fun k hk e => h.bf_v hk e.symm)
  · exact h.live.keeps k1 h.hlf
  · intro y
    show (upd c.hb x (some b) y).isSome = (upd d.fm x (some []) y).isSome
    by_cases e : y = x
    · subst e
      rw [upd_same, upd_same]
      rfl
    · rw [upd_other _ _ _ _ e, upd_other _ _ _ _ e]
      exact h.heaps.dom y
  · intro y b' zs hb0 hz0
    have hz : upd d.fm x (some []) y = some zs := hz0
    have hb' : upd c.hb x (some b) y = some b' := hb0
    show ∃ us : List Int, us.Perm zs ∧ HeapAt w' b' (fupd c.fv x v' y) us ∧ Heapy us.length us
    clear hz0 hb0
    by_cases e : y = x
    · subst e
      rw [upd_same] at hz hb'
      cases hz
      cases hb'
      rw [fupd_same]
      exact ⟨[], List.Perm.refl _, hb, fun k _ hk => by simp at hk⟩
    · rw [upd_other _ _ _ _ e] at hz hb'
      rw [fupd_other _ _ _ _ e]
      obtain ⟨us, g1, g2, g3⟩ := h.heaps.heap y b' zs hb' hz
      exact ⟨us, g1, g2.keeps k1 (fun e1 => (h.heap_ne ⟨y, b', hb', Or.inl rfl⟩).2.2.2.2.1 e1) (fun k hk e1 => (h.heap_ne ⟨y, b', hb', Or.inr hk⟩).2.2.2.2.1 e1), g3⟩
  · intro y b' k hb0 hk0
    have hb' : upd c.hb x (some b) y = some b' := hb0
    have hk : (fupd c.fv x v' y).ownBlock = some k := hk0
    clear hb0 hk0
    by_cases e : y = x
    · subst e
      rw [fupd_same] at hk
      exact fun e2 => by have := hvlt k e2; have := hvn k hk; omega
    · rw [fupd_other _ _ _ _ e] at hk
      rw [upd_other _ _ _ _ e] at hb'
      exact h.heaps.row y b' k hb' hk
  · intro y z b1 b2 hyz hb10 hb20
    have hb1 : upd c.hb x (some b) y = some b1 := hb10
    have hb2 : upd c.hb x (some b) z = some b2 := hb20
    show b1 ≠ b2 ∧ ∀ k, (fupd c.fv x v' y).ownBlock = some k → (fupd c.fv x v' z).ownBlock ≠ some k
    clear hb10 hb20
    by_cases e : y = x
    · subst e
      have hzy : z ≠ y := fun e => hyz e.symm
      rw [upd_same] at hb1
      rw [upd_other _ _ _ _ hzy] at hb2
      rw [fupd_same, fupd_other _ _ _ _ hzy]
      cases hb1
      refine ⟨fun e => ?_, fun k hk hk2 => ?_⟩
      · have := hlt b2 ⟨z, b2, hb2, Or.inl rfl⟩
        omega
      · have := hlt k ⟨z, b2, hb2, Or.inr hk2⟩
        have := hvn k hk
        omega
    · rw [upd_other _ _ _ _ e] at hb1
      rw [fupd_other _ _ _ _ e]
      by_cases e2 : z = x
      · subst e2
        rw [upd_same] at hb2
        rw [fupd_same]
        cases hb2
        refine ⟨fun e => ?_, fun k hk hk2 => ?_⟩
        · have := hlt b1 ⟨y, b1, hb1, Or.inl rfl⟩
          omega
        · have := hlt k ⟨y, b1, hb1, Or.inr hk⟩
          have := hvn k hk2
          omega
      · rw [upd_other _ _ _ _ e2] at hb2
        rw [fupd_other _ _ _ _ e2]
        exact h.heaps.apart y z b1 b2 hyz hb1 hb2
  · intro k hk
    have hin : ∀ k, heapsFoot c.hb c.fv k → c.foot p k := fun k hk => Or.inr (Or.inr (Or.inr (Or.inr (Or.inr (Or.inr hk)))))
    rcases hk with e | e | e | e | e | e | ⟨y, b', hb0, hk0⟩
    · exact Or.inl (Or.inl e)
    · exact Or.inl (Or.inr (Or.inl e))
    · exact Or.inl (Or.inr (Or.inr (Or.inl e)))
    · exact Or.inl (Or.inr (Or.inr (Or.inr (Or.inl e))))
    · exact Or.inl (Or.inr (Or.inr (Or.inr (Or.inr (Or.inl e)))))
    · exact Or.inl (Or.inr (Or.inr (Or.inr (Or.inr (Or.inr (Or.inl e))))))
    · have hb' : upd c.hb x (some b) y = some b' := hb0
      have hk : k = b' ∨ (fupd c.fv x v' y).ownBlock = some k := hk0
      clear hb0 hk0
      by_cases e : y = x
      · subst e
        rw [upd_same] at hb'
        rw [fupd_same] at hk
        cases hb'
        rcases hk with e | e
        · exact Or.inr (by omega)
        · exact Or.inr (hvn k e)
      · rw [upd_other _ _ _ _ e] at hb'
        rw [fupd_other _ _ _ _ e] at hk
        exact Or.inl (hin _ ⟨y, b', hb', hk⟩)
end Go.Proofs.YtgckinldnnckoaaGreatDoor
