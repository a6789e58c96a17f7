import Derived.WalkKit
import Derived.Below
import Derived.Test.YtgckinldnnckoaaGreatDoorRows
import Derived.Outline
import Derived.Deep.RegionHeld3
import Derived.Test.YtgckinldnnckoaaGreatDoorUn11
/-
  small: Put of a new key, Delete.
-/
namespace Go.Proofs.YtgckinldnnckoaaGreatDoor
open Go.RowKit Go.Shelf Ly Ct
set_option linter.unusedVariables false
section
variable {w : World} {p : Nat} {F : Nat → Prop} {d : AD} {l : Lay} {off : Nat} {f : Nat → Int} {c : Nat → GC}

set_option maxRecDepth 100000 in
set_option maxHeartbeats 2000000 in
/-- Put of a key that is not there: it takes the lowest empty slot. -/
theorem sput_new (hA : Arena w p F d) (hF : d.Fine) (hSm : d.small) (hFl : ∀ k, F k → k < w.heap.size) (h : SmD d l off f c) (hT : TabAt w) (tag : Int) (key elem : ByteArray) (birth : Int) (h0 : 0 ≤ tag) (h1 : tag ≤ 127) (hk : (key.size : Int) = l.k) (he : (elem.size : Int) = l.e) (hb0 : 0 ≤ birth) (hb1 : birth ≤ 9223372036854775807) (h8 : low (mtC c tag key) 8 = 8) (hE : empL c < 8) (hu0 : 0 ≤ f 3) (hu8 : f 3 ≤ 8) :
    Calls Tryz.prog 32 #[.agg #[.pointer (some ⟨p, 0, none⟩), .int .i64 l.k, .int .i64 l.e, .int .i64 l.a, .int .i64 l.b, .int .i64 l.c, .int .i64 l.eo, .int .i64 l.bo, .int .i64 l.s, .int .i64 l.g, .int .i64 (off : Int)], .int .i64 tag, .string key, .string elem, .int .i64 birth] w fun e w' => e = .returned (.tuple #[.int .i64 2, .int .i64 0]) ∧ SmT w w' p F d l off (updI f 3 (f 3 + 1)) (updC c (empL c) (GC.full tag key elem birth)) := by
  have ho := h.off_le hF
  have hv := valid_more h.grp.valid
  have hK := fun W (k : Keeps w W (fun _ => False)) => skeyed_any (hA.keeps k (fun _ _ _ e => e)) hF h key hk
  have hS := fun W (k : Keeps w W (fun _ => False)) => sslot_any (hA.keeps k (fun _ _ _ e => e)) hF h (hT.kp (k.below (Nat.le_refl _) (fun _ _ e => e))) tag key h0 h1 hk
  unfold sltI at hS
  rw [if_pos h8] at hS
  have hM := fun W (k : Keeps w W (fun _ => False)) => sempty_any (hA.keeps k (fun _ _ _ e => e)) hF h
  unfold empI at hM
  rw [if_neg (by omega)] at hM
  have hG := fun W => sgroup_any p l (off : Int) W (by omega) (by omega)
  have HFi : Hid (∀ W (k : Keeps w W (fun _ => False)), Calls Tryz.prog 63 #[.agg #[.pointer (some ⟨p, 0, none⟩), .int .i64 l.k, .int .i64 l.e, .int .i64 l.a, .int .i64 l.b, .int .i64 l.c, .int .i64 l.eo, .int .i64 l.bo, .int .i64 l.s, .int .i64 l.g, .int .i64 ((off : Int) + 32)], .int .i64 ((empL c : Nat) : Int), .int .i64 tag, .string key, .string elem, .int .i64 birth] W fun e w' => e = .returned (.int .i64 0) ∧ SmT W w' p F d l off f (updC c (empL c) (GC.full tag key elem birth))) := fun W k => by
    have hcall := gfill_any (hA.keeps k (fun _ _ _ e => e)) hF hSm (fun i hi => Nat.lt_of_lt_of_le (hFl i hi) k.size) l ((off + 32 : Nat) : Int) ((empL c : Nat) : Int) tag key elem birth hb1 (fitsI_mk (by omega) (by omega)) (fitsI_mk (by omega) (by omega))
    obtain ⟨r1, r2, r3⟩ := h.grp.fill hE h0 h1 hk he hb0 hb1
    rw [r1] at hcall
    refine hcall.mono ?_
    rintro e w' ⟨rfl, hT⟩
    exact ⟨rfl, _, hT, r3.wide (by omega) (by omega), h.turn r2 r3⟩
  have heb : (((elem.size : Nat) : Int) != l.e) = false := by simp [he]
  have hb' : ¬ birth < 0 := by omega
  have hn0 : ¬ ((empL c : Nat) : Int) < 0 := by omega
  have hnB : ¬ F w.heap.size := fun q => Nat.lt_irrefl _ (hFl _ q)
  obtain ⟨cc, hcc⟩ : ∃ cc, updC c (empL c) (GC.full tag key elem birth) = cc := ⟨_, rfl⟩
  rw [hcc] at HFi ⊢
  generalize ((empL c : Nat) : Int) = lw at *
  unfold statS at hK
  have HFF := hide (And.intro hF hFl)
  clear hA h hv hT hcc h8 hk he hb0 ho hF hFl
  generalize (off : Int) + 32 = y at *
  obtain ⟨f3, hf3⟩ : ∃ f3, f 3 = f3 := ⟨_, rfl⟩
  obtain ⟨ff, hff⟩ : ∃ ff, updI f 3 (f 3 + 1) = ff := ⟨_, rfl⟩
  have HSE : Hid (∀ (W W' : World) d1 (F' : Nat → Prop), Arena W p F' d1 → d1.Fine → (∀ k, F' k → k < W.heap.size) → SmD d1 l off f cc → Calls Tryz.prog 48 #[.agg #[.pointer (some ⟨p, 0, none⟩), .int .i64 l.k, .int .i64 l.e, .int .i64 l.a, .int .i64 l.b, .int .i64 l.c, .int .i64 l.eo, .int .i64 l.bo, .int .i64 l.s, .int .i64 l.g, .int .i64 (off : Int)], .int .i64 3, .int .i64 (f3 + 1)] W fun e w' => e = .returned (.int .i64 0) ∧ HeadS W p F' d1 l off ff cc w') := fun W W' d1 F' a b e g => by
    have := sset_sm a b e g 3 (by omega) (f 3 + 1) (fitsI_mk (by omega) (by omega))
    rw [hf3] at this
    rw [← hff, hf3]
    exact this
  rw [hff]
  rw [hf3] at hK hu0 hu8
  clear hff hf3
  have hw1 : wrap64 (f3 + 1) = f3 + 1 := by unfold wrap64; omega
  have hw2 : IntKind.i64.wrap (f3 + 1) = f3 + 1 := by rw [IntKind.wrap_i64]; omega
  have Hw := hide (And.intro hw1 hw2)
  clear hw1 hw2 hu0 hu8
  generalize f 0 = f0 at *
  generalize f 1 = f1 at *
  generalize f 2 = f2 at *
  go_enter Tryz.func32, Tryz.ntmps32
  go_wp2_with fail
  refine alloc1 (P := fun W => Calls _ _ _ W _) fun W0 hb hz K0 => ?_
  (with_reducible refine (hK _ K0).mono ?_)
  rintro r w1 ⟨rfl, k1⟩
  have K1 : Keeps w w1 (fun _ => False) := K0.trans k1 (fun _ _ e => e)
  have k2 : Keeps w1 (w1.alloc (.cells #[.int .i64 f3, .int .i64 f1, .int .i64 f2, .bool (f0 == 3)] 51)) (fun _ => False) := (Keeps.refl _ _).alloc _
  have hb2 := k2.blk (k1.blk hb)
  have hst2 := heap_alloc_new w1 (.cells #[.int .i64 f3, .int .i64 f1, .int .i64 f2, .bool (f0 == 3)] 51)
  obtain ⟨c0, c1, c2, c3, c4, c5, c6, c7, c8, c9, c10⟩ := c11_of hb2
  have K2 : Keeps w (w1.alloc (.cells #[.int .i64 f3, .int .i64 f1, .int .i64 f2, .bool (f0 == 3)] 51)) (fun _ => False) := K1.trans k2 (fun _ _ e => e)
  have hS2 := hS _ K2
  have hnS : ¬ F w1.heap.size := fun q => by have := HFF.out.2 _ q; have := K1.size; omega
  clear hK hS
  go_wp2_with fail
  (with_reducible refine hS2.mono ?_)
  rintro r w3 ⟨rfl, k3⟩
  have K3 : Keeps w w3 (fun _ => False) := K2.trans k3 (fun _ _ e => e)
  obtain ⟨c0, c1, c2, c3, c4, c5, c6, c7, c8, c9, c10⟩ := c11_of (k3.blk hb2)
  have hM3 := hM _ K3
  clear hS2 hM
  go_wp2_with fail
  (with_reducible refine hM3.mono ?_)
  rintro r w4 ⟨rfl, k4⟩
  have K4 : Keeps w w4 (fun _ => False) := K3.trans k4 (fun _ _ e => e)
  obtain ⟨c0, c1, c2, c3, c4, c5, c6, c7, c8, c9, c10⟩ := c11_of (k4.blk (k3.blk hb2))
  clear hM3
  go_wp2_with fail
  (with_reducible refine (hG _).mono ?_)
  rintro r w5 ⟨rfl, k5⟩
  have K5 : Keeps w w5 (fun _ => False) := K4.trans k5 (fun _ _ e => e)
  have hb5 := k5.blk (k4.blk (k3.blk hb2))
  have hst5 := k5.blk (k4.blk (k3.blk hst2))
  have hF5 := HFi.out _ K5
  clear hG HFi c0 c1 c2 c3 c4 c5 c6 c7 c8 c9 c10
  go_wp2_with fail
  (with_reducible refine hF5.mono ?_)
  rintro r w6 ⟨rfl, d1, hT1, ht1, h1⟩
  have hb6 := (hT1.2.block w.heap.size (heap_lt hb5) hnB).trans hb5
  have hst6 := (hT1.2.block w1.heap.size (heap_lt hst5) hnS).trans hst5
  obtain ⟨c0, c1, c2, c3, c4, c5, c6, c7, c8, c9, c10⟩ := c11_of hb6
  obtain ⟨⟨t0, t1, t2, t3⟩, -⟩ := st4_cells hst6
  have hSe := HSE.out _ w6 _ _ hT1.arena (ht1.fine HFF.out.1) (fun _ q => q.2) h1
  have HT := hide hT1
  have HT1 := hide ht1
  obtain ⟨a6, a7⟩ := Hw.out
  clear hF5 hT1 h1 ht1 HSE hb5 hst5 hst2
  go_wp2_with fail
  (with_reducible refine hSe.mono ?_)
  rintro r w7 ⟨rfl, d2, hT2, hF2, h2, ht2⟩
  have HP : Hid (SmT w w7 p F d l off ff cc) := ⟨d2, Turned.pre K5 (HT.out.then hT2), HT1.out.trans (ht2.wide (Nat.le_refl _) (by omega)), h2⟩
  clear hSe hT2 h2 ht2 HT HT1 c0 c1 c2 c3 c4 c5 c6 c7 c8 c9 c10
  go_wp2_with fail
  go_ret2
  exact ⟨rfl, HP.out⟩

set_option maxRecDepth 100000 in
set_option maxHeartbeats 2000000 in
/-- Delete of a key that is not there. -/
theorem sdelete_no (hA : Arena w p F d) (hF : d.Fine) (h : SmD d l off f c) (hT : TabAt w) (tag : Int) (key : ByteArray) (h0 : 0 ≤ tag) (h1 : tag ≤ 127) (hk : (key.size : Int) = l.k) (h8 : low (mtC c tag key) 8 = 8) :
    Calls Tryz.prog 33 #[.agg #[.pointer (some ⟨p, 0, none⟩), .int .i64 l.k, .int .i64 l.e, .int .i64 l.a, .int .i64 l.b, .int .i64 l.c, .int .i64 l.eo, .int .i64 l.bo, .int .i64 l.s, .int .i64 l.g, .int .i64 (off : Int)], .int .i64 tag, .string key] w fun e w' => e = .returned (.tuple #[.bool false, .int .i64 0]) ∧ Keeps w w' (fun _ => False) := by
  have hK := fun W (k : Keeps w W (fun _ => False)) => skeyed_any (hA.keeps k (fun _ _ _ e => e)) hF h key hk
  have hS := fun W (k : Keeps w W (fun _ => False)) => sslot_any (hA.keeps k (fun _ _ _ e => e)) hF h (hT.kp (k.below (Nat.le_refl _) (fun _ _ e => e))) tag key h0 h1 hk
  unfold sltI at hS
  rw [if_pos h8] at hS
  unfold statS at hK
  clear hA h hT h8 hk
  generalize f 0 = f0 at *
  generalize f 1 = f1 at *
  generalize f 2 = f2 at *
  generalize f 3 = f3 at *
  go_enter Tryz.func33, Tryz.ntmps33
  go_wp2_with fail
  refine alloc1 (P := fun W => Calls _ _ _ W _) fun W0 hb hz K0 => ?_
  (with_reducible refine (hK _ K0).mono ?_)
  rintro r w1 ⟨rfl, k1⟩
  have K1 : Keeps w w1 (fun _ => False) := K0.trans k1 (fun _ _ e => e)
  have k2 : Keeps w1 (w1.alloc (.cells #[.int .i64 f3, .int .i64 f1, .int .i64 f2, .bool (f0 == 3)] 51)) (fun _ => False) := (Keeps.refl _ _).alloc _
  have hb2 := k2.blk (k1.blk hb)
  obtain ⟨c0, c1, c2, c3, c4, c5, c6, c7, c8, c9, c10⟩ := c11_of hb2
  have K2 : Keeps w (w1.alloc (.cells #[.int .i64 f3, .int .i64 f1, .int .i64 f2, .bool (f0 == 3)] 51)) (fun _ => False) := K1.trans k2 (fun _ _ e => e)
  have hS2 := hS _ K2
  clear hK hS
  go_wp2_with fail
  (with_reducible refine hS2.mono ?_)
  rintro r w3 ⟨rfl, k3⟩
  have K3 : Keeps w w3 (fun _ => False) := K2.trans k3 (fun _ _ e => e)
  clear hS2 c0 c1 c2 c3 c4 c5 c6 c7 c8 c9 c10
  go_wp2_with fail
  go_ret2
  exact ⟨rfl, K3⟩

set_option maxRecDepth 100000 in
set_option maxHeartbeats 2000000 in
/-- Delete of a key that is there: its slot is empty. -/
theorem sdelete_yes (hA : Arena w p F d) (hF : d.Fine) (hFl : ∀ k, F k → k < w.heap.size) (h : SmD d l off f c) (hT : TabAt w) (tag : Int) (key : ByteArray) (h0 : 0 ≤ tag) (h1 : tag ≤ 127) (hk : (key.size : Int) = l.k) (h8 : ¬ low (mtC c tag key) 8 = 8) (hu0 : 0 ≤ f 3) (hu8 : f 3 ≤ 8) :
    Calls Tryz.prog 33 #[.agg #[.pointer (some ⟨p, 0, none⟩), .int .i64 l.k, .int .i64 l.e, .int .i64 l.a, .int .i64 l.b, .int .i64 l.c, .int .i64 l.eo, .int .i64 l.bo, .int .i64 l.s, .int .i64 l.g, .int .i64 (off : Int)], .int .i64 tag, .string key] w fun e w' => e = .returned (.tuple #[.bool true, .int .i64 0]) ∧ SmT w w' p F d l off (updI f 3 (f 3 - 1)) (updC c (low (mtC c tag key) 8) GC.zero) := by
  have ho := h.off_le hF
  have hv := valid_more h.grp.valid
  obtain ⟨hl8, -, -, -⟩ := low_full h8
  have hK := fun W (k : Keeps w W (fun _ => False)) => skeyed_any (hA.keeps k (fun _ _ _ e => e)) hF h key hk
  have hS := fun W (k : Keeps w W (fun _ => False)) => sslot_any (hA.keeps k (fun _ _ _ e => e)) hF h (hT.kp (k.below (Nat.le_refl _) (fun _ _ e => e))) tag key h0 h1 hk
  unfold sltI at hS
  rw [if_neg h8] at hS
  have hG := fun W => sgroup_any p l (off : Int) W (by omega) (by omega)
  have HFi : Hid (∀ W (k : Keeps w W (fun _ => False)), Calls Tryz.prog 64 #[.agg #[.pointer (some ⟨p, 0, none⟩), .int .i64 l.k, .int .i64 l.e, .int .i64 l.a, .int .i64 l.b, .int .i64 l.c, .int .i64 l.eo, .int .i64 l.bo, .int .i64 l.s, .int .i64 l.g, .int .i64 ((off : Int) + 32)], .int .i64 ((low (mtC c tag key) 8 : Nat) : Int), .bool false] W fun e w' => e = .returned (.int .i64 0) ∧ SmT W w' p F d l off f (updC c (low (mtC c tag key) 8) GC.zero)) := fun W k => by
    have hcall := gerase_any (hA.keeps k (fun _ _ _ e => e)) hF (fun i hi => Nat.lt_of_lt_of_le (hFl i hi) k.size) l ((off + 32 : Nat) : Int) ((low (mtC c tag key) 8 : Nat) : Int) false (fitsI_mk (by omega) (by omega)) (fitsI_mk (by omega) (by omega))
    obtain ⟨r1, r2, r3⟩ := h.grp.erase hl8 false
    rw [r1] at hcall
    refine hcall.mono ?_
    rintro e w' ⟨rfl, hT⟩
    exact ⟨rfl, _, hT, r3.wide (by omega) (by omega), h.turn r2 r3⟩
  have hn0 : ¬ ((low (mtC c tag key) 8 : Nat) : Int) < 0 := by omega
  have hnB : ¬ F w.heap.size := fun q => Nat.lt_irrefl _ (hFl _ q)
  obtain ⟨cc, hcc⟩ : ∃ cc, updC c (low (mtC c tag key) 8) GC.zero = cc := ⟨_, rfl⟩
  rw [hcc] at HFi ⊢
  generalize ((low (mtC c tag key) 8 : Nat) : Int) = lw at *
  unfold statS at hK
  have HFF := hide (And.intro hF hFl)
  clear hA h hv hT hcc h8 hk ho hF hFl hl8
  generalize (off : Int) + 32 = y at *
  obtain ⟨f3, hf3⟩ : ∃ f3, f 3 = f3 := ⟨_, rfl⟩
  obtain ⟨ff, hff⟩ : ∃ ff, updI f 3 (f 3 - 1) = ff := ⟨_, rfl⟩
  have HSE : Hid (∀ (W W' : World) d1 (F' : Nat → Prop), Arena W p F' d1 → d1.Fine → (∀ k, F' k → k < W.heap.size) → SmD d1 l off f cc → Calls Tryz.prog 48 #[.agg #[.pointer (some ⟨p, 0, none⟩), .int .i64 l.k, .int .i64 l.e, .int .i64 l.a, .int .i64 l.b, .int .i64 l.c, .int .i64 l.eo, .int .i64 l.bo, .int .i64 l.s, .int .i64 l.g, .int .i64 (off : Int)], .int .i64 3, .int .i64 (f3 - 1)] W fun e w' => e = .returned (.int .i64 0) ∧ HeadS W p F' d1 l off ff cc w') := fun W W' d1 F' a b e g => by
    have := sset_sm a b e g 3 (by omega) (f 3 - 1) (fitsI_mk (by omega) (by omega))
    rw [hf3] at this
    rw [← hff, hf3]
    exact this
  rw [hff]
  rw [hf3] at hK hu0 hu8
  clear hff hf3
  have hw1 : wrap64 (f3 - 1) = f3 - 1 := by unfold wrap64; omega
  have hw2 : IntKind.i64.wrap (f3 - 1) = f3 - 1 := by rw [IntKind.wrap_i64]; omega
  have Hw := hide (And.intro hw1 hw2)
  clear hw1 hw2 hu0 hu8
  generalize f 0 = f0 at *
  generalize f 1 = f1 at *
  generalize f 2 = f2 at *
  go_enter Tryz.func33, Tryz.ntmps33
  go_wp2_with fail
  refine alloc1 (P := fun W => Calls _ _ _ W _) fun W0 hb hz K0 => ?_
  (with_reducible refine (hK _ K0).mono ?_)
  rintro r w1 ⟨rfl, k1⟩
  have K1 : Keeps w w1 (fun _ => False) := K0.trans k1 (fun _ _ e => e)
  have k2 : Keeps w1 (w1.alloc (.cells #[.int .i64 f3, .int .i64 f1, .int .i64 f2, .bool (f0 == 3)] 51)) (fun _ => False) := (Keeps.refl _ _).alloc _
  have hb2 := k2.blk (k1.blk hb)
  have hst2 := heap_alloc_new w1 (.cells #[.int .i64 f3, .int .i64 f1, .int .i64 f2, .bool (f0 == 3)] 51)
  obtain ⟨c0, c1, c2, c3, c4, c5, c6, c7, c8, c9, c10⟩ := c11_of hb2
  have K2 : Keeps w (w1.alloc (.cells #[.int .i64 f3, .int .i64 f1, .int .i64 f2, .bool (f0 == 3)] 51)) (fun _ => False) := K1.trans k2 (fun _ _ e => e)
  have hS2 := hS _ K2
  have hnS : ¬ F w1.heap.size := fun q => by have := HFF.out.2 _ q; have := K1.size; omega
  clear hK hS
  go_wp2_with fail
  (with_reducible refine hS2.mono ?_)
  rintro r w3 ⟨rfl, k3⟩
  have K3 : Keeps w w3 (fun _ => False) := K2.trans k3 (fun _ _ e => e)
  obtain ⟨c0, c1, c2, c3, c4, c5, c6, c7, c8, c9, c10⟩ := c11_of (k3.blk hb2)
  clear hS2
  go_wp2_with fail
  (with_reducible refine (hG _).mono ?_)
  rintro r w5 ⟨rfl, k5⟩
  have K5 : Keeps w w5 (fun _ => False) := K3.trans k5 (fun _ _ e => e)
  have hb5 := k5.blk (k3.blk hb2)
  have hst5 := k5.blk (k3.blk hst2)
  have hF5 := HFi.out _ K5
  clear hG HFi c0 c1 c2 c3 c4 c5 c6 c7 c8 c9 c10
  go_wp2_with fail
  (with_reducible refine hF5.mono ?_)
  rintro r w6 ⟨rfl, d1, hT1, ht1, h1⟩
  have hb6 := (hT1.2.block w.heap.size (heap_lt hb5) hnB).trans hb5
  have hst6 := (hT1.2.block w1.heap.size (heap_lt hst5) hnS).trans hst5
  obtain ⟨c0, c1, c2, c3, c4, c5, c6, c7, c8, c9, c10⟩ := c11_of hb6
  obtain ⟨⟨t0, t1, t2, t3⟩, -⟩ := st4_cells hst6
  have hSe := HSE.out _ w6 _ _ hT1.arena (ht1.fine HFF.out.1) (fun _ q => q.2) h1
  have HT := hide hT1
  have HT1 := hide ht1
  obtain ⟨a6, a7⟩ := Hw.out
  clear hF5 hT1 h1 ht1 HSE hb5 hst5 hst2
  go_wp2_with fail
  (with_reducible refine hSe.mono ?_)
  rintro r w7 ⟨rfl, d2, hT2, hF2, h2, ht2⟩
  have HP : Hid (SmT w w7 p F d l off ff cc) := ⟨d2, Turned.pre K5 (HT.out.then hT2), HT1.out.trans (ht2.wide (Nat.le_refl _) (by omega)), h2⟩
  clear hSe hT2 h2 ht2 HT HT1 c0 c1 c2 c3 c4 c5 c6 c7 c8 c9 c10
  go_wp2_with fail
  go_ret2
  exact ⟨rfl, HP.out⟩
end
end Go.Proofs.YtgckinldnnckoaaGreatDoor
/-
  SetNext, Retire, Pin.
-/
namespace Go.Proofs.YtgckinldnnckoaaGreatDoor
open Go.RowKit Go.Shelf Ly Ct
set_option linter.unusedVariables false

section
variable {w : World} {p : Nat} {F : Nat → Prop} {d : AD} {l : Lay} {off gr G : Nat} {f : Nat → Int} {c : Nat → GC}
/-- What a call leaves that lays words of the header alone. -/
def HeadPost (w : World) (p : Nat) (F : Nat → Prop) (d : AD) (l : Lay) (off gr G : Nat) (f : Nat → Int) (c : Nat → GC) (w' : World) : Prop := ∃ d', Turned w w' p F d' ∧ d'.Fine ∧ TabD d' l off gr G f c ∧ Touch d d' off 64
theorem tset_tab (hA : Arena w p F d) (hF : d.Fine) (hFl : ∀ k, F k → k < w.heap.size) (h : TabD d l off gr G f c) (i : Nat) (hi : i < 8) (v : Int) (hv : fitsI v) :
    Calls Tryz.prog 74 #[.agg #[.pointer (some ⟨p, 0, none⟩), .int .i64 l.k, .int .i64 l.e, .int .i64 l.a, .int .i64 l.b, .int .i64 l.c, .int .i64 l.eo, .int .i64 l.bo, .int .i64 l.s, .int .i64 l.g, .int .i64 (off : Int)], .int .i64 (i : Int), .int .i64 v] w fun e w' => e = .returned (.int .i64 0) ∧ HeadPost w p F d l off gr G (updI f i v) c w' := by
  have ho := h.off_le hF
  obtain ⟨e1, h1, h2⟩ := h.set hi hv
  have := tset_any hA hF hFl l (off : Int) (i : Int) v (by omega) (by omega) (by omega) (by omega)
  rw [e1] at this
  refine this.mono ?_
  rintro e w' ⟨rfl, hT⟩
  exact ⟨rfl, _, hT, h2.fine hF, h1, h2⟩
theorem tstat_tab (hA : Arena w p F d) (hF : d.Fine) (h : TabD d l off gr G f c) :
    Calls Tryz.prog 47 #[.agg #[.pointer (some ⟨p, 0, none⟩), .int .i64 l.k, .int .i64 l.e, .int .i64 l.a, .int .i64 l.b, .int .i64 l.c, .int .i64 l.eo, .int .i64 l.bo, .int .i64 l.s, .int .i64 l.g, .int .i64 (off : Int)]] w fun e w' => e = .returned (.tuple #[statV f, .int .i64 0]) ∧ Keeps w w' (fun _ => False) := by
  have ho := h.off_le hF
  have := stat_yes hA hF l off h.good ho.1
  have e : statV (hdr d off) = statV f := by
    unfold statV
    rw [h.head 0 (by omega), h.head 1 (by omega), h.head 2 (by omega), h.head 3 (by omega), h.head 4 (by omega), h.head 5 (by omega), h.head 6 (by omega), h.head 7 (by omega)]
  rw [e] at this
  exact this
end
end Go.Proofs.YtgckinldnnckoaaGreatDoor
/-
  What a call on a table leaves: only bytes of its two blocks are turned.
-/
namespace Go.Proofs.YtgckinldnnckoaaGreatDoor
open Go.RowKit Go.Shelf Ly Ct
set_option linter.unusedVariables false

/-- Only bytes of the header at off and of n bytes at gr are turned. -/
structure Alt (d d' : AD) (off gr n : Nat) : Prop where
  data : d' = d.bytes d'.bs
  len : d'.bs.length = d.bs.length
  out : ∀ j, j < off ∨ off + 64 ≤ j → j < gr ∨ gr + n ≤ j → d'.bs[j]? = d.bs[j]?
section
variable {d d1 d2 : AD} {l : Lay} {off gr n G : Nat} {f : Nat → Int} {c : Nat → GC}
theorem Alt.refl (d : AD) (off gr n : Nat) : Alt d d off gr n := ⟨rfl, rfl, fun _ _ _ => rfl⟩
theorem Alt.trans (h : Alt d d1 off gr n) (k : Alt d1 d2 off gr n) : Alt d d2 off gr n := ⟨by rw [k.data, h.data]; rfl, k.len.trans h.len, fun j h1 h2 => (k.out j h1 h2).trans (h.out j h1 h2)⟩
theorem Alt.head (h : Touch d d1 off 64) : Alt d d1 off gr n := ⟨h.data, h.len, fun j h1 _ => h.out j h1⟩
theorem Alt.grp {i g : Nat} (hi : i < G) (h : Touch d d1 (gr + i * g) g) : Alt d d1 off gr (G * g) := ⟨h.data, h.len, fun j _ h2 => h.out j (by
  have := mul_apart (s := g) hi
  have h3 : i * g + g ≤ G * g := by omega
  omega)⟩
theorem Alt.fine (h : Alt d d1 off gr n) (F : d.Fine) : d1.Fine := by
  rw [h.data]
  exact F.bytes h.len
theorem Alt.small (h : Alt d d1 off gr n) (F : d.small) : d1.small := by
  rw [h.data]
  exact F
/-- A table behind a call: the arena is turned, only in the table's two blocks, and it is that table. -/
def TabT (w w' : World) (p : Nat) (F : Nat → Prop) (d : AD) (l : Lay) (off gr G : Nat) (f : Nat → Int) (c : Nat → GC) : Prop := ∃ d', Turned w w' p F d' ∧ Alt d d' off gr (G * l.g.toNat) ∧ TabD d' l off gr G f c
end
section
variable {w w0 w1 w2 : World} {p : Nat} {F : Nat → Prop} {d : AD} {l : Lay} {off gr G : Nat} {f f1 f2 : Nat → Int} {c c1 c2 : Nat → GC}
theorem TabT.pre (k : Keeps w w0 (fun _ => False)) (h : TabT w0 w1 p F d l off gr G f c) : TabT w w1 p F d l off gr G f c := by
  obtain ⟨d', h1, h2, h3⟩ := h
  exact ⟨d', h1.pre k, h2, h3⟩
theorem TabT.post (h : TabT w w1 p F d l off gr G f c) (k : Keeps w1 w2 (fun _ => False)) : TabT w w2 p F d l off gr G f c := by
  obtain ⟨d', h1, h2, h3⟩ := h
  exact ⟨d', h1.post k, h2, h3⟩
theorem TabT.same (hA : Arena w p F d) (h : TabD d l off gr G f c) (k : Keeps w w1 (fun _ => False)) : TabT w w1 p F d l off gr G f c := ⟨d, hA.same k, Alt.refl _ _ _ _, h⟩
theorem updC_grp {k : Nat} (j : Nat) (hj : j < 8) (x : GC) : ∀ n, updG c k (updC (fun i => c (8 * k + i)) j x) n = if n = 8 * k + j then x else c n := fun n => by
  unfold updG updC
  by_cases e : n / 8 = k
  · rw [if_pos e]
    by_cases e2 : n = 8 * k + j
    · rw [if_pos e2, if_pos (by omega)]
    · rw [if_neg e2, if_neg (by omega)]
      show c (8 * k + n % 8) = c n
      rw [show 8 * k + n % 8 = n by omega]
  · rw [if_neg e, if_neg (by omega)]
end
/-- One cell is another. -/
def updN (c : Nat → GC) (s : Nat) (x : GC) : Nat → GC := fun n => if n = s then x else c n
theorem updG_updC (c : Nat → GC) (s : Nat) (x : GC) : updG c (s / 8) (updC (fun i => c (8 * (s / 8) + i)) (s % 8) x) = updN c s x := by
  funext n
  rw [updC_grp (s % 8) (by omega)]
  unfold updN
  rw [show 8 * (s / 8) + s % 8 = s by omega]
end Go.Proofs.YtgckinldnnckoaaGreatDoor
/-
  The order of a table's groups, as data: the document's words of chapter 7, as functions of numbers. Nothing here names the program.
-/
namespace Go.Proofs.YtgckinldnnckoaaGreatDoor.Pb
open Go.RowKit

theorem hide {p : Prop} (h : p) : Hid p := h

/-- A power of two from lo to hi. -/
def pw (n lo hi : Int) : Bool := decide (lo ≤ n ∧ n ≤ hi ∧ (n.toNat &&& (n.toNat - 1)) = 0)
theorem two_pow_of {n : Nat} (h0 : n ≠ 0) (h : n &&& (n - 1) = 0) : ∃ k, n = 2 ^ k := (Nat.and_sub_one_eq_zero_iff_isPowerOfTwo h0).1 h
theorem pow_and (k : Nat) : 2 ^ k &&& (2 ^ k - 1) = 0 := (Nat.and_sub_one_eq_zero_iff_isPowerOfTwo (by have := Nat.two_pow_pos k; omega)).2 ⟨k, rfl⟩
theorem pw_iff {n lo hi : Int} (hlo : 1 ≤ lo) : pw n lo hi = true ↔ lo ≤ n ∧ n ≤ hi ∧ ∃ k : Nat, n = ((2 ^ k : Nat) : Int) := by
  unfold pw
  rw [decide_eq_true_iff]
  constructor
  · rintro ⟨h1, h2, h3⟩
    obtain ⟨m, rfl⟩ := Int.eq_ofNat_of_zero_le (show 0 ≤ n by omega)
    obtain ⟨k, hk⟩ := two_pow_of (n := m) (by omega) h3
    exact ⟨h1, h2, k, by rw [hk]⟩
  · rintro ⟨h1, h2, k, rfl⟩
    exact ⟨h1, h2, pow_and k⟩
theorem and_pred (m : Nat) (h1 : 1 ≤ m) (h2 : m ≤ 1000000) : bits .and .i64 (m : Int) ((m : Int) - 1) = ((m &&& (m - 1) : Nat) : Int) := by
  have e : (m : Int) - 1 = ((m - 1 : Nat) : Int) := by omega
  rw [e]
  show IntKind.i64.wrap ((BitVec.ofInt 64 (m : Int) &&& BitVec.ofInt 64 ((m - 1 : Nat) : Int)).toNat : Int) = _
  have ha : (m &&& (m - 1)) ≤ m := Nat.and_le_left
  rw [BitVec.toNat_and, BitVec.ofInt_natCast, BitVec.ofInt_natCast, BitVec.toNat_ofNat, BitVec.toNat_ofNat, Nat.mod_eq_of_lt (by omega), Nat.mod_eq_of_lt (by omega), IntKind.wrap_i64]
  omega

/-- A number of groups that is valid. -/
theorem pwG {n : Int} (h : pw n 1 8192 = true) : ∃ k : Nat, k ≤ 13 ∧ n = ((2 ^ k : Nat) : Int) := by
  obtain ⟨h1, h2, k, rfl⟩ := (pw_iff (by omega)).1 h
  refine ⟨k, Nat.le_of_not_lt fun hk => ?_, rfl⟩
  have := Nat.pow_le_pow_right (n := 2) (by omega) (show 14 ≤ k by omega)
  omega
theorem pwG_pow {k : Nat} (h : k ≤ 13) : pw ((2 ^ k : Nat) : Int) 1 8192 = true := by
  refine (pw_iff (by omega)).2 ⟨?_, ?_, k, rfl⟩
  · have := Nat.two_pow_pos k; omega
  · have := Nat.pow_le_pow_right (n := 2) (by omega) h; omega
theorem pow_bounds {k : Nat} (h : k ≤ 13) : 1 ≤ 2 ^ k ∧ 2 ^ k ≤ 8192 := by
  have := Nat.two_pow_pos k
  have := Nat.pow_le_pow_right (n := 2) (by omega) h
  omega

/-- The group at step n. -/
def metN (h G n : Nat) : Nat := (h + n * (n + 1) / 2) % G
theorem metN_lt {h G n : Nat} (hG : 1 ≤ G) : metN h G n < G := Nat.mod_lt _ hG
theorem metN_zero (h G : Nat) : metN h G 0 = h % G := by simp [metN]
theorem tri_succ (n : Nat) : (n + 1) * (n + 1 + 1) / 2 = n * (n + 1) / 2 + (n + 1) := by
  have e : (n + 1) * (n + 1 + 1) = n * (n + 1) + (n + 1) * 2 := by
    rw [Nat.add_mul, Nat.mul_add, Nat.mul_add]; omega
  rw [e, Nat.add_mul_div_right _ _ (by omega)]
theorem metN_succ (h G n : Nat) : metN h G (n + 1) = (metN h G n + (n + 1)) % G := by
  unfold metN
  rw [tri_succ, Nat.mod_add_mod, Nat.add_assoc]
theorem tri_even (n : Nat) : n * (n + 1) / 2 * 2 = n * (n + 1) := by
  have h : n * (n + 1) % 2 = 0 := by
    rw [Nat.mul_mod]
    rcases Nat.mod_two_eq_zero_or_one n with h | h
    · rw [h, Nat.zero_mul]
    · rw [Nat.add_mod, h]
  omega
/-- Every home's remainder alone counts. -/
theorem metN_mod (h G n : Nat) : metN (h % G) G n = metN h G n := by
  unfold metN
  rw [Nat.mod_add_mod]
theorem wrap_mod {a k : Nat} (h : k ≤ 64) : a % 18446744073709551616 % 2 ^ k = a % 2 ^ k := by
  rw [show (18446744073709551616 : Nat) = 2 ^ 64 by rfl]
  exact Nat.mod_mod_of_dvd _ (Nat.pow_dvd_pow 2 h)

/-- Triangular numbers below a power of two are all different. -/
theorem odd_dvd {k a b : Nat} (ho : b % 2 = 1) (h : 2 ^ k ∣ a * b) : 2 ^ k ∣ a := by
  have hc : Nat.Coprime (2 ^ k) b := Nat.Coprime.pow_left k (by
    have : Nat.gcd 2 b = 1 := by rw [Nat.gcd_rec, ho]; rfl
    exact this)
  exact hc.dvd_of_dvd_mul_right h
theorem metN_lt_ne {h k m n : Nat} (hmn : m < n) (hn : n < 2 ^ k) : metN h (2 ^ k) m ≠ metN h (2 ^ k) n := by
  intro e
  unfold metN at e
  have hle : m * (m + 1) / 2 ≤ n * (n + 1) / 2 := Nat.div_le_div_right (Nat.mul_le_mul (by omega) (by omega))
  have hd : 2 ^ k ∣ (n * (n + 1) / 2 - m * (m + 1) / 2) := by
    have := Nat.dvd_of_mod_eq_zero (Nat.sub_mod_eq_zero_of_mod_eq e.symm)
    rwa [Nat.add_sub_add_left] at this
  have hd2 : 2 ^ (k + 1) ∣ (n - m) * (n + m + 1) := by
    have h1 : 2 ^ k * 2 ∣ (n * (n + 1) / 2 - m * (m + 1) / 2) * 2 := Nat.mul_dvd_mul_right hd 2
    have e1 : (n * (n + 1) / 2 - m * (m + 1) / 2) * 2 = (n - m) * (n + m + 1) := by
      rw [Nat.sub_mul, tri_even, tri_even]
      obtain ⟨d, rfl⟩ : ∃ d, n = m + d := ⟨n - m, by omega⟩
      rw [Nat.add_sub_cancel_left]
      have e2 : (m + d) * (m + d + 1) = m * (m + 1) + d * (m + d + m + 1) := by
        simp only [Nat.add_mul, Nat.mul_add, Nat.mul_one]
        have := Nat.mul_comm m d
        omega
      rw [e2, Nat.add_sub_cancel_left]
    rw [e1] at h1
    exact h1
  have hp : 2 ^ (k + 1) = 2 ^ k * 2 := Nat.pow_succ 2 k
  rcases Nat.mod_two_eq_zero_or_one (n - m) with h0 | h0
  · have ho : (n + m + 1) % 2 = 1 := by omega
    have := Nat.le_of_dvd (by omega) (odd_dvd ho hd2)
    omega
  · rw [Nat.mul_comm] at hd2
    have := Nat.le_of_dvd (by omega) (odd_dvd h0 hd2)
    omega
theorem metN_inj {h k m n : Nat} (hm : m < 2 ^ k) (hn : n < 2 ^ k) (e : metN h (2 ^ k) m = metN h (2 ^ k) n) : m = n := by
  rcases Nat.lt_trichotomy m n with h1 | h1 | h1
  · exact absurd e (metN_lt_ne h1 hn)
  · exact h1
  · exact absurd e.symm (metN_lt_ne h1 hm)

/-- As many places as things: what is one to one meets all. -/
theorem no_inj : ∀ (G : Nat) (f : Nat → Nat), (∀ i, i < G + 1 → f i < G) → (∀ i j, i < G + 1 → j < G + 1 → f i = f j → i = j) → False
  | 0, f, h1, _ => by have := h1 0 (by omega); omega
  | G + 1, f, h1, h2 => by
    refine no_inj G (fun i => if f i = G then f (G + 1) else f i) (fun i hi => ?_) (fun i j hi hj e => ?_)
    · have a := h1 i (by omega)
      have b := h1 (G + 1) (by omega)
      show (if f i = G then f (G + 1) else f i) < G
      split
      · rename_i he
        have : f (G + 1) ≠ G := fun e => by have := h2 i (G + 1) (by omega) (by omega) (he.trans e.symm); omega
        omega
      · omega
    · have a : f i ≠ f (G + 1) := fun e => by have := h2 i (G + 1) (by omega) (by omega) e; omega
      have b : f j ≠ f (G + 1) := fun e => by have := h2 j (G + 1) (by omega) (by omega) e; omega
      split at e <;> split at e
      · rename_i x y; exact h2 i j (by omega) (by omega) (x.trans y.symm)
      · exact absurd e.symm b
      · exact absurd e a
      · exact h2 i j (by omega) (by omega) e
theorem inj_onto {G : Nat} {f : Nat → Nat} (h1 : ∀ i, i < G → f i < G) (h2 : ∀ i j, i < G → j < G → f i = f j → i = j) {x : Nat} (hx : x < G) : ∃ i, i < G ∧ f i = x := by
  apply Classical.byContradiction
  intro hn
  have hne : ∀ i, i < G → f i ≠ x := fun i hi e => hn ⟨i, hi, e⟩
  obtain ⟨g, rfl⟩ : ∃ g, G = g + 1 := ⟨G - 1, by omega⟩
  refine no_inj g (fun i => if f i = g then x else f i) (fun i hi => ?_) (fun i j hi hj e => ?_)
  · have a := h1 i hi
    have b := hne i hi
    show (if f i = g then x else f i) < g
    split <;> omega
  · have a := hne i hi
    have b := hne j hj
    split at e <;> split at e
    · rename_i y z; exact h2 i j hi hj (y.trans z.symm)
    · exact absurd e.symm b
    · exact absurd e a
    · exact h2 i j hi hj e
theorem metN_onto {h k x : Nat} (hx : x < 2 ^ k) : ∃ i, i < 2 ^ k ∧ metN h (2 ^ k) i = x :=
  inj_onto (f := metN h (2 ^ k)) (fun i hi => metN_lt (by omega)) (fun i j hi hj e => metN_inj hi hj e) hx

/-- How many slots may be full. -/
def mostN (s : Int) : Int := if pw s 8 65536 then s / 8 * 7 else 0
/-- The least table, from p on. -/
def slF (n : Int) : Nat → Int → Int
  | 0, _ => 0
  | f + 1, p => if n ≤ p / 8 * 7 then p else slF n f (2 * p)
def slotsN (n : Int) : Int := if n < 0 then 0 else slF n 14 8

theorem pwS_yes : ∀ j, j < 14 → pw ((8 * 2 ^ j : Nat) : Int) 8 65536 = true := by decide
theorem pwS_no : pw ((8 * 2 ^ 14 : Nat) : Int) 8 65536 = false := by decide
theorem pow_int (j : Nat) : ((8 * 2 ^ (j + 1) : Nat) : Int) = 2 * ((8 * 2 ^ j : Nat) : Int) := by
  rw [Nat.pow_succ]; omega
theorem pow_le14 : ∀ {j : Nat}, j ≤ 14 → 8 ≤ ((8 * 2 ^ j : Nat) : Int) ∧ ((8 * 2 ^ j : Nat) : Int) ≤ 131072 := by
  intro j hj
  have := Nat.two_pow_pos j
  have := Nat.pow_le_pow_right (n := 2) (by omega) hj
  omega
theorem pow_le13 {j : Nat} (hj : j ≤ 13) : ((8 * 2 ^ j : Nat) : Int) ≤ 65536 := by
  have := Nat.pow_le_pow_right (n := 2) (by omega) hj
  omega
theorem slF_spec (n : Int) (hn : n ≤ 57344) : ∀ f j, f + j = 14 → (j = 0 ∨ 7 * (2 ^ (j - 1) : Nat) < n) →
    ∃ i, i < 14 ∧ slF n f ((8 * 2 ^ j : Nat) : Int) = ((8 * 2 ^ i : Nat) : Int) ∧ n ≤ 7 * (2 ^ i : Nat) ∧ (i = 0 ∨ 7 * (2 ^ (i - 1) : Nat) < n)
  | 0, j, hj, h => by
    exfalso
    obtain rfl : j = 14 := by omega
    rcases h with h | h
    · omega
    · have : (7 * ((2 ^ (14 - 1) : Nat) : Int)) = 57344 := by decide
      omega
  | f + 1, j, hj, h => by
    unfold slF
    have e : ((8 * 2 ^ j : Nat) : Int) / 8 * 7 = 7 * (2 ^ j : Nat) := by omega
    rw [e]
    by_cases hle : n ≤ 7 * (2 ^ j : Nat)
    · rw [if_pos hle]
      exact ⟨j, by omega, rfl, hle, h⟩
    · rw [if_neg hle, ← pow_int]
      exact slF_spec n hn f (j + 1) (by omega) (Or.inr (by rw [Nat.add_sub_cancel]; omega))
theorem slF_no (n : Int) (hn : 57344 < n) : ∀ f j, f + j = 14 → slF n f ((8 * 2 ^ j : Nat) : Int) = 0
  | 0, _, _ => rfl
  | f + 1, j, hj => by
    unfold slF
    have e : ((8 * 2 ^ j : Nat) : Int) / 8 * 7 = 7 * (2 ^ j : Nat) := by omega
    have := Nat.pow_le_pow_right (n := 2) (by omega) (show j ≤ 13 by omega)
    rw [e, if_neg (by omega), ← pow_int]
    exact slF_no n hn f (j + 1) (by omega)
end Go.Proofs.YtgckinldnnckoaaGreatDoor.Pb
/-
  The calls of probe that are plain arithmetic: powerWithin, isGroups, isSlots, met, At, Start, Most, Slots.
-/
namespace Go.Proofs.YtgckinldnnckoaaGreatDoor.Pb
open Go.RowKit
set_option linter.unusedVariables false

theorem power_any (n lo hi : Int) (w : World) (hlo : 1 ≤ lo) (hhi : hi ≤ 1000000) :
    Calls Tryz.prog 135 #[.int .i64 n, .int .i64 lo, .int .i64 hi] w fun e w' => e = .returned (.bool (pw n lo hi)) ∧ w' = w := by
  by_cases h1 : lo ≤ n
  · by_cases h2 : n ≤ hi
    · obtain ⟨m, rfl⟩ := Int.eq_ofNat_of_zero_le (show 0 ≤ n by omega)
      have hp : bits .and .i64 (m : Int) ((m : Int) - 1) = ((m &&& (m - 1) : Nat) : Int) := and_pred m (by omega) (by omega)
      go_enter Tryz.func135, Tryz.ntmps135
      go_wp2
      go_ret
      refine ⟨?_, rfl⟩
      have e : ((((m &&& (m - 1) : Nat) : Int) == 0) : Bool) = decide (lo ≤ (m : Int) ∧ (m : Int) ≤ hi ∧ ((m : Int).toNat &&& ((m : Int).toNat - 1)) = 0) := by
        rw [Int.toNat_natCast, Bool.eq_iff_iff, beq_iff_eq, decide_eq_true_iff]
        constructor
        · exact fun h => ⟨h1, h2, by omega⟩
        · exact fun h => by rw [h.2.2]; rfl
      exact congrArg (fun b => Ending.returned (Value.bool b)) e
    · have e : pw n lo hi = false := decide_eq_false (fun h => h2 h.2.1)
      rw [e]
      have h2' : ¬ n ≤ hi := h2
      go_enter Tryz.func135, Tryz.ntmps135
      go_wp2
      go_ret
      exact ⟨rfl, rfl⟩
  · have e : pw n lo hi = false := decide_eq_false (fun h => h1 h.1)
    rw [e]
    go_enter Tryz.func135, Tryz.ntmps135
    go_wp2
    go_ret
    exact ⟨rfl, rfl⟩

theorem isGroups_any (n : Int) (w : World) :
    Calls Tryz.prog 143 #[.int .i64 n] w fun e w' => e = .returned (.bool (pw n 1 8192)) ∧ w' = w := by
  have hp := power_any n 1 8192 w (by omega) (by omega)
  go_enter Tryz.func143, Tryz.ntmps143
  go_wp2_with fail
  refine hp.mono ?_
  rintro e w' ⟨rfl, rfl⟩
  go_wp2_with fail
  go_ret
  exact ⟨rfl, rfl⟩

theorem isSlots_any (n : Int) (w : World) :
    Calls Tryz.prog 102 #[.int .i64 n] w fun e w' => e = .returned (.bool (pw n 8 65536)) ∧ w' = w := by
  have hp := power_any n 8 65536 w (by omega) (by omega)
  go_enter Tryz.func102, Tryz.ntmps102
  go_wp2_with fail
  refine hp.mono ?_
  rintro e w' ⟨rfl, rfl⟩
  go_wp2_with fail
  go_ret
  exact ⟨rfl, rfl⟩

theorem met_val (h k n : Nat) (hk : k ≤ 13) (hn : n < 2 ^ k) :
    wrap64 ((IntKind.u64.wrap ((h : Int) + IntKind.u64.wrap ((IntKind.u64.wrap ((n : Int) * ((n : Int) + 1))).tdiv 2))).tmod ((2 ^ k : Nat) : Int)) = ((metN h (2 ^ k) n : Nat) : Int) := by
  obtain ⟨g1, g2⟩ := pow_bounds hk
  have hmul : n * (n + 1) ≤ 8192 * 8192 := Nat.mul_le_mul (by omega) (by omega)
  have e1 : (n : Int) * ((n : Int) + 1) = ((n * (n + 1) : Nat) : Int) := by rw [Int.natCast_mul]; rfl
  have e0 : IntKind.u64.wrap ((n * (n + 1) : Nat) : Int) = ((n * (n + 1) : Nat) : Int) := by
    rw [IntKind.wrap_u64]
    omega
  have e2 : IntKind.u64.wrap (((n * (n + 1) : Nat) : Int).tdiv 2) = ((n * (n + 1) / 2 : Nat) : Int) := by
    rw [IntKind.wrap_u64, Int.tdiv_eq_ediv_of_nonneg (by omega)]
    omega
  have e3 : IntKind.u64.wrap ((h : Int) + ((n * (n + 1) / 2 : Nat) : Int)) = (((h + n * (n + 1) / 2) % 18446744073709551616 : Nat) : Int) := by
    rw [IntKind.wrap_u64]
    omega
  rw [e1, e0, e2, e3, Int.tmod_eq_emod_of_nonneg (by omega), ← Int.natCast_emod, wrap_mod (by omega)]
  have hl : metN h (2 ^ k) n < 2 ^ k := metN_lt g1
  have hM : metN h (2 ^ k) n = (h + n * (n + 1) / 2) % 2 ^ k := rfl
  rw [← hM]
  unfold wrap64
  omega

set_option maxHeartbeats 1000000 in
theorem met_any (h k n : Nat) (w : World) (hk : k ≤ 13) (hn : n < 2 ^ k) (hh : h < 18446744073709551616) :
    Calls Tryz.prog 144 #[.int .u64 (h : Int), .int .i64 ((2 ^ k : Nat) : Int), .int .i64 (n : Int)] w fun e w' => e = .returned (.int .i64 ((metN h (2 ^ k) n : Nat) : Int)) ∧ w' = w := by
  obtain ⟨g1, g2⟩ := pow_bounds hk
  have hV := hide (met_val h k n hk hn)
  generalize metN h (2 ^ k) n = M at *
  generalize 2 ^ k = G at *
  go_enter Tryz.func144, Tryz.ntmps144
  go_wp2_with fail
  go_ret
  exact ⟨congrArg (fun x => Ending.returned (Value.int .i64 x)) hV.out, rfl⟩

theorem most_any (s : Int) (w : World) :
    Calls Tryz.prog 66 #[.int .i64 s] w fun e w' => e = .returned (.int .i64 (mostN s)) ∧ w' = w := by
  have hp := isSlots_any s w
  cases hq : pw s 8 65536
  · rw [hq] at hp
    have e : mostN s = 0 := by unfold mostN; rw [hq]; rfl
    rw [e]
    go_enter Tryz.func66, Tryz.ntmps66
    go_wp2_with fail
    refine hp.mono ?_
    rintro e w' ⟨rfl, rfl⟩
    go_wp2_with fail
    go_ret
    exact ⟨rfl, rfl⟩
  · rw [hq] at hp
    have e : mostN s = s / 8 * 7 := by unfold mostN; rw [hq]; rfl
    rw [e]
    obtain ⟨h1, h2, _⟩ := (pw_iff (by omega)).1 hq
    go_enter Tryz.func66, Tryz.ntmps66
    go_wp2_with fail
    refine hp.mono ?_
    rintro e w' ⟨rfl, rfl⟩
    go_wp2_with fail
    go_ret
    exact ⟨rfl, rfl⟩
end Go.Proofs.YtgckinldnnckoaaGreatDoor.Pb
/-
  begin: the header and the empty groups are laid into two new blocks.
-/
namespace Go.Proofs.YtgckinldnnckoaaGreatDoor
open Go.RowKit Go.Shelf Ly Ct
set_option linter.unusedVariables false

/-- A table under way: the first k groups are laid. -/
structure TabP (d0 d : AD) (l : Lay) (off gr G k : Nat) (f : Nat → Int) : Prop where
  fine : d.Fine
  valid : validB l = true
  pos : 0 < G
  few : G ≤ 8192
  good : d.goodB (off : Int) 64 = true
  len : off + 64 ≤ d.bs.length
  glen : gr + G * l.g.toNat ≤ d.bs.length
  head : ∀ i, i < 8 → hdr d off i = f i
  there : ∀ i, i < G → d.goodB ((gr + i * l.g.toNat : Nat) : Int) l.g = true
  grp : ∀ i, i < k → GroupAt d l (gr + i * l.g.toNat) (fun _ => GC.zero)
  le : k ≤ G
  apart : off + 64 ≤ gr ∨ gr + G * l.g.toNat ≤ off
  alt : Alt d0 d off gr (G * l.g.toNat)
section
variable {d0 d d' : AD} {l : Lay} {off gr G k : Nat} {f : Nat → Int}
theorem TabP.in (h : TabP d0 d l off gr G k f) {i : Nat} (hi : i < G) : gr ≤ gr + i * l.g.toNat ∧ gr + i * l.g.toNat + l.g.toNat ≤ gr + G * l.g.toNat := by
  have := mul_apart (s := l.g.toNat) hi
  omega
theorem TabP.done (h : TabP d0 d l off gr G G f) : TabD d l off gr G f (fun _ => GC.zero) := ⟨h.valid, h.pos, h.few, h.good, h.len, h.glen, h.head, h.grp, h.apart⟩
theorem TabP.off_le (h : TabP d0 d l off gr G k f) : off ≤ 134217728 ∧ gr ≤ 134217728 := by
  have h1 := h.len
  have h2 := h.glen
  have h3 := h.fine.most
  omega
theorem TabP.set (h : TabP d0 d l off gr G k f) {i : Nat} (hi : i < 8) {v : Int} (hv : fitsI v) :
    storeR d ((off : Int) + (i : Int) * 8) 8 (u64of v) = (0, d.bytes (splice d.bs (off + i * 8) (leBytes (u64of v) 8))) ∧ TabP d0 (d.bytes (splice d.bs (off + i * 8) (leBytes (u64of v) 8))) l off gr G k (updI f i v) := by
  have hlen : off + i * 8 + (leBytes (u64of v) 8).length ≤ d.bs.length := by rw [leBytes_length]; have := h.len; omega
  have ht : Touch d (d.bytes (splice d.bs (off + i * 8) (leBytes (u64of v) 8))) off 64 := Touch.splice d (by omega) (by rw [leBytes_length]; omega) hlen
  have hg8 := good_sub h.good (x := (i : Int) * 8) (m := 8) (by omega) (by omega) (by omega)
  refine ⟨?_, ⟨ht.fine h.fine, h.valid, h.pos, h.few, by rw [ht.goodB]; exact h.good, by rw [ht.len]; exact h.len, by rw [ht.len]; exact h.glen, fun j hj => ?_, fun j hj => by rw [ht.goodB]; exact h.there j hj, fun j hj => (h.grp j hj).touch ht ?_, h.le, h.apart, h.alt.trans (Alt.head ht)⟩⟩
  · unfold storeR
    rw [hg8, show ((off : Int) + (i : Int) * 8).toNat = off + i * 8 by omega]
    rfl
  · rw [hdr_set h.len hi hj]
    unfold updI
    have : u64of v % 18446744073709551616 = u64of v := Nat.mod_eq_of_lt (u64of_lt v)
    rw [this, wrap_u64of hv, h.head j hj]
  · have := h.in (Nat.lt_of_lt_of_le hj h.le)
    rcases h.apart with q | q
    · right; omega
    · left; omega
theorem TabP.reset (h : TabP d0 d l off gr G k f) (hk : k < G) : (resetG d l ((gr + k * l.g.toNat : Nat) : Int)).1 = 0 ∧ TabP d0 (resetG d l ((gr + k * l.g.toNat : Nat) : Int)).2 l off gr G (k + 1) f := by
  have hT : thereB d l ((gr + k * l.g.toNat : Nat) : Int) = true := by
    unfold thereB
    rw [h.valid, h.there k hk]
    rfl
  obtain ⟨h1, h2, ht⟩ := reset_group h.fine hT
  have hik := h.in hk
  refine ⟨h1, ⟨ht.fine h.fine, h.valid, h.pos, h.few, by rw [ht.goodB]; exact h.good, by rw [ht.len]; exact h.len, by rw [ht.len]; exact h.glen, fun j hj => ?_, fun j hj => by rw [ht.goodB]; exact h.there j hj, fun j hj => ?_, hk, h.apart, h.alt.trans (Alt.grp hk ht)⟩⟩
  · rw [hdr_touch ht ?_ hj]
    · exact h.head j hj
    · rcases h.apart with q | q
      · left; omega
      · right; omega
  · by_cases e : j = k
    · subst e
      exact h2
    · have hlt : j < k := by omega
      refine (h.grp j hlt).touch ht ?_
      have := mul_apart (s := l.g.toNat) hlt
      omega
end

section
variable {w : World} {p : Nat} {F : Nat → Prop} {d0 d : AD} {l : Lay} {off gr G k : Nat} {f : Nat → Int}
/-- set, of a table under way. -/
theorem tset_p (hA : Arena w p F d) (hFl : ∀ k, F k → k < w.heap.size) (h : TabP d0 d l off gr G k f) (i : Nat) (hi : i < 8) (v : Int) (hv : fitsI v) :
    Calls Tryz.prog 74 #[.agg #[.pointer (some ⟨p, 0, none⟩), .int .i64 l.k, .int .i64 l.e, .int .i64 l.a, .int .i64 l.b, .int .i64 l.c, .int .i64 l.eo, .int .i64 l.bo, .int .i64 l.s, .int .i64 l.g, .int .i64 (off : Int)], .int .i64 (i : Int), .int .i64 v] w fun e w' => e = .returned (.int .i64 0) ∧ ∃ d', Turned w w' p F d' ∧ TabP d0 d' l off gr G k (updI f i v) := by
  have ho := h.off_le
  obtain ⟨e1, h1⟩ := h.set hi hv
  have := tset_any hA h.fine hFl l (off : Int) (i : Int) v (by omega) (by omega) (by omega) (by omega)
  rw [e1] at this
  refine this.mono ?_
  rintro e w' ⟨rfl, hT⟩
  exact ⟨rfl, _, hT, h1⟩
theorem treset_p (hA : Arena w p F d) (hFl : ∀ k, F k → k < w.heap.size) (h : TabP d0 d l off gr G k f) (hk : k < G) :
    Calls Tryz.prog 58 #[.agg #[.pointer (some ⟨p, 0, none⟩), .int .i64 l.k, .int .i64 l.e, .int .i64 l.a, .int .i64 l.b, .int .i64 l.c, .int .i64 l.eo, .int .i64 l.bo, .int .i64 l.s, .int .i64 l.g, .int .i64 ((gr : Int) + (k : Int) * l.g)]] w fun e w' => e = .returned (.int .i64 0) ∧ ∃ d', Turned w w' p F d' ∧ TabP d0 d' l off gr G (k + 1) f := by
  have ho := h.off_le
  have hv := valid_more h.valid
  have hik := h.in hk
  have hgl := h.glen
  have hm := h.fine.most
  obtain ⟨e1, h1⟩ := h.reset hk
  have e : ((gr + k * l.g.toNat : Nat) : Int) = (gr : Int) + (k : Int) * l.g := by
    rw [Int.natCast_add, Int.natCast_mul, Int.toNat_of_nonneg (by omega)]
  rw [e] at e1 h1
  have := greset_any hA h.fine hFl l ((gr : Int) + (k : Int) * l.g) (by rw [← e]; exact fitsI_mk (by omega) (by omega)) (fitsI_mk (by omega) (by omega))
  rw [e1] at this
  refine this.mono ?_
  rintro r w' ⟨rfl, hT⟩
  exact ⟨rfl, _, hT, h1⟩
end
end Go.Proofs.YtgckinldnnckoaaGreatDoor
/-
  begin.
-/
namespace Go.Proofs.YtgckinldnnckoaaGreatDoor
open Go.RowKit Go.Shelf Ly Ct
set_option linter.unusedVariables false

/-- The header of a new table. -/
def hdr0 (slots most depth gr : Int) : Nat → Int := updI (updI (updI (updI (updI (fun _ => 0) 0 2) 4 slots) 5 most) 6 depth) 7 gr

/-- begin under way: the arena has turned, the struct stands in its block. -/
structure Bg (d0 : AD) (W0 W : World) (p : Nat) (F : Nat → Prop) (B : Nat) (l : Lay) (off gr G k : Nat) (f : Nat → Int) : Prop where
  lt : B < W0.heap.size
  nF : ¬ F B
  fl : ∀ i, F i → i < W0.heap.size
  dat : ∃ d, Turned W0 W p F d ∧ TabP d0 d l off gr G k f
  blk : W.heap[B]? = some (.cells #[.pointer (some ⟨p, 0, none⟩), .int .i64 l.k, .int .i64 l.e, .int .i64 l.a, .int .i64 l.b, .int .i64 l.c, .int .i64 l.eo, .int .i64 l.bo, .int .i64 l.s, .int .i64 l.g, .int .i64 (off : Int)] 61)
section
variable {d0 : AD} {W0 W W' : World} {p : Nat} {F : Nat → Prop} {B : Nat} {l : Lay} {off gr G k : Nat} {f : Nat → Int}
theorem Bg.stay (h : Bg d0 W0 W p F B l off gr G k f) (q : Keeps W W' (fun _ => False)) : Bg d0 W0 W' p F B l off gr G k f := by
  obtain ⟨d, hT, hP⟩ := h.dat
  exact ⟨h.lt, h.nF, h.fl, ⟨d, hT.post q, hP⟩, q.blk h.blk⟩
theorem Bg.nB (h : Bg d0 W0 W p F B l off gr G k f) : ¬ ((F B ∨ W0.heap.size ≤ B) ∧ B < W.heap.size) := fun q => q.1.elim h.nF (fun q => by have := h.lt; omega)
theorem Bg.cells (h : Bg d0 W0 W p F B l off gr G k f) : C11 B p l (off : Int) W := c11_of h.blk
theorem bg_set (h : Bg d0 W0 W p F B l off gr G k f) (i : Nat) (hi : i < 8) (v : Int) (hv : fitsI v) :
    Calls Tryz.prog 74 #[.agg #[.pointer (some ⟨p, 0, none⟩), .int .i64 l.k, .int .i64 l.e, .int .i64 l.a, .int .i64 l.b, .int .i64 l.c, .int .i64 l.eo, .int .i64 l.bo, .int .i64 l.s, .int .i64 l.g, .int .i64 (off : Int)], .int .i64 (i : Int), .int .i64 v] W fun e w' => e = .returned (.int .i64 0) ∧ Bg d0 W0 w' p F B l off gr G k (updI f i v) := by
  obtain ⟨d, hT, hP⟩ := h.dat
  refine (tset_p hT.arena (fun _ q => q.2) hP i hi v hv).mono ?_
  rintro e w' ⟨rfl, d', hT2, hP2⟩
  exact ⟨rfl, h.lt, h.nF, h.fl, ⟨d', hT.then hT2, hP2⟩, (hT2.2.block B (heap_lt h.blk) h.nB).trans h.blk⟩
theorem bg_reset (h : Bg d0 W0 W p F B l off gr G k f) (hk : k < G) :
    Calls Tryz.prog 58 #[.agg #[.pointer (some ⟨p, 0, none⟩), .int .i64 l.k, .int .i64 l.e, .int .i64 l.a, .int .i64 l.b, .int .i64 l.c, .int .i64 l.eo, .int .i64 l.bo, .int .i64 l.s, .int .i64 l.g, .int .i64 ((gr : Int) + (k : Int) * l.g)]] W fun e w' => e = .returned (.int .i64 0) ∧ Bg d0 W0 w' p F B l off gr G (k + 1) f := by
  obtain ⟨d, hT, hP⟩ := h.dat
  refine (treset_p hT.arena (fun _ q => q.2) hP hk).mono ?_
  rintro e w' ⟨rfl, d', hT2, hP2⟩
  exact ⟨rfl, h.lt, h.nF, h.fl, ⟨d', hT.then hT2, hP2⟩, (hT2.2.block B (heap_lt h.blk) h.nB).trans h.blk⟩
end

set_option maxRecDepth 100000 in
set_option maxHeartbeats 1000000 in
theorem begin_any {w : World} {p : Nat} {F : Nat → Prop} {d0 d : AD} (hA : Arena w p F d) (hFl : ∀ k, F k → k < w.heap.size) (l : Lay) (off gr G : Nat) (h : TabP d0 d l off gr G 0 (fun _ => 0)) (depth : Int) (hd : fitsI depth) :
    Calls Tryz.prog 70 #[.agg #[.pointer (some ⟨p, 0, none⟩), .int .i64 l.k, .int .i64 l.e, .int .i64 l.a, .int .i64 l.b, .int .i64 l.c, .int .i64 l.eo, .int .i64 l.bo, .int .i64 l.s, .int .i64 l.g, .int .i64 (off : Int)], .int .i64 ((8 * G : Nat) : Int), .int .i64 depth, .int .i64 (gr : Int)] w fun e w' => (∃ v, e = .returned v) ∧ ∃ d', Turned w w' p F d' ∧ d'.Fine ∧ TabD d' l off gr G (hdr0 ((8 * G : Nat) : Int) (Pb.mostN ((8 * G : Nat) : Int)) depth (gr : Int)) (fun _ => GC.zero) ∧ Alt d0 d' off gr (G * l.g.toNat) := by
  have hnB : ¬ F w.heap.size := fun q => Nat.lt_irrefl _ (hFl _ q)
  have hM := fun W => Pb.most_any ((8 * G : Nat) : Int) W
  have ho := h.off_le
  have hfew := h.few
  obtain ⟨f9, hf9⟩ : ∃ f9, hdr0 ((8 * G : Nat) : Int) (Pb.mostN ((8 * G : Nat) : Int)) depth (gr : Int) = f9 := ⟨_, rfl⟩
  rw [hf9]
  have hgr : fitsI (gr : Int) := fitsI_mk (by omega) (by omega)
  have hsl : fitsI ((8 * G : Nat) : Int) := fitsI_mk (by omega) (by omega)
  have hmo : fitsI (Pb.mostN ((8 * G : Nat) : Int)) := by
    unfold Pb.mostN
    split
    · exact fitsI_mk (by omega) (by omega)
    · exact fitsI_mk (by omega) (by omega)
  have hv := valid_more h.valid
  have hGrp := fun (i : Nat) (hi : i < G) W => tgroup_any p l (off : Int) (gr : Int) (i : Int) W (by omega) (by omega) (by omega) (by omega) (by omega) (by omega)
  have hB0 : Bg d0 (w.alloc (.cells #[.pointer (some ⟨p, 0, none⟩), .int .i64 l.k, .int .i64 l.e, .int .i64 l.a, .int .i64 l.b, .int .i64 l.c, .int .i64 l.eo, .int .i64 l.bo, .int .i64 l.s, .int .i64 l.g, .int .i64 (off : Int)] 61)) (w.alloc (.cells #[.pointer (some ⟨p, 0, none⟩), .int .i64 l.k, .int .i64 l.e, .int .i64 l.a, .int .i64 l.b, .int .i64 l.c, .int .i64 l.eo, .int .i64 l.bo, .int .i64 l.s, .int .i64 l.g, .int .i64 (off : Int)] 61)) p F w.heap.size l off gr G 0 (fun _ => 0) :=
    ⟨by simp, hnB, fun i hi => by have := hFl i hi; simp; omega, ⟨d, (hA.keeps ((Keeps.refl _ _).alloc _) (fun _ _ _ e => e)).same (Keeps.refl _ _), h⟩, heap_alloc_new _ _⟩
  have K0 : Keeps w (w.alloc (.cells #[.pointer (some ⟨p, 0, none⟩), .int .i64 l.k, .int .i64 l.e, .int .i64 l.a, .int .i64 l.b, .int .i64 l.c, .int .i64 l.eo, .int .i64 l.bo, .int .i64 l.s, .int .i64 l.g, .int .i64 (off : Int)] 61)) (fun _ => False) := (Keeps.refl _ _).alloc _
  have hfin : Hid (∀ W f, f = f9 → Bg d0 (w.alloc (.cells #[.pointer (some ⟨p, 0, none⟩), .int .i64 l.k, .int .i64 l.e, .int .i64 l.a, .int .i64 l.b, .int .i64 l.c, .int .i64 l.eo, .int .i64 l.bo, .int .i64 l.s, .int .i64 l.g, .int .i64 (off : Int)] 61)) W p F w.heap.size l off gr G G f → ∃ d', Turned w W p F d' ∧ d'.Fine ∧ TabD d' l off gr G f9 (fun _ => GC.zero) ∧ Alt d0 d' off gr (G * l.g.toNat)) := fun W f hf hB => by
    obtain ⟨d', hT, hP⟩ := hB.dat
    subst hf
    exact ⟨d', Turned.pre K0 hT, hP.fine, hP.done, hP.alt⟩
  clear hv
  go_enter Tryz.func70, Tryz.ntmps70
  go_wp2_with fail
  generalize (w.alloc (.cells #[.pointer (some ⟨p, 0, none⟩), .int .i64 l.k, .int .i64 l.e, .int .i64 l.a, .int .i64 l.b, .int .i64 l.c, .int .i64 l.eo, .int .i64 l.bo, .int .i64 l.s, .int .i64 l.g, .int .i64 (off : Int)] 61)) = W0 at *
  unfold hdr0 at hf9
  replace hf9 := hide hf9
  clear hA hFl h hnB K0
  have hM' : ∀ W, Calls Tryz.prog 66 #[.int .i64 ((8 * G : Nat) : Int)] W fun e w' => e = .returned (.int .i64 (Pb.mostN ((8 * G : Nat) : Int))) ∧ w' = W := hM
  clear hM
  generalize Pb.mostN ((8 * G : Nat) : Int) = mo at *
  have hs8 : (((8 * G : Nat) : Int)).tdiv 8 = (G : Int) := by
    rw [Int.tdiv_eq_ediv_of_nonneg (by omega)]
    omega
  have hsb : (0 : Int) ≤ ((8 * G : Nat) : Int) := by omega
  generalize ((8 * G : Nat) : Int) = sl at *
  have s0 := bg_set hB0 0 (by omega) 2 (fitsI_mk (by omega) (by omega))
  rw [show ((0 : Nat) : Int) = 0 from rfl] at s0
  (with_reducible refine s0.mono ?_)
  clear s0
  rintro r W1 ⟨rfl, B1⟩
  clear hB0
  obtain ⟨c0, c1, c2, c3, c4, c5, c6, c7, c8, c9, c10⟩ := B1.cells
  go_wp2_with fail
  have s0 := bg_set B1 4 (by omega) sl hsl
  rw [show ((4 : Nat) : Int) = 4 from rfl] at s0
  (with_reducible refine s0.mono ?_)
  clear s0
  rintro r W2 ⟨rfl, B2⟩
  clear B1 c0 c1 c2 c3 c4 c5 c6 c7 c8 c9 c10
  have C2 := B2.cells
  have s3 := bg_set (B2.stay (Keeps.refl _ (fun _ => False)).drew) 5 (by omega) mo hmo
  rw [show ((5 : Nat) : Int) = 5 from rfl] at s3
  go_wp2_with fail
  go_region_held3 (fun w' => w'.cell? ⟨w.heap.size, 0, none⟩ = some (.pointer (some ⟨p, 0, none⟩)) ∧ w'.cell? ⟨w.heap.size, 1, none⟩ = some (.int .i64 l.k) ∧ w'.cell? ⟨w.heap.size, 2, none⟩ = some (.int .i64 l.e) ∧ w'.cell? ⟨w.heap.size, 3, none⟩ = some (.int .i64 l.a) ∧ w'.cell? ⟨w.heap.size, 4, none⟩ = some (.int .i64 l.b) ∧ w'.cell? ⟨w.heap.size, 5, none⟩ = some (.int .i64 l.c) ∧ w'.cell? ⟨w.heap.size, 6, none⟩ = some (.int .i64 l.eo) ∧ w'.cell? ⟨w.heap.size, 7, none⟩ = some (.int .i64 l.bo) ∧ w'.cell? ⟨w.heap.size, 8, none⟩ = some (.int .i64 l.s) ∧ w'.cell? ⟨w.heap.size, 9, none⟩ = some (.int .i64 l.g) ∧ w'.cell? ⟨w.heap.size, 10, none⟩ = some (.int .i64 off)) (first | exact c11_drew C2 | exact B3.cells | assumption)
    (first | (go_at_call 66; refine (hM' _).mono ?_; rintro r wS ⟨rfl, rfl⟩) | (go_at_call 74; (with_reducible refine s3.mono ?_); rintro r W3 ⟨rfl, B3⟩))
  clear C2 B2 s3
  obtain ⟨c0, c1, c2, c3, c4, c5, c6, c7, c8, c9, c10⟩ := B3.cells
  go_wp2_with fail
  have s0 := bg_set B3 6 (by omega) depth hd
  rw [show ((6 : Nat) : Int) = 6 from rfl] at s0
  (with_reducible refine s0.mono ?_)
  clear s0
  rintro r W4 ⟨rfl, B4⟩
  clear B3 c0 c1 c2 c3 c4 c5 c6 c7 c8 c9 c10
  obtain ⟨c0, c1, c2, c3, c4, c5, c6, c7, c8, c9, c10⟩ := B4.cells
  go_wp2_with fail
  have s0 := bg_set B4 7 (by omega) (gr : Int) hgr
  rw [show ((7 : Nat) : Int) = 7 from rfl] at s0
  (with_reducible refine s0.mono ?_)
  clear s0
  rintro r W5 ⟨rfl, B5⟩
  clear B4 c0 c1 c2 c3 c4 c5 c6 c7 c8 c9 c10
  rw [hf9.out] at B5
  go_wp2_with fail
  go_loopg [26] G (fun g v26 wr => ∃ i : Nat, g = G - i ∧ i ≤ G ∧ v26 = .int .i64 (i : Int) ∧ Bg d0 W0 wr p F w.heap.size l off gr G i f9)
  case atStart => exact ⟨0, rfl, Nat.zero_le _, rfl, B5⟩
  case round =>
    clear B5
    obtain ⟨i, rfl, hi, rfl, Bi⟩ := hrel
    by_cases hlt : i < G
    · have hlt' : (i : Int) < (G : Int) := by omega
      obtain ⟨c0, c1, c2, c3, c4, c5, c6, c7, c8, c9, c10⟩ := Bi.cells
      go_wp2_with fail
      (with_reducible refine (hGrp i hlt _).mono ?_)
      rintro r w6 ⟨rfl, k6⟩
      have B6 := Bi.stay k6
      clear Bi c0 c1 c2 c3 c4 c5 c6 c7 c8 c9 c10
      go_wp2_with fail
      (with_reducible refine (bg_reset B6 hlt).mono ?_)
      rintro r w7 ⟨rfl, B7⟩
      clear B6
      go_wp2_with fail
      go_roundg (G - (i + 1))
      case measure => omega
      case rel => exact ⟨i + 1, rfl, by omega, by simp, B7⟩
    · obtain rfl : i = G := by omega
      have hlt' : ¬ (i : Int) < (i : Int) := by omega
      have HF := hide (hfin.out wr f9 rfl Bi)
      clear Bi hfin
      go_wp2_with fail
      go_end0
      exact ⟨⟨_, rfl⟩, HF.out⟩
end Go.Proofs.YtgckinldnnckoaaGreatDoor
/-
  A new table's two blocks, as data.
-/
namespace Go.Proofs.YtgckinldnnckoaaGreatDoor
open Go.RowKit Go.Shelf Ly Ct
set_option linter.unusedVariables false

theorem numOf_zeros : ∀ n : Nat, numOf (zeros n) = 0
  | 0 => rfl
  | n + 1 => by
    have e : zeros (n + 1) = 0 :: zeros n := rfl
    rw [e]
    simp [numOf, numOf_zeros n]
theorem drop_zeros (a n k m : Nat) (bs : List UInt8) (h : bs.length ≤ a) (h2 : a + m ≤ bs.length + n) : ((bs ++ zeros n).drop a).take m = zeros m := by
  apply List.ext_getElem?
  intro j
  simp only [List.getElem?_take, List.getElem?_drop]
  unfold zeros
  split
  · rw [List.getElem?_append_right (by omega), List.getElem?_replicate, List.getElem?_replicate, if_pos (by omega), if_pos (by omega)]
  · rw [List.getElem?_replicate, if_neg (by omega)]
/-- Two new blocks of zeros: a table under way. -/
theorem newP {d : AD} {l : Lay} {G c : Nat} (hF : d.Fine) (hv : validB l = true) (hG : 0 < G) (hG2 : G ≤ 8192) (hc : G * l.g.toNat ≤ c) (hr : d.bs.length + 64 + c ≤ 134217728) (hu : d.used + 64 + c ≤ d.limit) :
    TabP ((d.took 64).took c) ((d.took 64).took c) l d.bs.length (d.bs.length + 64) G 0 (fun _ => 0) := by
  have hvm := valid_more hv
  have hg0 : 0 < l.g.toNat := by omega
  have hc0 : 0 < c := Nat.lt_of_lt_of_le (Nat.mul_pos hG hg0) hc
  have hF1 : (d.took 64).Fine := hF.took (by omega) (by omega) (by omega)
  have hl1 : (d.took 64).bs.length = d.bs.length + 64 := by rw [AD.took_bs, List.length_append, zeros_length]
  have hF2 : ((d.took 64).took c).Fine := hF1.took hc0 (by omega) (by rw [AD.took_used, AD.took_limit]; omega)
  have hbs : ((d.took 64).took c).bs = d.bs ++ zeros (64 + c) := by
    rw [AD.took_bs, AD.took_bs, List.append_assoc]
    congr 1
    unfold zeros
    rw [List.replicate_append_replicate]
  have hlen : ((d.took 64).took c).bs.length = d.bs.length + 64 + c := by rw [hbs, List.length_append, zeros_length]; omega
  have hL : ((d.took 64).took c).L = d.L ++ [(d.bs.length, 64)] ++ [(d.bs.length + 64, c)] := by rw [AD.took_L, AD.took_L, hl1]
  have hlv : ((d.took 64).took c).lv = upd (upd d.lv (d.bs.length : Nat) (some ((64 : Nat) : Int))) ((d.bs.length + 64 : Nat) : Int) (some (c : Int)) := by rw [AD.took_lv, AD.took_lv, hl1]
  have hv1 : ((d.took 64).took c).lv (d.bs.length : Int) = some 64 := by
    rw [hlv, upd_other _ _ _ _ (by omega), upd_same]
    rfl
  have hv2 : ((d.took 64).took c).lv ((d.bs.length + 64 : Nat) : Int) = some (c : Int) := by rw [hlv, upd_same]
  have m1 : (d.bs.length, 64) ∈ ((d.took 64).took c).L := by rw [hL]; simp
  have m2 : (d.bs.length + 64, c) ∈ ((d.took 64).took c).L := by rw [hL]; simp
  refine ⟨hF2, hv, hG, hG2, AD.goodB_mk m1 hv1 (by omega) (by simp) (by simp), by omega, by omega, fun i hi => ?_, fun i hi => ?_, fun i hi => by omega, Nat.zero_le _, Or.inl (Nat.le_refl _), Alt.refl _ _ _ _⟩
  · unfold hdr AD.span
    rw [hbs, show ((d.bs.length : Int) + (i : Int) * 8).toNat = d.bs.length + i * 8 by omega, show (8 : Int).toNat = 8 from rfl, drop_zeros _ _ 0 _ _ (by omega) (by omega), numOf_zeros]
    unfold wrap64
    omega
  · have := mul_apart (s := l.g.toNat) hi
    exact AD.goodB_mk m2 hv2 (by omega) (by show ((d.bs.length + 64 : Nat) : Int) ≤ ((d.bs.length + 64 + i * l.g.toNat : Nat) : Int); omega) (by show ((d.bs.length + 64 + i * l.g.toNat : Nat) : Int) - ((d.bs.length + 64 : Nat) : Int) ≤ (c : Int) - l.g; omega)
end Go.Proofs.YtgckinldnnckoaaGreatDoor
