import Derived.BigQuiet
import Derived.Test.YtmdnknbolgedgaaGreatDoorUn17
/-
  Delete.
-/
namespace Go.Proofs.YtmdnknbolgedgaaGreatDoor
open Go.RowKit Go.Shelf Ly Ct
set_option linter.unusedVariables false

theorem wr2 {x y : Int} (h0 : -1000000 ≤ x) (h1 : x ≤ 1000000) (h2 : -1000000 ≤ y) (h3 : y ≤ 1000000) : (wrap64 x = x ∧ IntKind.i64.wrap x = x ∧ wrap64 y = y ∧ IntKind.i64.wrap y = y) := by
  refine ⟨?_, ?_, ?_, ?_⟩
  · unfold wrap64; omega
  · rw [IntKind.wrap_i64]; omega
  · unfold wrap64; omega
  · rw [IntKind.wrap_i64]; omega

set_option maxRecDepth 100000 in
set_option maxHeartbeats 2000000 in
/-- The key is not there. -/
theorem tdelete_no {w : World} {p : Nat} {F : Nat → Prop} {d : AD} {l : Lay} {off gr G : Nat} {f : Nat → Int} {c : Nat → GC} (hA : Arena w p F d) (hF : d.Fine) (h : TabD d l off gr G f c) (h4 : f 4 = ((8 * G : Nat) : Int)) (h7 : f 7 = (gr : Int)) (k : Nat) (hk : k ≤ 13) (hG : G = 2 ^ k) (hT : TabAt w) (H : Nat) (hH : H < 18446744073709551616) (key : ByteArray) (hkey : (key.size : Int) = l.k) (hs : (srchT c ((H : Int) % 128) key (Pb.metN (H / 128) G) G).slot = none) :
    Calls Tryz.prog 29 #[.agg #[.pointer (some ⟨p, 0, none⟩), .int .i64 l.k, .int .i64 l.e, .int .i64 l.a, .int .i64 l.b, .int .i64 l.c, .int .i64 l.eo, .int .i64 l.bo, .int .i64 l.s, .int .i64 l.g, .int .i64 (off : Int)], .int .u64 (H : Int), .string key] w fun e w' => e = .returned (.tuple #[.bool false, .int .i64 0]) ∧ Keeps w w' (fun _ => False) := by
  have hS := fun W (q : Keeps w W (fun _ => False)) => search_yes (hA.keeps q (fun _ _ _ e => e)) hF h h4 h7 k hk hG (hT.kp (q.below (Nat.le_refl _) (fun _ _ e => e))) H hH key hkey
  unfold srchV sghC at hS
  rw [hs] at hS
  rw [show optI none = -1 from rfl, show slotC c none = GC.zero from rfl] at hS
  simp only [GC.zero] at hS
  have hm1 : (-1 : Int) < 0 := by omega
  generalize (srchT c ((H : Int) % 128) key (Pb.metN (H / 128) G) G).probes = np at *
  generalize optI (srchT c ((H : Int) % 128) key (Pb.metN (H / 128) G) G).vac = ov at *
  generalize vacE c (srchT c ((H : Int) % 128) key (Pb.metN (H / 128) G) G).vac = ve at *
  clear h h4 h7 hT hs
  go_enter Tryz.func29, Tryz.ntmps29
  go_wp2_with fail
  (with_reducible refine (hS _ ((Keeps.refl _ _).alloc _)).mono ?_)
  rintro e w1 ⟨rfl, k1⟩
  have HK : Hid (∀ o, Keeps w (w1.alloc o) (fun _ => False)) := fun o => ((((Keeps.refl w (fun _ => False)).alloc _).trans k1 (fun _ _ e => e)).alloc o)
  clear hS
  go_wp2_with fail
  go_ret2
  exact ⟨rfl, HK.out _⟩

set_option maxRecDepth 100000 in
set_option maxHeartbeats 8000000 in
/-- The key is there: its slot is empty, where its group has an empty one, else deleted. -/
theorem tdelete_yes {w : World} {p : Nat} {F : Nat → Prop} {d : AD} {l : Lay} {off gr G : Nat} {f : Nat → Int} {c : Nat → GC} (hA : Arena w p F d) (hF : d.Fine) (hFl : ∀ k, F k → k < w.heap.size) (h : TabD d l off gr G f c) (h4 : f 4 = ((8 * G : Nat) : Int)) (h7 : f 7 = (gr : Int)) (k : Nat) (hk : k ≤ 13) (hG : G = 2 ^ k) (hT : TabAt w) (H : Nat) (hH : H < 18446744073709551616) (key : ByteArray) (hkey : (key.size : Int) = l.k) (v : Nat) (hs : (srchT c ((H : Int) % 128) key (Pb.metN (H / 128) G) G).slot = some v) (em : Bool) (he : empG c (v / 8) = em) (hl1 : f 5 ≤ 100000) (hl2 : -100000 ≤ f 5) (hu1 : f 3 ≤ 100000) (hu2 : -100000 ≤ f 3) :
    Calls Tryz.prog 29 #[.agg #[.pointer (some ⟨p, 0, none⟩), .int .i64 l.k, .int .i64 l.e, .int .i64 l.a, .int .i64 l.b, .int .i64 l.c, .int .i64 l.eo, .int .i64 l.bo, .int .i64 l.s, .int .i64 l.g, .int .i64 (off : Int)], .int .u64 (H : Int), .string key] w fun e w' => e = .returned (.tuple #[.bool true, .int .i64 0]) ∧ TabT w w' p F d l off gr G (updI (if em then updI f 5 (f 5 + 1) else f) 3 (f 3 - 1)) (updN c v (if em then GC.zero else GC.gone)) := by
  have hS := fun W (q : Keeps w W (fun _ => False)) => search_yes (hA.keeps q (fun _ _ _ e => e)) hF h h4 h7 k hk hG (hT.kp (q.below (Nat.le_refl _) (fun _ _ e => e))) H hH key hkey
  unfold srchV sghC at hS
  rw [hs] at hS
  rw [show optI (some v) = (v : Int) from rfl, show slotC c (some v) = c v from rfl] at hS
  have hv0 : ¬ ((v : Nat) : Int) < 0 := by omega
  have hG0 := h.pos
  obtain ⟨hv8, hvk, -, -⟩ := srch_slot (fun i hi => Pb.metN_lt (by omega)) hs
  have hfew := h.few
  have ho := h.off_le hF
  have hvm := valid_more h.valid
  have hi : v / 8 < G := by omega
  have hgl := h.glen
  have hin := h.in hi
  have hmo := hF.most
  have hPl := fun W => place_any p l (off : Int) (gr : Int) f v W h.valid h7 (by omega) (by omega) (by omega)
  have e : ((gr + v / 8 * l.g.toNat : Nat) : Int) = (gr : Int) + ((v / 8 : Nat) : Int) * l.g := by
    rw [Int.natCast_add, Int.natCast_mul, Int.toNat_of_nonneg (by omega)]
  have hfy : fitsI ((gr : Int) + ((v / 8 : Nat) : Int) * l.g) := by rw [← e]; exact fitsI_mk (by omega) (by omega)
  have hfg : fitsI l.g := fitsI_mk (by omega) (by omega)
  have hWd := fun W (q : Keeps w W (fun _ => False)) => word_any (hA.keeps q (fun _ _ _ e => e)) hF l ((gr : Int) + ((v / 8 : Nat) : Int) * l.g) hfy hfg
  have hGA : GroupAt d l (gr + v / 8 * l.g.toNat) (grpC c (v / 8)) := h.grp (v / 8) hi
  have hth := hGA.there
  rw [e] at hth
  have hwv : wordV d l ((gr : Int) + ((v / 8 : Nat) : Int) * l.g) = (((wordN d ((gr : Int) + ((v / 8 : Nat) : Int) * l.g) : Nat) : Int), 0) := if_pos hth
  rw [hwv] at hWd
  have hEm := fun W => hasEmpty_any (wordN d ((gr : Int) + ((v / 8 : Nat) : Int) * l.g)) wordN_lt W
  have hempE : decide (0 < cntM (mk (· == 128) (wordN d ((gr : Int) + ((v / 8 : Nat) : Int) * l.g)))) = em := by
    rw [← he, ← e]
    exact emp_is hGA
  rw [hempE] at hEm
  have hEr : ∀ W (q : Keeps w W (fun _ => False)), Calls Tryz.prog 59 #[.agg #[.pointer (some ⟨p, 0, none⟩), .int .i64 l.k, .int .i64 l.e, .int .i64 l.a, .int .i64 l.b, .int .i64 l.c, .int .i64 l.eo, .int .i64 l.bo, .int .i64 l.s, .int .i64 l.g, .int .i64 ((gr : Int) + ((v / 8 : Nat) : Int) * l.g)], .int .i64 ((v % 8 : Nat) : Int), .bool (!em)] W fun e w' => e = .returned (.int .i64 0) ∧ TabT W w' p F d l off gr G f (updN c v (if em then GC.zero else GC.gone)) := fun W q => by
    have := gerase_any (hA.keeps q (fun _ _ _ e => e)) hF (fun i hi => Nat.lt_of_lt_of_le (hFl i hi) q.size) l ((gr : Int) + ((v / 8 : Nat) : Int) * l.g) ((v % 8 : Nat) : Int) (!em) hfy hfg
    obtain ⟨r1, r2, r3⟩ := (h.grp (v / 8) hi).erase (i := v % 8) (by omega) (!em)
    rw [← e, r1] at this
    rw [← e]
    refine this.mono ?_
    rintro e w' ⟨rfl, hT⟩
    refine ⟨rfl, _, hT, Alt.grp hi r3, ?_⟩
    have ht := h.turn hi r2 r3
    rw [updG_updC] at ht
    cases em
    · exact ht
    · exact ht
  have hnF : ∀ q, w.heap.size ≤ q → ¬ F q := fun q h1 h2 => by have := hFl q h2; omega
  have hfl5 : fitsI (f 5 + 1) := fitsI_mk (by omega) (by omega)
  have hfu3 : fitsI (f 3 - 1) := fitsI_mk (by omega) (by omega)
  have HF := hide (And.intro hF (And.intro hfl5 hfu3))
  have HWr := hide (wr2 (x := f 5 + 1) (y := f 3 - 1) (by omega) (by omega) (by omega) (by omega))
  clear hfl5 hfu3
  generalize (srchT c ((H : Int) % 128) key (Pb.metN (H / 128) G) G).probes = np at *
  generalize optI (srchT c ((H : Int) % 128) key (Pb.metN (H / 128) G) G).vac = ov at *
  generalize vacE c (srchT c ((H : Int) % 128) key (Pb.metN (H / 128) G) G).vac = ve at *
  generalize (c v).kind = xk at *
  generalize (c v).tag = xt at *
  generalize (c v).key = xy at *
  generalize (c v).elem = xe at *
  generalize (c v).birth = xb at *
  clear h h4 h7 hT hs hin hgl hvm hG hk hmo hvk hempE hwv hth hGA he hfy hfg
  unfold statV at hPl
  generalize wordN d ((gr : Int) + ((v / 8 : Nat) : Int) * l.g) = Wd at *
  generalize (gr : Int) + ((v / 8 : Nat) : Int) * l.g = y at *
  generalize ((v % 8 : Nat) : Int) = vm at *
  cases em
  · obtain ⟨cc, hcc⟩ : ∃ cc, updN c v (if false = true then GC.zero else GC.gone) = cc := ⟨_, rfl⟩
    rw [hcc] at hEr ⊢
    clear hcc
    simp only [Bool.not_false] at hEr
    go_enter Tryz.func29, Tryz.ntmps29
    go_wp2_with fail
    refine alloc1 (P := fun W => Calls _ _ _ W _) fun W0 hb hz K0 => ?_
    (with_reducible refine (hS _ K0).mono ?_)
    rintro r w1 ⟨rfl, k1⟩
    have K1 := K0.trans k1 (fun _ _ e => e)
    have k2 : Keeps w1 (w1.alloc (Obj.cells #[.int .i64 (f 3), .int .i64 (f 4), .int .i64 (f 5), .int .i64 (f 6), .int .i64 (f 1), .int .i64 (f 2), .bool (f 0 == 4), .int .i64 (f 7), .int .i64 (np : Int), .int .i64 (v : Int), .int .i64 xk, .int .i64 xt, .string xy, .string xe, .int .i64 xb, .int .i64 ov, .bool ve] 103)) (fun _ => False) := (Keeps.refl _ _).alloc _
    have K2 := K1.trans k2 (fun _ _ e => e)
    have hb2 := k2.blk (k1.blk hb)
    have hsg2 := heap_alloc_new w1 (Obj.cells #[.int .i64 (f 3), .int .i64 (f 4), .int .i64 (f 5), .int .i64 (f 6), .int .i64 (f 1), .int .i64 (f 2), .bool (f 0 == 4), .int .i64 (f 7), .int .i64 (np : Int), .int .i64 (v : Int), .int .i64 xk, .int .i64 xt, .string xy, .string xe, .int .i64 xb, .int .i64 ov, .bool ve] 103)
    obtain ⟨c0, c1, c2, c3, c4, c5, c6, c7, c8, c9, c10⟩ := c11_of hb2
    have hz1 := K1.size
    clear hS k1 K0 hb
    go_wp2_with fail
    (with_reducible refine (hPl _).mono ?_)
    rintro r w3 ⟨rfl, k3⟩
    clear c0 c1 c2 c3 c4 c5 c6 c7 c8 c9 c10 hPl
    have k4 : Keeps w3 (w3.alloc (Obj.cells #[.pointer (some ⟨p, 0, none⟩), .int .i64 l.k, .int .i64 l.e, .int .i64 l.a, .int .i64 l.b, .int .i64 l.c, .int .i64 l.eo, .int .i64 l.bo, .int .i64 l.s, .int .i64 l.g, .int .i64 y] 109)) (fun _ => False) := (Keeps.refl _ _).alloc _
    have k24 := k3.trans k4 (fun _ _ e => e)
    have K4 := K2.trans k24 (fun _ _ e => e)
    have hg4 := heap_alloc_new w3 (Obj.cells #[.pointer (some ⟨p, 0, none⟩), .int .i64 l.k, .int .i64 l.e, .int .i64 l.a, .int .i64 l.b, .int .i64 l.c, .int .i64 l.eo, .int .i64 l.bo, .int .i64 l.s, .int .i64 l.g, .int .i64 y] 109)
    have hz3 : w1.heap.size < w3.heap.size := by have := k3.size; rw [World.size_alloc] at this; omega
    have hz4 : (w3.alloc (Obj.cells #[.pointer (some ⟨p, 0, none⟩), .int .i64 l.k, .int .i64 l.e, .int .i64 l.a, .int .i64 l.b, .int .i64 l.c, .int .i64 l.eo, .int .i64 l.bo, .int .i64 l.s, .int .i64 l.g, .int .i64 y] 109)).heap.size = w3.heap.size + 1 := World.size_alloc _ _
    have hWd4 := hWd _ K4
    clear hWd
    go_wp2_with fail
    (with_reducible refine hWd4.mono ?_)
    rintro r w5 ⟨rfl, k5⟩
    go_wp2_with fail
    (with_reducible refine (hEm _).mono ?_)
    rintro r w6 ⟨rfl, k6⟩
    have k46 := k5.trans k6 (fun _ _ e => e)
    have K6 := K4.trans k46 (fun _ _ e => e)
    have hb6 := k46.blk (k24.blk hb2)
    have hsg6 := k46.blk (k24.blk hsg2)
    obtain ⟨b0, b1, b2, b3, b4, b5, b6, b7, b8, b9, b10⟩ := c11_of (k46.blk hg4)
    have hEr6 := hEr _ K6
    have hz6 := k46.size
    clear hEr hEm hWd4
    go_wp2_with fail
    (with_reducible refine hEr6.mono ?_)
    rintro r w7 ⟨rfl, d7, hT7, hA7, h7⟩
    have hb7 := hT7.2.blkS hb6 (hnF _ (Nat.le_refl _))
    have hsg7 := hT7.2.blkS hsg6 (hnF _ (by omega))
    obtain ⟨c0, c1, c2, c3, c4, c5, c6, c7, c8, c9, c10⟩ := c11_of hb7
    obtain ⟨⟨u0, -, u2, -⟩, -⟩ := r17_cells hsg7
    have hnF7 : ∀ q, w.heap.size ≤ q → q ≤ w3.heap.size → ¬ ((F q ∨ w6.heap.size ≤ q) ∧ q < w7.heap.size) := fun q q1 q2 q3 => by
      rcases q3.1 with e | e
      · exact hnF q q1 e
      · omega
    obtain ⟨hF', hfl5, hfu3⟩ := HF.out
    clear hEr6 b0 b1 b2 b3 b4 b5 b6 b7 b8 b9 b10
    have hSe := tset_tab hT7.arena (hA7.fine hF') (fun _ q => q.2) h7 3 (by omega) (f 3 - 1) hfu3
    rw [show ((3 : Nat) : Int) = 3 from rfl] at hSe
    obtain ⟨wx1, wx2, wy1, wy2⟩ := HWr.out
    go_wp2_with fail
    (with_reducible refine hSe.mono ?_)
    rintro r w9 ⟨rfl, d9, hT9, hF9, h9, ht9⟩
    have HP : Hid (TabT w w9 p F d l off gr G (updI (if false = true then updI f 5 (f 5 + 1) else f) 3 (f 3 - 1)) cc) := ⟨d9, (hT7.then hT9).pre K6, hA7.trans (Alt.head ht9), h9⟩
    clear hSe h9 hT9 hF9 ht9 h7 hT7 hA7 c0 c1 c2 c3 c4 c5 c6 c7 c8 c9 c10 u0 wx1 wx2 wy1 wy2
    go_wp2_with fail
    go_ret2
    exact ⟨rfl, HP.out⟩
  · obtain ⟨cc, hcc⟩ : ∃ cc, updN c v (if true = true then GC.zero else GC.gone) = cc := ⟨_, rfl⟩
    rw [hcc] at hEr ⊢
    clear hcc
    simp only [Bool.not_true] at hEr
    go_enter Tryz.func29, Tryz.ntmps29
    go_wp2_with fail
    refine alloc1 (P := fun W => Calls _ _ _ W _) fun W0 hb hz K0 => ?_
    (with_reducible refine (hS _ K0).mono ?_)
    rintro r w1 ⟨rfl, k1⟩
    have K1 := K0.trans k1 (fun _ _ e => e)
    have k2 : Keeps w1 (w1.alloc (Obj.cells #[.int .i64 (f 3), .int .i64 (f 4), .int .i64 (f 5), .int .i64 (f 6), .int .i64 (f 1), .int .i64 (f 2), .bool (f 0 == 4), .int .i64 (f 7), .int .i64 (np : Int), .int .i64 (v : Int), .int .i64 xk, .int .i64 xt, .string xy, .string xe, .int .i64 xb, .int .i64 ov, .bool ve] 103)) (fun _ => False) := (Keeps.refl _ _).alloc _
    have K2 := K1.trans k2 (fun _ _ e => e)
    have hb2 := k2.blk (k1.blk hb)
    have hsg2 := heap_alloc_new w1 (Obj.cells #[.int .i64 (f 3), .int .i64 (f 4), .int .i64 (f 5), .int .i64 (f 6), .int .i64 (f 1), .int .i64 (f 2), .bool (f 0 == 4), .int .i64 (f 7), .int .i64 (np : Int), .int .i64 (v : Int), .int .i64 xk, .int .i64 xt, .string xy, .string xe, .int .i64 xb, .int .i64 ov, .bool ve] 103)
    obtain ⟨c0, c1, c2, c3, c4, c5, c6, c7, c8, c9, c10⟩ := c11_of hb2
    have hz1 := K1.size
    clear hS k1 K0 hb
    go_wp2_with fail
    (with_reducible refine (hPl _).mono ?_)
    rintro r w3 ⟨rfl, k3⟩
    clear c0 c1 c2 c3 c4 c5 c6 c7 c8 c9 c10 hPl
    have k4 : Keeps w3 (w3.alloc (Obj.cells #[.pointer (some ⟨p, 0, none⟩), .int .i64 l.k, .int .i64 l.e, .int .i64 l.a, .int .i64 l.b, .int .i64 l.c, .int .i64 l.eo, .int .i64 l.bo, .int .i64 l.s, .int .i64 l.g, .int .i64 y] 109)) (fun _ => False) := (Keeps.refl _ _).alloc _
    have k24 := k3.trans k4 (fun _ _ e => e)
    have K4 := K2.trans k24 (fun _ _ e => e)
    have hg4 := heap_alloc_new w3 (Obj.cells #[.pointer (some ⟨p, 0, none⟩), .int .i64 l.k, .int .i64 l.e, .int .i64 l.a, .int .i64 l.b, .int .i64 l.c, .int .i64 l.eo, .int .i64 l.bo, .int .i64 l.s, .int .i64 l.g, .int .i64 y] 109)
    have hz3 : w1.heap.size < w3.heap.size := by have := k3.size; rw [World.size_alloc] at this; omega
    have hz4 : (w3.alloc (Obj.cells #[.pointer (some ⟨p, 0, none⟩), .int .i64 l.k, .int .i64 l.e, .int .i64 l.a, .int .i64 l.b, .int .i64 l.c, .int .i64 l.eo, .int .i64 l.bo, .int .i64 l.s, .int .i64 l.g, .int .i64 y] 109)).heap.size = w3.heap.size + 1 := World.size_alloc _ _
    have hWd4 := hWd _ K4
    clear hWd
    go_wp2_with fail
    (with_reducible refine hWd4.mono ?_)
    rintro r w5 ⟨rfl, k5⟩
    go_wp2_with fail
    (with_reducible refine (hEm _).mono ?_)
    rintro r w6 ⟨rfl, k6⟩
    have k46 := k5.trans k6 (fun _ _ e => e)
    have K6 := K4.trans k46 (fun _ _ e => e)
    have hb6 := k46.blk (k24.blk hb2)
    have hsg6 := k46.blk (k24.blk hsg2)
    obtain ⟨b0, b1, b2, b3, b4, b5, b6, b7, b8, b9, b10⟩ := c11_of (k46.blk hg4)
    have hEr6 := hEr _ K6
    have hz6 := k46.size
    clear hEr hEm hWd4
    go_wp2_with fail
    (with_reducible refine hEr6.mono ?_)
    rintro r w7 ⟨rfl, d7, hT7, hA7, h7⟩
    have hb7 := hT7.2.blkS hb6 (hnF _ (Nat.le_refl _))
    have hsg7 := hT7.2.blkS hsg6 (hnF _ (by omega))
    obtain ⟨c0, c1, c2, c3, c4, c5, c6, c7, c8, c9, c10⟩ := c11_of hb7
    obtain ⟨⟨u0, -, u2, -⟩, -⟩ := r17_cells hsg7
    have hnF7 : ∀ q, w.heap.size ≤ q → q ≤ w3.heap.size → ¬ ((F q ∨ w6.heap.size ≤ q) ∧ q < w7.heap.size) := fun q q1 q2 q3 => by
      rcases q3.1 with e | e
      · exact hnF q q1 e
      · omega
    obtain ⟨hF', hfl5, hfu3⟩ := HF.out
    clear hEr6 b0 b1 b2 b3 b4 b5 b6 b7 b8 b9 b10
    have hSe := tset_tab hT7.arena (hA7.fine hF') (fun _ q => q.2) h7 5 (by omega) (f 5 + 1) hfl5
    rw [show ((5 : Nat) : Int) = 5 from rfl] at hSe
    obtain ⟨wx1, wx2, wy1, wy2⟩ := HWr.out
    go_wp2_with fail
    (with_reducible refine hSe.mono ?_)
    rintro r w8 ⟨rfl, d8, hT8, hF8, h8, ht8⟩
    have hT78 := hT7.then hT8
    have hA8 := hA7.trans (Alt.head ht8)
    have hb8 := hT8.2.blkS hb7 (hnF7 _ (Nat.le_refl _) (by clear wx1 wx2 wy1 wy2; omega))
    have hsg8 := hT8.2.blkS hsg7 (hnF7 _ (by clear wx1 wx2 wy1 wy2; omega) (by clear wx1 wx2 wy1 wy2; omega))
    clear c0 c1 c2 c3 c4 c5 c6 c7 c8 c9 c10 u0 u2 hSe
    obtain ⟨c0, c1, c2, c3, c4, c5, c6, c7, c8, c9, c10⟩ := c11_of hb8
    obtain ⟨⟨u0, -⟩, -⟩ := r17_cells hsg8
    have hSe := tset_tab hT78.arena hF8 (fun _ q => q.2) h8 3 (by omega) (f 3 - 1) hfu3
    rw [show ((3 : Nat) : Int) = 3 from rfl] at hSe
    go_wp2_with fail
    (with_reducible refine hSe.mono ?_)
    rintro r w9 ⟨rfl, d9, hT9, hF9, h9, ht9⟩
    have HP : Hid (TabT w w9 p F d l off gr G (updI (if true = true then updI f 5 (f 5 + 1) else f) 3 (f 3 - 1)) cc) := ⟨d9, (hT78.then hT9).pre K6, hA8.trans (Alt.head ht9), h9⟩
    clear hSe h9 hT9 hF9 ht9 h7 hT7 hA7 c0 c1 c2 c3 c4 c5 c6 c7 c8 c9 c10 u0 wx1 wx2 wy1 wy2
    go_wp2_with fail
    go_ret2
    exact ⟨rfl, HP.out⟩
end Go.Proofs.YtmdnknbolgedgaaGreatDoor
/-
  The Bench's calls, as the list of lives says them.
-/
namespace Go.Proofs.YtmdnknbolgedgaaGreatDoor
open Go.RowKit Go.Shelf Ly Ct
set_option linter.unusedVariables false

/-- What a plan's hashes are: nh numbers in block g from o on; the table has G groups. -/
structure PlanAt (w : World) (l : Lay) (G j g o nh : Nat) (hv : Nat → Nat) : Prop where
  hj : j ≤ 7
  hG : G = 2 ^ j
  pos : 0 < nh
  few : nh ≤ 17592186044000
  hash : ∀ i, i < nh → w.cell? ⟨g, o + i, none⟩ = some (.int .u64 ((hv i : Nat) : Int))
  word : ∀ i, hv i < 18446744073709551616
  tabs : TabAt w
def keyT (l : Lay) (n : Int) : ByteArray := strOf (txL ((keyN n : Nat) : Int) l.k.toNat)
def elemT (l : Lay) (n : Int) : ByteArray := strOf (txL n l.e.toNat)
theorem PlanAt.le {w : World} {l : Lay} {G j g o nh : Nat} {hv : Nat → Nat} (P : PlanAt w l G j g o nh hv) : 0 < G ∧ G ≤ 128 := by
  rw [P.hG]
  exact ⟨Nat.two_pow_pos j, Nat.pow_le_pow_right (by decide) P.hj⟩
theorem LTie.few {c : Nat → GC} {G : Nat} {f : Nat → Int} {hs : ByteArray → Nat} {L : List LifeD} {ad : Nat} (h : LTie c G f hs L ad) : L.length ≤ 8 * G := by
  have hn : (L.map (fun x => x.slot.toNat)).Nodup := by
    rw [List.nodup_iff_pairwise_ne, List.pairwise_iff_getElem]
    intro i k hi hk hik
    simp only [List.length_map] at hi hk
    simp only [List.getElem_map]
    exact fun e => absurd (h.slots hi hk e) (by omega)
  have := length_le_of_subset hn (l := List.range (8 * G)) (fun x hx => by
    obtain ⟨y, hy, rfl⟩ := List.mem_map.1 hx
    obtain ⟨p1, p2, -⟩ := h.life y hy
    exact List.mem_range.2 (by omega))
  simpa using this
section
variable {w wr : World} {b p : Nat} {l : Lay} {G j g o nh hc : Nat} {hv : Nat → Nat} {fs ts lv : Value} {L : List LifeD} {ad : Nat} {d : AD} {f : Nat → Int} {c : Nat → GC}
theorem BM.tabs (h : BM w wr b p l G fs ts (.slice (some ⟨g, o, none⟩) nh hc) lv L ad d f c) (P : PlanAt w l G j g o nh hv) : TabAt wr := P.tabs.kp (h.own.keeps.below (Nat.le_refl _) (fun _ _ e => e))
theorem keyT_size (h : validB l = true) (n : Int) : ((keyT l n).size : Int) = l.k := by
  have := valid_more h
  unfold keyT
  rw [tx_size]
  omega
theorem elemT_size (h : validB l = true) (n : Int) : ((elemT l n).size : Int) = l.e := by
  have := valid_more h
  unfold elemT
  rw [tx_size]
  omega
theorem bm_key (h : BM w wr b p l G fs ts (.slice (some ⟨g, o, none⟩) nh hc) lv L ad d f c) (P : PlanAt w l G j g o nh hv) (n : Int) (hn : fitsI n) :
    Calls Tryz.prog 49 #[.pointer (some ⟨b, 0, none⟩), .int .i64 n] wr fun e w' => e = .returned (.tuple #[.string (keyT l n), .int .u64 ((hsT hv nh (keyT l n) : Nat) : Int)]) ∧ Keeps wr w' (fun _ => False) := by
  have hvm := valid_more h.tab.valid
  have h1 : wr.cell? ⟨b, 1, none⟩ = some (.int .i64 l.k) := by simp only [World.cell?, h.blk]; rfl
  have h23 : wr.cell? ⟨b, 23, none⟩ = some (.slice (some ⟨g, o, none⟩) nh hc) := by simp only [World.cell?, h.blk]; rfl
  have := bkey_any b g o nh hc l.k (fun i => ((hv i : Nat) : Int)) n wr hn (by omega) (by omega) h1 h23 P.pos P.few (fun i hi => keeps_cell h.own.keeps id (P.hash i hi))
  refine this.mono ?_
  rintro e w' ⟨rfl, k⟩
  refine ⟨?_, k⟩
  have e1 : hsT hv nh (keyT l n) = hv (hasN n l.k nh) := hsT_key (by omega)
  rw [e1]
  rfl
theorem bm_elem (h : validB l = true) (n : Int) (hn : fitsI n) (W : World) :
    Calls Tryz.prog 14 #[.int .i64 n, .int .i64 l.e] W fun e w' => e = .returned (.string (elemT l n)) ∧ Keeps W w' (fun _ => False) := by
  have hvm := valid_more h
  have := text_any n l.e.toNat W hn (by omega)
  rw [Int.toNat_of_nonneg (by omega)] at this
  exact this
theorem bm_place (h : BM w wr b p l G fs ts (.slice (some ⟨g, o, none⟩) nh hc) lv L ad d f c) (hfew : L.length ≤ 1024) (K : ByteArray) :
    Calls Tryz.prog 50 #[.pointer (some ⟨b, 0, none⟩), .string K] wr fun e w' => e = .returned (.int .i64 (placeL K L 0)) ∧ Keeps wr w' (fun _ => False) := by
  obtain ⟨a, ca, e, h1, -⟩ := h.lives
  have h25 : wr.cell? ⟨b, 25, none⟩ = some lv := by simp only [World.cell?, h.blk]; rfl
  rw [e] at h25
  exact place_law b a ca L K wr (by omega) h25 h1
variable (h : BM w wr b p l G fs ts (.slice (some ⟨g, o, none⟩) nh hc) lv L ad d f c) (P : PlanAt w l G j g o nh hv) {M : List LifeD} {am : Nat} (tie : LTie c G f (hsT hv nh) M am) {K : ByteArray} (hK : (K.size : Int) = l.k)
include h P tie hK
theorem bm_get_no (hno : ∀ x, x ∈ M → x.key ≠ K) : Calls Tryz.prog 56 #[.agg #[.pointer (some ⟨p, 0, none⟩), .int .i64 l.k, .int .i64 l.e, .int .i64 l.a, .int .i64 l.b, .int .i64 l.c, .int .i64 l.eo, .int .i64 l.bo, .int .i64 l.s, .int .i64 l.g, .int .i64 (16 : Int)], .int .u64 ((hsT hv nh K : Nat) : Int), .string K] wr fun e w' => e = .returned (.tuple #[.agg #[.int .i64 0, .int .i64 0, .string ByteArray.empty, .string ByteArray.empty, .int .i64 0], .int .i64 0]) ∧ Keeps wr w' (fun _ => False) := by
  obtain ⟨g0, g1⟩ := P.le
  have hj := P.hj
  have := tget_yes h.own.here h.fine h.tab h.f4 h.f7 j (by omega) P.hG (h.tabs P) (hsT hv nh K) (P.word _) K hK
  rw [absent (fun i hi => Pb.metN_lt g0) (tie.absent hno)] at this
  exact this
theorem bm_find_no (hno : ∀ x, x ∈ M → x.key ≠ K) : Calls Tryz.prog 16 #[.agg #[.pointer (some ⟨p, 0, none⟩), .int .i64 l.k, .int .i64 l.e, .int .i64 l.a, .int .i64 l.b, .int .i64 l.c, .int .i64 l.eo, .int .i64 l.bo, .int .i64 l.s, .int .i64 l.g, .int .i64 (16 : Int)], .int .u64 ((hsT hv nh K : Nat) : Int), .string K] wr fun e w' => e = .returned (.tuple #[.int .i64 (-1), .int .i64 0]) ∧ Keeps wr w' (fun _ => False) := by
  obtain ⟨g0, g1⟩ := P.le
  have hj := P.hj
  have := tfind_yes h.own.here h.fine h.tab h.f4 h.f7 j (by omega) P.hG (h.tabs P) (hsT hv nh K) (P.word _) K hK
  rw [absent (fun i hi => Pb.metN_lt g0) (tie.absent hno)] at this
  exact this
theorem bm_delete_no (hno : ∀ x, x ∈ M → x.key ≠ K) : Calls Tryz.prog 29 #[.agg #[.pointer (some ⟨p, 0, none⟩), .int .i64 l.k, .int .i64 l.e, .int .i64 l.a, .int .i64 l.b, .int .i64 l.c, .int .i64 l.eo, .int .i64 l.bo, .int .i64 l.s, .int .i64 l.g, .int .i64 (16 : Int)], .int .u64 ((hsT hv nh K : Nat) : Int), .string K] wr fun e w' => e = .returned (.tuple #[.bool false, .int .i64 0]) ∧ Keeps wr w' (fun _ => False) := by
  obtain ⟨g0, g1⟩ := P.le
  have hj := P.hj
  exact tdelete_no h.own.here h.fine h.tab h.f4 h.f7 j (by omega) P.hG (h.tabs P) (hsT hv nh K) (P.word _) K hK (absent (fun i hi => Pb.metN_lt g0) (tie.absent hno))
theorem bm_get_yes {i : Nat} (hi : i < M.length) (hk : M[i].key = K) : Calls Tryz.prog 56 #[.agg #[.pointer (some ⟨p, 0, none⟩), .int .i64 l.k, .int .i64 l.e, .int .i64 l.a, .int .i64 l.b, .int .i64 l.c, .int .i64 l.eo, .int .i64 l.bo, .int .i64 l.s, .int .i64 l.g, .int .i64 (16 : Int)], .int .u64 ((hsT hv nh K : Nat) : Int), .string K] wr fun e w' => e = .returned (.tuple #[.agg #[.int .i64 2, .int .i64 (((hsT hv nh K : Nat) : Int) % 128), .string K, .string M[i].elem, .int .i64 M[i].birth], .int .i64 0]) ∧ Keeps wr w' (fun _ => False) := by
  obtain ⟨g0, g1⟩ := P.le
  have hj := P.hj
  have := tget_yes h.own.here h.fine h.tab h.f4 h.f7 j (by omega) P.hG (h.tabs P) (hsT hv nh K) (P.word _) K hK
  obtain ⟨n, v, hs⟩ := tie.there P.hG (List.getElem_mem hi)
  obtain ⟨p1, p2, p3, p4⟩ := tie.life _ (List.getElem_mem hi)
  rw [hk] at hs p3 p4
  rw [hs] at this
  have e : slotC c (some M[i].slot.toNat) = GC.full (((hsT hv nh K : Nat) : Int) % 128) K M[i].elem M[i].birth := by
    show c _ = _
    rw [p3, p4]
  dsimp only at this
  rw [e] at this
  exact this
theorem bm_find_yes {i : Nat} (hi : i < M.length) (hk : M[i].key = K) : Calls Tryz.prog 16 #[.agg #[.pointer (some ⟨p, 0, none⟩), .int .i64 l.k, .int .i64 l.e, .int .i64 l.a, .int .i64 l.b, .int .i64 l.c, .int .i64 l.eo, .int .i64 l.bo, .int .i64 l.s, .int .i64 l.g, .int .i64 (16 : Int)], .int .u64 ((hsT hv nh K : Nat) : Int), .string K] wr fun e w' => e = .returned (.tuple #[.int .i64 M[i].slot, .int .i64 0]) ∧ Keeps wr w' (fun _ => False) := by
  obtain ⟨g0, g1⟩ := P.le
  have hj := P.hj
  have := tfind_yes h.own.here h.fine h.tab h.f4 h.f7 j (by omega) P.hG (h.tabs P) (hsT hv nh K) (P.word _) K hK
  obtain ⟨n, v, hs⟩ := tie.there P.hG (List.getElem_mem hi)
  obtain ⟨p1, p2, p3, p4⟩ := tie.life _ (List.getElem_mem hi)
  rw [hk] at hs
  rw [hs] at this
  have e : optI (some M[i].slot.toNat) = M[i].slot := by
    show ((M[i].slot.toNat : Nat) : Int) = _
    omega
  dsimp only at this
  rw [e] at this
  exact this
/-- A key that is there is deleted. -/
theorem bm_delete_yes {i : Nat} (hi : i < M.length) (hk : M[i].key = K) : Calls Tryz.prog 29 #[.agg #[.pointer (some ⟨p, 0, none⟩), .int .i64 l.k, .int .i64 l.e, .int .i64 l.a, .int .i64 l.b, .int .i64 l.c, .int .i64 l.eo, .int .i64 l.bo, .int .i64 l.s, .int .i64 l.g, .int .i64 (16 : Int)], .int .u64 ((hsT hv nh K : Nat) : Int), .string K] wr fun e w' => e = .returned (.tuple #[.bool true, .int .i64 0]) ∧ ∃ d' f' c', BM w w' b p l G fs ts (.slice (some ⟨g, o, none⟩) nh hc) lv L ad d' f' c' ∧ LTie c' G f' (hsT hv nh) (M.take i ++ M.drop (i + 1)) am ∧ ∀ q, q ≠ 3 → q ≠ 5 → f' q = f q := by
  obtain ⟨g0, g1⟩ := P.le
  have hj := P.hj
  have hfew := tie.few
  have hu := tie.used
  have hl := tie.left
  have hps := tie.pos
  have hcn := cntC_le notEmp c (8 * G)
  obtain ⟨n, v, hs⟩ := tie.there P.hG (List.getElem_mem hi)
  obtain ⟨p1, p2, p3, p4⟩ := tie.life _ (List.getElem_mem hi)
  rw [hk] at hs
  have := tdelete_yes h.own.here h.fine (fun _ q => q.2) h.tab h.f4 h.f7 j (by omega) P.hG (h.tabs P) (hsT hv nh K) (P.word _) K hK M[i].slot.toNat (by rw [hs]) (empG c (M[i].slot.toNat / 8)) rfl (by omega) (by omega) (by omega) (by omega)
  refine this.mono ?_
  rintro e w' ⟨rfl, hT⟩
  refine ⟨rfl, ?_⟩
  have hf : ∀ q, q ≠ 3 → q ≠ 5 → updI (if empG c (M[i].slot.toNat / 8) then updI f 5 (f 5 + 1) else f) 3 (f 3 - 1) q = f q := fun q q3 q5 => by
    unfold updI
    rw [if_neg q3]
    split
    · exact if_neg q5
    · rfl
  obtain ⟨d', hB⟩ := h.turn hT ((hf 4 (by decide) (by decide)).trans h.f4) ((hf 7 (by decide) (by decide)).trans h.f7)
  refine ⟨d', _, _, hB, tie.gone hi ?_ ?_, hf⟩
  · unfold updI
    rw [if_pos rfl]
  · unfold updI
    rw [if_neg (by decide)]
    split
    · exact if_pos rfl
    · rfl
variable {E : ByteArray} (hE : (E.size : Int) = l.e) (birth : Nat) (hbi : birth ≤ 9223372036854775807)
include hE hbi
/-- A key that is there: its elem is replaced. -/
theorem bm_put_old {i : Nat} (hi : i < M.length) (hk : M[i].key = K) : Calls Tryz.prog 15 #[.agg #[.pointer (some ⟨p, 0, none⟩), .int .i64 l.k, .int .i64 l.e, .int .i64 l.a, .int .i64 l.b, .int .i64 l.c, .int .i64 l.eo, .int .i64 l.bo, .int .i64 l.s, .int .i64 l.g, .int .i64 (16 : Int)], .int .u64 ((hsT hv nh K : Nat) : Int), .string K, .string E, .int .i64 (birth : Int)] wr fun e w' => e = .returned (.tuple #[.int .i64 1, .int .i64 0]) ∧ ∃ d' c', BM w w' b p l G fs ts (.slice (some ⟨g, o, none⟩) nh hc) lv L ad d' f c' ∧ LTie c' G f (hsT hv nh) (M.set i { M[i] with elem := E }) am := by
  obtain ⟨g0, g1⟩ := P.le
  have hj := P.hj
  obtain ⟨n, v, hs⟩ := tie.there P.hG (List.getElem_mem hi)
  rw [hk] at hs
  have := tput_old h.own.here h.fine h.small (fun _ q => q.2) h.tab h.f4 h.f7 j (by omega) P.hG (h.tabs P) (hsT hv nh K) (P.word _) K hK E hE (birth : Int) (by omega) M[i].slot.toNat (by rw [hs])
  refine this.mono ?_
  rintro e w' ⟨rfl, hT⟩
  obtain ⟨d', hB⟩ := h.turn hT h.f4 h.f7
  exact ⟨rfl, d', _, hB, tie.old hi E⟩
/-- A new key: it is laid into a slot, or there is no room, where so many were added as the table may hold. -/
theorem bm_put_no (hno : ∀ x, x ∈ M → x.key ≠ K) : Calls Tryz.prog 15 #[.agg #[.pointer (some ⟨p, 0, none⟩), .int .i64 l.k, .int .i64 l.e, .int .i64 l.a, .int .i64 l.b, .int .i64 l.c, .int .i64 l.eo, .int .i64 l.bo, .int .i64 l.s, .int .i64 l.g, .int .i64 (16 : Int)], .int .u64 ((hsT hv nh K : Nat) : Int), .string K, .string E, .int .i64 (birth : Int)] wr fun e w' => (e = .returned (.tuple #[.int .i64 3, .int .i64 0]) ∧ 7 * G ≤ am ∧ Keeps wr w' (fun _ => False)) ∨ (e = .returned (.tuple #[.int .i64 2, .int .i64 0]) ∧ ∃ d' f' c' v, BM w w' b p l G fs ts (.slice (some ⟨g, o, none⟩) nh hc) lv L ad d' f' c' ∧ LTie c' G f' (hsT hv nh) (M ++ [⟨K, E, hsT hv nh K, (birth : Int), ((v : Nat) : Int)⟩]) (am + 1) ∧ v < 8 * G ∧ ∀ q, q ≠ 3 → q ≠ 5 → f' q = f q) := by
  obtain ⟨g0, g1⟩ := P.le
  have hj := P.hj
  have hfew := tie.few
  have hu := tie.used
  have hl := tie.left
  have hps := tie.pos
  have hcn := cntC_le notEmp c (8 * G)
  have hs := absent (c := c) (G := G) (tag := ((hsT hv nh K : Nat) : Int) % 128) (key := K) (m := Pb.metN (hsT hv nh K / 128) G) (fun i hi => Pb.metN_lt g0) (tie.absent hno)
  cases hvac : (srchT c (((hsT hv nh K : Nat) : Int) % 128) K (Pb.metN (hsT hv nh K / 128) G) G).vac with
  | none => exact (tie.noroom P.hG hs hvac).elim
  | some v =>
    have hw := srch_way hvac
    obtain ⟨hv8, hv2⟩ := srch_vac (fun i hi => Pb.metN_lt g0) hvac
    by_cases h0 : (c v).kind = 0 ∧ f 5 ≤ 0
    · have := tput_full h.own.here h.fine h.tab h.f4 h.f7 j (by omega) P.hG (h.tabs P) (hsT hv nh K) (P.word _) K hK E hE (birth : Int) (by omega) hs v hvac h0.1 h0.2
      refine this.mono ?_
      rintro e w' ⟨rfl, k⟩
      exact Or.inl ⟨rfl, tie.most h0.2, k⟩
    · obtain ⟨em, hem⟩ : ∃ em, decide ((c v).kind = 0) = em := ⟨_, rfl⟩
      have hl5 : em = true → 0 < f 5 := fun q => by
        rw [q] at hem
        have := of_decide_eq_true hem
        rcases Int.lt_or_le 0 (f 5) with z | z
        · exact z
        · exact absurd ⟨this, z⟩ h0
      have := tput_new h.own.here h.fine h.small (fun _ q => q.2) h.tab h.f4 h.f7 j (by omega) P.hG (h.tabs P) (hsT hv nh K) (P.word _) K hK E hE (birth : Int) (by omega) hs v hvac em hem hl5 (by omega) (by omega) (by omega) (by omega) (by omega)
      refine this.mono ?_
      rintro e w' ⟨rfl, hT⟩
      refine Or.inr ⟨rfl, ?_⟩
      have hf : ∀ q, q ≠ 3 → q ≠ 5 → updI (if em then updI f 5 (f 5 - 1) else f) 3 (f 3 + 1) q = f q := fun q q3 q5 => by
        unfold updI
        rw [if_neg q3]
        split
        · exact if_neg q5
        · rfl
      obtain ⟨d', hB⟩ := h.turn hT ((hf 4 (by decide) (by decide)).trans h.f4) ((hf 7 (by decide) (by decide)).trans h.f7)
      refine ⟨d', _, _, v, hB, tie.more hv8 hv2 hw hno em hem hl5 ?_ ?_, hv8, hf⟩
      · unfold updI
        rw [if_pos rfl]
      · unfold updI
        rw [if_neg (by decide)]
        split
        · exact if_pos rfl
        · rfl
end
end Go.Proofs.YtmdnknbolgedgaaGreatDoor
/-
  The law's asks.
-/
namespace Go.Proofs.YtmdnknbolgedgaaGreatDoor
open Go.RowKit Go.Shelf Ly Ct
set_option linter.unusedVariables false

theorem ben_T {W : World} {b p : Nat} {l : Lay} {off : Int} {fs hs ts lv : Value} {S ad : Int} {t : TypeId} (hb : W.heap[b]? = some (.cells (benC p l off fs S hs ts lv ad) t)) : W.cell? ⟨b, 10, none⟩ = some (.pointer (some ⟨p, 0, none⟩)) ∧ W.cell? ⟨b, 11, none⟩ = some (.int .i64 l.k) ∧ W.cell? ⟨b, 12, none⟩ = some (.int .i64 l.e) ∧ W.cell? ⟨b, 13, none⟩ = some (.int .i64 l.a) ∧ W.cell? ⟨b, 14, none⟩ = some (.int .i64 l.b) ∧ W.cell? ⟨b, 15, none⟩ = some (.int .i64 l.c) ∧ W.cell? ⟨b, 16, none⟩ = some (.int .i64 l.eo) ∧ W.cell? ⟨b, 17, none⟩ = some (.int .i64 l.bo) ∧ W.cell? ⟨b, 18, none⟩ = some (.int .i64 l.s) ∧ W.cell? ⟨b, 19, none⟩ = some (.int .i64 l.g) ∧ W.cell? ⟨b, 20, none⟩ = some (.int .i64 off) := by
  simp only [World.cell?, hb]
  exact ⟨rfl, rfl, rfl, rfl, rfl, rfl, rfl, rfl, rfl, rfl, rfl⟩
theorem ben_25 {W : World} {b p : Nat} {l : Lay} {off : Int} {fs hs ts lv : Value} {S ad : Int} {t : TypeId} (hb : W.heap[b]? = some (.cells (benC p l off fs S hs ts lv ad) t)) : W.cell? ⟨b, 25, none⟩ = some lv ∧ W.frozen? ⟨b, 25, none⟩ = false := by
  simp only [World.cell?, World.frozen?, hb]
  exact ⟨rfl, rfl⟩
theorem ben_26 {W : World} {b p : Nat} {l : Lay} {off : Int} {fs hs ts lv : Value} {S ad : Int} {t : TypeId} (hb : W.heap[b]? = some (.cells (benC p l off fs S hs ts lv ad) t)) : W.cell? ⟨b, 26, none⟩ = some (.int .i64 ad) ∧ W.frozen? ⟨b, 26, none⟩ = false := by
  simp only [World.cell?, World.frozen?, hb]
  exact ⟨rfl, rfl⟩
theorem ben_22 {W : World} {b p : Nat} {l : Lay} {off : Int} {fs hs ts lv : Value} {S ad : Int} {t : TypeId} (hb : W.heap[b]? = some (.cells (benC p l off fs S hs ts lv ad) t)) : W.cell? ⟨b, 22, none⟩ = some (.int .i64 S) ∧ W.cell? ⟨b, 2, none⟩ = some (.int .i64 l.e) ∧ W.cell? ⟨b, 1, none⟩ = some (.int .i64 l.k) := by
  simp only [World.cell?, hb]
  exact ⟨rfl, rfl, rfl⟩

section
variable {w wr : World} {b p : Nat} {l : Lay} {G j g o nh hc : Nat} {hv : Nat → Nat} {fs ts lv : Value} {L : List LifeD} {ad : Nat} {d : AD} {f : Nat → Int} {c : Nat → GC}
set_option maxRecDepth 100000 in
set_option maxHeartbeats 4000000 in
theorem asks_no (h : BM w wr b p l G fs ts (.slice (some ⟨g, o, none⟩) nh hc) lv L ad d f c) (P : PlanAt w l G j g o nh hv) (tie : LTie c G f (hsT hv nh) L ad) (n : Int) (hn : fitsI n) (hno : ∀ x, x ∈ L → x.key ≠ keyT l n) :
    Calls Tryz.prog 28 #[.pointer (some ⟨b, 0, none⟩), .int .i64 n] wr fun e w' => e = .returned (.bool true) ∧ Keeps wr w' (fun _ => False) := by
  have hG8 := P.le
  have hfew := tie.few
  have hK := keyT_size h.tab.valid n
  have hKey := bm_key h P n hn
  have hGet : Hid (∀ W, Keeps wr W (fun _ => False) → _) := fun W q => bm_get_no (h.stay q) P tie hK hno
  have hFi : Hid (∀ W, Keeps wr W (fun _ => False) → _) := fun W q => bm_find_no (h.stay q) P tie hK hno
  have hPl : Hid (∀ W, Keeps wr W (fun _ => False) → _) := fun W q => bm_place (h.stay q) (by omega) (keyT l n)
  have ep : placeL (keyT l n) L 0 = -1 := by
    rcases placeL_spec (keyT l n) L 0 with q | ⟨i, hi, q1, q2⟩
    · exact q.1
    · exact absurd q2 (hno _ (List.getElem_mem hi))
  rw [ep] at hPl
  have hB : Hid (∀ W, Keeps wr W (fun _ => False) → W.heap[b]? = some (.cells (benC p l 16 fs ((8 * G : Nat) : Int) (.slice (some ⟨g, o, none⟩) nh hc) ts lv (ad : Int)) 57)) := fun W q => q.blk h.blk
  have hNum := fun x W => num8_any x W
  clear ep hK h tie hno hn P hG8 hfew
  generalize hsT hv nh (keyT l n) = H at *
  generalize keyT l n = K at *
  go_enter Tryz.func28, Tryz.ntmps28
  go_wp2_with fail
  (with_reducible refine hKey.mono ?_)
  rintro r w1 ⟨rfl, k1⟩
  obtain ⟨t0, t1, t2, t3, t4, t5, t6, t7, t8, t9, t10⟩ := ben_T (hB.out _ k1)
  clear hKey
  go_wp2_with fail
  (with_reducible refine (hGet.out _ k1).mono ?_)
  rintro r w2 ⟨rfl, k2⟩
  have k3 : Keeps wr (w2.alloc (.cells #[.int .i64 0, .int .i64 0, .string ByteArray.empty, .string ByteArray.empty, .int .i64 0] 83)) (fun _ => False) := (k1.trans k2 (fun _ _ e => e)).alloc _
  clear t0 t1 t2 t3 t4 t5 t6 t7 t8 t9 t10
  obtain ⟨t0, t1, t2, t3, t4, t5, t6, t7, t8, t9, t10⟩ := ben_T (hB.out _ k3)
  have hc3 := heap_alloc_new w2 (.cells #[.int .i64 0, .int .i64 0, .string ByteArray.empty, .string ByteArray.empty, .int .i64 0] 83)
  clear k2 k1 hGet
  go_wp2_with fail
  generalize w2.alloc (.cells #[.int .i64 0, .int .i64 0, .string ByteArray.empty, .string ByteArray.empty, .int .i64 0] 83) = W3 at *
  generalize w2.heap.size = B3 at *
  (with_reducible refine (hFi.out _ k3).mono ?_)
  rintro r w4 ⟨rfl, k4⟩
  have k5 := k3.trans k4 (fun _ _ e => e)
  obtain ⟨u0, u1, u2, u3, u4, -⟩ := five_cells (k4.blk hc3)
  clear t0 t1 t2 t3 t4 t5 t6 t7 t8 t9 t10 hFi hB k3 hc3
  go_wp2_with fail
  refine (hNum _ _).mono ?_
  rintro r w6 ⟨rfl, hw⟩
  subst hw
  go_wp2_with fail
  refine (hNum _ _).mono ?_
  rintro r w7 ⟨rfl, hw⟩
  subst hw
  go_wp2_with fail
  (with_reducible refine (hPl.out _ k5).mono ?_)
  rintro r w8 ⟨rfl, k8⟩
  have v0 := keeps_cell k8 id u0
  have v1 := keeps_cell k8 id u1
  have v2 := keeps_cell k8 id u2
  have v3 := keeps_cell k8 id u3
  have v4 := keeps_cell k8 id u4
  have k9 := k5.trans k8 (fun _ _ e => e)
  clear u0 u1 u2 u3 u4 k5 k8 k4
  go_wp2_with fail
  go_ret
  exact ⟨rfl, k9⟩
set_option maxRecDepth 100000 in
set_option maxHeartbeats 4000000 in
theorem asks_yes (h : BM w wr b p l G fs ts (.slice (some ⟨g, o, none⟩) nh hc) lv L ad d f c) (P : PlanAt w l G j g o nh hv) (tie : LTie c G f (hsT hv nh) L ad) (n : Int) (hn : fitsI n) {i : Nat} (hi : i < L.length) (hk : L[i].key = keyT l n) (hp : placeL (keyT l n) L 0 = (i : Int)) :
    Calls Tryz.prog 28 #[.pointer (some ⟨b, 0, none⟩), .int .i64 n] wr fun e w' => e = .returned (.bool true) ∧ Keeps wr w' (fun _ => False) := by
  have hG8 := P.le
  have hfew := tie.few
  have hK := keyT_size h.tab.valid n
  have hKey := bm_key h P n hn
  have hGet : Hid (∀ W, Keeps wr W (fun _ => False) → _) := fun W q => bm_get_yes (h.stay q) P tie hK hi hk
  have hFi : Hid (∀ W, Keeps wr W (fun _ => False) → _) := fun W q => bm_find_yes (h.stay q) P tie hK hi hk
  have hPl : Hid (∀ W, Keeps wr W (fun _ => False) → _) := fun W q => bm_place (h.stay q) (by omega) (keyT l n)
  rw [hp] at hPl
  have hB : Hid (∀ W, Keeps wr W (fun _ => False) → W.heap[b]? = some (.cells (benC p l 16 fs ((8 * G : Nat) : Int) (.slice (some ⟨g, o, none⟩) nh hc) ts lv (ad : Int)) 57)) := fun W q => q.blk h.blk
  have hNum := fun x W => num8_any x W
  obtain ⟨a, cap, hlv, hL, hcap⟩ := h.lives
  have hRow : Hid (∃ gl ol, a = some ⟨gl, ol, none⟩ ∧ ∀ W, Keeps wr W (fun _ => False) → W.cell? ⟨gl, ol + i * 5, none⟩ = some (.string L[i].key) ∧ W.cell? ⟨gl, ol + i * 5 + 1, none⟩ = some (.string L[i].elem) ∧ W.cell? ⟨gl, ol + i * 5 + 2, none⟩ = some (.int .u64 (L[i].hash : Int)) ∧ W.cell? ⟨gl, ol + i * 5 + 3, none⟩ = some (.int .i64 L[i].birth) ∧ W.cell? ⟨gl, ol + i * 5 + 4, none⟩ = some (.int .i64 L[i].slot)) := by
    rcases hL with rfl | ⟨gl, ol, e, hc⟩
    · simp at hi
    · refine ⟨gl, ol, e, fun W q => ?_⟩
      obtain ⟨x1, x2, x3, x4, x5⟩ := hc i hi
      exact ⟨keeps_cell q id x1, keeps_cell q id x2, keeps_cell q id x3, keeps_cell q id x4, keeps_cell q id x5⟩
  have hw64 := P.word (numT (keyT l n) % nh)
  have hmod : Hid (∀ H : Nat, H < 18446744073709551616 → ((H : Int)).tmod 128 = (H : Int) % 128 ∧ IntKind.u64.wrap ((H : Int) % 128) = (H : Int) % 128 ∧ IntKind.i64.wrap ((H : Int) % 128) = (H : Int) % 128) := fun H hH => ⟨Int.tmod_eq_emod_of_nonneg (by omega), by rw [IntKind.wrap_u64]; omega, by rw [IntKind.wrap_i64]; omega⟩
  obtain ⟨m1, m2, m3⟩ := hmod.out (hsT hv nh (keyT l n)) hw64
  have hlt' : (i : Int) < (L.length : Int) := by omega
  have hi0 : ¬ (i : Int) < 0 := by omega
  clear hmod hK h tie hn P hG8 hfew hp hcap hL hw64
  subst hlv
  generalize hsT hv nh (keyT l n) = H at *
  generalize keyT l n = K at *
  obtain ⟨gl, ol, rfl, hR⟩ := hRow.out
  generalize (H : Int) % 128 = M at *
  generalize L[i].elem = y2 at *
  generalize L[i].hash = y3 at *
  generalize L[i].birth = y4 at *
  generalize L[i].slot = y5 at *
  rw [hk] at hR
  replace hR := hide hR
  clear hRow hk
  go_enter Tryz.func28, Tryz.ntmps28
  go_wp2_with fail
  (with_reducible refine hKey.mono ?_)
  rintro r w1 ⟨rfl, k1⟩
  obtain ⟨t0, t1, t2, t3, t4, t5, t6, t7, t8, t9, t10⟩ := ben_T (hB.out _ k1)
  clear hKey
  go_wp2_with fail
  (with_reducible refine (hGet.out _ k1).mono ?_)
  rintro r w2 ⟨rfl, k2⟩
  have k3 : Keeps wr (w2.alloc (.cells #[.int .i64 2, .int .i64 M, .string K, .string y2, .int .i64 y4] 83)) (fun _ => False) := (k1.trans k2 (fun _ _ e => e)).alloc _
  clear t0 t1 t2 t3 t4 t5 t6 t7 t8 t9 t10
  obtain ⟨t0, t1, t2, t3, t4, t5, t6, t7, t8, t9, t10⟩ := ben_T (hB.out _ k3)
  have hc3 := heap_alloc_new w2 (.cells #[.int .i64 2, .int .i64 M, .string K, .string y2, .int .i64 y4] 83)
  clear k2 k1 hGet
  go_wp2_with fail
  generalize w2.alloc (.cells #[.int .i64 2, .int .i64 M, .string K, .string y2, .int .i64 y4] 83) = W3 at *
  generalize w2.heap.size = B3 at *
  (with_reducible refine (hFi.out _ k3).mono ?_)
  rintro r w4 ⟨rfl, k4⟩
  have k5 := k3.trans k4 (fun _ _ e => e)
  have hc5 := k4.blk hc3
  clear t0 t1 t2 t3 t4 t5 t6 t7 t8 t9 t10 hFi k3 hc3
  go_wp2_with fail
  refine (hNum _ _).mono ?_
  rintro r w6 ⟨rfl, hw⟩
  subst hw
  go_wp2_with fail
  refine (hNum _ _).mono ?_
  rintro r w7 ⟨rfl, hw⟩
  subst hw
  go_wp2_with fail
  (with_reducible refine (hPl.out _ k5).mono ?_)
  rintro r w8 ⟨rfl, k8⟩
  have k9 := k5.trans k8 (fun _ _ e => e)
  obtain ⟨x1, x2, x3, x4, x5⟩ := hR.out _ k9
  obtain ⟨z25, -⟩ := ben_25 (hB.out _ k9)
  have hc9 := k8.blk hc5
  have kA : Keeps w8 (w8.alloc (.cells #[.string K, .string y2, .int .u64 (y3 : Int), .int .i64 y4, .int .i64 y5] 75)) (fun _ => False) := (Keeps.refl _ _).alloc _
  have hKA := hide (k9.trans kA (fun _ _ e => e))
  obtain ⟨v0, v1, v2, v3, v4, -⟩ := five_cells (kA.blk hc9)
  clear k5 k8 k4 hPl hR hB hNum hc5 hc9 kA k9
  go_wp2_with fail
  go_ret
  exact ⟨rfl, hKA.out⟩
theorem asks_any (h : BM w wr b p l G fs ts (.slice (some ⟨g, o, none⟩) nh hc) lv L ad d f c) (P : PlanAt w l G j g o nh hv) (tie : LTie c G f (hsT hv nh) L ad) (n : Int) (hn : fitsI n) :
    Calls Tryz.prog 28 #[.pointer (some ⟨b, 0, none⟩), .int .i64 n] wr fun e w' => e = .returned (.bool true) ∧ Keeps wr w' (fun _ => False) := by
  rcases placeL_spec (keyT l n) L 0 with ⟨-, q⟩ | ⟨i, hi, q1, q2⟩
  · exact asks_no h P tie n hn q
  · exact asks_yes h P tie n hn hi q2 (by rw [q1]; simp)
end
end Go.Proofs.YtmdnknbolgedgaaGreatDoor
/-
  The law's deletes.
-/
namespace Go.Proofs.YtmdnknbolgedgaaGreatDoor
open Go.RowKit Go.Shelf Ly Ct
set_option linter.unusedVariables false

theorem app_run8 {P : Program} (w : World) {ops : Array Oper} {rest : List Oper} {o : Oper} {a : Act} {Q : Exit → Act → World → Prop}
    (hgd : o.guard = none) (s x : Operand) (t : TypeId) (hop : o.op = Op.call { callee := Callee.builtin Builtin.append, args := #[s, x], argTypes := #[t, t] }) {v u v' : Value} {w' : World} (hs : a.eval s = v) (hx : a.eval x = u)
    (hrun : ∀ ty, (Builtin.append_ #[t, t] ty #[v, u]).run P w = .ok v' w') (hK : wpList P ops Q rest (a.put o.dst v') w') : wpList P ops Q (o :: rest) a w := by
  refine wpList_plain hgd fun K hK' => ?_
  unfold Oper.wp
  simp [execOp, hop, resolve, invoke, builtin, hs, hx, hrun, Result.andThen]
  exact hK' _ _ hK
/-- All keys are those of numbers. -/
def Keyed (l : Lay) (L : List LifeD) : Prop := ∀ x, x ∈ L → ∃ n, x.key = keyT l n
theorem Keyed.sub {l : Lay} {L M : List LifeD} (h : Keyed l L) (hs : ∀ x, x ∈ M → ∃ y, y ∈ L ∧ y.key = x.key) : Keyed l M := fun x hx => by
  obtain ⟨y, hy, e⟩ := hs x hx
  obtain ⟨n, hn⟩ := h y hy
  exact ⟨n, by rw [← e, hn]⟩
theorem keyed_gone {l : Lay} {L : List LifeD} {i : Nat} (h : Keyed l L) : Keyed l (L.take i ++ L.drop (i + 1)) := h.sub (fun x hx => by
  rcases List.mem_append.1 hx with q | q
  · exact ⟨x, List.mem_of_mem_take q, rfl⟩
  · exact ⟨x, List.mem_of_mem_drop q, rfl⟩)
theorem keyed_set {l : Lay} {L : List LifeD} {i : Nat} (hi : i < L.length) {e : ByteArray} (h : Keyed l L) : Keyed l (L.set i { L[i] with elem := e }) := h.sub (fun x hx => by
  rcases List.mem_or_eq_of_mem_set hx with q | q
  · exact ⟨x, q, rfl⟩
  · exact ⟨L[i], List.getElem_mem hi, by rw [q]⟩)
theorem keyed_more {l : Lay} {L : List LifeD} {x : LifeD} {n : Int} (hx : x.key = keyT l n) (h : Keyed l L) : Keyed l (L ++ [x]) := fun y hy => by
  rcases List.mem_append.1 hy with q | q
  · exact h y q
  · rw [List.mem_singleton.1 q]
    exact ⟨n, hx⟩
/-- What a turn leaves. -/
def TurnPost (w : World) (b p : Nat) (l : Lay) (G : Nat) (fs ts hs : Value) (hv : Nat → Nat) (nh ad0 : Nat) (f0 : Nat → Int) (L0 : List LifeD) (e : Ending) (w' : World) : Prop :=
  e = .returned (.bool true) ∧ ∃ lv L ad d f c, BM w w' b p l G fs ts hs lv L ad d f c ∧ LTie c G f (hsT hv nh) L ad ∧ ad ≤ ad0 + 1 ∧ (∀ q, q ≠ 3 → q ≠ 5 → f q = f0 q) ∧ (Keyed l L0 → Keyed l L)
section
variable {w wr : World} {b p : Nat} {l : Lay} {G j g o nh hc : Nat} {hv : Nat → Nat} {fs ts lv : Value} {L : List LifeD} {ad : Nat} {d : AD} {f : Nat → Int} {c : Nat → GC}
set_option maxRecDepth 100000 in
set_option maxHeartbeats 4000000 in
theorem deletes_no (h : BM w wr b p l G fs ts (.slice (some ⟨g, o, none⟩) nh hc) lv L ad d f c) (P : PlanAt w l G j g o nh hv) (tie : LTie c G f (hsT hv nh) L ad) (kd n E : Int) (hn : fitsI n) (hno : ∀ x, x ∈ L → x.key ≠ keyT l n) :
    Calls Tryz.prog 55 #[.pointer (some ⟨b, 0, none⟩), .agg #[.int .i64 kd, .int .i64 n, .int .i64 E]] wr fun e w' => TurnPost w b p l G fs ts (.slice (some ⟨g, o, none⟩) nh hc) hv nh ad f L e w' := by
  have hG8 := P.le
  have hfew := tie.few
  have hK := keyT_size h.tab.valid n
  have hKey : Hid (∀ W, Keeps wr W (fun _ => False) → _) := fun W q => bm_key (h.stay q) P n hn
  have hDel : Hid (∀ W, Keeps wr W (fun _ => False) → _) := fun W q => bm_delete_no (h.stay q) P tie hK hno
  have hPl : Hid (∀ W, Keeps wr W (fun _ => False) → _) := fun W q => bm_place (h.stay q) (by omega) (keyT l n)
  have ep : placeL (keyT l n) L 0 = -1 := by
    rcases placeL_spec (keyT l n) L 0 with q | ⟨i, hi, q1, q2⟩
    · exact q.1
    · exact absurd q2 (hno _ (List.getElem_mem hi))
  rw [ep] at hPl
  have hB : Hid (∀ W, Keeps wr W (fun _ => False) → W.heap[b]? = some (.cells (benC p l 16 fs ((8 * G : Nat) : Int) (.slice (some ⟨g, o, none⟩) nh hc) ts lv (ad : Int)) 57)) := fun W q => q.blk h.blk
  have hfin : Hid (∀ W, Keeps wr W (fun _ => False) → TurnPost w b p l G fs ts (.slice (some ⟨g, o, none⟩) nh hc) hv nh ad f L (.returned (.bool true)) W) := fun W q => ⟨rfl, lv, L, ad, d, f, c, h.stay q, tie, by omega, fun _ _ _ => rfl, id⟩
  have hNum := fun x W => num8_any x W
  clear ep hK h tie hno hn P hG8 hfew
  generalize hsT hv nh (keyT l n) = H at *
  generalize keyT l n = K at *
  go_enter Tryz.func55, Tryz.ntmps55
  go_wp2_with fail
  refine alloc1 (P := fun W => Calls _ _ _ W _) fun W0 hb hz k0 => ?_
  (with_reducible refine (hKey.out _ k0).mono ?_)
  rintro r w1 ⟨rfl, k1'⟩
  have k1 := k0.trans k1' (fun _ _ e => e)
  obtain ⟨t0, t1, t2, t3, t4, t5, t6, t7, t8, t9, t10⟩ := ben_T (hB.out _ k1)
  clear hKey k1' k0 hb hz
  go_wp2_with fail
  (with_reducible refine (hDel.out _ k1).mono ?_)
  rintro r w2 ⟨rfl, k2'⟩
  have k2 := k1.trans k2' (fun _ _ e => e)
  clear t0 t1 t2 t3 t4 t5 t6 t7 t8 t9 t10 k2' k1 hDel hB
  go_wp2_with fail
  (with_reducible refine (hPl.out _ k2).mono ?_)
  rintro r w3 ⟨rfl, k3'⟩
  have k3 := k2.trans k3' (fun _ _ e => e)
  clear k3' k2 hPl
  go_wp2_with fail
  refine (hNum _ _).mono ?_
  rintro r w6 ⟨rfl, hw⟩
  subst hw
  go_wp2_with fail
  go_ret
  exact hfin.out _ k3
set_option maxRecDepth 100000 in
set_option maxHeartbeats 4000000 in
theorem deletes_yes (h : BM w wr b p l G fs ts (.slice (some ⟨g, o, none⟩) nh hc) lv L ad d f c) (P : PlanAt w l G j g o nh hv) (tie : LTie c G f (hsT hv nh) L ad) (kd n E : Int) (hn : fitsI n) {i : Nat} (hi : i < L.length) (hk : L[i].key = keyT l n) (hp : placeL (keyT l n) L 0 = (i : Int)) :
    Calls Tryz.prog 55 #[.pointer (some ⟨b, 0, none⟩), .agg #[.int .i64 kd, .int .i64 n, .int .i64 E]] wr fun e w' => TurnPost w b p l G fs ts (.slice (some ⟨g, o, none⟩) nh hc) hv nh ad f L e w' := by
  have hG8 := P.le
  have hfew := tie.few
  have hK := keyT_size h.tab.valid n
  have hKey : Hid (∀ W, Keeps wr W (fun _ => False) → _) := fun W q => bm_key (h.stay q) P n hn
  have hDel : Hid (∀ W, Keeps wr W (fun _ => False) → _) := fun W q => bm_delete_yes (h.stay q) P tie hK hi hk
  have hB : Hid (∀ W, Keeps wr W (fun _ => False) → W.heap[b]? = some (.cells (benC p l 16 fs ((8 * G : Nat) : Int) (.slice (some ⟨g, o, none⟩) nh hc) ts lv (ad : Int)) 57)) := fun W q => q.blk h.blk
  have hNum := fun x W => num8_any x W
  obtain ⟨a, cap, hlv, hL, hcap⟩ := h.lives
  have hlt' : (i : Int) < (L.length : Int) := by omega
  have hi0 : ¬ (i : Int) < 0 := by omega
  have hi1 : (0 : Int) ≤ (i : Int) := by omega
  have HL : Hid (L.length ≤ 1024) := by show L.length ≤ 1024; omega
  clear hK h tie hn P hG8 hfew hL hk
  subst hlv
  have hPl : Hid (∀ {W d f c}, BM w W b p l G fs ts (.slice (some ⟨g, o, none⟩) nh hc) (.slice a L.length cap) L ad d f c → Calls Tryz.prog 50 #[.pointer (some ⟨b, 0, none⟩), .string (keyT l n)] W fun e w' => e = .returned (.int .i64 (i : Int)) ∧ Keeps W w' (fun _ => False)) := fun {W d f c} hh => by
    have := bm_place hh (by have := HL.out; omega) (keyT l n)
    rw [hp] at this
    exact this
  clear hp
  generalize hsT hv nh (keyT l n) = H at *
  generalize keyT l n = K at *
  go_enter Tryz.func55, Tryz.ntmps55
  go_wp2_with fail
  refine alloc1 (P := fun W => Calls _ _ _ W _) fun W0 hb hz k0 => ?_
  (with_reducible refine (hKey.out _ k0).mono ?_)
  rintro r w1 ⟨rfl, k1'⟩
  have k1 := k0.trans k1' (fun _ _ e => e)
  obtain ⟨t0, t1, t2, t3, t4, t5, t6, t7, t8, t9, t10⟩ := ben_T (hB.out _ k1)
  clear hKey k1' k0 hb hz
  go_wp2_with fail
  (with_reducible refine (hDel.out _ k1).mono ?_)
  rintro r w2 ⟨rfl, d', f', c', hB2, hT2, hf2⟩
  clear t0 t1 t2 t3 t4 t5 t6 t7 t8 t9 t10 k1 hDel hB
  replace hf2 := hide hf2
  go_wp2_with fail
  (with_reducible refine (hPl.out hB2).mono ?_)
  rintro r w3 ⟨rfl, k3⟩
  have hB3 := hB2.stay k3
  obtain ⟨gl, v1, w4, hge, hr1, k4, v2, w5, hr2, k5, hB5⟩ := hB3.without rfl hi (by have := HL.out; omega) cap (cap - (i + 1))
  subst hge
  obtain ⟨a2, cap2, hv2, -⟩ := hB5.lives
  subst hv2
  obtain ⟨z25, -⟩ := ben_25 hB3.blk
  obtain ⟨y25, -⟩ := ben_25 (k4.blk hB3.blk)
  obtain ⟨x25, x25f⟩ := ben_25 (k5.blk hB3.blk)
  have hfin : Hid (TurnPost w b p l G fs ts (.slice (some ⟨g, o, none⟩) nh hc) hv nh ad f L (.returned (.bool true)) (w5.setCell ⟨b, 25, none⟩ (.slice a2 (L.take i ++ L.drop (i + 1)).length cap2))) := ⟨rfl, _, _, ad, d', f', c', hB5, hT2, by omega, hf2.out, keyed_gone⟩
  have hic : i ≤ cap := by omega
  have hic1 : i + 1 ≤ cap := by omega
  have hil : i + 1 ≤ L.length := by omega
  have hii : i ≤ L.length := by omega
  have hLL : L.length ≤ 1024 := HL.out
  have hwi : wrap64 ((i : Int) + 1) = (i : Int) + 1 ∧ IntKind.i64.wrap ((i : Int) + 1) = (i : Int) + 1 := wrm (by omega) (by omega)
  obtain ⟨hwi1, hwi2⟩ := hwi
  clear hB3 hB2 hT2 hf2 k3 k4 k5 hB5 hPl
  generalize (L.take i ++ L.drop (i + 1)).length = n2 at *
  go_wp2_with (first | (at_builtin; first | (have _t := hr1; refine app_run8 _ rfl (.tmp 33) (.tmp 39) 55 rfl rfl rfl hr1 ?_; clear hr1) | (have _t := hr2; refine app_run8 _ rfl (.tmp 41) (.tmp 48) 55 rfl rfl rfl hr2 ?_; clear hr2)))
  all_goals
    refine (hNum _ _).mono ?_
    rintro r w6 ⟨rfl, hw⟩
    subst hw
    go_wp2_with fail
    go_ret
    exact hfin.out
theorem deletes_any (h : BM w wr b p l G fs ts (.slice (some ⟨g, o, none⟩) nh hc) lv L ad d f c) (P : PlanAt w l G j g o nh hv) (tie : LTie c G f (hsT hv nh) L ad) (kd n E : Int) (hn : fitsI n) :
    Calls Tryz.prog 55 #[.pointer (some ⟨b, 0, none⟩), .agg #[.int .i64 kd, .int .i64 n, .int .i64 E]] wr fun e w' => TurnPost w b p l G fs ts (.slice (some ⟨g, o, none⟩) nh hc) hv nh ad f L e w' := by
  rcases placeL_spec (keyT l n) L 0 with ⟨-, q⟩ | ⟨i, hi, q1, q2⟩
  · exact deletes_no h P tie kd n E hn q
  · exact deletes_yes h P tie kd n E hn hi q2 (by rw [q1]; simp)
end
end Go.Proofs.YtmdnknbolgedgaaGreatDoor
