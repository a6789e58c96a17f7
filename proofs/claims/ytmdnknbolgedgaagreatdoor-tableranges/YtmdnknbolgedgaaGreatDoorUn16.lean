import Derived.Test.YtmdnknbolgedgaaGreatDoorUn15
/-
  Put of a key that is not there.
-/
namespace Go.Proofs.YtmdnknbolgedgaaGreatDoor
open Go.RowKit Go.Shelf Ly Ct
set_option linter.unusedVariables false

set_option maxRecDepth 100000 in
set_option maxHeartbeats 4000000 in
/-- No room: the first vacant slot is empty, and none is left. -/
theorem tput_full {w : World} {p : Nat} {F : Nat → Prop} {d : AD} {l : Lay} {off gr G : Nat} {f : Nat → Int} {c : Nat → GC} (hA : Arena w p F d) (hF : d.Fine) (h : TabD d l off gr G f c) (h4 : f 4 = ((8 * G : Nat) : Int)) (h7 : f 7 = (gr : Int)) (k : Nat) (hk : k ≤ 13) (hG : G = 2 ^ k) (hT : TabAt w) (H : Nat) (hH : H < 18446744073709551616) (key : ByteArray) (hkey : (key.size : Int) = l.k) (elem : ByteArray) (helem : (elem.size : Int) = l.e) (birth : Int) (hb0 : 0 ≤ birth) (hs : (srchT c ((H : Int) % 128) key (Pb.metN (H / 128) G) G).slot = none) (v : Nat) (hv : (srchT c ((H : Int) % 128) key (Pb.metN (H / 128) G) G).vac = some v) (he : (c v).kind = 0) (hl0 : f 5 ≤ 0) :
    Calls Tryz.prog 15 #[.agg #[.pointer (some ⟨p, 0, none⟩), .int .i64 l.k, .int .i64 l.e, .int .i64 l.a, .int .i64 l.b, .int .i64 l.c, .int .i64 l.eo, .int .i64 l.bo, .int .i64 l.s, .int .i64 l.g, .int .i64 (off : Int)], .int .u64 (H : Int), .string key, .string elem, .int .i64 birth] w fun e w' => e = .returned (.tuple #[.int .i64 3, .int .i64 0]) ∧ Keeps w w' (fun _ => False) := by
  have hS := fun W (q : Keeps w W (fun _ => False)) => search_yes (hA.keeps q (fun _ _ _ e => e)) hF h h4 h7 k hk hG (hT.kp (q.below (Nat.le_refl _) (fun _ _ e => e))) H hH key hkey
  unfold srchV sghC at hS
  rw [hs, hv] at hS
  simp only [optI, slotC, vacE, he, decide_true, GC.zero] at hS
  have heb : (((elem.size : Nat) : Int) != l.e) = false := by simp [helem]
  have hb' : ¬ birth < 0 := by omega
  have hv0 : ¬ ((v : Nat) : Int) < 0 := by omega
  have hm1 : ¬ (0 : Int) ≤ -1 := by omega
  generalize (srchT c ((H : Int) % 128) key (Pb.metN (H / 128) G) G).probes = np at *
  clear h h4 h7 hT hs hv he
  generalize f 0 = f0 at *
  generalize f 1 = f1 at *
  generalize f 2 = f2 at *
  generalize f 3 = f3 at *
  generalize f 4 = f4 at *
  generalize f 5 = f5 at *
  generalize f 6 = f6 at *
  generalize f 7 = f7 at *
  go_enter Tryz.func15, Tryz.ntmps15
  go_wp2_with fail
  refine alloc1 (P := fun W => Calls _ _ _ W _) fun W0 hb hz K0 => ?_
  (with_reducible refine (hS _ K0).mono ?_)
  rintro r w1 ⟨rfl, k1⟩
  have K1 := K0.trans k1 (fun _ _ e => e)
  have k2 : Keeps w1 (w1.alloc (Obj.cells #[.int .i64 f3, .int .i64 f4, .int .i64 f5, .int .i64 f6, .int .i64 f1, .int .i64 f2, .bool (f0 == 4), .int .i64 f7, .int .i64 (np : Int), .int .i64 (-1), .int .i64 0, .int .i64 0, .string ByteArray.empty, .string ByteArray.empty, .int .i64 0, .int .i64 (v : Int), .bool true] 103)) (fun _ => False) := (Keeps.refl _ _).alloc _
  have K2 := hide (K1.trans k2 (fun _ _ e => e))
  obtain ⟨c0, c1, c2, c3, c4, c5, c6, c7, c8, c9, c10⟩ := c11_of (k2.blk (k1.blk hb))
  clear hS k2 K1 k1 K0 hb
  go_wp2_with fail
  go_ret2
  exact ⟨rfl, K2.out⟩

set_option maxRecDepth 100000 in
set_option maxHeartbeats 8000000 in
/-- There is room: the first vacant slot is filled. -/
theorem tput_new {w : World} {p : Nat} {F : Nat → Prop} {d : AD} {l : Lay} {off gr G : Nat} {f : Nat → Int} {c : Nat → GC} (hA : Arena w p F d) (hF : d.Fine) (hSm : d.small) (hFl : ∀ k, F k → k < w.heap.size) (h : TabD d l off gr G f c) (h4 : f 4 = ((8 * G : Nat) : Int)) (h7 : f 7 = (gr : Int)) (k : Nat) (hk : k ≤ 13) (hG : G = 2 ^ k) (hT : TabAt w) (H : Nat) (hH : H < 18446744073709551616) (key : ByteArray) (hkey : (key.size : Int) = l.k) (elem : ByteArray) (helem : (elem.size : Int) = l.e) (birth : Int) (hb0 : 0 ≤ birth) (hs : (srchT c ((H : Int) % 128) key (Pb.metN (H / 128) G) G).slot = none) (v : Nat) (hv : (srchT c ((H : Int) % 128) key (Pb.metN (H / 128) G) G).vac = some v) (em : Bool) (he : decide ((c v).kind = 0) = em) (hl0 : em = true → 0 < f 5) (hl1 : f 5 ≤ 100000) (hl2 : -100000 ≤ f 5) (hu1 : f 3 ≤ 100000) (hu2 : -100000 ≤ f 3) (hb9 : birth ≤ 9223372036854775807) :
    Calls Tryz.prog 15 #[.agg #[.pointer (some ⟨p, 0, none⟩), .int .i64 l.k, .int .i64 l.e, .int .i64 l.a, .int .i64 l.b, .int .i64 l.c, .int .i64 l.eo, .int .i64 l.bo, .int .i64 l.s, .int .i64 l.g, .int .i64 (off : Int)], .int .u64 (H : Int), .string key, .string elem, .int .i64 birth] w fun e w' => e = .returned (.tuple #[.int .i64 2, .int .i64 0]) ∧ TabT w w' p F d l off gr G (updI (if em then updI f 5 (f 5 - 1) else f) 3 (f 3 + 1)) (updN c v (GC.full ((H : Int) % 128) key elem birth)) := by
  have hS := fun W (q : Keeps w W (fun _ => False)) => search_yes (hA.keeps q (fun _ _ _ e => e)) hF h h4 h7 k hk hG (hT.kp (q.below (Nat.le_refl _) (fun _ _ e => e))) H hH key hkey
  unfold srchV sghC at hS
  rw [hs, hv] at hS
  simp only [optI, slotC, vacE, he, GC.zero] at hS
  have heb : (((elem.size : Nat) : Int) != l.e) = false := by simp [helem]
  have hb' : ¬ birth < 0 := by omega
  have hv0 : ¬ ((v : Nat) : Int) < 0 := by omega
  have hm1 : ¬ (0 : Int) ≤ -1 := by omega
  have hG0 := h.pos
  obtain ⟨hv8, hvk⟩ := srch_vac (fun i hi => Pb.metN_lt (by omega)) hv
  have hfew := h.few
  have ho := h.off_le hF
  have hvm := valid_more h.valid
  have hi : v / 8 < G := by omega
  have hgl := h.glen
  have hin := h.in hi
  have hmo := hF.most
  have hPl := fun W => place_any p l (off : Int) (gr : Int) f v W h.valid h7 (by omega) (by omega) (by omega)
  have e : ((gr + v / 8 * l.g.toNat : Nat) : Int) = (gr : Int) + ((v / 8 : Nat) : Int) * l.g := by
    rw [Int.natCast_add, Int.natCast_mul, Int.toNat_of_nonneg (by omega)]
  have hTg := fun W => Op.tag_any H hH W
  have hfy : fitsI ((gr : Int) + ((v / 8 : Nat) : Int) * l.g) := by rw [← e]; exact fitsI_mk (by omega) (by omega)
  have hfg : fitsI l.g := fitsI_mk (by omega) (by omega)
  have hFi : ∀ W (q : Keeps w W (fun _ => False)), Calls Tryz.prog 44 #[.agg #[.pointer (some ⟨p, 0, none⟩), .int .i64 l.k, .int .i64 l.e, .int .i64 l.a, .int .i64 l.b, .int .i64 l.c, .int .i64 l.eo, .int .i64 l.bo, .int .i64 l.s, .int .i64 l.g, .int .i64 ((gr : Int) + ((v / 8 : Nat) : Int) * l.g)], .int .i64 ((v % 8 : Nat) : Int), .int .i64 ((H : Int) % 128), .string key, .string elem, .int .i64 birth] W fun e w' => e = .returned (.int .i64 0) ∧ TabT W w' p F d l off gr G f (updN c v (GC.full ((H : Int) % 128) key elem birth)) := fun W q => by
    have := gfill_any (hA.keeps q (fun _ _ _ e => e)) hF hSm (fun i hi => Nat.lt_of_lt_of_le (hFl i hi) q.size) l ((gr : Int) + ((v / 8 : Nat) : Int) * l.g) ((v % 8 : Nat) : Int) ((H : Int) % 128) key elem birth hb9 hfy hfg
    obtain ⟨r1, r2, r3⟩ := (h.grp (v / 8) hi).fill (i := v % 8) (by omega) (t := (H : Int) % 128) (b := birth) (k := key) (e := elem) (by omega) (by omega) hkey helem hb0 hb9
    rw [← e, r1] at this
    rw [← e]
    refine this.mono ?_
    rintro e w' ⟨rfl, hT⟩
    refine ⟨rfl, _, hT, Alt.grp hi r3, ?_⟩
    have := h.turn hi r2 r3
    rw [updG_updC] at this
    exact this
  have hnF : ∀ q, w.heap.size ≤ q → ¬ F q := fun q h1 h2 => by have := hFl q h2; omega
  obtain ⟨cc, hcc⟩ : ∃ cc, updN c v (GC.full ((H : Int) % 128) key elem birth) = cc := ⟨_, rfl⟩
  rw [hcc] at hFi ⊢
  have hw1 : IntKind.i64.wrap (f 5 - 1) = f 5 - 1 := by rw [IntKind.wrap_i64]; omega
  have hw2 : IntKind.i64.wrap (f 3 + 1) = f 3 + 1 := by rw [IntKind.wrap_i64]; omega
  have hw3 : wrap64 (f 5 - 1) = f 5 - 1 := by unfold wrap64; omega
  have hw4 : wrap64 (f 3 + 1) = f 3 + 1 := by unfold wrap64; omega
  have hfl5 : fitsI (f 5 - 1) := fitsI_mk (by omega) (by omega)
  have hfu3 : fitsI (f 3 + 1) := fitsI_mk (by omega) (by omega)
  have HF := hide (And.intro hFl (And.intro hF (And.intro hfl5 hfu3)))
  clear hfl5 hfu3
  generalize (srchT c ((H : Int) % 128) key (Pb.metN (H / 128) G) G).probes = np at *
  have hrm : em = true → ¬ f 5 ≤ 0 := fun q => by have := hl0 q; omega
  clear h h4 h7 hT hs hv he hvk hin hgl hvm hcc hG hk hmo hl0
  unfold statV at hPl
  generalize (gr : Int) + ((v / 8 : Nat) : Int) * l.g = y at *
  generalize ((v % 8 : Nat) : Int) = vm at *
  cases em
  · clear hrm
    go_enter Tryz.func15, Tryz.ntmps15
    go_wp2_with fail
    refine alloc1 (P := fun W => Calls _ _ _ W _) fun W0 hb hz K0 => ?_
    (with_reducible refine (hS _ K0).mono ?_)
    rintro r w1 ⟨rfl, k1⟩
    have K1 := K0.trans k1 (fun _ _ e => e)
    have k2 : Keeps w1 (w1.alloc (Obj.cells #[.int .i64 (f 3), .int .i64 (f 4), .int .i64 (f 5), .int .i64 (f 6), .int .i64 (f 1), .int .i64 (f 2), .bool (f 0 == 4), .int .i64 (f 7), .int .i64 (np : Int), .int .i64 (-1), .int .i64 0, .int .i64 0, .string ByteArray.empty, .string ByteArray.empty, .int .i64 0, .int .i64 (v : Int), .bool false] 103)) (fun _ => False) := (Keeps.refl _ _).alloc _
    have K2 := K1.trans k2 (fun _ _ e => e)
    have hb2 := k2.blk (k1.blk hb)
    have hsg2 := heap_alloc_new w1 (Obj.cells #[.int .i64 (f 3), .int .i64 (f 4), .int .i64 (f 5), .int .i64 (f 6), .int .i64 (f 1), .int .i64 (f 2), .bool (f 0 == 4), .int .i64 (f 7), .int .i64 (np : Int), .int .i64 (-1), .int .i64 0, .int .i64 0, .string ByteArray.empty, .string ByteArray.empty, .int .i64 0, .int .i64 (v : Int), .bool false] 103)
    obtain ⟨c0, c1, c2, c3, c4, c5, c6, c7, c8, c9, c10⟩ := c11_of hb2
    clear hS k1 K0 hb
    go_wp2_with fail
    (with_reducible refine (hPl _).mono ?_)
    rintro r w3 ⟨rfl, k3⟩
    clear c0 c1 c2 c3 c4 c5 c6 c7 c8 c9 c10 hPl
    have k4 : Keeps w3 (w3.alloc (Obj.cells #[.pointer (some ⟨p, 0, none⟩), .int .i64 l.k, .int .i64 l.e, .int .i64 l.a, .int .i64 l.b, .int .i64 l.c, .int .i64 l.eo, .int .i64 l.bo, .int .i64 l.s, .int .i64 l.g, .int .i64 y] 109)) (fun _ => False) := (Keeps.refl _ _).alloc _
    have k24 := k3.trans k4 (fun _ _ e => e)
    have K4 := K2.trans k24 (fun _ _ e => e)
    have hb4 := k24.blk hb2
    have hsg4 := k24.blk hsg2
    have SD : C11 w3.heap.size p l y (w3.alloc (Obj.cells #[.pointer (some ⟨p, 0, none⟩), .int .i64 l.k, .int .i64 l.e, .int .i64 l.a, .int .i64 l.b, .int .i64 l.c, .int .i64 l.eo, .int .i64 l.bo, .int .i64 l.s, .int .i64 l.g, .int .i64 y] 109)).drew := c11_of (heap_alloc_new w3 (Obj.cells #[.pointer (some ⟨p, 0, none⟩), .int .i64 l.k, .int .i64 l.e, .int .i64 l.a, .int .i64 l.b, .int .i64 l.c, .int .i64 l.eo, .int .i64 l.bo, .int .i64 l.s, .int .i64 l.g, .int .i64 y] 109))
    have hz1 := K1.size
    have hz3 : w1.heap.size < w3.heap.size := by have := k3.size; rw [World.size_alloc] at this; omega
    have hnG : ¬ F w3.heap.size := hnF _ (by omega)
    go_wp2_with fail
    go_region_held3 (fun w' => w'.cell? ⟨w3.heap.size, 0, none⟩ = some (.pointer (some ⟨p, 0, none⟩)) ∧ w'.cell? ⟨w3.heap.size, 1, none⟩ = some (.int .i64 l.k) ∧ w'.cell? ⟨w3.heap.size, 2, none⟩ = some (.int .i64 l.e) ∧ w'.cell? ⟨w3.heap.size, 3, none⟩ = some (.int .i64 l.a) ∧ w'.cell? ⟨w3.heap.size, 4, none⟩ = some (.int .i64 l.b) ∧ w'.cell? ⟨w3.heap.size, 5, none⟩ = some (.int .i64 l.c) ∧ w'.cell? ⟨w3.heap.size, 6, none⟩ = some (.int .i64 l.eo) ∧ w'.cell? ⟨w3.heap.size, 7, none⟩ = some (.int .i64 l.bo) ∧ w'.cell? ⟨w3.heap.size, 8, none⟩ = some (.int .i64 l.s) ∧ w'.cell? ⟨w3.heap.size, 9, none⟩ = some (.int .i64 l.g) ∧ w'.cell? ⟨w3.heap.size, 10, none⟩ = some (.int .i64 y)) (with_reducible assumption)
      (first | (go_at_call 45; (with_reducible refine (hTg _).mono ?_); rintro r wT ⟨rfl, rfl⟩) | (go_at_call 44; (with_reducible refine (hFi _ K4.drew).mono ?_); rintro r w5 ⟨rfl, d5, hT5, hA5, h5⟩; have S5 : C11 w3.heap.size p l y w5 := c11_keeps hT5.2 hnG SD))
    have hb5 := hT5.2.blkS hb4 (hnF _ (Nat.le_refl _))
    have hsg5 := hT5.2.blkS hsg4 (hnF _ (by omega))
    obtain ⟨c0, c1, c2, c3, c4, c5, c6, c7, c8, c9, c10⟩ := c11_of hb5
    obtain ⟨⟨u0, -, u2, -, -, -, -, -, -, -, -, -, -, -, -, -, u16⟩, -⟩ := r17_cells hsg5
    have hz4 : (w3.alloc (Obj.cells #[.pointer (some ⟨p, 0, none⟩), .int .i64 l.k, .int .i64 l.e, .int .i64 l.a, .int .i64 l.b, .int .i64 l.c, .int .i64 l.eo, .int .i64 l.bo, .int .i64 l.s, .int .i64 l.g, .int .i64 y] 109)).drew.heap.size = w3.heap.size + 1 := World.size_alloc _ _
    have hnF5 : ∀ q, w.heap.size ≤ q → q ≤ w3.heap.size → ¬ ((F q ∨ (w3.alloc (Obj.cells #[.pointer (some ⟨p, 0, none⟩), .int .i64 l.k, .int .i64 l.e, .int .i64 l.a, .int .i64 l.b, .int .i64 l.c, .int .i64 l.eo, .int .i64 l.bo, .int .i64 l.s, .int .i64 l.g, .int .i64 y] 109)).drew.heap.size ≤ q) ∧ q < w5.heap.size) := fun q q1 q2 q3 => by
      rcases q3.1 with e | e
      · exact hnF q q1 e
      · omega
    obtain ⟨hFl', hF', hfl5, hfu3⟩ := HF.out
    clear hFi hTg S5 SD
    have hSe := tset_tab hT5.arena (hA5.fine hF') (fun _ q => q.2) h5 3 (by omega) (f 3 + 1) hfu3
    rw [show ((3 : Nat) : Int) = 3 from rfl] at hSe
    go_wp2_with fail
    (with_reducible refine hSe.mono ?_)
    rintro r w7 ⟨rfl, d7, hT7, hF7, h7, ht7⟩
    have HP : Hid (TabT w w7 p F d l off gr G (updI (if false = true then updI f 5 (f 5 - 1) else f) 3 (f 3 + 1)) cc) := ⟨d7, (hT5.then hT7).pre K4.drew, hA5.trans (Alt.head ht7), h7⟩
    clear hSe h7 hT7 hF7 ht7 h5 hT5 hA5 c0 c1 c2 c3 c4 c5 c6 c7 c8 c9 c10 u0
    go_wp2_with fail
    go_ret2
    exact ⟨rfl, HP.out⟩
  · have hrm2 : ¬ f 5 ≤ 0 := hrm rfl
    go_enter Tryz.func15, Tryz.ntmps15
    go_wp2_with fail
    refine alloc1 (P := fun W => Calls _ _ _ W _) fun W0 hb hz K0 => ?_
    (with_reducible refine (hS _ K0).mono ?_)
    rintro r w1 ⟨rfl, k1⟩
    have K1 := K0.trans k1 (fun _ _ e => e)
    have k2 : Keeps w1 (w1.alloc (Obj.cells #[.int .i64 (f 3), .int .i64 (f 4), .int .i64 (f 5), .int .i64 (f 6), .int .i64 (f 1), .int .i64 (f 2), .bool (f 0 == 4), .int .i64 (f 7), .int .i64 (np : Int), .int .i64 (-1), .int .i64 0, .int .i64 0, .string ByteArray.empty, .string ByteArray.empty, .int .i64 0, .int .i64 (v : Int), .bool true] 103)) (fun _ => False) := (Keeps.refl _ _).alloc _
    have K2 := K1.trans k2 (fun _ _ e => e)
    have hb2 := k2.blk (k1.blk hb)
    have hsg2 := heap_alloc_new w1 (Obj.cells #[.int .i64 (f 3), .int .i64 (f 4), .int .i64 (f 5), .int .i64 (f 6), .int .i64 (f 1), .int .i64 (f 2), .bool (f 0 == 4), .int .i64 (f 7), .int .i64 (np : Int), .int .i64 (-1), .int .i64 0, .int .i64 0, .string ByteArray.empty, .string ByteArray.empty, .int .i64 0, .int .i64 (v : Int), .bool true] 103)
    obtain ⟨c0, c1, c2, c3, c4, c5, c6, c7, c8, c9, c10⟩ := c11_of hb2
    clear hS k1 K0 hb
    go_wp2_with fail
    (with_reducible refine (hPl _).mono ?_)
    rintro r w3 ⟨rfl, k3⟩
    clear c0 c1 c2 c3 c4 c5 c6 c7 c8 c9 c10 hPl
    have k4 : Keeps w3 (w3.alloc (Obj.cells #[.pointer (some ⟨p, 0, none⟩), .int .i64 l.k, .int .i64 l.e, .int .i64 l.a, .int .i64 l.b, .int .i64 l.c, .int .i64 l.eo, .int .i64 l.bo, .int .i64 l.s, .int .i64 l.g, .int .i64 y] 109)) (fun _ => False) := (Keeps.refl _ _).alloc _
    have k24 := k3.trans k4 (fun _ _ e => e)
    have K4 := K2.trans k24 (fun _ _ e => e)
    have hb4 := k24.blk hb2
    have hsg4 := k24.blk hsg2
    have SD : C11 w3.heap.size p l y (w3.alloc (Obj.cells #[.pointer (some ⟨p, 0, none⟩), .int .i64 l.k, .int .i64 l.e, .int .i64 l.a, .int .i64 l.b, .int .i64 l.c, .int .i64 l.eo, .int .i64 l.bo, .int .i64 l.s, .int .i64 l.g, .int .i64 y] 109)).drew := c11_of (heap_alloc_new w3 (Obj.cells #[.pointer (some ⟨p, 0, none⟩), .int .i64 l.k, .int .i64 l.e, .int .i64 l.a, .int .i64 l.b, .int .i64 l.c, .int .i64 l.eo, .int .i64 l.bo, .int .i64 l.s, .int .i64 l.g, .int .i64 y] 109))
    have hz1 := K1.size
    have hz3 : w1.heap.size < w3.heap.size := by have := k3.size; rw [World.size_alloc] at this; omega
    have hnG : ¬ F w3.heap.size := hnF _ (by omega)
    go_wp2_with fail
    go_region_held3 (fun w' => w'.cell? ⟨w3.heap.size, 0, none⟩ = some (.pointer (some ⟨p, 0, none⟩)) ∧ w'.cell? ⟨w3.heap.size, 1, none⟩ = some (.int .i64 l.k) ∧ w'.cell? ⟨w3.heap.size, 2, none⟩ = some (.int .i64 l.e) ∧ w'.cell? ⟨w3.heap.size, 3, none⟩ = some (.int .i64 l.a) ∧ w'.cell? ⟨w3.heap.size, 4, none⟩ = some (.int .i64 l.b) ∧ w'.cell? ⟨w3.heap.size, 5, none⟩ = some (.int .i64 l.c) ∧ w'.cell? ⟨w3.heap.size, 6, none⟩ = some (.int .i64 l.eo) ∧ w'.cell? ⟨w3.heap.size, 7, none⟩ = some (.int .i64 l.bo) ∧ w'.cell? ⟨w3.heap.size, 8, none⟩ = some (.int .i64 l.s) ∧ w'.cell? ⟨w3.heap.size, 9, none⟩ = some (.int .i64 l.g) ∧ w'.cell? ⟨w3.heap.size, 10, none⟩ = some (.int .i64 y)) (with_reducible assumption)
      (first | (go_at_call 45; (with_reducible refine (hTg _).mono ?_); rintro r wT ⟨rfl, rfl⟩) | (go_at_call 44; (with_reducible refine (hFi _ K4.drew).mono ?_); rintro r w5 ⟨rfl, d5, hT5, hA5, h5⟩; have S5 : C11 w3.heap.size p l y w5 := c11_keeps hT5.2 hnG SD))
    have hb5 := hT5.2.blkS hb4 (hnF _ (Nat.le_refl _))
    have hsg5 := hT5.2.blkS hsg4 (hnF _ (by omega))
    obtain ⟨c0, c1, c2, c3, c4, c5, c6, c7, c8, c9, c10⟩ := c11_of hb5
    obtain ⟨⟨u0, -, u2, -, -, -, -, -, -, -, -, -, -, -, -, -, u16⟩, -⟩ := r17_cells hsg5
    have hz4 : (w3.alloc (Obj.cells #[.pointer (some ⟨p, 0, none⟩), .int .i64 l.k, .int .i64 l.e, .int .i64 l.a, .int .i64 l.b, .int .i64 l.c, .int .i64 l.eo, .int .i64 l.bo, .int .i64 l.s, .int .i64 l.g, .int .i64 y] 109)).drew.heap.size = w3.heap.size + 1 := World.size_alloc _ _
    have hnF5 : ∀ q, w.heap.size ≤ q → q ≤ w3.heap.size → ¬ ((F q ∨ (w3.alloc (Obj.cells #[.pointer (some ⟨p, 0, none⟩), .int .i64 l.k, .int .i64 l.e, .int .i64 l.a, .int .i64 l.b, .int .i64 l.c, .int .i64 l.eo, .int .i64 l.bo, .int .i64 l.s, .int .i64 l.g, .int .i64 y] 109)).drew.heap.size ≤ q) ∧ q < w5.heap.size) := fun q q1 q2 q3 => by
      rcases q3.1 with e | e
      · exact hnF q q1 e
      · omega
    obtain ⟨hFl', hF', hfl5, hfu3⟩ := HF.out
    clear hFi hTg S5 SD
    have hSe := tset_tab hT5.arena (hA5.fine hF') (fun _ q => q.2) h5 5 (by omega) (f 5 - 1) hfl5
    rw [show ((5 : Nat) : Int) = 5 from rfl] at hSe
    go_wp2_with fail
    (with_reducible refine hSe.mono ?_)
    rintro r w6 ⟨rfl, d6, hT6, hF6, h6, ht6⟩
    have hT56 := hT5.then hT6
    have hA6 := hA5.trans (Alt.head ht6)
    have hb6 := hT6.2.blkS hb5 (hnF5 _ (Nat.le_refl _) (by omega))
    have hsg6 := hT6.2.blkS hsg5 (hnF5 _ (by omega) (by omega))
    clear c0 c1 c2 c3 c4 c5 c6 c7 c8 c9 c10 u0 u2 u16 hSe
    obtain ⟨c0, c1, c2, c3, c4, c5, c6, c7, c8, c9, c10⟩ := c11_of hb6
    obtain ⟨⟨u0, -⟩, -⟩ := r17_cells hsg6
    have hSe := tset_tab hT56.arena hF6 (fun _ q => q.2) h6 3 (by omega) (f 3 + 1) hfu3
    rw [show ((3 : Nat) : Int) = 3 from rfl] at hSe
    go_wp2_with fail
    (with_reducible refine hSe.mono ?_)
    rintro r w7 ⟨rfl, d7, hT7, hF7, h7, ht7⟩
    have HP : Hid (TabT w w7 p F d l off gr G (updI (if true = true then updI f 5 (f 5 - 1) else f) 3 (f 3 + 1)) cc) := ⟨d7, (hT56.then hT7).pre K4.drew, hA6.trans (Alt.head ht7), h7⟩
    clear hSe h7 hT7 hF7 ht7 h5 hT5 hA5 c0 c1 c2 c3 c4 c5 c6 c7 c8 c9 c10 u0
    go_wp2_with fail
    go_ret2
    exact ⟨rfl, HP.out⟩
end Go.Proofs.YtmdnknbolgedgaaGreatDoor
/-
  Keys of one hash, put one by one: as data.
-/
namespace Go.Proofs.YtmdnknbolgedgaaGreatDoor
open Go.RowKit Go.Shelf Ly Ct
set_option linter.unusedVariables false

theorem tx_inj {a b w : Nat} (ha : a < 65536) (hb : b < 65536) (hw : 2 ≤ w) (h : strOf (txL (a : Int) w) = strOf (txL (b : Int) w)) : a = b := by
  have h1 : txL (a : Int) w = txL (b : Int) w := by simpa [strOf] using h
  have g : ∀ i, i < w → txB (a : Int) i = txB (b : Int) i := fun i hi => by
    have := congrArg (fun x => x[i]?) h1
    simpa [txL, hi] using this
  have e0 := txB_nat (a : Int) 0
  have e1 := txB_nat (a : Int) 1
  rw [g 0 (by omega), txB_nat] at e0
  rw [g 1 (by omega), txB_nat] at e1
  simp only [Int.pow_zero, Int.ediv_one] at e0
  rw [show (256 : Int) ^ 1 = 256 from rfl] at e1
  omega
theorem tx_size (n : Int) (w : Nat) : (strOf (txL n w)).size = w := by simp [strOf, ByteArray.size, txL]

/-- The first k of the keys tx lie on the way m, eight in each group. -/
def PileAt (c : Nat → GC) (m : Nat → Nat) (G : Nat) (tag : Int) (tx ex : Nat → ByteArray) (k : Nat) : Prop :=
  ∀ i, i < G → ∀ j, j < 8 → c (8 * m i + j) = if 8 * i + j < k then GC.full tag (tx (8 * i + j)) (ex (8 * i + j)) ((8 * i + j : Nat) : Int) else GC.zero
section
variable {c : Nat → GC} {m : Nat → Nat} {G : Nat} {tag : Int} {tx ex : Nat → ByteArray} {k : Nat}
theorem pile_new : PileAt (fun _ => GC.zero) m G tag tx ex 0 := fun i _ j _ => by rw [if_neg (by omega)]
theorem pile_step (h : PileAt c m G tag tx ex k) (hk : k < 8 * G) (hm : ∀ i j, i < G → j < G → m i = m j → i = j) : PileAt (updN c (8 * m (k / 8) + k % 8) (GC.full tag (tx k) (ex k) (k : Int))) m G tag tx ex (k + 1) := fun i hi j hj => by
  unfold updN
  by_cases e : 8 * i + j = k
  · have h1 : i = k / 8 := by omega
    have h2 : j = k % 8 := by omega
    rw [if_pos (by rw [h1, h2]), if_pos (by omega), e]
  · rw [if_neg (fun q => e (by
      have h1 : m i = m (k / 8) := by omega
      have h2 := hm i (k / 8) hi (by omega) h1
      rw [h2] at q
      omega)), h i hi j hj]
    by_cases e2 : 8 * i + j < k
    · rw [if_pos e2, if_pos (by omega)]
    · rw [if_neg e2, if_neg (by omega)]
theorem pile_mt (h : PileAt c m G tag tx ex k) {B q : Nat} (hB : ∀ a b, a < B → b < B → tx a = tx b → a = b) (hk : k ≤ B) (hq : q < B) {i : Nat} (hi : i < G) {j : Nat} (hj : j < 8) : mtC (grpC c (m i)) tag (tx q) j = decide (8 * i + j = q ∧ q < k) := by
  unfold mtC grpC
  rw [h i hi j hj]
  by_cases e : 8 * i + j < k
  · rw [if_pos e]
    refine decide_eq_decide.2 ⟨fun z => ?_, fun z => ⟨rfl, rfl, by show tx (8 * i + j) = tx q; rw [z.1]⟩⟩
    have := hB _ _ (by omega) hq z.2.2
    omega
  · rw [if_neg e]
    exact decide_eq_decide.2 ⟨fun z => absurd z.1 (by decide), fun z => absurd z (by omega)⟩
theorem pile_none (h : PileAt c m G tag tx ex k) {B q : Nat} (hB : ∀ a b, a < B → b < B → tx a = tx b → a = b) (hk : k ≤ B) (hq : q < B) {i : Nat} (hi : i < G) (hn : k ≤ q ∨ i ≠ q / 8) : ¬ hitG c tag (tx q) (m i) < 8 := by
  have : hitG c tag (tx q) (m i) = 8 := low_none fun z hz => by
    rw [pile_mt h hB hk hq hi hz]
    exact decide_eq_false (by omega)
  omega
theorem pile_hit (h : PileAt c m G tag tx ex k) {B q : Nat} (hB : ∀ a b, a < B → b < B → tx a = tx b → a = b) (hk : k ≤ B) (hq : q < B) (hi : q / 8 < G) (hn : q < k) : hitG c tag (tx q) (m (q / 8)) = q % 8 := by
  refine low_is (by omega) ?_ (fun z hz => ?_)
  · rw [pile_mt h hB hk hq hi (by omega)]
    exact decide_eq_true (by omega)
  · rw [pile_mt h hB hk hq hi (by omega)]
    exact decide_eq_false (by omega)
theorem pile_kind (h : PileAt c m G tag tx ex k) {i : Nat} (hi : i < G) {j : Nat} (hj : j < 8) : (grpC c (m i) j).kind = if 8 * i + j < k then 2 else 0 := by
  unfold grpC
  rw [h i hi j hj]
  by_cases e : 8 * i + j < k
  · rw [if_pos e, if_pos e]; rfl
  · rw [if_neg e, if_neg e]; rfl
theorem pile_emp (h : PileAt c m G tag tx ex k) {i : Nat} (hi : i < G) : empG c (m i) = decide (k < 8 * i + 8) := by
  unfold empG
  by_cases e : k < 8 * i + 8
  · rw [decide_eq_true e, List.any_eq_true]
    refine ⟨7, by simp, decide_eq_true ?_⟩
    rw [pile_kind h hi (by omega), if_neg (by omega)]
  · rw [decide_eq_false e, List.any_eq_false]
    intro j hj
    have hj8 : j < 8 := by simpa using hj
    rw [pile_kind h hi hj8, if_pos (by omega)]
    decide
theorem pile_full (h : PileAt c m G tag tx ex k) {i : Nat} (hi : i < G) (he : 8 * i + 8 ≤ k) : vacG c (m i) = 8 := low_none fun z hz => by
  refine decide_eq_false fun q => q ?_
  rw [pile_kind h hi hz, if_pos (by omega)]
theorem pile_vac (h : PileAt c m G tag tx ex k) (hi : k / 8 < G) : vacG c (m (k / 8)) = k % 8 := by
  refine low_is (by omega) (decide_eq_true ?_) (fun z hz => decide_eq_false fun q => q ?_)
  · rw [pile_kind h hi (by omega), if_neg (by omega)]
    decide
  · rw [pile_kind h hi (by omega), if_pos (by omega)]
theorem pile_vacS (h : PileAt c m G tag tx ex k) : ∀ s, s ≤ G → 8 * s ≤ k → vacS c m s = none
  | 0, _, _ => rfl
  | s + 1, h1, h2 => by
    unfold vacS
    rw [pile_vacS h s (by omega) (by omega)]
    simp only [meetV]
    rw [pile_full h (by omega) (by omega), if_neg (by omega)]
theorem pile_goes (h : PileAt c m G tag tx ex k) {B q : Nat} (hB : ∀ a b, a < B → b < B → tx a = tx b → a = b) (hk : k ≤ B) (hq : q < B) {s : Nat} (hs : s ≤ G) (h8 : 8 * s ≤ k) (hn : k ≤ q ∨ s ≤ q / 8) : goes c tag (tx q) m s := fun i hi =>
  ⟨pile_none h hB hk hq (by omega) (by omega), by rw [pile_emp h (by omega)]; exact decide_eq_false (by omega)⟩
/-- A key that is there is found in its slot. -/
theorem pile_there (h : PileAt c m G tag tx ex k) {B q : Nat} (hB : ∀ a b, a < B → b < B → tx a = tx b → a = b) (hk : k ≤ B) (hk8 : k ≤ 8 * G) (hn : q < k) : ∃ v, srchT c tag (tx q) m G = ⟨q / 8 + 1, some (8 * m (q / 8) + q % 8), v⟩ := by
  have hq : q < B := by omega
  have hh := pile_hit h hB hk hq (by omega) hn
  have := srch_hit (G := G) (pile_goes h hB hk hq (s := q / 8) (by omega) (by omega) (Or.inr (Nat.le_refl _))) (by omega) (by rw [hh]; omega)
  rw [hh] at this
  exact ⟨_, this⟩
/-- One that is not there is not found; the first vacant slot is the next one. -/
theorem pile_absent (h : PileAt c m G tag tx ex k) {B q : Nat} (hB : ∀ a b, a < B → b < B → tx a = tx b → a = b) (hk : k ≤ B) (hq : q < B) (hk8 : k < 8 * G) (hn : k ≤ q) : srchT c tag (tx q) m G = ⟨k / 8 + 1, none, some (8 * m (k / 8) + k % 8)⟩ ∧ (c (8 * m (k / 8) + k % 8)).kind = 0 := by
  have hi : k / 8 < G := by omega
  have := srch_emp (G := G) (pile_goes h hB hk hq (s := k / 8) (by omega) (by omega) (Or.inl hn)) hi (pile_none h hB hk hq hi (Or.inl hn)) (by rw [pile_emp h hi]; exact decide_eq_true (by omega))
  have hv : vacS c m (k / 8 + 1) = some (8 * m (k / 8) + k % 8) := by
    unfold vacS
    rw [pile_vacS h (k / 8) (by omega) (by omega)]
    simp only [meetV]
    rw [pile_vac h hi, if_pos (by omega)]
  rw [hv] at this
  refine ⟨this, ?_⟩
  have := pile_kind h hi (j := k % 8) (by omega)
  unfold grpC at this
  rw [this, if_neg (by omega)]
end
end Go.Proofs.YtmdnknbolgedgaaGreatDoor
/-
  A pile of keys of one hash in a table, beside the statement's variables.
-/
namespace Go.Proofs.YtmdnknbolgedgaaGreatDoor
open Go.RowKit Go.Shelf Ly Ct
set_option linter.unusedVariables false

theorem num8_any (x : Int) (w : World) : Calls Tryz.prog 11 #[.int .i64 x] w fun e w' => e = .returned (.int .i64 x) ∧ w' = w := by
  go_enter Tryz.func11, Tryz.ntmps11
  go_wp2
  go_ret
  exact ⟨rfl, rfl⟩
def txK (l : Lay) (q : Nat) : ByteArray := strOf (txL (q : Int) l.k.toNat)
def txE (l : Lay) (q : Nat) : ByteArray := strOf (txL (q : Int) l.e.toNat)
theorem txK_inj {l : Lay} (h2 : 2 ≤ l.k) : ∀ a b, a < 65536 → b < 65536 → txK l a = txK l b → a = b := fun a b ha hb h => tx_inj ha hb (by omega) h

/-- The pile beside the variables p, l, t of the statement. -/
structure PS (w wr : World) (p B1 B3 B7 : Nat) (sl : Value) (S N : Int) (H : Nat) (l : Lay) (G k : Nat) : Prop where
  b1 : wr.heap[B1]? = some (.cells #[sl, .int .i64 S, .int .i64 N, .int .u64 (H : Int)] 25)
  b3 : wr.heap[B3]? = some (.cells #[.int .i64 l.k, .int .i64 l.e, .int .i64 l.a, .int .i64 l.b, .int .i64 l.c, .int .i64 l.eo, .int .i64 l.bo, .int .i64 l.s, .int .i64 l.g] 27)
  b7 : wr.heap[B7]? = some (.cells #[.pointer (some ⟨p, 0, none⟩), .int .i64 l.k, .int .i64 l.e, .int .i64 l.a, .int .i64 l.b, .int .i64 l.c, .int .i64 l.eo, .int .i64 l.bo, .int .i64 l.s, .int .i64 l.g, .int .i64 (16 : Int)] 36)
  dat : ∃ d f c, Own w wr p (fun q => q = B1 ∨ q = B3 ∨ q = B7) d ∧ d.Fine ∧ d.small ∧ TabD d l 16 80 G f c ∧ f 3 = (k : Int) ∧ f 4 = ((8 * G : Nat) : Int) ∧ f 5 = 7 * (G : Int) - (k : Int) ∧ f 7 = ((80 : Nat) : Int) ∧ PileAt c (Pb.metN (H / 128) G) G ((H : Int) % 128) (txK l) (txE l) k
section
variable {w wr wr' : World} {p B1 B3 B7 : Nat} {sl : Value} {S N : Int} {H : Nat} {l : Lay} {G k : Nat}
theorem PS.stay (h : PS w wr p B1 B3 B7 sl S N H l G k) (q : Keeps wr wr' (fun _ => False)) : PS w wr' p B1 B3 B7 sl S N H l G k := by
  obtain ⟨d, f, c, h1, h2⟩ := h.dat
  exact ⟨q.blk h.b1, q.blk h.b3, q.blk h.b7, d, f, c, ⟨h1.arena.keeps q (fun _ _ _ e => e), h1.keeps.trans q (fun _ _ e => e)⟩, h2⟩
theorem PS.keep (h : PS w wr p B1 B3 B7 sl S N H l G k) : Keeps w wr (fun _ => False) := by
  obtain ⟨d, f, c, h1, h2⟩ := h.dat
  exact h1.keeps
theorem ps_probes (h : PS w wr p B1 B3 B7 sl S N H l G k) (hT : TabAt w) {j : Nat} (hj : j ≤ 5) (hG : G = 2 ^ j) (hH : H < 18446744073709551616) (h2 : 2 ≤ l.k) (hk : k ≤ 7 * G) {q : Nat} (hq : q < 65536) :
    Calls Tryz.prog 13 #[.agg #[.pointer (some ⟨p, 0, none⟩), .int .i64 l.k, .int .i64 l.e, .int .i64 l.a, .int .i64 l.b, .int .i64 l.c, .int .i64 l.eo, .int .i64 l.bo, .int .i64 l.s, .int .i64 l.g, .int .i64 (16 : Int)], .int .u64 (H : Int), .string (txK l q)] wr fun e w' => e = .returned (.tuple #[.int .i64 (((if q < k then q / 8 + 1 else k / 8 + 1 : Nat)) : Int), .int .i64 0]) ∧ Keeps wr w' (fun _ => False) := by
  obtain ⟨d, f, c, hO, hF, hSm, hD, f3, f4, f5, f7, hP⟩ := h.dat
  have hvm := valid_more hD.valid
  have hks : ((txK l q).size : Int) = l.k := by unfold txK; rw [tx_size]; omega
  have hG0 := hD.pos
  have hG32 : G ≤ 32 := by rw [hG]; exact Nat.pow_le_pow_right (by decide) hj
  have := tprobes_yes hO.here hF hD f4 f7 j (by omega) hG (hT.kp (hO.keeps.below (Nat.le_refl _) (fun _ _ e => e))) H hH (txK l q) hks
  refine this.mono ?_
  rintro e w' ⟨rfl, kk⟩
  refine ⟨?_, kk⟩
  by_cases hqk : q < k
  · obtain ⟨v, hv⟩ := pile_there hP (txK_inj h2) (by omega) (by omega) hqk
    rw [hv, if_pos hqk]
  · have hv := (pile_absent hP (txK_inj h2) (by omega) hq (by omega) (by omega)).1
    rw [hv, if_neg hqk]
theorem ps_find (h : PS w wr p B1 B3 B7 sl S N H l G k) (hT : TabAt w) {j : Nat} (hj : j ≤ 5) (hG : G = 2 ^ j) (hH : H < 18446744073709551616) (h2 : 2 ≤ l.k) (hk : k ≤ 7 * G) {q : Nat} (hqk : q < k) :
    Calls Tryz.prog 16 #[.agg #[.pointer (some ⟨p, 0, none⟩), .int .i64 l.k, .int .i64 l.e, .int .i64 l.a, .int .i64 l.b, .int .i64 l.c, .int .i64 l.eo, .int .i64 l.bo, .int .i64 l.s, .int .i64 l.g, .int .i64 (16 : Int)], .int .u64 (H : Int), .string (txK l q)] wr fun e w' => e = .returned (.tuple #[.int .i64 (((8 * Pb.metN (H / 128) G (q / 8) + q % 8 : Nat)) : Int), .int .i64 0]) ∧ Keeps wr w' (fun _ => False) := by
  obtain ⟨d, f, c, hO, hF, hSm, hD, f3, f4, f5, f7, hP⟩ := h.dat
  have hvm := valid_more hD.valid
  have hks : ((txK l q).size : Int) = l.k := by unfold txK; rw [tx_size]; omega
  have hG32 : G ≤ 32 := by rw [hG]; exact Nat.pow_le_pow_right (by decide) hj
  have := tfind_yes hO.here hF hD f4 f7 j (by omega) hG (hT.kp (hO.keeps.below (Nat.le_refl _) (fun _ _ e => e))) H hH (txK l q) hks
  refine this.mono ?_
  rintro e w' ⟨rfl, kk⟩
  obtain ⟨v, hv⟩ := pile_there hP (txK_inj h2) (by omega) (by omega) hqk
  rw [hv]
  exact ⟨rfl, kk⟩
theorem ps_put_full (h : PS w wr p B1 B3 B7 sl S N H l G k) (hT : TabAt w) {j : Nat} (hj : j ≤ 5) (hG : G = 2 ^ j) (hH : H < 18446744073709551616) (h2 : 2 ≤ l.k) (hk : k = 7 * G) {q : Nat} (hq : q < 65536) (hqk : k ≤ q) :
    Calls Tryz.prog 15 #[.agg #[.pointer (some ⟨p, 0, none⟩), .int .i64 l.k, .int .i64 l.e, .int .i64 l.a, .int .i64 l.b, .int .i64 l.c, .int .i64 l.eo, .int .i64 l.bo, .int .i64 l.s, .int .i64 l.g, .int .i64 (16 : Int)], .int .u64 (H : Int), .string (txK l q), .string (txE l q), .int .i64 (q : Int)] wr fun e w' => e = .returned (.tuple #[.int .i64 3, .int .i64 0]) ∧ PS w w' p B1 B3 B7 sl S N H l G k := by
  obtain ⟨d, f, c, hO, hF, hSm, hD, f3, f4, f5, f7, hP⟩ := h.dat
  have hvm := valid_more hD.valid
  have hks : ((txK l q).size : Int) = l.k := by unfold txK; rw [tx_size]; omega
  have hes : ((txE l q).size : Int) = l.e := by unfold txE; rw [tx_size]; omega
  have hG0 := hD.pos
  have hG32 : G ≤ 32 := by rw [hG]; exact Nat.pow_le_pow_right (by decide) hj
  obtain ⟨hv, hz⟩ := pile_absent hP (txK_inj h2) (by omega) hq (by omega) hqk
  have := tput_full hO.here hF hD f4 f7 j (by omega) hG (hT.kp (hO.keeps.below (Nat.le_refl _) (fun _ _ e => e))) H hH (txK l q) hks (txE l q) hes (q : Int) (by omega) (by rw [hv]) _ (by rw [hv]) hz (by rw [f5]; omega)
  refine this.mono ?_
  rintro e w' ⟨rfl, kk⟩
  exact ⟨rfl, h.stay kk⟩
theorem ps_put_new (h : PS w wr p B1 B3 B7 sl S N H l G k) (hT : TabAt w) {j : Nat} (hj : j ≤ 5) (hG : G = 2 ^ j) (hH : H < 18446744073709551616) (h2 : 2 ≤ l.k) (hk : k < 7 * G) (hB : B1 < wr.heap.size ∧ B3 < wr.heap.size ∧ B7 < wr.heap.size) :
    Calls Tryz.prog 15 #[.agg #[.pointer (some ⟨p, 0, none⟩), .int .i64 l.k, .int .i64 l.e, .int .i64 l.a, .int .i64 l.b, .int .i64 l.c, .int .i64 l.eo, .int .i64 l.bo, .int .i64 l.s, .int .i64 l.g, .int .i64 (16 : Int)], .int .u64 (H : Int), .string (txK l k), .string (txE l k), .int .i64 (k : Int)] wr fun e w' => e = .returned (.tuple #[.int .i64 2, .int .i64 0]) ∧ PS w w' p B1 B3 B7 sl S N H l G (k + 1) := by
  obtain ⟨d, f, c, hO, hF, hSm, hD, f3, f4, f5, f7, hP⟩ := h.dat
  have hvm := valid_more hD.valid
  have hks : ((txK l k).size : Int) = l.k := by unfold txK; rw [tx_size]; omega
  have hes : ((txE l k).size : Int) = l.e := by unfold txE; rw [tx_size]; omega
  have hG0 := hD.pos
  have hG32 : G ≤ 32 := by rw [hG]; exact Nat.pow_le_pow_right (by decide) hj
  obtain ⟨hv, hz⟩ := pile_absent hP (txK_inj h2) (B := 65536) (q := k) (by omega) (by omega) (by omega) (Nat.le_refl _)
  have := tput_new hO.here hF hSm (fun _ q => q.2) hD f4 f7 j (by omega) hG (hT.kp (hO.keeps.below (Nat.le_refl _) (fun _ _ e => e))) H hH (txK l k) hks (txE l k) hes (k : Int) (by omega) (by rw [hv]) _ (by rw [hv]) true (decide_eq_true hz) (fun _ => by rw [f5]; omega) (by rw [f5]; omega) (by rw [f5]; omega) (by rw [f3]; omega) (by rw [f3]; omega) (by omega)
  refine this.mono ?_
  rintro e w' ⟨rfl, d', hTu, hAl, hD'⟩
  refine ⟨rfl, ?_⟩
  have hnX : ∀ q, (q = B1 ∨ q = B3 ∨ q = B7) → ¬ ((w.heap.size ≤ q ∧ ¬ (q = B1 ∨ q = B3 ∨ q = B7)) ∧ q < wr.heap.size) := fun q hq e => e.1.2 hq
  have hm : ∀ a b, a < G → b < G → Pb.metN (H / 128) G a = Pb.metN (H / 128) G b → a = b := fun a b ha hb e => by
    rw [hG] at ha hb e
    rcases Nat.lt_trichotomy a b with q | q | q
    · exact absurd e (Pb.metN_lt_ne q hb)
    · exact q
    · exact absurd e.symm (Pb.metN_lt_ne q ha)
  refine ⟨hTu.2.blkS h.b1 (hnX _ (Or.inl rfl)), hTu.2.blkS h.b3 (hnX _ (Or.inr (Or.inl rfl))), hTu.2.blkS h.b7 (hnX _ (Or.inr (Or.inr rfl))), d', _, _, hO.turn hTu (fun q hq => by rcases hq with e | e | e <;> omega), hAl.fine hF, hAl.small hSm, hD', ?_, ?_, ?_, ?_, pile_step hP (by omega) hm⟩
  · show updI (updI f 5 (f 5 - 1)) 3 (f 3 + 1) 3 = _
    unfold updI
    rw [if_pos rfl, f3]
    omega
  · show updI (updI f 5 (f 5 - 1)) 3 (f 3 + 1) 4 = _
    unfold updI
    rw [if_neg (by omega), if_neg (by omega), f4]
  · show updI (updI f 5 (f 5 - 1)) 3 (f 3 + 1) 5 = _
    unfold updI
    rw [if_neg (by omega), if_pos rfl, f5]
    omega
  · show updI (updI f 5 (f 5 - 1)) 3 (f 3 + 1) 7 = _
    unfold updI
    rw [if_neg (by omega), if_neg (by omega), f7]
end
end Go.Proofs.YtmdnknbolgedgaaGreatDoor
/-
  Numbers that the statement on piles makes.
-/
namespace Go.Proofs.YtmdnknbolgedgaaGreatDoor
namespace tablePiles
open Go.RowKit Go.Shelf
set_option linter.unusedVariables false

theorem wr_small {x : Int} (h0 : 0 ≤ x) (h1 : x ≤ 1000000) : wrap64 x = x ∧ IntKind.i64.wrap x = x := by
  constructor
  · unfold wrap64; omega
  · rw [IntKind.wrap_i64]; omega
theorem wr8 {k : Nat} (h : k ≤ 65536) : (wrap64 ((k / 8 : Nat) : Int) = ((k / 8 : Nat) : Int) ∧ IntKind.i64.wrap ((k / 8 : Nat) : Int) = ((k / 8 : Nat) : Int)) ∧ wrap64 (((k / 8 : Nat) : Int) + 1) = ((k / 8 : Nat) : Int) + 1 ∧ IntKind.i64.wrap (((k / 8 : Nat) : Int) + 1) = ((k / 8 : Nat) : Int) + 1 := ⟨wr_small (by omega) (by omega), wr_small (by omega) (by omega)⟩
theorem wrM {M q : Nat} (h : M ≤ 32) : (wrap64 ((q % 8 : Nat) : Int) = ((q % 8 : Nat) : Int) ∧ IntKind.i64.wrap ((q % 8 : Nat) : Int) = ((q % 8 : Nat) : Int)) ∧ (wrap64 (8 * (M : Int)) = 8 * (M : Int) ∧ IntKind.i64.wrap (8 * (M : Int)) = 8 * (M : Int)) ∧ wrap64 (8 * (M : Int) + ((q % 8 : Nat) : Int)) = 8 * (M : Int) + ((q % 8 : Nat) : Int) ∧ IntKind.i64.wrap (8 * (M : Int) + ((q % 8 : Nat) : Int)) = 8 * (M : Int) + ((q % 8 : Nat) : Int) := ⟨wr_small (by omega) (by omega), wr_small (by omega) (by omega), wr_small (by omega) (by omega)⟩
theorem div8 (k : Nat) : ((k : Int)).tdiv 8 = ((k / 8 : Nat) : Int) := by rw [Int.tdiv_eq_ediv_of_nonneg (by omega)]; omega
theorem mod8 (k : Nat) : ((k : Int)).tmod 8 = ((k % 8 : Nat) : Int) := by rw [Int.tmod_eq_emod_of_nonneg (by omega)]; omega
theorem div7 (G : Nat) : ((G : Int) * 7).tdiv 8 = ((7 * G / 8 : Nat) : Int) := by rw [Int.tdiv_eq_ediv_of_nonneg (by omega)]; omega
theorem div128 (H : Nat) (hH : H < 18446744073709551616) : ((H : Int)).tdiv 128 = ((H / 128 : Nat) : Int) ∧ IntKind.u64.wrap ((H / 128 : Nat) : Int) = ((H / 128 : Nat) : Int) := by
  constructor
  · rw [Int.tdiv_eq_ediv_of_nonneg (by omega)]; omega
  · rw [IntKind.wrap_u64]; omega
theorem slotI (M k : Nat) : (((8 * M + k % 8 : Nat)) : Int) = 8 * (M : Int) + ((k % 8 : Nat) : Int) := by omega
end tablePiles
end Go.Proofs.YtmdnknbolgedgaaGreatDoor
namespace Go.Proofs.YtmdnknbolgedgaaGreatDoor.Ly
open Go.RowKit

theorem up_step {x a n : Int} (ha : a = 1 ∨ a = 2 ∨ a = 4 ∨ a = 8) (hn : n % a = 0) (h1 : x ≤ n) (h2 : n < x + a) : n = up x a := by
  unfold up
  rcases ha with rfl | rfl | rfl | rfl <;> omega

set_option maxHeartbeats 1000000 in
theorem ref_raised (x a : Int) (w : World) (h0 : 0 ≤ x) (h1 : x ≤ 300) (ha : a = 1 ∨ a = 2 ∨ a = 4 ∨ a = 8) :
    Calls Tryz.prog 34 #[.int .i64 x, .int .i64 a] w fun e w' => e = .returned (.int .i64 (up x a)) ∧ w' = w := by
  have a1 : 1 ≤ a := by omega
  have a8 : a ≤ 8 := by omega
  have hU : Hid (∀ n : Int, n % a = 0 → x ≤ n → n < x + a → n = up x a) := fun n e1 e2 e3 => up_step ha e1 e2 e3
  have hM : Hid (∀ n : Int, n % a = 0 → (n + a) % a = 0) := fun n e => by rw [Int.add_emod_right]; exact e
  generalize up x a = U at *
  clear ha
  go_enter Tryz.func34, Tryz.ntmps34
  go_wp2_with fail
  go_loop [5] (fun v => ∃ n : Int, v = .int .i64 n ∧ Hid (n % a = 0) ∧ 0 ≤ n ∧ n < x + a) (fun v => (x - intOf v).toNat)
  case atStart => exact ⟨0, rfl, Int.zero_emod a, by omega, by omega⟩
  case round =>
    obtain ⟨n, rfl, hn, n0, n1⟩ := hrel
    by_cases hlt : n < x
    · go_wp2_with fail
      go_round
      case rel => exact ⟨n + a, rfl, hM.out n hn.out, by omega, by omega⟩
      case measure => simp [intOf]; omega
    · have e := hU.out n hn.out (by omega) n1
      subst e
      go_wp2_with fail
      go_ret
      exact ⟨rfl, rfl⟩

set_option maxHeartbeats 1000000 in
theorem ref_power8 (x : Int) (w : World) :
    Calls Tryz.prog 33 #[.int .i64 x, .int .i64 1, .int .i64 8] w fun e w' => e = .returned (.bool (pw x 1 8)) ∧ w' = w := by
  have hT : Hid (pw x 1 8 = true ↔ x = 1 ∨ x = 2 ∨ x = 4 ∨ x = 8) := pw8
  generalize pw x 1 8 = V at *
  go_enter Tryz.func33, Tryz.ntmps33
  go_wp2_with fail
  go_loop [7] (fun v => ∃ p : Int, v = .int .i64 p ∧ 1 ≤ p ∧ p ≤ 16 ∧ Hid ((p = 1 ∨ p = 2 ∨ p = 4 ∨ p = 8 ∨ p = 16) ∧ (1 < p → x ≠ 1) ∧ (2 < p → x ≠ 2) ∧ (4 < p → x ≠ 4) ∧ (8 < p → x ≠ 8))) (fun v => (100 - intOf v).toNat)
  case atStart => exact ⟨1, rfl, by omega, by omega, by omega, by omega, by omega, by omega, by omega⟩
  case round =>
    obtain ⟨p, rfl, p1, p2, hp⟩ := hrel
    by_cases hle : p ≤ 8
    · by_cases he : p = x
      · have hV : V = true := hT.out.2 (by have := hp.out; omega)
        subst hV
        subst he
        go_wp2_with fail
        go_ret
        exact ⟨rfl, rfl⟩
      · have he' : (p == x) = false := by simpa using he
        go_wp2_with fail
        go_round
        case rel => exact ⟨2 * p, rfl, by omega, by omega, by have := hp.out; omega, by have := hp.out; omega, by have := hp.out; omega, by have := hp.out; omega, by have := hp.out; omega⟩
        case measure => simp [intOf]; omega
    · have hV : V = false := by
        cases hv : V
        · rfl
        · have := hT.out.1 hv
          have := hp.out
          omega
      subst hV
      go_wp2_with fail
      go_ret
      exact ⟨rfl, rfl⟩

set_option maxHeartbeats 1000000 in
theorem ref_powerCap (x : Int) (w : World) :
    Calls Tryz.prog 33 #[.int .i64 x, .int .i64 16, .int .i64 1024] w fun e w' => e = .returned (.bool (pw x 16 1024)) ∧ w' = w := by
  have hT : Hid (pw x 16 1024 = true ↔ x = 16 ∨ x = 32 ∨ x = 64 ∨ x = 128 ∨ x = 256 ∨ x = 512 ∨ x = 1024) := pwCap
  generalize pw x 16 1024 = V at *
  go_enter Tryz.func33, Tryz.ntmps33
  go_wp2_with fail
  go_loop [7] (fun v => ∃ p : Int, v = .int .i64 p ∧ 16 ≤ p ∧ p ≤ 2048 ∧ Hid ((p = 16 ∨ p = 32 ∨ p = 64 ∨ p = 128 ∨ p = 256 ∨ p = 512 ∨ p = 1024 ∨ p = 2048) ∧ (16 < p → x ≠ 16) ∧ (32 < p → x ≠ 32) ∧ (64 < p → x ≠ 64) ∧ (128 < p → x ≠ 128) ∧ (256 < p → x ≠ 256) ∧ (512 < p → x ≠ 512) ∧ (1024 < p → x ≠ 1024))) (fun v => (10000 - intOf v).toNat)
  case atStart => exact ⟨16, rfl, by omega, by omega, by omega, by omega, by omega, by omega, by omega, by omega, by omega, by omega⟩
  case round =>
    obtain ⟨p, rfl, p1, p2, hp⟩ := hrel
    by_cases hle : p ≤ 1024
    · by_cases he : p = x
      · have hV : V = true := hT.out.2 (by have := hp.out; omega)
        subst hV
        subst he
        go_wp2_with fail
        go_ret
        exact ⟨rfl, rfl⟩
      · have he' : (p == x) = false := by simpa using he
        go_wp2_with fail
        go_round
        case rel => exact ⟨2 * p, rfl, by omega, by omega, by have := hp.out; omega, by have := hp.out; omega, by have := hp.out; omega, by have := hp.out; omega, by have := hp.out; omega, by have := hp.out; omega, by have := hp.out; omega, by have := hp.out; omega⟩
        case measure => simp [intOf]; omega
    · have hV : V = false := by
        cases hv : V
        · rfl
        · have := hT.out.1 hv
          have := hp.out
          omega
      subst hV
      go_wp2_with fail
      go_ret
      exact ⟨rfl, rfl⟩

theorem ref_fits (x a : Int) (w : World) (h0 : 0 ≤ x) (h1 : x ≤ 128) :
    Calls Tryz.prog 32 #[.int .i64 x, .int .i64 a] w fun e w' => e = .returned (.bool (al x a)) ∧ w' = w := by
  have hp := ref_power8 a w
  cases hq : pw a 1 8
  · have e : al x a = false := by unfold al; rw [hq]; rfl
    rw [hq] at hp
    rw [e]
    go_enter Tryz.func32, Tryz.ntmps32
    go_wp2_with fail
    refine hp.mono ?_
    rintro e w' ⟨rfl, rfl⟩
    clear hp
    go_wp2_with fail
    go_ret
    exact ⟨rfl, rfl⟩
  · have ha := pw8.1 hq
    have hr := ref_raised x a w h0 (by omega) ha
    have e : al x a = (up x a == x) := by
      unfold al
      rw [hq, Bool.true_and, Bool.eq_iff_iff, decide_eq_true_iff, beq_iff_eq]
      unfold up
      rcases ha with rfl | rfl | rfl | rfl <;> omega
    rw [hq] at hp
    rw [e]
    go_enter Tryz.func32, Tryz.ntmps32
    go_wp2_with fail
    refine hp.mono ?_
    rintro e w' ⟨rfl, rfl⟩
    clear hp
    go_wp2_with fail
    refine hr.mono ?_
    rintro e w' ⟨rfl, rfl⟩
    clear hr
    go_wp2_with fail
    go_ret
    exact ⟨rfl, rfl⟩
end Go.Proofs.YtmdnknbolgedgaaGreatDoor.Ly
