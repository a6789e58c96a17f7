import Derived.Test.YtmdnknbolgedgaaGreatDoorTn12
/-
  Put of a key that is not there.
-/
namespace Go.Proofs.YtmdnknbolgedgaaGreatDoor
open Go.RowKit Go.Shelf Ly Ct
set_option linter.unusedVariables false

set_option maxRecDepth 100000 in
set_option maxHeartbeats 4000000 in
/-- No room: the first vacant slot is empty, and none is left. -/
theorem tput_full {w : World} {p : Nat} {F : Nat → Prop} {d : AD} {l : Lay} {off gr G : Nat} {f : Nat → Int} {c : Nat → GC} (hA : Arena w p F d) (hF : d.Fine) (h : TabD d l off gr G f c) (h4 : f 4 = ((8 * G : Nat) : Int)) (h7 : f 7 = (gr : Int)) (k : Nat) (hk : k ≤ 13) (hG : G = 2 ^ k) (hT : TabAt w) (H : Nat) (hH : H < 18446744073709551616) (key : ByteArray) (hkey : (key.size : Int) = l.k) (elem : ByteArray) (helem : (elem.size : Int) = l.e) (birth : Int) (hb0 : 0 ≤ birth) (hs : (srchT c ((H : Int) % 128) key (Pb.metN (H / 128) G) G).slot = none) (v : Nat) (hv : (srchT c ((H : Int) % 128) key (Pb.metN (H / 128) G) G).vac = some v) (he : (c v).kind = 0) (hl0 : f 5 ≤ 0) :
    Calls Tryz.prog 15 #[.agg #[.pointer (some ⟨p, 0, none⟩), .int .i64 l.k, .int .i64 l.e, .int .i64 l.a, .int .i64 l.b, .int .i64 l.c, .int .i64 l.eo, .int .i64 l.bo, .int .i64 l.s, .int .i64 l.g, .int .i64 (off : Int)], .int .u64 (H : Int), .string key, .string elem, .int .i64 birth] w fun e w' => e = .returned (.tuple #[.int .i64 3, .int .i64 0]) ∧ Keeps w w' (fun _ => False) := by
  have hS := fun W (q : Keeps w W (fun _ => False)) => search_yes (hA.keeps q (fun _ _ _ e => e)) hF h h4 h7 k hk hG (hT.kp (q.below (Nat.le_refl _) (fun _ _ e => e))) H hH key hkey
  unfold srchV sghC at hS
  rw [hs, hv] at hS
  simp only [optI, slotC, vacE, he, decide_true, GC.zero] at hS
  have heb : (((elem.size : Nat) : Int) != l.e) = false := by simp [helem]
  have hb' : ¬ birth < 0 := by omega
  have hv0 : ¬ ((v : Nat) : Int) < 0 := by omega
  have hm1 : ¬ (0 : Int) ≤ -1 := by omega
  generalize (srchT c ((H : Int) % 128) key (Pb.metN (H / 128) G) G).probes = np at *
  clear h h4 h7 hT hs hv he
  generalize f 0 = f0 at *
  generalize f 1 = f1 at *
  generalize f 2 = f2 at *
  generalize f 3 = f3 at *
  generalize f 4 = f4 at *
  generalize f 5 = f5 at *
  generalize f 6 = f6 at *
  generalize f 7 = f7 at *
  go_enter Tryz.func15, Tryz.ntmps15
  go_wp2_with fail
  refine alloc1 (P := fun W => Calls _ _ _ W _) fun W0 hb hz K0 => ?_
  (with_reducible refine (hS _ K0).mono ?_)
  rintro r w1 ⟨rfl, k1⟩
  have K1 := K0.trans k1 (fun _ _ e => e)
  have k2 : Keeps w1 (w1.alloc (Obj.cells #[.int .i64 f3, .int .i64 f4, .int .i64 f5, .int .i64 f6, .int .i64 f1, .int .i64 f2, .bool (f0 == 4), .int .i64 f7, .int .i64 (np : Int), .int .i64 (-1), .int .i64 0, .int .i64 0, .string ByteArray.empty, .string ByteArray.empty, .int .i64 0, .int .i64 (v : Int), .bool true] 103)) (fun _ => False) := (Keeps.refl _ _).alloc _
  have K2 := hide (K1.trans k2 (fun _ _ e => e))
  obtain ⟨c0, c1, c2, c3, c4, c5, c6, c7, c8, c9, c10⟩ := c11_of (k2.blk (k1.blk hb))
  clear hS k2 K1 k1 K0 hb
  go_wp2_with fail
  go_ret2
  exact ⟨rfl, K2.out⟩

set_option maxRecDepth 100000 in
set_option maxHeartbeats 8000000 in
/-- There is room: the first vacant slot is filled. -/
theorem tput_new {w : World} {p : Nat} {F : Nat → Prop} {d : AD} {l : Lay} {off gr G : Nat} {f : Nat → Int} {c : Nat → GC} (hA : Arena w p F d) (hF : d.Fine) (hSm : d.small) (hFl : ∀ k, F k → k < w.heap.size) (h : TabD d l off gr G f c) (h4 : f 4 = ((8 * G : Nat) : Int)) (h7 : f 7 = (gr : Int)) (k : Nat) (hk : k ≤ 13) (hG : G = 2 ^ k) (hT : TabAt w) (H : Nat) (hH : H < 18446744073709551616) (key : ByteArray) (hkey : (key.size : Int) = l.k) (elem : ByteArray) (helem : (elem.size : Int) = l.e) (birth : Int) (hb0 : 0 ≤ birth) (hs : (srchT c ((H : Int) % 128) key (Pb.metN (H / 128) G) G).slot = none) (v : Nat) (hv : (srchT c ((H : Int) % 128) key (Pb.metN (H / 128) G) G).vac = some v) (em : Bool) (he : decide ((c v).kind = 0) = em) (hl0 : em = true → 0 < f 5) (hl1 : f 5 ≤ 100000) (hl2 : -100000 ≤ f 5) (hu1 : f 3 ≤ 100000) (hu2 : -100000 ≤ f 3) (hb9 : birth ≤ 9223372036854775807) :
    Calls Tryz.prog 15 #[.agg #[.pointer (some ⟨p, 0, none⟩), .int .i64 l.k, .int .i64 l.e, .int .i64 l.a, .int .i64 l.b, .int .i64 l.c, .int .i64 l.eo, .int .i64 l.bo, .int .i64 l.s, .int .i64 l.g, .int .i64 (off : Int)], .int .u64 (H : Int), .string key, .string elem, .int .i64 birth] w fun e w' => e = .returned (.tuple #[.int .i64 2, .int .i64 0]) ∧ TabT w w' p F d l off gr G (updI (if em then updI f 5 (f 5 - 1) else f) 3 (f 3 + 1)) (updN c v (GC.full ((H : Int) % 128) key elem birth)) := by
  have hS := fun W (q : Keeps w W (fun _ => False)) => search_yes (hA.keeps q (fun _ _ _ e => e)) hF h h4 h7 k hk hG (hT.kp (q.below (Nat.le_refl _) (fun _ _ e => e))) H hH key hkey
  unfold srchV sghC at hS
  rw [hs, hv] at hS
  simp only [optI, slotC, vacE, he, GC.zero] at hS
  have heb : (((elem.size : Nat) : Int) != l.e) = false := by simp [helem]
  have hb' : ¬ birth < 0 := by omega
  have hv0 : ¬ ((v : Nat) : Int) < 0 := by omega
  have hm1 : ¬ (0 : Int) ≤ -1 := by omega
  have hG0 := h.pos
  obtain ⟨hv8, hvk⟩ := srch_vac (fun i hi => Pb.metN_lt (by omega)) hv
  have hfew := h.few
  have ho := h.off_le hF
  have hvm := valid_more h.valid
  have hi : v / 8 < G := by omega
  have hgl := h.glen
  have hin := h.in hi
  have hmo := hF.most
  have hPl := fun W => place_any p l (off : Int) (gr : Int) f v W h.valid h7 (by omega) (by omega) (by omega)
  have e : ((gr + v / 8 * l.g.toNat : Nat) : Int) = (gr : Int) + ((v / 8 : Nat) : Int) * l.g := by
    rw [Int.natCast_add, Int.natCast_mul, Int.toNat_of_nonneg (by omega)]
  have hTg := fun W => Op.tag_any H hH W
  have hfy : fitsI ((gr : Int) + ((v / 8 : Nat) : Int) * l.g) := by rw [← e]; exact fitsI_mk (by omega) (by omega)
  have hfg : fitsI l.g := fitsI_mk (by omega) (by omega)
  have hFi : ∀ W (q : Keeps w W (fun _ => False)), Calls Tryz.prog 44 #[.agg #[.pointer (some ⟨p, 0, none⟩), .int .i64 l.k, .int .i64 l.e, .int .i64 l.a, .int .i64 l.b, .int .i64 l.c, .int .i64 l.eo, .int .i64 l.bo, .int .i64 l.s, .int .i64 l.g, .int .i64 ((gr : Int) + ((v / 8 : Nat) : Int) * l.g)], .int .i64 ((v % 8 : Nat) : Int), .int .i64 ((H : Int) % 128), .string key, .string elem, .int .i64 birth] W fun e w' => e = .returned (.int .i64 0) ∧ TabT W w' p F d l off gr G f (updN c v (GC.full ((H : Int) % 128) key elem birth)) := fun W q => by
    have := gfill_any (hA.keeps q (fun _ _ _ e => e)) hF hSm (fun i hi => Nat.lt_of_lt_of_le (hFl i hi) q.size) l ((gr : Int) + ((v / 8 : Nat) : Int) * l.g) ((v % 8 : Nat) : Int) ((H : Int) % 128) key elem birth hb9 hfy hfg
    obtain ⟨r1, r2, r3⟩ := (h.grp (v / 8) hi).fill (i := v % 8) (by omega) (t := (H : Int) % 128) (b := birth) (k := key) (e := elem) (by omega) (by omega) hkey helem hb0 hb9
    rw [← e, r1] at this
    rw [← e]
    refine this.mono ?_
    rintro e w' ⟨rfl, hT⟩
    refine ⟨rfl, _, hT, Alt.grp hi r3, ?_⟩
    have := h.turn hi r2 r3
    rw [updG_updC] at this
    exact this
  have hnF : ∀ q, w.heap.size ≤ q → ¬ F q := fun q h1 h2 => by have := hFl q h2; omega
  obtain ⟨cc, hcc⟩ : ∃ cc, updN c v (GC.full ((H : Int) % 128) key elem birth) = cc := ⟨_, rfl⟩
  rw [hcc] at hFi ⊢
  have hw1 : IntKind.i64.wrap (f 5 - 1) = f 5 - 1 := by rw [IntKind.wrap_i64]; omega
  have hw2 : IntKind.i64.wrap (f 3 + 1) = f 3 + 1 := by rw [IntKind.wrap_i64]; omega
  have hw3 : wrap64 (f 5 - 1) = f 5 - 1 := by unfold wrap64; omega
  have hw4 : wrap64 (f 3 + 1) = f 3 + 1 := by unfold wrap64; omega
  have hfl5 : fitsI (f 5 - 1) := fitsI_mk (by omega) (by omega)
  have hfu3 : fitsI (f 3 + 1) := fitsI_mk (by omega) (by omega)
  have HF := hide (And.intro hFl (And.intro hF (And.intro hfl5 hfu3)))
  clear hfl5 hfu3
  generalize (srchT c ((H : Int) % 128) key (Pb.metN (H / 128) G) G).probes = np at *
  have hrm : em = true → ¬ f 5 ≤ 0 := fun q => by have := hl0 q; omega
  clear h h4 h7 hT hs hv he hvk hin hgl hvm hcc hG hk hmo hl0
  unfold statV at hPl
  generalize (gr : Int) + ((v / 8 : Nat) : Int) * l.g = y at *
  generalize ((v % 8 : Nat) : Int) = vm at *
  cases em
  · clear hrm
    go_enter Tryz.func15, Tryz.ntmps15
    go_wp2_with fail
    refine alloc1 (P := fun W => Calls _ _ _ W _) fun W0 hb hz K0 => ?_
    (with_reducible refine (hS _ K0).mono ?_)
    rintro r w1 ⟨rfl, k1⟩
    have K1 := K0.trans k1 (fun _ _ e => e)
    have k2 : Keeps w1 (w1.alloc (Obj.cells #[.int .i64 (f 3), .int .i64 (f 4), .int .i64 (f 5), .int .i64 (f 6), .int .i64 (f 1), .int .i64 (f 2), .bool (f 0 == 4), .int .i64 (f 7), .int .i64 (np : Int), .int .i64 (-1), .int .i64 0, .int .i64 0, .string ByteArray.empty, .string ByteArray.empty, .int .i64 0, .int .i64 (v : Int), .bool false] 103)) (fun _ => False) := (Keeps.refl _ _).alloc _
    have K2 := K1.trans k2 (fun _ _ e => e)
    have hb2 := k2.blk (k1.blk hb)
    have hsg2 := heap_alloc_new w1 (Obj.cells #[.int .i64 (f 3), .int .i64 (f 4), .int .i64 (f 5), .int .i64 (f 6), .int .i64 (f 1), .int .i64 (f 2), .bool (f 0 == 4), .int .i64 (f 7), .int .i64 (np : Int), .int .i64 (-1), .int .i64 0, .int .i64 0, .string ByteArray.empty, .string ByteArray.empty, .int .i64 0, .int .i64 (v : Int), .bool false] 103)
    obtain ⟨c0, c1, c2, c3, c4, c5, c6, c7, c8, c9, c10⟩ := c11_of hb2
    clear hS k1 K0 hb
    go_wp2_with fail
    (with_reducible refine (hPl _).mono ?_)
    rintro r w3 ⟨rfl, k3⟩
    clear c0 c1 c2 c3 c4 c5 c6 c7 c8 c9 c10 hPl
    have k4 : Keeps w3 (w3.alloc (Obj.cells #[.pointer (some ⟨p, 0, none⟩), .int .i64 l.k, .int .i64 l.e, .int .i64 l.a, .int .i64 l.b, .int .i64 l.c, .int .i64 l.eo, .int .i64 l.bo, .int .i64 l.s, .int .i64 l.g, .int .i64 y] 109)) (fun _ => False) := (Keeps.refl _ _).alloc _
    have k24 := k3.trans k4 (fun _ _ e => e)
    have K4 := K2.trans k24 (fun _ _ e => e)
    have hb4 := k24.blk hb2
    have hsg4 := k24.blk hsg2
    have SD : C11 w3.heap.size p l y (w3.alloc (Obj.cells #[.pointer (some ⟨p, 0, none⟩), .int .i64 l.k, .int .i64 l.e, .int .i64 l.a, .int .i64 l.b, .int .i64 l.c, .int .i64 l.eo, .int .i64 l.bo, .int .i64 l.s, .int .i64 l.g, .int .i64 y] 109)).drew := c11_of (heap_alloc_new w3 (Obj.cells #[.pointer (some ⟨p, 0, none⟩), .int .i64 l.k, .int .i64 l.e, .int .i64 l.a, .int .i64 l.b, .int .i64 l.c, .int .i64 l.eo, .int .i64 l.bo, .int .i64 l.s, .int .i64 l.g, .int .i64 y] 109))
    have hz1 := K1.size
    have hz3 : w1.heap.size < w3.heap.size := by have := k3.size; rw [World.size_alloc] at this; omega
    have hnG : ¬ F w3.heap.size := hnF _ (by omega)
    go_wp2_with fail
    go_region_held3 (fun w' => w'.cell? ⟨w3.heap.size, 0, none⟩ = some (.pointer (some ⟨p, 0, none⟩)) ∧ w'.cell? ⟨w3.heap.size, 1, none⟩ = some (.int .i64 l.k) ∧ w'.cell? ⟨w3.heap.size, 2, none⟩ = some (.int .i64 l.e) ∧ w'.cell? ⟨w3.heap.size, 3, none⟩ = some (.int .i64 l.a) ∧ w'.cell? ⟨w3.heap.size, 4, none⟩ = some (.int .i64 l.b) ∧ w'.cell? ⟨w3.heap.size, 5, none⟩ = some (.int .i64 l.c) ∧ w'.cell? ⟨w3.heap.size, 6, none⟩ = some (.int .i64 l.eo) ∧ w'.cell? ⟨w3.heap.size, 7, none⟩ = some (.int .i64 l.bo) ∧ w'.cell? ⟨w3.heap.size, 8, none⟩ = some (.int .i64 l.s) ∧ w'.cell? ⟨w3.heap.size, 9, none⟩ = some (.int .i64 l.g) ∧ w'.cell? ⟨w3.heap.size, 10, none⟩ = some (.int .i64 y)) (with_reducible assumption)
      (first | (go_at_call 45; (with_reducible refine (hTg _).mono ?_); rintro r wT ⟨rfl, rfl⟩) | (go_at_call 44; (with_reducible refine (hFi _ K4.drew).mono ?_); rintro r w5 ⟨rfl, d5, hT5, hA5, h5⟩; have S5 : C11 w3.heap.size p l y w5 := c11_keeps hT5.2 hnG SD))
    have hb5 := hT5.2.blkS hb4 (hnF _ (Nat.le_refl _))
    have hsg5 := hT5.2.blkS hsg4 (hnF _ (by omega))
    obtain ⟨c0, c1, c2, c3, c4, c5, c6, c7, c8, c9, c10⟩ := c11_of hb5
    obtain ⟨⟨u0, -, u2, -, -, -, -, -, -, -, -, -, -, -, -, -, u16⟩, -⟩ := r17_cells hsg5
    have hz4 : (w3.alloc (Obj.cells #[.pointer (some ⟨p, 0, none⟩), .int .i64 l.k, .int .i64 l.e, .int .i64 l.a, .int .i64 l.b, .int .i64 l.c, .int .i64 l.eo, .int .i64 l.bo, .int .i64 l.s, .int .i64 l.g, .int .i64 y] 109)).drew.heap.size = w3.heap.size + 1 := World.size_alloc _ _
    have hnF5 : ∀ q, w.heap.size ≤ q → q ≤ w3.heap.size → ¬ ((F q ∨ (w3.alloc (Obj.cells #[.pointer (some ⟨p, 0, none⟩), .int .i64 l.k, .int .i64 l.e, .int .i64 l.a, .int .i64 l.b, .int .i64 l.c, .int .i64 l.eo, .int .i64 l.bo, .int .i64 l.s, .int .i64 l.g, .int .i64 y] 109)).drew.heap.size ≤ q) ∧ q < w5.heap.size) := fun q q1 q2 q3 => by
      rcases q3.1 with e | e
      · exact hnF q q1 e
      · omega
    obtain ⟨hFl', hF', hfl5, hfu3⟩ := HF.out
    clear hFi hTg S5 SD
    have hSe := tset_tab hT5.arena (hA5.fine hF') (fun _ q => q.2) h5 3 (by omega) (f 3 + 1) hfu3
    rw [show ((3 : Nat) : Int) = 3 from rfl] at hSe
    go_wp2_with fail
    (with_reducible refine hSe.mono ?_)
    rintro r w7 ⟨rfl, d7, hT7, hF7, h7, ht7⟩
    have HP : Hid (TabT w w7 p F d l off gr G (updI (if false = true then updI f 5 (f 5 - 1) else f) 3 (f 3 + 1)) cc) := ⟨d7, (hT5.then hT7).pre K4.drew, hA5.trans (Alt.head ht7), h7⟩
    clear hSe h7 hT7 hF7 ht7 h5 hT5 hA5 c0 c1 c2 c3 c4 c5 c6 c7 c8 c9 c10 u0
    go_wp2_with fail
    go_ret2
    exact ⟨rfl, HP.out⟩
  · have hrm2 : ¬ f 5 ≤ 0 := hrm rfl
    go_enter Tryz.func15, Tryz.ntmps15
    go_wp2_with fail
    refine alloc1 (P := fun W => Calls _ _ _ W _) fun W0 hb hz K0 => ?_
    (with_reducible refine (hS _ K0).mono ?_)
    rintro r w1 ⟨rfl, k1⟩
    have K1 := K0.trans k1 (fun _ _ e => e)
    have k2 : Keeps w1 (w1.alloc (Obj.cells #[.int .i64 (f 3), .int .i64 (f 4), .int .i64 (f 5), .int .i64 (f 6), .int .i64 (f 1), .int .i64 (f 2), .bool (f 0 == 4), .int .i64 (f 7), .int .i64 (np : Int), .int .i64 (-1), .int .i64 0, .int .i64 0, .string ByteArray.empty, .string ByteArray.empty, .int .i64 0, .int .i64 (v : Int), .bool true] 103)) (fun _ => False) := (Keeps.refl _ _).alloc _
    have K2 := K1.trans k2 (fun _ _ e => e)
    have hb2 := k2.blk (k1.blk hb)
    have hsg2 := heap_alloc_new w1 (Obj.cells #[.int .i64 (f 3), .int .i64 (f 4), .int .i64 (f 5), .int .i64 (f 6), .int .i64 (f 1), .int .i64 (f 2), .bool (f 0 == 4), .int .i64 (f 7), .int .i64 (np : Int), .int .i64 (-1), .int .i64 0, .int .i64 0, .string ByteArray.empty, .string ByteArray.empty, .int .i64 0, .int .i64 (v : Int), .bool true] 103)
    obtain ⟨c0, c1, c2, c3, c4, c5, c6, c7, c8, c9, c10⟩ := c11_of hb2
    clear hS k1 K0 hb
    go_wp2_with fail
    (with_reducible refine (hPl _).mono ?_)
    rintro r w3 ⟨rfl, k3⟩
    clear c0 c1 c2 c3 c4 c5 c6 c7 c8 c9 c10 hPl
    have k4 : Keeps w3 (w3.alloc (Obj.cells #[.pointer (some ⟨p, 0, none⟩), .int .i64 l.k, .int .i64 l.e, .int .i64 l.a, .int .i64 l.b, .int .i64 l.c, .int .i64 l.eo, .int .i64 l.bo, .int .i64 l.s, .int .i64 l.g, .int .i64 y] 109)) (fun _ => False) := (Keeps.refl _ _).alloc _
    have k24 := k3.trans k4 (fun _ _ e => e)
    have K4 := K2.trans k24 (fun _ _ e => e)
    have hb4 := k24.blk hb2
    have hsg4 := k24.blk hsg2
    have SD : C11 w3.heap.size p l y (w3.alloc (Obj.cells #[.pointer (some ⟨p, 0, none⟩), .int .i64 l.k, .int .i64 l.e, .int .i64 l.a, .int .i64 l.b, .int .i64 l.c, .int .i64 l.eo, .int .i64 l.bo, .int .i64 l.s, .int .i64 l.g, .int .i64 y] 109)).drew := c11_of (heap_alloc_new w3 (Obj.cells #[.pointer (some ⟨p, 0, none⟩), .int .i64 l.k, .int .i64 l.e, .int .i64 l.a, .int .i64 l.b, .int .i64 l.c, .int .i64 l.eo, .int .i64 l.bo, .int .i64 l.s, .int .i64 l.g, .int .i64 y] 109))
    have hz1 := K1.size
    have hz3 : w1.heap.size < w3.heap.size := by have := k3.size; rw [World.size_alloc] at this; omega
    have hnG : ¬ F w3.heap.size := hnF _ (by omega)
    go_wp2_with fail
    go_region_held3 (fun w' => w'.cell? ⟨w3.heap.size, 0, none⟩ = some (.pointer (some ⟨p, 0, none⟩)) ∧ w'.cell? ⟨w3.heap.size, 1, none⟩ = some (.int .i64 l.k) ∧ w'.cell? ⟨w3.heap.size, 2, none⟩ = some (.int .i64 l.e) ∧ w'.cell? ⟨w3.heap.size, 3, none⟩ = some (.int .i64 l.a) ∧ w'.cell? ⟨w3.heap.size, 4, none⟩ = some (.int .i64 l.b) ∧ w'.cell? ⟨w3.heap.size, 5, none⟩ = some (.int .i64 l.c) ∧ w'.cell? ⟨w3.heap.size, 6, none⟩ = some (.int .i64 l.eo) ∧ w'.cell? ⟨w3.heap.size, 7, none⟩ = some (.int .i64 l.bo) ∧ w'.cell? ⟨w3.heap.size, 8, none⟩ = some (.int .i64 l.s) ∧ w'.cell? ⟨w3.heap.size, 9, none⟩ = some (.int .i64 l.g) ∧ w'.cell? ⟨w3.heap.size, 10, none⟩ = some (.int .i64 y)) (with_reducible assumption)
      (first | (go_at_call 45; (with_reducible refine (hTg _).mono ?_); rintro r wT ⟨rfl, rfl⟩) | (go_at_call 44; (with_reducible refine (hFi _ K4.drew).mono ?_); rintro r w5 ⟨rfl, d5, hT5, hA5, h5⟩; have S5 : C11 w3.heap.size p l y w5 := c11_keeps hT5.2 hnG SD))
    have hb5 := hT5.2.blkS hb4 (hnF _ (Nat.le_refl _))
    have hsg5 := hT5.2.blkS hsg4 (hnF _ (by omega))
    obtain ⟨c0, c1, c2, c3, c4, c5, c6, c7, c8, c9, c10⟩ := c11_of hb5
    obtain ⟨⟨u0, -, u2, -, -, -, -, -, -, -, -, -, -, -, -, -, u16⟩, -⟩ := r17_cells hsg5
    have hz4 : (w3.alloc (Obj.cells #[.pointer (some ⟨p, 0, none⟩), .int .i64 l.k, .int .i64 l.e, .int .i64 l.a, .int .i64 l.b, .int .i64 l.c, .int .i64 l.eo, .int .i64 l.bo, .int .i64 l.s, .int .i64 l.g, .int .i64 y] 109)).drew.heap.size = w3.heap.size + 1 := World.size_alloc _ _
    have hnF5 : ∀ q, w.heap.size ≤ q → q ≤ w3.heap.size → ¬ ((F q ∨ (w3.alloc (Obj.cells #[.pointer (some ⟨p, 0, none⟩), .int .i64 l.k, .int .i64 l.e, .int .i64 l.a, .int .i64 l.b, .int .i64 l.c, .int .i64 l.eo, .int .i64 l.bo, .int .i64 l.s, .int .i64 l.g, .int .i64 y] 109)).drew.heap.size ≤ q) ∧ q < w5.heap.size) := fun q q1 q2 q3 => by
      rcases q3.1 with e | e
      · exact hnF q q1 e
      · omega
    obtain ⟨hFl', hF', hfl5, hfu3⟩ := HF.out
    clear hFi hTg S5 SD
    have hSe := tset_tab hT5.arena (hA5.fine hF') (fun _ q => q.2) h5 5 (by omega) (f 5 - 1) hfl5
    rw [show ((5 : Nat) : Int) = 5 from rfl] at hSe
    go_wp2_with fail
    (with_reducible refine hSe.mono ?_)
    rintro r w6 ⟨rfl, d6, hT6, hF6, h6, ht6⟩
    have hT56 := hT5.then hT6
    have hA6 := hA5.trans (Alt.head ht6)
    have hb6 := hT6.2.blkS hb5 (hnF5 _ (Nat.le_refl _) (by omega))
    have hsg6 := hT6.2.blkS hsg5 (hnF5 _ (by omega) (by omega))
    clear c0 c1 c2 c3 c4 c5 c6 c7 c8 c9 c10 u0 u2 u16 hSe
    obtain ⟨c0, c1, c2, c3, c4, c5, c6, c7, c8, c9, c10⟩ := c11_of hb6
    obtain ⟨⟨u0, -⟩, -⟩ := r17_cells hsg6
    have hSe := tset_tab hT56.arena hF6 (fun _ q => q.2) h6 3 (by omega) (f 3 + 1) hfu3
    rw [show ((3 : Nat) : Int) = 3 from rfl] at hSe
    go_wp2_with fail
    (with_reducible refine hSe.mono ?_)
    rintro r w7 ⟨rfl, d7, hT7, hF7, h7, ht7⟩
    have HP : Hid (TabT w w7 p F d l off gr G (updI (if true = true then updI f 5 (f 5 - 1) else f) 3 (f 3 + 1)) cc) := ⟨d7, (hT56.then hT7).pre K4.drew, hA6.trans (Alt.head ht7), h7⟩
    clear hSe h7 hT7 hF7 ht7 h5 hT5 hA5 c0 c1 c2 c3 c4 c5 c6 c7 c8 c9 c10 u0
    go_wp2_with fail
    go_ret2
    exact ⟨rfl, HP.out⟩
end Go.Proofs.YtmdnknbolgedgaaGreatDoor
/-
  begin: the header and the empty groups are laid into two new blocks.
-/
namespace Go.Proofs.YtmdnknbolgedgaaGreatDoor
open Go.RowKit Go.Shelf Ly Ct
set_option linter.unusedVariables false

/-- A table under way: the first k groups are laid. -/
structure TabP (d0 d : AD) (l : Lay) (off gr G k : Nat) (f : Nat → Int) : Prop where
  fine : d.Fine
  valid : validB l = true
  pos : 0 < G
  few : G ≤ 8192
  good : d.goodB (off : Int) 64 = true
  len : off + 64 ≤ d.bs.length
  glen : gr + G * l.g.toNat ≤ d.bs.length
  head : ∀ i, i < 8 → hdr d off i = f i
  there : ∀ i, i < G → d.goodB ((gr + i * l.g.toNat : Nat) : Int) l.g = true
  grp : ∀ i, i < k → GroupAt d l (gr + i * l.g.toNat) (fun _ => GC.zero)
  le : k ≤ G
  apart : off + 64 ≤ gr ∨ gr + G * l.g.toNat ≤ off
  alt : Alt d0 d off gr (G * l.g.toNat)
section
variable {d0 d d' : AD} {l : Lay} {off gr G k : Nat} {f : Nat → Int}
theorem TabP.in (h : TabP d0 d l off gr G k f) {i : Nat} (hi : i < G) : gr ≤ gr + i * l.g.toNat ∧ gr + i * l.g.toNat + l.g.toNat ≤ gr + G * l.g.toNat := by
  have := mul_apart (s := l.g.toNat) hi
  omega
theorem TabP.done (h : TabP d0 d l off gr G G f) : TabD d l off gr G f (fun _ => GC.zero) := ⟨h.valid, h.pos, h.few, h.good, h.len, h.glen, h.head, h.grp, h.apart⟩
theorem TabP.off_le (h : TabP d0 d l off gr G k f) : off ≤ 134217728 ∧ gr ≤ 134217728 := by
  have h1 := h.len
  have h2 := h.glen
  have h3 := h.fine.most
  omega
theorem TabP.set (h : TabP d0 d l off gr G k f) {i : Nat} (hi : i < 8) {v : Int} (hv : fitsI v) :
    storeR d ((off : Int) + (i : Int) * 8) 8 (u64of v) = (0, d.bytes (splice d.bs (off + i * 8) (leBytes (u64of v) 8))) ∧ TabP d0 (d.bytes (splice d.bs (off + i * 8) (leBytes (u64of v) 8))) l off gr G k (updI f i v) := by
  have hlen : off + i * 8 + (leBytes (u64of v) 8).length ≤ d.bs.length := by rw [leBytes_length]; have := h.len; omega
  have ht : Touch d (d.bytes (splice d.bs (off + i * 8) (leBytes (u64of v) 8))) off 64 := Touch.splice d (by omega) (by rw [leBytes_length]; omega) hlen
  have hg8 := good_sub h.good (x := (i : Int) * 8) (m := 8) (by omega) (by omega) (by omega)
  refine ⟨?_, ⟨ht.fine h.fine, h.valid, h.pos, h.few, by rw [ht.goodB]; exact h.good, by rw [ht.len]; exact h.len, by rw [ht.len]; exact h.glen, fun j hj => ?_, fun j hj => by rw [ht.goodB]; exact h.there j hj, fun j hj => (h.grp j hj).touch ht ?_, h.le, h.apart, h.alt.trans (Alt.head ht)⟩⟩
  · unfold storeR
    rw [hg8, show ((off : Int) + (i : Int) * 8).toNat = off + i * 8 by omega]
    rfl
  · rw [hdr_set h.len hi hj]
    unfold updI
    have : u64of v % 18446744073709551616 = u64of v := Nat.mod_eq_of_lt (u64of_lt v)
    rw [this, wrap_u64of hv, h.head j hj]
  · have := h.in (Nat.lt_of_lt_of_le hj h.le)
    rcases h.apart with q | q
    · right; omega
    · left; omega
theorem TabP.reset (h : TabP d0 d l off gr G k f) (hk : k < G) : (resetG d l ((gr + k * l.g.toNat : Nat) : Int)).1 = 0 ∧ TabP d0 (resetG d l ((gr + k * l.g.toNat : Nat) : Int)).2 l off gr G (k + 1) f := by
  have hT : thereB d l ((gr + k * l.g.toNat : Nat) : Int) = true := by
    unfold thereB
    rw [h.valid, h.there k hk]
    rfl
  obtain ⟨h1, h2, ht⟩ := reset_group h.fine hT
  have hik := h.in hk
  refine ⟨h1, ⟨ht.fine h.fine, h.valid, h.pos, h.few, by rw [ht.goodB]; exact h.good, by rw [ht.len]; exact h.len, by rw [ht.len]; exact h.glen, fun j hj => ?_, fun j hj => by rw [ht.goodB]; exact h.there j hj, fun j hj => ?_, hk, h.apart, h.alt.trans (Alt.grp hk ht)⟩⟩
  · rw [hdr_touch ht ?_ hj]
    · exact h.head j hj
    · rcases h.apart with q | q
      · left; omega
      · right; omega
  · by_cases e : j = k
    · subst e
      exact h2
    · have hlt : j < k := by omega
      refine (h.grp j hlt).touch ht ?_
      have := mul_apart (s := l.g.toNat) hlt
      omega
end

section
variable {w : World} {p : Nat} {F : Nat → Prop} {d0 d : AD} {l : Lay} {off gr G k : Nat} {f : Nat → Int}
/-- set, of a table under way. -/
theorem tset_p (hA : Arena w p F d) (hFl : ∀ k, F k → k < w.heap.size) (h : TabP d0 d l off gr G k f) (i : Nat) (hi : i < 8) (v : Int) (hv : fitsI v) :
    Calls Tryz.prog 46 #[.agg #[.pointer (some ⟨p, 0, none⟩), .int .i64 l.k, .int .i64 l.e, .int .i64 l.a, .int .i64 l.b, .int .i64 l.c, .int .i64 l.eo, .int .i64 l.bo, .int .i64 l.s, .int .i64 l.g, .int .i64 (off : Int)], .int .i64 (i : Int), .int .i64 v] w fun e w' => e = .returned (.int .i64 0) ∧ ∃ d', Turned w w' p F d' ∧ TabP d0 d' l off gr G k (updI f i v) := by
  have ho := h.off_le
  obtain ⟨e1, h1⟩ := h.set hi hv
  have := tset_any hA h.fine hFl l (off : Int) (i : Int) v (by omega) (by omega) (by omega) (by omega)
  rw [e1] at this
  refine this.mono ?_
  rintro e w' ⟨rfl, hT⟩
  exact ⟨rfl, _, hT, h1⟩
theorem treset_p (hA : Arena w p F d) (hFl : ∀ k, F k → k < w.heap.size) (h : TabP d0 d l off gr G k f) (hk : k < G) :
    Calls Tryz.prog 70 #[.agg #[.pointer (some ⟨p, 0, none⟩), .int .i64 l.k, .int .i64 l.e, .int .i64 l.a, .int .i64 l.b, .int .i64 l.c, .int .i64 l.eo, .int .i64 l.bo, .int .i64 l.s, .int .i64 l.g, .int .i64 ((gr : Int) + (k : Int) * l.g)]] w fun e w' => e = .returned (.int .i64 0) ∧ ∃ d', Turned w w' p F d' ∧ TabP d0 d' l off gr G (k + 1) f := by
  have ho := h.off_le
  have hv := valid_more h.valid
  have hik := h.in hk
  have hgl := h.glen
  have hm := h.fine.most
  obtain ⟨e1, h1⟩ := h.reset hk
  have e : ((gr + k * l.g.toNat : Nat) : Int) = (gr : Int) + (k : Int) * l.g := by
    rw [Int.natCast_add, Int.natCast_mul, Int.toNat_of_nonneg (by omega)]
  rw [e] at e1 h1
  have := greset_any hA h.fine hFl l ((gr : Int) + (k : Int) * l.g) (by rw [← e]; exact fitsI_mk (by omega) (by omega)) (fitsI_mk (by omega) (by omega))
  rw [e1] at this
  refine this.mono ?_
  rintro r w' ⟨rfl, hT⟩
  exact ⟨rfl, _, hT, h1⟩
end
end Go.Proofs.YtmdnknbolgedgaaGreatDoor
/-
  begin.
-/
namespace Go.Proofs.YtmdnknbolgedgaaGreatDoor
open Go.RowKit Go.Shelf Ly Ct
set_option linter.unusedVariables false

/-- The header of a new table. -/
def hdr0 (slots most depth gr : Int) : Nat → Int := updI (updI (updI (updI (updI (fun _ => 0) 0 2) 4 slots) 5 most) 6 depth) 7 gr

/-- begin under way: the arena has turned, the struct stands in its block. -/
structure Bg (d0 : AD) (W0 W : World) (p : Nat) (F : Nat → Prop) (B : Nat) (l : Lay) (off gr G k : Nat) (f : Nat → Int) : Prop where
  lt : B < W0.heap.size
  nF : ¬ F B
  fl : ∀ i, F i → i < W0.heap.size
  dat : ∃ d, Turned W0 W p F d ∧ TabP d0 d l off gr G k f
  blk : W.heap[B]? = some (.cells #[.pointer (some ⟨p, 0, none⟩), .int .i64 l.k, .int .i64 l.e, .int .i64 l.a, .int .i64 l.b, .int .i64 l.c, .int .i64 l.eo, .int .i64 l.bo, .int .i64 l.s, .int .i64 l.g, .int .i64 (off : Int)] 36)
section
variable {d0 : AD} {W0 W W' : World} {p : Nat} {F : Nat → Prop} {B : Nat} {l : Lay} {off gr G k : Nat} {f : Nat → Int}
theorem Bg.stay (h : Bg d0 W0 W p F B l off gr G k f) (q : Keeps W W' (fun _ => False)) : Bg d0 W0 W' p F B l off gr G k f := by
  obtain ⟨d, hT, hP⟩ := h.dat
  exact ⟨h.lt, h.nF, h.fl, ⟨d, hT.post q, hP⟩, q.blk h.blk⟩
theorem Bg.nB (h : Bg d0 W0 W p F B l off gr G k f) : ¬ ((F B ∨ W0.heap.size ≤ B) ∧ B < W.heap.size) := fun q => q.1.elim h.nF (fun q => by have := h.lt; omega)
theorem Bg.cells (h : Bg d0 W0 W p F B l off gr G k f) : C11 B p l (off : Int) W := c11_of h.blk
theorem bg_set (h : Bg d0 W0 W p F B l off gr G k f) (i : Nat) (hi : i < 8) (v : Int) (hv : fitsI v) :
    Calls Tryz.prog 46 #[.agg #[.pointer (some ⟨p, 0, none⟩), .int .i64 l.k, .int .i64 l.e, .int .i64 l.a, .int .i64 l.b, .int .i64 l.c, .int .i64 l.eo, .int .i64 l.bo, .int .i64 l.s, .int .i64 l.g, .int .i64 (off : Int)], .int .i64 (i : Int), .int .i64 v] W fun e w' => e = .returned (.int .i64 0) ∧ Bg d0 W0 w' p F B l off gr G k (updI f i v) := by
  obtain ⟨d, hT, hP⟩ := h.dat
  refine (tset_p hT.arena (fun _ q => q.2) hP i hi v hv).mono ?_
  rintro e w' ⟨rfl, d', hT2, hP2⟩
  exact ⟨rfl, h.lt, h.nF, h.fl, ⟨d', hT.then hT2, hP2⟩, (hT2.2.block B (heap_lt h.blk) h.nB).trans h.blk⟩
theorem bg_reset (h : Bg d0 W0 W p F B l off gr G k f) (hk : k < G) :
    Calls Tryz.prog 70 #[.agg #[.pointer (some ⟨p, 0, none⟩), .int .i64 l.k, .int .i64 l.e, .int .i64 l.a, .int .i64 l.b, .int .i64 l.c, .int .i64 l.eo, .int .i64 l.bo, .int .i64 l.s, .int .i64 l.g, .int .i64 ((gr : Int) + (k : Int) * l.g)]] W fun e w' => e = .returned (.int .i64 0) ∧ Bg d0 W0 w' p F B l off gr G (k + 1) f := by
  obtain ⟨d, hT, hP⟩ := h.dat
  refine (treset_p hT.arena (fun _ q => q.2) hP hk).mono ?_
  rintro e w' ⟨rfl, d', hT2, hP2⟩
  exact ⟨rfl, h.lt, h.nF, h.fl, ⟨d', hT.then hT2, hP2⟩, (hT2.2.block B (heap_lt h.blk) h.nB).trans h.blk⟩
end

set_option maxRecDepth 100000 in
set_option maxHeartbeats 1000000 in
theorem begin_any {w : World} {p : Nat} {F : Nat → Prop} {d0 d : AD} (hA : Arena w p F d) (hFl : ∀ k, F k → k < w.heap.size) (l : Lay) (off gr G : Nat) (h : TabP d0 d l off gr G 0 (fun _ => 0)) (depth : Int) (hd : fitsI depth) :
    Calls Tryz.prog 40 #[.agg #[.pointer (some ⟨p, 0, none⟩), .int .i64 l.k, .int .i64 l.e, .int .i64 l.a, .int .i64 l.b, .int .i64 l.c, .int .i64 l.eo, .int .i64 l.bo, .int .i64 l.s, .int .i64 l.g, .int .i64 (off : Int)], .int .i64 ((8 * G : Nat) : Int), .int .i64 depth, .int .i64 (gr : Int)] w fun e w' => (∃ v, e = .returned v) ∧ ∃ d', Turned w w' p F d' ∧ d'.Fine ∧ TabD d' l off gr G (hdr0 ((8 * G : Nat) : Int) (Pb.mostN ((8 * G : Nat) : Int)) depth (gr : Int)) (fun _ => GC.zero) ∧ Alt d0 d' off gr (G * l.g.toNat) := by
  have hnB : ¬ F w.heap.size := fun q => Nat.lt_irrefl _ (hFl _ q)
  have hM := fun W => Pb.most_any ((8 * G : Nat) : Int) W
  have ho := h.off_le
  have hfew := h.few
  obtain ⟨f9, hf9⟩ : ∃ f9, hdr0 ((8 * G : Nat) : Int) (Pb.mostN ((8 * G : Nat) : Int)) depth (gr : Int) = f9 := ⟨_, rfl⟩
  rw [hf9]
  have hgr : fitsI (gr : Int) := fitsI_mk (by omega) (by omega)
  have hsl : fitsI ((8 * G : Nat) : Int) := fitsI_mk (by omega) (by omega)
  have hmo : fitsI (Pb.mostN ((8 * G : Nat) : Int)) := by
    unfold Pb.mostN
    split
    · exact fitsI_mk (by omega) (by omega)
    · exact fitsI_mk (by omega) (by omega)
  have hv := valid_more h.valid
  have hGrp := fun (i : Nat) (hi : i < G) W => tgroup_any p l (off : Int) (gr : Int) (i : Int) W (by omega) (by omega) (by omega) (by omega) (by omega) (by omega)
  have hB0 : Bg d0 (w.alloc (.cells #[.pointer (some ⟨p, 0, none⟩), .int .i64 l.k, .int .i64 l.e, .int .i64 l.a, .int .i64 l.b, .int .i64 l.c, .int .i64 l.eo, .int .i64 l.bo, .int .i64 l.s, .int .i64 l.g, .int .i64 (off : Int)] 36)) (w.alloc (.cells #[.pointer (some ⟨p, 0, none⟩), .int .i64 l.k, .int .i64 l.e, .int .i64 l.a, .int .i64 l.b, .int .i64 l.c, .int .i64 l.eo, .int .i64 l.bo, .int .i64 l.s, .int .i64 l.g, .int .i64 (off : Int)] 36)) p F w.heap.size l off gr G 0 (fun _ => 0) :=
    ⟨by simp, hnB, fun i hi => by have := hFl i hi; simp; omega, ⟨d, (hA.keeps ((Keeps.refl _ _).alloc _) (fun _ _ _ e => e)).same (Keeps.refl _ _), h⟩, heap_alloc_new _ _⟩
  have K0 : Keeps w (w.alloc (.cells #[.pointer (some ⟨p, 0, none⟩), .int .i64 l.k, .int .i64 l.e, .int .i64 l.a, .int .i64 l.b, .int .i64 l.c, .int .i64 l.eo, .int .i64 l.bo, .int .i64 l.s, .int .i64 l.g, .int .i64 (off : Int)] 36)) (fun _ => False) := (Keeps.refl _ _).alloc _
  have hfin : Hid (∀ W f, f = f9 → Bg d0 (w.alloc (.cells #[.pointer (some ⟨p, 0, none⟩), .int .i64 l.k, .int .i64 l.e, .int .i64 l.a, .int .i64 l.b, .int .i64 l.c, .int .i64 l.eo, .int .i64 l.bo, .int .i64 l.s, .int .i64 l.g, .int .i64 (off : Int)] 36)) W p F w.heap.size l off gr G G f → ∃ d', Turned w W p F d' ∧ d'.Fine ∧ TabD d' l off gr G f9 (fun _ => GC.zero) ∧ Alt d0 d' off gr (G * l.g.toNat)) := fun W f hf hB => by
    obtain ⟨d', hT, hP⟩ := hB.dat
    subst hf
    exact ⟨d', Turned.pre K0 hT, hP.fine, hP.done, hP.alt⟩
  clear hv
  go_enter Tryz.func40, Tryz.ntmps40
  go_wp2_with fail
  generalize (w.alloc (.cells #[.pointer (some ⟨p, 0, none⟩), .int .i64 l.k, .int .i64 l.e, .int .i64 l.a, .int .i64 l.b, .int .i64 l.c, .int .i64 l.eo, .int .i64 l.bo, .int .i64 l.s, .int .i64 l.g, .int .i64 (off : Int)] 36)) = W0 at *
  unfold hdr0 at hf9
  replace hf9 := hide hf9
  clear hA hFl h hnB K0
  have hM' : ∀ W, Calls Tryz.prog 36 #[.int .i64 ((8 * G : Nat) : Int)] W fun e w' => e = .returned (.int .i64 (Pb.mostN ((8 * G : Nat) : Int))) ∧ w' = W := hM
  clear hM
  generalize Pb.mostN ((8 * G : Nat) : Int) = mo at *
  have hs8 : (((8 * G : Nat) : Int)).tdiv 8 = (G : Int) := by
    rw [Int.tdiv_eq_ediv_of_nonneg (by omega)]
    omega
  have hsb : (0 : Int) ≤ ((8 * G : Nat) : Int) := by omega
  generalize ((8 * G : Nat) : Int) = sl at *
  have s0 := bg_set hB0 0 (by omega) 2 (fitsI_mk (by omega) (by omega))
  rw [show ((0 : Nat) : Int) = 0 from rfl] at s0
  (with_reducible refine s0.mono ?_)
  clear s0
  rintro r W1 ⟨rfl, B1⟩
  clear hB0
  obtain ⟨c0, c1, c2, c3, c4, c5, c6, c7, c8, c9, c10⟩ := B1.cells
  go_wp2_with fail
  have s0 := bg_set B1 4 (by omega) sl hsl
  rw [show ((4 : Nat) : Int) = 4 from rfl] at s0
  (with_reducible refine s0.mono ?_)
  clear s0
  rintro r W2 ⟨rfl, B2⟩
  clear B1 c0 c1 c2 c3 c4 c5 c6 c7 c8 c9 c10
  have C2 := B2.cells
  have s3 := bg_set (B2.stay (Keeps.refl _ (fun _ => False)).drew) 5 (by omega) mo hmo
  rw [show ((5 : Nat) : Int) = 5 from rfl] at s3
  go_wp2_with fail
  go_region_held3 (fun w' => w'.cell? ⟨w.heap.size, 0, none⟩ = some (.pointer (some ⟨p, 0, none⟩)) ∧ w'.cell? ⟨w.heap.size, 1, none⟩ = some (.int .i64 l.k) ∧ w'.cell? ⟨w.heap.size, 2, none⟩ = some (.int .i64 l.e) ∧ w'.cell? ⟨w.heap.size, 3, none⟩ = some (.int .i64 l.a) ∧ w'.cell? ⟨w.heap.size, 4, none⟩ = some (.int .i64 l.b) ∧ w'.cell? ⟨w.heap.size, 5, none⟩ = some (.int .i64 l.c) ∧ w'.cell? ⟨w.heap.size, 6, none⟩ = some (.int .i64 l.eo) ∧ w'.cell? ⟨w.heap.size, 7, none⟩ = some (.int .i64 l.bo) ∧ w'.cell? ⟨w.heap.size, 8, none⟩ = some (.int .i64 l.s) ∧ w'.cell? ⟨w.heap.size, 9, none⟩ = some (.int .i64 l.g) ∧ w'.cell? ⟨w.heap.size, 10, none⟩ = some (.int .i64 off)) (first | exact c11_drew C2 | exact B3.cells | assumption)
    (first | (go_at_call 36; refine (hM' _).mono ?_; rintro r wS ⟨rfl, rfl⟩) | (go_at_call 46; (with_reducible refine s3.mono ?_); rintro r W3 ⟨rfl, B3⟩))
  clear C2 B2 s3
  obtain ⟨c0, c1, c2, c3, c4, c5, c6, c7, c8, c9, c10⟩ := B3.cells
  go_wp2_with fail
  have s0 := bg_set B3 6 (by omega) depth hd
  rw [show ((6 : Nat) : Int) = 6 from rfl] at s0
  (with_reducible refine s0.mono ?_)
  clear s0
  rintro r W4 ⟨rfl, B4⟩
  clear B3 c0 c1 c2 c3 c4 c5 c6 c7 c8 c9 c10
  obtain ⟨c0, c1, c2, c3, c4, c5, c6, c7, c8, c9, c10⟩ := B4.cells
  go_wp2_with fail
  have s0 := bg_set B4 7 (by omega) (gr : Int) hgr
  rw [show ((7 : Nat) : Int) = 7 from rfl] at s0
  (with_reducible refine s0.mono ?_)
  clear s0
  rintro r W5 ⟨rfl, B5⟩
  clear B4 c0 c1 c2 c3 c4 c5 c6 c7 c8 c9 c10
  rw [hf9.out] at B5
  go_wp2_with fail
  go_loopg [26] G (fun g v26 wr => ∃ i : Nat, g = G - i ∧ i ≤ G ∧ v26 = .int .i64 (i : Int) ∧ Bg d0 W0 wr p F w.heap.size l off gr G i f9)
  case atStart => exact ⟨0, rfl, Nat.zero_le _, rfl, B5⟩
  case round =>
    clear B5
    obtain ⟨i, rfl, hi, rfl, Bi⟩ := hrel
    by_cases hlt : i < G
    · have hlt' : (i : Int) < (G : Int) := by omega
      obtain ⟨c0, c1, c2, c3, c4, c5, c6, c7, c8, c9, c10⟩ := Bi.cells
      go_wp2_with fail
      (with_reducible refine (hGrp i hlt _).mono ?_)
      rintro r w6 ⟨rfl, k6⟩
      have B6 := Bi.stay k6
      clear Bi c0 c1 c2 c3 c4 c5 c6 c7 c8 c9 c10
      go_wp2_with fail
      (with_reducible refine (bg_reset B6 hlt).mono ?_)
      rintro r w7 ⟨rfl, B7⟩
      clear B6
      go_wp2_with fail
      go_roundg (G - (i + 1))
      case measure => omega
      case rel => exact ⟨i + 1, rfl, by omega, by simp, B7⟩
    · obtain rfl : i = G := by omega
      have hlt' : ¬ (i : Int) < (i : Int) := by omega
      have HF := hide (hfin.out wr f9 rfl Bi)
      clear Bi hfin
      go_wp2_with fail
      go_end0
      exact ⟨⟨_, rfl⟩, HF.out⟩
end Go.Proofs.YtmdnknbolgedgaaGreatDoor
/-
  A new table's two blocks, as data.
-/
namespace Go.Proofs.YtmdnknbolgedgaaGreatDoor
open Go.RowKit Go.Shelf Ly Ct
set_option linter.unusedVariables false

theorem numOf_zeros : ∀ n : Nat, numOf (zeros n) = 0
  | 0 => rfl
  | n + 1 => by
    have e : zeros (n + 1) = 0 :: zeros n := rfl
    rw [e]
    simp [numOf, numOf_zeros n]
theorem drop_zeros (a n k m : Nat) (bs : List UInt8) (h : bs.length ≤ a) (h2 : a + m ≤ bs.length + n) : ((bs ++ zeros n).drop a).take m = zeros m := by
  apply List.ext_getElem?
  intro j
  simp only [List.getElem?_take, List.getElem?_drop]
  unfold zeros
  split
  · rw [List.getElem?_append_right (by omega), List.getElem?_replicate, List.getElem?_replicate, if_pos (by omega), if_pos (by omega)]
  · rw [List.getElem?_replicate, if_neg (by omega)]
/-- Two new blocks of zeros: a table under way. -/
theorem newP {d : AD} {l : Lay} {G c : Nat} (hF : d.Fine) (hv : validB l = true) (hG : 0 < G) (hG2 : G ≤ 8192) (hc : G * l.g.toNat ≤ c) (hr : d.bs.length + 64 + c ≤ 134217728) (hu : d.used + 64 + c ≤ d.limit) :
    TabP ((d.took 64).took c) ((d.took 64).took c) l d.bs.length (d.bs.length + 64) G 0 (fun _ => 0) := by
  have hvm := valid_more hv
  have hg0 : 0 < l.g.toNat := by omega
  have hc0 : 0 < c := Nat.lt_of_lt_of_le (Nat.mul_pos hG hg0) hc
  have hF1 : (d.took 64).Fine := hF.took (by omega) (by omega) (by omega)
  have hl1 : (d.took 64).bs.length = d.bs.length + 64 := by rw [AD.took_bs, List.length_append, zeros_length]
  have hF2 : ((d.took 64).took c).Fine := hF1.took hc0 (by omega) (by rw [AD.took_used, AD.took_limit]; omega)
  have hbs : ((d.took 64).took c).bs = d.bs ++ zeros (64 + c) := by
    rw [AD.took_bs, AD.took_bs, List.append_assoc]
    congr 1
    unfold zeros
    rw [List.replicate_append_replicate]
  have hlen : ((d.took 64).took c).bs.length = d.bs.length + 64 + c := by rw [hbs, List.length_append, zeros_length]; omega
  have hL : ((d.took 64).took c).L = d.L ++ [(d.bs.length, 64)] ++ [(d.bs.length + 64, c)] := by rw [AD.took_L, AD.took_L, hl1]
  have hlv : ((d.took 64).took c).lv = upd (upd d.lv (d.bs.length : Nat) (some ((64 : Nat) : Int))) ((d.bs.length + 64 : Nat) : Int) (some (c : Int)) := by rw [AD.took_lv, AD.took_lv, hl1]
  have hv1 : ((d.took 64).took c).lv (d.bs.length : Int) = some 64 := by
    rw [hlv, upd_other _ _ _ _ (by omega), upd_same]
    rfl
  have hv2 : ((d.took 64).took c).lv ((d.bs.length + 64 : Nat) : Int) = some (c : Int) := by rw [hlv, upd_same]
  have m1 : (d.bs.length, 64) ∈ ((d.took 64).took c).L := by rw [hL]; simp
  have m2 : (d.bs.length + 64, c) ∈ ((d.took 64).took c).L := by rw [hL]; simp
  refine ⟨hF2, hv, hG, hG2, AD.goodB_mk m1 hv1 (by omega) (by simp) (by simp), by omega, by omega, fun i hi => ?_, fun i hi => ?_, fun i hi => by omega, Nat.zero_le _, Or.inl (Nat.le_refl _), Alt.refl _ _ _ _⟩
  · unfold hdr AD.span
    rw [hbs, show ((d.bs.length : Int) + (i : Int) * 8).toNat = d.bs.length + i * 8 by omega, show (8 : Int).toNat = 8 from rfl, drop_zeros _ _ 0 _ _ (by omega) (by omega), numOf_zeros]
    unfold wrap64
    omega
  · have := mul_apart (s := l.g.toNat) hi
    exact AD.goodB_mk m2 hv2 (by omega) (by show ((d.bs.length + 64 : Nat) : Int) ≤ ((d.bs.length + 64 + i * l.g.toNat : Nat) : Int); omega) (by show ((d.bs.length + 64 + i * l.g.toNat : Nat) : Int) - ((d.bs.length + 64 : Nat) : Int) ≤ (c : Int) - l.g; omega)
end Go.Proofs.YtmdnknbolgedgaaGreatDoor
