import Derived.Test.YtdnkjbbpfhegdaaGreatMg13
/-
  The law's take: a slot is filled.
-/
namespace Go.Proofs.YtdnkjbbpfhegdaaGreat
open Go.RowKit Go.Shelf Ly Ct
set_option linter.unusedVariables false

abbrev N5 (b : Nat) (v0 v1 v2 v3 v4 : Value) (w : World) : Prop := w.cell? ⟨b, 0, none⟩ = some v0 ∧ w.cell? ⟨b, 1, none⟩ = some v1 ∧ w.cell? ⟨b, 2, none⟩ = some v2 ∧ w.cell? ⟨b, 3, none⟩ = some v3 ∧ w.cell? ⟨b, 4, none⟩ = some v4
theorem n5_of {w : World} {b : Nat} {v0 v1 v2 v3 v4 : Value} {t : TypeId} (h : w.heap[b]? = some (.cells #[v0, v1, v2, v3, v4] t)) : N5 b v0 v1 v2 v3 v4 w := by
  unfold N5
  simp [World.cell?, h]
theorem n5_keeps {w w1 : World} {b : Nat} {v0 v1 v2 v3 v4 : Value} {S : Nat → Prop} (k : Keeps w w1 S) (hS : ¬ S b) (h : N5 b v0 v1 v2 v3 v4 w) : N5 b v0 v1 v2 v3 v4 w1 := by
  obtain ⟨h0, h1, h2, h3, h4⟩ := h
  exact ⟨cell_keeps k h0 hS, cell_keeps k h1 hS, cell_keeps k h2 hS, cell_keeps k h3 hS, cell_keeps k h4 hS⟩
theorem n28_keeps {w w1 : World} {a b e p : Nat} {l : Lay} {off : Int} {v0 v1 v2 v3 v4 u0 u1 u2 u3 u4 u5 u6 u7 u8 u9 u10 u11 : Value} {S : Nat → Prop} (k : Keeps w w1 S) (ha : ¬ S a) (hb : ¬ S b) (he : ¬ S e) (h : C11 a p l off w ∧ N5 b v0 v1 v2 v3 v4 w ∧ N12 e u0 u1 u2 u3 u4 u5 u6 u7 u8 u9 u10 u11 w) : C11 a p l off w1 ∧ N5 b v0 v1 v2 v3 v4 w1 ∧ N12 e u0 u1 u2 u3 u4 u5 u6 u7 u8 u9 u10 u11 w1 := ⟨c11_keeps k ha h.1, n5_keeps k hb h.2.1, n12_keeps k he h.2.2⟩

set_option maxHeartbeats 4000000 in
set_option maxRecDepth 100000 in
theorem take_fill {w : World} {p : Nat} {F : Nat → Prop} {d : AD} (hA : Arena w p F d) (hF : d.Fine) (hSm : d.small) (hFl : ∀ k, F k → k < w.heap.size) (l : Lay) (off : Nat) (en : Int) (c : Nat → GC) (hG : GroupAt d l off c) (ho : fitsI (off : Int)) (hn : fitsI l.g)
    (sk si st sb : Int) (sx : ByteArray) (hx : sx.size ≤ 140737488355328) (hb : -9223372036854775808 ≤ sb ∧ sb ≤ 9223372036854775807) (hk : Mod6 sk 5 0) (i : Nat) (hi : Mod6 si 8 (i : Int)) (hi8 : i < 8) (t : Int) (ht : Mod6 st 128 t) (ht0 : 0 ≤ t) (ht1 : t ≤ 127) :
    Calls Tryz.prog 8 #[.agg #[.pointer (some ⟨p, 0, none⟩), .int .i64 l.k, .int .i64 l.e, .int .i64 l.a, .int .i64 l.b, .int .i64 l.c, .int .i64 l.eo, .int .i64 l.bo, .int .i64 l.s, .int .i64 l.g, .int .i64 (off : Int), .int .i64 en], .agg #[.int .i64 sk, .int .i64 si, .int .i64 st, .int .i64 sb, .string sx]] w fun e w' => e = .returned (.bool true) ∧ Turned w w' p F (fillG d l off i t (wideD sx l.k.toNat) (wideD (sx ++ ⟨#[45]⟩) l.e.toNat) (birthD sb)).2 := by
  have hvm := valid_more hG.valid
  have hbd := birthD_in hb
  obtain ⟨kN, hkN⟩ := Int.eq_ofNat_of_zero_le (show 0 ≤ l.k by omega)
  obtain ⟨eN, heN⟩ := Int.eq_ofNat_of_zero_le (show 0 ≤ l.e by omega)
  have hsk : ((wideD sx l.k.toNat).size : Int) = l.k := by rw [wideD_size]; omega
  have hse : ((wideD (sx ++ ⟨#[45]⟩) l.e.toNat).size : Int) = l.e := by rw [wideD_size]; omega
  obtain ⟨he1, he2, he3⟩ := hG.fill hi8 ht0 ht1 hsk hse hbd.1 hbd.2
  have hsz : (sx ++ (⟨#[45]⟩ : ByteArray)).size = sx.size + 1 := by rw [ByteArray.size_append]; rfl
  have hWk := fun V => wide_any sx l.k.toNat V (by omega) (by omega)
  have hWe := fun V => wide_any (sx ++ ⟨#[45]⟩) l.e.toNat V (by omega) (by omega)
  rw [show ((l.k.toNat : Nat) : Int) = l.k by omega] at hWk
  rw [show ((l.e.toNat : Nat) : Int) = l.e by omega] at hWe
  have hBi := fun V => birth6_any sb V hb
  have hadd := fun V => run_string_add_sum (P := Tryz.prog) (w := V) sx ⟨#[45]⟩ (by show sx.size + 1 ≤ _; omega)
  have hAt := fun V => at_any p l (off : Int) V
  have hEr : ∀ V, Keeps w V (fun _ => False) → Calls Tryz.prog 12 #[.agg #[.pointer (some ⟨p, 0, none⟩), .int .i64 l.k, .int .i64 l.e, .int .i64 l.a, .int .i64 l.b, .int .i64 l.c, .int .i64 l.eo, .int .i64 l.bo, .int .i64 l.s, .int .i64 l.g, .int .i64 (off : Int)], .int .i64 (i : Int), .int .i64 t, .string (wideD sx l.k.toNat), .string (wideD (sx ++ ⟨#[45]⟩) l.e.toNat), .int .i64 (birthD sb)] V fun e w' => ErrPost V p F 0 (fillG d l off i t (wideD sx l.k.toNat) (wideD (sx ++ ⟨#[45]⟩) l.e.toNat) (birthD sb)).2 e w' := fun V k => by
    have := gfill_any (hA.keeps k (fun _ _ _ e => e)) hF hSm (fun j hj => Nat.lt_of_lt_of_le (hFl j hj) k.size) l (off : Int) (i : Int) t (wideD sx l.k.toNat) (wideD (sx ++ ⟨#[45]⟩) l.e.toNat) (birthD sb) hbd.2 ho hn
    rw [he1] at this
    exact this
  have hCe : ∀ V {G : Nat → Prop}, Arena V p G (fillG d l off i t (wideD sx l.k.toNat) (wideD (sx ++ ⟨#[45]⟩) l.e.toNat) (birthD sb)).2 → Calls Tryz.prog 13 #[.agg #[.pointer (some ⟨p, 0, none⟩), .int .i64 l.k, .int .i64 l.e, .int .i64 l.a, .int .i64 l.b, .int .i64 l.c, .int .i64 l.eo, .int .i64 l.bo, .int .i64 l.s, .int .i64 l.g, .int .i64 (off : Int)], .int .i64 (i : Int)] V fun e w' => CellPost V (GC.full t (wideD sx l.k.toNat) (wideD (sx ++ ⟨#[45]⟩) l.e.toNat) (birthD sb)) 0 e w' := fun V G hV => by
    have := cell_any hV (he3.fine hF) l (off : Int) (i : Int) ho hn
    rw [he2.cell hi8] at this
    have e : updC c i (GC.full t (wideD sx l.k.toNat) (wideD (sx ++ ⟨#[45]⟩) l.e.toNat) (birthD sb)) i = GC.full t (wideD sx l.k.toNat) (wideD (sx ++ ⟨#[45]⟩) l.e.toNat) (birthD sb) := by simp [updC]
    rw [e] at this
    exact this
  generalize (fillG d l off i t (wideD sx l.k.toNat) (wideD (sx ++ ⟨#[45]⟩) l.e.toNat) (birthD sb)).2 = d1 at *
  generalize wideD sx l.k.toNat = KS at *
  generalize wideD (sx ++ ⟨#[45]⟩) l.e.toNat = ES at *
  generalize hsp : sx ++ (⟨#[45]⟩ : ByteArray) = sy at *
  generalize birthD sb = BD at *
  clear he1 he2 he3 hG hA hvm hbd hkN heN hsk hse hsz hsp
  go_enter Tryz.func8, Tryz.ntmps8
  go_wp2_with fail
  refine alloc2 (P := fun W => Calls _ _ _ W _) fun W0 hb hr hz K0 => ?_
  refine (hAt _).mono ?_
  rintro r w1 ⟨rfl, k1⟩
  have K1 : Keeps w w1 (fun _ => False) := K0.trans k1 (fun _ _ e => e)
  obtain ⟨s0, s1, s2, s3, s4, -⟩ := five_cells (k1.blk hr)
  have hlt1 : w.heap.size + 1 < w1.heap.size := heap_lt (k1.blk hr)
  go_wp2_with fail
  refine (mod6_is hi _).mono ?_
  rintro r w2 ⟨rfl, hw2⟩
  have C2 : C11 w1.heap.size p l (off : Int) w2 := by rw [hw2]; exact c11_of (heap_alloc_new _ _)
  have K2 : Keeps w1 w2 (fun _ => False) := by rw [hw2]; exact (Keeps.refl _ _).alloc _
  have hz2 : w1.heap.size < w2.heap.size := by rw [hw2]; simp
  obtain ⟨t0, t1, t2, t3, t4, -⟩ := five_cells (K2.blk (k1.blk hr))
  have D2 := n12_of (K2.blk (k1.blk hb))
  clear s0 s1 s2 s3 s4 hw2
  go_wp2_with fail
  refine (mod6_is hk _).mono ?_
  rintro r w3 ⟨rfl, rfl⟩
  have K3 : Keeps w w3 (fun _ => False) := K1.trans K2 (fun _ _ e => e)
  go_wp2_with fail
  have hn1 : ¬ F w1.heap.size := fun q => by
    have := hFl _ q
    have := K1.size
    omega
  have hn2 : ¬ F (w.heap.size + 1) := fun q => by
    have := hFl _ q
    omega
  have hn3 : ¬ F w.heap.size := fun q => Nat.lt_irrefl _ (hFl _ q)
  have S3 : C11 w1.heap.size p l (off : Int) w3 ∧ N5 (w.heap.size + 1) _ _ _ _ _ w3 ∧ N12 w.heap.size _ _ _ _ _ _ _ _ _ _ _ _ w3 := ⟨C2, n5_of (K2.blk (k1.blk hr)), D2⟩
  have SD := n28_keeps (Keeps.refl w3 (fun _ => False)).drew id id id S3
  clear t0 t1 t2 t3 t4 C2 D2
  go_region_held3 (fun w' => (w'.cell? ⟨w1.heap.size, 0, none⟩ = some (.pointer (some ⟨p, 0, none⟩)) ∧ w'.cell? ⟨w1.heap.size, 1, none⟩ = some (.int .i64 l.k) ∧ w'.cell? ⟨w1.heap.size, 2, none⟩ = some (.int .i64 l.e) ∧ w'.cell? ⟨w1.heap.size, 3, none⟩ = some (.int .i64 l.a) ∧ w'.cell? ⟨w1.heap.size, 4, none⟩ = some (.int .i64 l.b) ∧ w'.cell? ⟨w1.heap.size, 5, none⟩ = some (.int .i64 l.c) ∧ w'.cell? ⟨w1.heap.size, 6, none⟩ = some (.int .i64 l.eo) ∧ w'.cell? ⟨w1.heap.size, 7, none⟩ = some (.int .i64 l.bo) ∧ w'.cell? ⟨w1.heap.size, 8, none⟩ = some (.int .i64 l.s) ∧ w'.cell? ⟨w1.heap.size, 9, none⟩ = some (.int .i64 l.g) ∧ w'.cell? ⟨w1.heap.size, 10, none⟩ = some (.int .i64 (off : Int))) ∧ (w'.cell? ⟨w.heap.size + 1, 0, none⟩ = some (.int .i64 sk) ∧ w'.cell? ⟨w.heap.size + 1, 1, none⟩ = some (.int .i64 si) ∧ w'.cell? ⟨w.heap.size + 1, 2, none⟩ = some (.int .i64 st) ∧ w'.cell? ⟨w.heap.size + 1, 3, none⟩ = some (.int .i64 sb) ∧ w'.cell? ⟨w.heap.size + 1, 4, none⟩ = some (.string sx)) ∧ (w'.cell? ⟨w.heap.size, 0, none⟩ = some (.pointer (some ⟨p, 0, none⟩)) ∧ w'.cell? ⟨w.heap.size, 1, none⟩ = some (.int .i64 l.k) ∧ w'.cell? ⟨w.heap.size, 2, none⟩ = some (.int .i64 l.e) ∧ w'.cell? ⟨w.heap.size, 3, none⟩ = some (.int .i64 l.a) ∧ w'.cell? ⟨w.heap.size, 4, none⟩ = some (.int .i64 l.b) ∧ w'.cell? ⟨w.heap.size, 5, none⟩ = some (.int .i64 l.c) ∧ w'.cell? ⟨w.heap.size, 6, none⟩ = some (.int .i64 l.eo) ∧ w'.cell? ⟨w.heap.size, 7, none⟩ = some (.int .i64 l.bo) ∧ w'.cell? ⟨w.heap.size, 8, none⟩ = some (.int .i64 l.s) ∧ w'.cell? ⟨w.heap.size, 9, none⟩ = some (.int .i64 l.g) ∧ w'.cell? ⟨w.heap.size, 10, none⟩ = some (.int .i64 (off : Int)) ∧ w'.cell? ⟨w.heap.size, 11, none⟩ = some (.int .i64 en))) (first | with_reducible assumption) (first | (go_at_call 9; (with_reducible refine (mod6_is ht _).mono ?_); rintro r wM ⟨rfl, rfl⟩) | (go_at_call 16; (with_reducible refine (hWk _).mono ?_); rintro r wM ⟨rfl, rfl⟩) | (go_at_call 16; (with_reducible refine (hWe _).mono ?_); rintro r wM ⟨rfl, rfl⟩) | (go_at_call 23; (with_reducible refine (hBi _).mono ?_); rintro r wM ⟨rfl, rfl⟩) | (go_at_call 12; (with_reducible refine (hEr _ K3.drew).mono ?_); rintro r w4 ⟨rfl, T4⟩; have S4 := n28_keeps T4.2 hn1 hn2 hn3 SD))
  have T4' := hide (Turned.pre K3.drew T4)
  have A4 := T4.1
  have S4' := S4
  obtain ⟨⟨c0, c1, c2, c3, c4, c5, c6, c7, c8, c9, c10⟩, -, -⟩ := S4'
  clear SD S3
  go_wp2_with fail
  refine (hCe _ A4).mono ?_
  rintro r w5 ⟨rfl, k5⟩
  have T5 := hide (T4'.out.post k5)
  have S5 := n28_keeps k5 id id id S4
  clear T4 A4 T4' hEr hCe c0 c1 c2 c3 c4 c5 c6 c7 c8 c9 c10 S4
  unfold GC.val GC.full
  go_wp2_with fail
  refine alloc1 (P := fun W => Code.wp _ _ _ _ W) fun W6 h6 hz6 K6 => ?_
  have T6 := hide (T5.out.post K6)
  have K6d := (Keeps.refl W6 (fun _ => False)).drew
  have S6 : N5 w5.heap.size _ _ _ _ _ W6.drew ∧ N5 (w.heap.size + 1) _ _ _ _ _ W6.drew ∧ N12 w.heap.size _ _ _ _ _ _ _ _ _ _ _ _ W6.drew := ⟨n5_of (K6d.blk h6), n5_keeps K6d id (n5_keeps K6 id S5.2.1), n12_keeps K6d id (n12_keeps K6 id S5.2.2)⟩
  clear S5 T5
  go_region_held3 (fun w' => (w'.cell? ⟨w5.heap.size, 0, none⟩ = some (.int .i64 2) ∧ w'.cell? ⟨w5.heap.size, 1, none⟩ = some (.int .i64 t) ∧ w'.cell? ⟨w5.heap.size, 2, none⟩ = some (.string KS) ∧ w'.cell? ⟨w5.heap.size, 3, none⟩ = some (.string ES) ∧ w'.cell? ⟨w5.heap.size, 4, none⟩ = some (.int .i64 BD)) ∧ (w'.cell? ⟨w.heap.size + 1, 0, none⟩ = some (.int .i64 sk) ∧ w'.cell? ⟨w.heap.size + 1, 1, none⟩ = some (.int .i64 si) ∧ w'.cell? ⟨w.heap.size + 1, 2, none⟩ = some (.int .i64 st) ∧ w'.cell? ⟨w.heap.size + 1, 3, none⟩ = some (.int .i64 sb) ∧ w'.cell? ⟨w.heap.size + 1, 4, none⟩ = some (.string sx)) ∧ (w'.cell? ⟨w.heap.size, 0, none⟩ = some (.pointer (some ⟨p, 0, none⟩)) ∧ w'.cell? ⟨w.heap.size, 1, none⟩ = some (.int .i64 l.k) ∧ w'.cell? ⟨w.heap.size, 2, none⟩ = some (.int .i64 l.e) ∧ w'.cell? ⟨w.heap.size, 3, none⟩ = some (.int .i64 l.a) ∧ w'.cell? ⟨w.heap.size, 4, none⟩ = some (.int .i64 l.b) ∧ w'.cell? ⟨w.heap.size, 5, none⟩ = some (.int .i64 l.c) ∧ w'.cell? ⟨w.heap.size, 6, none⟩ = some (.int .i64 l.eo) ∧ w'.cell? ⟨w.heap.size, 7, none⟩ = some (.int .i64 l.bo) ∧ w'.cell? ⟨w.heap.size, 8, none⟩ = some (.int .i64 l.s) ∧ w'.cell? ⟨w.heap.size, 9, none⟩ = some (.int .i64 l.g) ∧ w'.cell? ⟨w.heap.size, 10, none⟩ = some (.int .i64 (off : Int)) ∧ w'.cell? ⟨w.heap.size, 11, none⟩ = some (.int .i64 en))) (first | with_reducible assumption) (first | (go_at_call 9; (with_reducible refine (mod6_is ht _).mono ?_); rintro r wM ⟨rfl, rfl⟩) | (go_at_call 16; (with_reducible refine (hWk _).mono ?_); rintro r wM ⟨rfl, rfl⟩) | (go_at_call 16; (with_reducible refine (hWe _).mono ?_); rintro r wM ⟨rfl, rfl⟩) | (go_at_call 23; (with_reducible refine (hBi _).mono ?_); rintro r wM ⟨rfl, rfl⟩))
  all_goals go_wp2_with fail
  all_goals go_ret
  all_goals exact ⟨rfl, T6.out.post K6d⟩
end Go.Proofs.YtdnkjbbpfhegdaaGreat
/-
  The law's take: an elem alone.
-/
namespace Go.Proofs.YtdnkjbbpfhegdaaGreat
open Go.RowKit Go.Shelf Ly Ct
set_option linter.unusedVariables false

/-- A block of one's own has turned behind a call. -/
theorem Turned.own {w V w6 W9 : World} {p b : Nat} {F : Nat → Prop} {d : AD} (kV : Keeps w V (fun _ => False)) (h : Turned V w6 p F d) (hb1 : w.heap.size ≤ b) (hb2 : b < V.heap.size) (hbF : ¬ F b) (k : Keeps w6 W9 (fun i => i = b)) : Turned w W9 p F d := by
  have hs := kV.size
  refine ⟨(h.1.keeps k (fun i _ hi e => ?_)).mono (fun i _ hi => hi.elim Or.inl (fun q => Or.inr (Nat.le_trans hs q))), (((kV.mono (fun _ _ e => e.elim)).trans h.2 (fun _ _ e => e)).trans k (fun i hi e => by omega))⟩
  subst e
  rcases hi with hi | hi
  · exact hbF hi
  · omega

set_option maxHeartbeats 4000000 in
set_option maxRecDepth 100000 in
/-- A slot that is not full. -/
theorem take_set_no {w : World} {p : Nat} {F : Nat → Prop} {d : AD} (hA : Arena w p F d) (hF : d.Fine) (hSm : d.small) (hFl : ∀ k, F k → k < w.heap.size) (l : Lay) (off : Nat) (en : Int) (c : Nat → GC) (hG : GroupAt d l off c) (ho : fitsI (off : Int)) (hn : fitsI l.g)
    (sk si st sb : Int) (sx : ByteArray) (hx : sx.size ≤ 140737488355328) (hk : Mod6 sk 5 1) (i : Nat) (hi : Mod6 si 8 (i : Int)) (hi8 : i < 8) (h2 : (c i).kind ≠ 2) :
    Calls Tryz.prog 8 #[.agg #[.pointer (some ⟨p, 0, none⟩), .int .i64 l.k, .int .i64 l.e, .int .i64 l.a, .int .i64 l.b, .int .i64 l.c, .int .i64 l.eo, .int .i64 l.bo, .int .i64 l.s, .int .i64 l.g, .int .i64 (off : Int), .int .i64 en], .agg #[.int .i64 sk, .int .i64 si, .int .i64 st, .int .i64 sb, .string sx]] w fun e w' => e = .returned (.bool true) ∧ Turned w w' p F d := by
  have hvm := valid_more hG.valid
  have hse : ((wideD sx l.e.toNat).size : Int) = l.e := by rw [wideD_size]; omega
  have hv := hG.vacant hi8 hse h2
  have hWe := fun V => wide_any sx l.e.toNat V (by omega) (by omega)
  rw [show ((l.e.toNat : Nat) : Int) = l.e by omega] at hWe
  have hAt := fun V => at_any p l (off : Int) V
  have hEr : ∀ V, Keeps w V (fun _ => False) → Calls Tryz.prog 24 #[.agg #[.pointer (some ⟨p, 0, none⟩), .int .i64 l.k, .int .i64 l.e, .int .i64 l.a, .int .i64 l.b, .int .i64 l.c, .int .i64 l.eo, .int .i64 l.bo, .int .i64 l.s, .int .i64 l.g, .int .i64 (off : Int)], .int .i64 (i : Int), .string (wideD sx l.e.toNat)] V fun e w' => ErrPost V p F 65 d e w' := fun V k => by
    have := gsetElem_any (hA.keeps k (fun _ _ _ e => e)) hF hSm (fun j hj => Nat.lt_of_lt_of_le (hFl j hj) k.size) l (off : Int) (i : Int) (wideD sx l.e.toNat) (by rw [wideD_size]; omega) ho hn
    rw [hv] at this
    exact this
  have hCe : ∀ V {G : Nat → Prop}, Arena V p G d → Calls Tryz.prog 13 #[.agg #[.pointer (some ⟨p, 0, none⟩), .int .i64 l.k, .int .i64 l.e, .int .i64 l.a, .int .i64 l.b, .int .i64 l.c, .int .i64 l.eo, .int .i64 l.bo, .int .i64 l.s, .int .i64 l.g, .int .i64 (off : Int)], .int .i64 (i : Int)] V fun e w' => CellPost V (c i) 0 e w' := fun V G hV => by
    have := cell_any hV hF l (off : Int) (i : Int) ho hn
    rw [hG.cell hi8] at this
    exact this
  have A0 := hide hA
  clear hG hA hvm hse hv
  generalize c i = x at *
  obtain ⟨xk, xt, xK, xE, xB⟩ := x
  simp only at h2
  have h2' : (xk != 2) = true := by simpa using h2
  generalize wideD sx l.e.toNat = ES at *
  go_enter Tryz.func8, Tryz.ntmps8
  go_wp2_with fail
  refine alloc2 (P := fun W => Calls _ _ _ W _) fun W0 hb hr hz K0 => ?_
  refine (hAt _).mono ?_
  rintro r w1 ⟨rfl, k1⟩
  have K1 : Keeps w w1 (fun _ => False) := K0.trans k1 (fun _ _ e => e)
  obtain ⟨s0, s1, s2, s3, s4, -⟩ := five_cells (k1.blk hr)
  have hlt1 : w.heap.size + 1 < w1.heap.size := heap_lt (k1.blk hr)
  go_wp2_with fail
  refine (mod6_is hi _).mono ?_
  rintro r w2 ⟨rfl, hw2⟩
  have C2 : C11 w1.heap.size p l (off : Int) w2 := by rw [hw2]; exact c11_of (heap_alloc_new _ _)
  have K2 : Keeps w1 w2 (fun _ => False) := by rw [hw2]; exact (Keeps.refl _ _).alloc _
  have hz2 : w1.heap.size < w2.heap.size := by rw [hw2]; simp
  obtain ⟨t0, t1, t2, t3, t4, -⟩ := five_cells (K2.blk (k1.blk hr))
  have D2 := n12_of (K2.blk (k1.blk hb))
  clear s0 s1 s2 s3 s4 hw2
  go_wp2_with fail
  refine (mod6_is hk _).mono ?_
  rintro r w3 ⟨rfl, rfl⟩
  have K3 : Keeps w w3 (fun _ => False) := K1.trans K2 (fun _ _ e => e)
  have C2' := C2
  obtain ⟨c0, c1, c2, c3, c4, c5, c6, c7, c8, c9, c10⟩ := C2'
  go_wp2_with fail
  refine (hCe _ (A0.out.keeps K3 (fun _ _ _ e => e))).mono ?_
  rintro r w4 ⟨rfl, k4⟩
  have hn1 : ¬ F w1.heap.size := fun q => by
    have := hFl _ q
    have := K1.size
    omega
  have hn2 : ¬ F (w.heap.size + 1) := fun q => by
    have := hFl _ q
    omega
  have hn3 : ¬ F w.heap.size := fun q => Nat.lt_irrefl _ (hFl _ q)
  have S4 : C11 w1.heap.size p l (off : Int) w4 ∧ N5 (w.heap.size + 1) _ _ _ _ _ w4 ∧ N12 w.heap.size _ _ _ _ _ _ _ _ _ _ _ _ w4 := ⟨c11_keeps k4 id C2, n5_of (k4.blk (K2.blk (k1.blk hr))), n12_keeps k4 id D2⟩
  have K4 : Keeps w w4 (fun _ => False) := K3.trans k4 (fun _ _ e => e)
  have hn4 : ¬ F w4.heap.size := fun q => by
    have := hFl _ q
    have := K4.size
    omega
  clear c0 c1 c2 c3 c4 c5 c6 c7 c8 c9 c10 t0 t1 t2 t3 t4 C2 D2
  unfold GC.val
  go_wp2_with fail
  refine alloc1 (P := fun W => Code.wp _ _ _ _ W) fun W5 h5 hz5 K5 => ?_
  have K5w : Keeps w W5.drew (fun _ => False) := (K4.trans K5 (fun _ _ e => e)).drew
  have SD := n28_keeps ((Keeps.refl W5 (fun _ => False)).drew) id id id (n28_keeps K5 id id id S4)
  have h5d : W5.drew.heap[w4.heap.size]? = _ := h5
  clear S4
  go_region_held3 (fun w' => (w'.cell? ⟨w1.heap.size, 0, none⟩ = some (.pointer (some ⟨p, 0, none⟩)) ∧ w'.cell? ⟨w1.heap.size, 1, none⟩ = some (.int .i64 l.k) ∧ w'.cell? ⟨w1.heap.size, 2, none⟩ = some (.int .i64 l.e) ∧ w'.cell? ⟨w1.heap.size, 3, none⟩ = some (.int .i64 l.a) ∧ w'.cell? ⟨w1.heap.size, 4, none⟩ = some (.int .i64 l.b) ∧ w'.cell? ⟨w1.heap.size, 5, none⟩ = some (.int .i64 l.c) ∧ w'.cell? ⟨w1.heap.size, 6, none⟩ = some (.int .i64 l.eo) ∧ w'.cell? ⟨w1.heap.size, 7, none⟩ = some (.int .i64 l.bo) ∧ w'.cell? ⟨w1.heap.size, 8, none⟩ = some (.int .i64 l.s) ∧ w'.cell? ⟨w1.heap.size, 9, none⟩ = some (.int .i64 l.g) ∧ w'.cell? ⟨w1.heap.size, 10, none⟩ = some (.int .i64 (off : Int))) ∧ (w'.cell? ⟨w.heap.size + 1, 0, none⟩ = some (.int .i64 sk) ∧ w'.cell? ⟨w.heap.size + 1, 1, none⟩ = some (.int .i64 si) ∧ w'.cell? ⟨w.heap.size + 1, 2, none⟩ = some (.int .i64 st) ∧ w'.cell? ⟨w.heap.size + 1, 3, none⟩ = some (.int .i64 sb) ∧ w'.cell? ⟨w.heap.size + 1, 4, none⟩ = some (.string sx)) ∧ (w'.cell? ⟨w.heap.size, 0, none⟩ = some (.pointer (some ⟨p, 0, none⟩)) ∧ w'.cell? ⟨w.heap.size, 1, none⟩ = some (.int .i64 l.k) ∧ w'.cell? ⟨w.heap.size, 2, none⟩ = some (.int .i64 l.e) ∧ w'.cell? ⟨w.heap.size, 3, none⟩ = some (.int .i64 l.a) ∧ w'.cell? ⟨w.heap.size, 4, none⟩ = some (.int .i64 l.b) ∧ w'.cell? ⟨w.heap.size, 5, none⟩ = some (.int .i64 l.c) ∧ w'.cell? ⟨w.heap.size, 6, none⟩ = some (.int .i64 l.eo) ∧ w'.cell? ⟨w.heap.size, 7, none⟩ = some (.int .i64 l.bo) ∧ w'.cell? ⟨w.heap.size, 8, none⟩ = some (.int .i64 l.s) ∧ w'.cell? ⟨w.heap.size, 9, none⟩ = some (.int .i64 l.g) ∧ w'.cell? ⟨w.heap.size, 10, none⟩ = some (.int .i64 (off : Int)) ∧ w'.cell? ⟨w.heap.size, 11, none⟩ = some (.int .i64 en))) (first | with_reducible assumption) (first | (go_at_call 16; (with_reducible refine (hWe _).mono ?_); rintro r wM ⟨rfl, rfl⟩) | (go_at_call 24; (with_reducible refine (hEr _ K5w).mono ?_); rintro r w6 ⟨rfl, T6⟩; have S6 := n28_keeps T6.2 hn1 hn2 hn3 SD))
  have T6' := hide (Turned.pre K5w T6)
  have A6 := T6.1
  have h6 := (T6.2.block _ (heap_lt h5d) hn4).trans h5d
  have S6' := S6
  obtain ⟨⟨c0, c1, c2, c3, c4, c5, c6, c7, c8, c9, c10⟩, -, -⟩ := S6'
  clear SD
  go_wp2_with fail
  refine (hCe _ A6).mono ?_
  rintro r w7 ⟨rfl, k7⟩
  have T7 := hide (T6'.out.post k7)
  obtain ⟨x0, x1, x2, x3, x4, -⟩ := five_cells (k7.blk h6)
  have hz7 : w4.heap.size < w7.heap.size := heap_lt (k7.blk h6)
  clear T6 A6 T6' hEr hCe c0 c1 c2 c3 c4 c5 c6 c7 c8 c9 c10 S6 h6 h5 h5d
  unfold GC.val
  go_wp2_with fail
  go_ret
  exact ⟨rfl, T7.out.post ((Keeps.refl _ _).alloc _)⟩

set_option maxHeartbeats 4000000 in
set_option maxRecDepth 100000 in
/-- A slot that is full. -/
theorem take_set_yes {w : World} {p : Nat} {F : Nat → Prop} {d : AD} (hA : Arena w p F d) (hF : d.Fine) (hSm : d.small) (hFl : ∀ k, F k → k < w.heap.size) (l : Lay) (off : Nat) (en : Int) (c : Nat → GC) (hG : GroupAt d l off c) (ho : fitsI (off : Int)) (hn : fitsI l.g)
    (sk si st sb : Int) (sx : ByteArray) (hx : sx.size ≤ 140737488355328) (hk : Mod6 sk 5 1) (i : Nat) (hi : Mod6 si 8 (i : Int)) (hi8 : i < 8) (h2 : (c i).kind = 2) :
    Calls Tryz.prog 8 #[.agg #[.pointer (some ⟨p, 0, none⟩), .int .i64 l.k, .int .i64 l.e, .int .i64 l.a, .int .i64 l.b, .int .i64 l.c, .int .i64 l.eo, .int .i64 l.bo, .int .i64 l.s, .int .i64 l.g, .int .i64 (off : Int), .int .i64 en], .agg #[.int .i64 sk, .int .i64 si, .int .i64 st, .int .i64 sb, .string sx]] w fun e w' => e = .returned (.bool true) ∧ Turned w w' p F (setElemG d l off i (wideD sx l.e.toNat)).2 := by
  have hvm := valid_more hG.valid
  have hse : ((wideD sx l.e.toNat).size : Int) = l.e := by rw [wideD_size]; omega
  obtain ⟨he1, he2, he3⟩ := hG.setElem hi8 hse h2
  have hWe := fun V => wide_any sx l.e.toNat V (by omega) (by omega)
  rw [show ((l.e.toNat : Nat) : Int) = l.e by omega] at hWe
  have hAt := fun V => at_any p l (off : Int) V
  have hEr : ∀ V, Keeps w V (fun _ => False) → Calls Tryz.prog 24 #[.agg #[.pointer (some ⟨p, 0, none⟩), .int .i64 l.k, .int .i64 l.e, .int .i64 l.a, .int .i64 l.b, .int .i64 l.c, .int .i64 l.eo, .int .i64 l.bo, .int .i64 l.s, .int .i64 l.g, .int .i64 (off : Int)], .int .i64 (i : Int), .string (wideD sx l.e.toNat)] V fun e w' => ErrPost V p F 0 (setElemG d l off i (wideD sx l.e.toNat)).2 e w' := fun V k => by
    have := gsetElem_any (hA.keeps k (fun _ _ _ e => e)) hF hSm (fun j hj => Nat.lt_of_lt_of_le (hFl j hj) k.size) l (off : Int) (i : Int) (wideD sx l.e.toNat) (by rw [wideD_size]; omega) ho hn
    rw [he1] at this
    exact this
  have hCe : ∀ V {G : Nat → Prop}, Arena V p G d → Calls Tryz.prog 13 #[.agg #[.pointer (some ⟨p, 0, none⟩), .int .i64 l.k, .int .i64 l.e, .int .i64 l.a, .int .i64 l.b, .int .i64 l.c, .int .i64 l.eo, .int .i64 l.bo, .int .i64 l.s, .int .i64 l.g, .int .i64 (off : Int)], .int .i64 (i : Int)] V fun e w' => CellPost V (c i) 0 e w' := fun V G hV => by
    have := cell_any hV hF l (off : Int) (i : Int) ho hn
    rw [hG.cell hi8] at this
    exact this
  have hCf : ∀ V {G : Nat → Prop}, Arena V p G (setElemG d l off i (wideD sx l.e.toNat)).2 → Calls Tryz.prog 13 #[.agg #[.pointer (some ⟨p, 0, none⟩), .int .i64 l.k, .int .i64 l.e, .int .i64 l.a, .int .i64 l.b, .int .i64 l.c, .int .i64 l.eo, .int .i64 l.bo, .int .i64 l.s, .int .i64 l.g, .int .i64 (off : Int)], .int .i64 (i : Int)] V fun e w' => CellPost V { c i with elem := wideD sx l.e.toNat } 0 e w' := fun V G hV => by
    have := cell_any hV (he3.fine hF) l (off : Int) (i : Int) ho hn
    rw [he2.cell hi8] at this
    have e : updC c i { c i with elem := wideD sx l.e.toNat } i = { c i with elem := wideD sx l.e.toNat } := by simp [updC]
    rw [e] at this
    exact this
  have A0 := hide hA
  clear hG hA hvm hse he1 he2 he3
  generalize (setElemG d l off i (wideD sx l.e.toNat)).2 = d1 at *
  generalize c i = x at *
  obtain ⟨xk, xt, xK, xE, xB⟩ := x
  simp only at h2
  subst h2
  generalize wideD sx l.e.toNat = ES at *
  go_enter Tryz.func8, Tryz.ntmps8
  go_wp2_with fail
  refine alloc2 (P := fun W => Calls _ _ _ W _) fun W0 hb hr hz K0 => ?_
  refine (hAt _).mono ?_
  rintro r w1 ⟨rfl, k1⟩
  have K1 : Keeps w w1 (fun _ => False) := K0.trans k1 (fun _ _ e => e)
  obtain ⟨s0, s1, s2, s3, s4, -⟩ := five_cells (k1.blk hr)
  have hlt1 : w.heap.size + 1 < w1.heap.size := heap_lt (k1.blk hr)
  go_wp2_with fail
  refine (mod6_is hi _).mono ?_
  rintro r w2 ⟨rfl, hw2⟩
  have C2 : C11 w1.heap.size p l (off : Int) w2 := by rw [hw2]; exact c11_of (heap_alloc_new _ _)
  have K2 : Keeps w1 w2 (fun _ => False) := by rw [hw2]; exact (Keeps.refl _ _).alloc _
  have hz2 : w1.heap.size < w2.heap.size := by rw [hw2]; simp
  obtain ⟨t0, t1, t2, t3, t4, -⟩ := five_cells (K2.blk (k1.blk hr))
  have D2 := n12_of (K2.blk (k1.blk hb))
  clear s0 s1 s2 s3 s4 hw2
  go_wp2_with fail
  refine (mod6_is hk _).mono ?_
  rintro r w3 ⟨rfl, rfl⟩
  have K3 : Keeps w w3 (fun _ => False) := K1.trans K2 (fun _ _ e => e)
  have C2' := C2
  obtain ⟨c0, c1, c2, c3, c4, c5, c6, c7, c8, c9, c10⟩ := C2'
  go_wp2_with fail
  refine (hCe _ (A0.out.keeps K3 (fun _ _ _ e => e))).mono ?_
  rintro r w4 ⟨rfl, k4⟩
  have hn1 : ¬ F w1.heap.size := fun q => by
    have := hFl _ q
    have := K1.size
    omega
  have hn2 : ¬ F (w.heap.size + 1) := fun q => by
    have := hFl _ q
    omega
  have hn3 : ¬ F w.heap.size := fun q => Nat.lt_irrefl _ (hFl _ q)
  have S4 : C11 w1.heap.size p l (off : Int) w4 ∧ N5 (w.heap.size + 1) _ _ _ _ _ w4 ∧ N12 w.heap.size _ _ _ _ _ _ _ _ _ _ _ _ w4 := ⟨c11_keeps k4 id C2, n5_of (k4.blk (K2.blk (k1.blk hr))), n12_keeps k4 id D2⟩
  have K4 : Keeps w w4 (fun _ => False) := K3.trans k4 (fun _ _ e => e)
  have hn4 : ¬ F w4.heap.size := fun q => by
    have := hFl _ q
    have := K4.size
    omega
  clear c0 c1 c2 c3 c4 c5 c6 c7 c8 c9 c10 t0 t1 t2 t3 t4 C2 D2
  unfold GC.val
  go_wp2_with fail
  refine alloc1 (P := fun W => Code.wp _ _ _ _ W) fun W5 h5 hz5 K5 => ?_
  have K5w : Keeps w W5.drew (fun _ => False) := (K4.trans K5 (fun _ _ e => e)).drew
  have SD := n28_keeps ((Keeps.refl W5 (fun _ => False)).drew) id id id (n28_keeps K5 id id id S4)
  have h5d : W5.drew.heap[w4.heap.size]? = _ := h5
  clear S4
  go_region_held3 (fun w' => (w'.cell? ⟨w1.heap.size, 0, none⟩ = some (.pointer (some ⟨p, 0, none⟩)) ∧ w'.cell? ⟨w1.heap.size, 1, none⟩ = some (.int .i64 l.k) ∧ w'.cell? ⟨w1.heap.size, 2, none⟩ = some (.int .i64 l.e) ∧ w'.cell? ⟨w1.heap.size, 3, none⟩ = some (.int .i64 l.a) ∧ w'.cell? ⟨w1.heap.size, 4, none⟩ = some (.int .i64 l.b) ∧ w'.cell? ⟨w1.heap.size, 5, none⟩ = some (.int .i64 l.c) ∧ w'.cell? ⟨w1.heap.size, 6, none⟩ = some (.int .i64 l.eo) ∧ w'.cell? ⟨w1.heap.size, 7, none⟩ = some (.int .i64 l.bo) ∧ w'.cell? ⟨w1.heap.size, 8, none⟩ = some (.int .i64 l.s) ∧ w'.cell? ⟨w1.heap.size, 9, none⟩ = some (.int .i64 l.g) ∧ w'.cell? ⟨w1.heap.size, 10, none⟩ = some (.int .i64 (off : Int))) ∧ (w'.cell? ⟨w.heap.size + 1, 0, none⟩ = some (.int .i64 sk) ∧ w'.cell? ⟨w.heap.size + 1, 1, none⟩ = some (.int .i64 si) ∧ w'.cell? ⟨w.heap.size + 1, 2, none⟩ = some (.int .i64 st) ∧ w'.cell? ⟨w.heap.size + 1, 3, none⟩ = some (.int .i64 sb) ∧ w'.cell? ⟨w.heap.size + 1, 4, none⟩ = some (.string sx)) ∧ (w'.cell? ⟨w.heap.size, 0, none⟩ = some (.pointer (some ⟨p, 0, none⟩)) ∧ w'.cell? ⟨w.heap.size, 1, none⟩ = some (.int .i64 l.k) ∧ w'.cell? ⟨w.heap.size, 2, none⟩ = some (.int .i64 l.e) ∧ w'.cell? ⟨w.heap.size, 3, none⟩ = some (.int .i64 l.a) ∧ w'.cell? ⟨w.heap.size, 4, none⟩ = some (.int .i64 l.b) ∧ w'.cell? ⟨w.heap.size, 5, none⟩ = some (.int .i64 l.c) ∧ w'.cell? ⟨w.heap.size, 6, none⟩ = some (.int .i64 l.eo) ∧ w'.cell? ⟨w.heap.size, 7, none⟩ = some (.int .i64 l.bo) ∧ w'.cell? ⟨w.heap.size, 8, none⟩ = some (.int .i64 l.s) ∧ w'.cell? ⟨w.heap.size, 9, none⟩ = some (.int .i64 l.g) ∧ w'.cell? ⟨w.heap.size, 10, none⟩ = some (.int .i64 (off : Int)) ∧ w'.cell? ⟨w.heap.size, 11, none⟩ = some (.int .i64 en))) (first | with_reducible assumption) (first | (go_at_call 16; (with_reducible refine (hWe _).mono ?_); rintro r wM ⟨rfl, rfl⟩) | (go_at_call 24; (with_reducible refine (hEr _ K5w).mono ?_); rintro r w6 ⟨rfl, T6⟩; have S6 := n28_keeps T6.2 hn1 hn2 hn3 SD))
  have T6' := hide (Turned.pre K5w T6)
  have A6 := T6.1
  have h6 := (T6.2.block _ (heap_lt h5d) hn4).trans h5d
  have S6' := S6
  obtain ⟨⟨c0, c1, c2, c3, c4, c5, c6, c7, c8, c9, c10⟩, -, -⟩ := S6'
  clear SD
  go_wp2_with fail
  refine (hCf _ A6).mono ?_
  rintro r w7 ⟨rfl, k7⟩
  have HT6 := hide T6
  have HK7 := hide k7
  have hv4 : w4.heap.size < W5.drew.heap.size := heap_lt h5d
  have h7 := k7.blk h6
  obtain ⟨x0, x1, x2, x3, x4, g0, g1, g2, g3, g4⟩ := five_cells h7
  have S7 := n28_keeps k7 id id id S6
  have hz7 : w4.heap.size < w7.heap.size := heap_lt h7
  have hz8 : w.heap.size + 1 < w7.heap.size := by
    have := K4.size
    have := k4.size
    omega
  have hz9 : w.heap.size < w7.heap.size := by omega
  have S7' := S7
  obtain ⟨-, ⟨t0, t1, t2, t3, t4⟩, ⟨d0, d1', d2, d3, d4, d5, d6, d7, d8, d9, d10, d11⟩⟩ := S7'
  clear T6 A6 T6' hEr hCe hCf c0 c1 c2 c3 c4 c5 c6 c7 c8 c9 c10 S6 h6 h5 h5d
  unfold GC.val
  go_wp2_with fail
  refine (hWe _).mono ?_
  rintro r w8 ⟨rfl, rfl⟩
  go_wp2_with fail
  go_ret
  refine ⟨rfl, Turned.own K5w HT6.out K4.size hv4 hn4 ?_⟩
  exact ((HK7.out.mono (S1 := fun i => i = w4.heap.size) (fun _ _ e => e.elim)).setCell ⟨w4.heap.size, 3, none⟩ (fun _ => rfl) _).alloc _
end Go.Proofs.YtdnkjbbpfhegdaaGreat
/-
  The law's prune: its walk.
-/
namespace Go.Proofs.YtdnkjbbpfhegdaaGreat
open Go.RowKit Go.Shelf Ly Ct
set_option linter.unusedVariables false

set_option maxHeartbeats 2000000 in
set_option maxRecDepth 100000 in
theorem lprune_any {w : World} {p : Nat} {F : Nat → Prop} {d : AD} (hA : Arena w p F d) (hF : d.Fine) (hFl : ∀ k, F k → k < w.heap.size) (l : Lay) (off : Nat) (en : Int) (c : Nat → GC) (hG : GroupAt d l off c) (ho : fitsI (off : Int)) (hn : fitsI l.g) :
    Calls Tryz.prog 26 #[.agg #[.pointer (some ⟨p, 0, none⟩), .int .i64 l.k, .int .i64 l.e, .int .i64 l.a, .int .i64 l.b, .int .i64 l.c, .int .i64 l.eo, .int .i64 l.bo, .int .i64 l.s, .int .i64 l.g, .int .i64 (off : Int), .int .i64 en]] w fun e w' => e = .returned (.bool true) ∧ Turned w w' p F (pruneG d l off).2 := by
  obtain ⟨p1, p2, p3, p4⟩ := hG.prune
  have hAl := fun V (k : Keeps w V (fun _ => False)) => all_any (hA.keeps k (fun _ _ _ e => e)) hF l off en c hG ho hn
  have hAm := fun V {G : Nat → Prop} (hV : Arena V p G (pruneG d l off).2) => all_any hV (p4.fine hF) l off en (fun j => pruC (c j)) p3 ho hn
  have hAt := fun V => at_any p l (off : Int) V
  have hPr : ∀ V, Keeps w V (fun _ => False) → Calls Tryz.prog 55 #[.agg #[.pointer (some ⟨p, 0, none⟩), .int .i64 l.k, .int .i64 l.e, .int .i64 l.a, .int .i64 l.b, .int .i64 l.c, .int .i64 l.eo, .int .i64 l.bo, .int .i64 l.s, .int .i64 l.g, .int .i64 (off : Int)]] V fun e w' => PrunePost V p F (((List.range 8).countP (fun i => decide ((c i).kind = 1)) : Nat) : Int) 0 (pruneG d l off).2 e w' := fun V k => by
    have := gprune_any (hA.keeps k (fun _ _ _ e => e)) hF (fun j hj => Nat.lt_of_lt_of_le (hFl j hj) k.size) l (off : Int) ho hn
    rw [p1, p2] at this
    exact this
  generalize (pruneG d l off).2 = d1 at *
  generalize hCN : (List.range 8).countP (fun i => decide ((c i).kind = 1)) = CN at *
  have HCN := hide hCN
  have HOK := hide (fun i (hi : i < 8) => hG.ok i hi)
  clear p1 p2 p3 p4 hG hCN
  go_enter Tryz.func26, Tryz.ntmps26
  go_wp2_with fail
  rename_i KA hKA KB hKB
  have HKB := hide hKB
  clear hKB
  refine alloc1 (P := fun W => Calls _ _ _ W _) fun W0 hb hz K0 => ?_
  refine (hAl _ K0).mono ?_
  rintro r w1 ⟨rfl, k1⟩
  have K1 : Keeps w w1 (fun _ => False) := K0.trans k1 (fun _ _ e => e)
  have D1 := n12_of (k1.blk hb)
  have hz1 : w.heap.size < w1.heap.size := heap_lt (k1.blk hb)
  show KB _ _
  refine HKB.out _ _ ?_
  refine wpList_arr 3 10 c rfl rfl rfl rfl rfl rfl rfl fun W2 R2 K2 hz2 => ?_
  have D2 := n12_keeps K2 id D1
  have K2w : Keeps w W2 (fun _ => False) := K1.trans K2 (fun _ _ e => e)
  obtain ⟨d0, d1', d2, d3, d4, d5, d6, d7, d8, d9, d10, d11⟩ := D2
  clear HKB D1 hAl
  go_wp2_with fail
  refine (hAt _).mono ?_
  rintro r w3 ⟨rfl, k3⟩
  have K3 : Keeps w w3 (fun _ => False) := K2w.trans k3 (fun _ _ e => e)
  go_wp2_with fail
  refine (hPr _ K3).mono ?_
  rintro r w4 ⟨rfl, T4⟩
  have hw3 : w.heap.size ≤ w1.heap.size := Nat.le_of_lt hz1
  have hnD : ¬ F w.heap.size := fun q => Nat.lt_irrefl _ (hFl _ q)
  have hnR : ¬ F w1.heap.size := fun q => by
    have := hFl _ q
    omega
  have R4 := (R2.keeps k3 id).keeps T4.2 hnR
  have D4 := n12_keeps T4.2 hnD (n12_keeps k3 id ⟨d0, d1', d2, d3, d4, d5, d6, d7, d8, d9, d10, d11⟩)
  have hz3 : w1.heap.size < w3.heap.size := by
    have := k3.size
    omega
  have HT4 := hide T4
  have A4 := T4.1
  clear d0 d1' d2 d3 d4 d5 d6 d7 d8 d9 d10 d11 T4
  have D4' := D4
  obtain ⟨d0, d1', d2, d3, d4, d5, d6, d7, d8, d9, d10, d11⟩ := D4'
  clear R2
  go_wp2_with fail
  rename_i KC hKC KD hKD
  have HKD := hide hKD
  clear hKD
  refine (hAm _ A4).mono ?_
  rintro r w5 ⟨rfl, k5⟩
  have R5 := R4.keeps k5 id
  show KD _ _
  refine HKD.out _ _ ?_
  refine wpList_arr 6 23 (fun j => pruC (c j)) rfl rfl rfl rfl rfl rfl rfl fun W6 R6 K6 hz6 => ?_
  have Q6 := R5.keeps K6 id
  have T6 := hide (HT4.out.post (k5.trans K6 (fun _ _ e => e)))
  have hlt5 : w1.heap.size < w5.heap.size := by
    have := HT4.out.2.size
    have := k5.size
    omega
  clear HKD D4 d0 d1' d2 d3 d4 d5 d6 d7 d8 d9 d10 d11 hAm hPr hAt A4 R4 R5
  go_wp2_with fail
  rename_i KX hKX
  have HKX := hide hKX
  clear hKX
  go_loopw [7, 8] (fun m i wr => ∃ k : Nat, i = .int .i64 (k : Int) ∧ m = .int .i64 ((cntK c k : Nat) : Int) ∧ k ≤ 8 ∧ RowG wr w1.heap.size 36 (prC c k) ∧ Keeps W6 wr (fun i => i = w1.heap.size)) (fun _ i _ => 8 - (intOf i).toNat)
  case atStart => exact ⟨0, rfl, rfl, Nat.zero_le _, Q6.congr (fun i _ => rfl), Keeps.refl _ _⟩
  case round =>
    obtain ⟨k, rfl, rfl, hk, hR, K⟩ := hrel
    by_cases hlt : k < 8
    · have hlt' : (k : Int) < 8 := by omega
      obtain ⟨r0, q0⟩ := hR.cell (j := k * 5) (by omega)
      have hat : atG (prC c k) (k * 5) = .int .i64 (c k).kind := by
        have := atG_at (prC c k) k 0 (by omega)
        rw [show 5 * k + 0 = k * 5 by omega] at this
        rw [this, if_pos rfl]
        unfold prC
        rw [if_neg (Nat.lt_irrefl _)]
      rw [hat] at r0
      have hc1 := cntK_succ c k
      have hc2 := cntK_le c k
      by_cases h1 : (c k).kind = 1
      · have hR2 := hide ((hR.kind hlt 0).congr (h := prC c (k + 1)) (fun j hj => by
          unfold updC prC
          by_cases hjk : j = k
          · subst hjk
            rw [if_pos rfl, if_pos (Nat.lt_succ_self _), if_neg (Nat.lt_irrefl _)]
            rcases HOK.out j hj with e | e | e
            · rw [e] at h1
              exact absurd h1 (by decide)
            · rw [e]
              rfl
            · omega
          · rw [if_neg hjk]
            by_cases h2 : j < k
            · rw [if_pos h2, if_pos (by omega)]
            · rw [if_neg h2, if_neg (by omega)]))
        have K2' := hide (K.setCell ⟨w1.heap.size, k * 5, none⟩ (fun _ => rfl) (.int .i64 0))
        rw [if_pos h1] at hc1
        have HC1 := hide hc1
        rw [h1] at r0
        clear hR K hc1 hat
        generalize cntK c k = CK at *
        go_wp2_with fail
        go_roundw
        case rel => exact ⟨k + 1, by go_num, by rw [HC1.out]; simp, by omega, hR2.out, K2'.out⟩
        case measure => simp [intOf]; omega
      · have hR2 := hide (hR.congr (h := prC c (k + 1)) (fun j hj => by
          unfold prC
          by_cases hjk : j = k
          · subst hjk
            rw [if_neg (Nat.lt_irrefl _), if_pos (Nat.lt_succ_self _)]
            exact (if_neg h1).symm
          · by_cases h2 : j < k
            · rw [if_pos h2, if_pos (by omega)]
            · rw [if_neg h2, if_neg (by omega)]))
        have K2' := hide K
        rw [if_neg h1] at hc1
        have HC1 := hide hc1
        have h1' : ((c k).kind == 1) = false := by simpa using h1
        clear hR K hc1 hat
        generalize cntK c k = CK at *
        go_wp2_with fail
        go_roundw
        case rel => exact ⟨k + 1, by go_num, by rw [HC1.out]; simp, by omega, hR2.out, K2'.out⟩
        case measure => simp [intOf]; omega
    · have hk8 : k = 8 := by omega
      subst hk8
      have hcn : cntK c 8 = CN := HCN.out
      rw [hcn]
      have hcs : cs8 (prC c 8) = cs8 (fun j => pruC (c j)) := cs8_congr fun j hj => if_pos hj
      have hsz : (Tryz.prog.info? 36).map (·.size) = some (cs8 (fun j => pruC (c j))).length := by rw [cs8_length]; exact sizeG
      have hr1 := hR.range
      rw [hcs] at hr1
      have hr2 := (R6.keeps K (by omega)).range
      have hq := eqG (fun j => pruC (c j)) wr
      have T9 := hide (Turned.own (W9 := wr) K3 HT4.out hw3 hz3 hnR (((k5.trans K6 (fun _ _ e => e)).mono (fun _ _ e => e.elim)).trans K (fun _ _ e => e)))
      have hld1 := hide (And.intro hr1 (And.intro hr2 hsz))
      clear hr1 hr2 hsz hcs hR Q6 R6 K HCN HOK hcn
      go_wp2_with fail
      refine HKX.out _ _ ?_
      refine wp_seq ?_
      refine wp_region_list ?_
      refine wpList_step fun K1 hK1 => ?_
      rw [if_pos (by rfl)]
      go_simp
      refine hK1 _ _ ?_
      refine wpList_step fun K1 hK1 => ?_
      rw [if_pos (by rfl)]
      go_simp
      refine hK1 _ _ ?_
      refine wpList_step fun K1 hK1 => ?_
      rw [if_pos (by rfl)]
      go_simp
      refine hK1 _ _ ?_
      refine wpList_step fun K1 hK1 => ?_
      rw [if_pos (by rfl)]
      go_simp
      refine hK1 _ _ ?_
      refine wpList_step fun K1 hK1 => ?_
      rw [if_pos (by rfl)]
      go_simp
      refine hK1 _ _ ?_
      refine wpList_step fun K1 hK1 => ?_
      rw [if_pos (by rfl)]
      go_simp
      refine hK1 _ _ ?_
      refine wpList_step fun K1 hK1 => ?_
      rw [if_pos (by rfl)]
      go_simp
      refine hK1 _ _ ?_
      refine wpList_step fun K1 hK1 => ?_
      rw [if_pos (by rfl)]
      go_simp
      refine hK1 _ _ ?_
      obtain ⟨hr1, hr2, hsz⟩ := hld1.out
      refine wpList_step fun K1 hK1 => ?_
      rw [if_pos (by rfl)]
      refine wp_load_mid 36 (.tmp 3) rfl w1.heap.size 0 rfl (cs8 (fun j => pruC (c j))) _ hr1 Tryz.underlying36 rfl hsz ?_
      refine hK1 _ _ ?_
      refine wpList_step fun K1 hK1 => ?_
      rw [if_pos (by rfl)]
      refine wp_load_mid 36 (.tmp 6) rfl w5.heap.size 0 rfl (cs8 (fun j => pruC (c j))) _ hr2 Tryz.underlying36 rfl hsz ?_
      refine hK1 _ _ ?_
      generalize (cs8 (fun j => pruC (c j))).toArray = XA at *
      refine wpList_step fun K1 hK1 => ?_
      rw [if_pos (by rfl)]
      go_simp
      refine hK1 _ _ ?_
      clear hr1 hr2 hsz hld1 HKX
      go_wp2_with fail
      go_ret
      exact ⟨rfl, T9.out⟩
end Go.Proofs.YtdnkjbbpfhegdaaGreat
/-
  The law's take: all marks are pruned.
-/
namespace Go.Proofs.YtdnkjbbpfhegdaaGreat
open Go.RowKit Go.Shelf Ly Ct
set_option linter.unusedVariables false

set_option maxHeartbeats 2000000 in
set_option maxRecDepth 100000 in
theorem take_prune {w : World} {p : Nat} {F : Nat → Prop} {d : AD} (hA : Arena w p F d) (hF : d.Fine) (hFl : ∀ k, F k → k < w.heap.size) (l : Lay) (off : Nat) (en : Int) (c : Nat → GC) (hG : GroupAt d l off c) (ho : fitsI (off : Int)) (hn : fitsI l.g)
    (sk si st sb : Int) (sx : ByteArray) (hk : Mod6 sk 5 4) (i : Nat) (hi : Mod6 si 8 (i : Int)) :
    Calls Tryz.prog 8 #[.agg #[.pointer (some ⟨p, 0, none⟩), .int .i64 l.k, .int .i64 l.e, .int .i64 l.a, .int .i64 l.b, .int .i64 l.c, .int .i64 l.eo, .int .i64 l.bo, .int .i64 l.s, .int .i64 l.g, .int .i64 (off : Int), .int .i64 en], .agg #[.int .i64 sk, .int .i64 si, .int .i64 st, .int .i64 sb, .string sx]] w fun e w' => e = .returned (.bool true) ∧ Turned w w' p F (pruneG d l off).2 := by
  have hAt := fun V => at_any p l (off : Int) V
  have hPr := fun V (k : Keeps w V (fun _ => False)) => lprune_any (hA.keeps k (fun _ _ _ e => e)) hF (fun j hj => Nat.lt_of_lt_of_le (hFl j hj) k.size) l off en c hG ho hn
  generalize (pruneG d l off).2 = d1 at *
  clear hG hA
  go_enter Tryz.func8, Tryz.ntmps8
  go_wp2_with fail
  refine alloc2 (P := fun W => Calls _ _ _ W _) fun W0 hb hr hz K0 => ?_
  refine (hAt _).mono ?_
  rintro r w1 ⟨rfl, k1⟩
  have K1 : Keeps w w1 (fun _ => False) := K0.trans k1 (fun _ _ e => e)
  obtain ⟨s0, s1, s2, s3, s4, -⟩ := five_cells (k1.blk hr)
  have hlt1 : w.heap.size + 1 < w1.heap.size := heap_lt (k1.blk hr)
  go_wp2_with fail
  refine (mod6_is hi _).mono ?_
  rintro r w2 ⟨rfl, hw2⟩
  have K2 : Keeps w1 w2 (fun _ => False) := by rw [hw2]; exact (Keeps.refl _ _).alloc _
  obtain ⟨t0, t1, t2, t3, t4, -⟩ := five_cells (K2.blk (k1.blk hr))
  obtain ⟨d0, d1', d2, d3, d4, d5, d6, d7, d8, d9, d10, d11⟩ := n12_of (K2.blk (k1.blk hb))
  clear s0 s1 s2 s3 s4 hw2
  go_wp2_with fail
  refine (mod6_is hk _).mono ?_
  rintro r w3 ⟨rfl, rfl⟩
  have K3 : Keeps w w3 (fun _ => False) := K1.trans K2 (fun _ _ e => e)
  go_wp2_with fail
  refine (hPr _ K3).mono ?_
  rintro r w4 ⟨rfl, T4⟩
  have T5 := hide (Turned.pre K3 T4)
  clear T4
  go_wp2_with fail
  go_ret
  exact ⟨rfl, T5.out⟩
end Go.Proofs.YtdnkjbbpfhegdaaGreat
/-
  The law's take, whatever the step.
-/
namespace Go.Proofs.YtdnkjbbpfhegdaaGreat
open Go.RowKit Go.Shelf Ly Ct
set_option linter.unusedVariables false

def Take6Post (w : World) (p : Nat) (F : Nat → Prop) (l : Lay) (off : Nat) (e : Ending) (w' : World) : Prop := e = .returned (.bool true) ∧ ∃ d' c', Turned w w' p F d' ∧ DeskD d' l off c'
theorem take_any {w : World} {p : Nat} {F : Nat → Prop} {d : AD} (hA : Arena w p F d) (hFl : ∀ k, F k → k < w.heap.size) (l : Lay) (off : Nat) (en : Int) (c : Nat → GC) (hD : DeskD d l off c) (ho : fitsI (off : Int)) (hn : fitsI l.g)
    (sk si st sb : Int) (sx : ByteArray) (hk : (Lit.int .i64 sk).wf = true) (hi : (Lit.int .i64 si).wf = true) (ht : (Lit.int .i64 st).wf = true) (hb : -9223372036854775808 ≤ sb ∧ sb ≤ 9223372036854775807) (hx : sx.size ≤ 140737488355328) :
    Calls Tryz.prog 8 #[.agg #[.pointer (some ⟨p, 0, none⟩), .int .i64 l.k, .int .i64 l.e, .int .i64 l.a, .int .i64 l.b, .int .i64 l.c, .int .i64 l.eo, .int .i64 l.bo, .int .i64 l.s, .int .i64 l.g, .int .i64 (off : Int), .int .i64 en], .agg #[.int .i64 sk, .int .i64 si, .int .i64 st, .int .i64 sb, .string sx]] w fun e w' => Take6Post w p F l off e w' := by
  have hG := hD.grp
  have hvm := valid_more hG.valid
  obtain ⟨i, hie⟩ := Int.eq_ofNat_of_zero_le (show 0 ≤ si % 8 by omega)
  have hi8 : i < 8 := by omega
  have hi' : Mod6 si 8 (i : Int) := ⟨hi, by omega, by omega, hie⟩
  have h5 : sk % 5 = 0 ∨ sk % 5 = 1 ∨ sk % 5 = 2 ∨ sk % 5 = 3 ∨ sk % 5 = 4 := by omega
  rcases h5 with h | h | h | h | h
  · have hbd := birthD_in hb
    have hf := hG.fill hi8 (t := st % 128) (by omega) (by omega) (k := wideD sx l.k.toNat) (e := wideD (sx ++ ⟨#[45]⟩) l.e.toNat) (by rw [wideD_size]; omega) (by rw [wideD_size]; omega) hbd.1 hbd.2
    refine (take_fill hA hD.fine hD.small hFl l off en c hG ho hn sk si st sb sx hx hb ⟨hk, by omega, by omega, h⟩ i hi' hi8 (st % 128) ⟨ht, by omega, by omega, rfl⟩ (by omega) (by omega)).mono ?_
    rintro e w' ⟨rfl, T⟩
    exact ⟨rfl, _, _, T, hD.turn hf.2.1 hf.2.2⟩
  · by_cases h2 : (c i).kind = 2
    · have hf := hG.setElem hi8 (e := wideD sx l.e.toNat) (by rw [wideD_size]; omega) h2
      refine (take_set_yes hA hD.fine hD.small hFl l off en c hG ho hn sk si st sb sx hx ⟨hk, by omega, by omega, h⟩ i hi' hi8 h2).mono ?_
      rintro e w' ⟨rfl, T⟩
      exact ⟨rfl, _, _, T, hD.turn hf.2.1 hf.2.2⟩
    · refine (take_set_no hA hD.fine hD.small hFl l off en c hG ho hn sk si st sb sx hx ⟨hk, by omega, by omega, h⟩ i hi' hi8 h2).mono ?_
      rintro e w' ⟨rfl, T⟩
      exact ⟨rfl, _, _, T, hD⟩
  · have hf := hG.erase hi8 false
    refine (take_erase hA hD.fine hFl l off en c hG ho hn sk si st sb sx ⟨hk, by omega, by omega, h⟩ i hi' hi8).mono ?_
    rintro e w' ⟨rfl, T⟩
    exact ⟨rfl, _, _, T, hD.turn hf.2.1 hf.2.2⟩
  · have hf := hG.erase hi8 true
    refine (take_mark hA hD.fine hFl l off en c hG ho hn sk si st sb sx ⟨hk, by omega, by omega, h⟩ i hi' hi8).mono ?_
    rintro e w' ⟨rfl, T⟩
    exact ⟨rfl, _, _, T, hD.turn hf.2.1 hf.2.2⟩
  · have hf := hG.prune
    refine (take_prune hA hD.fine hFl l off en c hG ho hn sk si st sb sx ⟨hk, by omega, by omega, h⟩ i hi').mono ?_
    rintro e w' ⟨rfl, T⟩
    exact ⟨rfl, _, _, T, hD.turn hf.2.2.1 hf.2.2.2⟩
end Go.Proofs.YtdnkjbbpfhegdaaGreat
/-
  The law's zeros and number.
-/
namespace Go.Proofs.YtdnkjbbpfhegdaaGreat
open Go.RowKit Go.Shelf Ly Ct
set_option linter.unusedVariables false

set_option maxHeartbeats 1000000 in
theorem lzeros_any (n : Nat) (w : World) (hn : n ≤ 100000) : Calls Tryz.prog 43 #[.int .i64 (n : Int)] w fun e w' => e = .returned (.string (strOf (zeros n))) ∧ Keeps w w' (fun _ => False) := by
  by_cases h0 : n = 0
  · subst h0
    go_enter Tryz.func43, Tryz.ntmps43
    go_wp2_with fail
    go_ret
    exact ⟨rfl, Keeps.refl _ _⟩
  · have h1 : ¬ (n : Int) < 1 := by omega
    have hmk := run_make_bytes (P := Tryz.prog) w 73 5 Tryz.underlying73 Tryz.infoE n (by omega)
    have htx := run_text (w.alloc (.cells (rowOf (zeros n)) 5)) ⟨w.heap.size, 0, none⟩ n n (zeros n) (zeros_length n) (fun j hj => by
      rw [addr_add, Nat.zero_add]
      have hr := heap_alloc_new w (.cells (rowOf (zeros n)) 5)
      have := rowOf_get (zeros n) j hj
      simp only [World.cell?, hr]
      simpa using this)
    obtain ⟨S, hS⟩ : ∃ S, strOf (zeros n) = S := ⟨_, rfl⟩
    rw [hS] at htx ⊢
    clear hS
    go_enter Tryz.func43, Tryz.ntmps43
    go_wp2_with fail
    go_ret
    exact ⟨rfl, (Keeps.refl _ _).alloc _⟩

set_option maxHeartbeats 2000000 in
set_option maxRecDepth 100000 in
theorem number_any (n : Nat) (w : World) (hn : n ≤ 9223372036854775807) : Calls Tryz.prog 44 #[.int .i64 (n : Int)] w fun e w' => e = .returned (.string (strOf (leBytes n 8))) ∧ Keeps w w' (fun _ => False) := by
  have hmk := run_make_bytes (P := Tryz.prog) w 73 5 Tryz.underlying73 Tryz.infoE 8 (by omega)
  rw [show ((8 : Nat) : Int) = 8 from rfl] at hmk
  obtain ⟨S, hS⟩ : ∃ S, strOf (leBytes n 8) = S := ⟨_, rfl⟩
  rw [hS]
  obtain ⟨R0, hR0⟩ : ∃ R, rowOf (zeros 8) = R := ⟨_, rfl⟩
  rw [hR0] at hmk
  have HR := hide hR0
  clear hR0
  go_enter Tryz.func44, Tryz.ntmps44
  go_wp2_with fail
  go_loopw [0, 4] (fun m i wr => ∃ k : Nat, i = .int .i64 (k : Int) ∧ m = .int .i64 ((n / 256 ^ k : Nat) : Int) ∧ k ≤ 8 ∧ wr.heap[w.heap.size]? = some (.cells (rowOf (leBytes n k ++ zeros (8 - k))) 5) ∧ Keeps w wr (fun _ => False)) (fun _ i _ => 8 - (intOf i).toNat)
  case atStart => exact ⟨0, rfl, by simp, Nat.zero_le _, by rw [heap_alloc_new, ← HR.out]; rfl, (Keeps.refl _ _).alloc _⟩
  case round =>
    obtain ⟨k, rfl, rfl, hk, hr, K⟩ := hrel
    clear hmk
    by_cases hlt : k < 8
    · have hlt' : (k : Int) < 8 := by omega
      have hc : wr.cell? ⟨w.heap.size, k, none⟩ = some (.int .u8 ((((leBytes n k ++ zeros (8 - k))[k]'(by simp [leBytes_length, zeros_length]; omega)).toNat : Int))) := by
        simp only [World.cell?, hr]
        exact rowOf_get _ k (by simp [leBytes_length, zeros_length]; omega)
      have hf : wr.frozen? ⟨w.heap.size, k, none⟩ = false := by simp [World.frozen?, hr]
      have hr2 : (wr.setCell ⟨w.heap.size, k, none⟩ (.int .u8 ((lowB n k).toNat : Int))).heap[w.heap.size]? = some (.cells (rowOf (leBytes n (k + 1) ++ zeros (8 - (k + 1)))) 5) := by
        rw [setCell_eq_setRow wr w.heap.size k _ 5 (0, 0) _ hr, heap_setRow_same hr, le_mix n k hlt]
      have K2 : Keeps w (wr.setCell ⟨w.heap.size, k, none⟩ (.int .u8 ((lowB n k).toNat : Int))) (fun _ => False) := K.setCell ⟨w.heap.size, k, none⟩ (fun h => absurd h (Nat.lt_irrefl _)) _
      generalize ((leBytes n k ++ zeros (8 - k))[k]'(by simp [leBytes_length, zeros_length]; omega)).toNat = old at *
      have hA2 : n / 256 ^ (k + 1) = n / 256 ^ k / 256 := by rw [Nat.pow_succ, Nat.div_div_eq_div_mul]
      have hlow : (lowB n k).toNat = n / 256 ^ k % 256 := lowB_toNat n k
      have hAn : n / 256 ^ k ≤ n := Nat.div_le_self _ _
      rw [hlow] at hr2 K2
      have HA2 := hide hA2
      clear hA2 hlow hr K
      generalize n / 256 ^ k = A at *
      have e4 : ((A % 256 : Nat) : Int) = (A : Int) % 256 := by omega
      rw [e4] at hr2 K2
      clear e4
      go_wp2_with fail
      go_roundw
      case rel => exact ⟨k + 1, by go_num, by rw [HA2.out]; simp, by omega, hr2, K2⟩
      case measure => simp [intOf]; omega
    · have hkn : k = 8 := by omega
      subst hkn
      have htx := run_text wr ⟨w.heap.size, 0, none⟩ 8 8 (leBytes n 8) (leBytes_length n 8) (fun j hj => by
        rw [addr_add, Nat.zero_add]
        have := rowOf_get (leBytes n 8 ++ zeros (8 - 8)) j (by simp; omega)
        simp only [World.cell?, hr]
        simpa [List.getElem_append_left hj] using this)
      rw [hS] at htx
      have K2 := hide K
      clear hr K hS HR
      go_wp2_with fail
      go_ret
      exact ⟨rfl, K2.out⟩
end Go.Proofs.YtdnkjbbpfhegdaaGreat
