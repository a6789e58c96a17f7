import Derived.Test.YtdnkjbbpfhegdaaGreatMg11
/-
  The law's desk: its walk.
-/
namespace Go.Proofs.YtdnkjbbpfhegdaaGreat
open Go.RowKit Go.Shelf Ly Ct
set_option linter.unusedVariables false

/-- What desk answers. -/
def DeskPost (w : World) (l : Lay) (e : Ending) (w' : World) : Prop := ∃ p d, e = .returned (.tuple #[.agg #[.pointer (some ⟨p, 0, none⟩), .int .i64 l.k, .int .i64 l.e, .int .i64 l.a, .int .i64 l.b, .int .i64 l.c, .int .i64 l.eo, .int .i64 l.bo, .int .i64 l.s, .int .i64 l.g, .int .i64 (16 + l.g), .int .i64 (16 + 3 * l.g)], .bool true]) ∧ Own w w' p (fun _ => False) d ∧ DeskD d l (16 + l.g.toNat) (fun _ => GC.zero)

set_option maxHeartbeats 8000000 in
set_option maxRecDepth 100000 in
theorem desk_any (K E B : Int) (v : Value) (w : World) (hK : (Lit.int .i64 K).wf = true) (hE : (Lit.int .i64 E).wf = true) (hB : (Lit.int .i64 B).wf = true) : Calls Tryz.prog 6 #[.agg #[.int .i64 K, .int .i64 E, .int .i64 B, v]] w fun e w' => DeskPost w (deskL K E B) e w' := by
  have hm1 : Mod6 K 24 (K % 24) := ⟨hK, by omega, by omega, rfl⟩
  have hm2 : Mod6 B 4 (B % 4) := ⟨hB, by omega, by omega, rfl⟩
  have hEl := fun W => elem_any K E B v W hE hB
  have hbk : 0 ≤ K % 24 ∧ K % 24 < 24 := by omega
  have hg := desk_g K E B
  have hval := desk_valid K E B
  have hP : ∀ V b (t : TypeId), V.heap[b]? = some (.cells #[.int .i64 (deskK K), .int .i64 (deskE E B), .int .i64 1, .int .i64 (deskB B), .int .i64 16] t) → Calls Tryz.prog 17 #[.slice (some ⟨b, 0, none⟩) 5 5] V fun r w' => r = .returned (.tuple #[(deskL K E B).val, .int .i64 0]) ∧ Keeps V w' (fun _ => False) := fun V b t hb => by
    obtain ⟨h0, h1, h2, h3, h4⟩ := cells5 hb
    refine (parse_five b 0 5 _ _ _ _ _ V h0 h1 h2 h3 h4).mono ?_
    rintro r w' ⟨rfl, k⟩
    have : parseD [deskK K, deskE E B, 1, deskB B, 16] = (deskL K E B, 0) := if_pos (desk_err K E B)
    rw [this]
    exact ⟨rfl, Keeps.ofKp k⟩
  have hdk : deskK K = 1 + K % 24 := rfl
  have hde : deskE E B = 2 ^ (B % 4).toNat * (E % 4) := rfl
  obtain ⟨n, hn⟩ := Int.eq_ofNat_of_zero_le (show 0 ≤ B % 4 by omega)
  have hn4 : n < 4 := by omega
  have hdb : (2 : Int) ^ n = deskB B := by
    unfold deskB
    rw [hn, Int.toNat_natCast]
  have hbo := deskB_one B
  rw [← hde] at hEl
  unfold Lay.val at hP
  generalize deskL K E B = l at *
  generalize deskE E B = EE at *
  generalize deskB B = BB at *
  rw [hdk] at hP
  generalize K % 24 = KK at *
  rw [hn] at hm2
  obtain ⟨hk0, hk1⟩ := hbk
  have v1 : IntKind.i64.wrap (1 + KK) = 1 + KK := by rw [IntKind.wrap_i64]; omega
  have v2 : IntKind.i64.wrap ((2 : Int) ^ n) = BB := by rw [hdb, IntKind.wrap_i64]; omega
  clear hdk hde hdb hn
  go_enter Tryz.func6, Tryz.ntmps6
  go_wp2_with fail
  refine alloc2 (P := fun W => Code.wp _ _ _ _ W) fun W0 hb hr hz K0 => ?_
  have C0 := r4_of hb
  go_region_held3 (fun w' => w'.cell? ⟨w.heap.size, 0, none⟩ = some (.int .i64 K) ∧ w'.cell? ⟨w.heap.size, 1, none⟩ = some (.int .i64 E) ∧ w'.cell? ⟨w.heap.size, 2, none⟩ = some (.int .i64 B) ∧ w'.cell? ⟨w.heap.size, 3, none⟩ = some v) (first | with_reducible exact r4_set9 hne.out (by with_reducible assumption) | with_reducible assumption | with_reducible exact r4_drew C0 | with_reducible exact r4_drew (r4_alloc C0 _) | with_reducible exact r4_call kP (by with_reducible assumption) | with_reducible exact r4_call kE (by with_reducible assumption) | with_reducible exact r4_alloc (by with_reducible assumption) _ | with_reducible exact r4_alloc (r4_call kP (r4_alloc (r4_call kE (r4_drew C0)) _)) _) (first | (go_at_call 9; refine (mod6_is (by assumption) _).mono ?_; rintro r w5 ⟨rfl, rfl⟩) | (go_at_call 18; refine (hEl _).mono ?_; rintro r wE ⟨rfl, kE⟩) | (go_at_call 17; with_reducible refine (hP _ _ _ (heap_next _ _ _)).mono ?_; rintro r w1 ⟨rfl, kP⟩; have hbl := kP.blk (heap_alloc_old (heap_alloc_new _ _) _); have hsE : W0.heap.size ≤ _ := kE.size; obtain ⟨a0, a1, a2, a3, a4, a5, a6, a7, a8, f0, f1, f2, f3, f4, f5, f6, f7, f8⟩ := nine_cells hbl; have hne : ¬ (w.heap.size = _) := Nat.ne_of_lt (Nat.lt_of_lt_of_le (show w.heap.size < W0.heap.size by omega) hsE); replace hbl := hide hbl; replace hne := hide hne) | (go_at_call 17; with_reducible refine (hP _ _ _ (heap_alloc_old (heap_alloc_new _ _) _)).mono ?_; rintro r w1 ⟨rfl, kP⟩; have hbl := kP.blk (heap_next _ _ _); have hsE : W0.heap.size ≤ _ := kE.size; obtain ⟨a0, a1, a2, a3, a4, a5, a6, a7, a8, f0, f1, f2, f3, f4, f5, f6, f7, f8⟩ := nine_cells hbl; have hne : ¬ (w.heap.size = _ + 1) := Nat.ne_of_lt (Nat.lt_succ_of_lt (Nat.lt_of_lt_of_le (show w.heap.size < W0.heap.size by omega) hsE)); replace hbl := hide hbl; replace hne := hide hne) | (go_at_call 17; have hq0 : Keeps W0.drew _ (fun _ => False) := kE; with_reducible refine (hP _ _ _ (heap_alloc_new _ _)).mono ?_; rintro r w1 ⟨rfl, kP⟩) | (go_at_call 17; have hq := kE.blk (heap_new_drew _ _); rw [hz] at hq; with_reducible refine (hP _ _ _ (heap_alloc_new _ _)).mono ?_; rintro r w1 ⟨rfl, kP⟩; have hbl := kP.blk (heap_alloc_old hq _); obtain ⟨a0, a1, a2, a3, a4, a5, a6, a7, a8, f0, f1, f2, f3, f4, f5, f6, f7, f8⟩ := nine_cells hbl; have hne : Hid (¬ (w.heap.size = w.heap.size + 2)) := hide (by omega)))
  · have KK : Keeps W0 w1 (fun _ => False) := (((Keeps.refl W0 (fun _ => False)).drew.trans kE (fun _ _ e => e)).alloc _).trans kP (fun _ _ e => e)
    refine alloc1 (P := fun W => Exit.then _ _ _ _ W) fun WL hl hz9 K9 => ?_
    have KL : Keeps W0 WL (fun _ => False) := KK.trans K9 (fun _ _ e => e)
    have hle : W0.heap.size ≤ w1.heap.size := KK.size
    clear hm1 hm2 hEl hP kE kP KK K9 hz9
    have hN := fun V => own_new (w := V) 32768 (by omega)
    go_wp2_with fail
    refine (hN _).mono ?_
    rintro r w2 ⟨p, rfl, O2⟩
    have K2 : Keeps W0 w2 (fun _ => False) := KL.trans O2.keeps (fun _ _ e => e)
    obtain ⟨x0, x1, x2, x3, x4, x5, x6, x7, x8, -⟩ := nine_cells (O2.keeps.blk hl)
    obtain ⟨hg1, hg2⟩ := hg
    have hg3 : ¬ l.g < 136 := by omega
    have v3 : IntKind.i64.wrap (3 * l.g) = 3 * l.g := by rw [IntKind.wrap_i64]; omega
    have v4 : IntKind.i64.wrap (16 + l.g) = 16 + l.g := by rw [IntKind.wrap_i64]; omega
    have v5 : IntKind.i64.wrap (16 + 3 * l.g) = 16 + 3 * l.g := by rw [IntKind.wrap_i64]; omega
    obtain ⟨g, hgg⟩ := Int.eq_ofNat_of_zero_le (show 0 ≤ l.g by omega)
    have hcs := class_small ⟨3 * g, by omega⟩
    have hcl := class_le (3 * g) (by omega) (by omega)
    simp only at hcs
    have hAl : Calls Tryz.prog 20 #[.pointer (some ⟨p, 0, none⟩), .int .i64 (3 * l.g)] w2 fun e w' => AllocPost w2 p (fun k => (WL.heap.size ≤ k ∧ ¬ False) ∧ k < w2.heap.size) 16 (dk (classN (3 * g))) e w' := by
      have := own_alloc O2 (AD.fresh_fine (by omega)) newOK (newG_fresh 32768) (3 * g) (by omega) (by omega) (by show 0 + _ ≤ 32768; omega)
      rw [show ((3 * g : Nat) : Int) = 3 * l.g by omega] at this
      exact this
    generalize classN (3 * g) = c at *
    have HC := hide (And.intro hgg (And.intro hcs hcl))
    have HO2 := hide O2
    have HL := hide hl
    have HR := hide (And.intro hr (And.intro K2 (And.intro KL K0)))
    clear hgg hcs hcl O2 hl hb hr K2 KL K0 C0 hbo
    go_wp2_with fail
    refine hAl.mono ?_
    rintro r w3 ⟨rfl, T3⟩
    have O3 := HO2.out.turn T3 (fun _ h => h.elim)
    have hFl : Calls Tryz.prog 21 #[.pointer (some ⟨p, 0, none⟩), .int .i64 16, .int .i64 (3 * l.g), .int .u8 165] w3 fun e w' => ErrPost w3 p (fun k => (WL.heap.size ≤ k ∧ ¬ False) ∧ k < w3.heap.size) 0 (dkF c g) e w' := by
      obtain ⟨hgg, hcs, hcl⟩ := HC.out
      have := own_fill O3 (dk_fine (c := c) (by omega) (by omega)) 16 (3 * l.g) 165 (fitsI_mk (by omega) (by omega)) (fitsI_mk (by omega) (by omega))
      have hf : fillR (dk c) 16 (3 * l.g) 165 = (0, dkF c g) := by
        unfold fillR
        rw [dk_good (by omega) (by omega) (by omega), show (3 * l.g).toNat = 3 * g by omega]
        rfl
      rw [hf] at this
      exact this
    obtain ⟨y0, y1, y2, y3, y4, y5, y6, y7, y8, -⟩ := nine_cells (O3.keeps.blk HL.out)
    have HO3 := hide O3
    clear x0 x1 x2 x3 x4 x5 x6 x7 x8 hAl T3 O3 HO2
    go_wp2_with fail
    refine hFl.mono ?_
    rintro r w4 ⟨rfl, T4⟩
    have O4 := HO3.out.turn T4 (fun _ h => h.elim)
    obtain ⟨z0, z1, z2, z3, z4, z5, z6, z7, z8, -⟩ := nine_cells (O4.keeps.blk HL.out)
    have HO4 := hide O4
    clear y0 y1 y2 y3 y4 y5 y6 y7 y8 hFl T4 O4 HO3
    go_wp2_with fail
    have hFn : ∀ k, k < WL.heap.size → ¬ ((WL.heap.size ≤ k ∧ ¬ False) ∧ k < w4.heap.size) := fun k hk q => by omega
    have hbl1 : w1.heap.size < WL.heap.size := heap_lt HL.out
    have hbl2 : w.heap.size + 1 < WL.heap.size := by
      have := HR.out.2.2.1.size
      omega
    refine alloc1 (P := fun W => Code.wp _ _ _ _ W) fun W5 h5 hz5 K5 => ?_
    have C5 : N9 (w1.heap.size) _ _ _ _ _ _ _ _ _ W5 ∧ N12 w4.heap.size _ _ _ _ _ _ _ _ _ _ _ _ W5 := ⟨n9_of (K5.blk (HO4.out.keeps.blk HL.out)), n12_of h5⟩
    have S5 := n21_keeps (Keeps.refl W5 (fun _ => False)).drew id id C5
    have hAt := fun V => at_any p l (16 + l.g) V
    have hRs : ∀ V, Keeps w4 V (fun _ => False) → Calls Tryz.prog 22 #[.agg #[.pointer (some ⟨p, 0, none⟩), .int .i64 l.k, .int .i64 l.e, .int .i64 l.a, .int .i64 l.b, .int .i64 l.c, .int .i64 l.eo, .int .i64 l.bo, .int .i64 l.s, .int .i64 l.g, .int .i64 (16 + l.g)]] V fun e w' => ErrPost V p (fun k => (WL.heap.size ≤ k ∧ ¬ False) ∧ k < w4.heap.size) 0 (resetG (dkF c g) l ((16 + g : Nat) : Int)).2 e w' := fun V kV => by
      obtain ⟨hgg, hcs, hcl⟩ := HC.out
      have hd := desk_data (c := c) (g := g) hval hgg (by omega) (by omega) (by omega)
      have hF : (dkF c g).Fine := (dk_fine (by omega) (by omega)).bytes (splice_length (by rw [same_length, dk_bs, zeros_length]; omega))
      have := greset_any (HO4.out.here.keeps kV (fun _ _ _ e => e)) hF (fun k hk => Nat.lt_of_lt_of_le hk.2 kV.size) l ((16 + g : Nat) : Int) (fitsI_mk (by omega) (by omega)) (fitsI_mk (by omega) (by omega))
      rw [hd.1, show ((16 + g : Nat) : Int) = 16 + l.g by omega] at this
      rw [show ((16 + g : Nat) : Int) = 16 + l.g by omega]
      exact this
    clear z0 z1 z2 z3 z4 z5 z6 z7 z8
    go_region_held3 (fun w' => (w'.cell? ⟨w1.heap.size, 0, none⟩ = some (.int .i64 l.k) ∧ w'.cell? ⟨w1.heap.size, 1, none⟩ = some (.int .i64 l.e) ∧ w'.cell? ⟨w1.heap.size, 2, none⟩ = some (.int .i64 l.a) ∧ w'.cell? ⟨w1.heap.size, 3, none⟩ = some (.int .i64 l.b) ∧ w'.cell? ⟨w1.heap.size, 4, none⟩ = some (.int .i64 l.c) ∧ w'.cell? ⟨w1.heap.size, 5, none⟩ = some (.int .i64 l.eo) ∧ w'.cell? ⟨w1.heap.size, 6, none⟩ = some (.int .i64 l.bo) ∧ w'.cell? ⟨w1.heap.size, 7, none⟩ = some (.int .i64 l.s) ∧ w'.cell? ⟨w1.heap.size, 8, none⟩ = some (.int .i64 l.g)) ∧ (w'.cell? ⟨w4.heap.size, 0, none⟩ = some (.pointer (some ⟨p, 0, none⟩)) ∧ w'.cell? ⟨w4.heap.size, 1, none⟩ = some (.int .i64 l.k) ∧ w'.cell? ⟨w4.heap.size, 2, none⟩ = some (.int .i64 l.e) ∧ w'.cell? ⟨w4.heap.size, 3, none⟩ = some (.int .i64 l.a) ∧ w'.cell? ⟨w4.heap.size, 4, none⟩ = some (.int .i64 l.b) ∧ w'.cell? ⟨w4.heap.size, 5, none⟩ = some (.int .i64 l.c) ∧ w'.cell? ⟨w4.heap.size, 6, none⟩ = some (.int .i64 l.eo) ∧ w'.cell? ⟨w4.heap.size, 7, none⟩ = some (.int .i64 l.bo) ∧ w'.cell? ⟨w4.heap.size, 8, none⟩ = some (.int .i64 l.s) ∧ w'.cell? ⟨w4.heap.size, 9, none⟩ = some (.int .i64 l.g) ∧ w'.cell? ⟨w4.heap.size, 10, none⟩ = some (.int .i64 (16 + l.g)) ∧ w'.cell? ⟨w4.heap.size, 11, none⟩ = some (.int .i64 (16 + 3 * l.g)))) (first | with_reducible assumption | with_reducible exact n21_keeps (set12_keeps _ _ _ _ _ _ _ _ _ _ _ _ _ _) hs1 hs2 S6) (first | (go_at_call 11; (with_reducible refine (hAt _).mono ?_); rintro r wA ⟨rfl, kA⟩; have K6 : Keeps w4 wA (fun _ => False) := (K5.drew).trans kA (fun _ _ e => e); have SA := n21_keeps kA id id S5) | (go_at_call 22; (with_reducible refine (hRs _ K6).mono ?_); rintro r w6 ⟨rfl, T6⟩; have k6 := T6.2; have hr6 := (T6.2.block (w.heap.size + 1) (by have := K6.size; have := HO4.out.keeps.size; omega) (hFn _ hbl2)).trans (K6.blk (HO4.out.keeps.blk (HR.out.2.2.1.blk HR.out.1))); obtain ⟨a0, a1, a2, a3, a4, a5, a6, a7, a8, a9, a10, a11, f0, f1, f2, f3, f4, f5, f6, f7, f8, f9, f10, f11⟩ := twelve_cells hr6; have hr1 := hFn _ hbl1; have hr2 : ¬ ((WL.heap.size ≤ w4.heap.size ∧ ¬ False) ∧ w4.heap.size < w4.heap.size) := (fun q => absurd q.2 (Nat.lt_irrefl _)); have hs1 : ¬ w1.heap.size = w.heap.size + 1 := (by omega); have hs2 : ¬ w4.heap.size = w.heap.size + 1 := (by have := HO4.out.keeps.size; omega); have S6 := n21_keeps k6 hr1 hr2 SA; replace hr6 := hide hr6))
    have HP : Hid (∀ W9, Keeps w6 W9 (fun i => i = w.heap.size + 1) → Own w W9 p (fun _ => False) (resetG (dkF c g) l ((16 + g : Nat) : Int)).2) := fun W9 k9 => by
      obtain ⟨-, -, qL, q0⟩ := HR.out
      have s4 := HO4.out.keeps.size
      have sA := K6.size
      refine ⟨(T6.1.keeps k9 (fun i _ hi e => ?_)).mono (fun i _ hi => ⟨?_, id⟩), ?_⟩
      · rcases hi with hi | hi
        · have := hi.1.1
          omega
        · omega
      · rcases hi with hi | hi
        · have := hi.1.1
          omega
        · omega
      · have a1 : Keeps w wA (fun _ => False) := ((q0.trans qL (fun _ _ e => e)).trans HO4.out.keeps (fun _ _ e => e)).trans K6 (fun _ _ e => e)
        have a2 : Keeps w w6 (fun _ => False) := a1.trans T6.2 (fun i hi e => by have := e.1.1; omega)
        exact a2.trans k9 (fun i hi e => by omega)
    have HD : Hid (DeskD (resetG (dkF c g) l ((16 + g : Nat) : Int)).2 l (16 + l.g.toNat) (fun _ => GC.zero)) := by
      obtain ⟨hgg, hcs, hcl⟩ := HC.out
      have hd := desk_data (c := c) (g := g) hval hgg (by omega) (by omega) (by omega)
      rw [show l.g.toNat = g by omega]
      exact hd.2
    refine set12_any hr6.out (P := fun W => Exit.then _ _ _ _ W) fun W9 h9 k9 => ?_
    have O9 := hide (HP.out W9 k9)
    obtain ⟨e0, e1, e2, e3, e4, e5, e6, e7, e8, e9, e10, e11, -⟩ := twelve_cells h9
    clear HP T6 S6 SA S5 k6 k9 h9 a0 a1 a2 a3 a4 a5 a6 a7 a8 a9 a10 a11 f0 f1 f2 f3 f4 f5 f6 f7 f8 f9 f10 f11
    go_wp2_with fail
    exact bodyPost_ret (v := .tuple #[.agg #[.pointer (some ⟨p, 0, none⟩), .int .i64 l.k, .int .i64 l.e, .int .i64 l.a, .int .i64 l.b, .int .i64 l.c, .int .i64 l.eo, .int .i64 l.bo, .int .i64 l.s, .int .i64 l.g, .int .i64 (16 + l.g), .int .i64 (16 + 3 * l.g)], .bool true]) (by simp [results, Tryz.results6, go_sem, e0, e1, e2, e3, e4, e5, e6, e7, e8, e9, e10, e11]) rfl ⟨p, _, rfl, O9.out, HD.out⟩
  · have KK : Keeps W0 w1 (fun _ => False) := ((((Keeps.refl W0 (fun _ => False)).drew.trans kE (fun _ _ e => e)).alloc _).alloc _).trans kP (fun _ _ e => e)
    have hle : W0.heap.size ≤ w5.heap.size + 1 := (by omega)
    refine set9_any hbl.out KK hle (P := fun W => Exit.then _ _ _ _ W) fun WL hl KL => ?_
    clear hm1 hm2 hEl hP kE kP KK a0 a1 a2 a3 a4 a5 a6 a7 a8 f0 f1 f2 f3 f4 f5 f6 f7 f8 hbl hne hsE
    have hN := fun V => own_new (w := V) 32768 (by omega)
    go_wp2_with fail
    refine (hN _).mono ?_
    rintro r w2 ⟨p, rfl, O2⟩
    have K2 : Keeps W0 w2 (fun _ => False) := KL.trans O2.keeps (fun _ _ e => e)
    obtain ⟨x0, x1, x2, x3, x4, x5, x6, x7, x8, -⟩ := nine_cells (O2.keeps.blk hl)
    obtain ⟨hg1, hg2⟩ := hg
    have hg3 : ¬ l.g < 136 := by omega
    have v3 : IntKind.i64.wrap (3 * l.g) = 3 * l.g := by rw [IntKind.wrap_i64]; omega
    have v4 : IntKind.i64.wrap (16 + l.g) = 16 + l.g := by rw [IntKind.wrap_i64]; omega
    have v5 : IntKind.i64.wrap (16 + 3 * l.g) = 16 + 3 * l.g := by rw [IntKind.wrap_i64]; omega
    obtain ⟨g, hgg⟩ := Int.eq_ofNat_of_zero_le (show 0 ≤ l.g by omega)
    have hcs := class_small ⟨3 * g, by omega⟩
    have hcl := class_le (3 * g) (by omega) (by omega)
    simp only at hcs
    have hAl : Calls Tryz.prog 20 #[.pointer (some ⟨p, 0, none⟩), .int .i64 (3 * l.g)] w2 fun e w' => AllocPost w2 p (fun k => (WL.heap.size ≤ k ∧ ¬ False) ∧ k < w2.heap.size) 16 (dk (classN (3 * g))) e w' := by
      have := own_alloc O2 (AD.fresh_fine (by omega)) newOK (newG_fresh 32768) (3 * g) (by omega) (by omega) (by show 0 + _ ≤ 32768; omega)
      rw [show ((3 * g : Nat) : Int) = 3 * l.g by omega] at this
      exact this
    generalize classN (3 * g) = c at *
    have HC := hide (And.intro hgg (And.intro hcs hcl))
    have HO2 := hide O2
    have HL := hide hl
    have HR := hide (And.intro hr (And.intro K2 (And.intro KL K0)))
    clear hgg hcs hcl O2 hl hb hr K2 KL K0 C0 hbo
    go_wp2_with fail
    refine hAl.mono ?_
    rintro r w3 ⟨rfl, T3⟩
    have O3 := HO2.out.turn T3 (fun _ h => h.elim)
    have hFl : Calls Tryz.prog 21 #[.pointer (some ⟨p, 0, none⟩), .int .i64 16, .int .i64 (3 * l.g), .int .u8 165] w3 fun e w' => ErrPost w3 p (fun k => (WL.heap.size ≤ k ∧ ¬ False) ∧ k < w3.heap.size) 0 (dkF c g) e w' := by
      obtain ⟨hgg, hcs, hcl⟩ := HC.out
      have := own_fill O3 (dk_fine (c := c) (by omega) (by omega)) 16 (3 * l.g) 165 (fitsI_mk (by omega) (by omega)) (fitsI_mk (by omega) (by omega))
      have hf : fillR (dk c) 16 (3 * l.g) 165 = (0, dkF c g) := by
        unfold fillR
        rw [dk_good (by omega) (by omega) (by omega), show (3 * l.g).toNat = 3 * g by omega]
        rfl
      rw [hf] at this
      exact this
    obtain ⟨y0, y1, y2, y3, y4, y5, y6, y7, y8, -⟩ := nine_cells (O3.keeps.blk HL.out)
    have HO3 := hide O3
    clear x0 x1 x2 x3 x4 x5 x6 x7 x8 hAl T3 O3 HO2
    go_wp2_with fail
    refine hFl.mono ?_
    rintro r w4 ⟨rfl, T4⟩
    have O4 := HO3.out.turn T4 (fun _ h => h.elim)
    obtain ⟨z0, z1, z2, z3, z4, z5, z6, z7, z8, -⟩ := nine_cells (O4.keeps.blk HL.out)
    have HO4 := hide O4
    clear y0 y1 y2 y3 y4 y5 y6 y7 y8 hFl T4 O4 HO3
    go_wp2_with fail
    have hFn : ∀ k, k < WL.heap.size → ¬ ((WL.heap.size ≤ k ∧ ¬ False) ∧ k < w4.heap.size) := fun k hk q => by omega
    have hbl1 : w5.heap.size + 1 < WL.heap.size := heap_lt HL.out
    have hbl2 : w.heap.size + 1 < WL.heap.size := by
      have := HR.out.2.2.1.size
      omega
    refine alloc1 (P := fun W => Code.wp _ _ _ _ W) fun W5 h5 hz5 K5 => ?_
    have C5 : N9 (w5.heap.size + 1) _ _ _ _ _ _ _ _ _ W5 ∧ N12 w4.heap.size _ _ _ _ _ _ _ _ _ _ _ _ W5 := ⟨n9_of (K5.blk (HO4.out.keeps.blk HL.out)), n12_of h5⟩
    have S5 := n21_keeps (Keeps.refl W5 (fun _ => False)).drew id id C5
    have hAt := fun V => at_any p l (16 + l.g) V
    have hRs : ∀ V, Keeps w4 V (fun _ => False) → Calls Tryz.prog 22 #[.agg #[.pointer (some ⟨p, 0, none⟩), .int .i64 l.k, .int .i64 l.e, .int .i64 l.a, .int .i64 l.b, .int .i64 l.c, .int .i64 l.eo, .int .i64 l.bo, .int .i64 l.s, .int .i64 l.g, .int .i64 (16 + l.g)]] V fun e w' => ErrPost V p (fun k => (WL.heap.size ≤ k ∧ ¬ False) ∧ k < w4.heap.size) 0 (resetG (dkF c g) l ((16 + g : Nat) : Int)).2 e w' := fun V kV => by
      obtain ⟨hgg, hcs, hcl⟩ := HC.out
      have hd := desk_data (c := c) (g := g) hval hgg (by omega) (by omega) (by omega)
      have hF : (dkF c g).Fine := (dk_fine (by omega) (by omega)).bytes (splice_length (by rw [same_length, dk_bs, zeros_length]; omega))
      have := greset_any (HO4.out.here.keeps kV (fun _ _ _ e => e)) hF (fun k hk => Nat.lt_of_lt_of_le hk.2 kV.size) l ((16 + g : Nat) : Int) (fitsI_mk (by omega) (by omega)) (fitsI_mk (by omega) (by omega))
      rw [hd.1, show ((16 + g : Nat) : Int) = 16 + l.g by omega] at this
      rw [show ((16 + g : Nat) : Int) = 16 + l.g by omega]
      exact this
    clear z0 z1 z2 z3 z4 z5 z6 z7 z8
    go_region_held3 (fun w' => (w'.cell? ⟨w5.heap.size + 1, 0, none⟩ = some (.int .i64 l.k) ∧ w'.cell? ⟨w5.heap.size + 1, 1, none⟩ = some (.int .i64 l.e) ∧ w'.cell? ⟨w5.heap.size + 1, 2, none⟩ = some (.int .i64 l.a) ∧ w'.cell? ⟨w5.heap.size + 1, 3, none⟩ = some (.int .i64 l.b) ∧ w'.cell? ⟨w5.heap.size + 1, 4, none⟩ = some (.int .i64 l.c) ∧ w'.cell? ⟨w5.heap.size + 1, 5, none⟩ = some (.int .i64 l.eo) ∧ w'.cell? ⟨w5.heap.size + 1, 6, none⟩ = some (.int .i64 l.bo) ∧ w'.cell? ⟨w5.heap.size + 1, 7, none⟩ = some (.int .i64 l.s) ∧ w'.cell? ⟨w5.heap.size + 1, 8, none⟩ = some (.int .i64 l.g)) ∧ (w'.cell? ⟨w4.heap.size, 0, none⟩ = some (.pointer (some ⟨p, 0, none⟩)) ∧ w'.cell? ⟨w4.heap.size, 1, none⟩ = some (.int .i64 l.k) ∧ w'.cell? ⟨w4.heap.size, 2, none⟩ = some (.int .i64 l.e) ∧ w'.cell? ⟨w4.heap.size, 3, none⟩ = some (.int .i64 l.a) ∧ w'.cell? ⟨w4.heap.size, 4, none⟩ = some (.int .i64 l.b) ∧ w'.cell? ⟨w4.heap.size, 5, none⟩ = some (.int .i64 l.c) ∧ w'.cell? ⟨w4.heap.size, 6, none⟩ = some (.int .i64 l.eo) ∧ w'.cell? ⟨w4.heap.size, 7, none⟩ = some (.int .i64 l.bo) ∧ w'.cell? ⟨w4.heap.size, 8, none⟩ = some (.int .i64 l.s) ∧ w'.cell? ⟨w4.heap.size, 9, none⟩ = some (.int .i64 l.g) ∧ w'.cell? ⟨w4.heap.size, 10, none⟩ = some (.int .i64 (16 + l.g)) ∧ w'.cell? ⟨w4.heap.size, 11, none⟩ = some (.int .i64 (16 + 3 * l.g)))) (first | with_reducible assumption | with_reducible exact n21_keeps (set12_keeps _ _ _ _ _ _ _ _ _ _ _ _ _ _) hs1 hs2 S6) (first | (go_at_call 11; (with_reducible refine (hAt _).mono ?_); rintro r wA ⟨rfl, kA⟩; have K6 : Keeps w4 wA (fun _ => False) := (K5.drew).trans kA (fun _ _ e => e); have SA := n21_keeps kA id id S5) | (go_at_call 22; (with_reducible refine (hRs _ K6).mono ?_); rintro r w6 ⟨rfl, T6⟩; have k6 := T6.2; have hr6 := (T6.2.block (w.heap.size + 1) (by have := K6.size; have := HO4.out.keeps.size; omega) (hFn _ hbl2)).trans (K6.blk (HO4.out.keeps.blk (HR.out.2.2.1.blk HR.out.1))); obtain ⟨a0, a1, a2, a3, a4, a5, a6, a7, a8, a9, a10, a11, f0, f1, f2, f3, f4, f5, f6, f7, f8, f9, f10, f11⟩ := twelve_cells hr6; have hr1 := hFn _ hbl1; have hr2 : ¬ ((WL.heap.size ≤ w4.heap.size ∧ ¬ False) ∧ w4.heap.size < w4.heap.size) := (fun q => absurd q.2 (Nat.lt_irrefl _)); have hs1 : ¬ w5.heap.size + 1 = w.heap.size + 1 := (by omega); have hs2 : ¬ w4.heap.size = w.heap.size + 1 := (by have := HO4.out.keeps.size; omega); have S6 := n21_keeps k6 hr1 hr2 SA; replace hr6 := hide hr6))
    have HP : Hid (∀ W9, Keeps w6 W9 (fun i => i = w.heap.size + 1) → Own w W9 p (fun _ => False) (resetG (dkF c g) l ((16 + g : Nat) : Int)).2) := fun W9 k9 => by
      obtain ⟨-, -, qL, q0⟩ := HR.out
      have s4 := HO4.out.keeps.size
      have sA := K6.size
      refine ⟨(T6.1.keeps k9 (fun i _ hi e => ?_)).mono (fun i _ hi => ⟨?_, id⟩), ?_⟩
      · rcases hi with hi | hi
        · have := hi.1.1
          omega
        · omega
      · rcases hi with hi | hi
        · have := hi.1.1
          omega
        · omega
      · have a1 : Keeps w wA (fun _ => False) := ((q0.trans qL (fun _ _ e => e)).trans HO4.out.keeps (fun _ _ e => e)).trans K6 (fun _ _ e => e)
        have a2 : Keeps w w6 (fun _ => False) := a1.trans T6.2 (fun i hi e => by have := e.1.1; omega)
        exact a2.trans k9 (fun i hi e => by omega)
    have HD : Hid (DeskD (resetG (dkF c g) l ((16 + g : Nat) : Int)).2 l (16 + l.g.toNat) (fun _ => GC.zero)) := by
      obtain ⟨hgg, hcs, hcl⟩ := HC.out
      have hd := desk_data (c := c) (g := g) hval hgg (by omega) (by omega) (by omega)
      rw [show l.g.toNat = g by omega]
      exact hd.2
    refine set12_any hr6.out (P := fun W => Exit.then _ _ _ _ W) fun W9 h9 k9 => ?_
    have O9 := hide (HP.out W9 k9)
    obtain ⟨e0, e1, e2, e3, e4, e5, e6, e7, e8, e9, e10, e11, -⟩ := twelve_cells h9
    clear HP T6 S6 SA S5 k6 k9 h9 a0 a1 a2 a3 a4 a5 a6 a7 a8 a9 a10 a11 f0 f1 f2 f3 f4 f5 f6 f7 f8 f9 f10 f11
    go_wp2_with fail
    exact bodyPost_ret (v := .tuple #[.agg #[.pointer (some ⟨p, 0, none⟩), .int .i64 l.k, .int .i64 l.e, .int .i64 l.a, .int .i64 l.b, .int .i64 l.c, .int .i64 l.eo, .int .i64 l.bo, .int .i64 l.s, .int .i64 l.g, .int .i64 (16 + l.g), .int .i64 (16 + 3 * l.g)], .bool true]) (by simp [results, Tryz.results6, go_sem, e0, e1, e2, e3, e4, e5, e6, e7, e8, e9, e10, e11]) rfl ⟨p, _, rfl, O9.out, HD.out⟩
  · have KK : Keeps W0 w1 (fun _ => False) := ((((Keeps.refl W0 (fun _ => False)).drew.trans kE (fun _ _ e => e)).alloc _).alloc _).trans kP (fun _ _ e => e)
    have hle : W0.heap.size ≤ w5.heap.size := hsE
    refine set9_any hbl.out KK hle (P := fun W => Exit.then _ _ _ _ W) fun WL hl KL => ?_
    clear hm1 hm2 hEl hP kE kP KK a0 a1 a2 a3 a4 a5 a6 a7 a8 f0 f1 f2 f3 f4 f5 f6 f7 f8 hbl hne hsE
    have hN := fun V => own_new (w := V) 32768 (by omega)
    go_wp2_with fail
    refine (hN _).mono ?_
    rintro r w2 ⟨p, rfl, O2⟩
    have K2 : Keeps W0 w2 (fun _ => False) := KL.trans O2.keeps (fun _ _ e => e)
    obtain ⟨x0, x1, x2, x3, x4, x5, x6, x7, x8, -⟩ := nine_cells (O2.keeps.blk hl)
    obtain ⟨hg1, hg2⟩ := hg
    have hg3 : ¬ l.g < 136 := by omega
    have v3 : IntKind.i64.wrap (3 * l.g) = 3 * l.g := by rw [IntKind.wrap_i64]; omega
    have v4 : IntKind.i64.wrap (16 + l.g) = 16 + l.g := by rw [IntKind.wrap_i64]; omega
    have v5 : IntKind.i64.wrap (16 + 3 * l.g) = 16 + 3 * l.g := by rw [IntKind.wrap_i64]; omega
    obtain ⟨g, hgg⟩ := Int.eq_ofNat_of_zero_le (show 0 ≤ l.g by omega)
    have hcs := class_small ⟨3 * g, by omega⟩
    have hcl := class_le (3 * g) (by omega) (by omega)
    simp only at hcs
    have hAl : Calls Tryz.prog 20 #[.pointer (some ⟨p, 0, none⟩), .int .i64 (3 * l.g)] w2 fun e w' => AllocPost w2 p (fun k => (WL.heap.size ≤ k ∧ ¬ False) ∧ k < w2.heap.size) 16 (dk (classN (3 * g))) e w' := by
      have := own_alloc O2 (AD.fresh_fine (by omega)) newOK (newG_fresh 32768) (3 * g) (by omega) (by omega) (by show 0 + _ ≤ 32768; omega)
      rw [show ((3 * g : Nat) : Int) = 3 * l.g by omega] at this
      exact this
    generalize classN (3 * g) = c at *
    have HC := hide (And.intro hgg (And.intro hcs hcl))
    have HO2 := hide O2
    have HL := hide hl
    have HR := hide (And.intro hr (And.intro K2 (And.intro KL K0)))
    clear hgg hcs hcl O2 hl hb hr K2 KL K0 C0 hbo
    go_wp2_with fail
    refine hAl.mono ?_
    rintro r w3 ⟨rfl, T3⟩
    have O3 := HO2.out.turn T3 (fun _ h => h.elim)
    have hFl : Calls Tryz.prog 21 #[.pointer (some ⟨p, 0, none⟩), .int .i64 16, .int .i64 (3 * l.g), .int .u8 165] w3 fun e w' => ErrPost w3 p (fun k => (WL.heap.size ≤ k ∧ ¬ False) ∧ k < w3.heap.size) 0 (dkF c g) e w' := by
      obtain ⟨hgg, hcs, hcl⟩ := HC.out
      have := own_fill O3 (dk_fine (c := c) (by omega) (by omega)) 16 (3 * l.g) 165 (fitsI_mk (by omega) (by omega)) (fitsI_mk (by omega) (by omega))
      have hf : fillR (dk c) 16 (3 * l.g) 165 = (0, dkF c g) := by
        unfold fillR
        rw [dk_good (by omega) (by omega) (by omega), show (3 * l.g).toNat = 3 * g by omega]
        rfl
      rw [hf] at this
      exact this
    obtain ⟨y0, y1, y2, y3, y4, y5, y6, y7, y8, -⟩ := nine_cells (O3.keeps.blk HL.out)
    have HO3 := hide O3
    clear x0 x1 x2 x3 x4 x5 x6 x7 x8 hAl T3 O3 HO2
    go_wp2_with fail
    refine hFl.mono ?_
    rintro r w4 ⟨rfl, T4⟩
    have O4 := HO3.out.turn T4 (fun _ h => h.elim)
    obtain ⟨z0, z1, z2, z3, z4, z5, z6, z7, z8, -⟩ := nine_cells (O4.keeps.blk HL.out)
    have HO4 := hide O4
    clear y0 y1 y2 y3 y4 y5 y6 y7 y8 hFl T4 O4 HO3
    go_wp2_with fail
    have hFn : ∀ k, k < WL.heap.size → ¬ ((WL.heap.size ≤ k ∧ ¬ False) ∧ k < w4.heap.size) := fun k hk q => by omega
    have hbl1 : w5.heap.size < WL.heap.size := heap_lt HL.out
    have hbl2 : w.heap.size + 1 < WL.heap.size := by
      have := HR.out.2.2.1.size
      omega
    refine alloc1 (P := fun W => Code.wp _ _ _ _ W) fun W5 h5 hz5 K5 => ?_
    have C5 : N9 (w5.heap.size) _ _ _ _ _ _ _ _ _ W5 ∧ N12 w4.heap.size _ _ _ _ _ _ _ _ _ _ _ _ W5 := ⟨n9_of (K5.blk (HO4.out.keeps.blk HL.out)), n12_of h5⟩
    have S5 := n21_keeps (Keeps.refl W5 (fun _ => False)).drew id id C5
    have hAt := fun V => at_any p l (16 + l.g) V
    have hRs : ∀ V, Keeps w4 V (fun _ => False) → Calls Tryz.prog 22 #[.agg #[.pointer (some ⟨p, 0, none⟩), .int .i64 l.k, .int .i64 l.e, .int .i64 l.a, .int .i64 l.b, .int .i64 l.c, .int .i64 l.eo, .int .i64 l.bo, .int .i64 l.s, .int .i64 l.g, .int .i64 (16 + l.g)]] V fun e w' => ErrPost V p (fun k => (WL.heap.size ≤ k ∧ ¬ False) ∧ k < w4.heap.size) 0 (resetG (dkF c g) l ((16 + g : Nat) : Int)).2 e w' := fun V kV => by
      obtain ⟨hgg, hcs, hcl⟩ := HC.out
      have hd := desk_data (c := c) (g := g) hval hgg (by omega) (by omega) (by omega)
      have hF : (dkF c g).Fine := (dk_fine (by omega) (by omega)).bytes (splice_length (by rw [same_length, dk_bs, zeros_length]; omega))
      have := greset_any (HO4.out.here.keeps kV (fun _ _ _ e => e)) hF (fun k hk => Nat.lt_of_lt_of_le hk.2 kV.size) l ((16 + g : Nat) : Int) (fitsI_mk (by omega) (by omega)) (fitsI_mk (by omega) (by omega))
      rw [hd.1, show ((16 + g : Nat) : Int) = 16 + l.g by omega] at this
      rw [show ((16 + g : Nat) : Int) = 16 + l.g by omega]
      exact this
    clear z0 z1 z2 z3 z4 z5 z6 z7 z8
    go_region_held3 (fun w' => (w'.cell? ⟨w5.heap.size, 0, none⟩ = some (.int .i64 l.k) ∧ w'.cell? ⟨w5.heap.size, 1, none⟩ = some (.int .i64 l.e) ∧ w'.cell? ⟨w5.heap.size, 2, none⟩ = some (.int .i64 l.a) ∧ w'.cell? ⟨w5.heap.size, 3, none⟩ = some (.int .i64 l.b) ∧ w'.cell? ⟨w5.heap.size, 4, none⟩ = some (.int .i64 l.c) ∧ w'.cell? ⟨w5.heap.size, 5, none⟩ = some (.int .i64 l.eo) ∧ w'.cell? ⟨w5.heap.size, 6, none⟩ = some (.int .i64 l.bo) ∧ w'.cell? ⟨w5.heap.size, 7, none⟩ = some (.int .i64 l.s) ∧ w'.cell? ⟨w5.heap.size, 8, none⟩ = some (.int .i64 l.g)) ∧ (w'.cell? ⟨w4.heap.size, 0, none⟩ = some (.pointer (some ⟨p, 0, none⟩)) ∧ w'.cell? ⟨w4.heap.size, 1, none⟩ = some (.int .i64 l.k) ∧ w'.cell? ⟨w4.heap.size, 2, none⟩ = some (.int .i64 l.e) ∧ w'.cell? ⟨w4.heap.size, 3, none⟩ = some (.int .i64 l.a) ∧ w'.cell? ⟨w4.heap.size, 4, none⟩ = some (.int .i64 l.b) ∧ w'.cell? ⟨w4.heap.size, 5, none⟩ = some (.int .i64 l.c) ∧ w'.cell? ⟨w4.heap.size, 6, none⟩ = some (.int .i64 l.eo) ∧ w'.cell? ⟨w4.heap.size, 7, none⟩ = some (.int .i64 l.bo) ∧ w'.cell? ⟨w4.heap.size, 8, none⟩ = some (.int .i64 l.s) ∧ w'.cell? ⟨w4.heap.size, 9, none⟩ = some (.int .i64 l.g) ∧ w'.cell? ⟨w4.heap.size, 10, none⟩ = some (.int .i64 (16 + l.g)) ∧ w'.cell? ⟨w4.heap.size, 11, none⟩ = some (.int .i64 (16 + 3 * l.g)))) (first | with_reducible assumption | with_reducible exact n21_keeps (set12_keeps _ _ _ _ _ _ _ _ _ _ _ _ _ _) hs1 hs2 S6) (first | (go_at_call 11; (with_reducible refine (hAt _).mono ?_); rintro r wA ⟨rfl, kA⟩; have K6 : Keeps w4 wA (fun _ => False) := (K5.drew).trans kA (fun _ _ e => e); have SA := n21_keeps kA id id S5) | (go_at_call 22; (with_reducible refine (hRs _ K6).mono ?_); rintro r w6 ⟨rfl, T6⟩; have k6 := T6.2; have hr6 := (T6.2.block (w.heap.size + 1) (by have := K6.size; have := HO4.out.keeps.size; omega) (hFn _ hbl2)).trans (K6.blk (HO4.out.keeps.blk (HR.out.2.2.1.blk HR.out.1))); obtain ⟨a0, a1, a2, a3, a4, a5, a6, a7, a8, a9, a10, a11, f0, f1, f2, f3, f4, f5, f6, f7, f8, f9, f10, f11⟩ := twelve_cells hr6; have hr1 := hFn _ hbl1; have hr2 : ¬ ((WL.heap.size ≤ w4.heap.size ∧ ¬ False) ∧ w4.heap.size < w4.heap.size) := (fun q => absurd q.2 (Nat.lt_irrefl _)); have hs1 : ¬ w5.heap.size = w.heap.size + 1 := (by omega); have hs2 : ¬ w4.heap.size = w.heap.size + 1 := (by have := HO4.out.keeps.size; omega); have S6 := n21_keeps k6 hr1 hr2 SA; replace hr6 := hide hr6))
    have HP : Hid (∀ W9, Keeps w6 W9 (fun i => i = w.heap.size + 1) → Own w W9 p (fun _ => False) (resetG (dkF c g) l ((16 + g : Nat) : Int)).2) := fun W9 k9 => by
      obtain ⟨-, -, qL, q0⟩ := HR.out
      have s4 := HO4.out.keeps.size
      have sA := K6.size
      refine ⟨(T6.1.keeps k9 (fun i _ hi e => ?_)).mono (fun i _ hi => ⟨?_, id⟩), ?_⟩
      · rcases hi with hi | hi
        · have := hi.1.1
          omega
        · omega
      · rcases hi with hi | hi
        · have := hi.1.1
          omega
        · omega
      · have a1 : Keeps w wA (fun _ => False) := ((q0.trans qL (fun _ _ e => e)).trans HO4.out.keeps (fun _ _ e => e)).trans K6 (fun _ _ e => e)
        have a2 : Keeps w w6 (fun _ => False) := a1.trans T6.2 (fun i hi e => by have := e.1.1; omega)
        exact a2.trans k9 (fun i hi e => by omega)
    have HD : Hid (DeskD (resetG (dkF c g) l ((16 + g : Nat) : Int)).2 l (16 + l.g.toNat) (fun _ => GC.zero)) := by
      obtain ⟨hgg, hcs, hcl⟩ := HC.out
      have hd := desk_data (c := c) (g := g) hval hgg (by omega) (by omega) (by omega)
      rw [show l.g.toNat = g by omega]
      exact hd.2
    refine set12_any hr6.out (P := fun W => Exit.then _ _ _ _ W) fun W9 h9 k9 => ?_
    have O9 := hide (HP.out W9 k9)
    obtain ⟨e0, e1, e2, e3, e4, e5, e6, e7, e8, e9, e10, e11, -⟩ := twelve_cells h9
    clear HP T6 S6 SA S5 k6 k9 h9 a0 a1 a2 a3 a4 a5 a6 a7 a8 a9 a10 a11 f0 f1 f2 f3 f4 f5 f6 f7 f8 f9 f10 f11
    go_wp2_with fail
    exact bodyPost_ret (v := .tuple #[.agg #[.pointer (some ⟨p, 0, none⟩), .int .i64 l.k, .int .i64 l.e, .int .i64 l.a, .int .i64 l.b, .int .i64 l.c, .int .i64 l.eo, .int .i64 l.bo, .int .i64 l.s, .int .i64 l.g, .int .i64 (16 + l.g), .int .i64 (16 + 3 * l.g)], .bool true]) (by simp [results, Tryz.results6, go_sem, e0, e1, e2, e3, e4, e5, e6, e7, e8, e9, e10, e11]) rfl ⟨p, _, rfl, O9.out, HD.out⟩
  · have KK : Keeps W0 w1 (fun _ => False) := ((((Keeps.refl W0 (fun _ => False)).drew.trans kE (fun _ _ e => e)).alloc _).alloc _).trans kP (fun _ _ e => e)
    have hle : W0.heap.size ≤ wE.heap.size := hsE
    refine set9_any hbl.out KK hle (P := fun W => Exit.then _ _ _ _ W) fun WL hl KL => ?_
    clear hm1 hm2 hEl hP kE kP KK a0 a1 a2 a3 a4 a5 a6 a7 a8 f0 f1 f2 f3 f4 f5 f6 f7 f8 hbl hne hsE
    have hN := fun V => own_new (w := V) 32768 (by omega)
    go_wp2_with fail
    refine (hN _).mono ?_
    rintro r w2 ⟨p, rfl, O2⟩
    have K2 : Keeps W0 w2 (fun _ => False) := KL.trans O2.keeps (fun _ _ e => e)
    obtain ⟨x0, x1, x2, x3, x4, x5, x6, x7, x8, -⟩ := nine_cells (O2.keeps.blk hl)
    obtain ⟨hg1, hg2⟩ := hg
    have hg3 : ¬ l.g < 136 := by omega
    have v3 : IntKind.i64.wrap (3 * l.g) = 3 * l.g := by rw [IntKind.wrap_i64]; omega
    have v4 : IntKind.i64.wrap (16 + l.g) = 16 + l.g := by rw [IntKind.wrap_i64]; omega
    have v5 : IntKind.i64.wrap (16 + 3 * l.g) = 16 + 3 * l.g := by rw [IntKind.wrap_i64]; omega
    obtain ⟨g, hgg⟩ := Int.eq_ofNat_of_zero_le (show 0 ≤ l.g by omega)
    have hcs := class_small ⟨3 * g, by omega⟩
    have hcl := class_le (3 * g) (by omega) (by omega)
    simp only at hcs
    have hAl : Calls Tryz.prog 20 #[.pointer (some ⟨p, 0, none⟩), .int .i64 (3 * l.g)] w2 fun e w' => AllocPost w2 p (fun k => (WL.heap.size ≤ k ∧ ¬ False) ∧ k < w2.heap.size) 16 (dk (classN (3 * g))) e w' := by
      have := own_alloc O2 (AD.fresh_fine (by omega)) newOK (newG_fresh 32768) (3 * g) (by omega) (by omega) (by show 0 + _ ≤ 32768; omega)
      rw [show ((3 * g : Nat) : Int) = 3 * l.g by omega] at this
      exact this
    generalize classN (3 * g) = c at *
    have HC := hide (And.intro hgg (And.intro hcs hcl))
    have HO2 := hide O2
    have HL := hide hl
    have HR := hide (And.intro hr (And.intro K2 (And.intro KL K0)))
    clear hgg hcs hcl O2 hl hb hr K2 KL K0 C0 hbo
    go_wp2_with fail
    refine hAl.mono ?_
    rintro r w3 ⟨rfl, T3⟩
    have O3 := HO2.out.turn T3 (fun _ h => h.elim)
    have hFl : Calls Tryz.prog 21 #[.pointer (some ⟨p, 0, none⟩), .int .i64 16, .int .i64 (3 * l.g), .int .u8 165] w3 fun e w' => ErrPost w3 p (fun k => (WL.heap.size ≤ k ∧ ¬ False) ∧ k < w3.heap.size) 0 (dkF c g) e w' := by
      obtain ⟨hgg, hcs, hcl⟩ := HC.out
      have := own_fill O3 (dk_fine (c := c) (by omega) (by omega)) 16 (3 * l.g) 165 (fitsI_mk (by omega) (by omega)) (fitsI_mk (by omega) (by omega))
      have hf : fillR (dk c) 16 (3 * l.g) 165 = (0, dkF c g) := by
        unfold fillR
        rw [dk_good (by omega) (by omega) (by omega), show (3 * l.g).toNat = 3 * g by omega]
        rfl
      rw [hf] at this
      exact this
    obtain ⟨y0, y1, y2, y3, y4, y5, y6, y7, y8, -⟩ := nine_cells (O3.keeps.blk HL.out)
    have HO3 := hide O3
    clear x0 x1 x2 x3 x4 x5 x6 x7 x8 hAl T3 O3 HO2
    go_wp2_with fail
    refine hFl.mono ?_
    rintro r w4 ⟨rfl, T4⟩
    have O4 := HO3.out.turn T4 (fun _ h => h.elim)
    obtain ⟨z0, z1, z2, z3, z4, z5, z6, z7, z8, -⟩ := nine_cells (O4.keeps.blk HL.out)
    have HO4 := hide O4
    clear y0 y1 y2 y3 y4 y5 y6 y7 y8 hFl T4 O4 HO3
    go_wp2_with fail
    have hFn : ∀ k, k < WL.heap.size → ¬ ((WL.heap.size ≤ k ∧ ¬ False) ∧ k < w4.heap.size) := fun k hk q => by omega
    have hbl1 : wE.heap.size < WL.heap.size := heap_lt HL.out
    have hbl2 : w.heap.size + 1 < WL.heap.size := by
      have := HR.out.2.2.1.size
      omega
    refine alloc1 (P := fun W => Code.wp _ _ _ _ W) fun W5 h5 hz5 K5 => ?_
    have C5 : N9 (wE.heap.size) _ _ _ _ _ _ _ _ _ W5 ∧ N12 w4.heap.size _ _ _ _ _ _ _ _ _ _ _ _ W5 := ⟨n9_of (K5.blk (HO4.out.keeps.blk HL.out)), n12_of h5⟩
    have S5 := n21_keeps (Keeps.refl W5 (fun _ => False)).drew id id C5
    have hAt := fun V => at_any p l (16 + l.g) V
    have hRs : ∀ V, Keeps w4 V (fun _ => False) → Calls Tryz.prog 22 #[.agg #[.pointer (some ⟨p, 0, none⟩), .int .i64 l.k, .int .i64 l.e, .int .i64 l.a, .int .i64 l.b, .int .i64 l.c, .int .i64 l.eo, .int .i64 l.bo, .int .i64 l.s, .int .i64 l.g, .int .i64 (16 + l.g)]] V fun e w' => ErrPost V p (fun k => (WL.heap.size ≤ k ∧ ¬ False) ∧ k < w4.heap.size) 0 (resetG (dkF c g) l ((16 + g : Nat) : Int)).2 e w' := fun V kV => by
      obtain ⟨hgg, hcs, hcl⟩ := HC.out
      have hd := desk_data (c := c) (g := g) hval hgg (by omega) (by omega) (by omega)
      have hF : (dkF c g).Fine := (dk_fine (by omega) (by omega)).bytes (splice_length (by rw [same_length, dk_bs, zeros_length]; omega))
      have := greset_any (HO4.out.here.keeps kV (fun _ _ _ e => e)) hF (fun k hk => Nat.lt_of_lt_of_le hk.2 kV.size) l ((16 + g : Nat) : Int) (fitsI_mk (by omega) (by omega)) (fitsI_mk (by omega) (by omega))
      rw [hd.1, show ((16 + g : Nat) : Int) = 16 + l.g by omega] at this
      rw [show ((16 + g : Nat) : Int) = 16 + l.g by omega]
      exact this
    clear z0 z1 z2 z3 z4 z5 z6 z7 z8
    go_region_held3 (fun w' => (w'.cell? ⟨wE.heap.size, 0, none⟩ = some (.int .i64 l.k) ∧ w'.cell? ⟨wE.heap.size, 1, none⟩ = some (.int .i64 l.e) ∧ w'.cell? ⟨wE.heap.size, 2, none⟩ = some (.int .i64 l.a) ∧ w'.cell? ⟨wE.heap.size, 3, none⟩ = some (.int .i64 l.b) ∧ w'.cell? ⟨wE.heap.size, 4, none⟩ = some (.int .i64 l.c) ∧ w'.cell? ⟨wE.heap.size, 5, none⟩ = some (.int .i64 l.eo) ∧ w'.cell? ⟨wE.heap.size, 6, none⟩ = some (.int .i64 l.bo) ∧ w'.cell? ⟨wE.heap.size, 7, none⟩ = some (.int .i64 l.s) ∧ w'.cell? ⟨wE.heap.size, 8, none⟩ = some (.int .i64 l.g)) ∧ (w'.cell? ⟨w4.heap.size, 0, none⟩ = some (.pointer (some ⟨p, 0, none⟩)) ∧ w'.cell? ⟨w4.heap.size, 1, none⟩ = some (.int .i64 l.k) ∧ w'.cell? ⟨w4.heap.size, 2, none⟩ = some (.int .i64 l.e) ∧ w'.cell? ⟨w4.heap.size, 3, none⟩ = some (.int .i64 l.a) ∧ w'.cell? ⟨w4.heap.size, 4, none⟩ = some (.int .i64 l.b) ∧ w'.cell? ⟨w4.heap.size, 5, none⟩ = some (.int .i64 l.c) ∧ w'.cell? ⟨w4.heap.size, 6, none⟩ = some (.int .i64 l.eo) ∧ w'.cell? ⟨w4.heap.size, 7, none⟩ = some (.int .i64 l.bo) ∧ w'.cell? ⟨w4.heap.size, 8, none⟩ = some (.int .i64 l.s) ∧ w'.cell? ⟨w4.heap.size, 9, none⟩ = some (.int .i64 l.g) ∧ w'.cell? ⟨w4.heap.size, 10, none⟩ = some (.int .i64 (16 + l.g)) ∧ w'.cell? ⟨w4.heap.size, 11, none⟩ = some (.int .i64 (16 + 3 * l.g)))) (first | with_reducible assumption | with_reducible exact n21_keeps (set12_keeps _ _ _ _ _ _ _ _ _ _ _ _ _ _) hs1 hs2 S6) (first | (go_at_call 11; (with_reducible refine (hAt _).mono ?_); rintro r wA ⟨rfl, kA⟩; have K6 : Keeps w4 wA (fun _ => False) := (K5.drew).trans kA (fun _ _ e => e); have SA := n21_keeps kA id id S5) | (go_at_call 22; (with_reducible refine (hRs _ K6).mono ?_); rintro r w6 ⟨rfl, T6⟩; have k6 := T6.2; have hr6 := (T6.2.block (w.heap.size + 1) (by have := K6.size; have := HO4.out.keeps.size; omega) (hFn _ hbl2)).trans (K6.blk (HO4.out.keeps.blk (HR.out.2.2.1.blk HR.out.1))); obtain ⟨a0, a1, a2, a3, a4, a5, a6, a7, a8, a9, a10, a11, f0, f1, f2, f3, f4, f5, f6, f7, f8, f9, f10, f11⟩ := twelve_cells hr6; have hr1 := hFn _ hbl1; have hr2 : ¬ ((WL.heap.size ≤ w4.heap.size ∧ ¬ False) ∧ w4.heap.size < w4.heap.size) := (fun q => absurd q.2 (Nat.lt_irrefl _)); have hs1 : ¬ wE.heap.size = w.heap.size + 1 := (by omega); have hs2 : ¬ w4.heap.size = w.heap.size + 1 := (by have := HO4.out.keeps.size; omega); have S6 := n21_keeps k6 hr1 hr2 SA; replace hr6 := hide hr6))
    have HP : Hid (∀ W9, Keeps w6 W9 (fun i => i = w.heap.size + 1) → Own w W9 p (fun _ => False) (resetG (dkF c g) l ((16 + g : Nat) : Int)).2) := fun W9 k9 => by
      obtain ⟨-, -, qL, q0⟩ := HR.out
      have s4 := HO4.out.keeps.size
      have sA := K6.size
      refine ⟨(T6.1.keeps k9 (fun i _ hi e => ?_)).mono (fun i _ hi => ⟨?_, id⟩), ?_⟩
      · rcases hi with hi | hi
        · have := hi.1.1
          omega
        · omega
      · rcases hi with hi | hi
        · have := hi.1.1
          omega
        · omega
      · have a1 : Keeps w wA (fun _ => False) := ((q0.trans qL (fun _ _ e => e)).trans HO4.out.keeps (fun _ _ e => e)).trans K6 (fun _ _ e => e)
        have a2 : Keeps w w6 (fun _ => False) := a1.trans T6.2 (fun i hi e => by have := e.1.1; omega)
        exact a2.trans k9 (fun i hi e => by omega)
    have HD : Hid (DeskD (resetG (dkF c g) l ((16 + g : Nat) : Int)).2 l (16 + l.g.toNat) (fun _ => GC.zero)) := by
      obtain ⟨hgg, hcs, hcl⟩ := HC.out
      have hd := desk_data (c := c) (g := g) hval hgg (by omega) (by omega) (by omega)
      rw [show l.g.toNat = g by omega]
      exact hd.2
    refine set12_any hr6.out (P := fun W => Exit.then _ _ _ _ W) fun W9 h9 k9 => ?_
    have O9 := hide (HP.out W9 k9)
    obtain ⟨e0, e1, e2, e3, e4, e5, e6, e7, e8, e9, e10, e11, -⟩ := twelve_cells h9
    clear HP T6 S6 SA S5 k6 k9 h9 a0 a1 a2 a3 a4 a5 a6 a7 a8 a9 a10 a11 f0 f1 f2 f3 f4 f5 f6 f7 f8 f9 f10 f11
    go_wp2_with fail
    exact bodyPost_ret (v := .tuple #[.agg #[.pointer (some ⟨p, 0, none⟩), .int .i64 l.k, .int .i64 l.e, .int .i64 l.a, .int .i64 l.b, .int .i64 l.c, .int .i64 l.eo, .int .i64 l.bo, .int .i64 l.s, .int .i64 l.g, .int .i64 (16 + l.g), .int .i64 (16 + 3 * l.g)], .bool true]) (by simp [results, Tryz.results6, go_sem, e0, e1, e2, e3, e4, e5, e6, e7, e8, e9, e10, e11]) rfl ⟨p, _, rfl, O9.out, HD.out⟩
  · have KK : Keeps W0 w1 (fun _ => False) := ((((Keeps.refl W0 (fun _ => False)).alloc _).drew.trans kE (fun _ _ e => e)).alloc _).trans kP (fun _ _ e => e)
    have hle : W0.heap.size ≤ w.heap.size + 2 := (by omega)
    refine set9_any hbl KK hle (P := fun W => Exit.then _ _ _ _ W) fun WL hl KL => ?_
    clear hm1 hm2 hEl hP kE kP KK a0 a1 a2 a3 a4 a5 a6 a7 a8 f0 f1 f2 f3 f4 f5 f6 f7 f8 hbl hne hq
    have hN := fun V => own_new (w := V) 32768 (by omega)
    go_wp2_with fail
    refine (hN _).mono ?_
    rintro r w2 ⟨p, rfl, O2⟩
    have K2 : Keeps W0 w2 (fun _ => False) := KL.trans O2.keeps (fun _ _ e => e)
    obtain ⟨x0, x1, x2, x3, x4, x5, x6, x7, x8, -⟩ := nine_cells (O2.keeps.blk hl)
    obtain ⟨hg1, hg2⟩ := hg
    have hg3 : ¬ l.g < 136 := by omega
    have v3 : IntKind.i64.wrap (3 * l.g) = 3 * l.g := by rw [IntKind.wrap_i64]; omega
    have v4 : IntKind.i64.wrap (16 + l.g) = 16 + l.g := by rw [IntKind.wrap_i64]; omega
    have v5 : IntKind.i64.wrap (16 + 3 * l.g) = 16 + 3 * l.g := by rw [IntKind.wrap_i64]; omega
    obtain ⟨g, hgg⟩ := Int.eq_ofNat_of_zero_le (show 0 ≤ l.g by omega)
    have hcs := class_small ⟨3 * g, by omega⟩
    have hcl := class_le (3 * g) (by omega) (by omega)
    simp only at hcs
    have hAl : Calls Tryz.prog 20 #[.pointer (some ⟨p, 0, none⟩), .int .i64 (3 * l.g)] w2 fun e w' => AllocPost w2 p (fun k => (WL.heap.size ≤ k ∧ ¬ False) ∧ k < w2.heap.size) 16 (dk (classN (3 * g))) e w' := by
      have := own_alloc O2 (AD.fresh_fine (by omega)) newOK (newG_fresh 32768) (3 * g) (by omega) (by omega) (by show 0 + _ ≤ 32768; omega)
      rw [show ((3 * g : Nat) : Int) = 3 * l.g by omega] at this
      exact this
    generalize classN (3 * g) = c at *
    have HC := hide (And.intro hgg (And.intro hcs hcl))
    have HO2 := hide O2
    have HL := hide hl
    have HR := hide (And.intro hr (And.intro K2 (And.intro KL K0)))
    clear hgg hcs hcl O2 hl hb hr K2 KL K0 C0 hbo
    go_wp2_with fail
    refine hAl.mono ?_
    rintro r w3 ⟨rfl, T3⟩
    have O3 := HO2.out.turn T3 (fun _ h => h.elim)
    have hFl : Calls Tryz.prog 21 #[.pointer (some ⟨p, 0, none⟩), .int .i64 16, .int .i64 (3 * l.g), .int .u8 165] w3 fun e w' => ErrPost w3 p (fun k => (WL.heap.size ≤ k ∧ ¬ False) ∧ k < w3.heap.size) 0 (dkF c g) e w' := by
      obtain ⟨hgg, hcs, hcl⟩ := HC.out
      have := own_fill O3 (dk_fine (c := c) (by omega) (by omega)) 16 (3 * l.g) 165 (fitsI_mk (by omega) (by omega)) (fitsI_mk (by omega) (by omega))
      have hf : fillR (dk c) 16 (3 * l.g) 165 = (0, dkF c g) := by
        unfold fillR
        rw [dk_good (by omega) (by omega) (by omega), show (3 * l.g).toNat = 3 * g by omega]
        rfl
      rw [hf] at this
      exact this
    obtain ⟨y0, y1, y2, y3, y4, y5, y6, y7, y8, -⟩ := nine_cells (O3.keeps.blk HL.out)
    have HO3 := hide O3
    clear x0 x1 x2 x3 x4 x5 x6 x7 x8 hAl T3 O3 HO2
    go_wp2_with fail
    refine hFl.mono ?_
    rintro r w4 ⟨rfl, T4⟩
    have O4 := HO3.out.turn T4 (fun _ h => h.elim)
    obtain ⟨z0, z1, z2, z3, z4, z5, z6, z7, z8, -⟩ := nine_cells (O4.keeps.blk HL.out)
    have HO4 := hide O4
    clear y0 y1 y2 y3 y4 y5 y6 y7 y8 hFl T4 O4 HO3
    go_wp2_with fail
    have hFn : ∀ k, k < WL.heap.size → ¬ ((WL.heap.size ≤ k ∧ ¬ False) ∧ k < w4.heap.size) := fun k hk q => by omega
    have hbl1 : w.heap.size + 2 < WL.heap.size := heap_lt HL.out
    have hbl2 : w.heap.size + 1 < WL.heap.size := by
      have := HR.out.2.2.1.size
      omega
    refine alloc1 (P := fun W => Code.wp _ _ _ _ W) fun W5 h5 hz5 K5 => ?_
    have C5 : N9 (w.heap.size + 2) _ _ _ _ _ _ _ _ _ W5 ∧ N12 w4.heap.size _ _ _ _ _ _ _ _ _ _ _ _ W5 := ⟨n9_of (K5.blk (HO4.out.keeps.blk HL.out)), n12_of h5⟩
    have S5 := n21_keeps (Keeps.refl W5 (fun _ => False)).drew id id C5
    have hAt := fun V => at_any p l (16 + l.g) V
    have hRs : ∀ V, Keeps w4 V (fun _ => False) → Calls Tryz.prog 22 #[.agg #[.pointer (some ⟨p, 0, none⟩), .int .i64 l.k, .int .i64 l.e, .int .i64 l.a, .int .i64 l.b, .int .i64 l.c, .int .i64 l.eo, .int .i64 l.bo, .int .i64 l.s, .int .i64 l.g, .int .i64 (16 + l.g)]] V fun e w' => ErrPost V p (fun k => (WL.heap.size ≤ k ∧ ¬ False) ∧ k < w4.heap.size) 0 (resetG (dkF c g) l ((16 + g : Nat) : Int)).2 e w' := fun V kV => by
      obtain ⟨hgg, hcs, hcl⟩ := HC.out
      have hd := desk_data (c := c) (g := g) hval hgg (by omega) (by omega) (by omega)
      have hF : (dkF c g).Fine := (dk_fine (by omega) (by omega)).bytes (splice_length (by rw [same_length, dk_bs, zeros_length]; omega))
      have := greset_any (HO4.out.here.keeps kV (fun _ _ _ e => e)) hF (fun k hk => Nat.lt_of_lt_of_le hk.2 kV.size) l ((16 + g : Nat) : Int) (fitsI_mk (by omega) (by omega)) (fitsI_mk (by omega) (by omega))
      rw [hd.1, show ((16 + g : Nat) : Int) = 16 + l.g by omega] at this
      rw [show ((16 + g : Nat) : Int) = 16 + l.g by omega]
      exact this
    clear z0 z1 z2 z3 z4 z5 z6 z7 z8
    go_region_held3 (fun w' => (w'.cell? ⟨w.heap.size + 2, 0, none⟩ = some (.int .i64 l.k) ∧ w'.cell? ⟨w.heap.size + 2, 1, none⟩ = some (.int .i64 l.e) ∧ w'.cell? ⟨w.heap.size + 2, 2, none⟩ = some (.int .i64 l.a) ∧ w'.cell? ⟨w.heap.size + 2, 3, none⟩ = some (.int .i64 l.b) ∧ w'.cell? ⟨w.heap.size + 2, 4, none⟩ = some (.int .i64 l.c) ∧ w'.cell? ⟨w.heap.size + 2, 5, none⟩ = some (.int .i64 l.eo) ∧ w'.cell? ⟨w.heap.size + 2, 6, none⟩ = some (.int .i64 l.bo) ∧ w'.cell? ⟨w.heap.size + 2, 7, none⟩ = some (.int .i64 l.s) ∧ w'.cell? ⟨w.heap.size + 2, 8, none⟩ = some (.int .i64 l.g)) ∧ (w'.cell? ⟨w4.heap.size, 0, none⟩ = some (.pointer (some ⟨p, 0, none⟩)) ∧ w'.cell? ⟨w4.heap.size, 1, none⟩ = some (.int .i64 l.k) ∧ w'.cell? ⟨w4.heap.size, 2, none⟩ = some (.int .i64 l.e) ∧ w'.cell? ⟨w4.heap.size, 3, none⟩ = some (.int .i64 l.a) ∧ w'.cell? ⟨w4.heap.size, 4, none⟩ = some (.int .i64 l.b) ∧ w'.cell? ⟨w4.heap.size, 5, none⟩ = some (.int .i64 l.c) ∧ w'.cell? ⟨w4.heap.size, 6, none⟩ = some (.int .i64 l.eo) ∧ w'.cell? ⟨w4.heap.size, 7, none⟩ = some (.int .i64 l.bo) ∧ w'.cell? ⟨w4.heap.size, 8, none⟩ = some (.int .i64 l.s) ∧ w'.cell? ⟨w4.heap.size, 9, none⟩ = some (.int .i64 l.g) ∧ w'.cell? ⟨w4.heap.size, 10, none⟩ = some (.int .i64 (16 + l.g)) ∧ w'.cell? ⟨w4.heap.size, 11, none⟩ = some (.int .i64 (16 + 3 * l.g)))) (first | with_reducible assumption | with_reducible exact n21_keeps (set12_keeps _ _ _ _ _ _ _ _ _ _ _ _ _ _) hs1 hs2 S6) (first | (go_at_call 11; (with_reducible refine (hAt _).mono ?_); rintro r wA ⟨rfl, kA⟩; have K6 : Keeps w4 wA (fun _ => False) := (K5.drew).trans kA (fun _ _ e => e); have SA := n21_keeps kA id id S5) | (go_at_call 22; (with_reducible refine (hRs _ K6).mono ?_); rintro r w6 ⟨rfl, T6⟩; have k6 := T6.2; have hr6 := (T6.2.block (w.heap.size + 1) (by have := K6.size; have := HO4.out.keeps.size; omega) (hFn _ hbl2)).trans (K6.blk (HO4.out.keeps.blk (HR.out.2.2.1.blk HR.out.1))); obtain ⟨a0, a1, a2, a3, a4, a5, a6, a7, a8, a9, a10, a11, f0, f1, f2, f3, f4, f5, f6, f7, f8, f9, f10, f11⟩ := twelve_cells hr6; have hr1 := hFn _ hbl1; have hr2 : ¬ ((WL.heap.size ≤ w4.heap.size ∧ ¬ False) ∧ w4.heap.size < w4.heap.size) := (fun q => absurd q.2 (Nat.lt_irrefl _)); have hs1 : ¬ w.heap.size + 2 = w.heap.size + 1 := (by omega); have hs2 : ¬ w4.heap.size = w.heap.size + 1 := (by have := HO4.out.keeps.size; omega); have S6 := n21_keeps k6 hr1 hr2 SA; replace hr6 := hide hr6))
    have HP : Hid (∀ W9, Keeps w6 W9 (fun i => i = w.heap.size + 1) → Own w W9 p (fun _ => False) (resetG (dkF c g) l ((16 + g : Nat) : Int)).2) := fun W9 k9 => by
      obtain ⟨-, -, qL, q0⟩ := HR.out
      have s4 := HO4.out.keeps.size
      have sA := K6.size
      refine ⟨(T6.1.keeps k9 (fun i _ hi e => ?_)).mono (fun i _ hi => ⟨?_, id⟩), ?_⟩
      · rcases hi with hi | hi
        · have := hi.1.1
          omega
        · omega
      · rcases hi with hi | hi
        · have := hi.1.1
          omega
        · omega
      · have a1 : Keeps w wA (fun _ => False) := ((q0.trans qL (fun _ _ e => e)).trans HO4.out.keeps (fun _ _ e => e)).trans K6 (fun _ _ e => e)
        have a2 : Keeps w w6 (fun _ => False) := a1.trans T6.2 (fun i hi e => by have := e.1.1; omega)
        exact a2.trans k9 (fun i hi e => by omega)
    have HD : Hid (DeskD (resetG (dkF c g) l ((16 + g : Nat) : Int)).2 l (16 + l.g.toNat) (fun _ => GC.zero)) := by
      obtain ⟨hgg, hcs, hcl⟩ := HC.out
      have hd := desk_data (c := c) (g := g) hval hgg (by omega) (by omega) (by omega)
      rw [show l.g.toNat = g by omega]
      exact hd.2
    refine set12_any hr6.out (P := fun W => Exit.then _ _ _ _ W) fun W9 h9 k9 => ?_
    have O9 := hide (HP.out W9 k9)
    obtain ⟨e0, e1, e2, e3, e4, e5, e6, e7, e8, e9, e10, e11, -⟩ := twelve_cells h9
    clear HP T6 S6 SA S5 k6 k9 h9 a0 a1 a2 a3 a4 a5 a6 a7 a8 a9 a10 a11 f0 f1 f2 f3 f4 f5 f6 f7 f8 f9 f10 f11
    go_wp2_with fail
    exact bodyPost_ret (v := .tuple #[.agg #[.pointer (some ⟨p, 0, none⟩), .int .i64 l.k, .int .i64 l.e, .int .i64 l.a, .int .i64 l.b, .int .i64 l.c, .int .i64 l.eo, .int .i64 l.bo, .int .i64 l.s, .int .i64 l.g, .int .i64 (16 + l.g), .int .i64 (16 + 3 * l.g)], .bool true]) (by simp [results, Tryz.results6, go_sem, e0, e1, e2, e3, e4, e5, e6, e7, e8, e9, e10, e11]) rfl ⟨p, _, rfl, O9.out, HD.out⟩
  · have KK : Keeps W0 w1 (fun _ => False) := ((((Keeps.refl W0 (fun _ => False)).alloc _).drew.trans kE (fun _ _ e => e)).alloc _).trans kP (fun _ _ e => e)
    have hle : W0.heap.size ≤ w.heap.size + 2 := (by omega)
    refine set9_any hbl KK hle (P := fun W => Exit.then _ _ _ _ W) fun WL hl KL => ?_
    clear hm1 hm2 hEl hP kE kP KK a0 a1 a2 a3 a4 a5 a6 a7 a8 f0 f1 f2 f3 f4 f5 f6 f7 f8 hbl hne hq
    have hN := fun V => own_new (w := V) 32768 (by omega)
    go_wp2_with fail
    refine (hN _).mono ?_
    rintro r w2 ⟨p, rfl, O2⟩
    have K2 : Keeps W0 w2 (fun _ => False) := KL.trans O2.keeps (fun _ _ e => e)
    obtain ⟨x0, x1, x2, x3, x4, x5, x6, x7, x8, -⟩ := nine_cells (O2.keeps.blk hl)
    obtain ⟨hg1, hg2⟩ := hg
    have hg3 : ¬ l.g < 136 := by omega
    have v3 : IntKind.i64.wrap (3 * l.g) = 3 * l.g := by rw [IntKind.wrap_i64]; omega
    have v4 : IntKind.i64.wrap (16 + l.g) = 16 + l.g := by rw [IntKind.wrap_i64]; omega
    have v5 : IntKind.i64.wrap (16 + 3 * l.g) = 16 + 3 * l.g := by rw [IntKind.wrap_i64]; omega
    obtain ⟨g, hgg⟩ := Int.eq_ofNat_of_zero_le (show 0 ≤ l.g by omega)
    have hcs := class_small ⟨3 * g, by omega⟩
    have hcl := class_le (3 * g) (by omega) (by omega)
    simp only at hcs
    have hAl : Calls Tryz.prog 20 #[.pointer (some ⟨p, 0, none⟩), .int .i64 (3 * l.g)] w2 fun e w' => AllocPost w2 p (fun k => (WL.heap.size ≤ k ∧ ¬ False) ∧ k < w2.heap.size) 16 (dk (classN (3 * g))) e w' := by
      have := own_alloc O2 (AD.fresh_fine (by omega)) newOK (newG_fresh 32768) (3 * g) (by omega) (by omega) (by show 0 + _ ≤ 32768; omega)
      rw [show ((3 * g : Nat) : Int) = 3 * l.g by omega] at this
      exact this
    generalize classN (3 * g) = c at *
    have HC := hide (And.intro hgg (And.intro hcs hcl))
    have HO2 := hide O2
    have HL := hide hl
    have HR := hide (And.intro hr (And.intro K2 (And.intro KL K0)))
    clear hgg hcs hcl O2 hl hb hr K2 KL K0 C0 hbo
    go_wp2_with fail
    refine hAl.mono ?_
    rintro r w3 ⟨rfl, T3⟩
    have O3 := HO2.out.turn T3 (fun _ h => h.elim)
    have hFl : Calls Tryz.prog 21 #[.pointer (some ⟨p, 0, none⟩), .int .i64 16, .int .i64 (3 * l.g), .int .u8 165] w3 fun e w' => ErrPost w3 p (fun k => (WL.heap.size ≤ k ∧ ¬ False) ∧ k < w3.heap.size) 0 (dkF c g) e w' := by
      obtain ⟨hgg, hcs, hcl⟩ := HC.out
      have := own_fill O3 (dk_fine (c := c) (by omega) (by omega)) 16 (3 * l.g) 165 (fitsI_mk (by omega) (by omega)) (fitsI_mk (by omega) (by omega))
      have hf : fillR (dk c) 16 (3 * l.g) 165 = (0, dkF c g) := by
        unfold fillR
        rw [dk_good (by omega) (by omega) (by omega), show (3 * l.g).toNat = 3 * g by omega]
        rfl
      rw [hf] at this
      exact this
    obtain ⟨y0, y1, y2, y3, y4, y5, y6, y7, y8, -⟩ := nine_cells (O3.keeps.blk HL.out)
    have HO3 := hide O3
    clear x0 x1 x2 x3 x4 x5 x6 x7 x8 hAl T3 O3 HO2
    go_wp2_with fail
    refine hFl.mono ?_
    rintro r w4 ⟨rfl, T4⟩
    have O4 := HO3.out.turn T4 (fun _ h => h.elim)
    obtain ⟨z0, z1, z2, z3, z4, z5, z6, z7, z8, -⟩ := nine_cells (O4.keeps.blk HL.out)
    have HO4 := hide O4
    clear y0 y1 y2 y3 y4 y5 y6 y7 y8 hFl T4 O4 HO3
    go_wp2_with fail
    have hFn : ∀ k, k < WL.heap.size → ¬ ((WL.heap.size ≤ k ∧ ¬ False) ∧ k < w4.heap.size) := fun k hk q => by omega
    have hbl1 : w.heap.size + 2 < WL.heap.size := heap_lt HL.out
    have hbl2 : w.heap.size + 1 < WL.heap.size := by
      have := HR.out.2.2.1.size
      omega
    refine alloc1 (P := fun W => Code.wp _ _ _ _ W) fun W5 h5 hz5 K5 => ?_
    have C5 : N9 (w.heap.size + 2) _ _ _ _ _ _ _ _ _ W5 ∧ N12 w4.heap.size _ _ _ _ _ _ _ _ _ _ _ _ W5 := ⟨n9_of (K5.blk (HO4.out.keeps.blk HL.out)), n12_of h5⟩
    have S5 := n21_keeps (Keeps.refl W5 (fun _ => False)).drew id id C5
    have hAt := fun V => at_any p l (16 + l.g) V
    have hRs : ∀ V, Keeps w4 V (fun _ => False) → Calls Tryz.prog 22 #[.agg #[.pointer (some ⟨p, 0, none⟩), .int .i64 l.k, .int .i64 l.e, .int .i64 l.a, .int .i64 l.b, .int .i64 l.c, .int .i64 l.eo, .int .i64 l.bo, .int .i64 l.s, .int .i64 l.g, .int .i64 (16 + l.g)]] V fun e w' => ErrPost V p (fun k => (WL.heap.size ≤ k ∧ ¬ False) ∧ k < w4.heap.size) 0 (resetG (dkF c g) l ((16 + g : Nat) : Int)).2 e w' := fun V kV => by
      obtain ⟨hgg, hcs, hcl⟩ := HC.out
      have hd := desk_data (c := c) (g := g) hval hgg (by omega) (by omega) (by omega)
      have hF : (dkF c g).Fine := (dk_fine (by omega) (by omega)).bytes (splice_length (by rw [same_length, dk_bs, zeros_length]; omega))
      have := greset_any (HO4.out.here.keeps kV (fun _ _ _ e => e)) hF (fun k hk => Nat.lt_of_lt_of_le hk.2 kV.size) l ((16 + g : Nat) : Int) (fitsI_mk (by omega) (by omega)) (fitsI_mk (by omega) (by omega))
      rw [hd.1, show ((16 + g : Nat) : Int) = 16 + l.g by omega] at this
      rw [show ((16 + g : Nat) : Int) = 16 + l.g by omega]
      exact this
    clear z0 z1 z2 z3 z4 z5 z6 z7 z8
    go_region_held3 (fun w' => (w'.cell? ⟨w.heap.size + 2, 0, none⟩ = some (.int .i64 l.k) ∧ w'.cell? ⟨w.heap.size + 2, 1, none⟩ = some (.int .i64 l.e) ∧ w'.cell? ⟨w.heap.size + 2, 2, none⟩ = some (.int .i64 l.a) ∧ w'.cell? ⟨w.heap.size + 2, 3, none⟩ = some (.int .i64 l.b) ∧ w'.cell? ⟨w.heap.size + 2, 4, none⟩ = some (.int .i64 l.c) ∧ w'.cell? ⟨w.heap.size + 2, 5, none⟩ = some (.int .i64 l.eo) ∧ w'.cell? ⟨w.heap.size + 2, 6, none⟩ = some (.int .i64 l.bo) ∧ w'.cell? ⟨w.heap.size + 2, 7, none⟩ = some (.int .i64 l.s) ∧ w'.cell? ⟨w.heap.size + 2, 8, none⟩ = some (.int .i64 l.g)) ∧ (w'.cell? ⟨w4.heap.size, 0, none⟩ = some (.pointer (some ⟨p, 0, none⟩)) ∧ w'.cell? ⟨w4.heap.size, 1, none⟩ = some (.int .i64 l.k) ∧ w'.cell? ⟨w4.heap.size, 2, none⟩ = some (.int .i64 l.e) ∧ w'.cell? ⟨w4.heap.size, 3, none⟩ = some (.int .i64 l.a) ∧ w'.cell? ⟨w4.heap.size, 4, none⟩ = some (.int .i64 l.b) ∧ w'.cell? ⟨w4.heap.size, 5, none⟩ = some (.int .i64 l.c) ∧ w'.cell? ⟨w4.heap.size, 6, none⟩ = some (.int .i64 l.eo) ∧ w'.cell? ⟨w4.heap.size, 7, none⟩ = some (.int .i64 l.bo) ∧ w'.cell? ⟨w4.heap.size, 8, none⟩ = some (.int .i64 l.s) ∧ w'.cell? ⟨w4.heap.size, 9, none⟩ = some (.int .i64 l.g) ∧ w'.cell? ⟨w4.heap.size, 10, none⟩ = some (.int .i64 (16 + l.g)) ∧ w'.cell? ⟨w4.heap.size, 11, none⟩ = some (.int .i64 (16 + 3 * l.g)))) (first | with_reducible assumption | with_reducible exact n21_keeps (set12_keeps _ _ _ _ _ _ _ _ _ _ _ _ _ _) hs1 hs2 S6) (first | (go_at_call 11; (with_reducible refine (hAt _).mono ?_); rintro r wA ⟨rfl, kA⟩; have K6 : Keeps w4 wA (fun _ => False) := (K5.drew).trans kA (fun _ _ e => e); have SA := n21_keeps kA id id S5) | (go_at_call 22; (with_reducible refine (hRs _ K6).mono ?_); rintro r w6 ⟨rfl, T6⟩; have k6 := T6.2; have hr6 := (T6.2.block (w.heap.size + 1) (by have := K6.size; have := HO4.out.keeps.size; omega) (hFn _ hbl2)).trans (K6.blk (HO4.out.keeps.blk (HR.out.2.2.1.blk HR.out.1))); obtain ⟨a0, a1, a2, a3, a4, a5, a6, a7, a8, a9, a10, a11, f0, f1, f2, f3, f4, f5, f6, f7, f8, f9, f10, f11⟩ := twelve_cells hr6; have hr1 := hFn _ hbl1; have hr2 : ¬ ((WL.heap.size ≤ w4.heap.size ∧ ¬ False) ∧ w4.heap.size < w4.heap.size) := (fun q => absurd q.2 (Nat.lt_irrefl _)); have hs1 : ¬ w.heap.size + 2 = w.heap.size + 1 := (by omega); have hs2 : ¬ w4.heap.size = w.heap.size + 1 := (by have := HO4.out.keeps.size; omega); have S6 := n21_keeps k6 hr1 hr2 SA; replace hr6 := hide hr6))
    have HP : Hid (∀ W9, Keeps w6 W9 (fun i => i = w.heap.size + 1) → Own w W9 p (fun _ => False) (resetG (dkF c g) l ((16 + g : Nat) : Int)).2) := fun W9 k9 => by
      obtain ⟨-, -, qL, q0⟩ := HR.out
      have s4 := HO4.out.keeps.size
      have sA := K6.size
      refine ⟨(T6.1.keeps k9 (fun i _ hi e => ?_)).mono (fun i _ hi => ⟨?_, id⟩), ?_⟩
      · rcases hi with hi | hi
        · have := hi.1.1
          omega
        · omega
      · rcases hi with hi | hi
        · have := hi.1.1
          omega
        · omega
      · have a1 : Keeps w wA (fun _ => False) := ((q0.trans qL (fun _ _ e => e)).trans HO4.out.keeps (fun _ _ e => e)).trans K6 (fun _ _ e => e)
        have a2 : Keeps w w6 (fun _ => False) := a1.trans T6.2 (fun i hi e => by have := e.1.1; omega)
        exact a2.trans k9 (fun i hi e => by omega)
    have HD : Hid (DeskD (resetG (dkF c g) l ((16 + g : Nat) : Int)).2 l (16 + l.g.toNat) (fun _ => GC.zero)) := by
      obtain ⟨hgg, hcs, hcl⟩ := HC.out
      have hd := desk_data (c := c) (g := g) hval hgg (by omega) (by omega) (by omega)
      rw [show l.g.toNat = g by omega]
      exact hd.2
    refine set12_any hr6.out (P := fun W => Exit.then _ _ _ _ W) fun W9 h9 k9 => ?_
    have O9 := hide (HP.out W9 k9)
    obtain ⟨e0, e1, e2, e3, e4, e5, e6, e7, e8, e9, e10, e11, -⟩ := twelve_cells h9
    clear HP T6 S6 SA S5 k6 k9 h9 a0 a1 a2 a3 a4 a5 a6 a7 a8 a9 a10 a11 f0 f1 f2 f3 f4 f5 f6 f7 f8 f9 f10 f11
    go_wp2_with fail
    exact bodyPost_ret (v := .tuple #[.agg #[.pointer (some ⟨p, 0, none⟩), .int .i64 l.k, .int .i64 l.e, .int .i64 l.a, .int .i64 l.b, .int .i64 l.c, .int .i64 l.eo, .int .i64 l.bo, .int .i64 l.s, .int .i64 l.g, .int .i64 (16 + l.g), .int .i64 (16 + 3 * l.g)], .bool true]) (by simp [results, Tryz.results6, go_sem, e0, e1, e2, e3, e4, e5, e6, e7, e8, e9, e10, e11]) rfl ⟨p, _, rfl, O9.out, HD.out⟩
end Go.Proofs.YtdnkjbbpfhegdaaGreat
