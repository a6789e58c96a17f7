import Derived.Shelf.Strings.Builder1
import Derived.Shelf.Strings.Builder2
import Derived.Shelf.Strings.OnBuilder
import Derived.Shelf.Strings.BuilderF
import Derived.Shelf.Strconv.Itoa0
import Derived.Shelf.Sort.Plain
import Derived.Shelf.Strings.Prefix
import Derived.Shelf.Bits.Mul64
import Derived.Shelf.Strings.Repeat
import Derived.Shelf.Slices.In.SortNone
import Derived.Test.YtgckinldnnckoaaGreatDoorProg
import Derived.Test.YtgckinldnnckoaaGreatDoorPn7
/-
  The calls of group that read.
-/
namespace Go.Proofs.YtgckinldnnckoaaGreatDoor
open Go.RowKit Go.Shelf Ly Ct
set_option linter.unusedVariables false

theorem Turned.pre {w w0 w' : World} {p : Nat} {F : Nat → Prop} {d : AD} (k : Keeps w w0 (fun _ => False)) (h : Turned w0 w' p F d) : Turned w w' p F d :=
  ⟨h.1.mono (fun i _ hi => hi.elim Or.inl (fun q => Or.inr (Nat.le_trans k.size q))), (k.mono (fun _ _ e => e.elim)).trans h.2 (fun _ _ e => e)⟩
theorem Turned.post {w w1 w2 : World} {p : Nat} {F : Nat → Prop} {d : AD} (h : Turned w w1 p F d) (k : Keeps w1 w2 (fun _ => False)) : Turned w w2 p F d :=
  ⟨h.1.keeps k (fun _ _ _ e => e), h.2.trans k (fun _ _ e => e.elim)⟩
theorem Turned.then {w0 w1 w2 : World} {p : Nat} {F : Nat → Prop} {d1 d2 : AD} (h1 : Turned w0 w1 p F d1) (h2 : Turned w1 w2 p (fun k => (F k ∨ w0.heap.size ≤ k) ∧ k < w1.heap.size) d2) : Turned w0 w2 p F d2 := by
  refine ⟨h2.1.mono (fun i _ hi => ?_), h1.2.trans h2.2 (fun i hi e => ?_)⟩
  · rcases hi with hi | hi
    · exact hi.1
    · exact Or.inr (Nat.le_trans h1.2.size hi)
  · rcases e.1 with q | q
    · exact q
    · exact absurd q (Nat.not_le_of_lt hi)
theorem Turned.arena {w0 w1 : World} {p : Nat} {F : Nat → Prop} {d1 : AD} (h1 : Turned w0 w1 p F d1) : Arena w1 p (fun k => (F k ∨ w0.heap.size ≤ k) ∧ k < w1.heap.size) d1 := h1.1.mono (fun i hi q => ⟨q, hi⟩)

/-- A group that is there: its numbers. -/
theorem there_more {d : AD} {l : Lay} {off : Int} (hF : d.Fine) (h : thereB d l off = true) : validB l = true ∧ d.goodB off l.g = true ∧ 16 ≤ off ∧ off + l.g ≤ 134217728 ∧ off + l.g ≤ d.bs.length := by
  unfold thereB at h
  rw [Bool.and_eq_true] at h
  obtain ⟨o, n, e1, e2, h1, h2⟩ := hF.span h.2
  have := hF.most
  exact ⟨h.1, h.2, by omega, by omega, by omega⟩

set_option maxHeartbeats 2000000 in
theorem word_any {w : World} {p : Nat} {F : Nat → Prop} {d : AD} (hA : Arena w p F d) (hF : d.Fine) (l : Lay) (off : Int) (ho : fitsI off) (hn : fitsI l.g) :
    Calls Tryz.prog 80 #[.agg #[.pointer (some ⟨p, 0, none⟩), .int .i64 l.k, .int .i64 l.e, .int .i64 l.a, .int .i64 l.b, .int .i64 l.c, .int .i64 l.eo, .int .i64 l.bo, .int .i64 l.s, .int .i64 l.g, .int .i64 off]] w fun e w' => e = .returned (.tuple #[.int .u64 (wordV d l off).1, .int .i64 (wordV d l off).2]) ∧ Keeps w w' (fun _ => False) := by
  obtain ⟨c, hc, hfo⟩ := hA.at
  have hT := fun W (k : Keeps w W (fun _ => False)) => there_any (hA.keeps k (fun _ _ _ e => e)) hF l off ho hn
  have hL := fun W (k : Keeps w W (fun _ => False)) => aload_any (hc.keeps k (fun _ _ e => e)) hF off 8 ho (fitsI_mk (by omega) (by omega))
  unfold wordV
  cases ht : thereB d l off
  · simp only [ht] at hT
    clear hL
    go_enter Tryz.func80, Tryz.ntmps80
    go_wp2_with fail
    refine (hT _ ((Keeps.refl w (fun _ => False)).alloc _)).mono ?_
    rintro r w1 ⟨rfl, k1⟩
    have K1 : Keeps w w1 (fun _ => False) := ((Keeps.refl w (fun _ => False)).alloc _).trans k1 (fun _ _ e => e)
    clear hT k1
    go_wp2_with fail
    exact bodyPost_ret (v := .tuple #[.int .u64 0, .int .i64 24]) (by simp [results, Tryz.results80, go_sem]) rfl ⟨rfl, K1⟩
  · simp only [ht] at hT
    obtain ⟨hv, hg, _⟩ := there_more hF ht
    have hvm := valid_more hv
    have hg8 : d.goodB off 8 = true := by
      have := good_sub hg (x := 0) (m := 8) (by omega) (by omega) (by omega)
      rw [Int.add_zero] at this
      exact this
    have hx : loadV d off 8 = (((wordN d off : Nat) : Int), 0) := by
      unfold loadV
      rw [hg8]
      rfl
    simp only [hx] at hL
    generalize wordN d off = W at *
    clear hvm hx hg8 hg hv
    simp only [if_true]
    go_enter Tryz.func80, Tryz.ntmps80
    go_wp2_with fail
    refine (hT _ ((Keeps.refl w (fun _ => False)).alloc _)).mono ?_
    rintro r w1 ⟨rfl, k1⟩
    have hb := k1.block w.heap.size (by simp) id
    rw [heap_alloc_new] at hb
    obtain ⟨c0, c1, c2, c3, c4, c5, c6, c7, c8, c9, c10⟩ := grp_cells hb
    have K1 : Keeps w w1 (fun _ => False) := ((Keeps.refl w (fun _ => False)).alloc _).trans k1 (fun _ _ e => e)
    replace hL := hL w1 K1
    clear hT k1 hb c1 c2 c3 c4 c5 c6 c7 c8 c9
    go_wp2_with fail
    refine hL.mono ?_
    rintro r w2 ⟨rfl, k2⟩
    go_wp2_with fail
    exact bodyPost_ret (v := .tuple #[.int .u64 (W : Int), .int .i64 0]) (by simp [results, Tryz.results80, go_sem]) rfl ⟨rfl, K1.trans k2 (fun _ _ e => e)⟩

set_option maxHeartbeats 2000000 in
theorem setWord_any {w : World} {p : Nat} {F : Nat → Prop} {d : AD} (hA : Arena w p F d) (hF : d.Fine) (l : Lay) (off : Int) (ho : fitsI off) (W : Nat) :
    Calls Tryz.prog 90 #[.agg #[.pointer (some ⟨p, 0, none⟩), .int .i64 l.k, .int .i64 l.e, .int .i64 l.a, .int .i64 l.b, .int .i64 l.c, .int .i64 l.eo, .int .i64 l.bo, .int .i64 l.s, .int .i64 l.g, .int .i64 off], .int .u64 (W : Int)] w fun e w' => ErrPost w p F (storeR d off 8 W).1 (storeR d off 8 W).2 e w' := by
  have hS := fun V (k : Keeps w V (fun _ => False)) => astore_any (hA.keeps k (fun _ _ _ e => e)) hF off 8 W ho (fitsI_mk (by omega) (by omega))
  generalize storeR d off 8 W = R at *
  obtain ⟨x, d'⟩ := R
  go_enter Tryz.func90, Tryz.ntmps90
  go_wp2_with fail
  refine (hS _ ((Keeps.refl w (fun _ => False)).alloc _)).mono ?_
  rintro r w1 ⟨rfl, k1⟩
  have T1 := hide (Turned.pre ((Keeps.refl w (fun _ => False)).alloc _) k1)
  clear hS k1 hA
  go_wp2_with fail
  go_ret
  exact ⟨rfl, T1.out⟩

theorem place_in {l : Lay} (hv : validB l = true) {i x : Int} (h0 : 0 ≤ i) (h8 : i < 8) : placeD l i x = 8 + i * l.s + x := if_pos ⟨h0, h8, hv⟩
theorem mul_bound {i s : Int} (h0 : 0 ≤ i) (h8 : i < 8) (hs : 0 ≤ s) (hs2 : s ≤ 300) : 0 ≤ i * s ∧ i * s ≤ 2100 ∧ i * s + s ≤ 8 * s := by
  have h1 := Int.mul_nonneg h0 hs
  have h2 := Int.mul_le_mul (show i ≤ 7 by omega) hs2 hs (by omega)
  have h3 : i * s ≤ 7 * s := Int.mul_le_mul_of_nonneg_right (by omega) hs
  omega

set_option maxHeartbeats 2000000 in
theorem slotAt_any (p : Nat) (l : Lay) (off i : Int) (w : World) (hv : validB l = true) (h0 : 0 ≤ i) (h8 : i < 8) (ho : 0 ≤ off) (ho2 : off ≤ 134217728) :
    Calls Tryz.prog 97 #[.agg #[.pointer (some ⟨p, 0, none⟩), .int .i64 l.k, .int .i64 l.e, .int .i64 l.a, .int .i64 l.b, .int .i64 l.c, .int .i64 l.eo, .int .i64 l.bo, .int .i64 l.s, .int .i64 l.g, .int .i64 off], .int .i64 i] w fun e w' => e = .returned (.int .i64 (off + (8 + i * l.s + 0))) ∧ Keeps w w' (fun _ => False) := by
  have hK := fun W => keyAt_any l i W
  rw [place_in hv h0 h8] at hK
  have hvm := valid_more hv
  have hm := mul_bound h0 h8 (s := l.s) (by omega) (by omega)
  obtain ⟨x, hx⟩ : ∃ x, 8 + i * l.s + 0 = x := ⟨_, rfl⟩
  have hx0 : 0 ≤ x := by omega
  have hx1 : x ≤ 3000 := by omega
  rw [hx] at hK ⊢
  have hwr : IntKind.i64.wrap (off + x) = off + x := by rw [IntKind.wrap_i64]; omega
  clear hx hm hvm h0 h8
  go_enter Tryz.func97, Tryz.ntmps97
  go_wp2_with fail
  have S0 : S11 w w.heap.size p l off _ := s11_new (w := w) (p := p) (l := l) (off := off) (t := 120)
  go_region_held3 (fun w' => w'.cell? ⟨w.heap.size, 0, none⟩ = some (.pointer (some ⟨p, 0, none⟩)) ∧ w'.cell? ⟨w.heap.size, 1, none⟩ = some (.int .i64 l.k) ∧ w'.cell? ⟨w.heap.size, 2, none⟩ = some (.int .i64 l.e) ∧ w'.cell? ⟨w.heap.size, 3, none⟩ = some (.int .i64 l.a) ∧ w'.cell? ⟨w.heap.size, 4, none⟩ = some (.int .i64 l.b) ∧ w'.cell? ⟨w.heap.size, 5, none⟩ = some (.int .i64 l.c) ∧ w'.cell? ⟨w.heap.size, 6, none⟩ = some (.int .i64 l.eo) ∧ w'.cell? ⟨w.heap.size, 7, none⟩ = some (.int .i64 l.bo) ∧ w'.cell? ⟨w.heap.size, 8, none⟩ = some (.int .i64 l.s) ∧ w'.cell? ⟨w.heap.size, 9, none⟩ = some (.int .i64 l.g) ∧ w'.cell? ⟨w.heap.size, 10, none⟩ = some (.int .i64 off) ∧ Keeps w w' (fun _ => False)) (first | exact s11_drew S0 | exact s11_drew (s11_alloc S0 _) | exact s11_drew (s11_alloc (s11_alloc S0 _) _) | exact s11_call (by assumption) (by assumption) | exact s11_alloc (by assumption) _)
    (first | (go_at_call 133; refine (hK _).mono ?_; rintro r w1 ⟨rfl, k1⟩; replace k1 := Keeps.ofKp k1))
  all_goals go_wp2_with fail
  all_goals go_ret
  all_goals exact ⟨rfl, s11_k (by assumption)⟩

set_option maxHeartbeats 2000000 in
theorem key_any {w : World} {p : Nat} {F : Nat → Prop} {d : AD} (hA : Arena w p F d) (hF : d.Fine) (l : Lay) (off i : Int) (ht : thereB d l off = true) (h0 : 0 ≤ i) (h8 : i < 8) :
    Calls Tryz.prog 120 #[.agg #[.pointer (some ⟨p, 0, none⟩), .int .i64 l.k, .int .i64 l.e, .int .i64 l.a, .int .i64 l.b, .int .i64 l.c, .int .i64 l.eo, .int .i64 l.bo, .int .i64 l.s, .int .i64 l.g, .int .i64 off], .int .i64 i] w fun e w' => e = .returned (.string (strOf (d.span (off + (8 + i * l.s + 0)) l.k))) ∧ Keeps w w' (fun _ => False) := by
  obtain ⟨hv, hg, ho1, ho2, ho3⟩ := there_more hF ht
  have hvm := valid_more hv
  have hm := mul_bound h0 h8 (s := l.s) (by omega) (by omega)
  obtain ⟨c, hc, hfo⟩ := hA.at
  have hS := fun W => slotAt_any p l off i W hv h0 h8 (by omega) (by omega)
  have hgk := good_sub hg (x := 8 + i * l.s + 0) (m := l.k) (by omega) (by omega) (by omega)
  have hR := fun W (k : Keeps w W (fun _ => False)) => aread_any (hc.keeps k (fun _ _ e => e)) hF (off + (8 + i * l.s + 0)) l.k (fitsI_mk (by omega) (by omega)) (fitsI_mk (by omega) (by omega))
  have hx : readV d (off + (8 + i * l.s + 0)) l.k = (strOf (d.span (off + (8 + i * l.s + 0)) l.k), 0) := if_pos hgk
  simp only [hx] at hR
  generalize strOf (d.span (off + (8 + i * l.s + 0)) l.k) = S at *
  generalize off + (8 + i * l.s + 0) = y at *
  clear hx hgk hm hvm hg hv
  go_enter Tryz.func120, Tryz.ntmps120
  go_wp2_with fail
  have S0 : S11 w w.heap.size p l off _ := s11_new (w := w) (p := p) (l := l) (off := off) (t := 120)
  go_region_held3 (fun w' => w'.cell? ⟨w.heap.size, 0, none⟩ = some (.pointer (some ⟨p, 0, none⟩)) ∧ w'.cell? ⟨w.heap.size, 1, none⟩ = some (.int .i64 l.k) ∧ w'.cell? ⟨w.heap.size, 2, none⟩ = some (.int .i64 l.e) ∧ w'.cell? ⟨w.heap.size, 3, none⟩ = some (.int .i64 l.a) ∧ w'.cell? ⟨w.heap.size, 4, none⟩ = some (.int .i64 l.b) ∧ w'.cell? ⟨w.heap.size, 5, none⟩ = some (.int .i64 l.c) ∧ w'.cell? ⟨w.heap.size, 6, none⟩ = some (.int .i64 l.eo) ∧ w'.cell? ⟨w.heap.size, 7, none⟩ = some (.int .i64 l.bo) ∧ w'.cell? ⟨w.heap.size, 8, none⟩ = some (.int .i64 l.s) ∧ w'.cell? ⟨w.heap.size, 9, none⟩ = some (.int .i64 l.g) ∧ w'.cell? ⟨w.heap.size, 10, none⟩ = some (.int .i64 off) ∧ Keeps w w' (fun _ => False)) (first | exact s11_drew S0 | exact s11_drew (s11_alloc S0 _) | exact s11_drew (s11_alloc (s11_alloc S0 _) _) | exact s11_call (by assumption) (by assumption) | exact s11_alloc (by assumption) _)
    (first | (go_at_call 97; refine (hS _).mono ?_; rintro r w1 ⟨rfl, k1⟩) | (go_at_call 118; refine (hR _ (s11_k (by assumption))).mono ?_; rintro r w2 ⟨rfl, k2⟩))
  all_goals go_wp2_with fail
  all_goals go_ret
  all_goals exact ⟨rfl, s11_k (by assumption)⟩
end Go.Proofs.YtgckinldnnckoaaGreatDoor
/-
  Cell.
-/
namespace Go.Proofs.YtgckinldnnckoaaGreatDoor
open Go.RowKit Go.Shelf Ly Ct
set_option linter.unusedVariables false

set_option maxHeartbeats 4000000 in
theorem full_any {w : World} {p : Nat} {F : Nat → Prop} {d : AD} (hA : Arena w p F d) (hF : d.Fine) (l : Lay) (off i tag : Int) (ht : thereB d l off = true) (h0 : 0 ≤ i) (h8 : i < 8) :
    Calls Tryz.prog 83 #[.agg #[.pointer (some ⟨p, 0, none⟩), .int .i64 l.k, .int .i64 l.e, .int .i64 l.a, .int .i64 l.b, .int .i64 l.c, .int .i64 l.eo, .int .i64 l.bo, .int .i64 l.s, .int .i64 l.g, .int .i64 off], .int .i64 i, .int .i64 tag] w fun e w' => e = .returned (GC.val ⟨2, tag, strOf (d.span (off + (8 + i * l.s + 0)) l.k), strOf (d.span (off + (8 + i * l.s + l.eo)) l.e), wrap64 ((numOf (d.span (off + (8 + i * l.s + l.bo)) 8) : Nat) : Int)⟩) ∧ Keeps w w' (fun _ => False) := by
  obtain ⟨hv, hg, ho1, ho2, ho3⟩ := there_more hF ht
  have hvm := valid_more hv
  have hm := mul_bound h0 h8 (s := l.s) (by omega) (by omega)
  obtain ⟨c, hc, hfo⟩ := hA.at
  have hK := fun W (k : Keeps w W (fun _ => False)) => key_any (hA.keeps k (fun _ _ _ e => e)) hF l off i ht h0 h8
  have hE := fun W => elemAt_any l i W
  have hB := fun W => birthAt_any l i W
  rw [place_in hv h0 h8] at hE hB
  have hge := good_sub hg (x := 8 + i * l.s + l.eo) (m := l.e) (by omega) (by omega) (by omega)
  have hgb := good_sub hg (x := 8 + i * l.s + l.bo) (m := 8) (by omega) (by omega) (by omega)
  have hR := fun W (k : Keeps w W (fun _ => False)) => aread_any (hc.keeps k (fun _ _ e => e)) hF (off + (8 + i * l.s + l.eo)) l.e (fitsI_mk (by omega) (by omega)) (fitsI_mk (by omega) (by omega))
  have hL := fun W (k : Keeps w W (fun _ => False)) => aload_any (hc.keeps k (fun _ _ e => e)) hF (off + (8 + i * l.s + l.bo)) 8 (fitsI_mk (by omega) (by omega)) (fitsI_mk (by omega) (by omega))
  have hx : readV d (off + (8 + i * l.s + l.eo)) l.e = (strOf (d.span (off + (8 + i * l.s + l.eo)) l.e), 0) := if_pos hge
  have hy : loadV d (off + (8 + i * l.s + l.bo)) 8 = (((numOf (d.span (off + (8 + i * l.s + l.bo)) 8) : Nat) : Int), 0) := by
    unfold loadV
    rw [hgb]
    rfl
  simp only [hx] at hR
  simp only [hy] at hL
  unfold GC.val
  generalize strOf (d.span (off + (8 + i * l.s + 0)) l.k) = KS at *
  generalize strOf (d.span (off + (8 + i * l.s + l.eo)) l.e) = ES at *
  generalize numOf (d.span (off + (8 + i * l.s + l.bo)) 8) = BN at *
  obtain ⟨ye, hye⟩ : ∃ y, 8 + i * l.s + l.eo = y := ⟨_, rfl⟩
  obtain ⟨yb, hyb⟩ : ∃ y, 8 + i * l.s + l.bo = y := ⟨_, rfl⟩
  have b1 : 0 ≤ ye ∧ ye ≤ 5000 := by omega
  have b2 : 0 ≤ yb ∧ yb ≤ 5000 := by omega
  rw [hye] at hE hR
  rw [hyb] at hB hL
  obtain ⟨b1, b1'⟩ := b1
  obtain ⟨b2, b2'⟩ := b2
  have ho4 : off ≤ 134217728 := by omega
  have v1 : IntKind.i64.wrap (off + ye) = off + ye := by rw [IntKind.wrap_i64]; omega
  have v2 : IntKind.i64.wrap (off + yb) = off + yb := by rw [IntKind.wrap_i64]; omega
  clear hx hy hge hgb hm hg hv hye hyb ht hA h0 h8 hvm ho3 ho2
  go_enter Tryz.func83, Tryz.ntmps83
  go_wp2_with fail
  refine alloc2 (P := fun W => Code.wp _ _ _ _ W) fun W0 hb hr hz K0 => ?_
  have S0 : S11 W0 w.heap.size p l off W0 := s11_of hb (Keeps.refl _ _)
  go_region_held3 (fun w' => w'.cell? ⟨w.heap.size, 0, none⟩ = some (.pointer (some ⟨p, 0, none⟩)) ∧ w'.cell? ⟨w.heap.size, 1, none⟩ = some (.int .i64 l.k) ∧ w'.cell? ⟨w.heap.size, 2, none⟩ = some (.int .i64 l.e) ∧ w'.cell? ⟨w.heap.size, 3, none⟩ = some (.int .i64 l.a) ∧ w'.cell? ⟨w.heap.size, 4, none⟩ = some (.int .i64 l.b) ∧ w'.cell? ⟨w.heap.size, 5, none⟩ = some (.int .i64 l.c) ∧ w'.cell? ⟨w.heap.size, 6, none⟩ = some (.int .i64 l.eo) ∧ w'.cell? ⟨w.heap.size, 7, none⟩ = some (.int .i64 l.bo) ∧ w'.cell? ⟨w.heap.size, 8, none⟩ = some (.int .i64 l.s) ∧ w'.cell? ⟨w.heap.size, 9, none⟩ = some (.int .i64 l.g) ∧ w'.cell? ⟨w.heap.size, 10, none⟩ = some (.int .i64 off) ∧ Keeps W0 w' (fun _ => False)) (first | exact s11_drew S0 | exact s11_drew (s11_alloc S0 _) | exact s11_drew (s11_alloc (s11_alloc S0 _) _) | exact s11_call (by assumption) (by assumption) | exact s11_alloc (by assumption) _)
    (first | (go_at_call 96; refine (hE _).mono ?_; rintro r w1 ⟨rfl, k1⟩; replace k1 := Keeps.ofKp k1) | (go_at_call 118; (try rw [v1]); refine (hR _ (K0.trans (s11_k (by assumption)) (fun _ _ e => e))).mono ?_; rintro r w2 ⟨rfl, k2⟩))
  have S1 : S11 W0 w.heap.size p l off w2 := by assumption
  go_wp2_with fail
  go_region_held3 (fun w' => w'.cell? ⟨w.heap.size, 0, none⟩ = some (.pointer (some ⟨p, 0, none⟩)) ∧ w'.cell? ⟨w.heap.size, 1, none⟩ = some (.int .i64 l.k) ∧ w'.cell? ⟨w.heap.size, 2, none⟩ = some (.int .i64 l.e) ∧ w'.cell? ⟨w.heap.size, 3, none⟩ = some (.int .i64 l.a) ∧ w'.cell? ⟨w.heap.size, 4, none⟩ = some (.int .i64 l.b) ∧ w'.cell? ⟨w.heap.size, 5, none⟩ = some (.int .i64 l.c) ∧ w'.cell? ⟨w.heap.size, 6, none⟩ = some (.int .i64 l.eo) ∧ w'.cell? ⟨w.heap.size, 7, none⟩ = some (.int .i64 l.bo) ∧ w'.cell? ⟨w.heap.size, 8, none⟩ = some (.int .i64 l.s) ∧ w'.cell? ⟨w.heap.size, 9, none⟩ = some (.int .i64 l.g) ∧ w'.cell? ⟨w.heap.size, 10, none⟩ = some (.int .i64 off) ∧ Keeps W0 w' (fun _ => False)) (first | exact s11_drew S1 | exact s11_drew (s11_alloc S1 _) | exact s11_drew (s11_alloc (s11_alloc S1 _) _) | exact s11_call (by assumption) (by assumption) | exact s11_alloc (by assumption) _)
    (first | (go_at_call 119; refine (hB _).mono ?_; rintro r w3 ⟨rfl, k3⟩; replace k3 := Keeps.ofKp k3) | (go_at_call 22; refine (hL _ (K0.trans (s11_k (by assumption)) (fun _ _ e => e))).mono ?_; rintro r w4 ⟨rfl, k4⟩))
  have S2 : S11 W0 w.heap.size p l off w4 := by assumption
  go_wp2_with fail
  refine (hK _ (K0.trans (s11_k S2) (fun _ _ e => e))).mono ?_
  rintro r w5 ⟨rfl, k5⟩
  have K5 := s11_k (s11_call k5 S2)
  have hr5 := K5.blk hr
  have K6 : Keeps w w5 (fun _ => False) := K0.trans K5 (fun _ _ e => e)
  obtain ⟨d0, d1, d2, d3, d4, f0, f1, f2, f3, f4⟩ := five_cells hr5
  go_wp2_with fail
  refine five_set hr5 K6 (fun h => by omega) (P := fun w9 => bodyPost _ _ _ _ _ w9) fun w9 h9 k9 _ => ?_
  obtain ⟨e0, e1, e2, e3, e4, -⟩ := five_cells h9
  exact bodyPost_ret (v := .agg #[.int .i64 2, .int .i64 tag, .string KS, .string ES, .int .i64 (wrap64 (BN : Int))]) (by simp [results, Tryz.results83, go_sem, e0, e1, e2, e3, e4]) rfl ⟨rfl, k9⟩
end Go.Proofs.YtgckinldnnckoaaGreatDoor
/-
  Cell.
-/
namespace Go.Proofs.YtgckinldnnckoaaGreatDoor
open Go.RowKit Go.Shelf Ly Ct
set_option linter.unusedVariables false

def CellPost (w : World) (c : GC) (x : Int) (e : Ending) (w' : World) : Prop := e = .returned (.tuple #[c.val, .int .i64 x]) ∧ Keeps w w' (fun _ => False)
theorem wordN_lt {d : AD} {off : Int} : wordN d off < 18446744073709551616 := by
  have h := numOf_lt (d.span off 8)
  have hl : (d.span off 8).length ≤ 8 := by
    unfold AD.span
    rw [List.length_take]
    exact Nat.min_le_left _ _
  have : 256 ^ (d.span off 8).length ≤ 256 ^ 8 := Nat.pow_le_pow_right (by decide) hl
  unfold wordN
  omega

set_option maxHeartbeats 4000000 in
theorem cell_any {w : World} {p : Nat} {F : Nat → Prop} {d : AD} (hA : Arena w p F d) (hF : d.Fine) (l : Lay) (off i : Int) (ho : fitsI off) (hn : fitsI l.g) :
    Calls Tryz.prog 50 #[.agg #[.pointer (some ⟨p, 0, none⟩), .int .i64 l.k, .int .i64 l.e, .int .i64 l.a, .int .i64 l.b, .int .i64 l.c, .int .i64 l.eo, .int .i64 l.bo, .int .i64 l.s, .int .i64 l.g, .int .i64 off], .int .i64 i] w fun e w' => CellPost w (cellV d l off i).1 (cellV d l off i).2 e w' := by
  have hI := fun W => gslot_any i W
  by_cases hi : 0 ≤ i ∧ i < 8
  · rw [decide_eq_true hi] at hI
    have hW := fun V (k : Keeps w V (fun _ => False)) => word_any (hA.keeps k (fun _ _ _ e => e)) hF l off ho hn
    unfold wordV at hW
    unfold cellV
    rw [if_pos hi]
    cases ht : thereB d l off
    · simp only [ht, Bool.false_eq_true, if_false] at hW
      simp only [Bool.false_eq_true, if_false]
      go_enter Tryz.func50, Tryz.ntmps50
      go_wp2_with fail
      refine (hI _).mono ?_
      rintro r w1 ⟨rfl, rfl⟩
      go_wp2_with fail
      refine alloc2 (P := fun W => Calls _ _ _ W _) fun W0 hb hr hz K0 => ?_
      refine (hW _ K0).mono ?_
      rintro r w2 ⟨rfl, k2⟩
      have hr2 := k2.blk hr
      have K2 : Keeps w w2 (fun _ => False) := K0.trans k2 (fun _ _ e => e)
      obtain ⟨d0, d1, d2, d3, d4, f0, f1, f2, f3, f4⟩ := five_cells hr2
      go_wp2_with fail
      refine five_set hr2 K2 (fun h => by omega) (P := fun w9 => bodyPost _ _ _ _ _ w9) fun w9 h9 k9 _ => ?_
      obtain ⟨e0, e1, e2, e3, e4, -⟩ := five_cells h9
      exact bodyPost_ret (v := .tuple #[GC.zero.val, .int .i64 24]) (by simp [results, Tryz.results50, go_sem, e0, e1, e2, e3, e4, GC.val, GC.zero]; try rfl) rfl ⟨rfl, k9⟩
    · simp only [ht, if_true] at hW
      simp only [if_true]
      obtain ⟨n, rfl⟩ := Int.eq_ofNat_of_zero_le hi.1
      have hn8 : n < 8 := by omega
      have hG := fun V => get_in (wordN d off) n wordN_lt hn8 V
      have hU := fun V (k : Keeps w V (fun _ => False)) tag => full_any (hA.keeps k (fun _ _ _ e => e)) hF l off (n : Int) tag ht hi.1 hi.2
      have hTg := fun V => gtag_any ((byN (wordN d off) n : Nat) : Int) V
      unfold atC
      rw [Int.toNat_natCast]
      generalize strOf (d.span (off + (8 + (n : Int) * l.s + 0)) l.k) = KS at *
      generalize strOf (d.span (off + (8 + (n : Int) * l.s + l.eo)) l.e) = ES at *
      generalize numOf (d.span (off + (8 + (n : Int) * l.s + l.bo)) 8) = BN at *
      generalize byN (wordN d off) n = bb at *
      generalize wordN d off = WW at *
      have hb0 : (0 : Int) ≤ (bb : Int) := by omega
      by_cases h1 : bb < 128
      · rw [decide_eq_true (show (0 : Int) ≤ (bb : Int) ∧ (bb : Int) ≤ 127 by omega)] at hTg
        rw [if_pos h1]
        go_enter Tryz.func50, Tryz.ntmps50
        go_wp2_with fail
        refine (hI _).mono ?_
        rintro r w1 ⟨rfl, rfl⟩
        go_wp2_with fail
        refine alloc2 (P := fun W => Calls _ _ _ W _) fun W0 hb hr hz K0 => ?_
        refine (hW _ K0).mono ?_
        rintro r w2 ⟨rfl, k2⟩
        have hr2 := k2.blk hr
        have S2 := s11_of (k2.blk hb) k2
        have K2 : Keeps w w2 (fun _ => False) := K0.trans k2 (fun _ _ e => e)
        obtain ⟨c0, c1, c2, c3, c4, c5, c6, c7, c8, c9, c10, -⟩ := S2
        clear hW hI
        go_wp2_with fail
        refine (hG _).mono ?_
        rintro r w3 ⟨rfl, rfl⟩
        go_wp2_with fail
        refine (hTg _).mono ?_
        rintro r w3 ⟨rfl, rfl⟩
        go_wp2_with fail
        refine (hU _ K2 _).mono ?_
        rintro r w4 ⟨rfl, k4⟩
        have hr4 := k4.blk hr2
        have K4 : Keeps w w4 (fun _ => False) := K2.trans k4 (fun _ _ e => e)
        obtain ⟨d0, d1, d2, d3, d4, f0, f1, f2, f3, f4⟩ := five_cells hr4
        clear c0 c1 c2 c3 c4 c5 c6 c7 c8 c9 c10
        unfold GC.val
        go_wp2_with fail
        refine five_set hr4 K4 (fun h => by omega) (P := fun w9 => bodyPost _ _ _ _ _ w9) fun w9 h9 k9 _ => ?_
        obtain ⟨e0, e1, e2, e3, e4, -⟩ := five_cells h9
        exact bodyPost_ret (v := .tuple #[.agg #[.int .i64 2, .int .i64 (bb : Int), .string KS, .string ES, .int .i64 (wrap64 (BN : Int))], .int .i64 0]) (by simp [results, Tryz.results50, go_sem, e0, e1, e2, e3, e4]) rfl ⟨rfl, k9⟩
      · rw [decide_eq_false (show ¬ ((0 : Int) ≤ (bb : Int) ∧ (bb : Int) ≤ 127) by omega)] at hTg
        rw [if_neg h1]
        clear hU
        by_cases h2 : bb = 254
        · subst h2
          rw [if_pos rfl]
          go_enter Tryz.func50, Tryz.ntmps50
          go_wp2_with fail
          refine (hI _).mono ?_
          rintro r w1 ⟨rfl, rfl⟩
          go_wp2_with fail
          refine alloc2 (P := fun W => Calls _ _ _ W _) fun W0 hb hr hz K0 => ?_
          refine (hW _ K0).mono ?_
          rintro r w2 ⟨rfl, k2⟩
          have hr2 := k2.blk hr
          have K2 : Keeps w w2 (fun _ => False) := K0.trans k2 (fun _ _ e => e)
          clear hW hI
          go_wp2_with fail
          refine (hG _).mono ?_
          rintro r w3 ⟨rfl, rfl⟩
          go_wp2_with fail
          refine (hTg _).mono ?_
          rintro r w3 ⟨rfl, rfl⟩
          obtain ⟨d0, d1, d2, d3, d4, f0, f1, f2, f3, f4⟩ := five_cells hr2
          go_wp2_with fail
          refine five_set hr2 K2 (fun h => by omega) (P := fun w9 => bodyPost _ _ _ _ _ w9) fun w9 h9 k9 _ => ?_
          obtain ⟨e0, e1, e2, e3, e4, -⟩ := five_cells h9
          exact bodyPost_ret (v := .tuple #[GC.gone.val, .int .i64 0]) (by simp [results, Tryz.results50, go_sem, e0, e1, e2, e3, e4, GC.val, GC.gone]; try rfl) rfl ⟨rfl, k9⟩
        · rw [if_neg h2]
          have h2' : ((bb : Int) == 254) = false := by
            simp only [beq_eq_false_iff_ne]
            omega
          go_enter Tryz.func50, Tryz.ntmps50
          go_wp2_with fail
          refine (hI _).mono ?_
          rintro r w1 ⟨rfl, rfl⟩
          go_wp2_with fail
          refine alloc2 (P := fun W => Calls _ _ _ W _) fun W0 hb hr hz K0 => ?_
          refine (hW _ K0).mono ?_
          rintro r w2 ⟨rfl, k2⟩
          have hr2 := k2.blk hr
          have K2 : Keeps w w2 (fun _ => False) := K0.trans k2 (fun _ _ e => e)
          clear hW hI
          go_wp2_with fail
          refine (hG _).mono ?_
          rintro r w3 ⟨rfl, rfl⟩
          go_wp2_with fail
          refine (hTg _).mono ?_
          rintro r w3 ⟨rfl, rfl⟩
          obtain ⟨d0, d1, d2, d3, d4, f0, f1, f2, f3, f4⟩ := five_cells hr2
          go_wp2_with fail
          refine five_set hr2 K2 (fun h => by omega) (P := fun w9 => bodyPost _ _ _ _ _ w9) fun w9 h9 k9 _ => ?_
          obtain ⟨e0, e1, e2, e3, e4, -⟩ := five_cells h9
          exact bodyPost_ret (v := .tuple #[GC.zero.val, .int .i64 0]) (by simp [results, Tryz.results50, go_sem, e0, e1, e2, e3, e4, GC.val, GC.zero]; try rfl) rfl ⟨rfl, k9⟩
  · rw [decide_eq_false hi] at hI
    have hc : cellV d l off i = (GC.zero, 60) := if_neg hi
    rw [hc]
    go_enter Tryz.func50, Tryz.ntmps50
    go_wp2_with fail
    refine (hI _).mono ?_
    rintro r w1 ⟨rfl, rfl⟩
    go_wp2_with fail
    refine alloc2 (P := fun W => bodyPost _ _ _ _ _ W) fun W0 hb hr hz K0 => ?_
    obtain ⟨e0, e1, e2, e3, e4, -⟩ := five_cells hr
    exact bodyPost_ret (v := .tuple #[GC.zero.val, .int .i64 60]) (by simp [results, Tryz.results50, go_sem, e0, e1, e2, e3, e4, GC.val, GC.zero]; try rfl) rfl ⟨rfl, K0⟩
end Go.Proofs.YtgckinldnnckoaaGreatDoor
namespace Go.Proofs
open Go.Shelf
def Tryz.lays105_ren : Go.Shelf.Ren := ⟨fun | 105 => 134 | 212 => 164 | 99 => 165 | 165 => 161 | 166 => 162 | 170 => 166 | 169 => 163 | 263 => 184 | 264 => 185 | 206 => 186 | 240 => 182 | 241 => 183 | 276 => 203 | 277 => 204 | n => n, fun | 9 => 9 | 3 => 3 | 4 => 4 | 20 => 20 | 0 => 0 | 46 => 135 | 109 => 226 | 5 => 5 | 72 => 219 | 76 => 223 | 51 => 242 | 146 => 243 | 53 => 24 | 148 => 245 | 70 => 217 | 37 => 134 | 75 => 222 | 127 => 241 | 164 => 258 | 80 => 225 | n => n, fun | n => n⟩
theorem Tryz.lays105 : Go.Proofs.Lays.n105 Tryz.prog Tryz.lays105_ren := {
  mixed := by kernel_rfl
  f99 := Tryz.func165.trans (congrArg some (by kernel_rfl))
  f105 := Tryz.func134.trans (congrArg some (by kernel_rfl))
  f165 := Tryz.func161.trans (congrArg some (by kernel_rfl))
  f166 := Tryz.func162.trans (congrArg some (by kernel_rfl))
  f169 := Tryz.func163.trans (congrArg some (by kernel_rfl))
  f170 := Tryz.func166.trans (congrArg some (by kernel_rfl))
  f206 := Tryz.func186.trans (congrArg some (by kernel_rfl))
  f212 := Tryz.func164.trans (congrArg some (by kernel_rfl))
  f240 := Tryz.func182.trans (congrArg some (by kernel_rfl))
  f241 := Tryz.func183.trans (congrArg some (by kernel_rfl))
  f263 := Tryz.func184.trans (congrArg some (by kernel_rfl))
  f264 := Tryz.func185.trans (congrArg some (by kernel_rfl))
  f276 := Tryz.func203.trans (congrArg some (by kernel_rfl))
  f277 := Tryz.func204.trans (congrArg some (by kernel_rfl))
  t0 := Tryz.underlying0
  a0 := Tryz.isAgg0
  z0 := Tryz.sizeOf0
  v0 := Tryz.zeroValue0
  t3 := Tryz.underlying3
  a3 := Tryz.isAgg3
  z3 := Tryz.sizeOf3
  v3 := Tryz.zeroValue3
  t4 := Tryz.underlying4
  a4 := Tryz.isAgg4
  z4 := Tryz.sizeOf4
  v4 := Tryz.zeroValue4
  t5 := Tryz.underlying5
  a5 := Tryz.isAgg5
  z5 := Tryz.sizeOf5
  v5 := Tryz.zeroValue5
  t9 := Tryz.underlying9
  a9 := Tryz.isAgg9
  z9 := Tryz.sizeOf9
  v9 := Tryz.zeroValue9
  t20 := Tryz.underlying20
  a20 := Tryz.isAgg20
  z20 := Tryz.sizeOf20
  v20 := Tryz.zeroValue20
  t37 := Tryz.underlying134
  a37 := Tryz.isAgg134
  z37 := Tryz.sizeOf134
  v37 := Tryz.zeroValue134
  t46 := Tryz.underlying135
  a46 := Tryz.isAgg135
  z46 := Tryz.sizeOf135
  v46 := Tryz.zeroValue135
  t51 := Tryz.underlying242
  a51 := Tryz.isAgg242
  z51 := Tryz.sizeOf242
  v51 := Tryz.zeroValue242
  t53 := Tryz.underlying24
  a53 := Tryz.isAgg24
  z53 := Tryz.sizeOf24
  v53 := Tryz.zeroValue24
  t70 := Tryz.underlying217
  a70 := Tryz.isAgg217
  z70 := Tryz.sizeOf217
  v70 := Tryz.zeroValue217
  t72 := Tryz.underlying219
  a72 := Tryz.isAgg219
  z72 := Tryz.sizeOf219
  v72 := Tryz.zeroValue219
  t75 := Tryz.underlying222
  a75 := Tryz.isAgg222
  z75 := Tryz.sizeOf222
  v75 := Tryz.zeroValue222
  t76 := Tryz.underlying223
  a76 := Tryz.isAgg223
  z76 := Tryz.sizeOf223
  v76 := Tryz.zeroValue223
  t109 := Tryz.underlying226
  a109 := Tryz.isAgg226
  z109 := Tryz.sizeOf226
  v109 := Tryz.zeroValue226
  t127 := Tryz.underlying241
  a127 := Tryz.isAgg241
  z127 := Tryz.sizeOf241
  v127 := Tryz.zeroValue241
  t146 := Tryz.underlying243
  a146 := Tryz.isAgg243
  z146 := Tryz.sizeOf243
  v146 := Tryz.zeroValue243
  t148 := Tryz.underlying245
  a148 := Tryz.isAgg245
  z148 := Tryz.sizeOf245
  v148 := Tryz.zeroValue245
  t164 := Tryz.underlying258
  a164 := Tryz.isAgg258
  z164 := Tryz.sizeOf258
  v164 := Tryz.zeroValue258 }
theorem Tryz.Builder_Extra_105 : Builder.Extra Tryz.prog Tryz.lays105_ren := {
  sizeBuilder := by kernel_rfl
  liesBuilder := by kernel_rfl
  t5 := Tryz.underlying5
  a5 := Tryz.isAgg5
  z5 := Tryz.sizeOf5
  v5 := Tryz.zeroValue5
  infoByte := by kernel_rfl
  cellsByte := by kernel_rfl
  sizeByte := by kernel_rfl
  neB5 := by decide }
open Go.RowKit Go.Lib in
theorem Tryz.strings_Repeat_main (s : ByteArray) (c : Nat) (w : World) (hc2 : 2 ≤ c) (hc : c ≤ 9223372036854775807) (hlen : s.size * c ≤ 140737488355328) (h0 : 0 < s.size) :
    Calls Tryz.prog 134 #[.string s, .int .i64 c] w fun e w' => e = .returned (.string ⟨(Lib.repeatL s.data.toList c).toArray⟩) ∧ Below w.heap.size w w' := Any.strings_Repeat_main Tryz.lays105 Tryz.Builder_Extra_105 s c w hc2 hc hlen h0
open Go.RowKit Go.Lib in
theorem Tryz.strings_Repeat_zero (s : ByteArray) (w : World) :
    Calls Tryz.prog 134 #[.string s, .int .i64 0] w fun e w' => e = .returned (.string ⟨#[]⟩) ∧ w' = w := Any.strings_Repeat_zero Tryz.lays105 s w
open Go.RowKit Go.Lib in
theorem Tryz.strings_Repeat_one (s : ByteArray) (w : World) :
    Calls Tryz.prog 134 #[.string s, .int .i64 1] w fun e w' => e = .returned (.string s) ∧ w' = w := Any.strings_Repeat_one Tryz.lays105 s w
open Go.RowKit Go.Lib in
theorem Tryz.strings_Repeat_empty (s : ByteArray) (c : Nat) (w : World) (hc2 : 2 ≤ c) (hc : c ≤ 9223372036854775807) (h0 : s.size = 0) :
    Calls Tryz.prog 134 #[.string s, .int .i64 c] w fun e w' => e = .returned (.string ⟨#[]⟩) ∧ w' = w := Any.strings_Repeat_empty Tryz.lays105 s c w hc2 hc h0
open Go.RowKit Go.Lib in
theorem Tryz.strings_Repeat_negative (s : ByteArray) (c : Int) (w : World) (hc : c < 0) :
    Calls Tryz.prog 134 #[.string s, .int .i64 c] w fun e w' => e = .panicked [{ v := repeatPanic Tryz.lays105_ren "strings: negative Repeat count", recovered := false }] ∧ w' = w := Any.strings_Repeat_negative Tryz.lays105 s c w hc
open Go.RowKit Go.Lib in
theorem Tryz.strings_Repeat_overflow (s : ByteArray) (c : Nat) (w : World) (hc : c ≤ 9223372036854775807) (hs : s.size ≤ 9223372036854775807) (hbig : 9223372036854775807 < s.size * c) :
    Calls Tryz.prog 134 #[.string s, .int .i64 c] w fun e w' => e = .panicked [{ v := repeatPanic Tryz.lays105_ren "strings: Repeat output length overflow", recovered := false }] ∧ w' = w := Any.strings_Repeat_overflow Tryz.lays105 s c w hc hs hbig
open Go.RowKit Go.Lib in
theorem Tryz.strings_Repeat (s : ByteArray) (c : Nat) (w : World) (hc : c ≤ 9223372036854775807) (hlen : s.size * c ≤ 140737488355328) :
    Calls Tryz.prog 134 #[.string s, .int .i64 c] w fun e w' => e = .returned (.string ⟨(Lib.repeatL s.data.toList c).toArray⟩) ∧ Below w.heap.size w w' := Any.strings_Repeat Tryz.lays105 Tryz.Builder_Extra_105 s c w hc hlen
end Go.Proofs
namespace Go.Proofs
open Go.Shelf
def Tryz.lays156_ren : Go.Shelf.Ren := ⟨fun | 156 => 131 | 165 => 161 | 166 => 162 | 169 => 163 | 240 => 182 | 241 => 183 | 276 => 203 | 277 => 204 | n => n, fun | 31 => 194 | 9 => 9 | 3 => 3 | 4 => 4 | 0 => 0 | 20 => 20 | 72 => 219 | 76 => 223 | 70 => 217 | 37 => 134 | 75 => 222 | 127 => 241 | 164 => 258 | 5 => 5 | 80 => 225 | n => n, fun | n => n⟩
theorem Tryz.lays156 : Go.Proofs.Lays.n156 Tryz.prog Tryz.lays156_ren := {
  mixed := by kernel_rfl
  f156 := Tryz.func131.trans (congrArg some (by kernel_rfl))
  f165 := Tryz.func161.trans (congrArg some (by kernel_rfl))
  f166 := Tryz.func162.trans (congrArg some (by kernel_rfl))
  f169 := Tryz.func163.trans (congrArg some (by kernel_rfl))
  f240 := Tryz.func182.trans (congrArg some (by kernel_rfl))
  f241 := Tryz.func183.trans (congrArg some (by kernel_rfl))
  f276 := Tryz.func203.trans (congrArg some (by kernel_rfl))
  f277 := Tryz.func204.trans (congrArg some (by kernel_rfl))
  t0 := Tryz.underlying0
  a0 := Tryz.isAgg0
  z0 := Tryz.sizeOf0
  v0 := Tryz.zeroValue0
  t3 := Tryz.underlying3
  a3 := Tryz.isAgg3
  z3 := Tryz.sizeOf3
  v3 := Tryz.zeroValue3
  t4 := Tryz.underlying4
  a4 := Tryz.isAgg4
  z4 := Tryz.sizeOf4
  v4 := Tryz.zeroValue4
  t9 := Tryz.underlying9
  a9 := Tryz.isAgg9
  z9 := Tryz.sizeOf9
  v9 := Tryz.zeroValue9
  t20 := Tryz.underlying20
  a20 := Tryz.isAgg20
  z20 := Tryz.sizeOf20
  v20 := Tryz.zeroValue20
  t31 := Tryz.underlying194
  a31 := Tryz.isAgg194
  z31 := Tryz.sizeOf194
  v31 := Tryz.zeroValue194
  t37 := Tryz.underlying134
  a37 := Tryz.isAgg134
  z37 := Tryz.sizeOf134
  v37 := Tryz.zeroValue134
  t70 := Tryz.underlying217
  a70 := Tryz.isAgg217
  z70 := Tryz.sizeOf217
  v70 := Tryz.zeroValue217
  t72 := Tryz.underlying219
  a72 := Tryz.isAgg219
  z72 := Tryz.sizeOf219
  v72 := Tryz.zeroValue219
  t75 := Tryz.underlying222
  a75 := Tryz.isAgg222
  z75 := Tryz.sizeOf222
  v75 := Tryz.zeroValue222
  t76 := Tryz.underlying223
  a76 := Tryz.isAgg223
  z76 := Tryz.sizeOf223
  v76 := Tryz.zeroValue223
  t127 := Tryz.underlying241
  a127 := Tryz.isAgg241
  z127 := Tryz.sizeOf241
  v127 := Tryz.zeroValue241
  t164 := Tryz.underlying258
  a164 := Tryz.isAgg258
  z164 := Tryz.sizeOf258
  v164 := Tryz.zeroValue258 }
theorem Tryz.Builder_Extra_156 : Builder.Extra Tryz.prog Tryz.lays156_ren := {
  sizeBuilder := by kernel_rfl
  liesBuilder := by kernel_rfl
  t5 := Tryz.underlying5
  a5 := Tryz.isAgg5
  z5 := Tryz.sizeOf5
  v5 := Tryz.zeroValue5
  infoByte := by kernel_rfl
  cellsByte := by kernel_rfl
  sizeByte := by kernel_rfl
  neB5 := by decide }
open Go.RowKit in
theorem Tryz.strings_Join_none (a : Option Addr) (c : Nat) (sep : ByteArray) (w : World) :
    Calls Tryz.prog 131 #[.slice a 0 c, .string sep] w fun e w' => e = .returned (.string ⟨#[]⟩) ∧ w' = w := Any.strings_Join_none Tryz.lays156 Tryz.Builder_Extra_156 a c sep w
open Go.RowKit in
theorem Tryz.strings_Join (bk o c : Nat) (xs : List ByteArray) (sep : ByteArray) (w : World) (hcells : ∀ (j : Nat) x, xs[j]? = some x → w.cell? ⟨bk, o + j, none⟩ = some (.string x)) (hbk : bk < w.heap.size) (hN : xs.length ≤ 140737488355328) (hcap : xs.length ≤ c) (hlen : (Lib.join (xs.map (·.data.toList)) sep.data.toList).length ≤ 140737488355328) :
    Calls Tryz.prog 131 #[.slice (some ⟨bk, o, none⟩) xs.length c, .string sep] w fun e w' => e = .returned (.string ⟨(Lib.join (xs.map (·.data.toList)) sep.data.toList).toArray⟩) ∧ Below w.heap.size w w' := Any.strings_Join Tryz.lays156 Tryz.Builder_Extra_156 bk o c xs sep w hcells hbk hN hcap hlen
end Go.Proofs
namespace Go.Proofs.YtgckinldnnckoaaGreatDoor
open Go.RowKit Go.Shelf

theorem Keeps.ofBelow {w w' : World} (h : Below w.heap.size w w') : Keeps w w' (fun _ => False) := ⟨h.os, h.tape, h.output, h.size, fun k hk _ => h.block k hk⟩
theorem joinOK : JoinOK := by
  intro a c ts w h hc hn hl
  have e0 : ByteArray.empty.data.toList = [] := rfl
  rcases h.two with rfl | ⟨b, o, rfl, hb, _, hcell⟩
  · refine (Tryz.strings_Join_none a c ByteArray.empty w).mono ?_
    rintro e w' ⟨rfl, rfl⟩
    exact ⟨rfl, Keeps.refl _ _⟩
  · refine (Tryz.strings_Join b o c ts ByteArray.empty w (fun j x hj => ?_) hb hn hc ?_).mono ?_
    · obtain ⟨hj', e⟩ := List.getElem?_eq_some_iff.1 hj
      rw [hcell j hj', e]
    · rw [e0]
      have := joined_length ts
      unfold joined at this
      omega
    · rintro e w' ⟨rfl, hbel⟩
      exact ⟨rfl, Keeps.ofBelow hbel⟩
end Go.Proofs.YtgckinldnnckoaaGreatDoor
/-
  The calls of group that write: zeros, birthBytes, Reset, Erase.
-/
namespace Go.Proofs.YtgckinldnnckoaaGreatDoor
open Go.RowKit Go.Shelf Ly Ct
set_option linter.unusedVariables false

abbrev C11 (b p : Nat) (l : Lay) (off : Int) (W : World) : Prop := W.cell? ⟨b, 0, none⟩ = some (.pointer (some ⟨p, 0, none⟩)) ∧ W.cell? ⟨b, 1, none⟩ = some (.int .i64 l.k) ∧ W.cell? ⟨b, 2, none⟩ = some (.int .i64 l.e) ∧ W.cell? ⟨b, 3, none⟩ = some (.int .i64 l.a) ∧ W.cell? ⟨b, 4, none⟩ = some (.int .i64 l.b) ∧ W.cell? ⟨b, 5, none⟩ = some (.int .i64 l.c) ∧ W.cell? ⟨b, 6, none⟩ = some (.int .i64 l.eo) ∧ W.cell? ⟨b, 7, none⟩ = some (.int .i64 l.bo) ∧ W.cell? ⟨b, 8, none⟩ = some (.int .i64 l.s) ∧ W.cell? ⟨b, 9, none⟩ = some (.int .i64 l.g) ∧ W.cell? ⟨b, 10, none⟩ = some (.int .i64 off)
theorem c11_of {W : World} {b p : Nat} {l : Lay} {off : Int} {t : TypeId} (h : W.heap[b]? = some (.cells #[.pointer (some ⟨p, 0, none⟩), .int .i64 l.k, .int .i64 l.e, .int .i64 l.a, .int .i64 l.b, .int .i64 l.c, .int .i64 l.eo, .int .i64 l.bo, .int .i64 l.s, .int .i64 l.g, .int .i64 off] t)) : C11 b p l off W := grp_cells h
theorem c11_keeps {W W1 : World} {b p : Nat} {l : Lay} {off : Int} {S : Nat → Prop} (k : Keeps W W1 S) (hS : ¬ S b) (h : C11 b p l off W) : C11 b p l off W1 := by
  obtain ⟨c0, c1, c2, c3, c4, c5, c6, c7, c8, c9, c10⟩ := h
  have hc : ∀ j v, W.cell? ⟨b, j, none⟩ = some v → W1.cell? ⟨b, j, none⟩ = some v := fun j v q => by
    have : b < W.heap.size := by
      refine Nat.lt_of_not_le fun hn => ?_
      rw [World.cell?, Array.getElem?_eq_none hn] at q
      cases q
    exact (World.cell?_of_block (w := W) (a := ⟨b, j, none⟩) (k.block b this hS)).trans q
  exact ⟨hc _ _ c0, hc _ _ c1, hc _ _ c2, hc _ _ c3, hc _ _ c4, hc _ _ c5, hc _ _ c6, hc _ _ c7, hc _ _ c8, hc _ _ c9, hc _ _ c10⟩
theorem c11_drew {W : World} {b p : Nat} {l : Lay} {off : Int} (h : C11 b p l off W) : C11 b p l off W.drew := c11_keeps (Keeps.refl W (fun _ => False)).drew id h

theorem repeat_zero (n : Nat) : (Lib.repeatL [0] n) = zeros n := by
  induction n with
  | zero => rfl
  | succ n ih =>
    show [0] ++ Lib.repeatL [0] n = zeros (n + 1)
    rw [ih]
    rfl
theorem le_mix (b k : Nat) (h : k < 8) : (rowOf (leBytes b k ++ zeros (8 - k))).setIfInBounds k (.int .u8 ((lowB b k).toNat : Int)) = rowOf (leBytes b (k + 1) ++ zeros (8 - (k + 1))) := by
  apply Array.ext'
  obtain ⟨m, hm⟩ : ∃ m, 8 - k = m + 1 := ⟨8 - k - 1, by omega⟩
  have hm' : 8 - (k + 1) = m := by omega
  rw [Array.toList_setIfInBounds, rowOf_toList, rowOf_toList, hm, hm']
  have e1 : cellsOf (leBytes b k ++ zeros (m + 1)) = cellsOf (leBytes b k) ++ (.int .u8 0 :: cellsOf (zeros m)) := by
    rw [cellsOf_append]
    rfl
  have e2 : cellsOf (leBytes b (k + 1) ++ zeros m) = cellsOf (leBytes b k) ++ (.int .u8 ((lowB b k).toNat : Int) :: cellsOf (zeros m)) := by
    rw [← leBytes_succ, List.append_assoc, cellsOf_append]
    rfl
  have hl : (cellsOf (leBytes b k)).length = k := by rw [cellsOf_length, leBytes_length]
  rw [e1, e2, List.set_append_right _ _ (by omega), hl, Nat.sub_self]
  rfl
set_option maxHeartbeats 1000000 in
theorem gzeros_any (n : Nat) (w : World) (hn : n ≤ 100000) : Calls Tryz.prog 98 #[.int .i64 (n : Int)] w fun e w' => e = .returned (.string (strOf (zeros n))) ∧ Keeps w w' (fun _ => False) := by
  have hR := fun W => Tryz.strings_Repeat ⟨#[0]⟩ n W (by omega) (by show 1 * n ≤ _; omega)
  have e1 : (⟨(Lib.repeatL (ByteArray.mk #[0]).data.toList n).toArray⟩ : ByteArray) = strOf (zeros n) := by
    show ByteArray.mk (Lib.repeatL [0] n).toArray = _
    rw [repeat_zero]
    rfl
  rw [e1] at hR
  go_enter Tryz.func98, Tryz.ntmps98
  go_wp2_with fail
  refine (hR _).mono ?_
  rintro r w1 ⟨rfl, k1⟩
  go_wp2_with fail
  go_ret
  exact ⟨rfl, Keeps.ofKp k1⟩

set_option maxHeartbeats 1000000 in
theorem birthBytes_any (b : Nat) (w : World) (hb : b ≤ 9223372036854775807) : Calls Tryz.prog 99 #[.int .i64 (b : Int)] w fun e w' => e = .returned (.string (strOf (leBytes b 8))) ∧ Keeps w w' (fun _ => False) := by
  obtain ⟨S, hS⟩ : ∃ S, strOf (leBytes b 8) = S := ⟨_, rfl⟩
  rw [hS]
  go_enter Tryz.func99, Tryz.ntmps99
  go_wp2_with fail
  go_loopw [5] (fun i wr => ∃ k : Nat, i = .int .i64 (k : Int) ∧ k ≤ 8 ∧ wr.heap[w.heap.size]? = some (.cells (rowOf (leBytes b k ++ zeros (8 - k))) 200) ∧ Keeps w wr (fun _ => False)) (fun i _ => 8 - (intOf i).toNat)
  case atStart => exact ⟨0, rfl, Nat.zero_le _, heap_alloc_new _ _, (Keeps.refl _ _).alloc _⟩
  case round =>
    obtain ⟨k, rfl, hk, hr, K⟩ := hrel
    by_cases hlt : k < 8
    · have hlt' : (k : Int) < 8 := by omega
      have hc : wr.cell? ⟨w.heap.size, k, none⟩ = some (.int .u8 ((((leBytes b k ++ zeros (8 - k))[k]'(by simp [leBytes_length, zeros_length]; omega)).toNat : Int))) := by
        simp only [World.cell?, hr]
        exact rowOf_get _ k (by simp [leBytes_length, zeros_length]; omega)
      have hf : wr.frozen? ⟨w.heap.size, k, none⟩ = false := by simp [World.frozen?, hr]
      have hr2 : (wr.setCell ⟨w.heap.size, k, none⟩ (.int .u8 ((lowB b k).toNat : Int))).heap[w.heap.size]? = some (.cells (rowOf (leBytes b (k + 1) ++ zeros (8 - (k + 1)))) 200) := by
        rw [setCell_eq_setRow wr w.heap.size k _ 200 (0, 0) _ hr, heap_setRow_same hr, le_mix b k hlt]
      have K2 : Keeps w (wr.setCell ⟨w.heap.size, k, none⟩ (.int .u8 ((lowB b k).toNat : Int))) (fun _ => False) := K.setCell ⟨w.heap.size, k, none⟩ (fun h => absurd h (Nat.lt_irrefl _)) _
      generalize ((leBytes b k ++ zeros (8 - k))[k]'(by simp [leBytes_length, zeros_length]; omega)).toNat = old at *
      clear hr K
      rw [← lowB_int] at hr2 K2
      go_wp2_with fail
      go_roundw
      case rel => exact ⟨k + 1, by go_num, by omega, hr2, K2⟩
      case measure => simp [intOf]; omega
    · have hkn : k = 8 := by omega
      subst hkn
      have htx := run_text wr ⟨w.heap.size, 0, none⟩ 8 8 (leBytes b 8) (leBytes_length b 8) (fun j hj => by
        rw [addr_add, Nat.zero_add]
        have := rowOf_get (leBytes b 8 ++ zeros (8 - 8)) j (by simp; omega)
        simp only [World.cell?, hr]
        simpa [List.getElem_append_left hj] using this)
      rw [hS] at htx
      have K2 := hide K
      clear hr K hS
      go_wp2_with fail
      go_ret
      exact ⟨rfl, K2.out⟩
end Go.Proofs.YtgckinldnnckoaaGreatDoor
/-
  Reset.
-/
namespace Go.Proofs.YtgckinldnnckoaaGreatDoor
open Go.RowKit Go.Shelf Ly Ct
set_option linter.unusedVariables false

theorem store_word {d : AD} {l : Lay} {off : Int} {d0 : AD} (hg : d0.goodB off l.g = true) (hv : validB l = true) (hd : ∀ a n, d.goodB a n = d0.goodB a n) (W : Nat) : storeR d off 8 W = (0, wordG d off W) := by
  have hvm := valid_more hv
  have hg8 : d.goodB off 8 = true := by
    have := good_sub hg (x := 0) (m := 8) (by omega) (by omega) (by omega)
    rw [Int.add_zero] at this
    rw [hd]
    exact this
  unfold storeR
  rw [hg8]
  rfl

set_option maxHeartbeats 4000000 in
theorem greset_any {w : World} {p : Nat} {F : Nat → Prop} {d : AD} (hA : Arena w p F d) (hF : d.Fine) (hFl : ∀ k, F k → k < w.heap.size) (l : Lay) (off : Int) (ho : fitsI off) (hn : fitsI l.g) :
    Calls Tryz.prog 58 #[.agg #[.pointer (some ⟨p, 0, none⟩), .int .i64 l.k, .int .i64 l.e, .int .i64 l.a, .int .i64 l.b, .int .i64 l.c, .int .i64 l.eo, .int .i64 l.bo, .int .i64 l.s, .int .i64 l.g, .int .i64 off]] w fun e w' => ErrPost w p F (resetG d l off).1 (resetG d l off).2 e w' := by
  have hT := fun V (k : Keeps w V (fun _ => False)) => there_any (hA.keeps k (fun _ _ _ e => e)) hF l off ho hn
  have hnB : ¬ F w.heap.size := fun q => Nat.lt_irrefl _ (hFl _ q)
  cases ht : thereB d l off
  · have hr : resetG d l off = (24, d) := by unfold resetG; rw [ht]; rfl
    rw [hr]
    simp only [ht] at hT
    go_enter Tryz.func58, Tryz.ntmps58
    go_wp2_with fail
    refine (hT _ ((Keeps.refl w (fun _ => False)).alloc _)).mono ?_
    rintro r w1 ⟨rfl, k1⟩
    have K1 : Keeps w w1 (fun _ => False) := ((Keeps.refl w (fun _ => False)).alloc _).trans k1 (fun _ _ e => e)
    have T1 := hide (hA.same K1)
    clear hT k1 hA
    go_wp2_with fail
    go_ret
    exact ⟨rfl, T1.out⟩
  · obtain ⟨hv, hg, ho1, ho2, ho3⟩ := there_more hF ht
    simp only [ht] at hT
    have hvm := valid_more hv
    have hfl : ∀ V (k : Keeps w V (fun _ => False)), Calls Tryz.prog 89 #[.pointer (some ⟨p, 0, none⟩), .int .i64 off, .int .i64 l.g, .int .u8 0] V fun e w' => ErrPost V p F 0 (d.bytes (splice d.bs off.toNat (zeros l.g.toNat))) e w' := fun V k => by
      have := afill_any (hA.keeps k (fun _ _ _ e => e)) hF off l.g 0 ho hn
      rw [show fillR d off l.g 0 = (0, d.bytes (splice d.bs off.toNat (zeros l.g.toNat))) from if_pos hg] at this
      exact this
    have hF1 : (d.bytes (splice d.bs off.toNat (zeros l.g.toNat))).Fine := hF.bytes (splice_length (by rw [zeros_length]; omega))
    have hres : resetG d l off = (0, wordG (d.bytes (splice d.bs off.toNat (zeros l.g.toNat))) off 9259542123273814144) := if_pos ht
    rw [hres]
    generalize hd1 : d.bytes (splice d.bs off.toNat (zeros l.g.toNat)) = d1 at *
    have hsw : ∀ V {G : Nat → Prop} (hA1 : Arena V p G d1), Calls Tryz.prog 90 #[.agg #[.pointer (some ⟨p, 0, none⟩), .int .i64 l.k, .int .i64 l.e, .int .i64 l.a, .int .i64 l.b, .int .i64 l.c, .int .i64 l.eo, .int .i64 l.bo, .int .i64 l.s, .int .i64 l.g, .int .i64 off], .int .u64 9259542123273814144] V fun e w' => ErrPost V p G 0 (wordG d1 off 9259542123273814144) e w' := fun V G hA1 => by
      have := setWord_any hA1 hF1 l off ho 9259542123273814144
      rw [store_word hg hv (fun a n => by rw [← hd1]; rfl)] at this
      exact this
    clear hd1 hres hvm
    go_enter Tryz.func58, Tryz.ntmps58
    go_wp2_with fail
    refine alloc1 (P := fun W => Calls _ _ _ W _) fun W0 hb hz K0 => ?_
    refine (hT _ K0).mono ?_
    rintro r w1 ⟨rfl, k1⟩
    have K1 : Keeps w w1 (fun _ => False) := K0.trans k1 (fun _ _ e => e)
    have C1 := c11_of (k1.blk hb)
    have C1' := C1
    obtain ⟨c0, c1, c2, c3, c4, c5, c6, c7, c8, c9, c10⟩ := C1'
    clear hT
    go_wp2_with fail
    refine (hfl _ K1).mono ?_
    rintro r w2 ⟨rfl, T2⟩
    have C2 := c11_keeps T2.2 hnB C1
    have hz2 : w.heap.size < w1.heap.size := by have := k1.size; omega
    clear c0 c1 c2 c3 c4 c5 c6 c7 c8 c9 c10
    have A2 := T2.arena
    have hnB2 : ¬ ((F w.heap.size ∨ w1.heap.size ≤ w.heap.size) ∧ w.heap.size < w2.heap.size) := fun q => q.1.elim hnB (fun q => by omega)
    go_wp2_with fail
    go_region_held3 (fun w' => w'.cell? ⟨w.heap.size, 0, none⟩ = some (.pointer (some ⟨p, 0, none⟩)) ∧ w'.cell? ⟨w.heap.size, 1, none⟩ = some (.int .i64 l.k) ∧ w'.cell? ⟨w.heap.size, 2, none⟩ = some (.int .i64 l.e) ∧ w'.cell? ⟨w.heap.size, 3, none⟩ = some (.int .i64 l.a) ∧ w'.cell? ⟨w.heap.size, 4, none⟩ = some (.int .i64 l.b) ∧ w'.cell? ⟨w.heap.size, 5, none⟩ = some (.int .i64 l.c) ∧ w'.cell? ⟨w.heap.size, 6, none⟩ = some (.int .i64 l.eo) ∧ w'.cell? ⟨w.heap.size, 7, none⟩ = some (.int .i64 l.bo) ∧ w'.cell? ⟨w.heap.size, 8, none⟩ = some (.int .i64 l.s) ∧ w'.cell? ⟨w.heap.size, 9, none⟩ = some (.int .i64 l.g) ∧ w'.cell? ⟨w.heap.size, 10, none⟩ = some (.int .i64 off)) (first | exact c11_drew C2 | exact c11_keeps T3.2 hnB2 (by assumption) | assumption)
      (first | (go_at_call 91; refine (empty_any _).mono ?_; rintro r wE ⟨rfl, rfl⟩) | (go_at_call 90; refine (hsw _ (A2.keeps (Keeps.refl _ (fun _ => False)).drew (fun _ _ _ e => e))).mono ?_; rintro r w3 ⟨rfl, T3⟩))
    have T9 : Hid (Turned w w3 p F _) := hide (Turned.pre K1 (T2.then (Turned.pre (Keeps.refl _ (fun _ => False)).drew T3)))
    clear T2 T3 A2
    go_wp2_with fail
    go_ret
    exact ⟨rfl, T9.out⟩
end Go.Proofs.YtgckinldnnckoaaGreatDoor
/-
  Erase.
-/
namespace Go.Proofs.YtgckinldnnckoaaGreatDoor
open Go.RowKit Go.Shelf Ly Ct
set_option linter.unusedVariables false

set_option maxHeartbeats 4000000 in
theorem gerase_any {w : World} {p : Nat} {F : Nat → Prop} {d : AD} (hA : Arena w p F d) (hF : d.Fine) (hFl : ∀ k, F k → k < w.heap.size) (l : Lay) (off i : Int) (t : Bool) (ho : fitsI off) (hn : fitsI l.g) :
    Calls Tryz.prog 64 #[.agg #[.pointer (some ⟨p, 0, none⟩), .int .i64 l.k, .int .i64 l.e, .int .i64 l.a, .int .i64 l.b, .int .i64 l.c, .int .i64 l.eo, .int .i64 l.bo, .int .i64 l.s, .int .i64 l.g, .int .i64 off], .int .i64 i, .bool t] w fun e w' => ErrPost w p F (eraseG d l off i t).1 (eraseG d l off i t).2 e w' := by
  have hI := fun W => gslot_any i W
  have hnB : ¬ F w.heap.size := fun q => Nat.lt_irrefl _ (hFl _ q)
  by_cases hi : 0 ≤ i ∧ i < 8
  · rw [decide_eq_true hi] at hI
    have hW := fun V (k : Keeps w V (fun _ => False)) => word_any (hA.keeps k (fun _ _ _ e => e)) hF l off ho hn
    unfold wordV at hW
    cases ht : thereB d l off
    · have hr : eraseG d l off i t = (24, d) := by unfold eraseG; rw [if_pos hi, ht]; rfl
      rw [hr]
      simp only [ht, Bool.false_eq_true, if_false] at hW
      go_enter Tryz.func64, Tryz.ntmps64
      go_wp2_with fail
      refine (hI _).mono ?_
      rintro r w1 ⟨rfl, rfl⟩
      go_wp2_with fail
      refine (hW _ ((Keeps.refl w (fun _ => False)).alloc _)).mono ?_
      rintro r w1 ⟨rfl, k1⟩
      have K1 : Keeps w w1 (fun _ => False) := ((Keeps.refl w (fun _ => False)).alloc _).trans k1 (fun _ _ e => e)
      have T1 := hide (hA.same K1)
      clear hI hW k1 hA
      go_wp2_with fail
      go_ret
      exact ⟨rfl, T1.out⟩
    · simp only [ht, if_true] at hW
      obtain ⟨hv, hg, ho1, ho2, ho3⟩ := there_more hF ht
      have hvm := valid_more hv
      obtain ⟨n, rfl⟩ := Int.eq_ofNat_of_zero_le hi.1
      have hn8 : n < 8 := by omega
      have hm := mul_bound hi.1 hi.2 (s := l.s) (by omega) (by omega)
      have hS := fun W => slotAt_any p l off (n : Int) W hv hi.1 hi.2 (by omega) (by omega)
      have hgs := good_sub hg (x := 8 + (n : Int) * l.s + 0) (m := l.s) (by omega) (by omega) (by omega)
      have hfl : ∀ V (k : Keeps w V (fun _ => False)), Calls Tryz.prog 89 #[.pointer (some ⟨p, 0, none⟩), .int .i64 (off + (8 + (n : Int) * l.s + 0)), .int .i64 l.s, .int .u8 0] V fun e w' => ErrPost V p F 0 (d.bytes (splice d.bs (off + (8 + (n : Int) * l.s + 0)).toNat (zeros l.s.toNat))) e w' := fun V k => by
        have := afill_any (hA.keeps k (fun _ _ _ e => e)) hF (off + (8 + (n : Int) * l.s + 0)) l.s 0 (fitsI_mk (by omega) (by omega)) (fitsI_mk (by omega) (by omega))
        rw [show fillR d (off + (8 + (n : Int) * l.s + 0)) l.s 0 = (0, d.bytes (splice d.bs (off + (8 + (n : Int) * l.s + 0)).toNat (zeros l.s.toNat))) from if_pos hgs] at this
        exact this
      have hF1 : (d.bytes (splice d.bs (off + (8 + (n : Int) * l.s + 0)).toNat (zeros l.s.toNat))).Fine := hF.bytes (splice_length (by rw [zeros_length]; omega))
      have hres : eraseG d l off n t = (0, wordG (d.bytes (splice d.bs (off + (8 + (n : Int) * l.s + 0)).toNat (zeros l.s.toNat))) off (setN (wordN d off) n (if t then 254 else 128))) := by
        unfold eraseG
        rw [if_pos hi, if_pos ht, Int.toNat_natCast]
        rfl
      rw [hres]
      have hct : (if t then 254 else 128) < 256 := by cases t <;> decide
      have hSt := fun V => set_in (wordN d off) n (if t then 254 else 128) wordN_lt hn8 hct V
      generalize wordN d off = WW at *
      generalize hd1 : d.bytes (splice d.bs (off + (8 + (n : Int) * l.s + 0)).toNat (zeros l.s.toNat)) = d1 at *
      have hsw : ∀ V {G : Nat → Prop} (hA1 : Arena V p G d1), Calls Tryz.prog 90 #[.agg #[.pointer (some ⟨p, 0, none⟩), .int .i64 l.k, .int .i64 l.e, .int .i64 l.a, .int .i64 l.b, .int .i64 l.c, .int .i64 l.eo, .int .i64 l.bo, .int .i64 l.s, .int .i64 l.g, .int .i64 off], .int .u64 ((setN WW n (if t then 254 else 128) : Nat) : Int)] V fun e w' => ErrPost V p G 0 (wordG d1 off (setN WW n (if t then 254 else 128))) e w' := fun V G hA1 => by
        have := setWord_any hA1 hF1 l off ho (setN WW n (if t then 254 else 128))
        rw [store_word hg hv (fun a n => by rw [← hd1]; rfl)] at this
        exact this
      generalize off + (8 + (n : Int) * l.s + 0) = Y at *
      generalize setN WW n (if t then 254 else 128) = W2 at *
      clear hd1 hres hvm hct hm hgs
      cases t
      all_goals (
        simp only [Bool.false_eq_true, if_false, if_true] at hSt
        go_enter Tryz.func64, Tryz.ntmps64
        go_wp2_with fail
        refine (hI _).mono ?_
        rintro r w1 ⟨rfl, rfl⟩
        go_wp2_with fail
        refine alloc1 (P := fun W => Calls _ _ _ W _) fun W0 hb hz K0 => ?_
        refine (hW _ K0).mono ?_
        rintro r w1 ⟨rfl, k1⟩
        have K1 : Keeps w w1 (fun _ => False) := K0.trans k1 (fun _ _ e => e)
        have C1 := c11_of (k1.blk hb)
        have hz2 : w.heap.size < w1.heap.size := by have := k1.size; omega
        clear hI hW
        go_wp2_with fail
        go_region_held3 (fun w' => w'.cell? ⟨w.heap.size, 0, none⟩ = some (.pointer (some ⟨p, 0, none⟩)) ∧ w'.cell? ⟨w.heap.size, 1, none⟩ = some (.int .i64 l.k) ∧ w'.cell? ⟨w.heap.size, 2, none⟩ = some (.int .i64 l.e) ∧ w'.cell? ⟨w.heap.size, 3, none⟩ = some (.int .i64 l.a) ∧ w'.cell? ⟨w.heap.size, 4, none⟩ = some (.int .i64 l.b) ∧ w'.cell? ⟨w.heap.size, 5, none⟩ = some (.int .i64 l.c) ∧ w'.cell? ⟨w.heap.size, 6, none⟩ = some (.int .i64 l.eo) ∧ w'.cell? ⟨w.heap.size, 7, none⟩ = some (.int .i64 l.bo) ∧ w'.cell? ⟨w.heap.size, 8, none⟩ = some (.int .i64 l.s) ∧ w'.cell? ⟨w.heap.size, 9, none⟩ = some (.int .i64 l.g) ∧ w'.cell? ⟨w.heap.size, 10, none⟩ = some (.int .i64 off)) (first | exact c11_drew C1 | exact c11_keeps T2.2 hnB (by assumption) | exact c11_keeps kS id (by assumption) | assumption)
          (first | (go_at_call 97; refine (hS _).mono ?_; rintro r wS ⟨rfl, kS⟩) | (go_at_call 89; have K2 : Keeps w wS (fun _ => False) := (K1.drew).trans kS (fun _ _ e => e); refine (hfl _ K2).mono ?_; rintro r w2 ⟨rfl, T2⟩))
        have C2 : C11 w.heap.size p l off w2 := by assumption
        have A2 := T2.arena
        have hzs : w.heap.size < wS.heap.size := by have := kS.size; simp at this; omega
        have hnB2 : ¬ ((F w.heap.size ∨ wS.heap.size ≤ w.heap.size) ∧ w.heap.size < w2.heap.size) := fun q => q.1.elim hnB (fun q => by omega)
        clear hS hfl
        go_wp2_with fail
        go_region_held3 (fun w' => w'.cell? ⟨w.heap.size, 0, none⟩ = some (.pointer (some ⟨p, 0, none⟩)) ∧ w'.cell? ⟨w.heap.size, 1, none⟩ = some (.int .i64 l.k) ∧ w'.cell? ⟨w.heap.size, 2, none⟩ = some (.int .i64 l.e) ∧ w'.cell? ⟨w.heap.size, 3, none⟩ = some (.int .i64 l.a) ∧ w'.cell? ⟨w.heap.size, 4, none⟩ = some (.int .i64 l.b) ∧ w'.cell? ⟨w.heap.size, 5, none⟩ = some (.int .i64 l.c) ∧ w'.cell? ⟨w.heap.size, 6, none⟩ = some (.int .i64 l.eo) ∧ w'.cell? ⟨w.heap.size, 7, none⟩ = some (.int .i64 l.bo) ∧ w'.cell? ⟨w.heap.size, 8, none⟩ = some (.int .i64 l.s) ∧ w'.cell? ⟨w.heap.size, 9, none⟩ = some (.int .i64 l.g) ∧ w'.cell? ⟨w.heap.size, 10, none⟩ = some (.int .i64 off)) (first | exact c11_drew C2 | exact c11_keeps T3.2 hnB2 (by assumption) | exact c11_keeps (Keeps.ofKp kE) id (by assumption) | assumption)
          (first | (go_at_call 100; refine (hSt _).mono ?_; rintro r wE ⟨rfl, kE⟩) | (go_at_call 90; have K3 : Keeps w2 wE (fun _ => False) := (Keeps.refl _ (fun _ => False)).drew.trans (Keeps.ofKp kE) (fun _ _ e => e); refine (hsw _ (A2.keeps K3 (fun _ _ _ e => e))).mono ?_; rintro r w3 ⟨rfl, T3⟩))
        have T9 : Hid (Turned w w3 p F _) := hide (Turned.pre K2 (T2.then (Turned.pre K3 T3)))
        clear T2 T3 A2
        go_wp2_with fail
        go_ret
        exact ⟨rfl, T9.out⟩)
  · rw [decide_eq_false hi] at hI
    have hr : eraseG d l off i t = (60, d) := if_neg hi
    rw [hr]
    have T1 := fun W (k : Keeps w W (fun _ => False)) => hide (hA.same k)
    clear hA
    go_enter Tryz.func64, Tryz.ntmps64
    go_wp2_with fail
    refine (hI _).mono ?_
    rintro r w1 ⟨rfl, rfl⟩
    go_wp2_with fail
    go_ret
    exact ⟨rfl, (T1 _ ((Keeps.refl w (fun _ => False)).alloc _)).out⟩
end Go.Proofs.YtgckinldnnckoaaGreatDoor
/-
  Prune.
-/
namespace Go.Proofs.YtgckinldnnckoaaGreatDoor
open Go.RowKit Go.Shelf Ly Ct
set_option linter.unusedVariables false

theorem count8 (f : Nat → Bool) : (List.range 8).countP f = (f 0).toNat + (f 1).toNat + (f 2).toNat + (f 3).toNat + (f 4).toNat + (f 5).toNat + (f 6).toNat + (f 7).toNat := by
  have h : ∀ b : Bool, (if b = true then 1 else 0) = b.toNat := by decide
  rw [show List.range 8 = [0, 1, 2, 3, 4, 5, 6, 7] from rfl]
  simp only [List.countP_cons, List.countP_nil, h]
  omega
theorem gone_cnt (W : Nat) : cntM (mk (fun x => x == 128 || x == 254) W) = cntM (mk (· == 128) W) + goneN W := by
  have h : ∀ x : Nat, (x == 128 || x == 254).toNat = (x == 128).toNat + (x == 254).toNat := fun x => by
    by_cases h1 : x = 128
    · subst h1
      rfl
    · by_cases h2 : x = 254
      · subst h2
        rfl
      · have e1 : (x == 128) = false := by simpa using h1
        have e2 : (x == 254) = false := by simpa using h2
        rw [e1, e2]
        rfl
  unfold goneN
  rw [cntM_mk, cntM_mk, count8]
  unfold sum8
  simp only [h]
  omega
end Go.Proofs.YtgckinldnnckoaaGreatDoor
