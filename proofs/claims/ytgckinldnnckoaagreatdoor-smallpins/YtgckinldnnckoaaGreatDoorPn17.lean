import Derived.Test.YtgckinldnnckoaaGreatDoorPn16
/-
  small's law: turn, leaf by leaf (made by gensn6.py).
-/
namespace Go.Proofs.YtgckinldnnckoaaGreatDoor
open Go.RowKit Go.Shelf Ly Ct
set_option linter.unusedVariables false
/-- What stands while the law goes on. -/
structure SEnv (w0 : World) (b q m seed : Nat) (g : List UInt8 → Option Nat) : Prop where
  tab : TabAt w0
  odd : Oc.OddAt w0
  sd : seed < 18446744073709551616
  gl : ∀ k x, g k = some x → x < 18446744073709551616
  qb : q ≠ b
  mb : m ≠ b
  wb : w0.heap.size ≤ b
def TurnS (hd : Int × Int × Int × Nat) (w0 : World) (b p : Nat) (l : Lay) (off q m nm seed : Nat) (X : Nat → Prop) (g : List UInt8 → Option Nat) (ad : Int) (e : Ending) (w' : World) : Prop := e = .returned (.bool true) ∧ ∃ d' f' c' ad', SB hd w0 b p l off q m nm seed X g d' f' c' c' ad' w' ∧ 0 ≤ ad' ∧ ad' ≤ ad + 1
theorem three_T {W : World} {q : Nat} {a b c : Value} {t : TypeId} (h : W.heap[q]? = some (.cells #[a, b, c] t)) : W.cell? ⟨q, 0, none⟩ = some a ∧ W.cell? ⟨q, 1, none⟩ = some b ∧ W.cell? ⟨q, 2, none⟩ = some c := by
  simp [World.cell?, h]
theorem tagF_lt (g : List UInt8 → Option Nat) (seed : Nat) (k : ByteArray) : tagF g seed k < 128 := Nat.mod_lt _ (by decide)
section
variable {hd : Int × Int × Int × Nat} {w0 : World} {b p : Nat} {l : Lay} {off q m nm seed : Nat} {X : Nat → Prop} {g : List UInt8 → Option Nat} {d : AD} {f : Nat → Int} {c : Nat → GC} {ad : Int} {w : World}

set_option maxRecDepth 100000 in
set_option maxHeartbeats 8000000 in
theorem turn_other (h : SB hd w0 b p l off q m nm seed X g d f c c ad w) (E : SEnv w0 b q m seed g) (h0 : 0 ≤ ad) (h1 : ad ≤ 17592186044000) (kk ee : Int) (he : fitsI ee) (kd : Int) (hk1 : kd ≠ 1) (hk2 : kd ≠ 2) (hk3 : kd ≠ 3) :
    Calls Tryz.prog 9 #[.pointer (some ⟨b, 0, none⟩), .agg #[.int .i64 kd, .int .i64 kk, .int .i64 ee]] w fun e w' => TurnS hd w0 b p l off q m nm seed X g ad e w' := by
  have hvm := valid_more h.valid
  have hKey := fun W (k : Keeps w W (fun _ => False)) => skey_any (h.stay k).bn (h.stay k).orc (E.odd.kp ((h.stay k).own.keeps.below (Nat.le_refl _) (fun _ _ e => e))) E.sd (by omega) (by omega) kk E.gl
  have hPl := fun W (k : Keeps w W (fun _ => False)) => splace_any (h.stay k).bn (keyK l.k kk)
  have hKs := keyK_size l.k kk (by omega)
  have htg := tagF_lt g seed (keyK l.k kk)
  have hTab := fun W (k : Keeps w W (fun _ => False)) => E.tab.kp ((h.stay k).own.keeps.below (Nat.le_refl _) (fun _ _ e => e))
  have hfq := h.findEq (keyK l.k kk)
  have hem := h.emp
  have hNum := fun x W => snum_any x W
  have hf3 := h.f3
  have hcl := cntF_le c 8
  have e1 : (kd == 1) = false := beq_eq_false_iff_ne.2 hk1
  have e2 : (kd == 2) = false := beq_eq_false_iff_ne.2 hk2
  have e3 : (kd == 3) = false := beq_eq_false_iff_ne.2 hk3
  clear hk1 hk2 hk3
  have H := hide h
  have HE := hide E
  have Had := hide (And.intro h0 h1)
  clear h E hvm hKs htg hTab hfq hem he h0 h1 hf3 hcl
  generalize hKK : keyK l.k kk = K at *
  generalize htt : ((tagF g seed K : Nat) : Int) = tg at *
  clear hKK
  go_enter Tryz.func9, Tryz.ntmps9
  go_upto_region 1 with fail
  refine alloc1 (P := fun W => Code.wp _ _ _ _ W) fun W0 hb0 hz0 K0 => ?_
  obtain ⟨o0, o1, o2⟩ := three_T hb0
  have hKey0 := hKey _ K0
  clear hKey hz0
  generalize w.heap.size = B at *
  go_wp2_with fail
  (with_reducible refine hKey0.mono ?_)
  rintro r w1 ⟨rfl, k1⟩
  have K1 : Keeps w w1 (fun _ => False) := K0.trans k1 (fun _ _ e => e)
  have hb1 := k1.blk hb0
  obtain ⟨o0, o1, o2⟩ := three_T hb1
  have hPl1 := hPl _ K1
  clear hKey0 hPl k1 hb0 K0
  go_wp2_with fail
  (with_reducible refine hPl1.mono ?_)
  rintro r w1 ⟨rfl, rfl⟩
  clear hPl1
  have HF := hide (H.out.stay K1)
  clear K1 hb1
  generalize lowI (mkC c K) 8 = A at *
  generalize ((low (vcC c) 8 : Nat) : Int) = B2 at *
  go_wp2_with fail
  go_ret
  exact ⟨rfl, d, f, c, ad, HF.out, Had.out.1, by omega⟩

set_option maxRecDepth 100000 in
set_option maxHeartbeats 8000000 in
theorem turn_delno (h : SB hd w0 b p l off q m nm seed X g d f c c ad w) (E : SEnv w0 b q m seed g) (h0 : 0 ≤ ad) (h1 : ad ≤ 17592186044000) (kk ee : Int) (he : fitsI ee) (h8 : low (mkC c (keyK l.k kk)) 8 = 8) :
    Calls Tryz.prog 9 #[.pointer (some ⟨b, 0, none⟩), .agg #[.int .i64 2, .int .i64 kk, .int .i64 ee]] w fun e w' => TurnS hd w0 b p l off q m nm seed X g ad e w' := by
  have hvm := valid_more h.valid
  have hKey := fun W (k : Keeps w W (fun _ => False)) => skey_any (h.stay k).bn (h.stay k).orc (E.odd.kp ((h.stay k).own.keeps.below (Nat.le_refl _) (fun _ _ e => e))) E.sd (by omega) (by omega) kk E.gl
  have hPl := fun W (k : Keeps w W (fun _ => False)) => splace_any (h.stay k).bn (keyK l.k kk)
  have hKs := keyK_size l.k kk (by omega)
  have htg := tagF_lt g seed (keyK l.k kk)
  have hTab := fun W (k : Keeps w W (fun _ => False)) => E.tab.kp ((h.stay k).own.keeps.below (Nat.le_refl _) (fun _ _ e => e))
  have hfq := h.findEq (keyK l.k kk)
  have hem := h.emp
  have hNum := fun x W => snum_any x W
  have hf3 := h.f3
  have hcl := cntF_le c 8
  have hD := fun W (k : Keeps w W (fun _ => False)) => sdelete_no (h.stay k).own.here h.fine h.sm (hTab W k) ((tagF g seed (keyK l.k kk) : Nat) : Int) (keyK l.k kk) (by omega) (by omega) hKs (by rw [hfq]; exact h8)
  have hA : lowI (mkC c (keyK l.k kk)) 8 = -1 := by unfold lowI; rw [if_pos h8]
  rw [hA] at hPl
  clear hA h8
  have H := hide h
  have HE := hide E
  have Had := hide (And.intro h0 h1)
  clear h E hvm hKs htg hTab hfq hem he h0 h1 hf3 hcl
  generalize hKK : keyK l.k kk = K at *
  generalize htt : ((tagF g seed K : Nat) : Int) = tg at *
  clear hKK
  go_enter Tryz.func9, Tryz.ntmps9
  go_upto_region 1 with fail
  refine alloc1 (P := fun W => Code.wp _ _ _ _ W) fun W0 hb0 hz0 K0 => ?_
  obtain ⟨o0, o1, o2⟩ := three_T hb0
  have hKey0 := hKey _ K0
  clear hKey hz0
  generalize w.heap.size = B at *
  go_wp2_with fail
  (with_reducible refine hKey0.mono ?_)
  rintro r w1 ⟨rfl, k1⟩
  have K1 : Keeps w w1 (fun _ => False) := K0.trans k1 (fun _ _ e => e)
  have hb1 := k1.blk hb0
  obtain ⟨o0, o1, o2⟩ := three_T hb1
  have hPl1 := hPl _ K1
  clear hKey0 hPl k1 hb0 K0
  go_wp2_with fail
  (with_reducible refine hPl1.mono ?_)
  rintro r w1 ⟨rfl, rfl⟩
  clear hPl1
  have hD1 := hD _ K1
  obtain ⟨s0, s1, s2, s3, s4, s5, s6, s7, s8, s9, s10⟩ := (H.out.stay K1).bn.small
  clear hD
  generalize ((low (vcC c) 8 : Nat) : Int) = B2 at *
  go_wp2_with fail
  (with_reducible refine hD1.mono ?_)
  rintro r w3 ⟨rfl, k3⟩
  have HF := hide (H.out.stay (K1.trans k3 (fun _ _ e => e)))
  clear hD1 s0 s1 s2 s3 s4 s5 s6 s7 s8 s9 s10 K1 hb1 k3
  go_wp2_with fail
  (with_reducible refine (hNum _ _).mono ?_)
  rintro r w6 ⟨rfl, rfl⟩
  go_wp2_with fail
  go_ret
  exact ⟨rfl, d, f, c, ad, HF.out, Had.out.1, by omega⟩

set_option maxRecDepth 100000 in
set_option maxHeartbeats 8000000 in
theorem turn_askno (h : SB hd w0 b p l off q m nm seed X g d f c c ad w) (E : SEnv w0 b q m seed g) (h0 : 0 ≤ ad) (h1 : ad ≤ 17592186044000) (kk ee : Int) (he : fitsI ee) (h8 : low (mkC c (keyK l.k kk)) 8 = 8) :
    Calls Tryz.prog 9 #[.pointer (some ⟨b, 0, none⟩), .agg #[.int .i64 3, .int .i64 kk, .int .i64 ee]] w fun e w' => TurnS hd w0 b p l off q m nm seed X g ad e w' := by
  have hvm := valid_more h.valid
  have hKey := fun W (k : Keeps w W (fun _ => False)) => skey_any (h.stay k).bn (h.stay k).orc (E.odd.kp ((h.stay k).own.keeps.below (Nat.le_refl _) (fun _ _ e => e))) E.sd (by omega) (by omega) kk E.gl
  have hPl := fun W (k : Keeps w W (fun _ => False)) => splace_any (h.stay k).bn (keyK l.k kk)
  have hKs := keyK_size l.k kk (by omega)
  have htg := tagF_lt g seed (keyK l.k kk)
  have hTab := fun W (k : Keeps w W (fun _ => False)) => E.tab.kp ((h.stay k).own.keeps.below (Nat.le_refl _) (fun _ _ e => e))
  have hfq := h.findEq (keyK l.k kk)
  have hem := h.emp
  have hNum := fun x W => snum_any x W
  have hf3 := h.f3
  have hcl := cntF_le c 8
  have hFi := fun W (k : Keeps w W (fun _ => False)) => sfind_any (h.stay k).own.here h.fine h.sm (hTab W k) ((tagF g seed (keyK l.k kk) : Nat) : Int) (keyK l.k kk) (by omega) (by omega) hKs
  have hGe : ∀ W (k : Keeps w W (fun _ => False)), Calls Tryz.prog 35 #[.agg #[.pointer (some ⟨p, 0, none⟩), .int .i64 l.k, .int .i64 l.e, .int .i64 l.a, .int .i64 l.b, .int .i64 l.c, .int .i64 l.eo, .int .i64 l.bo, .int .i64 l.s, .int .i64 l.g, .int .i64 (off : Int)], .int .i64 ((tagF g seed (keyK l.k kk) : Nat) : Int), .string (keyK l.k kk)] W fun e w' => e = .returned (.tuple #[.agg #[.int .i64 0, .int .i64 0, .string ⟨#[]⟩, .string ⟨#[]⟩, .int .i64 0], .int .i64 0]) ∧ Keeps W w' (fun _ => False) := fun W k => by
    have := sget_any (h.stay k).own.here h.fine h.sm (hTab W k) ((tagF g seed (keyK l.k kk) : Nat) : Int) (keyK l.k kk) (by omega) (by omega) hKs
    rw [hfq, if_pos h8] at this
    exact this
  have hA : lowI (mkC c (keyK l.k kk)) 8 = -1 := by unfold lowI; rw [if_pos h8]
  unfold sltI at hFi
  rw [hfq, if_pos h8] at hFi
  rw [hA] at hPl
  clear hA h8
  have H := hide h
  have HE := hide E
  have Had := hide (And.intro h0 h1)
  clear h E hvm hKs htg hTab hfq hem he h0 h1 hf3 hcl
  generalize hKK : keyK l.k kk = K at *
  generalize htt : ((tagF g seed K : Nat) : Int) = tg at *
  clear hKK
  go_enter Tryz.func9, Tryz.ntmps9
  go_upto_region 1 with fail
  refine alloc1 (P := fun W => Code.wp _ _ _ _ W) fun W0 hb0 hz0 K0 => ?_
  obtain ⟨o0, o1, o2⟩ := three_T hb0
  have hKey0 := hKey _ K0
  clear hKey hz0
  generalize w.heap.size = B at *
  go_wp2_with fail
  (with_reducible refine hKey0.mono ?_)
  rintro r w1 ⟨rfl, k1⟩
  have K1 : Keeps w w1 (fun _ => False) := K0.trans k1 (fun _ _ e => e)
  have hb1 := k1.blk hb0
  obtain ⟨o0, o1, o2⟩ := three_T hb1
  have hPl1 := hPl _ K1
  clear hKey0 hPl k1 hb0 K0
  go_wp2_with fail
  (with_reducible refine hPl1.mono ?_)
  rintro r w1 ⟨rfl, rfl⟩
  clear hPl1
  have hF1 := hFi _ K1
  obtain ⟨s0, s1, s2, s3, s4, s5, s6, s7, s8, s9, s10⟩ := (H.out.stay K1).bn.small
  clear hFi
  generalize ((low (vcC c) 8 : Nat) : Int) = B2 at *
  go_wp2_with fail
  (with_reducible refine hF1.mono ?_)
  rintro r w3 ⟨rfl, k3⟩
  have K3 : Keeps w w3 (fun _ => False) := K1.trans k3 (fun _ _ e => e)
  obtain ⟨s0, s1, s2, s3, s4, s5, s6, s7, s8, s9, s10⟩ := (H.out.stay K3).bn.small
  have hG3 := hGe _ K3
  clear hF1 hGe K1 hb1 k3 o0 o1 o2
  go_wp2_with fail
  (with_reducible refine hG3.mono ?_)
  rintro r w4 ⟨rfl, k4⟩
  have K4 : Keeps w w4 (fun _ => False) := K3.trans k4 (fun _ _ e => e)
  have HsB := hide K4.size
  clear hG3 s0 s1 s2 s3 s4 s5 s6 s7 s8 s9 s10 K3 k4
  go_upto_region 26 with fail
  refine alloc2 (P := fun W => Code.wp _ _ _ _ W) fun W5 hb5 hc5 hz5 k5 => ?_
  have K5 : Keeps w W5 (fun _ => False) := K4.trans k5 (fun _ _ e => e)
  clear k5 hz5 K4
  generalize w4.heap.size = B5 at *
  obtain ⟨d0, d1, d2, d3, d4, -⟩ := five_cells hb5
  obtain ⟨e0, e1, e2, e3, e4, -⟩ := five_cells hc5
  have HF := hide (H.out.stay K5)
  have hee : ((⟨#[]⟩ : ByteArray).toList == (⟨#[]⟩ : ByteArray).toList) = true := by simp
  clear hb5 hc5 K5
  go_wp2_with fail
  (with_reducible refine (hNum _ _).mono ?_)
  rintro r w6 ⟨rfl, rfl⟩
  go_wp2_with fail
  (with_reducible refine (hNum _ _).mono ?_)
  rintro r w6 ⟨rfl, rfl⟩
  go_wp2_with fail
  go_ret
  exact ⟨rfl, d, f, c, ad, HF.out, Had.out.1, by omega⟩

set_option maxRecDepth 100000 in
set_option maxHeartbeats 8000000 in
theorem turn_askyes (h : SB hd w0 b p l off q m nm seed X g d f c c ad w) (E : SEnv w0 b q m seed g) (h0 : 0 ≤ ad) (h1 : ad ≤ 17592186044000) (kk ee : Int) (he : fitsI ee) (h8 : ¬ low (mkC c (keyK l.k kk)) 8 = 8) :
    Calls Tryz.prog 9 #[.pointer (some ⟨b, 0, none⟩), .agg #[.int .i64 3, .int .i64 kk, .int .i64 ee]] w fun e w' => TurnS hd w0 b p l off q m nm seed X g ad e w' := by
  have hvm := valid_more h.valid
  have hKey := fun W (k : Keeps w W (fun _ => False)) => skey_any (h.stay k).bn (h.stay k).orc (E.odd.kp ((h.stay k).own.keeps.below (Nat.le_refl _) (fun _ _ e => e))) E.sd (by omega) (by omega) kk E.gl
  have hPl := fun W (k : Keeps w W (fun _ => False)) => splace_any (h.stay k).bn (keyK l.k kk)
  have hKs := keyK_size l.k kk (by omega)
  have htg := tagF_lt g seed (keyK l.k kk)
  have hTab := fun W (k : Keeps w W (fun _ => False)) => E.tab.kp ((h.stay k).own.keeps.below (Nat.le_refl _) (fun _ _ e => e))
  have hfq := h.findEq (keyK l.k kk)
  have hem := h.emp
  have hNum := fun x W => snum_any x W
  have hf3 := h.f3
  have hcl := cntF_le c 8
  have hi8 : low (mkC c (keyK l.k kk)) 8 < 8 := by have := low_bound (mkC c (keyK l.k kk)) 8 (Nat.le_refl _); omega
  have hFi := fun W (k : Keeps w W (fun _ => False)) => sfind_any (h.stay k).own.here h.fine h.sm (hTab W k) ((tagF g seed (keyK l.k kk) : Nat) : Int) (keyK l.k kk) (by omega) (by omega) hKs
  have hGe : ∀ W (k : Keeps w W (fun _ => False)), Calls Tryz.prog 35 #[.agg #[.pointer (some ⟨p, 0, none⟩), .int .i64 l.k, .int .i64 l.e, .int .i64 l.a, .int .i64 l.b, .int .i64 l.c, .int .i64 l.eo, .int .i64 l.bo, .int .i64 l.s, .int .i64 l.g, .int .i64 (off : Int)], .int .i64 ((tagF g seed (keyK l.k kk) : Nat) : Int), .string (keyK l.k kk)] W fun e w' => CellPost W (c (low (mkC c (keyK l.k kk)) 8)) 0 e w' := fun W k => by
    have := sget_any (h.stay k).own.here h.fine h.sm (hTab W k) ((tagF g seed (keyK l.k kk) : Nat) : Int) (keyK l.k kk) (by omega) (by omega) hKs
    rw [hfq, if_neg h8] at this
    exact this
  have hA : lowI (mkC c (keyK l.k kk)) 8 = ((low (mkC c (keyK l.k kk)) 8 : Nat) : Int) := by unfold lowI; rw [if_neg h8]
  unfold sltI at hFi
  rw [hfq, if_neg h8] at hFi
  rw [hA] at hPl
  generalize low (mkC c (keyK l.k kk)) 8 = i at *
  have hi0 : (0 : Int) ≤ (i : Int) := by omega
  have hi9 : (i : Int) < 8 := by omega
  have HCi := hide (fun W (k : Keeps w W (fun _ => False)) => (h.stay k).bn.at hi8)
  unfold CellPost GC.val at hGe
  obtain ⟨⟨xk, xt, xy, xe, xb⟩, hx⟩ : ∃ x, c i = x := ⟨_, rfl⟩
  rw [hx] at hGe HCi
  dsimp only at hGe HCi
  clear hA h8 hi8 hx
  have H := hide h
  have HE := hide E
  have Had := hide (And.intro h0 h1)
  clear h E hvm hKs htg hTab hfq hem he h0 h1 hf3 hcl
  generalize hKK : keyK l.k kk = K at *
  generalize htt : ((tagF g seed K : Nat) : Int) = tg at *
  clear hKK
  go_enter Tryz.func9, Tryz.ntmps9
  go_upto_region 1 with fail
  refine alloc1 (P := fun W => Code.wp _ _ _ _ W) fun W0 hb0 hz0 K0 => ?_
  obtain ⟨o0, o1, o2⟩ := three_T hb0
  have hKey0 := hKey _ K0
  clear hKey hz0
  generalize w.heap.size = B at *
  go_wp2_with fail
  (with_reducible refine hKey0.mono ?_)
  rintro r w1 ⟨rfl, k1⟩
  have K1 : Keeps w w1 (fun _ => False) := K0.trans k1 (fun _ _ e => e)
  have hb1 := k1.blk hb0
  obtain ⟨o0, o1, o2⟩ := three_T hb1
  have hPl1 := hPl _ K1
  clear hKey0 hPl k1 hb0 K0
  go_wp2_with fail
  (with_reducible refine hPl1.mono ?_)
  rintro r w1 ⟨rfl, rfl⟩
  clear hPl1
  have hF1 := hFi _ K1
  obtain ⟨s0, s1, s2, s3, s4, s5, s6, s7, s8, s9, s10⟩ := (H.out.stay K1).bn.small
  clear hFi
  generalize ((low (vcC c) 8 : Nat) : Int) = B2 at *
  go_wp2_with fail
  (with_reducible refine hF1.mono ?_)
  rintro r w3 ⟨rfl, k3⟩
  have K3 : Keeps w w3 (fun _ => False) := K1.trans k3 (fun _ _ e => e)
  obtain ⟨s0, s1, s2, s3, s4, s5, s6, s7, s8, s9, s10⟩ := (H.out.stay K3).bn.small
  have hG3 := hGe _ K3
  clear hF1 hGe K1 hb1 k3 o0 o1 o2
  go_wp2_with fail
  (with_reducible refine hG3.mono ?_)
  rintro r w4 ⟨rfl, k4⟩
  have K4 : Keeps w w4 (fun _ => False) := K3.trans k4 (fun _ _ e => e)
  have HsB := hide K4.size
  clear hG3 s0 s1 s2 s3 s4 s5 s6 s7 s8 s9 s10 K3 k4
  go_upto_region 26 with fail
  refine alloc2 (P := fun W => Code.wp _ _ _ _ W) fun W5 hb5 hc5 hz5 k5 => ?_
  have K5 : Keeps w W5 (fun _ => False) := K4.trans k5 (fun _ _ e => e)
  clear k5 hz5 K4
  generalize w4.heap.size = B5 at *
  obtain ⟨d0, d1, d2, d3, d4, -⟩ := five_cells hb5
  obtain ⟨e0, e1, e2, e3, e4, f0, f1, f2, f3, f4⟩ := five_cells hc5
  obtain ⟨a0, a1, a2, a3, a4⟩ := HCi.out W5 K5
  have hyy : (xy.toList == xy.toList) = true := by simp
  have hee : (xe.toList == xe.toList) = true := by simp
  have HB5 := hide hb5
  clear HCi
  go_upto_region 28 with fail
  refine five_set hc5 K5 (fun h => by have := HsB.out; omega) (P := fun W => Code.wp _ _ _ _ W) fun W6 h6 k6 k56 => ?_
  obtain ⟨d0, d1, d2, d3, d4, -⟩ := five_cells ((k56.block B5 (heap_lt HB5.out) (by omega)).trans HB5.out)
  obtain ⟨e0, e1, e2, e3, e4, -⟩ := five_cells h6
  have HF := hide (H.out.stay k6)
  clear a0 a1 a2 a3 a4 f0 f1 f2 f3 f4 h6 k6 k56 HB5 hb5 hc5 K5
  go_wp2_with fail
  (with_reducible refine (hNum _ _).mono ?_)
  rintro r w6 ⟨rfl, rfl⟩
  go_wp2_with fail
  (with_reducible refine (hNum _ _).mono ?_)
  rintro r w6 ⟨rfl, rfl⟩
  go_wp2_with fail
  go_ret
  exact ⟨rfl, d, f, c, ad, HF.out, Had.out.1, by omega⟩

set_option maxRecDepth 100000 in
set_option maxHeartbeats 8000000 in
theorem turn_putroom (h : SB hd w0 b p l off q m nm seed X g d f c c ad w) (E : SEnv w0 b q m seed g) (h0 : 0 ≤ ad) (h1 : ad ≤ 17592186044000) (kk ee : Int) (he : fitsI ee) (h8 : low (mkC c (keyK l.k kk)) 8 = 8) (hv8 : low (vcC c) 8 = 8) :
    Calls Tryz.prog 9 #[.pointer (some ⟨b, 0, none⟩), .agg #[.int .i64 1, .int .i64 kk, .int .i64 ee]] w fun e w' => TurnS hd w0 b p l off q m nm seed X g ad e w' := by
  have hvm := valid_more h.valid
  have hKey := fun W (k : Keeps w W (fun _ => False)) => skey_any (h.stay k).bn (h.stay k).orc (E.odd.kp ((h.stay k).own.keeps.below (Nat.le_refl _) (fun _ _ e => e))) E.sd (by omega) (by omega) kk E.gl
  have hPl := fun W (k : Keeps w W (fun _ => False)) => splace_any (h.stay k).bn (keyK l.k kk)
  have hKs := keyK_size l.k kk (by omega)
  have htg := tagF_lt g seed (keyK l.k kk)
  have hTab := fun W (k : Keeps w W (fun _ => False)) => E.tab.kp ((h.stay k).own.keeps.below (Nat.le_refl _) (fun _ _ e => e))
  have hfq := h.findEq (keyK l.k kk)
  have hem := h.emp
  have hNum := fun x W => snum_any x W
  have hf3 := h.f3
  have hcl := cntF_le c 8
  have hYs : ((strOf (txL ee l.e.toNat)).size : Int) = l.e := by rw [str_size, txL_length]; omega
  have hTx := fun W => stext_any ee l.e.toNat W he (by omega)
  rw [show ((l.e.toNat : Nat) : Int) = l.e by omega] at hTx
  generalize hYY : strOf (txL ee l.e.toNat) = Y at *
  have hPu : ∀ W (k : Keeps w W (fun _ => False)), Calls Tryz.prog 32 #[.agg #[.pointer (some ⟨p, 0, none⟩), .int .i64 l.k, .int .i64 l.e, .int .i64 l.a, .int .i64 l.b, .int .i64 l.c, .int .i64 l.eo, .int .i64 l.bo, .int .i64 l.s, .int .i64 l.g, .int .i64 (off : Int)], .int .i64 ((tagF g seed (keyK l.k kk) : Nat) : Int), .string (keyK l.k kk), .string Y, .int .i64 ad] W fun e w' => e = .returned (.tuple #[.int .i64 3, .int .i64 0]) ∧ ∃ d5, SB hd w0 b p l off q m nm seed X g d5 f c c ad w' := fun W k => by
    refine (sput_room (h.stay k).own.here h.fine h.sm (hTab W k) ((tagF g seed (keyK l.k kk) : Nat) : Int) (keyK l.k kk) Y ad (by omega) (by omega) hKs hYs h0 (by rw [hfq]; exact h8) (by rw [hem]; exact hv8)).mono ?_
    rintro e w' ⟨rfl, k2⟩
    exact ⟨rfl, d, h.stay (k.trans k2 (fun _ _ e => e))⟩
  have hA : lowI (mkC c (keyK l.k kk)) 8 = -1 := by unfold lowI; rw [if_pos h8]
  rw [hA, hv8] at hPl
  clear hA h8 hv8 hYs hYY
  have H := hide h
  have HE := hide E
  have Had := hide (And.intro h0 h1)
  clear h E hvm hKs htg hTab hfq hem he h0 h1 hf3 hcl
  generalize hKK : keyK l.k kk = K at *
  generalize htt : ((tagF g seed K : Nat) : Int) = tg at *
  clear hKK
  go_enter Tryz.func9, Tryz.ntmps9
  go_upto_region 1 with fail
  refine alloc1 (P := fun W => Code.wp _ _ _ _ W) fun W0 hb0 hz0 K0 => ?_
  obtain ⟨o0, o1, o2⟩ := three_T hb0
  have hKey0 := hKey _ K0
  clear hKey hz0
  generalize w.heap.size = B at *
  go_wp2_with fail
  (with_reducible refine hKey0.mono ?_)
  rintro r w1 ⟨rfl, k1⟩
  have K1 : Keeps w w1 (fun _ => False) := K0.trans k1 (fun _ _ e => e)
  have hb1 := k1.blk hb0
  obtain ⟨o0, o1, o2⟩ := three_T hb1
  have hPl1 := hPl _ K1
  clear hKey0 hPl k1 hb0 K0
  go_wp2_with fail
  (with_reducible refine hPl1.mono ?_)
  rintro r w1 ⟨rfl, rfl⟩
  clear hPl1
  obtain ⟨n1, n2, n10, n24, n66⟩ := (H.out.stay K1).bn.nums
  have S0 : (fun w' : World => w'.cell? ⟨B, 2, none⟩ = some (.int .i64 ee) ∧ w'.cell? ⟨b, 2, none⟩ = some (.int .i64 l.e)) w1.drew := ⟨o2, n2⟩
  have HK1 := hide K1
  clear hb1 K1
  go_wp2_with fail
  go_region_held3 (fun w' : World => w'.cell? ⟨B, 2, none⟩ = some (.int .i64 ee) ∧ w'.cell? ⟨b, 2, none⟩ = some (.int .i64 l.e)) (first | with_reducible exact S0 | with_reducible assumption) (first | (go_at_call 31; (with_reducible refine (hTx _).mono ?_); rintro r w3 ⟨rfl, k3⟩; have S3 : (fun w' : World => w'.cell? ⟨B, 2, none⟩ = some (.int .i64 ee) ∧ w'.cell? ⟨b, 2, none⟩ = some (.int .i64 l.e)) w3 := ⟨keeps_cell k3 (fun e => e) S0.1, keeps_cell k3 (fun e => e) S0.2⟩))
  have K3 : Keeps w w3 (fun _ => False) := HK1.out.drew.trans k3 (fun _ _ e => e)
  obtain ⟨s0, s1, s2, s3, s4, s5, s6, s7, s8, s9, s10⟩ := (H.out.stay K3).bn.small
  obtain ⟨m1, m2, m10, m24, m66⟩ := (H.out.stay K3).bn.nums
  have S4 : (fun w' : World => w'.cell? ⟨b, 11, none⟩ = some (.pointer (some ⟨p, 0, none⟩)) ∧ w'.cell? ⟨b, 12, none⟩ = some (.int .i64 l.k) ∧ w'.cell? ⟨b, 13, none⟩ = some (.int .i64 l.e) ∧ w'.cell? ⟨b, 14, none⟩ = some (.int .i64 l.a) ∧ w'.cell? ⟨b, 15, none⟩ = some (.int .i64 l.b) ∧ w'.cell? ⟨b, 16, none⟩ = some (.int .i64 l.c) ∧ w'.cell? ⟨b, 17, none⟩ = some (.int .i64 l.eo) ∧ w'.cell? ⟨b, 18, none⟩ = some (.int .i64 l.bo) ∧ w'.cell? ⟨b, 19, none⟩ = some (.int .i64 l.s) ∧ w'.cell? ⟨b, 20, none⟩ = some (.int .i64 l.g) ∧ w'.cell? ⟨b, 21, none⟩ = some (.int .i64 (off : Int)) ∧ w'.cell? ⟨b, 66, none⟩ = some (.int .i64 ad)) w3.drew := ⟨s0, s1, s2, s3, s4, s5, s6, s7, s8, s9, s10, m66⟩
  have hP3 := hPu _ K3.drew
  have HK3 := hide K3
  clear hPu hTx S0 S3 n1 n2 n10 n24 n66 m1 m2 m10 m24 k3 K3 o0 o1 o2
  go_wp2_with fail
  go_region_held3 (fun w' : World => w'.cell? ⟨b, 11, none⟩ = some (.pointer (some ⟨p, 0, none⟩)) ∧ w'.cell? ⟨b, 12, none⟩ = some (.int .i64 l.k) ∧ w'.cell? ⟨b, 13, none⟩ = some (.int .i64 l.e) ∧ w'.cell? ⟨b, 14, none⟩ = some (.int .i64 l.a) ∧ w'.cell? ⟨b, 15, none⟩ = some (.int .i64 l.b) ∧ w'.cell? ⟨b, 16, none⟩ = some (.int .i64 l.c) ∧ w'.cell? ⟨b, 17, none⟩ = some (.int .i64 l.eo) ∧ w'.cell? ⟨b, 18, none⟩ = some (.int .i64 l.bo) ∧ w'.cell? ⟨b, 19, none⟩ = some (.int .i64 l.s) ∧ w'.cell? ⟨b, 20, none⟩ = some (.int .i64 l.g) ∧ w'.cell? ⟨b, 21, none⟩ = some (.int .i64 (off : Int)) ∧ w'.cell? ⟨b, 66, none⟩ = some (.int .i64 ad)) (first | with_reducible exact S4 | with_reducible assumption) (first | (go_at_call 32; (with_reducible refine hP3.mono ?_); rintro r w5 ⟨rfl, d5, hS5⟩; have S5 : (fun w' : World => w'.cell? ⟨b, 11, none⟩ = some (.pointer (some ⟨p, 0, none⟩)) ∧ w'.cell? ⟨b, 12, none⟩ = some (.int .i64 l.k) ∧ w'.cell? ⟨b, 13, none⟩ = some (.int .i64 l.e) ∧ w'.cell? ⟨b, 14, none⟩ = some (.int .i64 l.a) ∧ w'.cell? ⟨b, 15, none⟩ = some (.int .i64 l.b) ∧ w'.cell? ⟨b, 16, none⟩ = some (.int .i64 l.c) ∧ w'.cell? ⟨b, 17, none⟩ = some (.int .i64 l.eo) ∧ w'.cell? ⟨b, 18, none⟩ = some (.int .i64 l.bo) ∧ w'.cell? ⟨b, 19, none⟩ = some (.int .i64 l.s) ∧ w'.cell? ⟨b, 20, none⟩ = some (.int .i64 l.g) ∧ w'.cell? ⟨b, 21, none⟩ = some (.int .i64 (off : Int)) ∧ w'.cell? ⟨b, 66, none⟩ = some (.int .i64 ad)) w5 := by obtain ⟨t0, t1, t2, t3, t4, t5, t6, t7, t8, t9, t10⟩ := hS5.bn.small; exact ⟨t0, t1, t2, t3, t4, t5, t6, t7, t8, t9, t10, hS5.bn.nums.2.2.2.2⟩))
  have HS5 := hide hS5
  clear hS5 S4 S5 s0 s1 s2 s3 s4 s5 s6 s7 s8 s9 s10 m66 hP3
  go_wp2_with fail
  (with_reducible refine (hNum _ _).mono ?_)
  rintro r w6 ⟨rfl, rfl⟩
  go_wp2_with fail
  go_ret
  exact ⟨rfl, d5, f, c, ad, HS5.out, Had.out.1, by omega⟩

set_option maxRecDepth 100000 in
set_option maxHeartbeats 8000000 in
theorem turn_putold (h : SB hd w0 b p l off q m nm seed X g d f c c ad w) (E : SEnv w0 b q m seed g) (h0 : 0 ≤ ad) (h1 : ad ≤ 17592186044000) (kk ee : Int) (he : fitsI ee) (h8 : ¬ low (mkC c (keyK l.k kk)) 8 = 8) :
    Calls Tryz.prog 9 #[.pointer (some ⟨b, 0, none⟩), .agg #[.int .i64 1, .int .i64 kk, .int .i64 ee]] w fun e w' => TurnS hd w0 b p l off q m nm seed X g ad e w' := by
  have hvm := valid_more h.valid
  have hKey := fun W (k : Keeps w W (fun _ => False)) => skey_any (h.stay k).bn (h.stay k).orc (E.odd.kp ((h.stay k).own.keeps.below (Nat.le_refl _) (fun _ _ e => e))) E.sd (by omega) (by omega) kk E.gl
  have hPl := fun W (k : Keeps w W (fun _ => False)) => splace_any (h.stay k).bn (keyK l.k kk)
  have hKs := keyK_size l.k kk (by omega)
  have htg := tagF_lt g seed (keyK l.k kk)
  have hTab := fun W (k : Keeps w W (fun _ => False)) => E.tab.kp ((h.stay k).own.keeps.below (Nat.le_refl _) (fun _ _ e => e))
  have hfq := h.findEq (keyK l.k kk)
  have hem := h.emp
  have hNum := fun x W => snum_any x W
  have hf3 := h.f3
  have hcl := cntF_le c 8
  have hYs : ((strOf (txL ee l.e.toNat)).size : Int) = l.e := by rw [str_size, txL_length]; omega
  have hTx := fun W => stext_any ee l.e.toNat W he (by omega)
  rw [show ((l.e.toNat : Nat) : Int) = l.e by omega] at hTx
  generalize hYY : strOf (txL ee l.e.toNat) = Y at *
  have hi8 : low (mkC c (keyK l.k kk)) 8 < 8 := by have := low_bound (mkC c (keyK l.k kk)) 8 (Nat.le_refl _); omega
  have hk2 : (c (low (mkC c (keyK l.k kk)) 8)).kind = 2 := by
    have := (low_full (by rw [hfq]; exact h8)).2.1
    rw [hfq] at this
    exact this
  have hPu : ∀ W (k : Keeps w W (fun _ => False)), Calls Tryz.prog 32 #[.agg #[.pointer (some ⟨p, 0, none⟩), .int .i64 l.k, .int .i64 l.e, .int .i64 l.a, .int .i64 l.b, .int .i64 l.c, .int .i64 l.eo, .int .i64 l.bo, .int .i64 l.s, .int .i64 l.g, .int .i64 (off : Int)], .int .i64 ((tagF g seed (keyK l.k kk) : Nat) : Int), .string (keyK l.k kk), .string Y, .int .i64 ad] W fun e w' => e = .returned (.tuple #[.int .i64 1, .int .i64 0]) ∧ ∃ d5, SB hd w0 b p l off q m nm seed X g d5 f (updC c (low (mkC c (keyK l.k kk)) 8) { c (low (mkC c (keyK l.k kk)) 8) with elem := Y }) c ad w' := fun W k => by
    have hh := h.stay k
    have hp := sput_old hh.own.here h.fine h.sml (fun _ q => q.2) h.sm (hTab W k) ((tagF g seed (keyK l.k kk) : Nat) : Int) (keyK l.k kk) Y ad (by omega) (by omega) hKs hYs h0 (by rw [hfq]; exact h8)
    rw [hfq] at hp
    refine hp.mono ?_
    rintro e w' ⟨rfl, d5, ht, hto, hs⟩
    refine ⟨rfl, d5, hh.turn ht hto hs h.f0 h.f1 h.f2 ?_ (fun j hj e => ?_) (fun j hj => ?_)⟩
    · have := (cntF_upd c (low (mkC c (keyK l.k kk)) 8) { c (low (mkC c (keyK l.k kk)) 8) with elem := Y } 8).2 hi8
      rw [show fl1 { c (low (mkC c (keyK l.k kk)) 8) with elem := Y } = fl1 (c (low (mkC c (keyK l.k kk)) 8)) from rfl] at this
      rw [hf3]
      omega
    · unfold updC at e ⊢
      by_cases q : j = low (mkC c (keyK l.k kk)) 8
      · rw [if_pos q] at e ⊢
        exact h.tags _ hi8 hk2
      · rw [if_neg q] at e ⊢
        exact h.tags j hj e
    · unfold updC
      by_cases q : j = low (mkC c (keyK l.k kk)) 8
      · rw [if_pos q]
        exact Or.inr hk2
      · rw [if_neg q]
        exact h.kinds j hj
  have hA : lowI (mkC c (keyK l.k kk)) 8 = ((low (mkC c (keyK l.k kk)) 8 : Nat) : Int) := by unfold lowI; rw [if_neg h8]
  rw [hA] at hPl
  generalize low (mkC c (keyK l.k kk)) 8 = i at *
  have hi0 : (0 : Int) ≤ (i : Int) := by omega
  have hi9 : (i : Int) < 8 := by omega
  have Hi8 := hide hi8
  clear hA h8 hYs hYY hi8 hk2
  have H := hide h
  have HE := hide E
  have Had := hide (And.intro h0 h1)
  clear h E hvm hKs htg hTab hfq hem he h0 h1 hf3 hcl
  generalize hKK : keyK l.k kk = K at *
  generalize htt : ((tagF g seed K : Nat) : Int) = tg at *
  clear hKK
  go_enter Tryz.func9, Tryz.ntmps9
  go_upto_region 1 with fail
  refine alloc1 (P := fun W => Code.wp _ _ _ _ W) fun W0 hb0 hz0 K0 => ?_
  obtain ⟨o0, o1, o2⟩ := three_T hb0
  have hKey0 := hKey _ K0
  clear hKey hz0
  generalize w.heap.size = B at *
  go_wp2_with fail
  (with_reducible refine hKey0.mono ?_)
  rintro r w1 ⟨rfl, k1⟩
  have K1 : Keeps w w1 (fun _ => False) := K0.trans k1 (fun _ _ e => e)
  have hb1 := k1.blk hb0
  obtain ⟨o0, o1, o2⟩ := three_T hb1
  have hPl1 := hPl _ K1
  clear hKey0 hPl k1 hb0 K0
  go_wp2_with fail
  (with_reducible refine hPl1.mono ?_)
  rintro r w1 ⟨rfl, rfl⟩
  clear hPl1
  obtain ⟨n1, n2, n10, n24, n66⟩ := (H.out.stay K1).bn.nums
  have S0 : (fun w' : World => w'.cell? ⟨B, 2, none⟩ = some (.int .i64 ee) ∧ w'.cell? ⟨b, 2, none⟩ = some (.int .i64 l.e)) w1.drew := ⟨o2, n2⟩
  have HK1 := hide K1
  clear hb1 K1
  generalize ((low (vcC c) 8 : Nat) : Int) = B2 at *
  go_wp2_with fail
  go_region_held3 (fun w' : World => w'.cell? ⟨B, 2, none⟩ = some (.int .i64 ee) ∧ w'.cell? ⟨b, 2, none⟩ = some (.int .i64 l.e)) (first | with_reducible exact S0 | with_reducible assumption) (first | (go_at_call 31; (with_reducible refine (hTx _).mono ?_); rintro r w3 ⟨rfl, k3⟩; have S3 : (fun w' : World => w'.cell? ⟨B, 2, none⟩ = some (.int .i64 ee) ∧ w'.cell? ⟨b, 2, none⟩ = some (.int .i64 l.e)) w3 := ⟨keeps_cell k3 (fun e => e) S0.1, keeps_cell k3 (fun e => e) S0.2⟩))
  have K3 : Keeps w w3 (fun _ => False) := HK1.out.drew.trans k3 (fun _ _ e => e)
  obtain ⟨s0, s1, s2, s3, s4, s5, s6, s7, s8, s9, s10⟩ := (H.out.stay K3).bn.small
  obtain ⟨m1, m2, m10, m24, m66⟩ := (H.out.stay K3).bn.nums
  have S4 : (fun w' : World => w'.cell? ⟨b, 11, none⟩ = some (.pointer (some ⟨p, 0, none⟩)) ∧ w'.cell? ⟨b, 12, none⟩ = some (.int .i64 l.k) ∧ w'.cell? ⟨b, 13, none⟩ = some (.int .i64 l.e) ∧ w'.cell? ⟨b, 14, none⟩ = some (.int .i64 l.a) ∧ w'.cell? ⟨b, 15, none⟩ = some (.int .i64 l.b) ∧ w'.cell? ⟨b, 16, none⟩ = some (.int .i64 l.c) ∧ w'.cell? ⟨b, 17, none⟩ = some (.int .i64 l.eo) ∧ w'.cell? ⟨b, 18, none⟩ = some (.int .i64 l.bo) ∧ w'.cell? ⟨b, 19, none⟩ = some (.int .i64 l.s) ∧ w'.cell? ⟨b, 20, none⟩ = some (.int .i64 l.g) ∧ w'.cell? ⟨b, 21, none⟩ = some (.int .i64 (off : Int)) ∧ w'.cell? ⟨b, 66, none⟩ = some (.int .i64 ad)) w3.drew := ⟨s0, s1, s2, s3, s4, s5, s6, s7, s8, s9, s10, m66⟩
  have hP3 := hPu _ K3.drew
  have HK3 := hide K3
  clear hPu hTx S0 S3 n1 n2 n10 n24 n66 m1 m2 m10 m24 k3 K3 o0 o1 o2
  go_wp2_with fail
  go_region_held3 (fun w' : World => w'.cell? ⟨b, 11, none⟩ = some (.pointer (some ⟨p, 0, none⟩)) ∧ w'.cell? ⟨b, 12, none⟩ = some (.int .i64 l.k) ∧ w'.cell? ⟨b, 13, none⟩ = some (.int .i64 l.e) ∧ w'.cell? ⟨b, 14, none⟩ = some (.int .i64 l.a) ∧ w'.cell? ⟨b, 15, none⟩ = some (.int .i64 l.b) ∧ w'.cell? ⟨b, 16, none⟩ = some (.int .i64 l.c) ∧ w'.cell? ⟨b, 17, none⟩ = some (.int .i64 l.eo) ∧ w'.cell? ⟨b, 18, none⟩ = some (.int .i64 l.bo) ∧ w'.cell? ⟨b, 19, none⟩ = some (.int .i64 l.s) ∧ w'.cell? ⟨b, 20, none⟩ = some (.int .i64 l.g) ∧ w'.cell? ⟨b, 21, none⟩ = some (.int .i64 (off : Int)) ∧ w'.cell? ⟨b, 66, none⟩ = some (.int .i64 ad)) (first | with_reducible exact S4 | with_reducible assumption) (first | (go_at_call 32; (with_reducible refine hP3.mono ?_); rintro r w5 ⟨rfl, d5, hS5⟩; have S5 : (fun w' : World => w'.cell? ⟨b, 11, none⟩ = some (.pointer (some ⟨p, 0, none⟩)) ∧ w'.cell? ⟨b, 12, none⟩ = some (.int .i64 l.k) ∧ w'.cell? ⟨b, 13, none⟩ = some (.int .i64 l.e) ∧ w'.cell? ⟨b, 14, none⟩ = some (.int .i64 l.a) ∧ w'.cell? ⟨b, 15, none⟩ = some (.int .i64 l.b) ∧ w'.cell? ⟨b, 16, none⟩ = some (.int .i64 l.c) ∧ w'.cell? ⟨b, 17, none⟩ = some (.int .i64 l.eo) ∧ w'.cell? ⟨b, 18, none⟩ = some (.int .i64 l.bo) ∧ w'.cell? ⟨b, 19, none⟩ = some (.int .i64 l.s) ∧ w'.cell? ⟨b, 20, none⟩ = some (.int .i64 l.g) ∧ w'.cell? ⟨b, 21, none⟩ = some (.int .i64 (off : Int)) ∧ w'.cell? ⟨b, 66, none⟩ = some (.int .i64 ad)) w5 := by obtain ⟨t0, t1, t2, t3, t4, t5, t6, t7, t8, t9, t10⟩ := hS5.bn.small; exact ⟨t0, t1, t2, t3, t4, t5, t6, t7, t8, t9, t10, hS5.bn.nums.2.2.2.2⟩))
  have HS5 := hide hS5
  clear hS5 S4 S5 s0 s1 s2 s3 s4 s5 s6 s7 s8 s9 s10 m66 hP3
  go_wp2_with fail
  (with_reducible refine (hNum _ _).mono ?_)
  rintro r w6 ⟨rfl, rfl⟩
  obtain ⟨a0, a1, a2, a3, a4⟩ := HS5.out.bn.at Hi8.out
  have fz := HS5.out.bn.frozen (26 + i * 5 + 3)
  have HF := hide (HS5.out.bench ((Keeps.refl w6 (fun k => k = b)).setCell ⟨b, 26 + i * 5 + 3, none⟩ (fun _ => rfl) (.string Y)) (HS5.out.bn.elem Hi8.out Y) HE.out.qb HE.out.mb HE.out.wb)
  go_wp2_with fail
  go_ret
  exact ⟨rfl, d5, f, _, ad, HF.out, Had.out.1, by omega⟩

set_option maxRecDepth 100000 in
set_option maxHeartbeats 8000000 in
theorem turn_delyes (h : SB hd w0 b p l off q m nm seed X g d f c c ad w) (E : SEnv w0 b q m seed g) (h0 : 0 ≤ ad) (h1 : ad ≤ 17592186044000) (kk ee : Int) (he : fitsI ee) (h8 : ¬ low (mkC c (keyK l.k kk)) 8 = 8) :
    Calls Tryz.prog 9 #[.pointer (some ⟨b, 0, none⟩), .agg #[.int .i64 2, .int .i64 kk, .int .i64 ee]] w fun e w' => TurnS hd w0 b p l off q m nm seed X g ad e w' := by
  have hvm := valid_more h.valid
  have hKey := fun W (k : Keeps w W (fun _ => False)) => skey_any (h.stay k).bn (h.stay k).orc (E.odd.kp ((h.stay k).own.keeps.below (Nat.le_refl _) (fun _ _ e => e))) E.sd (by omega) (by omega) kk E.gl
  have hPl := fun W (k : Keeps w W (fun _ => False)) => splace_any (h.stay k).bn (keyK l.k kk)
  have hKs := keyK_size l.k kk (by omega)
  have htg := tagF_lt g seed (keyK l.k kk)
  have hTab := fun W (k : Keeps w W (fun _ => False)) => E.tab.kp ((h.stay k).own.keeps.below (Nat.le_refl _) (fun _ _ e => e))
  have hfq := h.findEq (keyK l.k kk)
  have hem := h.emp
  have hNum := fun x W => snum_any x W
  have hf3 := h.f3
  have hcl := cntF_le c 8
  have hi8 : low (mkC c (keyK l.k kk)) 8 < 8 := by have := low_bound (mkC c (keyK l.k kk)) 8 (Nat.le_refl _); omega
  have hk2 : (c (low (mkC c (keyK l.k kk)) 8)).kind = 2 := by
    have := (low_full (by rw [hfq]; exact h8)).2.1
    rw [hfq] at this
    exact this
  have hD : ∀ W (k : Keeps w W (fun _ => False)), Calls Tryz.prog 33 #[.agg #[.pointer (some ⟨p, 0, none⟩), .int .i64 l.k, .int .i64 l.e, .int .i64 l.a, .int .i64 l.b, .int .i64 l.c, .int .i64 l.eo, .int .i64 l.bo, .int .i64 l.s, .int .i64 l.g, .int .i64 (off : Int)], .int .i64 ((tagF g seed (keyK l.k kk) : Nat) : Int), .string (keyK l.k kk)] W fun e w' => e = .returned (.tuple #[.bool true, .int .i64 0]) ∧ ∃ d5, SB hd w0 b p l off q m nm seed X g d5 (updI f 3 (f 3 - 1)) (updC c (low (mkC c (keyK l.k kk)) 8) GC.zero) c ad w' := fun W k => by
    have hh := h.stay k
    have hp := sdelete_yes hh.own.here h.fine (fun _ q => q.2) h.sm (hTab W k) ((tagF g seed (keyK l.k kk) : Nat) : Int) (keyK l.k kk) (by omega) (by omega) hKs (by rw [hfq]; exact h8) (by omega) (by omega)
    rw [hfq] at hp
    refine hp.mono ?_
    rintro e w' ⟨rfl, d5, ht, hto, hs⟩
    refine ⟨rfl, d5, hh.turn ht hto hs h.f0 h.f1 h.f2 ?_ (fun j hj e => ?_) (fun j hj => ?_)⟩
    · have := (cntF_upd c (low (mkC c (keyK l.k kk)) 8) GC.zero 8).2 hi8
      unfold fl1 at this
      rw [if_pos hk2, if_neg (by decide)] at this
      show (if 3 = 3 then f 3 - 1 else f 3) = _
      rw [if_pos rfl, hf3]
      omega
    · unfold updC at e ⊢
      by_cases q : j = low (mkC c (keyK l.k kk)) 8
      · rw [if_pos q] at e
        exact absurd e (by decide)
      · rw [if_neg q] at e ⊢
        exact h.tags j hj e
    · unfold updC
      by_cases q : j = low (mkC c (keyK l.k kk)) 8
      · rw [if_pos q]
        exact Or.inl rfl
      · rw [if_neg q]
        exact h.kinds j hj
  have hA : lowI (mkC c (keyK l.k kk)) 8 = ((low (mkC c (keyK l.k kk)) 8 : Nat) : Int) := by unfold lowI; rw [if_neg h8]
  rw [hA] at hPl
  generalize low (mkC c (keyK l.k kk)) 8 = i at *
  have hi0 : (0 : Int) ≤ (i : Int) := by omega
  have hi9 : (i : Int) < 8 := by omega
  have Hi8 := hide hi8
  clear hA h8 hi8 hk2
  have H := hide h
  have HE := hide E
  have Had := hide (And.intro h0 h1)
  clear h E hvm hKs htg hTab hfq hem he h0 h1 hf3 hcl
  generalize hKK : keyK l.k kk = K at *
  generalize htt : ((tagF g seed K : Nat) : Int) = tg at *
  clear hKK
  go_enter Tryz.func9, Tryz.ntmps9
  go_upto_region 1 with fail
  refine alloc1 (P := fun W => Code.wp _ _ _ _ W) fun W0 hb0 hz0 K0 => ?_
  obtain ⟨o0, o1, o2⟩ := three_T hb0
  have hKey0 := hKey _ K0
  clear hKey hz0
  generalize w.heap.size = B at *
  go_wp2_with fail
  (with_reducible refine hKey0.mono ?_)
  rintro r w1 ⟨rfl, k1⟩
  have K1 : Keeps w w1 (fun _ => False) := K0.trans k1 (fun _ _ e => e)
  have hb1 := k1.blk hb0
  obtain ⟨o0, o1, o2⟩ := three_T hb1
  have hPl1 := hPl _ K1
  clear hKey0 hPl k1 hb0 K0
  go_wp2_with fail
  (with_reducible refine hPl1.mono ?_)
  rintro r w1 ⟨rfl, rfl⟩
  clear hPl1
  have hD1 := hD _ K1
  obtain ⟨s0, s1, s2, s3, s4, s5, s6, s7, s8, s9, s10⟩ := (H.out.stay K1).bn.small
  clear hD
  generalize ((low (vcC c) 8 : Nat) : Int) = B2 at *
  generalize updI f 3 (f 3 - 1) = ff at *
  go_wp2_with fail
  (with_reducible refine hD1.mono ?_)
  rintro r w3 ⟨rfl, d5, hS5⟩
  have HS5 := hide hS5
  clear hD1 s0 s1 s2 s3 s4 s5 s6 s7 s8 s9 s10 K1 hb1 hS5 o0 o1 o2
  obtain ⟨a0, a1, a2, a3, a4⟩ := HS5.out.bn.at Hi8.out
  have fz0 := HS5.out.bn.frozen (26 + i * 5)
  have fz1 := HS5.out.bn.frozen (26 + i * 5 + 1)
  have fz2 := HS5.out.bn.frozen (26 + i * 5 + 2)
  have fz3 := HS5.out.bn.frozen (26 + i * 5 + 3)
  have fz4 := HS5.out.bn.frozen (26 + i * 5 + 4)
  have hput := HS5.out.bn.put Hi8.out GC.zero
  have HF := hide (HS5.out.bench ((((((Keeps.refl w3 (fun k => k = b)).setCell ⟨b, 26 + i * 5, none⟩ (fun _ => rfl) (.int .i64 0)).setCell ⟨b, 26 + i * 5 + 1, none⟩ (fun _ => rfl) (.int .i64 0)).setCell ⟨b, 26 + i * 5 + 2, none⟩ (fun _ => rfl) (.string ⟨#[]⟩)).setCell ⟨b, 26 + i * 5 + 3, none⟩ (fun _ => rfl) (.string ⟨#[]⟩)).setCell ⟨b, 26 + i * 5 + 4, none⟩ (fun _ => rfl) (.int .i64 0)) hput HE.out.qb HE.out.mb HE.out.wb)
  clear hput
  go_wp2_with fail
  (with_reducible refine (hNum _ _).mono ?_)
  rintro r w6 ⟨rfl, hw6⟩
  have HF6 := HF
  rw [← hw6] at HF6
  clear HF hw6 a0 a1 a2 a3 a4 fz0 fz1 fz2 fz3 fz4
  go_wp2_with fail
  go_ret
  exact ⟨rfl, d5, ff, _, ad, HF6.out, Had.out.1, by omega⟩

set_option maxRecDepth 100000 in
set_option maxHeartbeats 8000000 in
theorem turn_putnew (h : SB hd w0 b p l off q m nm seed X g d f c c ad w) (E : SEnv w0 b q m seed g) (h0 : 0 ≤ ad) (h1 : ad ≤ 17592186044000) (kk ee : Int) (he : fitsI ee) (h8 : low (mkC c (keyK l.k kk)) 8 = 8) (hv8 : ¬ low (vcC c) 8 = 8) :
    Calls Tryz.prog 9 #[.pointer (some ⟨b, 0, none⟩), .agg #[.int .i64 1, .int .i64 kk, .int .i64 ee]] w fun e w' => TurnS hd w0 b p l off q m nm seed X g ad e w' := by
  have hvm := valid_more h.valid
  have hKey := fun W (k : Keeps w W (fun _ => False)) => skey_any (h.stay k).bn (h.stay k).orc (E.odd.kp ((h.stay k).own.keeps.below (Nat.le_refl _) (fun _ _ e => e))) E.sd (by omega) (by omega) kk E.gl
  have hPl := fun W (k : Keeps w W (fun _ => False)) => splace_any (h.stay k).bn (keyK l.k kk)
  have hKs := keyK_size l.k kk (by omega)
  have htg := tagF_lt g seed (keyK l.k kk)
  have hTab := fun W (k : Keeps w W (fun _ => False)) => E.tab.kp ((h.stay k).own.keeps.below (Nat.le_refl _) (fun _ _ e => e))
  have hfq := h.findEq (keyK l.k kk)
  have hem := h.emp
  have hNum := fun x W => snum_any x W
  have hf3 := h.f3
  have hcl := cntF_le c 8
  have hYs : ((strOf (txL ee l.e.toNat)).size : Int) = l.e := by rw [str_size, txL_length]; omega
  have hTx := fun W => stext_any ee l.e.toNat W he (by omega)
  rw [show ((l.e.toNat : Nat) : Int) = l.e by omega] at hTx
  generalize hYY : strOf (txL ee l.e.toNat) = Y at *
  have hi8 : low (vcC c) 8 < 8 := by have := low_bound (vcC c) 8 (Nat.le_refl _); omega
  have hkv : ¬ (c (low (vcC c) 8)).kind = 2 := by
    have := ((low_spec (vcC c) 8 (Nat.le_refl _)).2.1 hi8).1
    unfold vcC at this
    exact of_decide_eq_true this
  have hPu : ∀ W (k : Keeps w W (fun _ => False)), Calls Tryz.prog 32 #[.agg #[.pointer (some ⟨p, 0, none⟩), .int .i64 l.k, .int .i64 l.e, .int .i64 l.a, .int .i64 l.b, .int .i64 l.c, .int .i64 l.eo, .int .i64 l.bo, .int .i64 l.s, .int .i64 l.g, .int .i64 (off : Int)], .int .i64 ((tagF g seed (keyK l.k kk) : Nat) : Int), .string (keyK l.k kk), .string Y, .int .i64 ad] W fun e w' => e = .returned (.tuple #[.int .i64 2, .int .i64 0]) ∧ ∃ d5, SB hd w0 b p l off q m nm seed X g d5 (updI f 3 (f 3 + 1)) (updC c (low (vcC c) 8) (GC.full ((tagF g seed (keyK l.k kk) : Nat) : Int) (keyK l.k kk) Y ad)) c ad w' := fun W k => by
    have hh := h.stay k
    have hp := sput_new hh.own.here h.fine h.sml (fun _ q => q.2) h.sm (hTab W k) ((tagF g seed (keyK l.k kk) : Nat) : Int) (keyK l.k kk) Y ad (by omega) (by omega) hKs hYs h0 (by omega) (by rw [hfq]; exact h8) (by rw [hem]; exact hi8) (by omega) (by omega)
    rw [hem] at hp
    refine hp.mono ?_
    rintro e w' ⟨rfl, d5, ht, hto, hs⟩
    refine ⟨rfl, d5, hh.turn ht hto hs h.f0 h.f1 h.f2 ?_ (fun j hj e => ?_) (fun j hj => ?_)⟩
    · have := (cntF_upd c (low (vcC c) 8) (GC.full ((tagF g seed (keyK l.k kk) : Nat) : Int) (keyK l.k kk) Y ad) 8).2 hi8
      rw [show fl1 (c (low (vcC c) 8)) = 0 from if_neg hkv, show fl1 (GC.full ((tagF g seed (keyK l.k kk) : Nat) : Int) (keyK l.k kk) Y ad) = 1 from rfl] at this
      show (if 3 = 3 then f 3 + 1 else f 3) = _
      rw [if_pos rfl, hf3]
      omega
    · unfold updC at e ⊢
      by_cases q : j = low (vcC c) 8
      · rw [if_pos q]
        rfl
      · rw [if_neg q] at e ⊢
        exact h.tags j hj e
    · unfold updC
      by_cases q : j = low (vcC c) 8
      · rw [if_pos q]
        exact Or.inr rfl
      · rw [if_neg q]
        exact h.kinds j hj
  have hA : lowI (mkC c (keyK l.k kk)) 8 = -1 := by unfold lowI; rw [if_pos h8]
  rw [hA] at hPl
  generalize low (vcC c) 8 = i at *
  have hi0 : (0 : Int) ≤ (i : Int) := by omega
  have hi9 : (i : Int) < 8 := by omega
  have hin : ((i : Int) == 8) = false := by rw [beq_eq_false_iff_ne]; omega
  have Hi8 := hide hi8
  have hwa1 : wrap64 (ad + 1) = ad + 1 := by unfold wrap64; omega
  have hwa2 : IntKind.i64.wrap (ad + 1) = ad + 1 := by rw [IntKind.wrap_i64]; omega
  have Hwa := hide (And.intro hwa1 hwa2)
  clear hA h8 hYs hYY hi8 hkv hv8 hwa1 hwa2
  have H := hide h
  have HE := hide E
  have Had := hide (And.intro h0 h1)
  clear h E hvm hKs htg hTab hfq hem he h0 h1 hf3 hcl
  generalize hKK : keyK l.k kk = K at *
  generalize htt : ((tagF g seed K : Nat) : Int) = tg at *
  clear hKK
  go_enter Tryz.func9, Tryz.ntmps9
  go_upto_region 1 with fail
  refine alloc1 (P := fun W => Code.wp _ _ _ _ W) fun W0 hb0 hz0 K0 => ?_
  obtain ⟨o0, o1, o2⟩ := three_T hb0
  have hKey0 := hKey _ K0
  clear hKey hz0
  generalize w.heap.size = B at *
  go_wp2_with fail
  (with_reducible refine hKey0.mono ?_)
  rintro r w1 ⟨rfl, k1⟩
  have K1 : Keeps w w1 (fun _ => False) := K0.trans k1 (fun _ _ e => e)
  have hb1 := k1.blk hb0
  obtain ⟨o0, o1, o2⟩ := three_T hb1
  have hPl1 := hPl _ K1
  clear hKey0 hPl k1 hb0 K0
  go_wp2_with fail
  (with_reducible refine hPl1.mono ?_)
  rintro r w1 ⟨rfl, rfl⟩
  clear hPl1
  obtain ⟨n1, n2, n10, n24, n66⟩ := (H.out.stay K1).bn.nums
  have S0 : (fun w' : World => w'.cell? ⟨B, 2, none⟩ = some (.int .i64 ee) ∧ w'.cell? ⟨b, 2, none⟩ = some (.int .i64 l.e)) w1.drew := ⟨o2, n2⟩
  have HK1 := hide K1
  clear hb1 K1
  generalize updI f 3 (f 3 + 1) = ff at *
  go_wp2_with fail
  go_region_held3 (fun w' : World => w'.cell? ⟨B, 2, none⟩ = some (.int .i64 ee) ∧ w'.cell? ⟨b, 2, none⟩ = some (.int .i64 l.e)) (first | with_reducible exact S0 | with_reducible assumption) (first | (go_at_call 31; (with_reducible refine (hTx _).mono ?_); rintro r w3 ⟨rfl, k3⟩; have S3 : (fun w' : World => w'.cell? ⟨B, 2, none⟩ = some (.int .i64 ee) ∧ w'.cell? ⟨b, 2, none⟩ = some (.int .i64 l.e)) w3 := ⟨keeps_cell k3 (fun e => e) S0.1, keeps_cell k3 (fun e => e) S0.2⟩))
  have K3 : Keeps w w3 (fun _ => False) := HK1.out.drew.trans k3 (fun _ _ e => e)
  obtain ⟨s0, s1, s2, s3, s4, s5, s6, s7, s8, s9, s10⟩ := (H.out.stay K3).bn.small
  obtain ⟨m1, m2, m10, m24, m66⟩ := (H.out.stay K3).bn.nums
  have S4 : (fun w' : World => w'.cell? ⟨b, 11, none⟩ = some (.pointer (some ⟨p, 0, none⟩)) ∧ w'.cell? ⟨b, 12, none⟩ = some (.int .i64 l.k) ∧ w'.cell? ⟨b, 13, none⟩ = some (.int .i64 l.e) ∧ w'.cell? ⟨b, 14, none⟩ = some (.int .i64 l.a) ∧ w'.cell? ⟨b, 15, none⟩ = some (.int .i64 l.b) ∧ w'.cell? ⟨b, 16, none⟩ = some (.int .i64 l.c) ∧ w'.cell? ⟨b, 17, none⟩ = some (.int .i64 l.eo) ∧ w'.cell? ⟨b, 18, none⟩ = some (.int .i64 l.bo) ∧ w'.cell? ⟨b, 19, none⟩ = some (.int .i64 l.s) ∧ w'.cell? ⟨b, 20, none⟩ = some (.int .i64 l.g) ∧ w'.cell? ⟨b, 21, none⟩ = some (.int .i64 (off : Int)) ∧ w'.cell? ⟨b, 66, none⟩ = some (.int .i64 ad)) w3.drew := ⟨s0, s1, s2, s3, s4, s5, s6, s7, s8, s9, s10, m66⟩
  have hP3 := hPu _ K3.drew
  have HK3 := hide K3
  clear hPu hTx S0 S3 n1 n2 n10 n24 n66 m1 m2 m10 m24 k3 K3 o0 o1 o2
  go_wp2_with fail
  go_region_held3 (fun w' : World => w'.cell? ⟨b, 11, none⟩ = some (.pointer (some ⟨p, 0, none⟩)) ∧ w'.cell? ⟨b, 12, none⟩ = some (.int .i64 l.k) ∧ w'.cell? ⟨b, 13, none⟩ = some (.int .i64 l.e) ∧ w'.cell? ⟨b, 14, none⟩ = some (.int .i64 l.a) ∧ w'.cell? ⟨b, 15, none⟩ = some (.int .i64 l.b) ∧ w'.cell? ⟨b, 16, none⟩ = some (.int .i64 l.c) ∧ w'.cell? ⟨b, 17, none⟩ = some (.int .i64 l.eo) ∧ w'.cell? ⟨b, 18, none⟩ = some (.int .i64 l.bo) ∧ w'.cell? ⟨b, 19, none⟩ = some (.int .i64 l.s) ∧ w'.cell? ⟨b, 20, none⟩ = some (.int .i64 l.g) ∧ w'.cell? ⟨b, 21, none⟩ = some (.int .i64 (off : Int)) ∧ w'.cell? ⟨b, 66, none⟩ = some (.int .i64 ad)) (first | with_reducible exact S4 | with_reducible assumption) (first | (go_at_call 32; (with_reducible refine hP3.mono ?_); rintro r w5 ⟨rfl, d5, hS5⟩; have S5 : (fun w' : World => w'.cell? ⟨b, 11, none⟩ = some (.pointer (some ⟨p, 0, none⟩)) ∧ w'.cell? ⟨b, 12, none⟩ = some (.int .i64 l.k) ∧ w'.cell? ⟨b, 13, none⟩ = some (.int .i64 l.e) ∧ w'.cell? ⟨b, 14, none⟩ = some (.int .i64 l.a) ∧ w'.cell? ⟨b, 15, none⟩ = some (.int .i64 l.b) ∧ w'.cell? ⟨b, 16, none⟩ = some (.int .i64 l.c) ∧ w'.cell? ⟨b, 17, none⟩ = some (.int .i64 l.eo) ∧ w'.cell? ⟨b, 18, none⟩ = some (.int .i64 l.bo) ∧ w'.cell? ⟨b, 19, none⟩ = some (.int .i64 l.s) ∧ w'.cell? ⟨b, 20, none⟩ = some (.int .i64 l.g) ∧ w'.cell? ⟨b, 21, none⟩ = some (.int .i64 (off : Int)) ∧ w'.cell? ⟨b, 66, none⟩ = some (.int .i64 ad)) w5 := by obtain ⟨t0, t1, t2, t3, t4, t5, t6, t7, t8, t9, t10⟩ := hS5.bn.small; exact ⟨t0, t1, t2, t3, t4, t5, t6, t7, t8, t9, t10, hS5.bn.nums.2.2.2.2⟩))
  have HS5 := hide hS5
  clear hS5 S4 S5 s0 s1 s2 s3 s4 s5 s6 s7 s8 s9 s10 m66 hP3
  go_wp2_with fail
  (with_reducible refine (hNum _ _).mono ?_)
  rintro r w6 ⟨rfl, rfl⟩
  obtain ⟨a0, a1, a2, a3, a4⟩ := HS5.out.bn.at Hi8.out
  have fz0 := HS5.out.bn.frozen (26 + i * 5)
  have fz1 := HS5.out.bn.frozen (26 + i * 5 + 1)
  have fz2 := HS5.out.bn.frozen (26 + i * 5 + 2)
  have fz3 := HS5.out.bn.frozen (26 + i * 5 + 3)
  have fz4 := HS5.out.bn.frozen (26 + i * 5 + 4)
  have hput := HS5.out.bn.put Hi8.out (GC.full tg K Y ad)
  have hfb := HS5.out.bench ((((((Keeps.refl w6 (fun k => k = b)).setCell ⟨b, 26 + i * 5, none⟩ (fun _ => rfl) (.int .i64 2)).setCell ⟨b, 26 + i * 5 + 1, none⟩ (fun _ => rfl) (.int .i64 tg)).setCell ⟨b, 26 + i * 5 + 2, none⟩ (fun _ => rfl) (.string K)).setCell ⟨b, 26 + i * 5 + 3, none⟩ (fun _ => rfl) (.string Y)).setCell ⟨b, 26 + i * 5 + 4, none⟩ (fun _ => rfl) (.int .i64 ad)) hput HE.out.qb HE.out.mb HE.out.wb
  have HFB := hide (hfb.stay ((Keeps.refl _ (fun _ => False)).drew))
  have S0 : (fun w' : World => w'.cell? ⟨b, 66, none⟩ = some (.int .i64 ad)) w6.drew := HS5.out.bn.nums.2.2.2.2
  have S1 : (fun w' : World => w'.cell? ⟨b, 66, none⟩ = some (.int .i64 ad)) (((((w6.setCell ⟨b, 26 + i * 5, none⟩ (.int .i64 2)).setCell ⟨b, 26 + i * 5 + 1, none⟩ (.int .i64 tg)).setCell ⟨b, 26 + i * 5 + 2, none⟩ (.string K)).setCell ⟨b, 26 + i * 5 + 3, none⟩ (.string Y)).setCell ⟨b, 26 + i * 5 + 4, none⟩ (.int .i64 ad)).drew := HFB.out.bn.nums.2.2.2.2
  have b0 : w6.drew.cell? ⟨b, 26 + i * 5, none⟩ = _ := a0
  have b1 : w6.drew.cell? ⟨b, 26 + i * 5 + 1, none⟩ = _ := a1
  have b2 : w6.drew.cell? ⟨b, 26 + i * 5 + 2, none⟩ = _ := a2
  have b3 : w6.drew.cell? ⟨b, 26 + i * 5 + 3, none⟩ = _ := a3
  have b4 : w6.drew.cell? ⟨b, 26 + i * 5 + 4, none⟩ = _ := a4
  have m66 : w6.cell? ⟨b, 66, none⟩ = some (.int .i64 ad) := HS5.out.bn.nums.2.2.2.2
  clear hput hfb
  go_wp2_with fail
  go_region_held3 (fun w' : World => w'.cell? ⟨b, 66, none⟩ = some (.int .i64 ad)) (first | with_reducible exact S0 | with_reducible exact S1 | with_reducible assumption) (fail)
  clear S0 S1 b0 b1 b2 b3 b4 a0 a1 a2 a3 a4 fz0 fz1 fz2 fz3 fz4 m66
  generalize (((((w6.setCell ⟨b, 26 + i * 5, none⟩ (.int .i64 2)).setCell ⟨b, 26 + i * 5 + 1, none⟩ (.int .i64 tg)).setCell ⟨b, 26 + i * 5 + 2, none⟩ (.string K)).setCell ⟨b, 26 + i * 5 + 3, none⟩ (.string Y)).setCell ⟨b, 26 + i * 5 + 4, none⟩ (.int .i64 ad)).drew = w7 at *
  have n66 := HFB.out.bn.nums.2.2.2.2
  have fz6 := HFB.out.bn.frozen 66
  have HF := hide (HFB.out.bench ((Keeps.refl w7 (fun k => k = b)).setCell ⟨b, 66, none⟩ (fun _ => rfl) (.int .i64 (ad + 1))) (HFB.out.bn.added (ad + 1)) HE.out.qb HE.out.mb HE.out.wb)
  obtain ⟨x6, x7⟩ := Hwa.out
  go_wp2_with fail
  go_ret
  exact ⟨rfl, d5, ff, _, ad + 1, HF.out, by have := Had.out.1; omega, by omega⟩

/-- turn: whatever the turn asks, the bench holds again what the group holds. -/
theorem turn_any (h : SB hd w0 b p l off q m nm seed X g d f c c ad w) (E : SEnv w0 b q m seed g) (h0 : 0 ≤ ad) (h1 : ad ≤ 17592186044000) (kd kk ee : Int) (he : fitsI ee) :
    Calls Tryz.prog 9 #[.pointer (some ⟨b, 0, none⟩), .agg #[.int .i64 kd, .int .i64 kk, .int .i64 ee]] w fun e w' => TurnS hd w0 b p l off q m nm seed X g ad e w' := by
  by_cases k1 : kd = 1
  · subst k1
    by_cases h8 : low (mkC c (keyK l.k kk)) 8 = 8
    · by_cases hv8 : low (vcC c) 8 = 8
      · exact turn_putroom h E h0 h1 kk ee he h8 hv8
      · exact turn_putnew h E h0 h1 kk ee he h8 hv8
    · exact turn_putold h E h0 h1 kk ee he h8
  · by_cases k2 : kd = 2
    · subst k2
      by_cases h8 : low (mkC c (keyK l.k kk)) 8 = 8
      · exact turn_delno h E h0 h1 kk ee he h8
      · exact turn_delyes h E h0 h1 kk ee he h8
    · by_cases k3 : kd = 3
      · subst k3
        by_cases h8 : low (mkC c (keyK l.k kk)) 8 = 8
        · exact turn_askno h E h0 h1 kk ee he h8
        · exact turn_askyes h E h0 h1 kk ee he h8
      · exact turn_other h E h0 h1 kk ee he kd k1 k2 k3
end
end Go.Proofs.YtgckinldnnckoaaGreatDoor
/-
  small's law: pins, Retire, SetNext, the header's kind, beside blocks of the statement's own.
-/
namespace Go.Proofs.YtgckinldnnckoaaGreatDoor
open Go.RowKit Go.Shelf Ly Ct
set_option linter.unusedVariables false
theorem soff_any (p : Nat) (l : Lay) (off : Int) (w : World) : Calls Tryz.prog 23 #[.agg #[.pointer (some ⟨p, 0, none⟩), .int .i64 l.k, .int .i64 l.e, .int .i64 l.a, .int .i64 l.b, .int .i64 l.c, .int .i64 l.eo, .int .i64 l.bo, .int .i64 l.s, .int .i64 l.g, .int .i64 off]] w fun e w' => e = .returned (.int .i64 off) ∧ Keeps w w' (fun _ => False) := by
  go_enter Tryz.func23, Tryz.ntmps23
  go_wp2_with fail
  go_ret
  exact ⟨rfl, by first | exact Keeps.refl _ _ | exact (Keeps.refl _ _).alloc _⟩

section
variable {hd : Int × Int × Int × Nat} {w0 : World} {b p : Nat} {l : Lay} {off q m nm seed : Nat} {X : Nat → Prop} {g : List UInt8 → Option Nat} {d d' : AD} {f f' : Nat → Int} {c c' cb cb' : Nat → GC} {ad ad' : Int} {W W' : World}
/-- A block more of the statement's own. -/
theorem SB.box (h : SB hd w0 b p l off q m nm seed X g d f c cb ad W) (k : Keeps W W' (fun _ => False)) {B : Nat} (hB : W.heap.size ≤ B) (hB2 : B < W'.heap.size) : SB hd w0 b p l off q m nm seed (fun i => X i ∨ i = B) g d f c cb ad W' :=
  ⟨⟨(h.own.here.keeps k (fun _ _ _ e => e)).mono (fun i hi e => ⟨e.1.1, fun z => z.elim e.1.2 (fun z => by omega)⟩), h.own.keeps.trans k (fun _ _ e => e)⟩, h.fine, h.sml, h.sm, h.bn.keeps k id, orc_keeps h.orc k id id, Or.inl h.xb, Or.inl h.xq, Or.inl h.xm, fun i hi => hi.elim (fun e => Nat.lt_of_lt_of_le (h.xl i e) k.size) (fun e => by omega), h.f0, h.f1, h.f2, h.f3, h.tags, h.kinds, h.one⟩
theorem SB.less {B : Nat} (h : SB hd w0 b p l off q m nm seed (fun i => X i ∨ i = B) g d f c cb ad W) (xb : X b) (xq : X q) (xm : X m) : SB hd w0 b p l off q m nm seed X g d f c cb ad W :=
  ⟨h.own.less (fun k _ _ e => Or.inl e), h.fine, h.sml, h.sm, h.bn, h.orc, xb, xq, xm, fun i hi => h.xl i (Or.inl hi), h.f0, h.f1, h.f2, h.f3, h.tags, h.kinds, h.one⟩
/-- The header's words are others. -/
theorem SB.head (h : SB hd w0 b p l off q m nm seed X g d f c cb ad W) {k' p' n' : Int} (hs : HeadS W p (fun k => (w0.heap.size ≤ k ∧ ¬ X k) ∧ k < W.heap.size) d l off f' c W') (e0 : f' 0 = k') (e1 : f' 1 = p') (e2 : f' 2 = n') (e3 : f' 3 = f 3) :
    (∃ d', SB (k', p', n', hd.2.2.2) w0 b p l off q m nm seed X g d' f' c cb ad W') ∧ ∀ k, X k → W'.heap[k]? = W.heap[k]? := by
  obtain ⟨d', hT, hF, hS, ht⟩ := hs
  have hx : ∀ k, X k → ¬ ((w0.heap.size ≤ k ∧ ¬ X k) ∧ k < W.heap.size) := fun k hk e => e.1.2 hk
  have htw : Touch d d' off (32 + l.g.toNat) := ht.wide (Nat.le_refl _) (by omega)
  exact ⟨⟨d', h.own.turn hT h.xl, hF, htw.small h.sml, hS, h.bn.keeps hT.2 (hx b h.xb), orc_keeps h.orc hT.2 (hx q h.xq) (hx m h.xm), h.xb, h.xq, h.xm, fun i hi => Nat.lt_of_lt_of_le (h.xl i hi) hT.2.size, e0, e1, e2, e3.trans h.f3, h.tags, h.kinds, h.one.touch htw⟩, fun k hk => hT.2.block k (h.xl k hk) (hx k hk)⟩
theorem sb_pin_no (h : SB hd w0 b p l off q m nm seed X g d f c cb ad W) (y : Int) (hy : fitsI y) (h0 : 0 ≤ hd.2.1) (h62 : hd.2.1 ≤ 4611686018427387904) (hno : y < -hd.2.1 ∨ 4611686018427387904 - hd.2.1 < y) : Calls Tryz.prog 18 #[.agg #[.pointer (some ⟨p, 0, none⟩), .int .i64 l.k, .int .i64 l.e, .int .i64 l.a, .int .i64 l.b, .int .i64 l.c, .int .i64 l.eo, .int .i64 l.bo, .int .i64 l.s, .int .i64 l.g, .int .i64 (off : Int)], .int .i64 y] W fun e w' => e = .returned (.tuple #[.int .i64 0, .int .i64 83]) ∧ Keeps W w' (fun _ => False) :=
  spin_no h.own.here h.fine h.sm y hy (by rw [h.f1]; exact h0) (by rw [h.f1]; exact h62) (by rw [h.f1]; exact hno)
theorem sb_pin_yes (h : SB hd w0 b p l off q m nm seed X g d f c cb ad W) (y : Int) (h0 : 0 ≤ hd.2.1) (h62 : hd.2.1 ≤ 4611686018427387904) (hlo : -hd.2.1 ≤ y) (hhi : y ≤ 4611686018427387904 - hd.2.1) : Calls Tryz.prog 18 #[.agg #[.pointer (some ⟨p, 0, none⟩), .int .i64 l.k, .int .i64 l.e, .int .i64 l.a, .int .i64 l.b, .int .i64 l.c, .int .i64 l.eo, .int .i64 l.bo, .int .i64 l.s, .int .i64 l.g, .int .i64 (off : Int)], .int .i64 y] W fun e w' => e = .returned (.tuple #[.int .i64 (hd.2.1 + y), .int .i64 0]) ∧ (∃ d' f', SB (hd.1, hd.2.1 + y, hd.2.2.1, hd.2.2.2) w0 b p l off q m nm seed X g d' f' c cb ad w') ∧ ∀ k, X k → w'.heap[k]? = W.heap[k]? := by
  have := spin_yes h.own.here h.fine (fun _ z => z.2) h.sm y (by rw [h.f1]; exact h0) (by rw [h.f1]; exact h62) (by rw [h.f1]; exact hlo) (by rw [h.f1]; exact hhi)
  rw [h.f1] at this
  refine this.mono ?_
  rintro e w' ⟨rfl, hP⟩
  obtain ⟨⟨d', h1⟩, h2⟩ := h.head (k' := hd.1) (p' := hd.2.1 + y) (n' := hd.2.2.1) hP h.f0 rfl h.f2 rfl
  exact ⟨rfl, ⟨d', _, h1⟩, h2⟩
theorem sb_next (h : SB hd w0 b p l off q m nm seed X g d f c cb ad W) (y : Int) (hy : fitsI y) : Calls Tryz.prog 20 #[.agg #[.pointer (some ⟨p, 0, none⟩), .int .i64 l.k, .int .i64 l.e, .int .i64 l.a, .int .i64 l.b, .int .i64 l.c, .int .i64 l.eo, .int .i64 l.bo, .int .i64 l.s, .int .i64 l.g, .int .i64 (off : Int)], .int .i64 y] W fun e w' => e = .returned (.int .i64 0) ∧ (∃ d' f', SB (hd.1, hd.2.1, y, hd.2.2.2) w0 b p l off q m nm seed X g d' f' c cb ad w') ∧ ∀ k, X k → w'.heap[k]? = W.heap[k]? := by
  refine (snext_any h.own.here h.fine (fun _ z => z.2) h.sm y hy).mono ?_
  rintro e w' ⟨rfl, hP⟩
  obtain ⟨⟨d', h1⟩, h2⟩ := h.head (k' := hd.1) (p' := hd.2.1) (n' := y) hP h.f0 h.f1 rfl rfl
  exact ⟨rfl, ⟨d', _, h1⟩, h2⟩
theorem sb_retire (h : SB hd w0 b p l off q m nm seed X g d f c cb ad W) (y : Int) (hy : fitsI y) : Calls Tryz.prog 19 #[.agg #[.pointer (some ⟨p, 0, none⟩), .int .i64 l.k, .int .i64 l.e, .int .i64 l.a, .int .i64 l.b, .int .i64 l.c, .int .i64 l.eo, .int .i64 l.bo, .int .i64 l.s, .int .i64 l.g, .int .i64 (off : Int)], .int .i64 y] W fun e w' => e = .returned (.int .i64 0) ∧ (∃ d' f', SB (3, hd.2.1, y, hd.2.2.2) w0 b p l off q m nm seed X g d' f' c cb ad w') ∧ ∀ k, X k → w'.heap[k]? = W.heap[k]? := by
  refine (sretire_any h.own.here h.fine (fun _ z => z.2) h.sm y hy).mono ?_
  rintro e w' ⟨rfl, hP⟩
  obtain ⟨⟨d', h1⟩, h2⟩ := h.head (k' := 3) (p' := hd.2.1) (n' := y) hP rfl h.f1 rfl rfl
  exact ⟨rfl, ⟨d', _, h1⟩, h2⟩
/-- The header's first word. -/
theorem sb_kind (h : SB hd w0 b p l off q m nm seed X g d f c cb ad W) (kn : Nat) (hk : hd.1 = (kn : Int)) (hkn : kn = 1 ∨ kn = 3) : Calls Tryz.prog 22 #[.pointer (some ⟨p, 0, none⟩), .int .i64 (off : Int), .int .i64 8] W fun e w' => e = .returned (.tuple #[.int .u64 (kn : Int), .int .i64 0]) ∧ Keeps W w' (fun _ => False) := by
  obtain ⟨cc, hA, -⟩ := h.own.arena
  have ho := h.sm.off_le h.fine
  have hL := aload_any hA h.fine (off : Int) 8 (fitsI_mk (by omega) (by omega)) (fitsI_mk (by omega) (by omega))
  have hg8 := good_sub h.sm.good (x := 0) (m := 8) (by omega) (by omega) (by omega)
  have hh := h.sm.head 0 (by omega)
  have e1 : loadV d (off : Int) 8 = ((kn : Int), 0) := by
    unfold loadV
    have hg : d.goodB (off : Int) 8 = true := by simpa using hg8
    rw [show widthB 8 = true from rfl, hg]
    simp only [if_true]
    unfold hdr AD.span at hh
    rw [h.f0, hk] at hh
    have hlt : numOf ((d.bs.drop off).take 8) < 18446744073709551616 := by
      have h1 := numOf_lt ((d.bs.drop off).take 8)
      have h2 : ((d.bs.drop off).take 8).length ≤ 8 := by rw [List.length_take]; omega
      have h3 : 256 ^ ((d.bs.drop off).take 8).length ≤ 256 ^ 8 := Nat.pow_le_pow_right (by decide) h2
      omega
    have hh' : wrap64 ((numOf ((d.bs.drop off).take 8) : Nat) : Int) = (kn : Int) := by
      have e : ((off : Int) + ((0 : Nat) : Int) * 8).toNat = off := by omega
      rw [e] at hh
      exact hh
    have e2 : numOf ((d.bs.drop off).take 8) = kn := by
      unfold wrap64 at hh'
      omega
    rw [show (off : Int).toNat = off by omega, show (8 : Int).toNat = 8 from rfl, e2]
  rw [e1] at hL
  exact hL
end
end Go.Proofs.YtgckinldnnckoaaGreatDoor
