import Derived.Test.YtdnkjbbpfhegdaaGreatRows
import Derived.SizedLaws
import Derived.Deep.SlicePairs
import Derived.WalkKit
import Derived.ProofKit
import Derived.OpenShut
import Derived.ShutString
import Derived.ChangeOld
import Derived.Below
import Derived.Carry
import Derived.Lib.SmallJoins
import Derived.Deep.Slices
import Derived.Test.YtdnkjbbpfhegdaaGreatMg14
/-
  The law's laid.
-/
namespace Go.Proofs.YtdnkjbbpfhegdaaGreat
open Go.RowKit Go.Shelf Ly Ct
set_option linter.unusedVariables false

theorem n17_keeps {w w1 : World} {a b : Nat} {v0 v1 v2 v3 v4 u0 u1 u2 u3 u4 u5 u6 u7 u8 u9 u10 u11 : Value} {S : Nat → Prop} (k : Keeps w w1 S) (ha : ¬ S a) (hb : ¬ S b) (h : N12 a u0 u1 u2 u3 u4 u5 u6 u7 u8 u9 u10 u11 w ∧ N5 b v0 v1 v2 v3 v4 w) : N12 a u0 u1 u2 u3 u4 u5 u6 u7 u8 u9 u10 u11 w1 ∧ N5 b v0 v1 v2 v3 v4 w1 := ⟨n12_keeps k ha h.1, n5_keeps k hb h.2⟩

set_option maxHeartbeats 4000000 in
set_option maxRecDepth 100000 in
theorem laid6_vac {w : World} {p : Nat} {F : Nat → Prop} {d : AD} (hA : Arena w p F d) (hF : d.Fine) (l : Lay) (off : Nat) (en : Int) (c : Nat → GC) (hG : GroupAt d l off c) (ho : fitsI (off : Int)) (hn : fitsI l.g) (i : Nat) (hi8 : i < 8) (h2 : (c i).kind = 0 ∨ (c i).kind = 1) :
    Calls Tryz.prog 15 #[.agg #[.pointer (some ⟨p, 0, none⟩), .int .i64 l.k, .int .i64 l.e, .int .i64 l.a, .int .i64 l.b, .int .i64 l.c, .int .i64 l.eo, .int .i64 l.bo, .int .i64 l.s, .int .i64 l.g, .int .i64 (off : Int), .int .i64 en], .int .i64 (i : Int), (c i).val] w fun e w' => e = .returned (.bool true) ∧ Keeps w w' (fun _ => False) := by
  have hvm := valid_more hG.valid
  obtain ⟨hv, hg, ho1, ho2, ho3⟩ := there_more hF hG.there
  have hm := mul_bound (i := (i : Int)) (by omega) (by omega) (s := l.s) (by omega) (by omega)
  obtain ⟨q, hq, hfo⟩ := hA.at
  have hg8 : d.goodB (off : Int) 8 = true := by
    have := good_sub hg (x := 0) (m := 8) (by omega) (by omega) (by omega)
    rw [Int.add_zero] at this
    exact this
  have hLd : ∀ V, Keeps w V (fun _ => False) → Calls Tryz.prog 41 #[.pointer (some ⟨p, 0, none⟩), .int .i64 (off : Int), .int .i64 8] V fun e w' => LoadPost V ((wordN d off : Nat) : Int) 0 e w' := fun V k => by
    have := aload_any (hq.keeps k (fun _ _ e => e)) hF (off : Int) 8 ho (fitsI_mk (by omega) (by omega))
    rw [show loadV d (off : Int) 8 = (((wordN d off : Nat) : Int), 0) by unfold loadV; rw [hg8]; rfl] at this
    exact this
  have hKy := fun V => keyAt_any l (i : Int) V
  rw [place_in hv (by omega) (by omega)] at hKy
  have hgs := good_sub hg (x := 8 + (i : Int) * l.s + 0) (m := l.s) (by omega) (by omega) (by omega)
  have hsp : d.span ((off : Int) + (8 + (i : Int) * l.s + 0)) l.s = zeros l.s.toNat := by
    have := hG.slot i hi8
    rw [show (c i).bytes l = zeros l.s.toNat from if_neg (by omega)] at this
    rw [← this]
    unfold AD.span
    rw [laid_pos hv, Int.toNat_natCast]
  have hRd : ∀ V, Keeps w V (fun _ => False) → Calls Tryz.prog 10 #[.pointer (some ⟨p, 0, none⟩), .int .i64 ((off : Int) + (8 + (i : Int) * l.s + 0)), .int .i64 l.s] V fun e w' => ReadAPost V (strOf (zeros l.s.toNat)) 0 e w' := fun V k => by
    have := aread_any (hq.keeps k (fun _ _ e => e)) hF ((off : Int) + (8 + (i : Int) * l.s + 0)) l.s (fitsI_mk (by omega) (by omega)) (fitsI_mk (by omega) (by omega))
    rw [show readV d ((off : Int) + (8 + (i : Int) * l.s + 0)) l.s = (strOf (d.span ((off : Int) + (8 + (i : Int) * l.s + 0)) l.s), 0) from if_pos hgs, hsp] at this
    exact this
  have hGt := fun V => get_in (wordN d off) i wordN_lt hi8 V
  rw [hG.word i hi8] at hGt
  have hmk : (c i).mark = if (c i).kind = 1 then 254 else 128 := if_neg (by omega)
  have hZr := fun V => lzeros_any l.s.toNat V (by omega)
  rw [show ((l.s.toNat : Nat) : Int) = l.s by omega] at hZr
  have hss : (strOf (zeros l.s.toNat)).size = l.s.toNat := by rw [str_size, zeros_length]
  have hss' : (((strOf (zeros l.s.toNat)).size : Nat) : Int) = l.s := by rw [hss]; omega
  generalize strOf (zeros l.s.toNat) = ZS at *
  generalize wordN d off = WW at *
  obtain ⟨y, hy⟩ : ∃ y, 8 + (i : Int) * l.s + 0 = y := ⟨_, rfl⟩
  have hy0 : 0 ≤ y := by omega
  have hy1 : y ≤ 5000 := by omega
  rw [hy] at hKy hRd
  have v1 : IntKind.i64.wrap ((off : Int) + y) = (off : Int) + y := by rw [IntKind.wrap_i64]; omega
  rw [hmk] at hGt
  clear hmk hG hA hsp hgs hg8 hm hvm hq hfo hv hg hss hy ho3 ho2 ho1
  generalize c i = x at *
  obtain ⟨xk, xt, xK, xE, xB⟩ := x
  simp only at h2
  unfold GC.val
  simp only at hGt
  rcases h2 with rfl | rfl
  · rw [if_neg (by decide)] at hGt
    go_enter Tryz.func15, Tryz.ntmps15
    go_wp2_with fail
    refine alloc2 (P := fun W => Calls _ _ _ W _) fun W0 hb hr hz K0 => ?_
    refine (hLd _ K0).mono ?_
    rintro r w1 ⟨rfl, k1⟩
    have K1 : Keeps w w1 (fun _ => False) := K0.trans k1 (fun _ _ e => e)
    have SD : N12 w.heap.size _ _ _ _ _ _ _ _ _ _ _ _ w1.drew ∧ N5 (w.heap.size + 1) _ _ _ _ _ w1.drew := n17_keeps (Keeps.refl w1 (fun _ => False)).drew id id ⟨n12_of (k1.blk hb), n5_of (k1.blk hr)⟩
    go_wp2_with fail
    go_region_held3 (fun w' => (w'.cell? ⟨w.heap.size, 0, none⟩ = some (.pointer (some ⟨p, 0, none⟩)) ∧ w'.cell? ⟨w.heap.size, 1, none⟩ = some (.int .i64 l.k) ∧ w'.cell? ⟨w.heap.size, 2, none⟩ = some (.int .i64 l.e) ∧ w'.cell? ⟨w.heap.size, 3, none⟩ = some (.int .i64 l.a) ∧ w'.cell? ⟨w.heap.size, 4, none⟩ = some (.int .i64 l.b) ∧ w'.cell? ⟨w.heap.size, 5, none⟩ = some (.int .i64 l.c) ∧ w'.cell? ⟨w.heap.size, 6, none⟩ = some (.int .i64 l.eo) ∧ w'.cell? ⟨w.heap.size, 7, none⟩ = some (.int .i64 l.bo) ∧ w'.cell? ⟨w.heap.size, 8, none⟩ = some (.int .i64 l.s) ∧ w'.cell? ⟨w.heap.size, 9, none⟩ = some (.int .i64 l.g) ∧ w'.cell? ⟨w.heap.size, 10, none⟩ = some (.int .i64 (off : Int)) ∧ w'.cell? ⟨w.heap.size, 11, none⟩ = some (.int .i64 en)) ∧ (w'.cell? ⟨w.heap.size + 1, 0, none⟩ = some (.int .i64 0) ∧ w'.cell? ⟨w.heap.size + 1, 1, none⟩ = some (.int .i64 xt) ∧ w'.cell? ⟨w.heap.size + 1, 2, none⟩ = some (.string xK) ∧ w'.cell? ⟨w.heap.size + 1, 3, none⟩ = some (.string xE) ∧ w'.cell? ⟨w.heap.size + 1, 4, none⟩ = some (.int .i64 xB))) (first | with_reducible assumption) (first | (go_at_call 42; (with_reducible refine (hKy _).mono ?_); rintro r w2 ⟨rfl, k2⟩; have K2 : Keeps w w2 (fun _ => False) := K1.drew.trans (Keeps.ofKp k2) (fun _ _ e => e); have S2 := n17_keeps (Keeps.ofKp k2) id id SD) | (go_at_call 10; (try rw [v1]); (with_reducible refine (hRd _ K2).mono ?_); rintro r w3 ⟨rfl, k3⟩; have K3 := K2.trans k3 (fun _ _ e => e); have S3 := n17_keeps k3 id id S2))
    obtain ⟨⟨d0, d1, d2, d3, d4, d5, d6, d7, d8, d9, d10, d11⟩, ⟨t0, t1, t2, t3, t4⟩⟩ := S3
    clear SD S2 hLd hKy hRd
    go_wp2_with fail
    refine (hGt _).mono ?_
    rintro r w4 ⟨rfl, rfl⟩
    go_wp2_with fail
    refine (hZr _).mono ?_
    rintro r w5 ⟨rfl, k5⟩
    go_wp2_with fail
    go_ret
    exact ⟨rfl, K3.trans k5 (fun _ _ e => e)⟩
  · rw [if_pos rfl] at hGt
    go_enter Tryz.func15, Tryz.ntmps15
    go_wp2_with fail
    refine alloc2 (P := fun W => Calls _ _ _ W _) fun W0 hb hr hz K0 => ?_
    refine (hLd _ K0).mono ?_
    rintro r w1 ⟨rfl, k1⟩
    have K1 : Keeps w w1 (fun _ => False) := K0.trans k1 (fun _ _ e => e)
    have SD : N12 w.heap.size _ _ _ _ _ _ _ _ _ _ _ _ w1.drew ∧ N5 (w.heap.size + 1) _ _ _ _ _ w1.drew := n17_keeps (Keeps.refl w1 (fun _ => False)).drew id id ⟨n12_of (k1.blk hb), n5_of (k1.blk hr)⟩
    go_wp2_with fail
    go_region_held3 (fun w' => (w'.cell? ⟨w.heap.size, 0, none⟩ = some (.pointer (some ⟨p, 0, none⟩)) ∧ w'.cell? ⟨w.heap.size, 1, none⟩ = some (.int .i64 l.k) ∧ w'.cell? ⟨w.heap.size, 2, none⟩ = some (.int .i64 l.e) ∧ w'.cell? ⟨w.heap.size, 3, none⟩ = some (.int .i64 l.a) ∧ w'.cell? ⟨w.heap.size, 4, none⟩ = some (.int .i64 l.b) ∧ w'.cell? ⟨w.heap.size, 5, none⟩ = some (.int .i64 l.c) ∧ w'.cell? ⟨w.heap.size, 6, none⟩ = some (.int .i64 l.eo) ∧ w'.cell? ⟨w.heap.size, 7, none⟩ = some (.int .i64 l.bo) ∧ w'.cell? ⟨w.heap.size, 8, none⟩ = some (.int .i64 l.s) ∧ w'.cell? ⟨w.heap.size, 9, none⟩ = some (.int .i64 l.g) ∧ w'.cell? ⟨w.heap.size, 10, none⟩ = some (.int .i64 (off : Int)) ∧ w'.cell? ⟨w.heap.size, 11, none⟩ = some (.int .i64 en)) ∧ (w'.cell? ⟨w.heap.size + 1, 0, none⟩ = some (.int .i64 1) ∧ w'.cell? ⟨w.heap.size + 1, 1, none⟩ = some (.int .i64 xt) ∧ w'.cell? ⟨w.heap.size + 1, 2, none⟩ = some (.string xK) ∧ w'.cell? ⟨w.heap.size + 1, 3, none⟩ = some (.string xE) ∧ w'.cell? ⟨w.heap.size + 1, 4, none⟩ = some (.int .i64 xB))) (first | with_reducible assumption) (first | (go_at_call 42; (with_reducible refine (hKy _).mono ?_); rintro r w2 ⟨rfl, k2⟩; have K2 : Keeps w w2 (fun _ => False) := K1.drew.trans (Keeps.ofKp k2) (fun _ _ e => e); have S2 := n17_keeps (Keeps.ofKp k2) id id SD) | (go_at_call 10; (try rw [v1]); (with_reducible refine (hRd _ K2).mono ?_); rintro r w3 ⟨rfl, k3⟩; have K3 := K2.trans k3 (fun _ _ e => e); have S3 := n17_keeps k3 id id S2))
    obtain ⟨⟨d0, d1, d2, d3, d4, d5, d6, d7, d8, d9, d10, d11⟩, ⟨t0, t1, t2, t3, t4⟩⟩ := S3
    clear SD S2 hLd hKy hRd
    go_wp2_with fail
    refine (hGt _).mono ?_
    rintro r w4 ⟨rfl, rfl⟩
    go_wp2_with fail
    refine (hZr _).mono ?_
    rintro r w5 ⟨rfl, k5⟩
    go_wp2_with fail
    go_ret
    exact ⟨rfl, K3.trans k5 (fun _ _ e => e)⟩
end Go.Proofs.YtdnkjbbpfhegdaaGreat
/-
  The law's laid: a full slot.
-/
namespace Go.Proofs.YtdnkjbbpfhegdaaGreat
open Go.RowKit Go.Shelf Ly Ct
set_option linter.unusedVariables false

set_option maxHeartbeats 4000000 in
set_option maxRecDepth 100000 in
theorem laid6_full {w : World} {p : Nat} {F : Nat → Prop} {d : AD} (hA : Arena w p F d) (hF : d.Fine) (l : Lay) (off : Nat) (en : Int) (c : Nat → GC) (hG : GroupAt d l off c) (ho : fitsI (off : Int)) (hn : fitsI l.g) (i : Nat) (hi8 : i < 8) (h2 : (c i).kind = 2) :
    Calls Tryz.prog 15 #[.agg #[.pointer (some ⟨p, 0, none⟩), .int .i64 l.k, .int .i64 l.e, .int .i64 l.a, .int .i64 l.b, .int .i64 l.c, .int .i64 l.eo, .int .i64 l.bo, .int .i64 l.s, .int .i64 l.g, .int .i64 (off : Int), .int .i64 en], .int .i64 (i : Int), (c i).val] w fun e w' => e = .returned (.bool true) ∧ Keeps w w' (fun _ => False) := by
  have hvm := valid_more hG.valid
  obtain ⟨hv, hg, ho1, ho2, ho3⟩ := there_more hF hG.there
  have hm := mul_bound (i := (i : Int)) (by omega) (by omega) (s := l.s) (by omega) (by omega)
  obtain ⟨q, hq, hfo⟩ := hA.at
  have hg8 : d.goodB (off : Int) 8 = true := by
    have := good_sub hg (x := 0) (m := 8) (by omega) (by omega) (by omega)
    rw [Int.add_zero] at this
    exact this
  have hLd : ∀ V, Keeps w V (fun _ => False) → Calls Tryz.prog 41 #[.pointer (some ⟨p, 0, none⟩), .int .i64 (off : Int), .int .i64 8] V fun e w' => LoadPost V ((wordN d off : Nat) : Int) 0 e w' := fun V k => by
    have := aload_any (hq.keeps k (fun _ _ e => e)) hF (off : Int) 8 ho (fitsI_mk (by omega) (by omega))
    rw [show loadV d (off : Int) 8 = (((wordN d off : Nat) : Int), 0) by unfold loadV; rw [hg8]; rfl] at this
    exact this
  have hKy := fun V => keyAt_any l (i : Int) V
  rw [place_in hv (by omega) (by omega)] at hKy
  have hgs := good_sub hg (x := 8 + (i : Int) * l.s + 0) (m := l.s) (by omega) (by omega) (by omega)
  have hsp : d.span ((off : Int) + (8 + (i : Int) * l.s + 0)) l.s = slotB l (c i).key.data.toList (c i).elem.data.toList (c i).birth.toNat := by
    have := hG.slot i hi8
    rw [show (c i).bytes l = slotB l (c i).key.data.toList (c i).elem.data.toList (c i).birth.toNat from if_pos h2] at this
    rw [← this]
    unfold AD.span
    rw [laid_pos hv, Int.toNat_natCast]
  have hRd : ∀ V, Keeps w V (fun _ => False) → Calls Tryz.prog 10 #[.pointer (some ⟨p, 0, none⟩), .int .i64 ((off : Int) + (8 + (i : Int) * l.s + 0)), .int .i64 l.s] V fun e w' => ReadAPost V (strOf (slotB l (c i).key.data.toList (c i).elem.data.toList (c i).birth.toNat)) 0 e w' := fun V k => by
    have := aread_any (hq.keeps k (fun _ _ e => e)) hF ((off : Int) + (8 + (i : Int) * l.s + 0)) l.s (fitsI_mk (by omega) (by omega)) (fitsI_mk (by omega) (by omega))
    rw [show readV d ((off : Int) + (8 + (i : Int) * l.s + 0)) l.s = (strOf (d.span ((off : Int) + (8 + (i : Int) * l.s + 0)) l.s), 0) from if_pos hgs, hsp] at this
    exact this
  have hGt := fun V => get_in (wordN d off) i wordN_lt hi8 V
  rw [hG.word i hi8] at hGt
  have hok := hG.ok i hi8
  have hmk : (c i).mark = (c i).tag.toNat := if_pos h2
  rw [hmk] at hGt
  generalize c i = x at *
  obtain ⟨xk, xt, xK, xE, xB⟩ := x
  simp only at h2 hok hGt hRd
  subst h2
  rcases hok with hok | hok | ⟨-, ht0, ht1, hkK, hkE, hb0, hb1⟩
  · exact absurd (show (2 : Int) = _ from congrArg GC.kind hok) (show ¬ ((2 : Int) = 0) by decide)
  · exact absurd (show (2 : Int) = _ from congrArg GC.kind hok) (show ¬ ((2 : Int) = 1) by decide)
  simp only at ht0 ht1 hkK hkE hb0 hb1
  rw [Int.toNat_of_nonneg ht0] at hGt
  obtain ⟨g1, hg1⟩ := Int.eq_ofNat_of_zero_le (show 0 ≤ l.eo - l.k by omega)
  obtain ⟨g2, hg2⟩ := Int.eq_ofNat_of_zero_le (show 0 ≤ l.bo - l.eo - l.e by omega)
  obtain ⟨bi, rfl⟩ := Int.eq_ofNat_of_zero_le hb0
  have hz1 := fun V => lzeros_any g1 V (by omega)
  have hz2 := fun V => lzeros_any g2 V (by omega)
  have hnb := fun V => number_any bi V (by omega)
  have hSS : strOf (slotB l xK.data.toList xE.data.toList bi) = xK ++ strOf (zeros g1) ++ xE ++ strOf (zeros g2) ++ strOf (leBytes bi 8) := by
    apply ByteArray.ext
    apply Array.ext'
    unfold slotB
    rw [hg1, hg2, Int.toNat_natCast, Int.toNat_natCast]
    simp [strOf, ByteArray.data_append]
  rw [Int.toNat_natCast] at hRd
  have hsl : (strOf (slotB l xK.data.toList xE.data.toList bi)).size = l.s.toNat := by rw [str_size, slotB_len hv bi (by rw [data_len]; exact hkK) (by rw [data_len]; exact hkE)]
  have hss' : (((strOf (slotB l xK.data.toList xE.data.toList bi)).size : Nat) : Int) = l.s := by rw [hsl]; omega
  have s1 : (strOf (zeros g1)).size = g1 := by rw [str_size, zeros_length]
  have s2 : (strOf (zeros g2)).size = g2 := by rw [str_size, zeros_length]
  have s3 : (strOf (leBytes bi 8)).size = 8 := by rw [str_size, leBytes_length]
  rw [hSS] at hRd hss'
  generalize strOf (zeros g1) = Z1 at *
  generalize strOf (zeros g2) = Z2 at *
  generalize strOf (leBytes bi 8) = NB at *
  have q1 : (xK ++ Z1).size = xK.size + Z1.size := ByteArray.size_append
  have q2 : (xK ++ Z1 ++ xE).size = (xK ++ Z1).size + xE.size := ByteArray.size_append
  have q3 : (xK ++ Z1 ++ xE ++ Z2).size = (xK ++ Z1 ++ xE).size + Z2.size := ByteArray.size_append
  have p1 := fun V => run_string_add_sum (P := Tryz.prog) (w := V) xK Z1 (by omega)
  have p2 := fun V => run_string_add_sum (P := Tryz.prog) (w := V) (xK ++ Z1) xE (by omega)
  have p3 := fun V => run_string_add_sum (P := Tryz.prog) (w := V) (xK ++ Z1 ++ xE) Z2 (by omega)
  have p4 := fun V => run_string_add_sum (P := Tryz.prog) (w := V) (xK ++ Z1 ++ xE ++ Z2) NB (by omega)
  generalize xK ++ Z1 ++ xE ++ Z2 ++ NB = A4 at *
  generalize xK ++ Z1 ++ xE ++ Z2 = A3 at *
  generalize xK ++ Z1 ++ xE = A2 at *
  generalize xK ++ Z1 = A1 at *
  have w1' : IntKind.i64.wrap (l.eo - l.k) = (g1 : Int) := by rw [IntKind.wrap_i64]; omega
  have w2' : IntKind.i64.wrap (l.bo - l.eo) = l.bo - l.eo := by rw [IntKind.wrap_i64]; omega
  have w3' : IntKind.i64.wrap (l.bo - l.eo - l.e) = (g2 : Int) := by rw [IntKind.wrap_i64]; omega
  generalize wordN d off = WW at *
  obtain ⟨y, hy⟩ : ∃ y, 8 + (i : Int) * l.s + 0 = y := ⟨_, rfl⟩
  have hy0 : 0 ≤ y := by omega
  have hy1 : y ≤ 5000 := by omega
  rw [hy] at hKy hRd
  have v1 : IntKind.i64.wrap ((off : Int) + y) = (off : Int) + y := by rw [IntKind.wrap_i64]; omega
  clear hG hA hsp hgs hg8 hm hvm hq hfo hv hg hy ho3 ho2 ho1 hSS hsl s1 s2 s3 q1 q2 q3 hg1 hg2 hkK hkE
  unfold GC.val
  go_enter Tryz.func15, Tryz.ntmps15
  go_wp2_with fail
  refine alloc2 (P := fun W => Calls _ _ _ W _) fun W0 hb hr hz K0 => ?_
  refine (hLd _ K0).mono ?_
  rintro r w1 ⟨rfl, k1⟩
  have K1 : Keeps w w1 (fun _ => False) := K0.trans k1 (fun _ _ e => e)
  have SD : N12 w.heap.size _ _ _ _ _ _ _ _ _ _ _ _ w1.drew ∧ N5 (w.heap.size + 1) _ _ _ _ _ w1.drew := n17_keeps (Keeps.refl w1 (fun _ => False)).drew id id ⟨n12_of (k1.blk hb), n5_of (k1.blk hr)⟩
  go_wp2_with fail
  go_region_held3 (fun w' => (w'.cell? ⟨w.heap.size, 0, none⟩ = some (.pointer (some ⟨p, 0, none⟩)) ∧ w'.cell? ⟨w.heap.size, 1, none⟩ = some (.int .i64 l.k) ∧ w'.cell? ⟨w.heap.size, 2, none⟩ = some (.int .i64 l.e) ∧ w'.cell? ⟨w.heap.size, 3, none⟩ = some (.int .i64 l.a) ∧ w'.cell? ⟨w.heap.size, 4, none⟩ = some (.int .i64 l.b) ∧ w'.cell? ⟨w.heap.size, 5, none⟩ = some (.int .i64 l.c) ∧ w'.cell? ⟨w.heap.size, 6, none⟩ = some (.int .i64 l.eo) ∧ w'.cell? ⟨w.heap.size, 7, none⟩ = some (.int .i64 l.bo) ∧ w'.cell? ⟨w.heap.size, 8, none⟩ = some (.int .i64 l.s) ∧ w'.cell? ⟨w.heap.size, 9, none⟩ = some (.int .i64 l.g) ∧ w'.cell? ⟨w.heap.size, 10, none⟩ = some (.int .i64 (off : Int)) ∧ w'.cell? ⟨w.heap.size, 11, none⟩ = some (.int .i64 en)) ∧ (w'.cell? ⟨w.heap.size + 1, 0, none⟩ = some (.int .i64 2) ∧ w'.cell? ⟨w.heap.size + 1, 1, none⟩ = some (.int .i64 xt) ∧ w'.cell? ⟨w.heap.size + 1, 2, none⟩ = some (.string xK) ∧ w'.cell? ⟨w.heap.size + 1, 3, none⟩ = some (.string xE) ∧ w'.cell? ⟨w.heap.size + 1, 4, none⟩ = some (.int .i64 (bi : Int)))) (first | with_reducible assumption) (first | (go_at_call 42; (with_reducible refine (hKy _).mono ?_); rintro r w2 ⟨rfl, k2⟩; have K2 : Keeps w w2 (fun _ => False) := K1.drew.trans (Keeps.ofKp k2) (fun _ _ e => e); have S2 := n17_keeps (Keeps.ofKp k2) id id SD) | (go_at_call 10; (try rw [v1]); (with_reducible refine (hRd _ K2).mono ?_); rintro r w3 ⟨rfl, k3⟩; have K3 := K2.trans k3 (fun _ _ e => e); have S3 := n17_keeps k3 id id S2))
  have S3' := S3
  obtain ⟨⟨d0, d1, d2, d3, d4, d5, d6, d7, d8, d9, d10, d11⟩, ⟨t0, t1, t2, t3, t4⟩⟩ := S3'
  clear SD S2 hLd hKy hRd
  go_wp2_with fail
  refine (hGt _).mono ?_
  rintro r w4 ⟨rfl, rfl⟩
  go_wp2_with fail
  have S4 := n17_keeps (Keeps.refl w4 (fun _ => False)).drew id id S3
  have K4 := K3.drew
  clear S3 d0 d1 d2 d3 d4 d5 d6 d7 d8 d9 d10 d11 t0 t1 t2 t3 t4
  go_region_held3 (fun w' => (w'.cell? ⟨w.heap.size, 0, none⟩ = some (.pointer (some ⟨p, 0, none⟩)) ∧ w'.cell? ⟨w.heap.size, 1, none⟩ = some (.int .i64 l.k) ∧ w'.cell? ⟨w.heap.size, 2, none⟩ = some (.int .i64 l.e) ∧ w'.cell? ⟨w.heap.size, 3, none⟩ = some (.int .i64 l.a) ∧ w'.cell? ⟨w.heap.size, 4, none⟩ = some (.int .i64 l.b) ∧ w'.cell? ⟨w.heap.size, 5, none⟩ = some (.int .i64 l.c) ∧ w'.cell? ⟨w.heap.size, 6, none⟩ = some (.int .i64 l.eo) ∧ w'.cell? ⟨w.heap.size, 7, none⟩ = some (.int .i64 l.bo) ∧ w'.cell? ⟨w.heap.size, 8, none⟩ = some (.int .i64 l.s) ∧ w'.cell? ⟨w.heap.size, 9, none⟩ = some (.int .i64 l.g) ∧ w'.cell? ⟨w.heap.size, 10, none⟩ = some (.int .i64 (off : Int)) ∧ w'.cell? ⟨w.heap.size, 11, none⟩ = some (.int .i64 en)) ∧ (w'.cell? ⟨w.heap.size + 1, 0, none⟩ = some (.int .i64 2) ∧ w'.cell? ⟨w.heap.size + 1, 1, none⟩ = some (.int .i64 xt) ∧ w'.cell? ⟨w.heap.size + 1, 2, none⟩ = some (.string xK) ∧ w'.cell? ⟨w.heap.size + 1, 3, none⟩ = some (.string xE) ∧ w'.cell? ⟨w.heap.size + 1, 4, none⟩ = some (.int .i64 (bi : Int)))) (first | with_reducible assumption) (first | (go_at_call 43; (try rw [w1']); (with_reducible refine (hz1 _).mono ?_); rintro r w5 ⟨rfl, k5⟩; have K5 := K4.trans k5 (fun _ _ e => e); have S5 := n17_keeps k5 id id S4))
  have S6 := n17_keeps (Keeps.refl w5 (fun _ => False)).drew id id S5
  have K6 := K5.drew
  clear S4
  go_wp2_with fail
  go_region_held3 (fun w' => (w'.cell? ⟨w.heap.size, 0, none⟩ = some (.pointer (some ⟨p, 0, none⟩)) ∧ w'.cell? ⟨w.heap.size, 1, none⟩ = some (.int .i64 l.k) ∧ w'.cell? ⟨w.heap.size, 2, none⟩ = some (.int .i64 l.e) ∧ w'.cell? ⟨w.heap.size, 3, none⟩ = some (.int .i64 l.a) ∧ w'.cell? ⟨w.heap.size, 4, none⟩ = some (.int .i64 l.b) ∧ w'.cell? ⟨w.heap.size, 5, none⟩ = some (.int .i64 l.c) ∧ w'.cell? ⟨w.heap.size, 6, none⟩ = some (.int .i64 l.eo) ∧ w'.cell? ⟨w.heap.size, 7, none⟩ = some (.int .i64 l.bo) ∧ w'.cell? ⟨w.heap.size, 8, none⟩ = some (.int .i64 l.s) ∧ w'.cell? ⟨w.heap.size, 9, none⟩ = some (.int .i64 l.g) ∧ w'.cell? ⟨w.heap.size, 10, none⟩ = some (.int .i64 (off : Int)) ∧ w'.cell? ⟨w.heap.size, 11, none⟩ = some (.int .i64 en)) ∧ (w'.cell? ⟨w.heap.size + 1, 0, none⟩ = some (.int .i64 2) ∧ w'.cell? ⟨w.heap.size + 1, 1, none⟩ = some (.int .i64 xt) ∧ w'.cell? ⟨w.heap.size + 1, 2, none⟩ = some (.string xK) ∧ w'.cell? ⟨w.heap.size + 1, 3, none⟩ = some (.string xE) ∧ w'.cell? ⟨w.heap.size + 1, 4, none⟩ = some (.int .i64 (bi : Int)))) (first | with_reducible assumption) (first | (go_at_call 43; (try rw [w3']); (with_reducible refine (hz2 _).mono ?_); rintro r w7 ⟨rfl, k7⟩; have K7 := K6.trans k7 (fun _ _ e => e); have S7 := n17_keeps k7 id id S6) | (go_at_call 44; (with_reducible refine (hnb _).mono ?_); rintro r w8 ⟨rfl, k8⟩; have K8 := K7.trans k8 (fun _ _ e => e); have S8 := n17_keeps k8 id id S7))
  all_goals go_wp2_with fail
  all_goals go_ret
  all_goals exact ⟨rfl, K8⟩
end Go.Proofs.YtdnkjbbpfhegdaaGreat
/-
  What the statements of stage 6 share: a row of steps that came in, a text of one byte, laid whatever the cell.
-/
namespace Go.Proofs.YtdnkjbbpfhegdaaGreat
open Go.RowKit Go.Shelf Ly Ct
set_option linter.unusedVariables false

theorem rep_byte (u : UInt8) : ∀ j, rep ⟨#[u]⟩ j = strOf (same j u)
  | 0 => rfl
  | j + 1 => by
    show rep ⟨#[u]⟩ j ++ ⟨#[u]⟩ = _
    rw [rep_byte u j, ← same_succ]
    apply ByteArray.ext
    simp [strOf, ByteArray.data_append]
theorem wideD_byte (u : UInt8) (n : Nat) : wideD ⟨#[u]⟩ n = strOf (same n u) := by
  have h1 : wideS ⟨#[u]⟩ = ⟨#[u]⟩ := by unfold wideS; rw [if_neg (by show ¬ (1 = 0); omega)]
  unfold wideD
  rw [h1, rep_byte]
  have hs : (⟨#[u]⟩ : ByteArray).size = 1 := rfl
  rw [hs, show (n + 1 - 1) / 1 = n by simp]
  apply ByteArray.ext
  simp [strOf, same]

theorem Keeps.cellK {w w' : World} (k : Keeps w w' (fun _ => False)) {p : Addr} {v : Value} (h : w.cell? p = some v) : w'.cell? p = some v := by
  have : p.block < w.heap.size := by
    refine Nat.lt_of_not_le fun hn => ?_
    rw [World.cell?, Array.getElem?_eq_none hn] at h
    cases h
  exact (World.cell?_of_block (w := w) (k.block p.block this (fun x => x))).trans h
/-- A step, as data. -/
structure SD where
  k : Int
  i : Int
  t : Int
  b : Int
  x : ByteArray
def SD.ok (s : SD) : Prop := (Lit.int .i64 s.k).wf = true ∧ (Lit.int .i64 s.i).wf = true ∧ (Lit.int .i64 s.t).wf = true ∧ (-9223372036854775808 ≤ s.b ∧ s.b ≤ 9223372036854775807) ∧ s.x.size ≤ 140737488355328
/-- A row of steps, as it came in. -/
def RowS (w : World) (a : Option Addr) (ss : List SD) : Prop := ∀ j (hj : j < ss.length), ∃ b o, a = some ⟨b, o, none⟩ ∧ w.cell? ⟨b, o + j * 5, none⟩ = some (.int .i64 ss[j].k) ∧ w.cell? ⟨b, o + j * 5 + 1, none⟩ = some (.int .i64 ss[j].i) ∧ w.cell? ⟨b, o + j * 5 + 2, none⟩ = some (.int .i64 ss[j].t) ∧ w.cell? ⟨b, o + j * 5 + 3, none⟩ = some (.int .i64 ss[j].b) ∧ w.cell? ⟨b, o + j * 5 + 4, none⟩ = some (.string ss[j].x) ∧ ss[j].ok
theorem RowS.keeps {w w' : World} {a : Option Addr} {ss : List SD} (h : RowS w a ss) (k : Keeps w w' (fun _ => False)) : RowS w' a ss := fun j hj => by
  obtain ⟨b, o, h1, c0, c1, c2, c3, c4, c5⟩ := h j hj
  exact ⟨b, o, h1, k.cellK c0, k.cellK c1, k.cellK c2, k.cellK c3, k.cellK c4, c5⟩

theorem laid6_any {w : World} {p : Nat} {F : Nat → Prop} {d : AD} (hA : Arena w p F d) (hF : d.Fine) (l : Lay) (off : Nat) (en : Int) (c : Nat → GC) (hG : GroupAt d l off c) (ho : fitsI (off : Int)) (hn : fitsI l.g) (i : Nat) (hi8 : i < 8) :
    Calls Tryz.prog 15 #[.agg #[.pointer (some ⟨p, 0, none⟩), .int .i64 l.k, .int .i64 l.e, .int .i64 l.a, .int .i64 l.b, .int .i64 l.c, .int .i64 l.eo, .int .i64 l.bo, .int .i64 l.s, .int .i64 l.g, .int .i64 (off : Int), .int .i64 en], .int .i64 (i : Int), (c i).val] w fun e w' => e = .returned (.bool true) ∧ Keeps w w' (fun _ => False) := by
  rcases hG.ok i hi8 with h | h | h
  · exact laid6_vac hA hF l off en c hG ho hn i hi8 (Or.inl (by rw [h]; rfl))
  · exact laid6_vac hA hF l off en c hG ho hn i hi8 (Or.inr (by rw [h]; rfl))
  · exact laid6_full hA hF l off en c hG ho hn i hi8 h.1
theorem RowG.five {w : World} {b : Nat} {t : TypeId} {f : Nat → GC} (h : RowG w b t f) {k : Nat} (hk : k < 8) : w.cell? ⟨b, k * 5, none⟩ = some (.int .i64 (f k).kind) ∧ w.cell? ⟨b, k * 5 + 1, none⟩ = some (.int .i64 (f k).tag) ∧ w.cell? ⟨b, k * 5 + 2, none⟩ = some (.string (f k).key) ∧ w.cell? ⟨b, k * 5 + 3, none⟩ = some (.string (f k).elem) ∧ w.cell? ⟨b, k * 5 + 4, none⟩ = some (.int .i64 (f k).birth) := by
  have e : ∀ i, i < 5 → w.cell? ⟨b, k * 5 + i, none⟩ = some (atG f (5 * k + i)) := fun i hi => by
    rw [Nat.mul_comm k 5]
    exact (h.cell (by omega)).1
  have e0 := e 0 (by omega)
  have e1 := e 1 (by omega)
  have e2 := e 2 (by omega)
  have e3 := e 3 (by omega)
  have e4 := e 4 (by omega)
  rw [atG_at f k _ (by omega)] at e0 e1 e2 e3 e4
  exact ⟨e0, e1, e2, e3, e4⟩
theorem fits_nat {n : Nat} (h : n ≤ 100000) : fitsI (n : Int) := fitsI_mk (by omega) (by omega)

/-- The desk's own place among the blocks. -/
structure AtDesk (V wr : World) (p Bd : Nat) (l : Lay) (off : Nat) (en : Int) (d : AD) (c : Nat → GC) : Prop where
  own : Own V wr p (fun k => k = Bd) d
  desk : DeskD d l off c
  blk : wr.heap[Bd]? = some (.cells #[.pointer (some ⟨p, 0, none⟩), .int .i64 l.k, .int .i64 l.e, .int .i64 l.a, .int .i64 l.b, .int .i64 l.c, .int .i64 l.eo, .int .i64 l.bo, .int .i64 l.s, .int .i64 l.g, .int .i64 (off : Int), .int .i64 en] 31)
  ge : V.heap.size ≤ Bd
theorem AtDesk.lt {V wr : World} {p Bd : Nat} {l : Lay} {off : Nat} {en : Int} {d : AD} {c : Nat → GC} (h : AtDesk V wr p Bd l off en d c) : Bd < wr.heap.size := heap_lt h.blk
theorem AtDesk.stay {V wr w' : World} {p Bd : Nat} {l : Lay} {off : Nat} {en : Int} {d : AD} {c : Nat → GC} (h : AtDesk V wr p Bd l off en d c) (k : Keeps wr w' (fun _ => False)) : AtDesk V w' p Bd l off en d c :=
  ⟨h.own.stay k, h.desk, k.blk h.blk, h.ge⟩
theorem AtDesk.turn {V wr w' : World} {p Bd : Nat} {l : Lay} {off : Nat} {en : Int} {d d' : AD} {c c' : Nat → GC} (h : AtDesk V wr p Bd l off en d c) (ht : Turned wr w' p (fun k => (V.heap.size ≤ k ∧ ¬ k = Bd) ∧ k < wr.heap.size) d') (hd : DeskD d' l off c') : AtDesk V w' p Bd l off en d' c' :=
  ⟨h.own.turn ht (fun k e => by have := h.lt; omega), hd, (ht.2.block Bd h.lt (fun e => e.1.2 rfl)).trans h.blk, h.ge⟩
theorem AtDesk.make {V w1 : World} {p : Nat} {l : Lay} {off : Nat} {en : Int} {d : AD} {c : Nat → GC} (hO : Own V w1 p (fun _ => False) d) (hD : DeskD d l off c) :
    AtDesk V (w1.alloc (.cells #[.pointer (some ⟨p, 0, none⟩), .int .i64 l.k, .int .i64 l.e, .int .i64 l.a, .int .i64 l.b, .int .i64 l.c, .int .i64 l.eo, .int .i64 l.bo, .int .i64 l.s, .int .i64 l.g, .int .i64 (off : Int), .int .i64 en] 31)) p w1.heap.size l off en d c := by
  have h1 : Own V w1 p (fun k => k = w1.heap.size) d := ⟨hO.arena.mono (fun i hi e => ⟨e.1, by omega⟩), hO.keeps⟩
  exact ⟨h1.stay ((Keeps.refl _ _).alloc _), hD, heap_alloc_new _ _, hO.keeps.size⟩
theorem AtDesk.beside {V wr : World} {p Bd : Nat} {l : Lay} {off : Nat} {en : Int} {d : AD} {c : Nat → GC} (h : AtDesk V wr p Bd l off en d c) (ho : (off : Int) ≤ 100000) (hg : 0 ≤ l.g ∧ l.g ≤ 520) :
    (Calls Tryz.prog 10 #[.pointer (some ⟨p, 0, none⟩), .int .i64 ((off : Int) - l.g), .int .i64 l.g] wr fun e w' => ReadAPost wr (strOf (same l.g.toNat 165)) 0 e w') ∧
    (Calls Tryz.prog 10 #[.pointer (some ⟨p, 0, none⟩), .int .i64 ((off : Int) + l.g), .int .i64 l.g] wr fun e w' => ReadAPost wr (strOf (same l.g.toNat 165)) 0 e w') := by
  have hge := h.desk.ge
  have e1 : (off : Int) - l.g = ((off - l.g.toNat : Nat) : Int) := by omega
  have e2 : (off : Int) + l.g = ((off + l.g.toNat : Nat) : Int) := by omega
  have e3 : l.g = ((l.g.toNat : Nat) : Int) := by omega
  have g3 := h.desk.good3
  have g1 : d.goodB ((off - l.g.toNat : Nat) : Int) l.g = true := by
    have := good_sub g3 (x := 0) (m := l.g) (by omega) (by omega) (by omega)
    rwa [Int.add_zero] at this
  have g2 : d.goodB ((off + l.g.toNat : Nat) : Int) l.g = true := by
    have := good_sub g3 (x := 2 * l.g) (m := l.g) (by omega) (by omega) (by omega)
    rwa [show ((off - l.g.toNat : Nat) : Int) + 2 * l.g = ((off + l.g.toNat : Nat) : Int) by omega] at this
  have hb := h.desk.before
  have hh := h.desk.behind
  rw [← e3] at hb hh
  have r1 := own_read h.own h.desk.fine ((off - l.g.toNat : Nat) : Int) l.g (fitsI_mk (by omega) (by omega)) (fitsI_mk (by omega) (by omega))
  have r2 := own_read h.own h.desk.fine ((off + l.g.toNat : Nat) : Int) l.g (fitsI_mk (by omega) (by omega)) (fitsI_mk (by omega) (by omega))
  unfold readV at r1 r2
  rw [g1, if_pos rfl, hb] at r1
  rw [g2, if_pos rfl, hh] at r2
  rw [e1, e2]
  exact ⟨r1, r2⟩
end Go.Proofs.YtdnkjbbpfhegdaaGreat
/-
  What came in for the statements of stage 6: a row of steps within a Raw.
-/
namespace Go.Proofs.YtdnkjbbpfhegdaaGreat
open Go.ChangeShapes Go.WideShapes Go.ChangeAt Go.WideMaps Go.WideElems Go.RowKit
set_option linter.unusedVariables false

theorem add_lit (b o i : Nat) : (⟨b, o, none⟩ : Addr).add i = ⟨b, o + i, none⟩ := by simp [Addr.add]
theorem plain_of_cell {w : World} {a : Addr} {v : Value} (h : w.cell? (a.add 0) = some v) : ∃ bb oo, a = ⟨bb, oo, none⟩ ∧ bb < w.heap.size := by
  obtain ⟨bb, oo, sp⟩ := a
  have h' : w.cell? ⟨bb, oo, sp⟩ = some v := h
  have hlt : bb < w.heap.size := by
    rcases Nat.lt_or_ge bb w.heap.size with h1 | h1
    · exact h1
    · simp [World.cell?, Array.getElem?_eq_none h1] at h'
  cases sp with
  | none => exact ⟨bb, oo, rfl, hlt⟩
  | some s =>
    exfalso
    unfold World.cell? at h'
    split at h' <;> simp at h'
theorem weightsAll_mem' {H : Type} {P : Program} {e : TypeId} : ∀ {l : List (DataW H)} {d : DataW H}, d ∈ l → ∀ n ∈ d.weights P e, n ∈ DataW.weightsAll P e l
  | d0 :: r, d, h, n, hn => by
    simp only [DataW.weightsAll, List.mem_append]
    rcases List.mem_cons.1 h with rfl | h
    · exact Or.inl hn
    · exact Or.inr (weightsAll_mem' h n hn)
theorem five_string {H : Type} {P : Program} {t e : TypeId} {f0 f1 f2 f3 f4 : Field} {d0 d1 d2 d3 : DataW H} {bytes : List UInt8} {elems spare : List (DataW H)} (ht : P.underlying t = some (.slice e)) (he : P.underlying e = some (.struct #[f0, f1, f2, f3, f4]))
    (h : ∀ n ∈ (DataW.slice elems spare).weights P t, n ≤ reachBytes) (hd : DataW.agg [d0, d1, d2, d3, .lit (.string bytes)] ∈ elems) : bytes.length ≤ reachBytes := by
  apply h
  simp only [DataW.weights, ht, List.mem_cons, List.mem_append]
  refine Or.inr (Or.inl (weightsAll_mem' hd _ ?_))
  simp only [DataW.weights, he]
  exact DataW.weights_mem_each (j := 4) (t := f4.type) (d := .lit (.string bytes)) rfl rfl _ (by simp [DataW.weights])

instance : Inhabited SD := ⟨⟨0, 0, 0, 0, ⟨#[]⟩⟩⟩
theorem wf_bounds {b : Int} (h : (Lit.int .i64 b).wf = true) : -9223372036854775808 ≤ b ∧ b ≤ 9223372036854775807 := fitsI_bounds h
set_option maxRecDepth 100000 in
theorem open_steps {H : Type} {enc : TypeId × Value → H} {w : World} {held : Bool} {n : Nat} {cs : List Value} {y : DataW H × List MemPlace} (hf : DataW.trod enc Tryz.prog w 0 (fun _ => true) held n 22 cs = some y) (hw : ∀ n ∈ y.1.weights Tryz.prog 22, n ≤ reachBytes) :
    ∃ (a : Option Addr) (cap : Nat) (ss : List SD), cs = [.slice a ss.length cap] ∧ RowS w a ss ∧ ss.length ≤ 140737488355328 := by
  rcases Go.Deep.open_slice Tryz.underlying22 hf with ⟨hcs, hx⟩ | ⟨ad, len, cap, m, n', D, Pl, hcs, _, hl, hm, hmm, hx, hc⟩
  · exact ⟨none, 0, [], hcs, fun j hj => by simp at hj, by simp⟩
  · subst hx
    have ce : Tryz.prog.cellsOf 40 = 5 := by kernel_rfl
    have hmc : m = cap := by simpa using hmm
    have h47 : reachBytes = 140737488351232 := by decide
    have hby : Tryz.prog.bytesOf 40 = 48 := by kernel_rfl
    have hlw : len * 48 ≤ reachBytes := by
      have := hw (((List.map D (List.range len)).length + (List.map D ((List.range m).drop len)).length) * Tryz.prog.bytesOf 40) (by simp [DataW.weights, Tryz.underlying22])
      rw [hby, List.length_map, List.length_range] at this
      have h2 := Nat.le_trans (Nat.mul_le_mul_right 48 (Nat.le_add_right len _)) this
      exact h2
    obtain ⟨f, hf⟩ := Go.Deep.choose_lt (α := SD) (n := len) (p := fun i q => w.cell? (ad.add (i * 5)) = some (.int .i64 q.k) ∧ w.cell? (ad.add (i * 5 + 1)) = some (.int .i64 q.i) ∧ w.cell? (ad.add (i * 5 + 2)) = some (.int .i64 q.t) ∧ w.cell? (ad.add (i * 5 + 3)) = some (.int .i64 q.b) ∧ w.cell? (ad.add (i * 5 + 4)) = some (.string q.x) ∧ q.ok) (fun i hi => by
      obtain ⟨cs', h1, h2⟩ := hc i (by omega)
      rw [ce] at h1
      obtain ⟨_, hlen, hcell⟩ := World.cells?_some h1
      obtain ⟨xs, k, hk, hxy, _, hxl, hf⟩ := DataW.trod_struct Tryz.underlying40 h2
      match xs, hxl, cs', hlen with
      | [y0, y1, y2, y3, y4], _, [v0, v1, v2, v3, v4], _ =>
        have g0 := hf 0 _ rfl
        have g1 := hf 1 _ rfl
        have g2 := hf 2 _ rfl
        have g3 := hf 3 _ rfl
        have g4 := hf 4 _ rfl
        have z3 : Tryz.prog.cellsOf 3 = 1 := by kernel_rfl
        have z9 : Tryz.prog.cellsOf 9 = 1 := by kernel_rfl
        simp [z3, z9] at g0 g1 g2 g3 g4
        have e0 := hcell 0 (by omega)
        have e1 := hcell 1 (by omega)
        have e2 := hcell 2 (by omega)
        have e3 := hcell 3 (by omega)
        have e4 := hcell 4 (by omega)
        rw [Go.Deep.add_add] at e0 e1 e2 e3 e4
        simp only [Prod.mk.injEq] at hxy
        obtain ⟨X0, u0, _, q0⟩ := DataW.trod_int Tryz.underlying3 g0
        obtain ⟨X1, u1, _, q1⟩ := DataW.trod_int Tryz.underlying3 g1
        obtain ⟨X2, u2, _, q2⟩ := DataW.trod_int Tryz.underlying3 g2
        obtain ⟨X3, u3, _, q3⟩ := DataW.trod_int Tryz.underlying3 g3
        obtain ⟨X4, u4, u5, _⟩ := DataW.trod_string Tryz.underlying9 g4
        simp only [List.cons.injEq, and_true] at u0 u1 u2 u3 u4
        subst u0 u1 u2 u3 u4
        have hK : X4.data.toList.length ≤ reachBytes := by
          refine five_string (d0 := y0.1) (d1 := y1.1) (d2 := y2.1) (d3 := y3.1) Tryz.underlying22 Tryz.underlying40 hw ?_
          refine List.mem_map.2 ⟨i, List.mem_range.2 hi, ?_⟩
          rw [hxy.1, u5]
          rfl
        have hK2 : X4.data.toList.length = X4.size := rfl
        exact ⟨⟨X0, X1, X2, X3, X4⟩, by simpa using e0, by simpa using e1, by simpa using e2, by simpa using e3, by simpa using e4, q0, q1, q2, wf_bounds q3, by show X4.size ≤ _; omega⟩)
    have hlen : ((List.range len).map f).length = len := by simp
    refine ⟨some ad, cap, (List.range len).map f, by rw [hlen]; exact hcs, fun j hj => ?_, by rw [hlen]; omega⟩
    have hj' : j < len := by rw [hlen] at hj; exact hj
    have e : ((List.range len).map f)[j] = f j := by simp
    rw [e]
    obtain ⟨b, o, rfl, _⟩ := plain_of_cell (a := ad) (v := .int .i64 (f 0).k) (by have := (hf 0 (by omega)).1; simpa using this)
    obtain ⟨c0, c1, c2, c3, c4, ok⟩ := hf j hj'
    rw [add_lit] at c0 c1 c2 c3 c4
    exact ⟨b, o, rfl, c0, by rw [Nat.add_assoc]; exact c1, by rw [Nat.add_assoc]; exact c2, by rw [Nat.add_assoc]; exact c3, by rw [Nat.add_assoc]; exact c4, ok⟩
theorem raw_weights {H : Type} {y0 y1 y2 y3 : DataW H} {n : Nat} (hn : n ∈ y3.weights Tryz.prog 22) : n ∈ (DataW.agg [y0, y1, y2, y3]).weights Tryz.prog 24 := by
  simp only [DataW.weights, Tryz.underlying24]
  exact DataW.weights_mem_each (j := 3) (t := 22) (d := y3) rfl rfl _ hn
end Go.Proofs.YtdnkjbbpfhegdaaGreat
