/-
  DirPicks's walk.
-/
import Derived.Test.YtkfkgkcecocbpaaDoorDn12
namespace Go.Proofs.YtkfkgkcecocbpaaDoor
open Go.RowKit Go.Shelf
set_option linter.unusedVariables false

theorem cells_of {w : World} {so : Option Addr} {cp : Nat} {zs : List Int} (h : InZ w (.slice so zs.length cp) zs) : ∀ j (hj : j < zs.length), ∃ b o, so = some ⟨b, o, none⟩ ∧ w.cell? ⟨b, o + j, none⟩ = some (.int .i64 zs[j]) := by
  obtain ⟨so', cp', e, hc⟩ := h.form
  injection e with e1 e2 e3
  subst e1
  exact hc
namespace dirPicks

set_option maxRecDepth 100000 in
set_option maxHeartbeats 2000000 in
theorem walk_no (h : Nat) (v : Value) (zs : List Int) (w : World) (hz : InZ w v zs) (hl : zs.length ≤ 17592186044000) (hd : depI zs.length < 0) :
    Calls Tryd.prog 4 #[v, .int .u64 (h : Int)] w fun e w' => Post w e w' := by
  have hM := made_no v zs w hz hl hd
  have hDp := fun W => depthOf_any zs.length W
  obtain ⟨so, cap, rfl, -⟩ := hz.form
  generalize depI zs.length = dq at *
  clear hz
  go_enter Tryd.func4, Tryd.ntmps4
  go_wp2_with fail
  (with_reducible refine hM.mono ?_)
  rintro e w2 ⟨p, rfl, k2⟩
  have hbl := hide ((k2.alloc (.cells #[.pointer none, .int .i64 0, .int .i64 0] 28)).below (Nat.le_refl _) (fun _ _ e => e))
  clear hM k2
  go_wp2_with fail
  (with_reducible refine (hDp _).mono ?_)
  rintro e w3 ⟨rfl, rfl⟩
  clear hDp
  go_wp2_with fail
  go_ret
  exact ⟨by simp, hbl.out⟩

set_option maxRecDepth 100000 in
set_option maxHeartbeats 2000000 in
theorem walk_yes (h : Nat) (v : Value) (zs : List Int) (w : World) (hT : TabAt w) (hz : InZ w v zs) (hl : zs.length ≤ 17592186044000) (hfit : ∀ j (h : j < zs.length), fitsI zs[j]) (hh : h < 18446744073709551616) (hd : ¬ depI zs.length < 0) :
    Calls Tryd.prog 4 #[v, .int .u64 (h : Int)] w fun e w' => Post w e w' := by
  have hM := made_yes v zs w hT hz hl hfit hd
  obtain ⟨so, cap, rfl, -⟩ := hz.form
  have HZ := hide hz
  clear hz hT hfit hd
  go_enter Tryd.func4, Tryd.ntmps4
  go_wp2_with fail
  (with_reducible refine hM.mono ?_)
  rintro e w2 ⟨p, off, D, d, rfl, hMd⟩
  clear hM
  have hD6 := hMd.dir.dep
  have hlen := hMd.dir.len
  have K4 : Keeps w2 (w2.alloc (.cells #[.pointer (some ⟨p, 0, none⟩), .int .i64 (off : Int), .int .i64 (D : Int)] 28)) (fun _ => False) := (Keeps.refl _ _).alloc _
  have B4 : DirB (w2.alloc (.cells #[.pointer (some ⟨p, 0, none⟩), .int .i64 (off : Int), .int .i64 (D : Int)] 28)) w2.heap.size p off D := heap_alloc_new _ _
  have HM := hide (hMd.stay K4)
  have HB := hide B4
  have Hlen := hide hlen
  clear hMd K4 B4 hlen
  have hDe := fun W => dDepth_any p off D W
  go_wp2_with fail
  go_loopw [8, 9] (fun va vi wr => ∃ k : Nat, va = .int .i64 ((headN h k : Nat) : Int) ∧ vi = .int .i64 (k : Int) ∧ k ≤ D ∧ DirB wr w2.heap.size p off D ∧ Made w wr p off D d zs 65536) (fun _ vi _ => D - (intOf vi).toNat)
  case atStart => exact ⟨0, by rw [headN_zero hh]; rfl, rfl, Nat.zero_le _, HB.out, HM.out⟩
  case round =>
    obtain ⟨k, rfl, rfl, hk, hB, hMr⟩ := hrel
    clear HB HM
    obtain ⟨⟨c0, c1, c2⟩, -⟩ := three_cells hB
    have HMr := hide hMr
    have HBr := hide hB
    clear hMr hB
    go_wp2_with fail
    (with_reducible refine (hDe _).mono ?_)
    rintro e w5 ⟨rfl, k5⟩
    have HM5 := hide (HMr.out.stay k5)
    have HB5 := hide (k5.blk HBr.out)
    clear HMr HBr c0 c1 c2 k5
    by_cases hlt : k < D
    · have hlt' : (k : Int) < (D : Int) := by omega
      have hnx := headN_succ h k (by omega)
      have hbd := headN_lt h k hh (by omega)
      have hbt : bitN h (k : Int) = h / 2 ^ (63 - k) % 2 := by unfold bitN; rw [if_pos ⟨by omega, by omega⟩, Int.toNat_natCast]
      have h64 : headN h k < 64 := Nat.lt_of_lt_of_le hbd (pow_le6 (by omega))
      have e2 : (h : Int) / 2 ^ (63 - k) = ((h / 2 ^ (63 - k) : Nat) : Int) := by rw [Int.natCast_ediv, Int.natCast_pow]; rfl
      rw [hbt] at hnx
      have Hnx := hide hnx
      have hX : h / 2 ^ (63 - k) ≤ h := Nat.div_le_self _ _
      clear hbt hnx hbd
      generalize h / 2 ^ (63 - k) = X at *
      generalize headN h k = at0 at *
      go_wp2_with fail
      go_roundw
      case rel => exact ⟨k + 1, by rw [Hnx.out]; go_num, by go_num, by omega, HB5.out, HM5.out⟩
      case measure => simp [intOf]; omega
    · obtain rfl : k = D := by omega
      have hlt' : ¬ (k : Int) < (k : Int) := by omega
      have hin : headN h k < zs.length := by rw [Hlen.out]; exact headN_lt h k hh (by omega)
      have hn64 : headN h k < 64 := Nat.lt_of_lt_of_le (headN_lt h k hh (by omega)) (pow_le6 hD6)
      obtain ⟨b, o, rfl, hcell⟩ := cells_of HZ.out (headN h k) hin
      have hP := dpick_any HM5.out.dir h hh hin
      obtain ⟨⟨c0, c1, c2⟩, -⟩ := three_cells HB5.out
      have hin' : ((headN h k : Nat) : Int) < (zs.length : Int) := by omega
      generalize zs[headN h k] = z at *
      generalize headN h k = n at *
      go_wp2_with fail
      (with_reducible refine hP.mono ?_)
      rintro e w6 ⟨rfl, k6⟩
      have hM6 := HM5.out.stay k6
      have hc2 := hM6.dir.own.keeps.cellK hcell
      have hbl := hide hM6.below
      clear hP c0 c1 c2 k6 hM6 HM5 HB5 hDe hcell HZ
      go_wp2_with fail
      go_ret
      exact ⟨rfl, hbl.out⟩

theorem walk (v : Value) (zs : List Int) (x : Int) (w : World) (hT : TabAt w) (hz : InZ w v zs) (hl : zs.length ≤ 17592186044000) (hfit : ∀ j (h : j < zs.length), fitsI zs[j]) (hx : (Lit.int .u64 x).wf = true) :
    Calls Tryd.prog 4 #[v, .int .u64 x] w fun e w' => Post w e w' := by
  obtain ⟨h, rfl, hh⟩ := u64_nat hx
  by_cases hd : depI zs.length < 0
  · exact walk_no h v zs w hz hl hd
  · exact walk_yes h v zs w hT hz hl hfit hh hd
end dirPicks
end Go.Proofs.YtkfkgkcecocbpaaDoor
