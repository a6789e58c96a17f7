import Derived.Test.YteepnkhfeokenaaS1
import Derived.Deep.QuietTactic
import Derived.BigQuiet
namespace Go.Proofs.Yteepnkhfeokenaa
open Go.RowKit

theorem first_append (w : World) (a : Addr) (c : Nat) (xs : List Int) (hn : xs.length ≤ 17592186044000) (hsrc : ∀ j u, (intCells xs)[j]? = some u → w.cell? (a.add j) = some u) :
    ∃ v1 w2, (Builtin.append_ #[27, 27] 27 #[.slice (some ⟨w.heap.size, 0, none⟩) 0 0, .slice (some a) xs.length c]).run Try.prog (w.alloc (.cells #[] 3)) = .ok v1 w2 ∧ ¬ v1 = .slice none 0 0 ∧ w2.ownsRow w.heap.size 3 1 v1 xs.length (intCells xs) ∧ Kp w w2 := by
  have hi : (Try.prog.info? 3).map (fun i => (i.zero, i.size, i.bytes)) = some (some (.int .i64 0), 1, 8) := by kernel_rfl
  obtain ⟨i, h1, h2, h3, h4⟩ := info_parts hi
  have own0 : (w.alloc (.cells #[] 3)).ownsRow w.heap.size 3 1 (.slice (some ⟨w.heap.size, 0, none⟩) 0 0) 0 [] := World.ownsRow_made w #[] 0 (Nat.le_refl _) (by simp only [maxLen]; omega) (by simp)
  obtain ⟨v', w2, hr, hown, hgr, hnil⟩ := run_append_own (P := Try.prog) (w.alloc (.cells #[] 3)) w.heap.size 27 27 3 i (.int .i64 0) 1 8 Try.underlying27 h1 h2 h3 h4 rfl (by decide) _ 0 [] own0 a xs.length c (intCells xs) (by rw [intCells_length]; omega)
    (fun j u hu => by
      have := hsrc j u hu
      exact ((Kp.refl w).alloc _).cell this) (intCells_one xs) (by simp only [maxLen]; omega) (by omega) (by simp)
  refine ⟨v', w2, hr, fun e => by have := (hnil.1 e).1; simp at this, by simpa using hown, Below.grown (Below.alloc (Below.refl _ _) (Nat.le_refl _) _) hgr (by simp) (fun k hk => by simp [Value.ownBlock] at hk; omega)⟩

set_option maxHeartbeats 2000000 in
theorem spare_some (a : Addr) (c : Nat) (xs : List Int) (w : World) (hn : xs.length ≤ 17592186044000) (hsrc : ∀ j u, (intCells xs)[j]? = some u → w.cell? (a.add j) = some u) :
    Calls Try.prog 5 #[.slice (some a) xs.length c] w fun r w' => SparePost w xs r w' := by
  obtain ⟨v1, w2, r1, hv, own1, k2⟩ := first_append w a c xs hn hsrc
  obtain ⟨h, cap, w4, r2, hc, hm, p1, p2, p3, hb, k4⟩ := second_append w w2 xs hn v1 hv own1 k2
  have hcn : xs.length ≤ cap := by omega
  have hpost : Hid (SparePost w xs (.returned (.slice (some ⟨h, 0, none⟩) xs.length cap)) w4) := ⟨h, cap, rfl, hc, Nat.le_trans hm (by decide), p1, p2, p3, hb, k4⟩
  have hm' : cap ≤ 9223372036854775807 := Nat.le_trans hm (by decide)
  clear own1 k2 hsrc p1 p2 p3 hb k4 hm
  go_enter Try.func5, Try.ntmps5
  go_wp2_with (first | (at_builtin; have _t := r1; refine append_run1 _ rfl (.tmp 4) (.tmp 5) 27 rfl rfl rfl r1 ?_; clear r1) | (at_builtin; have _t := r2; refine append_run1 _ rfl (.tmp 7) (.tmp 8) 27 rfl rfl rfl r2 ?_; clear r2))
  go_ret
  exact hpost.out

set_option maxHeartbeats 2000000 in
theorem spare_nil (w : World) :
    Calls Try.prog 5 #[.slice none 0 0] w fun r w' => SparePost w [] r w' := by
  have hi : (Try.prog.info? 3).map (fun i => (i.zero, i.size, i.bytes)) = some (some (.int .i64 0), 1, 8) := by kernel_rfl
  obtain ⟨i, h1, h2, h3, h4⟩ := info_parts hi
  have own0 : (w.alloc (.cells #[] 3)).ownsRow w.heap.size 3 1 (.slice (some ⟨w.heap.size, 0, none⟩) 0 0) 0 [] := World.ownsRow_made w #[] 0 (Nat.le_refl _) (by simp only [maxLen]; omega) (by simp)
  have r1 := run_append_owned_none (P := Try.prog) (w := w.alloc (.cells #[] 3)) w.heap.size 27 27 3 i 1 Try.underlying27 h1 _ 0 [] own0
  obtain ⟨h, cap, w4, r2, hc, hm, p1, p2, p3, hb, k4⟩ := second_append w (w.alloc (.cells #[] 3)) [] (by simp) _ (by simp) own0 ((Kp.refl w).alloc _)
  have hpost : Hid (SparePost w [] (.returned (.slice (some ⟨h, 0, none⟩) ([] : List Int).length cap)) w4) := ⟨h, cap, rfl, hc, Nat.le_trans hm (by decide), p1, p2, p3, hb, k4⟩
  have hm' : cap ≤ 9223372036854775807 := Nat.le_trans hm (by decide)
  clear own0 p1 p2 p3 hb k4 hm hi h1 h2 h3 h4
  simp only [List.length_nil, Nat.zero_add] at hpost r2 hc
  have hsz : (w.alloc (.cells #[] 3)).heap.size = w.heap.size + 1 := by simp
  rw [hsz] at r2
  go_enter Try.func5, Try.ntmps5
  go_wp2_with (first | (at_builtin; have _t := r1; refine append_run1 _ rfl (.tmp 4) (.tmp 5) 27 rfl rfl rfl r1 ?_; clear r1) | (at_builtin; have _t := r2; refine append_run1 _ rfl (.tmp 7) (.tmp 8) 27 rfl rfl rfl r2 ?_; clear r2))
  go_ret
  exact hpost.out

theorem Kp.drewN0 {w w1 : World} (h : Kp w w1) (n : Nat) : Kp w (w1.drewN n) := ⟨h.os, h.tape, h.output, h.size, h.block⟩

set_option maxHeartbeats 4000000 in
theorem same_plain (h cap g o c : Nat) (xs : List Int) (w : World) (hn : xs.length ≤ 17592186044000) (hc : xs.length + 2 ≤ cap) (hm : cap ≤ 9223372036854775807)
    (p1 : ∀ j (hj : j < xs.length), w.cell? ⟨h, j, none⟩ = some (.int .i64 xs[j])) (p2 : w.cell? ⟨h, xs.length, none⟩ = some (.int .i64 77)) (p3 : w.cell? ⟨h, xs.length + 1, none⟩ = some (.int .i64 77))
    (q1 : ∀ j (hj : j < xs.length), w.cell? ⟨g, o + j, none⟩ = some (.int .i64 xs[j])) :
    Calls Try.prog 7 #[.slice (some ⟨h, 0, none⟩) xs.length cap, .slice (some ⟨g, o, none⟩) xs.length c] w fun r w' => r = .returned (.bool true) ∧ Kp w w' := by
  have hx : (xs.length : Int) + 2 ≤ cap := by omega
  go_enter Try.func7, Try.ntmps7
  go_wp2_with fail
  go_loopw [6] (fun v wr => ∃ i : Nat, v = .int .i64 (i : Int) ∧ i ≤ xs.length ∧ Kp w wr) (fun v _ => xs.length - (intOf v).toNat)
  case atStart => exact ⟨0, rfl, by omega, Kp.refl _⟩
  case round =>
    obtain ⟨i, rfl, hi, kr⟩ := hrel
    by_cases hlt : i < xs.length
    · have hlt' : (i : Int) < (xs.length : Int) := by omega
      have c1 := kr.cell (p1 i hlt)
      have c2 := kr.cell (q1 i hlt)
      generalize xs[i] = y at c1 c2
      have hi2 : i < xs.length + 2 := by omega
      have hi3 : (i : Int) < (xs.length : Int) + 2 := by omega
      clear p1 q1
      go_wp2_with fail
      go_quiet (fail)
      go_wp2_with fail
      go_roundw
      case rel => exact ⟨i + 1, rfl, by omega, kr.drewN0 _⟩
      case measure => simp [intOf]; omega
    · have hlt' : ¬ (i : Int) < (xs.length : Int) := by omega
      have c1 := kr.cell p2
      have c2 := kr.cell p3
      clear p1 q1
      go_wp2_with fail
      go_ret
      exact ⟨rfl, kr⟩

set_option maxHeartbeats 4000000 in
theorem same_zero (h cap c : Nat) (so : Option Addr) (w : World) (hc : 2 ≤ cap) (hm : cap ≤ 9223372036854775807)
    (p2 : w.cell? ⟨h, 0, none⟩ = some (.int .i64 77)) (p3 : w.cell? ⟨h, 1, none⟩ = some (.int .i64 77)) :
    Calls Try.prog 7 #[.slice (some ⟨h, 0, none⟩) 0 cap, .slice so 0 c] w fun r w' => r = .returned (.bool true) ∧ Kp w w' := by
  have hx : (2 : Int) ≤ cap := by omega
  go_enter Try.func7, Try.ntmps7
  go_wp2_with fail
  go_loopw [6] (fun v wr => v = .int .i64 0 ∧ Kp w wr) (fun _ _ => 0)
  case atStart => exact ⟨rfl, Kp.refl _⟩
  case round =>
    obtain ⟨rfl, kr⟩ := hrel
    have c1 := kr.cell p2
    have c2 := kr.cell p3
    go_wp2_with fail
    go_ret
    exact ⟨rfl, kr⟩
end Go.Proofs.Yteepnkhfeokenaa
