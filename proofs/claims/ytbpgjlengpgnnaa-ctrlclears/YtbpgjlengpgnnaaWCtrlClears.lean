import Derived.Test.YtbpgjlengpgnnaaC2
namespace Go.Proofs.Ytbpgjlengpgnnaa
open Go.RowKit
namespace ctrlClears

def Post (w : World) (e : Ending) (w' : World) : Prop := e = .returned (.bool true) ∧ Below w.heap.size w w'

theorem one (W i : Nat) (p : Nat → Bool) (hi : i < 8) : HasIs ((spread (mk p W) : Nat) : Int) (i : Int) (p (byN W i)) := Or.inl ⟨mk p W, i, rfl, rfl, hi, (hasM_mk p W hi).symm⟩

theorem clB_clB (x : Nat) : clB (clB x) = clB x := by
  by_cases h : x = 254
  · subst h
    rfl
  · rw [show clB x = x from if_neg h, show clB x = x from if_neg h]

set_option maxRecDepth 100000 in
set_option maxHeartbeats 4000000 in
theorem core (W : Nat) (w : World) (hw : W < 18446744073709551616) :
    Calls Try.prog 5 #[.int .u64 (W : Int)] w (Post w) := by
  have t0 := clear_any W hw
  have hx := clN_lt W
  go_enter Try.func5, Try.ntmps5
  go_wp2_with fail
  refine (t0 _).mono ?_
  rintro e w1 ⟨rfl, k1⟩
  go_wp2_with fail
  clear t0
  have hcc : clN (clN W) = clN W := by
    refine ext8 (clN_lt _) hx fun i hi => ?_
    rw [byN_clN _ hi, byN_clN _ hi, clB_clB]
  have tc := clear_any (clN W) hx
  rw [hcc] at tc
  clear hcc
  have q1 : VacantIs (W : Int) _ := ⟨W, hw, rfl, rfl⟩
  have q2 : EmptyIs ((clN W : Nat) : Int) _ := ⟨clN W, hx, rfl, rfl⟩
  have q3 : VacantIs ((clN W : Nat) : Int) _ := ⟨clN W, hx, rfl, rfl⟩
  have q4 : FullIs ((clN W : Nat) : Int) _ := ⟨clN W, hx, rfl, rfl⟩
  have q5 : FullIs (W : Int) _ := ⟨W, hw, rfl, rfl⟩
  have g1 := fun i hi => one W i (fun x => x == 128 || x == 254) hi
  have g2 := fun i hi => one (clN W) i (· == 128) hi
  have g3 := fun i hi => one (clN W) i (fun x => x == 128 || x == 254) hi
  have g4 := fun i hi => one (clN W) i (fun x => decide (x < 128)) hi
  have g5 := fun i hi => one W i (fun x => decide (x < 128)) hi
  have hbx := fun i => and_val (clN W) i hx
  have hby := fun i (hi : i < 8) => byN_clN W hi
  have hxl : ((clN W : Nat) : Int) < 18446744073709551616 := by omega
  generalize spread (mk (fun x => x == 128 || x == 254) W) = z1 at *
  generalize spread (mk (· == 128) (clN W)) = z2 at *
  generalize spread (mk (fun x => x == 128 || x == 254) (clN W)) = z3 at *
  generalize spread (mk (fun x => decide (x < 128)) (clN W)) = z4 at *
  generalize spread (mk (fun x => decide (x < 128)) W) = z5 at *
  generalize clN W = X at *
  go_loopw [4] (fun vi wr => ∃ i : Nat, vi = .int .i64 (i : Int) ∧ i ≤ 8 ∧ Kp w wr) (fun vi _ => 8 - (intOf vi).toNat)
  case atStart => exact ⟨0, rfl, by decide, k1⟩
  case round =>
    obtain ⟨i, rfl, hi, kk⟩ := hrel
    by_cases hlt : i < 8
    · have hlt' : (i : Int) < 8 := by omega
      replace g1 := g1 i hlt
      replace g2 := g2 i hlt
      replace g3 := g3 i hlt
      replace g4 := g4 i hlt
      replace g5 := g5 i hlt
      replace hbx := hbx i
      have hb := and_val W i hw
      have hB := byN_lt W i
      have hy := hby i hlt
      clear hby tc
      rw [hy] at g2 g3 g4 hbx
      clear hy
      generalize byN W i = B at *
      clear hlt hi hw hx hxl
      by_cases h : B = 254
      · subst h
        have e1 : clB 254 = 128 := by decide
        rw [e1] at g2 g3 g4 hbx
        have b1 : (254 == 128 || 254 == 254) = true := by decide
        have b2 : (128 == 128) = true := by decide
        have b3 : (128 == 128 || 128 == 254) = true := by decide
        have b4 : decide (128 < 128) = false := by decide
        have b5 : decide (254 < 128) = false := by decide
        rw [b1] at g1
        rw [b2] at g2
        rw [b3] at g3
        rw [b4] at g4
        rw [b5] at g5
        clear b1 b2 b3 b4 b5 e1 hB
        go_wp2_with fail
        refine (vacant_is q1 _).mono ?_
        rintro e w5 ⟨rfl, k5⟩
        replace kk := kk.trans k5
        clear k5
        go_wp2_with fail
        refine (has_is g1 _).mono ?_
        rintro e w6 ⟨rfl, k5⟩
        replace kk := kk.trans k5
        clear k5
        go_wp2_with fail
        refine (empty_is q2 _).mono ?_
        rintro e w7 ⟨rfl, k5⟩
        replace kk := kk.trans k5
        clear k5
        go_wp2_with fail
        refine (has_is g2 _).mono ?_
        rintro e w8 ⟨rfl, k5⟩
        replace kk := kk.trans k5
        clear k5
        go_wp2_with fail
        refine (vacant_is q3 _).mono ?_
        rintro e w9 ⟨rfl, k5⟩
        replace kk := kk.trans k5
        clear k5
        go_wp2_with fail
        refine (has_is g3 _).mono ?_
        rintro e w10 ⟨rfl, k5⟩
        replace kk := kk.trans k5
        clear k5
        go_wp2_with fail
        refine (full_is q4 _).mono ?_
        rintro e w11 ⟨rfl, k5⟩
        replace kk := kk.trans k5
        clear k5
        go_wp2_with fail
        refine (has_is g4 _).mono ?_
        rintro e w12 ⟨rfl, k5⟩
        replace kk := kk.trans k5
        clear k5
        go_wp2_with fail
        refine (full_is q5 _).mono ?_
        rintro e w13 ⟨rfl, k5⟩
        replace kk := kk.trans k5
        clear k5
        go_wp2_with fail
        refine (has_is g5 _).mono ?_
        rintro e w14 ⟨rfl, k5⟩
        replace kk := kk.trans k5
        clear k5
        go_wp2_with fail
        exact ⟨⟨i + 1, by simp, by omega, kk⟩, by simp [intOf]; omega⟩
      · have e1 : clB B = B := if_neg h
        rw [e1] at g2 g3 g4 hbx
        have b1 : (B == 254) = false := beq_eq_false_iff_ne.2 h
        have h' : ((B : Int) == 254) = false := beq_eq_false_iff_ne.2 (by omega)
        simp only [b1, Bool.or_false] at g1 g3
        generalize (B == 128) = b at *
        generalize (decide (B < 128)) = d at *
        clear e1 b1 h
        go_wp2_with fail
        refine (vacant_is q1 _).mono ?_
        rintro e w5 ⟨rfl, k5⟩
        replace kk := kk.trans k5
        clear k5
        go_wp2_with fail
        refine (has_is g1 _).mono ?_
        rintro e w6 ⟨rfl, k5⟩
        replace kk := kk.trans k5
        clear k5
        go_wp2_with fail
        refine (empty_is q2 _).mono ?_
        rintro e w7 ⟨rfl, k5⟩
        replace kk := kk.trans k5
        clear k5
        go_wp2_with fail
        refine (has_is g2 _).mono ?_
        rintro e w8 ⟨rfl, k5⟩
        replace kk := kk.trans k5
        clear k5
        go_wp2_with fail
        refine (vacant_is q3 _).mono ?_
        rintro e w9 ⟨rfl, k5⟩
        replace kk := kk.trans k5
        clear k5
        go_wp2_with fail
        refine (has_is g3 _).mono ?_
        rintro e w10 ⟨rfl, k5⟩
        replace kk := kk.trans k5
        clear k5
        go_wp2_with fail
        refine (full_is q4 _).mono ?_
        rintro e w11 ⟨rfl, k5⟩
        replace kk := kk.trans k5
        clear k5
        go_wp2_with fail
        refine (has_is g4 _).mono ?_
        rintro e w12 ⟨rfl, k5⟩
        replace kk := kk.trans k5
        clear k5
        go_wp2_with fail
        refine (full_is q5 _).mono ?_
        rintro e w13 ⟨rfl, k5⟩
        replace kk := kk.trans k5
        clear k5
        go_wp2_with fail
        refine (has_is g5 _).mono ?_
        rintro e w14 ⟨rfl, k5⟩
        replace kk := kk.trans k5
        clear k5
        go_wp2_with fail
        exact ⟨⟨i + 1, by simp, by omega, kk⟩, by simp [intOf]; omega⟩
    · have hlt' : ¬ (i : Int) < 8 := by omega
      clear g1 g2 g3 g4 g5
      go_wp2_with fail
      refine (tc _).mono ?_
      rintro e w5 ⟨rfl, k5⟩
      go_wp2_with fail
      go_ret
      exact ⟨rfl, kk.trans k5⟩

theorem walk (a0 : Int) (w0 : (Lit.int .u64 a0).wf = true) (W : World) :
    Calls Try.prog 5 #[.int .u64 a0] W fun e w' => e = .returned (.bool true) ∧ Below W.heap.size W w' := by
  obtain ⟨h, rfl, hh⟩ := u64_nat w0
  exact core h W hh
end ctrlClears
end Go.Proofs.Ytbpgjlengpgnnaa
