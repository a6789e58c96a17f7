import Derived.Test.YtbpgjlengpgnnaaC2
namespace Go.Proofs.Ytbpgjlengpgnnaa
open Go.RowKit
namespace ctrlMatches

def Post (w : World) (e : Ending) (w' : World) : Prop := e = .returned (.bool true) ∧ Below w.heap.size w w'

theorem one (W i : Nat) (p : Nat → Bool) (hi : i < 8) : HasIs ((spread (mk p W) : Nat) : Int) (i : Int) (p (byN W i)) := Or.inl ⟨mk p W, i, rfl, rfl, hi, (hasM_mk p W hi).symm⟩

def cntB (W t : Nat) : Nat := cntM (mk (fun x => decide (x < t)) W)
theorem cntB_zero (W : Nat) : cntB W 0 = 0 := by
  unfold cntB
  rw [cntM_mk]
  have e : (fun i => (decide (byN W i < 0)).toNat) = fun _ => 0 := by
    funext i
    rw [decide_eq_false (by omega)]
    rfl
  rw [e]
  rfl
theorem cntB_succ (W t : Nat) (ht : t < 128) : cntB W (t + 1) = cntB W t + cntM (mk (tagB (t : Int)) W) := by
  unfold cntB
  rw [cntM_mk, cntM_mk, cntM_mk, sum8_add]
  congr 1
  funext i
  generalize byN W i = x
  unfold tagB
  by_cases h1 : x < t
  · rw [decide_eq_true (by omega : x < t + 1), decide_eq_true h1, decide_eq_false (by omega)]
    rfl
  · by_cases h2 : x = t
    · rw [decide_eq_true (by omega : x < t + 1), decide_eq_false h1, decide_eq_true ⟨by omega, by omega⟩]
      rfl
    · rw [decide_eq_false (by omega : ¬ x < t + 1), decide_eq_false h1, decide_eq_false (by omega)]
      rfl
theorem cntM_le (m : Nat) : cntM m ≤ 8 := by
  unfold cntM
  omega

set_option maxRecDepth 100000 in
set_option maxHeartbeats 4000000 in
theorem core (W : Nat) (tag : Int) (w : World) (hw : W < 18446744073709551616) :
    Calls Try.prog 4 #[.int .u64 (W : Int), .int .i64 tag] w (Post w) := by
  have q1 : MatchIs (W : Int) tag _ := ⟨W, hw, rfl, rfl⟩
  have g1 := fun i hi => one W i (tagB tag) hi
  generalize spread (mk (tagB tag) W) = z1 at *
  go_enter Try.func4, Try.ntmps4
  go_wp2_with fail
  refine (match_is q1 _).mono ?_
  rintro e w1 ⟨rfl, k1⟩
  clear q1
  go_wp2_with fail
  have c1 := new_cell w1 (.int .u64 (z1 : Int)) 29
  have kk := k1.alloc (.cells #[.int .u64 (z1 : Int)] 29)
  generalize (w1.alloc (Obj.cells #[Value.int IntKind.u64 ↑z1] 29)) = w2 at *
  generalize w1.heap.size = B1 at *
  go_loopw [6] (fun vi wr => ∃ i : Nat, vi = .int .i64 (i : Int) ∧ i ≤ 8 ∧ wr.cell? ⟨B1, 0, none⟩ = some (.int .u64 (z1 : Int)) ∧ Kp w wr) (fun vi _ => 8 - (intOf vi).toNat)
  case atStart => exact ⟨0, rfl, by decide, c1, kk⟩
  case round =>
    clear c1 kk k1
    obtain ⟨i, rfl, hi, c1, kk⟩ := hrel
    by_cases hlt : i < 8
    · have hlt' : (i : Int) < 8 := by omega
      replace g1 := g1 i hlt
      have hb := and_val W i hw
      have hB := byN_lt W i
      generalize byN W i = B at *
      clear hlt hi hw
      by_cases h0 : tag < 0
      · have e1 : tagB tag B = false := decide_eq_false (by omega)
        rw [e1] at g1
        clear e1
        go_wp2_with fail
        refine (has_is g1 _).mono ?_
        rintro e w5 ⟨rfl, k5⟩
        replace c1 := k5.cell c1
        replace kk := kk.trans k5
        clear k5
        go_wp2_with fail
        exact ⟨⟨i + 1, by simp, by omega, c1, kk⟩, by simp [intOf]; omega⟩
      · by_cases h1 : 127 < tag
        · have e1 : tagB tag B = false := decide_eq_false (by omega)
          rw [e1] at g1
          clear e1
          go_wp2_with fail
          refine (has_is g1 _).mono ?_
          rintro e w5 ⟨rfl, k5⟩
          replace c1 := k5.cell c1
          replace kk := kk.trans k5
          clear k5
          go_wp2_with fail
          exact ⟨⟨i + 1, by simp, by omega, c1, kk⟩, by simp [intOf]; omega⟩
        · by_cases h2 : tag = (B : Int)
          · subst h2
            have e1 : tagB (B : Int) B = true := decide_eq_true ⟨by omega, rfl⟩
            rw [e1] at g1
            clear e1
            go_wp2_with fail
            refine (has_is g1 _).mono ?_
            rintro e w5 ⟨rfl, k5⟩
            replace c1 := k5.cell c1
            replace kk := kk.trans k5
            clear k5
            go_wp2_with fail
            exact ⟨⟨i + 1, by simp, by omega, c1, kk⟩, by simp [intOf]; omega⟩
          · have e1 : tagB tag B = false := decide_eq_false (by omega)
            rw [e1] at g1
            have h3 : ((B : Int) == tag) = false := beq_eq_false_iff_ne.2 (by omega)
            clear e1 h2
            go_wp2_with fail
            refine (has_is g1 _).mono ?_
            rintro e w5 ⟨rfl, k5⟩
            replace c1 := k5.cell c1
            replace kk := kk.trans k5
            clear k5
            go_wp2_with fail
            exact ⟨⟨i + 1, by simp, by omega, c1, kk⟩, by simp [intOf]; omega⟩
    · have hlt' : ¬ (i : Int) < 8 := by omega
      clear g1 c1 hi hlt
      have q2 : FullIs (W : Int) _ := ⟨W, hw, rfl, rfl⟩
      have g2 := fun i hi => one W i (fun x => decide (x < 128)) hi
      have hN : CntIs ((spread (mk (fun x => decide (x < 128)) W) : Nat) : Int) ((cntM (mk (fun x => decide (x < 128)) W) : Nat) : Int) := ⟨_, mk_lt _ _, rfl, rfl⟩
      have hN' : cntM (mk (fun x => decide (x < 128)) W) = cntB W 128 := rfl
      rw [hN'] at hN
      clear hN'
      generalize spread (mk (fun x => decide (x < 128)) W) = z2 at *
      go_wp2_with fail
      refine (full_is q2 _).mono ?_
      rintro e w3 ⟨rfl, k3⟩
      replace kk := kk.trans k3
      clear q2 k3
      go_wp2_with fail
      have c2 := new_cell w3 (.int .u64 (z2 : Int)) 29
      replace kk := kk.alloc (.cells #[.int .u64 (z2 : Int)] 29)
      generalize (w3.alloc (Obj.cells #[Value.int IntKind.u64 ↑z2] 29)) = w4 at *
      generalize w3.heap.size = B2 at *
      go_loopw [9, 10] (fun vs vt wr => ∃ t : Nat, vt = .int .i64 (t : Int) ∧ t ≤ 128 ∧ vs = .int .i64 ((cntB W t : Nat) : Int) ∧ wr.cell? ⟨B2, 0, none⟩ = some (.int .u64 (z2 : Int)) ∧ Kp w wr) (fun _ vt _ => 128 - (intOf vt).toNat)
      case atStart => exact ⟨0, rfl, by decide, by rw [cntB_zero]; rfl, c2, kk⟩
      case round =>
        clear c2 kk
        obtain ⟨t, rfl, ht, rfl, c2, kk⟩ := hrel
        by_cases htl : t < 128
        · have htl' : (t : Int) < 128 := by omega
          have q1 : MatchIs (W : Int) (t : Int) _ := ⟨W, hw, rfl, rfl⟩
          have g1 := fun i hi => one W i (tagB (t : Int)) hi
          have n1 : CntIs ((spread (mk (tagB (t : Int)) W) : Nat) : Int) ((cntM (mk (tagB (t : Int)) W) : Nat) : Int) := ⟨_, mk_lt _ _, rfl, rfl⟩
          have hsum := hide (cntB_succ W t htl)
          have hl1 : cntB W t ≤ 8 := cntM_le _
          have hl2 := cntM_le (mk (tagB (t : Int)) W)
          generalize spread (mk (tagB (t : Int)) W) = z3 at *
          generalize cntM (mk (tagB (t : Int)) W) = C1 at *
          generalize cntB W t = C0 at *
          clear hN
          go_wp2_with fail
          refine (match_is q1 _).mono ?_
          rintro e w5 ⟨rfl, k5⟩
          replace c2 := k5.cell c2
          replace kk := kk.trans k5
          clear k5 q1
          go_wp2_with fail
          have c3 := new_cell w5 (.int .u64 (z3 : Int)) 29
          replace c2 := old_cell c2 (.cells #[.int .u64 (z3 : Int)] 29)
          replace kk := kk.alloc (.cells #[.int .u64 (z3 : Int)] 29)
          generalize (w5.alloc (Obj.cells #[Value.int IntKind.u64 ↑z3] 29)) = w6 at *
          generalize w5.heap.size = B3 at *
          refine (count_is n1 _).mono ?_
          rintro e w7 ⟨rfl, k5⟩
          replace c2 := k5.cell c2
          replace c3 := k5.cell c3
          replace kk := kk.trans k5
          clear k5 n1
          go_wp2_with fail
          go_loopw [12] (fun vi wr => ∃ i : Nat, vi = .int .i64 (i : Int) ∧ i ≤ 8 ∧ wr.cell? ⟨B2, 0, none⟩ = some (.int .u64 (z2 : Int)) ∧ wr.cell? ⟨B3, 0, none⟩ = some (.int .u64 (z3 : Int)) ∧ Kp w wr) (fun vi _ => 8 - (intOf vi).toNat)
          case atStart => exact ⟨0, rfl, by decide, c2, c3, kk⟩
          case round =>
            clear c2 c3 kk
            obtain ⟨i, rfl, hi, c2, c3, kk⟩ := hrel
            by_cases hlt : i < 8
            · have hlt' : (i : Int) < 8 := by omega
              replace g1 := g1 i hlt
              replace g2 := g2 i hlt
              generalize byN W i = B at *
              clear hlt hi hw
              by_cases h2 : (t : Int) = (B : Int)
              · have e1 : tagB (t : Int) B = true := decide_eq_true ⟨by omega, h2.symm⟩
                have e2 : decide (B < 128) = true := decide_eq_true (by omega)
                rw [e1] at g1
                rw [e2] at g2
                clear e1 e2 h2
                go_wp2_with fail
                refine (has_is g1 _).mono ?_
                rintro e w8 ⟨rfl, k5⟩
                replace c2 := k5.cell c2
                replace c3 := k5.cell c3
                replace kk := kk.trans k5
                clear k5
                go_wp2_with fail
                refine (has_is g2 _).mono ?_
                rintro e w9 ⟨rfl, k5⟩
                replace c2 := k5.cell c2
                replace c3 := k5.cell c3
                replace kk := kk.trans k5
                clear k5
                go_wp2_with fail
                exact ⟨⟨i + 1, by simp, by omega, c2, c3, kk⟩, by simp [intOf]; omega⟩
              · have e1 : tagB (t : Int) B = false := decide_eq_false (by omega)
                rw [e1] at g1
                clear e1 h2
                go_wp2_with fail
                refine (has_is g1 _).mono ?_
                rintro e w8 ⟨rfl, k5⟩
                replace c2 := k5.cell c2
                replace c3 := k5.cell c3
                replace kk := kk.trans k5
                clear k5
                go_wp2_with fail
                exact ⟨⟨i + 1, by simp, by omega, c2, c3, kk⟩, by simp [intOf]; omega⟩
            · have hlt' : ¬ (i : Int) < 8 := by omega
              go_wp2_with fail
              exact ⟨⟨t + 1, by simp, by omega, by rw [hsum.out]; simp, c2, kk⟩, by simp [intOf]; omega⟩
        · have htl' : ¬ (t : Int) < 128 := by omega
          obtain rfl : t = 128 := by omega
          go_wp2_with fail
          refine (count_is hN _).mono ?_
          rintro e w8 ⟨rfl, k5⟩
          go_wp2_with fail
          go_ret
          exact ⟨rfl, kk.trans k5⟩

theorem walk (a0 a1 : Int) (w0 : (Lit.int .u64 a0).wf = true) (_ : (Lit.int .i64 a1).wf = true) (W : World) :
    Calls Try.prog 4 #[.int .u64 a0, .int .i64 a1] W fun e w' => e = .returned (.bool true) ∧ Below W.heap.size W w' := by
  obtain ⟨h, rfl, hh⟩ := u64_nat w0
  exact core h a1 W hh
end ctrlMatches
end Go.Proofs.Ytbpgjlengpgnnaa
