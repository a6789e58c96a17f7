import Derived.Test.YtbpgjlengpgnnaaC2
namespace Go.Proofs.Ytbpgjlengpgnnaa
open Go.RowKit
namespace ctrlParts

def Post (w : World) (e : Ending) (w' : World) : Prop := e = .returned (.bool true) ∧ Below w.heap.size w w'

theorem one (W i : Nat) (p : Nat → Bool) (hi : i < 8) : HasIs ((spread (mk p W) : Nat) : Int) (i : Int) (p (byN W i)) := Or.inl ⟨mk p W, i, rfl, rfl, hi, (hasM_mk p W hi).symm⟩

set_option maxRecDepth 100000 in
set_option maxHeartbeats 4000000 in
theorem core (W : Nat) (w : World) (hw : W < 18446744073709551616) :
    Calls Try.prog 7 #[.int .u64 (W : Int)] w (Post w) := by
  have t1 := full_any W hw
  have t2 := vacant_any W hw
  have t3 := mempty_any W hw
  unfold setV at t1 t2 t3
  have g1 := fun i hi => one W i (fun x => decide (x < 128)) hi
  have g2 := fun i hi => one W i (fun x => x == 128 || x == 254) hi
  have g3 := fun i hi => one W i (· == 128) hi
  have n1 : CntIs ((spread (mk (fun x => decide (x < 128)) W) : Nat) : Int) ((cntM (mk (fun x => decide (x < 128)) W) : Nat) : Int) := ⟨_, mk_lt _ _, rfl, rfl⟩
  have n2 : CntIs ((spread (mk (fun x => x == 128 || x == 254) W) : Nat) : Int) ((cntM (mk (fun x => x == 128 || x == 254) W) : Nat) : Int) := ⟨_, mk_lt _ _, rfl, rfl⟩
  have n3 : CntIs ((spread (mk (· == 128) W) : Nat) : Int) ((cntM (mk (· == 128) W) : Nat) : Int) := ⟨_, mk_lt _ _, rfl, rfl⟩
  have l1 := cnt_full_vacant W
  have l2 := cnt_empty_vacant W
  generalize spread (mk (fun x => decide (x < 128)) W) = F at *
  generalize spread (mk (fun x => x == 128 || x == 254) W) = V at *
  generalize spread (mk (· == 128) W) = E at *
  generalize cntM (mk (fun x => decide (x < 128)) W) = F1 at *
  generalize cntM (mk (fun x => x == 128 || x == 254) W) = V1 at *
  generalize cntM (mk (· == 128) W) = E1 at *
  go_enter Try.func7, Try.ntmps7
  go_wp2_with fail
  refine (t1 _).mono ?_
  rintro e w1 ⟨rfl, k1⟩
  go_wp2_with fail
  refine (t2 _).mono ?_
  rintro e w2 ⟨rfl, k2⟩
  go_wp2_with fail
  refine (t3 _).mono ?_
  rintro e w3 ⟨rfl, k3⟩
  have k : Kp w w3 := k1.trans (k2.trans k3)
  clear t1 t2 t3 k1 k2 k3
  go_wp2_with fail
  have hS : S3 w w3.heap.size (w3.heap.size + 1) (w3.heap.size + 1 + 1) (.int .u64 (F : Int)) (.int .u64 (V : Int)) (.int .u64 (E : Int)) (((w3.alloc (Obj.cells #[Value.int IntKind.u64 ↑F] 29)).alloc (Obj.cells #[Value.int IntKind.u64 ↑V] 29)).alloc (Obj.cells #[Value.int IntKind.u64 ↑E] 29)) := by
    exact ⟨old_cell (old_cell (new_cell _ _ _) _) _, old_cell (new_cell_at (by simp) _ _) _, new_cell_at (by simp) _ _, ((k.alloc _).alloc _).alloc _⟩
  generalize (((w3.alloc (Obj.cells #[Value.int IntKind.u64 ↑F] 29)).alloc (Obj.cells #[Value.int IntKind.u64 ↑V] 29)).alloc (Obj.cells #[Value.int IntKind.u64 ↑E] 29)) = w4 at *
  generalize w3.heap.size + 1 + 1 = B3 at *
  generalize w3.heap.size + 1 = B2 at *
  generalize w3.heap.size = B1 at *
  clear k
  go_loopw [6] (fun vi wr => ∃ i : Nat, vi = .int .i64 (i : Int) ∧ i ≤ 8 ∧ S3 w B1 B2 B3 (.int .u64 (F : Int)) (.int .u64 (V : Int)) (.int .u64 (E : Int)) wr) (fun vi _ => 8 - (intOf vi).toNat)
  case atStart => exact ⟨0, rfl, by decide, hS⟩
  case round =>
    obtain ⟨i, rfl, hi, hS⟩ := hrel
    by_cases hlt : i < 8
    · have hlt' : (i : Int) < 8 := by omega
      replace g1 := g1 i hlt
      replace g2 := g2 i hlt
      replace g3 := g3 i hlt
      have hG : GetIs (W : Int) (i : Int) ((byN W i : Nat) : Int) := ⟨W, hw, rfl, by unfold getN; rw [if_pos ⟨by omega, by omega⟩, Int.toNat_natCast]⟩
      have hx : bits BinOp.and IntKind.u64 ((W : Int) / 2 ^ (8 * i)) 255 = ((byN W i : Nat) : Int) := and_val W i hw
      have hB := byN_lt W i
      generalize byN W i = B at *
      clear n1 n2 n3 l1 l2
      by_cases h1 : B < 128
      · have b1 : decide (B < 128) = true := decide_eq_true h1
        have b2 : (B == 128) = false := beq_eq_false_iff_ne.2 (by omega)
        have b3 : (B == 254) = false := beq_eq_false_iff_ne.2 (by omega)
        have h1' : (B : Int) < 128 := by omega
        have h2' : ((B : Int) == 128) = false := beq_eq_false_iff_ne.2 (by omega)
        have h3' : ((B : Int) == 254) = false := beq_eq_false_iff_ne.2 (by omega)
        simp only [b1, b2, b3, Bool.or_self] at g1 g2 g3
        clear b1 b2 b3 h1
        clear hlt hi
        obtain ⟨c1, c2, c3, kk⟩ := hS
        go_wp2_with fail
        refine (get_is hG _).mono ?_
        rintro e w' ⟨rfl, rfl⟩
        go_wp2_with fail
        refine (has_is g1 _).mono ?_
        rintro e w5 ⟨rfl, k5⟩
        replace c2 := k5.cell c2
        replace c1 := k5.cell c1
        replace c3 := k5.cell c3
        replace kk := kk.trans k5
        clear k5
        go_wp2_with fail
        refine (has_is g3 _).mono ?_
        rintro e w6 ⟨rfl, k5⟩
        replace c2 := k5.cell c2
        replace c1 := k5.cell c1
        replace c3 := k5.cell c3
        replace kk := kk.trans k5
        clear k5
        go_wp2_with fail
        refine (has_is g2 _).mono ?_
        rintro e w7 ⟨rfl, k5⟩
        replace c2 := k5.cell c2
        replace c1 := k5.cell c1
        replace c3 := k5.cell c3
        replace kk := kk.trans k5
        clear k5
        go_wp2_with fail
        exact ⟨⟨i + 1, by simp, by omega, c1, c2, c3, kk⟩, by simp [intOf]; omega⟩
      · by_cases h2 : B = 128
        · subst h2
          have b1 : decide (128 < 128) = false := by decide
          have b2 : (128 == 128) = true := by decide
          simp only [b1, b2, Bool.true_or] at g1 g2 g3
          clear b1 b2 h1
          clear hlt hi
          obtain ⟨c1, c2, c3, kk⟩ := hS
          go_wp2_with fail
          refine (get_is hG _).mono ?_
          rintro e w' ⟨rfl, rfl⟩
          go_wp2_with fail
          refine (has_is g1 _).mono ?_
          rintro e w5 ⟨rfl, k5⟩
          replace c2 := k5.cell c2
          replace c1 := k5.cell c1
          replace c3 := k5.cell c3
          replace kk := kk.trans k5
          clear k5
          go_wp2_with fail
          refine (has_is g3 _).mono ?_
          rintro e w6 ⟨rfl, k5⟩
          replace c2 := k5.cell c2
          replace c1 := k5.cell c1
          replace c3 := k5.cell c3
          replace kk := kk.trans k5
          clear k5
          go_wp2_with fail
          refine (has_is g2 _).mono ?_
          rintro e w7 ⟨rfl, k5⟩
          replace c2 := k5.cell c2
          replace c1 := k5.cell c1
          replace c3 := k5.cell c3
          replace kk := kk.trans k5
          clear k5
          go_wp2_with fail
          exact ⟨⟨i + 1, by simp, by omega, c1, c2, c3, kk⟩, by simp [intOf]; omega⟩
        · by_cases h3 : B = 254
          · subst h3
            have b1 : decide (254 < 128) = false := by decide
            have b2 : (254 == 128) = false := by decide
            have b3 : (254 == 254) = true := by decide
            simp only [b1, b2, b3, Bool.or_true] at g1 g2 g3
            clear b1 b2 b3 h1 h2
            clear hlt hi
            obtain ⟨c1, c2, c3, kk⟩ := hS
            go_wp2_with fail
            refine (get_is hG _).mono ?_
            rintro e w' ⟨rfl, rfl⟩
            go_wp2_with fail
            refine (has_is g1 _).mono ?_
            rintro e w5 ⟨rfl, k5⟩
            replace c2 := k5.cell c2
            replace c1 := k5.cell c1
            replace c3 := k5.cell c3
            replace kk := kk.trans k5
            clear k5
            go_wp2_with fail
            refine (has_is g3 _).mono ?_
            rintro e w6 ⟨rfl, k5⟩
            replace c2 := k5.cell c2
            replace c1 := k5.cell c1
            replace c3 := k5.cell c3
            replace kk := kk.trans k5
            clear k5
            go_wp2_with fail
            refine (has_is g2 _).mono ?_
            rintro e w7 ⟨rfl, k5⟩
            replace c2 := k5.cell c2
            replace c1 := k5.cell c1
            replace c3 := k5.cell c3
            replace kk := kk.trans k5
            clear k5
            go_wp2_with fail
            exact ⟨⟨i + 1, by simp, by omega, c1, c2, c3, kk⟩, by simp [intOf]; omega⟩
          · have b1 : decide (B < 128) = false := decide_eq_false h1
            have b2 : (B == 128) = false := beq_eq_false_iff_ne.2 h2
            have b3 : (B == 254) = false := beq_eq_false_iff_ne.2 h3
            have h1' : ¬ (B : Int) < 128 := by omega
            have h2' : ((B : Int) == 128) = false := beq_eq_false_iff_ne.2 (by omega)
            have h3' : ((B : Int) == 254) = false := beq_eq_false_iff_ne.2 (by omega)
            simp only [b1, b2, b3, Bool.or_self] at g1 g2 g3
            clear b1 b2 b3 h1 h2 h3
            clear hlt hi
            obtain ⟨c1, c2, c3, kk⟩ := hS
            go_wp2_with fail
            refine (get_is hG _).mono ?_
            rintro e w' ⟨rfl, rfl⟩
            go_wp2_with fail
            refine (has_is g1 _).mono ?_
            rintro e w5 ⟨rfl, k5⟩
            replace c2 := k5.cell c2
            replace c1 := k5.cell c1
            replace c3 := k5.cell c3
            replace kk := kk.trans k5
            clear k5
            go_wp2_with fail
            refine (has_is g3 _).mono ?_
            rintro e w6 ⟨rfl, k5⟩
            replace c2 := k5.cell c2
            replace c1 := k5.cell c1
            replace c3 := k5.cell c3
            replace kk := kk.trans k5
            clear k5
            go_wp2_with fail
            refine (has_is g2 _).mono ?_
            rintro e w7 ⟨rfl, k5⟩
            replace c2 := k5.cell c2
            replace c1 := k5.cell c1
            replace c3 := k5.cell c3
            replace kk := kk.trans k5
            clear k5
            go_wp2_with fail
            exact ⟨⟨i + 1, by simp, by omega, c1, c2, c3, kk⟩, by simp [intOf]; omega⟩
    · have hlt' : ¬ (i : Int) < 8 := by omega
      have e1 : EmptyIs 9259542123273814144 9259542123273814144 := ⟨9259542123273814144, by decide, rfl, by decide +kernel⟩
      have e2 : FullIs 9259542123273814144 0 := ⟨9259542123273814144, by decide, rfl, by decide +kernel⟩
      have e3 : CntIs 0 0 := ⟨0, by decide, by decide +kernel, by decide +kernel⟩
      have e4 : CntIs 9259542123273814144 8 := ⟨255, by decide, by decide +kernel, by decide +kernel⟩
      have d1 : IntKind.i64.wrap ((F1 : Int) + (V1 : Int)) = (F1 : Int) + (V1 : Int) := by rw [IntKind.wrap_i64]; omega
      have d2 : decide ((F1 : Int) + (V1 : Int) ≤ 8) = true := decide_eq_true (by omega)
      have d3 : decide ((E1 : Int) ≤ (V1 : Int)) = true := decide_eq_true (by omega)
      clear g1 g2 g3 hlt hi
      go_wp2_with fail
      go_region_held3 (fun w' => w'.cell? ⟨B1, 0, none⟩ = some (.int .u64 (F : Int)) ∧ w'.cell? ⟨B2, 0, none⟩ = some (.int .u64 (V : Int)) ∧ w'.cell? ⟨B3, 0, none⟩ = some (.int .u64 (E : Int)) ∧ Kp w w') (first | exact hS | assumption | (with_reducible (refine S3.drew ?_; assumption)) | (with_reducible (refine S3.call ?_ k5; assumption))) (first | (go_at_call 13; refine (count_is (by assumption) _).mono ?_; rintro r w5 ⟨rfl, k5⟩) | (go_at_call 17; refine (empty_any _).mono ?_; rintro r w5 ⟨rfl, rfl⟩) | (go_at_call 12; refine (full_is (by assumption) _).mono ?_; rintro r w5 ⟨rfl, k5⟩) | (go_at_call 16; refine (empty_is (by assumption) _).mono ?_; rintro r w5 ⟨rfl, k5⟩))
      go_wp2_with fail
      have hH : S3 w B1 B2 B3 (.int .u64 (F : Int)) (.int .u64 (V : Int)) (.int .u64 (E : Int)) w5 := by assumption
      go_ret
      exact ⟨rfl, hH.2.2.2⟩

theorem walk (a0 : Int) (w0 : (Lit.int .u64 a0).wf = true) (W : World) :
    Calls Try.prog 7 #[.int .u64 a0] W fun e w' => e = .returned (.bool true) ∧ Below W.heap.size W w' := by
  obtain ⟨h, rfl, hh⟩ := u64_nat w0
  exact core h W hh
end ctrlParts
end Go.Proofs.Ytbpgjlengpgnnaa
