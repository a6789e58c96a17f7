import Derived.Test.YteokfhccfmeffaaL8
namespace Go.Proofs.Yteokfhccfmeffaa
open Go.RowKit
namespace layoutEven
open layoutTight

theorem slot16 {l : Lay} (h : validB l = true) : 16 ≤ l.s := by
  obtain ⟨h1, h2⟩ := of_decide_eq_true h
  obtain ⟨e1, e2, e3, e4, e5, e6, e7⟩ := errN_zero h1
  have f3 : l.s = up (up l.k l.b + l.e) 8 + 8 := congrArg Lay.s h2
  have u1 := up_bound (x := l.k) (al_one e6).1
  have u2 := up_bound (x := up l.k l.b + l.e) (a := 8) (by omega)
  omega

theorem pw_no {N : Int} (h : pw N 8 65536 = true) : pw (N + 1) 8 65536 = false ∧ pw (2 * N - 1) 8 65536 = false ∧ (N < 65536 → pw (2 * N) 8 65536 = true) ∧ 2 * N / 8 = 2 * (N / 8) := by
  rcases pwSlots.1 h with rfl | rfl | rfl | rfl | rfl | rfl | rfl | rfl | rfl | rfl | rfl | rfl | rfl | rfl <;> decide
theorem groups_no {l : Lay} {N : Int} (h : pw N 8 65536 = false) : GroupsIs l N (-1) := by
  show groupsD l N = -1
  rw [groupsD, if_neg (by rw [h]; simp)]
theorem groups_yes {l : Lay} {N : Int} (h : pw N 8 65536 = true) (hV : validB l = true) : GroupsIs l N (N / 8 * l.g) := by
  show groupsD l N = _
  rw [groupsD, if_pos ⟨h, hV⟩]

set_option maxHeartbeats 8000000 in
theorem walk (k e a b c p x : Int) (hk : (Lit.int .i64 k).wf = true) (he : (Lit.int .i64 e).wf = true) (ha : (Lit.int .i64 a).wf = true) (hb : (Lit.int .i64 b).wf = true) (hc : (Lit.int .i64 c).wf = true) (_ : (Lit.int .i64 p).wf = true) (_ : (Lit.int .i64 x).wf = true) (w : World) :
    Calls Try.prog 6 #[.agg #[.int .i64 k, .int .i64 e, .int .i64 a, .int .i64 b, .int .i64 c, .int .i64 p, .int .i64 x]] w fun r w' => Post w r w' := by
  have hR := fun W => right_any k e a b c p x W hk he ha hb hc
  clear hk he ha hb hc
  go_enter Try.func6, Try.ntmps6
  go_wp2_with fail
  refine (hR _).mono ?_
  rintro r w1 ⟨g, K, E, A, B, C, hE, rfl, h1, hg, k1⟩
  clear hR
  have kw : Kp w w1 := ((Kp.refl w).alloc _).trans k1
  obtain ⟨c0, c1, c2, c3, c4, hlt⟩ := five_cells h1
  go_wp2_with fail
  refine (parse_ok g 0 5 K E A B C _ c0 c1 c2 c3 c4 hE).mono ?_
  rintro r w2 ⟨rfl, k2⟩
  replace kw := kw.trans k2
  have hV := valid_laid hE
  clear c0 c1 c2 c3 c4 hlt k1 k2 h1 hg hE
  generalize laidD K E A B C = l at *
  have s16 := slot16 hV
  obtain ⟨-, -, e1, e2, b1, b2, s1, s2, hg⟩ := valid_bound hV
  have i1 : KeyIs l 0 8 := by show placeD l 0 0 = 8; rw [place_laid hV _ _ (by omega) (by omega)]; omega
  have i2 : GroupsIs l 8 (8 + 8 * l.s) := by
    show groupsD l 8 = _
    rw [groupsD, if_pos ⟨by decide, hV⟩, hg]
    omega
  have d1 : decide (l.s < 16) = false := decide_eq_false (by omega)
  have d2 : IntKind.i64.wrap (8 * l.s) = 8 * l.s := by rw [IntKind.wrap_i64]; omega
  have d3 : IntKind.i64.wrap (8 + 8 * l.s) = 8 + 8 * l.s := by rw [IntKind.wrap_i64]; omega
  have hg' : Hid (l.g = 8 + 8 * l.s) := hg
  clear hg
  unfold Lay.val
  go_wp2_with fail
  have hS := sx_mk kw l 27
  generalize (w2.alloc (.cells #[.int .i64 l.k, .int .i64 l.e, .int .i64 l.a, .int .i64 l.b, .int .i64 l.c, .int .i64 l.eo, .int .i64 l.bo, .int .i64 l.s, .int .i64 l.g] 27)) = W at *
  generalize w2.heap.size = B at *
  obtain ⟨a0, a1, a2, a3, a4, a5, a6, a7, a8, kw3⟩ := hS
  have hS := And.intro a0 (And.intro a1 (And.intro a2 (And.intro a3 (And.intro a4 (And.intro a5 (And.intro a6 (And.intro a7 (And.intro a8 kw3))))))))
  go_region_held3 (fun w' => w'.cell? ⟨B, 0, none⟩ = some (.int .i64 l.k) ∧ w'.cell? ⟨B, 1, none⟩ = some (.int .i64 l.e) ∧ w'.cell? ⟨B, 2, none⟩ = some (.int .i64 l.a) ∧ w'.cell? ⟨B, 3, none⟩ = some (.int .i64 l.b) ∧ w'.cell? ⟨B, 4, none⟩ = some (.int .i64 l.c) ∧ w'.cell? ⟨B, 5, none⟩ = some (.int .i64 l.eo) ∧ w'.cell? ⟨B, 6, none⟩ = some (.int .i64 l.bo) ∧ w'.cell? ⟨B, 7, none⟩ = some (.int .i64 l.s) ∧ w'.cell? ⟨B, 8, none⟩ = some (.int .i64 l.g) ∧ Kp w w')
    (first | assumption | exact held_drew (by assumption) | exact held_call (by assumption) (by assumption) | exact held_call (by assumption) (held_drew (by assumption)))
    (first | (go_at_call 17; refine (key_is (by assumption) _).mono ?_; rintro r w5 ⟨rfl, k5⟩) | (go_at_call 18; refine (groups_is (by assumption) _).mono ?_; rintro r w5 ⟨rfl, k5⟩))
  have hS5 : Sx w B l w5 := by assumption
  clear i1 i2 d1 d2 d3 hS a0 a1 a2 a3 a4 a5 a6 a7 a8 kw3 k5
  go_wp2_with fail
  go_loopw [5] (fun v wr => ∃ i : Nat, v = .int .i64 (i : Int) ∧ i ≤ 8 ∧ Sx w B l wr) (fun v _ => 8 - (intOf v).toNat)
  case atStart => exact ⟨0, rfl, by omega, hS5⟩
  case round =>
    obtain ⟨i, rfl, hi, hS⟩ := hrel
    by_cases h8 : i < 8
    · have j1 : KeyIs l i (8 + i * l.s) := by show placeD l i 0 = _; rw [place_laid hV _ _ (by omega) (by omega)]; omega
      have j2 : ElemIs l i (8 + i * l.s + l.eo) := place_laid hV _ _ (by omega) (by omega)
      have j3 : BirthIs l i (8 + i * l.s + l.bo) := place_laid hV _ _ (by omega) (by omega)
      have m0 : 0 ≤ (i : Int) * l.s := Int.mul_nonneg (by omega) (by omega)
      have m1 : (i : Int) * l.s ≤ 8 * 278 := Int.mul_le_mul (by omega) (by omega) (by omega) (by omega)
      have q1 : IntKind.i64.wrap ((i : Int) * l.s) = i * l.s := by generalize (i : Int) * l.s = Z at *; rw [IntKind.wrap_i64]; omega
      have q2 : IntKind.i64.wrap (8 + (i : Int) * l.s) = 8 + i * l.s := by generalize (i : Int) * l.s = Z at *; rw [IntKind.wrap_i64]; omega
      have q3 : IntKind.i64.wrap (8 + (i : Int) * l.s + l.eo) = 8 + i * l.s + l.eo := by generalize (i : Int) * l.s = Z at *; rw [IntKind.wrap_i64]; omega
      have q4 : IntKind.i64.wrap (8 + (i : Int) * l.s + l.bo) = 8 + i * l.s + l.bo := by generalize (i : Int) * l.s = Z at *; rw [IntKind.wrap_i64]; omega
      have h8' : (i : Int) < 8 := by omega
      obtain ⟨a0, a1, a2, a3, a4, a5, a6, a7, a8, kw3⟩ := hS
      have hS := And.intro a0 (And.intro a1 (And.intro a2 (And.intro a3 (And.intro a4 (And.intro a5 (And.intro a6 (And.intro a7 (And.intro a8 kw3))))))))
      go_wp2_with fail
      refine (key_is j1 _).mono ?_
      rintro r w3 ⟨rfl, k3⟩
      replace hS := held_call k3 hS
      clear a0 a1 a2 a3 a4 a5 a6 a7 a8 kw3 k3
      obtain ⟨a0, a1, a2, a3, a4, a5, a6, a7, a8, kw3⟩ := hS
      have hS := And.intro a0 (And.intro a1 (And.intro a2 (And.intro a3 (And.intro a4 (And.intro a5 (And.intro a6 (And.intro a7 (And.intro a8 kw3))))))))
      go_wp2_with fail
      go_region_held3 (fun w' => w'.cell? ⟨B, 0, none⟩ = some (.int .i64 l.k) ∧ w'.cell? ⟨B, 1, none⟩ = some (.int .i64 l.e) ∧ w'.cell? ⟨B, 2, none⟩ = some (.int .i64 l.a) ∧ w'.cell? ⟨B, 3, none⟩ = some (.int .i64 l.b) ∧ w'.cell? ⟨B, 4, none⟩ = some (.int .i64 l.c) ∧ w'.cell? ⟨B, 5, none⟩ = some (.int .i64 l.eo) ∧ w'.cell? ⟨B, 6, none⟩ = some (.int .i64 l.bo) ∧ w'.cell? ⟨B, 7, none⟩ = some (.int .i64 l.s) ∧ w'.cell? ⟨B, 8, none⟩ = some (.int .i64 l.g) ∧ Kp w w')
        (first | assumption | exact held_drew (by assumption) | exact held_call (by assumption) (by assumption) | exact held_call (by assumption) (held_drew (by assumption)))
        (first | (go_at_call 19; refine (elem_is (by assumption) _).mono ?_; rintro r w5 ⟨rfl, k5⟩) | (go_at_call 20; refine (birth_is (by assumption) _).mono ?_; rintro r w5 ⟨rfl, k5⟩))
      have hS6 : Sx w B l w5 := by assumption
      go_wp2_with fail
      go_roundw
      case rel => exact ⟨i + 1, rfl, by omega, hS6⟩
      case measure => simp [intOf]; omega
    · have h8' : ¬ (i : Int) < 8 := by omega
      go_wp2_with fail
      go_loopw [7] (fun v wr => ∃ N : Int, v = .int .i64 N ∧ Hid (pw N 8 65536 = true) ∧ 8 ≤ N ∧ N ≤ 65536 ∧ Sx w B l wr) (fun v _ => 65536 - (intOf v).toNat)
      case atStart => exact ⟨8, rfl, (by decide : pw 8 8 65536 = true), by omega, by omega, hS⟩
      case round =>
        clear hS hS5
        obtain ⟨N, rfl, hN, n1, n2, hS⟩ := hrel
        obtain ⟨p1, p2, p3, p4⟩ := pw_no hN.out
        by_cases hlt : N < 65536
        · have g0 : 0 ≤ l.g := by have := hg'.out; omega
          have g1 : l.g ≤ 3000 := by have := hg'.out; omega
          have G0 : 0 ≤ N / 8 * l.g := Int.mul_nonneg (by omega) g0
          have G1 : N / 8 * l.g ≤ 8192 * 3000 := Int.mul_le_mul (by omega) g1 g0 (by omega)
          have j1 : GroupsIs l N (N / 8 * l.g) := groups_yes hN.out hV
          have j2 : GroupsIs l (2 * N) (2 * (N / 8 * l.g)) := by
            have := groups_yes (p3 hlt) hV
            rw [p4, Int.mul_assoc] at this
            exact this
          have j3 : GroupsIs l (N + 1) (-1) := groups_no p1
          have j4 : GroupsIs l (2 * N - 1) (-1) := groups_no p2
          generalize N / 8 * l.g = G at *
          have q1 : IntKind.i64.wrap (2 * N) = 2 * N := by rw [IntKind.wrap_i64]; omega
          have q2 : IntKind.i64.wrap (2 * G) = 2 * G := by rw [IntKind.wrap_i64]; omega
          have q3 : IntKind.i64.wrap (N + 1) = N + 1 := by rw [IntKind.wrap_i64]; omega
          have q4 : IntKind.i64.wrap (2 * N - 1) = 2 * N - 1 := by rw [IntKind.wrap_i64]; omega
          have hp : Hid (pw (2 * N) 8 65536 = true) := p3 hlt
          clear p1 p2 p3 p4
          obtain ⟨a0, a1, a2, a3, a4, a5, a6, a7, a8, kw3⟩ := hS
          have hS := And.intro a0 (And.intro a1 (And.intro a2 (And.intro a3 (And.intro a4 (And.intro a5 (And.intro a6 (And.intro a7 (And.intro a8 kw3))))))))
          go_wp2_with fail
          go_region_held3 (fun w' => w'.cell? ⟨B, 0, none⟩ = some (.int .i64 l.k) ∧ w'.cell? ⟨B, 1, none⟩ = some (.int .i64 l.e) ∧ w'.cell? ⟨B, 2, none⟩ = some (.int .i64 l.a) ∧ w'.cell? ⟨B, 3, none⟩ = some (.int .i64 l.b) ∧ w'.cell? ⟨B, 4, none⟩ = some (.int .i64 l.c) ∧ w'.cell? ⟨B, 5, none⟩ = some (.int .i64 l.eo) ∧ w'.cell? ⟨B, 6, none⟩ = some (.int .i64 l.bo) ∧ w'.cell? ⟨B, 7, none⟩ = some (.int .i64 l.s) ∧ w'.cell? ⟨B, 8, none⟩ = some (.int .i64 l.g) ∧ Kp w w')
            (first | assumption | exact held_drew (by assumption) | exact held_call (by assumption) (by assumption) | exact held_call (by assumption) (held_drew (by assumption)))
            (first | (go_at_call 18; refine (groups_is (by assumption) _).mono ?_; rintro r w5 ⟨rfl, k5⟩))
          have hS6 : Sx w B l w5 := by assumption
          go_wp2_with fail
          go_roundw
          case rel => exact ⟨2 * N, rfl, hp, by omega, by have := pwSlots.1 hp.out; omega, hS6⟩
          case measure => simp [intOf]; omega
        · have j1 : GroupsIs l 131072 (-1) := groups_no (by decide)
          have j2 : KeyIs l 8 (-1) := by show placeD l 8 0 = -1; exact if_neg (by omega)
          have j3 : ElemIs l (-1) (-1) := by show placeD l (-1) l.eo = -1; exact if_neg (by omega)
          clear p1 p2 p3 p4
          obtain ⟨a0, a1, a2, a3, a4, a5, a6, a7, a8, kw3⟩ := hS
          have hS := And.intro a0 (And.intro a1 (And.intro a2 (And.intro a3 (And.intro a4 (And.intro a5 (And.intro a6 (And.intro a7 (And.intro a8 kw3))))))))
          go_wp2_with fail
          refine (groups_is j1 _).mono ?_
          rintro r w3 ⟨rfl, k3⟩
          replace hS := held_call k3 hS
          clear a0 a1 a2 a3 a4 a5 a6 a7 a8 kw3 k3
          obtain ⟨a0, a1, a2, a3, a4, a5, a6, a7, a8, kw3⟩ := hS
          have hS := And.intro a0 (And.intro a1 (And.intro a2 (And.intro a3 (And.intro a4 (And.intro a5 (And.intro a6 (And.intro a7 (And.intro a8 kw3))))))))
          go_wp2_with fail
          refine (key_is j2 _).mono ?_
          rintro r w3 ⟨rfl, k3⟩
          replace hS := held_call k3 hS
          clear a0 a1 a2 a3 a4 a5 a6 a7 a8 kw3 k3
          obtain ⟨a0, a1, a2, a3, a4, a5, a6, a7, a8, kw3⟩ := hS
          have hS := And.intro a0 (And.intro a1 (And.intro a2 (And.intro a3 (And.intro a4 (And.intro a5 (And.intro a6 (And.intro a7 (And.intro a8 kw3))))))))
          go_wp2_with fail
          refine (elem_is j3 _).mono ?_
          rintro r w3 ⟨rfl, k3⟩
          replace hS := held_call k3 hS
          clear a0 a1 a2 a3 a4 a5 a6 a7 a8 kw3 k3
          obtain ⟨a0, a1, a2, a3, a4, a5, a6, a7, a8, kw3⟩ := hS
          have hS := And.intro a0 (And.intro a1 (And.intro a2 (And.intro a3 (And.intro a4 (And.intro a5 (And.intro a6 (And.intro a7 (And.intro a8 kw3))))))))
          go_wp2_with fail
          go_ret
          exact ⟨rfl, kw3⟩
end layoutEven
end Go.Proofs.Yteokfhccfmeffaa
