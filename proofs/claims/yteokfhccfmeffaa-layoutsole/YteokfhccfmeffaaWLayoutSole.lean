import Derived.Test.YteokfhccfmeffaaL9
namespace Go.Proofs.Yteokfhccfmeffaa
open Go.RowKit
namespace layoutSole
open layoutTight

theorem tail_alloc {w w5 : World} {o : Obj} (k : Kp w w5) {P : World → Prop} (h : ∀ W, W.heap[w5.heap.size]? = some o → Kp w W → P W) : P (w5.alloc o) := h _ (heap_new _ _) (k.alloc _)

set_option maxHeartbeats 8000000 in
theorem walk (k e a b c p x : Int) (hk : (Lit.int .i64 k).wf = true) (he : (Lit.int .i64 e).wf = true) (ha : (Lit.int .i64 a).wf = true) (hb : (Lit.int .i64 b).wf = true) (hc : (Lit.int .i64 c).wf = true) (hp : (Lit.int .i64 p).wf = true) (_ : (Lit.int .i64 x).wf = true) (w : World) :
    Calls Try.prog 8 #[.agg #[.int .i64 k, .int .i64 e, .int .i64 a, .int .i64 b, .int .i64 c, .int .i64 p, .int .i64 x]] w fun r w' => Post w r w' := by
  have hR := fun W => right_any k e a b c p x W hk he ha hb hc
  have hM : ModIs p 4 (p % 4) := ⟨hp, by omega, by omega, rfl⟩
  have p0 : 0 ≤ p % 4 := by omega
  have p1 : p % 4 < 4 := by omega
  generalize p % 4 = P at *
  clear hk he ha hb hc
  go_enter Try.func8, Try.ntmps8
  go_wp2_with fail
  refine (hR _).mono ?_
  rintro r w1 ⟨g, K, E, A, B, C, hE, rfl, h1, hg, k1⟩
  clear hR
  have kw : Kp w w1 := ((Kp.refl w).alloc _).trans k1
  have hr1 := k1.blk (heap_new _ _)
  obtain ⟨c0, c1, c2, c3, c4, hlt⟩ := five_cells h1
  go_wp2_with fail
  refine (parse_ok g 0 5 K E A B C _ c0 c1 c2 c3 c4 hE).mono ?_
  rintro r w2 ⟨rfl, k2⟩
  replace kw := kw.trans k2
  have hr2 := k2.blk hr1
  have hV := valid_laid hE
  clear c0 c1 c2 c3 c4 hlt k1 k2 h1 hg hE hr1
  generalize laidD K E A B C = l at *
  obtain ⟨-, -, e1, e2, b1, b2, s1, s2, -⟩ := valid_bound hV
  have i1 : ValidIs l true := hV
  have i2 : KeyIs l 7 (8 + 7 * l.s) := by show placeD l 7 0 = _; rw [place_laid hV _ _ (by omega) (by omega)]; omega
  unfold Lay.val
  go_wp2_with fail
  have hS := sx_mk kw l 27
  have q5 : (w2.alloc (.cells #[.int .i64 l.k, .int .i64 l.e, .int .i64 l.a, .int .i64 l.b, .int .i64 l.c, .int .i64 l.eo, .int .i64 l.bo, .int .i64 l.s, .int .i64 l.g] 27)).cell? ⟨w.heap.size, 5, none⟩ = some (.int .i64 p) := cell_blk (heap_old hr2 _) rfl
  have q6 : (w2.alloc (.cells #[.int .i64 l.k, .int .i64 l.e, .int .i64 l.a, .int .i64 l.b, .int .i64 l.c, .int .i64 l.eo, .int .i64 l.bo, .int .i64 l.s, .int .i64 l.g] 27)).cell? ⟨w.heap.size, 6, none⟩ = some (.int .i64 x) := cell_blk (heap_old hr2 _) rfl
  generalize (w2.alloc (.cells #[.int .i64 l.k, .int .i64 l.e, .int .i64 l.a, .int .i64 l.b, .int .i64 l.c, .int .i64 l.eo, .int .i64 l.bo, .int .i64 l.s, .int .i64 l.g] 27)) = W at *
  generalize w2.heap.size = B at *
  clear hr2
  obtain ⟨a0, a1, a2, a3, a4, a5, a6, a7, a8, kw3⟩ := hS
  have hS := And.intro a0 (And.intro a1 (And.intro a2 (And.intro a3 (And.intro a4 (And.intro a5 (And.intro a6 (And.intro a7 (And.intro a8 kw3))))))))
  refine (valid_is i1 _).mono ?_
  rintro r w3 ⟨rfl, k3⟩
  replace hS := held_call k3 hS
  replace q5 := k3.cell q5
  replace q6 := k3.cell q6
  clear a0 a1 a2 a3 a4 a5 a6 a7 a8 kw3 k3
  obtain ⟨a0, a1, a2, a3, a4, a5, a6, a7, a8, kw3⟩ := hS
  have hS := And.intro a0 (And.intro a1 (And.intro a2 (And.intro a3 (And.intro a4 (And.intro a5 (And.intro a6 (And.intro a7 (And.intro a8 kw3))))))))
  go_wp2_with fail
  refine (key_is i2 _).mono ?_
  rintro r w3 ⟨rfl, k3⟩
  replace hS := held_call k3 hS
  replace q5 := k3.cell q5
  replace q6 := k3.cell q6
  clear a0 a1 a2 a3 a4 a5 a6 a7 a8 kw3 k3
  obtain ⟨a0, a1, a2, a3, a4, a5, a6, a7, a8, kw3⟩ := hS
  have hS := And.intro a0 (And.intro a1 (And.intro a2 (And.intro a3 (And.intro a4 (And.intro a5 (And.intro a6 (And.intro a7 (And.intro a8 kw3))))))))
  go_wp2_with fail
  have hS0 := sy_mk (And.intro a0 (And.intro a1 (And.intro a2 (And.intro a3 (And.intro a4 (And.intro a5 (And.intro a6 (And.intro a7 (And.intro a8 (Kp.refl w3)))))))))) q5 q6
  have hS1 := hS0
  clear hS
  go_region_held3 (fun w' => w'.cell? ⟨B, 0, none⟩ = some (.int .i64 l.k) ∧ w'.cell? ⟨B, 1, none⟩ = some (.int .i64 l.e) ∧ w'.cell? ⟨B, 2, none⟩ = some (.int .i64 l.a) ∧ w'.cell? ⟨B, 3, none⟩ = some (.int .i64 l.b) ∧ w'.cell? ⟨B, 4, none⟩ = some (.int .i64 l.c) ∧ w'.cell? ⟨B, 5, none⟩ = some (.int .i64 l.eo) ∧ w'.cell? ⟨B, 6, none⟩ = some (.int .i64 l.bo) ∧ w'.cell? ⟨B, 7, none⟩ = some (.int .i64 l.s) ∧ w'.cell? ⟨B, 8, none⟩ = some (.int .i64 l.g) ∧ Kp w3 w' ∧ w'.cell? ⟨w.heap.size, 5, none⟩ = some (.int .i64 p) ∧ w'.cell? ⟨w.heap.size, 6, none⟩ = some (.int .i64 x))
    (first | with_reducible assumption | with_reducible exact sy_set hS0 (Nat.le_refl _) (by assumption) | with_reducible exact sy_drew (by assumption) | with_reducible exact sy_call k5 (by assumption) | with_reducible exact sy_call (Kp.alloc (Kp.refl _) _) (by assumption) | with_reducible exact sy_drew (sy_call (Kp.alloc (Kp.refl _) _) (by assumption)) | with_reducible exact sy_re hS0 k5.size (by assumption) | with_reducible exact sy_re hS0 (Nat.le_refl _) (by assumption) | exact sy_call (by assumption) (by assumption) | exact sy_call (by assumption) (sy_drew (by assumption)) | exact sy_re hS0 (by first | exact k5.size | exact Nat.le_refl _) (by assumption))
    (first | (go_at_call 12; refine (mod_is (by assumption) _).mono ?_; rintro r w5 ⟨rfl, rfl⟩) | (go_at_call 23; refine (with_any l P x _ p0 p1).mono ?_; rintro r w5 ⟨m, old, rfl, hinv, k5⟩; obtain ⟨u0, u1, u2, u3, u4, u5, u6, u7, u8, f0, f1, f2, f3, f4, f5, f6, f7, f8⟩ := k5.nine (heap_new _ _)) | (go_at_call 23; refine (with_any l P x _ p0 p1).mono ?_; rintro r w5 ⟨m, old, rfl, hinv, k5⟩))
  · have k7' : Kp w3 w5 := (Kp.refl w3).drew.trans k5
    refine tail_alloc k7' (P := fun W => Exit.then _ _ _ _ W) fun W7 h7 k7 => ?_
    have kw7 := kw3.trans k7
    have q7 := k7.cell q6
    clear a0 a1 a2 a3 a4 a5 a6 a7 a8 q5 q6 hS0 hS1 k5
    obtain ⟨a0, a1, a2, a3, a4, a5, a6, a7, a8, -⟩ := (Kp.refl W7).nine h7
    by_cases hx : old = x
    · subst hx
      go_wp2_with fail
      go_ret
      exact ⟨rfl, kw7⟩
    · have hv := hinv hx hV
      have hx' : (old == x) = false := by simpa using hx
      have j1 : ValidIs m false := hv
      have j2 : KeyIs m 0 (-1) := if_neg (fun h => by rw [hv] at h; exact absurd h.2.2 (by simp))
      have j3 : ElemIs m 0 (-1) := if_neg (fun h => by rw [hv] at h; exact absurd h.2.2 (by simp))
      have j4 : BirthIs m 0 (-1) := if_neg (fun h => by rw [hv] at h; exact absurd h.2.2 (by simp))
      have j5 : GroupsIs m 8 (-1) := if_neg (fun h => by rw [hv] at h; exact absurd h.2 (by simp))
      have hS := And.intro a0 (And.intro a1 (And.intro a2 (And.intro a3 (And.intro a4 (And.intro a5 (And.intro a6 (And.intro a7 (And.intro a8 kw7))))))))
      clear hinv
      go_wp2_with fail
      refine (valid_is j1 _).mono ?_
      rintro r w6 ⟨rfl, k6⟩
      replace hS := held_call k6 hS
      clear a0 a1 a2 a3 a4 a5 a6 a7 a8 kw7 k6
      obtain ⟨a0, a1, a2, a3, a4, a5, a6, a7, a8, kw7⟩ := hS
      have hS := And.intro a0 (And.intro a1 (And.intro a2 (And.intro a3 (And.intro a4 (And.intro a5 (And.intro a6 (And.intro a7 (And.intro a8 kw7))))))))
      go_wp2_with fail
      refine (key_is j2 _).mono ?_
      rintro r w6 ⟨rfl, k6⟩
      replace hS := held_call k6 hS
      clear a0 a1 a2 a3 a4 a5 a6 a7 a8 kw7 k6
      obtain ⟨a0, a1, a2, a3, a4, a5, a6, a7, a8, kw7⟩ := hS
      have hS := And.intro a0 (And.intro a1 (And.intro a2 (And.intro a3 (And.intro a4 (And.intro a5 (And.intro a6 (And.intro a7 (And.intro a8 kw7))))))))
      go_wp2_with fail
      refine (elem_is j3 _).mono ?_
      rintro r w6 ⟨rfl, k6⟩
      replace hS := held_call k6 hS
      clear a0 a1 a2 a3 a4 a5 a6 a7 a8 kw7 k6
      obtain ⟨a0, a1, a2, a3, a4, a5, a6, a7, a8, kw7⟩ := hS
      have hS := And.intro a0 (And.intro a1 (And.intro a2 (And.intro a3 (And.intro a4 (And.intro a5 (And.intro a6 (And.intro a7 (And.intro a8 kw7))))))))
      go_wp2_with fail
      refine (birth_is j4 _).mono ?_
      rintro r w6 ⟨rfl, k6⟩
      replace hS := held_call k6 hS
      clear a0 a1 a2 a3 a4 a5 a6 a7 a8 kw7 k6
      obtain ⟨a0, a1, a2, a3, a4, a5, a6, a7, a8, kw7⟩ := hS
      have hS := And.intro a0 (And.intro a1 (And.intro a2 (And.intro a3 (And.intro a4 (And.intro a5 (And.intro a6 (And.intro a7 (And.intro a8 kw7))))))))
      go_wp2_with fail
      refine (groups_is j5 _).mono ?_
      rintro r w6 ⟨rfl, k6⟩
      replace hS := held_call k6 hS
      clear a0 a1 a2 a3 a4 a5 a6 a7 a8 kw7 k6
      obtain ⟨a0, a1, a2, a3, a4, a5, a6, a7, a8, kw7⟩ := hS
      have hS := And.intro a0 (And.intro a1 (And.intro a2 (And.intro a3 (And.intro a4 (And.intro a5 (And.intro a6 (And.intro a7 (And.intro a8 kw7))))))))
      go_wp2_with fail
      go_ret
      exact ⟨rfl, kw7⟩
  · have h5 := k5.blk (heap_new _ _)
    have k7' : Kp w3 w5 := ((Kp.refl w3).alloc _).drew.trans k5
    refine nine_set h5 k7' (Nat.le_refl _) (P := fun W => Exit.then _ _ _ _ W) fun W7 h7 k7 => ?_
    have kw7 := kw3.trans k7
    have q7 := k7.cell q6
    clear u0 u1 u2 u3 u4 u5 u6 u7 u8 f0 f1 f2 f3 f4 f5 f6 f7 f8 h5 k7' a0 a1 a2 a3 a4 a5 a6 a7 a8 q5 q6 hS0 hS1 k5
    obtain ⟨a0, a1, a2, a3, a4, a5, a6, a7, a8, -⟩ := (Kp.refl W7).nine h7
    by_cases hx : old = x
    · subst hx
      go_wp2_with fail
      go_ret
      exact ⟨rfl, kw7⟩
    · have hv := hinv hx hV
      have hx' : (old == x) = false := by simpa using hx
      have j1 : ValidIs m false := hv
      have j2 : KeyIs m 0 (-1) := if_neg (fun h => by rw [hv] at h; exact absurd h.2.2 (by simp))
      have j3 : ElemIs m 0 (-1) := if_neg (fun h => by rw [hv] at h; exact absurd h.2.2 (by simp))
      have j4 : BirthIs m 0 (-1) := if_neg (fun h => by rw [hv] at h; exact absurd h.2.2 (by simp))
      have j5 : GroupsIs m 8 (-1) := if_neg (fun h => by rw [hv] at h; exact absurd h.2 (by simp))
      have hS := And.intro a0 (And.intro a1 (And.intro a2 (And.intro a3 (And.intro a4 (And.intro a5 (And.intro a6 (And.intro a7 (And.intro a8 kw7))))))))
      clear hinv
      go_wp2_with fail
      refine (valid_is j1 _).mono ?_
      rintro r w6 ⟨rfl, k6⟩
      replace hS := held_call k6 hS
      clear a0 a1 a2 a3 a4 a5 a6 a7 a8 kw7 k6
      obtain ⟨a0, a1, a2, a3, a4, a5, a6, a7, a8, kw7⟩ := hS
      have hS := And.intro a0 (And.intro a1 (And.intro a2 (And.intro a3 (And.intro a4 (And.intro a5 (And.intro a6 (And.intro a7 (And.intro a8 kw7))))))))
      go_wp2_with fail
      refine (key_is j2 _).mono ?_
      rintro r w6 ⟨rfl, k6⟩
      replace hS := held_call k6 hS
      clear a0 a1 a2 a3 a4 a5 a6 a7 a8 kw7 k6
      obtain ⟨a0, a1, a2, a3, a4, a5, a6, a7, a8, kw7⟩ := hS
      have hS := And.intro a0 (And.intro a1 (And.intro a2 (And.intro a3 (And.intro a4 (And.intro a5 (And.intro a6 (And.intro a7 (And.intro a8 kw7))))))))
      go_wp2_with fail
      refine (elem_is j3 _).mono ?_
      rintro r w6 ⟨rfl, k6⟩
      replace hS := held_call k6 hS
      clear a0 a1 a2 a3 a4 a5 a6 a7 a8 kw7 k6
      obtain ⟨a0, a1, a2, a3, a4, a5, a6, a7, a8, kw7⟩ := hS
      have hS := And.intro a0 (And.intro a1 (And.intro a2 (And.intro a3 (And.intro a4 (And.intro a5 (And.intro a6 (And.intro a7 (And.intro a8 kw7))))))))
      go_wp2_with fail
      refine (birth_is j4 _).mono ?_
      rintro r w6 ⟨rfl, k6⟩
      replace hS := held_call k6 hS
      clear a0 a1 a2 a3 a4 a5 a6 a7 a8 kw7 k6
      obtain ⟨a0, a1, a2, a3, a4, a5, a6, a7, a8, kw7⟩ := hS
      have hS := And.intro a0 (And.intro a1 (And.intro a2 (And.intro a3 (And.intro a4 (And.intro a5 (And.intro a6 (And.intro a7 (And.intro a8 kw7))))))))
      go_wp2_with fail
      refine (groups_is j5 _).mono ?_
      rintro r w6 ⟨rfl, k6⟩
      replace hS := held_call k6 hS
      clear a0 a1 a2 a3 a4 a5 a6 a7 a8 kw7 k6
      obtain ⟨a0, a1, a2, a3, a4, a5, a6, a7, a8, kw7⟩ := hS
      have hS := And.intro a0 (And.intro a1 (And.intro a2 (And.intro a3 (And.intro a4 (And.intro a5 (And.intro a6 (And.intro a7 (And.intro a8 kw7))))))))
      go_wp2_with fail
      go_ret
      exact ⟨rfl, kw7⟩
  · have h5 := k5.blk (heap_new _ _)
    have k7' : Kp w3 w5 := ((Kp.refl w3).alloc _).drew.trans k5
    refine nine_set h5 k7' (Nat.le_refl _) (P := fun W => Exit.then _ _ _ _ W) fun W7 h7 k7 => ?_
    have kw7 := kw3.trans k7
    have q7 := k7.cell q6
    clear u0 u1 u2 u3 u4 u5 u6 u7 u8 f0 f1 f2 f3 f4 f5 f6 f7 f8 h5 k7' a0 a1 a2 a3 a4 a5 a6 a7 a8 q5 q6 hS0 hS1 k5
    obtain ⟨a0, a1, a2, a3, a4, a5, a6, a7, a8, -⟩ := (Kp.refl W7).nine h7
    by_cases hx : old = x
    · subst hx
      go_wp2_with fail
      go_ret
      exact ⟨rfl, kw7⟩
    · have hv := hinv hx hV
      have hx' : (old == x) = false := by simpa using hx
      have j1 : ValidIs m false := hv
      have j2 : KeyIs m 0 (-1) := if_neg (fun h => by rw [hv] at h; exact absurd h.2.2 (by simp))
      have j3 : ElemIs m 0 (-1) := if_neg (fun h => by rw [hv] at h; exact absurd h.2.2 (by simp))
      have j4 : BirthIs m 0 (-1) := if_neg (fun h => by rw [hv] at h; exact absurd h.2.2 (by simp))
      have j5 : GroupsIs m 8 (-1) := if_neg (fun h => by rw [hv] at h; exact absurd h.2 (by simp))
      have hS := And.intro a0 (And.intro a1 (And.intro a2 (And.intro a3 (And.intro a4 (And.intro a5 (And.intro a6 (And.intro a7 (And.intro a8 kw7))))))))
      clear hinv
      go_wp2_with fail
      refine (valid_is j1 _).mono ?_
      rintro r w6 ⟨rfl, k6⟩
      replace hS := held_call k6 hS
      clear a0 a1 a2 a3 a4 a5 a6 a7 a8 kw7 k6
      obtain ⟨a0, a1, a2, a3, a4, a5, a6, a7, a8, kw7⟩ := hS
      have hS := And.intro a0 (And.intro a1 (And.intro a2 (And.intro a3 (And.intro a4 (And.intro a5 (And.intro a6 (And.intro a7 (And.intro a8 kw7))))))))
      go_wp2_with fail
      refine (key_is j2 _).mono ?_
      rintro r w6 ⟨rfl, k6⟩
      replace hS := held_call k6 hS
      clear a0 a1 a2 a3 a4 a5 a6 a7 a8 kw7 k6
      obtain ⟨a0, a1, a2, a3, a4, a5, a6, a7, a8, kw7⟩ := hS
      have hS := And.intro a0 (And.intro a1 (And.intro a2 (And.intro a3 (And.intro a4 (And.intro a5 (And.intro a6 (And.intro a7 (And.intro a8 kw7))))))))
      go_wp2_with fail
      refine (elem_is j3 _).mono ?_
      rintro r w6 ⟨rfl, k6⟩
      replace hS := held_call k6 hS
      clear a0 a1 a2 a3 a4 a5 a6 a7 a8 kw7 k6
      obtain ⟨a0, a1, a2, a3, a4, a5, a6, a7, a8, kw7⟩ := hS
      have hS := And.intro a0 (And.intro a1 (And.intro a2 (And.intro a3 (And.intro a4 (And.intro a5 (And.intro a6 (And.intro a7 (And.intro a8 kw7))))))))
      go_wp2_with fail
      refine (birth_is j4 _).mono ?_
      rintro r w6 ⟨rfl, k6⟩
      replace hS := held_call k6 hS
      clear a0 a1 a2 a3 a4 a5 a6 a7 a8 kw7 k6
      obtain ⟨a0, a1, a2, a3, a4, a5, a6, a7, a8, kw7⟩ := hS
      have hS := And.intro a0 (And.intro a1 (And.intro a2 (And.intro a3 (And.intro a4 (And.intro a5 (And.intro a6 (And.intro a7 (And.intro a8 kw7))))))))
      go_wp2_with fail
      refine (groups_is j5 _).mono ?_
      rintro r w6 ⟨rfl, k6⟩
      replace hS := held_call k6 hS
      clear a0 a1 a2 a3 a4 a5 a6 a7 a8 kw7 k6
      obtain ⟨a0, a1, a2, a3, a4, a5, a6, a7, a8, kw7⟩ := hS
      have hS := And.intro a0 (And.intro a1 (And.intro a2 (And.intro a3 (And.intro a4 (And.intro a5 (And.intro a6 (And.intro a7 (And.intro a8 kw7))))))))
      go_wp2_with fail
      go_ret
      exact ⟨rfl, kw7⟩
end layoutSole
end Go.Proofs.Yteokfhccfmeffaa
