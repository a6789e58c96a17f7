import Derived.Test.YteokfhccfmeffaaL10
namespace Go.Proofs.Yteokfhccfmeffaa
open Go.RowKit
namespace layoutSays
open layoutTight

theorem five_at {w : World} {g n : Nat} {k e a b c : Int} (h : w.heap[g]? = some (.cells #[.int .i64 k, .int .i64 e, .int .i64 a, .int .i64 b, .int .i64 c] 3)) (hn : n < 5) : ∃ v : Int, w.cell? ⟨g, n, none⟩ = some (.int .i64 v) := by
  have : n = 0 ∨ n = 1 ∨ n = 2 ∨ n = 3 ∨ n = 4 := by omega
  rcases this with rfl | rfl | rfl | rfl | rfl
  · exact ⟨_, cell_blk h rfl⟩
  · exact ⟨_, cell_blk h rfl⟩
  · exact ⟨_, cell_blk h rfl⟩
  · exact ⟨_, cell_blk h rfl⟩
  · exact ⟨_, cell_blk h rfl⟩
theorem five_frozen {w : World} {g : Nat} {cs : Array Value} {t : TypeId} (h : w.heap[g]? = some (.cells cs t)) (n : Nat) : w.frozen? ⟨g, n, none⟩ = false := by simp [World.frozen?, h]

set_option maxRecDepth 100000 in
set_option maxHeartbeats 8000000 in
theorem walk (k e a b c p x : Int) (hk : (Lit.int .i64 k).wf = true) (he : (Lit.int .i64 e).wf = true) (ha : (Lit.int .i64 a).wf = true) (hb : (Lit.int .i64 b).wf = true) (hc : (Lit.int .i64 c).wf = true) (hp : (Lit.int .i64 p).wf = true) (_ : (Lit.int .i64 x).wf = true) (w : World) :
    Calls Try.prog 4 #[.agg #[.int .i64 k, .int .i64 e, .int .i64 a, .int .i64 b, .int .i64 c, .int .i64 p, .int .i64 x]] w fun r w' => Post w r w' := by
  have hR := fun W => right_any k e a b c p x W hk he ha hb hc
  have hM : ModIs p 5 (p % 5) := ⟨hp, by omega, by omega, rfl⟩
  have p0 : 0 ≤ p % 5 := by omega
  have p1 : p % 5 < 5 := by omega
  generalize p % 5 = P at *
  clear hk he ha hb hc
  go_enter Try.func4, Try.ntmps4
  go_wp2_with fail
  refine (hR _).mono ?_
  rintro r w1 ⟨g, K, E, A, B, C, hE, rfl, h1, hg, k1⟩
  clear hR
  have kw : Kp w w1 := ((Kp.refl w).alloc _).trans k1
  have hr1 := k1.blk (heap_new _ _)
  obtain ⟨c0, c1, c2, c3, c4, hlt⟩ := five_cells h1
  go_wp2_with fail
  refine (parse_ok g 0 5 K E A B C _ c0 c1 c2 c3 c4 hE).mono ?_
  rintro r w2 ⟨rfl, k2⟩
  replace kw := kw.trans k2
  have hr2 := k2.blk hr1
  have hf2 := k2.blk h1
  have hV := valid_laid hE
  have i1 : ValidIs (laidD K E A B C) true := hV
  clear c0 c1 c2 c3 c4 hlt k1 k2 h1 hr1
  generalize laidD K E A B C = l at *
  unfold Lay.val
  go_wp2_with fail
  have hLw : w.heap.size ≤ w2.heap.size := kw.size
  have hgw : w.heap.size ≤ g := by simp at hg; omega
  have hLg : w2.heap.size ≠ g := by
    have := (Array.getElem?_eq_some_iff.1 hf2).1
    omega
  have hL := heap_new w2 (.cells #[.int .i64 l.k, .int .i64 l.e, .int .i64 l.a, .int .i64 l.b, .int .i64 l.c, .int .i64 l.eo, .int .i64 l.bo, .int .i64 l.s, .int .i64 l.g] 27)
  replace kw := kw.alloc (.cells #[.int .i64 l.k, .int .i64 l.e, .int .i64 l.a, .int .i64 l.b, .int .i64 l.c, .int .i64 l.eo, .int .i64 l.bo, .int .i64 l.s, .int .i64 l.g] 27)
  replace hr2 := heap_old hr2 (.cells #[.int .i64 l.k, .int .i64 l.e, .int .i64 l.a, .int .i64 l.b, .int .i64 l.c, .int .i64 l.eo, .int .i64 l.bo, .int .i64 l.s, .int .i64 l.g] 27)
  replace hf2 := heap_old hf2 (.cells #[.int .i64 l.k, .int .i64 l.e, .int .i64 l.a, .int .i64 l.b, .int .i64 l.c, .int .i64 l.eo, .int .i64 l.bo, .int .i64 l.s, .int .i64 l.g] 27)
  generalize (w2.alloc (.cells #[.int .i64 l.k, .int .i64 l.e, .int .i64 l.a, .int .i64 l.b, .int .i64 l.c, .int .i64 l.eo, .int .i64 l.bo, .int .i64 l.s, .int .i64 l.g] 27)) = W at *
  generalize w2.heap.size = L at *
  refine (valid_is i1 _).mono ?_
  rintro r w3 ⟨rfl, k3⟩
  replace hL := k3.blk hL
  replace kw := kw.trans k3
  replace hr2 := k3.blk hr2
  replace hf2 := k3.blk hf2
  clear k3 i1
  obtain ⟨c0, c1, c2, c3, c4, hlt⟩ := five_cells hf2
  have q5 : w3.cell? ⟨w.heap.size, 5, none⟩ = some (.int .i64 p) := cell_blk hr2 rfl
  have q6 : w3.cell? ⟨w.heap.size, 6, none⟩ = some (.int .i64 x) := cell_blk hr2 rfl
  go_wp2_with fail
  refine (parse_wrong _ 4 5 _ (by omega)).mono ?_
  rintro r w4 ⟨rfl, k4⟩
  unfold Lay.zero Lay.val
  replace hL := k4.blk hL
  replace kw := kw.trans k4
  replace hr2 := k4.blk hr2
  replace hf2 := k4.blk hf2
  clear k4 q5 q6 c0 c1 c2 c3 c4 hlt
  obtain ⟨c0, c1, c2, c3, c4, hlt⟩ := five_cells hf2
  have q5 : w4.cell? ⟨w.heap.size, 5, none⟩ = some (.int .i64 p) := cell_blk hr2 rfl
  have q6 : w4.cell? ⟨w.heap.size, 6, none⟩ = some (.int .i64 x) := cell_blk hr2 rfl
  go_wp2_with fail
  refine tail_alloc (Kp.refl w4) (P := fun W => Code.wp _ _ _ _ W) fun W4 _ k4 => ?_
  replace c0 := k4.cell c0
  replace c1 := k4.cell c1
  replace c2 := k4.cell c2
  replace c3 := k4.cell c3
  replace c4 := k4.cell c4
  replace hL := k4.blk hL
  replace hr2 := k4.blk hr2
  replace hf2 := k4.blk hf2
  replace kw := kw.trans k4
  clear q5 q6 k4
  have hS0 := And.intro c0 (And.intro c1 (And.intro c2 (And.intro c3 (And.intro c4 (Kp.refl W4)))))
  have hS1 := hS0
  have hn1 : W4.heap.size ≤ W4.heap.size + 1 := by omega
  go_region_held3 (fun w' => w'.cell? ⟨g, 0, none⟩ = some (.int .i64 K) ∧ w'.cell? ⟨g, 1, none⟩ = some (.int .i64 E) ∧ w'.cell? ⟨g, 2, none⟩ = some (.int .i64 A) ∧ w'.cell? ⟨g, 3, none⟩ = some (.int .i64 B) ∧ w'.cell? ⟨g, 4, none⟩ = some (.int .i64 C) ∧ Kp W4 w')
    (first | with_reducible assumption | with_reducible exact sz_set hS0 (Nat.le_refl _) (by assumption) | with_reducible exact sz_set hS0 hn1 (by assumption) | with_reducible exact sz_drew (by assumption) | with_reducible exact sz_call k5 (by assumption) | with_reducible exact sz_call (Kp.alloc (Kp.refl _) _) (by assumption) | with_reducible exact sz_drew (sz_call (Kp.alloc (Kp.refl _) _) (by assumption)) | exact sz_re hS0 k6 (by assumption))
    (first | (go_at_call 10; refine (parse_wrong _ 6 6 _ (by omega)).mono ?_; unfold Lay.zero Lay.val; rintro r w5 ⟨rfl, k5⟩; obtain ⟨u0, u1, u2, u3, u4, u5, u6, u7, u8, f0, f1, f2, f3, f4, f5, f6, f7, f8⟩ := k5.nine (b := W4.heap.size + 1) (heap_next _ _ _)) | (go_at_call 10; refine (parse_wrong _ 6 6 _ (by omega)).mono ?_; unfold Lay.zero Lay.val; rintro r w5 ⟨rfl, k5⟩; obtain ⟨u0, u1, u2, u3, u4, u5, u6, u7, u8, f0, f1, f2, f3, f4, f5, f6, f7, f8⟩ := k5.nine (b := W4.heap.size) (heap_old (heap_new _ _) _)) | (go_at_call 10; refine (parse_wrong _ 6 6 _ (by omega)).mono ?_; unfold Lay.zero Lay.val; rintro r w5 ⟨rfl, k5⟩; have k6 : W4.heap.size ≤ w5.heap.size := Nat.le_trans (by simp) k5.size))
  · have k7' : Kp W4 w5 := ((Kp.refl W4).alloc _).drew.trans k5
    refine tail_alloc k7' (P := fun W => Exit.then _ _ _ _ W) fun W7 h7 k7 => ?_
    replace kw := kw.trans k7
    replace hL := k7.blk hL
    replace hr2 := k7.blk hr2
    replace hf2 := k7.blk hf2
    clear hS0 hS1 k5 k7 c0 c1 c2 c3 c4
    have q5 : W7.cell? ⟨w.heap.size, 5, none⟩ = some (.int .i64 p) := cell_blk hr2 rfl
    go_wp2_with fail
    refine (mod_is hM _).mono ?_
    rintro r w5 ⟨rfl, rfl⟩
    obtain ⟨n, rfl⟩ := Int.eq_ofNat_of_zero_le p0
    have hn : n < 5 := by omega
    obtain ⟨ov, hov⟩ := five_at hf2 hn
    have hfz : w5.frozen? ⟨g, n, none⟩ = false := five_frozen hf2 n
    go_wp2_with fail
    refine five_set hf2 kw hgw hn (P := fun W => Calls _ _ _ W _) fun W8 K' E' A' B' C' ht hf8 k8 ho => ?_
    replace hL := (ho L hLg).trans hL
    clear ho hov hfz hf2 hr2 q5 hM
    obtain ⟨c0, c1, c2, c3, c4, hlt8⟩ := five_cells hf8
    have hT := turn_err hE ht
    have hA8 : (A = 1 ∨ A = 2 ∨ A = 4 ∨ A = 8) := (al_one (errN_zero hE).2.2.2.2.1).1
    have hB8 : (B = 1 ∨ B = 2 ∨ B = 4 ∨ B = 8) := (al_one (errN_zero hE).2.2.2.2.2.1).1
    rcases hT with h0 | hT
    · refine (parse_ok g 0 5 K' E' A' B' C' _ c0 c1 c2 c3 c4 h0).mono ?_
      rintro r w9 ⟨rfl, k9⟩
      have hVm := valid_laid h0
      obtain ⟨X, Y, S, G, hm⟩ : ∃ X Y S G, laidD K' E' A' B' C' = ⟨K', E', A', B', C', X, Y, S, G⟩ := ⟨_, _, _, _, rfl⟩
      rw [hm] at hVm
      rw [hm]
      unfold Lay.val
      dsimp only
      replace hL := k9.blk hL
      replace hf8 := k9.blk hf8
      replace k8 := k8.trans k9
      clear c0 c1 c2 c3 c4 hlt8 k9 hm
      obtain ⟨b0, b1, b2, b3, b4, b5, b6, b7, b8, g0, g1, g2, g3, g4, g5, g6, g7, g8⟩ := (Kp.refl w9).nine hL
      obtain ⟨c0, c1, c2, c3, c4, hlt8⟩ := five_cells hf8
      go_wp2_with fail
      refine nine_set2 hL k8 hLw (P := fun W => Code.wp _ _ _ _ W) fun W10 hL10 k10 ho => ?_
      replace hf8 := (ho g (Ne.symm hLg)).trans hf8
      clear ho hL b0 b1 b2 b3 b4 b5 b6 b7 b8 g0 g1 g2 g3 g4 g5 g6 g7 g8 c0 c1 c2 c3 c4 hlt8
      obtain ⟨b0, b1, b2, b3, b4, b5, b6, b7, b8, -⟩ := (Kp.refl W10).nine hL10
      obtain ⟨c0, c1, c2, c3, c4, hlt8⟩ := five_cells hf8
      have hS := And.intro b0 (And.intro b1 (And.intro b2 (And.intro b3 (And.intro b4 (And.intro b5 (And.intro b6 (And.intro b7 (And.intro b8 (And.intro c0 (And.intro c1 (And.intro c2 (And.intro c3 (And.intro c4 k10)))))))))))))
      have j1 : ValidIs ⟨K', E', A', B', C', X, Y, S, G⟩ true := hVm
      go_region_held3 (fun w' => w'.cell? ⟨L, 0, none⟩ = some (.int .i64 K') ∧ w'.cell? ⟨L, 1, none⟩ = some (.int .i64 E') ∧ w'.cell? ⟨L, 2, none⟩ = some (.int .i64 A') ∧ w'.cell? ⟨L, 3, none⟩ = some (.int .i64 B') ∧ w'.cell? ⟨L, 4, none⟩ = some (.int .i64 C') ∧ w'.cell? ⟨L, 5, none⟩ = some (.int .i64 X) ∧ w'.cell? ⟨L, 6, none⟩ = some (.int .i64 Y) ∧ w'.cell? ⟨L, 7, none⟩ = some (.int .i64 S) ∧ w'.cell? ⟨L, 8, none⟩ = some (.int .i64 G) ∧ w'.cell? ⟨g, 0, none⟩ = some (.int .i64 K') ∧ w'.cell? ⟨g, 1, none⟩ = some (.int .i64 E') ∧ w'.cell? ⟨g, 2, none⟩ = some (.int .i64 A') ∧ w'.cell? ⟨g, 3, none⟩ = some (.int .i64 B') ∧ w'.cell? ⟨g, 4, none⟩ = some (.int .i64 C') ∧ Kp w w')
        (first | with_reducible assumption | with_reducible exact sv_drew (by assumption) | with_reducible exact sv_call k5 (by assumption))
        (first | (go_at_call 11; refine (valid_is j1 _).mono ?_; rintro r w5 ⟨rfl, k5⟩))
      have hS6 : (w5.cell? ⟨L, 0, none⟩ = some (.int .i64 K') ∧ w5.cell? ⟨L, 1, none⟩ = some (.int .i64 E') ∧ w5.cell? ⟨L, 2, none⟩ = some (.int .i64 A') ∧ w5.cell? ⟨L, 3, none⟩ = some (.int .i64 B') ∧ w5.cell? ⟨L, 4, none⟩ = some (.int .i64 C') ∧ w5.cell? ⟨L, 5, none⟩ = some (.int .i64 X) ∧ w5.cell? ⟨L, 6, none⟩ = some (.int .i64 Y) ∧ w5.cell? ⟨L, 7, none⟩ = some (.int .i64 S) ∧ w5.cell? ⟨L, 8, none⟩ = some (.int .i64 G) ∧ w5.cell? ⟨g, 0, none⟩ = some (.int .i64 K') ∧ w5.cell? ⟨g, 1, none⟩ = some (.int .i64 E') ∧ w5.cell? ⟨g, 2, none⟩ = some (.int .i64 A') ∧ w5.cell? ⟨g, 3, none⟩ = some (.int .i64 B') ∧ w5.cell? ⟨g, 4, none⟩ = some (.int .i64 C') ∧ Kp w w5) := by assumption
      go_wp2_with fail
      go_ret
      exact ⟨rfl, hS6.2.2.2.2.2.2.2.2.2.2.2.2.2.2⟩
    · have hne : ¬ errN K' E' A' B' C' = 0 := by
        rcases hT with ⟨_, _, ⟨e, _⟩ | ⟨e, _⟩ | ⟨e, _⟩⟩ | ⟨_, _, ⟨e, _⟩ | ⟨e, _⟩ | ⟨e, _⟩⟩ | ⟨_, e⟩ | ⟨_, e⟩ | ⟨_, e⟩ <;> rw [e] <;> decide
      refine (parse_err g 0 5 K' E' A' B' C' _ c0 c1 c2 c3 c4 hne).mono ?_
      rintro r w9 ⟨rfl, k9⟩
      unfold Lay.val Lay.zero
      dsimp only
      replace hL := k9.blk hL
      replace hf8 := k9.blk hf8
      replace k8 := k8.trans k9
      clear c0 c1 c2 c3 c4 hlt8 k9
      obtain ⟨b0, b1, b2, b3, b4, b5, b6, b7, b8, g0, g1, g2, g3, g4, g5, g6, g7, g8⟩ := (Kp.refl w9).nine hL
      obtain ⟨c0, c1, c2, c3, c4, hlt8⟩ := five_cells hf8
      have hne' : (errN K' E' A' B' C' == 0) = false := by simpa using hne
      have hA' : ∀ q : Int, 1 ≤ q → 1 ≤ x → q ≤ 8 → ¬ x % q = 0 → (x.tmod q != 0) = true ∧ (x % q != 0) = true := fun q _ hx _ hq => by
        rw [Int.tmod_eq_emod_of_nonneg (by omega)]
        simpa using hq
      clear hne hne' hE
      rcases hT with ⟨rfl, hAA, ⟨e1, hx⟩ | ⟨e1, hx⟩ | ⟨e1, hx, hx2, hx3⟩⟩ | ⟨rfl, hBB, ⟨e1, hx⟩ | ⟨e1, hx⟩ | ⟨e1, hx, hx2, hx3⟩⟩ | ⟨rfl, e1⟩ | ⟨rfl, e1⟩ | ⟨rfl, e1⟩
      · rw [e1]
        clear e1 hA'
        go_wp2_with fail
        go_ret
        exact ⟨rfl, Below.setCell (Below.setCell (Below.setCell (Below.setCell (Below.setCell (Below.setCell (Below.setCell (Below.setCell (Below.setCell k8 hLw _) hLw _) hLw _) hLw _) hLw _) hLw _) hLw _) hLw _) hLw _⟩
      · rw [e1]
        clear e1 hA'
        have hx1 : ¬ x < 1 := by omega
        go_wp2_with fail
        go_ret
        exact ⟨rfl, Below.setCell (Below.setCell (Below.setCell (Below.setCell (Below.setCell (Below.setCell (Below.setCell (Below.setCell (Below.setCell k8 hLw _) hLw _) hLw _) hLw _) hLw _) hLw _) hLw _) hLw _) hLw _⟩
      · rw [e1]
        subst hAA
        have q1 : 1 ≤ A' := by omega
        have q8 : A' ≤ 8 := by omega
        have q0 : ¬ A' = 0 := by omega
        obtain ⟨y1, y2⟩ := hA' A' q1 hx q8 hx3
        have hx1 : ¬ x < 1 := by omega
        have hx4 : ¬ 128 < x := by omega
        clear e1 hA'
        go_wp2_with fail
        go_ret
        exact ⟨rfl, Below.setCell (Below.setCell (Below.setCell (Below.setCell (Below.setCell (Below.setCell (Below.setCell (Below.setCell (Below.setCell k8 hLw _) hLw _) hLw _) hLw _) hLw _) hLw _) hLw _) hLw _) hLw _⟩
      · rw [e1]
        clear e1 hA'
        go_wp2_with fail
        go_ret
        exact ⟨rfl, Below.setCell (Below.setCell (Below.setCell (Below.setCell (Below.setCell (Below.setCell (Below.setCell (Below.setCell (Below.setCell k8 hLw _) hLw _) hLw _) hLw _) hLw _) hLw _) hLw _) hLw _) hLw _⟩
      · rw [e1]
        clear e1 hA'
        have hx1 : ¬ x < 0 := by omega
        go_wp2_with fail
        go_ret
        exact ⟨rfl, Below.setCell (Below.setCell (Below.setCell (Below.setCell (Below.setCell (Below.setCell (Below.setCell (Below.setCell (Below.setCell k8 hLw _) hLw _) hLw _) hLw _) hLw _) hLw _) hLw _) hLw _) hLw _⟩
      · rw [e1]
        subst hBB
        have q1 : 1 ≤ B' := by omega
        have q8 : B' ≤ 8 := by omega
        have q0 : ¬ B' = 0 := by omega
        have hx0 : 1 ≤ x := by
          have : ¬ x = 0 := fun h => hx3 (by rw [h]; exact Int.zero_emod _)
          omega
        obtain ⟨y1, y2⟩ := hA' B' q1 hx0 q8 hx3
        have hx1 : ¬ x < 0 := by omega
        have hx4 : ¬ 128 < x := by omega
        clear e1 hA'
        go_wp2_with fail
        go_ret
        exact ⟨rfl, Below.setCell (Below.setCell (Below.setCell (Below.setCell (Below.setCell (Below.setCell (Below.setCell (Below.setCell (Below.setCell k8 hLw _) hLw _) hLw _) hLw _) hLw _) hLw _) hLw _) hLw _) hLw _⟩
      · rw [e1]
        clear e1 hA'
        go_wp2_with fail
        go_ret
        exact ⟨rfl, Below.setCell (Below.setCell (Below.setCell (Below.setCell (Below.setCell (Below.setCell (Below.setCell (Below.setCell (Below.setCell k8 hLw _) hLw _) hLw _) hLw _) hLw _) hLw _) hLw _) hLw _) hLw _⟩
      · rw [e1]
        clear e1 hA'
        go_wp2_with fail
        go_ret
        exact ⟨rfl, Below.setCell (Below.setCell (Below.setCell (Below.setCell (Below.setCell (Below.setCell (Below.setCell (Below.setCell (Below.setCell k8 hLw _) hLw _) hLw _) hLw _) hLw _) hLw _) hLw _) hLw _) hLw _⟩
      · rw [e1]
        clear e1 hA'
        go_wp2_with fail
        go_ret
        exact ⟨rfl, Below.setCell (Below.setCell (Below.setCell (Below.setCell (Below.setCell (Below.setCell (Below.setCell (Below.setCell (Below.setCell k8 hLw _) hLw _) hLw _) hLw _) hLw _) hLw _) hLw _) hLw _) hLw _⟩
  · have h5 := k5.blk (b := W4.heap.size + 1) (heap_next _ _ _)
    have k7' : Kp W4 w5 := (((Kp.refl W4).alloc _).alloc _).drew.trans k5
    refine nine_set h5 k7' (hn1) (P := fun W => Exit.then _ _ _ _ W) fun W7 h7 k7 => ?_
    replace kw := kw.trans k7
    replace hL := k7.blk hL
    replace hr2 := k7.blk hr2
    replace hf2 := k7.blk hf2
    clear u0 u1 u2 u3 u4 u5 u6 u7 u8 f0 f1 f2 f3 f4 f5 f6 f7 f8 h5 k7' hS0 hS1 k5 k7 c0 c1 c2 c3 c4
    have q5 : W7.cell? ⟨w.heap.size, 5, none⟩ = some (.int .i64 p) := cell_blk hr2 rfl
    go_wp2_with fail
    refine (mod_is hM _).mono ?_
    rintro r w5 ⟨rfl, rfl⟩
    obtain ⟨n, rfl⟩ := Int.eq_ofNat_of_zero_le p0
    have hn : n < 5 := by omega
    obtain ⟨ov, hov⟩ := five_at hf2 hn
    have hfz : w5.frozen? ⟨g, n, none⟩ = false := five_frozen hf2 n
    go_wp2_with fail
    refine five_set hf2 kw hgw hn (P := fun W => Calls _ _ _ W _) fun W8 K' E' A' B' C' ht hf8 k8 ho => ?_
    replace hL := (ho L hLg).trans hL
    clear ho hov hfz hf2 hr2 q5 hM
    obtain ⟨c0, c1, c2, c3, c4, hlt8⟩ := five_cells hf8
    have hT := turn_err hE ht
    have hA8 : (A = 1 ∨ A = 2 ∨ A = 4 ∨ A = 8) := (al_one (errN_zero hE).2.2.2.2.1).1
    have hB8 : (B = 1 ∨ B = 2 ∨ B = 4 ∨ B = 8) := (al_one (errN_zero hE).2.2.2.2.2.1).1
    rcases hT with h0 | hT
    · refine (parse_ok g 0 5 K' E' A' B' C' _ c0 c1 c2 c3 c4 h0).mono ?_
      rintro r w9 ⟨rfl, k9⟩
      have hVm := valid_laid h0
      obtain ⟨X, Y, S, G, hm⟩ : ∃ X Y S G, laidD K' E' A' B' C' = ⟨K', E', A', B', C', X, Y, S, G⟩ := ⟨_, _, _, _, rfl⟩
      rw [hm] at hVm
      rw [hm]
      unfold Lay.val
      dsimp only
      replace hL := k9.blk hL
      replace hf8 := k9.blk hf8
      replace k8 := k8.trans k9
      clear c0 c1 c2 c3 c4 hlt8 k9 hm
      obtain ⟨b0, b1, b2, b3, b4, b5, b6, b7, b8, g0, g1, g2, g3, g4, g5, g6, g7, g8⟩ := (Kp.refl w9).nine hL
      obtain ⟨c0, c1, c2, c3, c4, hlt8⟩ := five_cells hf8
      go_wp2_with fail
      refine nine_set2 hL k8 hLw (P := fun W => Code.wp _ _ _ _ W) fun W10 hL10 k10 ho => ?_
      replace hf8 := (ho g (Ne.symm hLg)).trans hf8
      clear ho hL b0 b1 b2 b3 b4 b5 b6 b7 b8 g0 g1 g2 g3 g4 g5 g6 g7 g8 c0 c1 c2 c3 c4 hlt8
      obtain ⟨b0, b1, b2, b3, b4, b5, b6, b7, b8, -⟩ := (Kp.refl W10).nine hL10
      obtain ⟨c0, c1, c2, c3, c4, hlt8⟩ := five_cells hf8
      have hS := And.intro b0 (And.intro b1 (And.intro b2 (And.intro b3 (And.intro b4 (And.intro b5 (And.intro b6 (And.intro b7 (And.intro b8 (And.intro c0 (And.intro c1 (And.intro c2 (And.intro c3 (And.intro c4 k10)))))))))))))
      have j1 : ValidIs ⟨K', E', A', B', C', X, Y, S, G⟩ true := hVm
      go_region_held3 (fun w' => w'.cell? ⟨L, 0, none⟩ = some (.int .i64 K') ∧ w'.cell? ⟨L, 1, none⟩ = some (.int .i64 E') ∧ w'.cell? ⟨L, 2, none⟩ = some (.int .i64 A') ∧ w'.cell? ⟨L, 3, none⟩ = some (.int .i64 B') ∧ w'.cell? ⟨L, 4, none⟩ = some (.int .i64 C') ∧ w'.cell? ⟨L, 5, none⟩ = some (.int .i64 X) ∧ w'.cell? ⟨L, 6, none⟩ = some (.int .i64 Y) ∧ w'.cell? ⟨L, 7, none⟩ = some (.int .i64 S) ∧ w'.cell? ⟨L, 8, none⟩ = some (.int .i64 G) ∧ w'.cell? ⟨g, 0, none⟩ = some (.int .i64 K') ∧ w'.cell? ⟨g, 1, none⟩ = some (.int .i64 E') ∧ w'.cell? ⟨g, 2, none⟩ = some (.int .i64 A') ∧ w'.cell? ⟨g, 3, none⟩ = some (.int .i64 B') ∧ w'.cell? ⟨g, 4, none⟩ = some (.int .i64 C') ∧ Kp w w')
        (first | with_reducible assumption | with_reducible exact sv_drew (by assumption) | with_reducible exact sv_call k5 (by assumption))
        (first | (go_at_call 11; refine (valid_is j1 _).mono ?_; rintro r w5 ⟨rfl, k5⟩))
      have hS6 : (w5.cell? ⟨L, 0, none⟩ = some (.int .i64 K') ∧ w5.cell? ⟨L, 1, none⟩ = some (.int .i64 E') ∧ w5.cell? ⟨L, 2, none⟩ = some (.int .i64 A') ∧ w5.cell? ⟨L, 3, none⟩ = some (.int .i64 B') ∧ w5.cell? ⟨L, 4, none⟩ = some (.int .i64 C') ∧ w5.cell? ⟨L, 5, none⟩ = some (.int .i64 X) ∧ w5.cell? ⟨L, 6, none⟩ = some (.int .i64 Y) ∧ w5.cell? ⟨L, 7, none⟩ = some (.int .i64 S) ∧ w5.cell? ⟨L, 8, none⟩ = some (.int .i64 G) ∧ w5.cell? ⟨g, 0, none⟩ = some (.int .i64 K') ∧ w5.cell? ⟨g, 1, none⟩ = some (.int .i64 E') ∧ w5.cell? ⟨g, 2, none⟩ = some (.int .i64 A') ∧ w5.cell? ⟨g, 3, none⟩ = some (.int .i64 B') ∧ w5.cell? ⟨g, 4, none⟩ = some (.int .i64 C') ∧ Kp w w5) := by assumption
      go_wp2_with fail
      go_ret
      exact ⟨rfl, hS6.2.2.2.2.2.2.2.2.2.2.2.2.2.2⟩
    · have hne : ¬ errN K' E' A' B' C' = 0 := by
        rcases hT with ⟨_, _, ⟨e, _⟩ | ⟨e, _⟩ | ⟨e, _⟩⟩ | ⟨_, _, ⟨e, _⟩ | ⟨e, _⟩ | ⟨e, _⟩⟩ | ⟨_, e⟩ | ⟨_, e⟩ | ⟨_, e⟩ <;> rw [e] <;> decide
      refine (parse_err g 0 5 K' E' A' B' C' _ c0 c1 c2 c3 c4 hne).mono ?_
      rintro r w9 ⟨rfl, k9⟩
      unfold Lay.val Lay.zero
      dsimp only
      replace hL := k9.blk hL
      replace hf8 := k9.blk hf8
      replace k8 := k8.trans k9
      clear c0 c1 c2 c3 c4 hlt8 k9
      obtain ⟨b0, b1, b2, b3, b4, b5, b6, b7, b8, g0, g1, g2, g3, g4, g5, g6, g7, g8⟩ := (Kp.refl w9).nine hL
      obtain ⟨c0, c1, c2, c3, c4, hlt8⟩ := five_cells hf8
      have hne' : (errN K' E' A' B' C' == 0) = false := by simpa using hne
      have hA' : ∀ q : Int, 1 ≤ q → 1 ≤ x → q ≤ 8 → ¬ x % q = 0 → (x.tmod q != 0) = true ∧ (x % q != 0) = true := fun q _ hx _ hq => by
        rw [Int.tmod_eq_emod_of_nonneg (by omega)]
        simpa using hq
      clear hne hne' hE
      rcases hT with ⟨rfl, hAA, ⟨e1, hx⟩ | ⟨e1, hx⟩ | ⟨e1, hx, hx2, hx3⟩⟩ | ⟨rfl, hBB, ⟨e1, hx⟩ | ⟨e1, hx⟩ | ⟨e1, hx, hx2, hx3⟩⟩ | ⟨rfl, e1⟩ | ⟨rfl, e1⟩ | ⟨rfl, e1⟩
      · rw [e1]
        clear e1 hA'
        go_wp2_with fail
        go_ret
        exact ⟨rfl, Below.setCell (Below.setCell (Below.setCell (Below.setCell (Below.setCell (Below.setCell (Below.setCell (Below.setCell (Below.setCell k8 hLw _) hLw _) hLw _) hLw _) hLw _) hLw _) hLw _) hLw _) hLw _⟩
      · rw [e1]
        clear e1 hA'
        have hx1 : ¬ x < 1 := by omega
        go_wp2_with fail
        go_ret
        exact ⟨rfl, Below.setCell (Below.setCell (Below.setCell (Below.setCell (Below.setCell (Below.setCell (Below.setCell (Below.setCell (Below.setCell k8 hLw _) hLw _) hLw _) hLw _) hLw _) hLw _) hLw _) hLw _) hLw _⟩
      · rw [e1]
        subst hAA
        have q1 : 1 ≤ A' := by omega
        have q8 : A' ≤ 8 := by omega
        have q0 : ¬ A' = 0 := by omega
        obtain ⟨y1, y2⟩ := hA' A' q1 hx q8 hx3
        have hx1 : ¬ x < 1 := by omega
        have hx4 : ¬ 128 < x := by omega
        clear e1 hA'
        go_wp2_with fail
        go_ret
        exact ⟨rfl, Below.setCell (Below.setCell (Below.setCell (Below.setCell (Below.setCell (Below.setCell (Below.setCell (Below.setCell (Below.setCell k8 hLw _) hLw _) hLw _) hLw _) hLw _) hLw _) hLw _) hLw _) hLw _⟩
      · rw [e1]
        clear e1 hA'
        go_wp2_with fail
        go_ret
        exact ⟨rfl, Below.setCell (Below.setCell (Below.setCell (Below.setCell (Below.setCell (Below.setCell (Below.setCell (Below.setCell (Below.setCell k8 hLw _) hLw _) hLw _) hLw _) hLw _) hLw _) hLw _) hLw _) hLw _⟩
      · rw [e1]
        clear e1 hA'
        have hx1 : ¬ x < 0 := by omega
        go_wp2_with fail
        go_ret
        exact ⟨rfl, Below.setCell (Below.setCell (Below.setCell (Below.setCell (Below.setCell (Below.setCell (Below.setCell (Below.setCell (Below.setCell k8 hLw _) hLw _) hLw _) hLw _) hLw _) hLw _) hLw _) hLw _) hLw _⟩
      · rw [e1]
        subst hBB
        have q1 : 1 ≤ B' := by omega
        have q8 : B' ≤ 8 := by omega
        have q0 : ¬ B' = 0 := by omega
        have hx0 : 1 ≤ x := by
          have : ¬ x = 0 := fun h => hx3 (by rw [h]; exact Int.zero_emod _)
          omega
        obtain ⟨y1, y2⟩ := hA' B' q1 hx0 q8 hx3
        have hx1 : ¬ x < 0 := by omega
        have hx4 : ¬ 128 < x := by omega
        clear e1 hA'
        go_wp2_with fail
        go_ret
        exact ⟨rfl, Below.setCell (Below.setCell (Below.setCell (Below.setCell (Below.setCell (Below.setCell (Below.setCell (Below.setCell (Below.setCell k8 hLw _) hLw _) hLw _) hLw _) hLw _) hLw _) hLw _) hLw _) hLw _⟩
      · rw [e1]
        clear e1 hA'
        go_wp2_with fail
        go_ret
        exact ⟨rfl, Below.setCell (Below.setCell (Below.setCell (Below.setCell (Below.setCell (Below.setCell (Below.setCell (Below.setCell (Below.setCell k8 hLw _) hLw _) hLw _) hLw _) hLw _) hLw _) hLw _) hLw _) hLw _⟩
      · rw [e1]
        clear e1 hA'
        go_wp2_with fail
        go_ret
        exact ⟨rfl, Below.setCell (Below.setCell (Below.setCell (Below.setCell (Below.setCell (Below.setCell (Below.setCell (Below.setCell (Below.setCell k8 hLw _) hLw _) hLw _) hLw _) hLw _) hLw _) hLw _) hLw _) hLw _⟩
      · rw [e1]
        clear e1 hA'
        go_wp2_with fail
        go_ret
        exact ⟨rfl, Below.setCell (Below.setCell (Below.setCell (Below.setCell (Below.setCell (Below.setCell (Below.setCell (Below.setCell (Below.setCell k8 hLw _) hLw _) hLw _) hLw _) hLw _) hLw _) hLw _) hLw _) hLw _⟩
  · have h5 := k5.blk (b := W4.heap.size) (heap_old (heap_new _ _) _)
    have k7' : Kp W4 w5 := (((Kp.refl W4).alloc _).alloc _).drew.trans k5
    refine nine_set h5 k7' (Nat.le_refl _) (P := fun W => Exit.then _ _ _ _ W) fun W7 h7 k7 => ?_
    replace kw := kw.trans k7
    replace hL := k7.blk hL
    replace hr2 := k7.blk hr2
    replace hf2 := k7.blk hf2
    clear u0 u1 u2 u3 u4 u5 u6 u7 u8 f0 f1 f2 f3 f4 f5 f6 f7 f8 h5 k7' hS0 hS1 k5 k7 c0 c1 c2 c3 c4
    have q5 : W7.cell? ⟨w.heap.size, 5, none⟩ = some (.int .i64 p) := cell_blk hr2 rfl
    go_wp2_with fail
    refine (mod_is hM _).mono ?_
    rintro r w5 ⟨rfl, rfl⟩
    obtain ⟨n, rfl⟩ := Int.eq_ofNat_of_zero_le p0
    have hn : n < 5 := by omega
    obtain ⟨ov, hov⟩ := five_at hf2 hn
    have hfz : w5.frozen? ⟨g, n, none⟩ = false := five_frozen hf2 n
    go_wp2_with fail
    refine five_set hf2 kw hgw hn (P := fun W => Calls _ _ _ W _) fun W8 K' E' A' B' C' ht hf8 k8 ho => ?_
    replace hL := (ho L hLg).trans hL
    clear ho hov hfz hf2 hr2 q5 hM
    obtain ⟨c0, c1, c2, c3, c4, hlt8⟩ := five_cells hf8
    have hT := turn_err hE ht
    have hA8 : (A = 1 ∨ A = 2 ∨ A = 4 ∨ A = 8) := (al_one (errN_zero hE).2.2.2.2.1).1
    have hB8 : (B = 1 ∨ B = 2 ∨ B = 4 ∨ B = 8) := (al_one (errN_zero hE).2.2.2.2.2.1).1
    rcases hT with h0 | hT
    · refine (parse_ok g 0 5 K' E' A' B' C' _ c0 c1 c2 c3 c4 h0).mono ?_
      rintro r w9 ⟨rfl, k9⟩
      have hVm := valid_laid h0
      obtain ⟨X, Y, S, G, hm⟩ : ∃ X Y S G, laidD K' E' A' B' C' = ⟨K', E', A', B', C', X, Y, S, G⟩ := ⟨_, _, _, _, rfl⟩
      rw [hm] at hVm
      rw [hm]
      unfold Lay.val
      dsimp only
      replace hL := k9.blk hL
      replace hf8 := k9.blk hf8
      replace k8 := k8.trans k9
      clear c0 c1 c2 c3 c4 hlt8 k9 hm
      obtain ⟨b0, b1, b2, b3, b4, b5, b6, b7, b8, g0, g1, g2, g3, g4, g5, g6, g7, g8⟩ := (Kp.refl w9).nine hL
      obtain ⟨c0, c1, c2, c3, c4, hlt8⟩ := five_cells hf8
      go_wp2_with fail
      refine nine_set2 hL k8 hLw (P := fun W => Code.wp _ _ _ _ W) fun W10 hL10 k10 ho => ?_
      replace hf8 := (ho g (Ne.symm hLg)).trans hf8
      clear ho hL b0 b1 b2 b3 b4 b5 b6 b7 b8 g0 g1 g2 g3 g4 g5 g6 g7 g8 c0 c1 c2 c3 c4 hlt8
      obtain ⟨b0, b1, b2, b3, b4, b5, b6, b7, b8, -⟩ := (Kp.refl W10).nine hL10
      obtain ⟨c0, c1, c2, c3, c4, hlt8⟩ := five_cells hf8
      have hS := And.intro b0 (And.intro b1 (And.intro b2 (And.intro b3 (And.intro b4 (And.intro b5 (And.intro b6 (And.intro b7 (And.intro b8 (And.intro c0 (And.intro c1 (And.intro c2 (And.intro c3 (And.intro c4 k10)))))))))))))
      have j1 : ValidIs ⟨K', E', A', B', C', X, Y, S, G⟩ true := hVm
      go_region_held3 (fun w' => w'.cell? ⟨L, 0, none⟩ = some (.int .i64 K') ∧ w'.cell? ⟨L, 1, none⟩ = some (.int .i64 E') ∧ w'.cell? ⟨L, 2, none⟩ = some (.int .i64 A') ∧ w'.cell? ⟨L, 3, none⟩ = some (.int .i64 B') ∧ w'.cell? ⟨L, 4, none⟩ = some (.int .i64 C') ∧ w'.cell? ⟨L, 5, none⟩ = some (.int .i64 X) ∧ w'.cell? ⟨L, 6, none⟩ = some (.int .i64 Y) ∧ w'.cell? ⟨L, 7, none⟩ = some (.int .i64 S) ∧ w'.cell? ⟨L, 8, none⟩ = some (.int .i64 G) ∧ w'.cell? ⟨g, 0, none⟩ = some (.int .i64 K') ∧ w'.cell? ⟨g, 1, none⟩ = some (.int .i64 E') ∧ w'.cell? ⟨g, 2, none⟩ = some (.int .i64 A') ∧ w'.cell? ⟨g, 3, none⟩ = some (.int .i64 B') ∧ w'.cell? ⟨g, 4, none⟩ = some (.int .i64 C') ∧ Kp w w')
        (first | with_reducible assumption | with_reducible exact sv_drew (by assumption) | with_reducible exact sv_call k5 (by assumption))
        (first | (go_at_call 11; refine (valid_is j1 _).mono ?_; rintro r w5 ⟨rfl, k5⟩))
      have hS6 : (w5.cell? ⟨L, 0, none⟩ = some (.int .i64 K') ∧ w5.cell? ⟨L, 1, none⟩ = some (.int .i64 E') ∧ w5.cell? ⟨L, 2, none⟩ = some (.int .i64 A') ∧ w5.cell? ⟨L, 3, none⟩ = some (.int .i64 B') ∧ w5.cell? ⟨L, 4, none⟩ = some (.int .i64 C') ∧ w5.cell? ⟨L, 5, none⟩ = some (.int .i64 X) ∧ w5.cell? ⟨L, 6, none⟩ = some (.int .i64 Y) ∧ w5.cell? ⟨L, 7, none⟩ = some (.int .i64 S) ∧ w5.cell? ⟨L, 8, none⟩ = some (.int .i64 G) ∧ w5.cell? ⟨g, 0, none⟩ = some (.int .i64 K') ∧ w5.cell? ⟨g, 1, none⟩ = some (.int .i64 E') ∧ w5.cell? ⟨g, 2, none⟩ = some (.int .i64 A') ∧ w5.cell? ⟨g, 3, none⟩ = some (.int .i64 B') ∧ w5.cell? ⟨g, 4, none⟩ = some (.int .i64 C') ∧ Kp w w5) := by assumption
      go_wp2_with fail
      go_ret
      exact ⟨rfl, hS6.2.2.2.2.2.2.2.2.2.2.2.2.2.2⟩
    · have hne : ¬ errN K' E' A' B' C' = 0 := by
        rcases hT with ⟨_, _, ⟨e, _⟩ | ⟨e, _⟩ | ⟨e, _⟩⟩ | ⟨_, _, ⟨e, _⟩ | ⟨e, _⟩ | ⟨e, _⟩⟩ | ⟨_, e⟩ | ⟨_, e⟩ | ⟨_, e⟩ <;> rw [e] <;> decide
      refine (parse_err g 0 5 K' E' A' B' C' _ c0 c1 c2 c3 c4 hne).mono ?_
      rintro r w9 ⟨rfl, k9⟩
      unfold Lay.val Lay.zero
      dsimp only
      replace hL := k9.blk hL
      replace hf8 := k9.blk hf8
      replace k8 := k8.trans k9
      clear c0 c1 c2 c3 c4 hlt8 k9
      obtain ⟨b0, b1, b2, b3, b4, b5, b6, b7, b8, g0, g1, g2, g3, g4, g5, g6, g7, g8⟩ := (Kp.refl w9).nine hL
      obtain ⟨c0, c1, c2, c3, c4, hlt8⟩ := five_cells hf8
      have hne' : (errN K' E' A' B' C' == 0) = false := by simpa using hne
      have hA' : ∀ q : Int, 1 ≤ q → 1 ≤ x → q ≤ 8 → ¬ x % q = 0 → (x.tmod q != 0) = true ∧ (x % q != 0) = true := fun q _ hx _ hq => by
        rw [Int.tmod_eq_emod_of_nonneg (by omega)]
        simpa using hq
      clear hne hne' hE
      rcases hT with ⟨rfl, hAA, ⟨e1, hx⟩ | ⟨e1, hx⟩ | ⟨e1, hx, hx2, hx3⟩⟩ | ⟨rfl, hBB, ⟨e1, hx⟩ | ⟨e1, hx⟩ | ⟨e1, hx, hx2, hx3⟩⟩ | ⟨rfl, e1⟩ | ⟨rfl, e1⟩ | ⟨rfl, e1⟩
      · rw [e1]
        clear e1 hA'
        go_wp2_with fail
        go_ret
        exact ⟨rfl, Below.setCell (Below.setCell (Below.setCell (Below.setCell (Below.setCell (Below.setCell (Below.setCell (Below.setCell (Below.setCell k8 hLw _) hLw _) hLw _) hLw _) hLw _) hLw _) hLw _) hLw _) hLw _⟩
      · rw [e1]
        clear e1 hA'
        have hx1 : ¬ x < 1 := by omega
        go_wp2_with fail
        go_ret
        exact ⟨rfl, Below.setCell (Below.setCell (Below.setCell (Below.setCell (Below.setCell (Below.setCell (Below.setCell (Below.setCell (Below.setCell k8 hLw _) hLw _) hLw _) hLw _) hLw _) hLw _) hLw _) hLw _) hLw _⟩
      · rw [e1]
        subst hAA
        have q1 : 1 ≤ A' := by omega
        have q8 : A' ≤ 8 := by omega
        have q0 : ¬ A' = 0 := by omega
        obtain ⟨y1, y2⟩ := hA' A' q1 hx q8 hx3
        have hx1 : ¬ x < 1 := by omega
        have hx4 : ¬ 128 < x := by omega
        clear e1 hA'
        go_wp2_with fail
        go_ret
        exact ⟨rfl, Below.setCell (Below.setCell (Below.setCell (Below.setCell (Below.setCell (Below.setCell (Below.setCell (Below.setCell (Below.setCell k8 hLw _) hLw _) hLw _) hLw _) hLw _) hLw _) hLw _) hLw _) hLw _⟩
      · rw [e1]
        clear e1 hA'
        go_wp2_with fail
        go_ret
        exact ⟨rfl, Below.setCell (Below.setCell (Below.setCell (Below.setCell (Below.setCell (Below.setCell (Below.setCell (Below.setCell (Below.setCell k8 hLw _) hLw _) hLw _) hLw _) hLw _) hLw _) hLw _) hLw _) hLw _⟩
      · rw [e1]
        clear e1 hA'
        have hx1 : ¬ x < 0 := by omega
        go_wp2_with fail
        go_ret
        exact ⟨rfl, Below.setCell (Below.setCell (Below.setCell (Below.setCell (Below.setCell (Below.setCell (Below.setCell (Below.setCell (Below.setCell k8 hLw _) hLw _) hLw _) hLw _) hLw _) hLw _) hLw _) hLw _) hLw _⟩
      · rw [e1]
        subst hBB
        have q1 : 1 ≤ B' := by omega
        have q8 : B' ≤ 8 := by omega
        have q0 : ¬ B' = 0 := by omega
        have hx0 : 1 ≤ x := by
          have : ¬ x = 0 := fun h => hx3 (by rw [h]; exact Int.zero_emod _)
          omega
        obtain ⟨y1, y2⟩ := hA' B' q1 hx0 q8 hx3
        have hx1 : ¬ x < 0 := by omega
        have hx4 : ¬ 128 < x := by omega
        clear e1 hA'
        go_wp2_with fail
        go_ret
        exact ⟨rfl, Below.setCell (Below.setCell (Below.setCell (Below.setCell (Below.setCell (Below.setCell (Below.setCell (Below.setCell (Below.setCell k8 hLw _) hLw _) hLw _) hLw _) hLw _) hLw _) hLw _) hLw _) hLw _⟩
      · rw [e1]
        clear e1 hA'
        go_wp2_with fail
        go_ret
        exact ⟨rfl, Below.setCell (Below.setCell (Below.setCell (Below.setCell (Below.setCell (Below.setCell (Below.setCell (Below.setCell (Below.setCell k8 hLw _) hLw _) hLw _) hLw _) hLw _) hLw _) hLw _) hLw _) hLw _⟩
      · rw [e1]
        clear e1 hA'
        go_wp2_with fail
        go_ret
        exact ⟨rfl, Below.setCell (Below.setCell (Below.setCell (Below.setCell (Below.setCell (Below.setCell (Below.setCell (Below.setCell (Below.setCell k8 hLw _) hLw _) hLw _) hLw _) hLw _) hLw _) hLw _) hLw _) hLw _⟩
      · rw [e1]
        clear e1 hA'
        go_wp2_with fail
        go_ret
        exact ⟨rfl, Below.setCell (Below.setCell (Below.setCell (Below.setCell (Below.setCell (Below.setCell (Below.setCell (Below.setCell (Below.setCell k8 hLw _) hLw _) hLw _) hLw _) hLw _) hLw _) hLw _) hLw _) hLw _⟩
end layoutSays
end Go.Proofs.Yteokfhccfmeffaa
