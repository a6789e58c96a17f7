/-
  The law's ahead: a way that reaches its group.
-/
import Derived.Test.YtmdnknbolgedgaaGreatDoorUn20
namespace Go.Proofs.YtmdnknbolgedgaaGreatDoor
open Go.RowKit Go.Shelf Ly Ct
set_option linter.unusedVariables false
attribute [local go_sem] Oper.semAt_some

set_option maxRecDepth 100000 in
set_option maxHeartbeats 8000000 in
theorem ahead_yes (h k g Be cap : Nat) (hk : k ≤ 13) (hh : h < 18446744073709551616) (ev : Nat → Int) (w : World) (he : ∀ i, i < 2 ^ k → w.cell? ⟨Be, i, none⟩ = some (.int .i64 (ev i))) (s0 : Nat) (hs0 : s0 < 2 ^ k) (hm : Pb.metN h (2 ^ k) s0 = g) (hz : ∀ j, j < s0 → ev (Pb.metN h (2 ^ k) j) = 0) :
    Calls Tryz.prog 54 #[.int .u64 (h : Int), .int .i64 ((2 ^ k : Nat) : Int), .int .i64 (g : Int), .slice (some ⟨Be, 0, none⟩) (2 ^ k) cap] w fun e w' => e = .returned (.bool true) ∧ Keeps w w' (fun _ => False) := by
  have hOr := fun g W => Pb.order_call (h : Int) g W
  have hne : ∀ j, j < s0 → Pb.metN h (2 ^ k) j ≠ g := fun j hj e => by
    rw [← hm] at e
    exact Pb.metN_lt_ne hj hs0 e
  have hlt : ∀ j, Pb.metN h (2 ^ k) j < 2 ^ k := fun j => Pb.metN_lt (Nat.two_pow_pos k)
  have hOT := order_tied 7 (by omega) (w.heap.size + 3 + 1) (w.heap.size + 3) h k hk hh
  obtain ⟨g1, g2⟩ := Pb.pow_bounds hk
  generalize 2 ^ k = G at *
  have hOs : ∀ W, Calls Tryz.prog 71 #[.int .u64 (h : Int), .int .i64 (G : Int)] W fun e w' => e = .returned (.func (.func 108) #[] #[.pointer (some ⟨W.heap.size + 1, 0, none⟩), .pointer (some ⟨W.heap.size, 0, none⟩)]) ∧ w'.heap[W.heap.size + 1]? = some (.cells #[.int .i64 (G : Int)] 3) ∧ w'.heap[W.heap.size]? = some (.cells #[.int .u64 (h : Int)] 23) ∧ Keeps W w' (fun _ => False) := fun W => by
    refine (hOr (G : Int) W).mono ?_
    rintro e w' ⟨rfl, rfl⟩
    have q := heap_alloc_new (W.alloc (.cells #[.int .u64 (h : Int)] 23)) (.cells #[.int .i64 (G : Int)] 3)
    rw [World.size_alloc] at q
    exact ⟨rfl, q, ((Keeps.refl (W.alloc (.cells #[.int .u64 (h : Int)] 23)) (fun _ => False)).alloc _).blk (heap_alloc_new W (.cells #[.int .u64 (h : Int)] 23)), ((Keeps.refl _ _).alloc _).alloc _⟩
  clear hOr
  refine (callsIn_wide (n := 8)).1 ?_
  refine callsIn_of_wp_marks Tryz.func54 rfl trivial ?_ rfl
  simp only [Tryz.ntmps54, List.size_toArray, List.length_cons, List.length_nil, Nat.reduceAdd, Nat.reduceSub, Array.replicate_succ, Array.replicate_zero, List.push_toArray, List.append_toArray, List.nil_append, List.cons_append]
  rw [wpIn_wide]
  go_wp2_with fail
  refine alloc3 (P := fun W => Calls _ _ _ W _) fun W0 hb6 hb7 hb8 hz0 K0 => ?_
  (with_reducible refine (hOs _).mono ?_)
  rintro r w7 ⟨rfl, hG7, hH7, k7⟩
  rw [hz0] at hG7 hH7 ⊢
  have c6 := k7.blk hb6
  have c7 := k7.blk hb7
  have c8 := k7.blk hb8
  have K7 := K0.trans k7 (fun _ _ e => e)
  have hN : Aside (w.heap.size + 3 + 2 ≤ w7.heap.size) := by
    show w.heap.size + 3 + 2 ≤ w7.heap.size
    have := heap_lt hG7
    omega
  clear hb6 hb7 hb8 hz0 K0 k7 hOs
  go_wp2_with fail
  rename_i Q9 KX hKX
  rw [← wpIn_wide (n := 8)]
  refine range_tied (n := 8) (by omega) (gf := 108) (lb := #[.pointer (some ⟨w.heap.size + 3 + 1, 0, none⟩), .pointer (some ⟨w.heap.size + 3, 0, none⟩)]) ?hop (enters_of Tryz.func108 (by kernel_rfl) rfl) hOT (fun _ => rfl)
    (fun a x a' V => a' = { tmps := (a.tmps.setIfInBounds 13 (.int .i64 (x : Int))).setIfInBounds 9 (.int .i64 (x : Int)), defers := [] })
    ?hAx
    (fun s V => s ≤ s0 ∧ V.heap[w.heap.size + 1 + 1]? = some (.cells #[.bool false] 4) ∧ Keeps w7 V (fun _ => False))
    (fun c' V => c' = .ret ∧ V.heap[w.heap.size + 1 + 1]? = some (.cells #[.bool true] 4) ∧ Keeps w7 V (fun i => i = w.heap.size + 1 + 1))
    ?hR ?hI ?hIp ?hXp ?h0 ?hassign ?hbody ?hdone ?hstop
  case hop => rfl
  case hAx => exact fun x a' V r o e hL => e
  case hR =>
    rintro s V ⟨-, -, kV⟩
    exact ⟨kV.blk hG7, kV.blk hH7⟩
  case hI =>
    rintro s V V' ⟨h1, h2, h3⟩ kk
    exact ⟨h1, kk.blk h2, h3.trans kk (fun _ _ e => e)⟩
  case hIp =>
    rintro s V r o ⟨h1, h2, h3⟩ hL
    have := hN.out
    exact ⟨h1, putBlk h2 (by omega), h3.put (by omega) o⟩
  case hXp =>
    rintro c V r o ⟨h1, h2, h3⟩ hL
    have := hN.out
    exact ⟨h1, putBlk h2 (by omega), h3.put (by omega) o⟩
  case h0 =>
    intro r
    have kk : Keeps w7 ((w7.alloc (.deferred (some []))).alloc (.loop r)) (fun _ => False) := ((Keeps.refl _ _).alloc _).alloc _
    exact ⟨Nat.zero_le _, kk.blk c8, kk⟩
  case hdone =>
    rintro s V rfl ⟨h1, -⟩
    omega
  case hassign =>
    rintro x s V K' hI' hK'
    have hK2 := hide hK'
    clear hK'
    gi_wp2_with fail
    refine hK2.out _ _ (Keeps.refl _ _) ?_
    simp only [List.setIfInBounds_toArray, List.set_cons_zero, List.set_cons_succ]
  case hstop =>
    rintro c' V ⟨rfl, h2, h3⟩ hD
    have hn := hN.out
    have hcell : (V.putObj w7.heap.size (.deferred none)).cell? ⟨w.heap.size + 1 + 1, 0, none⟩ = some (.bool true) := (Ct.one_cell (putBlk h2 (by omega))).1
    have hfin : Keeps w (V.putObj w7.heap.size (.deferred none)) (fun _ => False) := (K7.trans h3 (fun i hi e => by omega)).put (by have := K7.size; omega) _
    refine wpIn_ret ?_
    show Q9 .ret _ _
    refine ⟨by simp, .inl ⟨_, _, rfl, run_takeDeferred hD, ?_⟩⟩
    exact ⟨_, by simp [results, Tryz.results54, go_sem, hcell], rfl, hfin⟩
  case hbody =>
    rintro x s a' X ⟨r, hl⟩ ⟨hs, h8, kX⟩ rfl ⟨hsG, rfl⟩
    have q6 := (Ct.one_cell (kX.blk c6)).1
    have q7 := (Ct.one_cell (kX.blk c7)).1
    obtain ⟨q8, q8f⟩ := Ct.one_cell h8
    have hx := hlt s
    have qe := keeps_cell (K7.trans kX (fun _ _ e => e)) id (he _ hx)
    have hh8 := hide h8
    by_cases hss : s = s0
    · subst hss
      rw [hm] at qe hx ⊢
      clear hz hne hlt hOT
      dsimp only
      simp only [List.setIfInBounds_toArray, List.set_cons_zero, List.set_cons_succ]
      gi_wp2_with fail
      have hn := hN.out
      have ks : Keeps X (X.setCell ⟨w.heap.size + 1 + 1, 0, none⟩ (.bool true)) (fun i => i = w.heap.size + 1 + 1) := Keeps.setCell (S := fun i => i = w.heap.size + 1 + 1) (Keeps.refl X _) ⟨w.heap.size + 1 + 1, 0, none⟩ (fun _ => rfl) _
      exact ⟨fun q hq => Below.heap_setCell _ _ _ _ (by show q ≠ w.heap.size + 1 + 1; omega), rfl, set_one' hh8.out 0 (.bool true) (by simp), (kX.mono (fun _ _ e => e.elim)).trans ks (fun _ _ e => e)⟩
    · have hz' := hz s (by omega)
      have hne' := hne s (by omega)
      rw [hz'] at qe
      generalize Pb.metN h G s = X' at *
      have e1 : ((X' : Int) == (g : Int)) = false := beq_eq_false_iff_ne.2 (by omega)
      have e2 : ¬ (X' : Int) < 0 := by omega
      have e3 : ¬ (G : Int) ≤ (X' : Int) := by omega
      clear hz hne hlt hOT hz' hne'
      dsimp only
      simp only [List.setIfInBounds_toArray, List.set_cons_zero, List.set_cons_succ]
      gi_wp2_with fail
      exact ⟨fun _ _ => rfl, s + 1, rfl, by omega, hh8.out, kX⟩
end Go.Proofs.YtmdnknbolgedgaaGreatDoor
