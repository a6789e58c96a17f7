/-
  Cells of a table, as SeqOne: its list is the block that it chooses.
-/
import Derived.Test.YtmdnknbolgedgaaGreatDoorHT23
import Derived.Test.YtmdnknbolgedgaaGreatDoorHTT6
namespace Go.Proofs.YtmdnknbolgedgaaGreatDoor
open Go.RowKit Go.Shelf Ly Ct
set_option linter.unusedVariables false
attribute [local go_sem] Oper.semAt_some

theorem held_base {w : World} {base g cap n : Nat} {xs : List Value} (h : w.ownsRow base 130 6 (.slice (some ⟨g, 0, none⟩) n cap) n xs) : base ≤ g := by
  rcases h.2 with ⟨e1, -⟩ | ⟨g', cap', cur, e, hb, -⟩
  · cases e1
  · injection e with e1 _ _
    injection Option.some.inj e1 with e2 _ _
    omega
set_option maxRecDepth 100000 in
set_option maxHeartbeats 4000000 in
theorem tcells_one (n : Nat) (hn : 1 ≤ n) (p Bt : Nat) (l : Lay) (off gr G k : Nat) (hk : k ≤ 13) (hG : G = 2 ^ k) (hs : List (Nat × GC)) (hlen : hs.length ≤ 1000000) :
    SeqOne n 60 #[.pointer (some ⟨Bt, 0, none⟩)] (fun x : Nat × GC => #[.int .i64 (x.1 : Int), x.2.val]) (fun x s => hs[s]? = some x) (fun _ s s' => s' = s + 1) (fun s : Nat => s = hs.length) (RxT p Bt l off gr G hs) 0 := by
  intro lp J Jx W hJk hJR hY hJ0
  have hro : Fence.wide.round = none := rfl
  obtain ⟨hB, hT⟩ := hJR _ _ _ (hJ0 none W (Keeps.refl _ _) (fun q e => nomatch e))
  obtain ⟨F, d, f, c, hA, hF, hD, h4, h7, ehs⟩ := hT rfl
  have hFu := tfull_any hA hF hD h4 h7 hk hG
  rw [← ehs] at hFu
  obtain ⟨c0, c1, c2, c3, c4, c5, c6, c7, c8, c9, c10⟩ := c11_of hB
  clear hA hF hD h4 h7 ehs hT hB hG hk
  clear d f c F
  refine callsIn_of_wp Tryz.func60 rfl trivial ?_ hro
  simp only [Tryz.ntmps60, List.size_toArray, List.length_cons, List.length_nil, Nat.reduceAdd, Nat.reduceSub, Array.replicate_succ, Array.replicate_zero, List.push_toArray, List.append_toArray, List.nil_append, List.cons_append]
  gi_wp2_with fail
  refine ⟨trivial, (callsIn_wide.2 hFu).mono ?_⟩
  rintro e W1 ⟨v, rfl, hrow, k1⟩
  clear c0 c1 c2 c3 c4 c5 c6 c7 c8 c9 c10 hFu
  rcases held_lies hrow with ⟨rfl, h0⟩ | ⟨g, cap, cur, rfl, hg, hat⟩
  · have HJ1 := hide (hJ0 none W1 k1 (fun q e => nomatch e))
    clear hrow hJ0 k1
    gi_wp2_with fail
    gi_loopg [8] 0 (fun gm v8 wr => v8 = .int .i64 0 ∧ wr = W1)
    case atStart => exact ⟨rfl, rfl⟩
    case round =>
      obtain ⟨rfl, rfl⟩ := hrel
      gi_wp2_with fail
      go_end0
      exact ⟨⟨_, rfl⟩, .inl ⟨none, _, h0.symm, HJ1.out⟩⟩
  · have HJ1 := hide (hJ0 (some g) W1 k1 (fun q e => by cases e; exact ⟨held_base hrow, heap_lt hg⟩))
    clear hrow hJ0 k1
    obtain ⟨N, hN⟩ : ∃ N, hs.length = N := ⟨_, rfl⟩
    rw [hN] at hlen ⊢
    have Hat := hide hat
    have HN := hide hN
    clear hat hN
    gi_wp2_with fail
    gi_loopg [8] N (fun gm v8 wr => ∃ i : Nat, gm = N - i ∧ i ≤ N ∧ v8 = .int .i64 (i : Int) ∧ Hid (J (some g) i wr) ∧ Hid (wr.heap[g]? = some (.cells cur 130)))
    case atStart => exact ⟨0, rfl, Nat.zero_le _, rfl, HJ1, hg⟩
    case round =>
      clear HJ1 hg
      obtain ⟨i, rfl, hi, rfl, hJ, Hg⟩ := hrel
      by_cases hlt : i < N
      · have hlt' : (i : Int) < (N : Int) := by omega
        have hlt2 : ¬ N ≤ i := by omega
        obtain ⟨⟨m, ⟨kd, tg, ky, el, bi⟩⟩, hx⟩ : ∃ x, hs[i]? = some x := ⟨hs[i]'(by rw [HN.out]; exact hlt), List.getElem?_eq_getElem _⟩
        obtain ⟨d0, d1, d2, d3, d4, d5⟩ := held_cells Hg.out (Hat.out i _ hx)
        obtain ⟨wi1, wi2⟩ : wrap64 ((i : Int) + 1) = (i : Int) + 1 ∧ IntKind.i64.wrap ((i : Int) + 1) = (i : Int) + 1 := by
          constructor
          · unfold wrap64; omega
          · rw [IntKind.wrap_i64]; omega
        have ka : Keeps wr (wr.alloc (.cells #[.int .i64 (m : Int), .int .i64 kd, .int .i64 tg, .string ky, .string el, .int .i64 bi] 130)) (fun _ => False) := (Keeps.refl _ _).alloc _
        obtain ⟨fn, tmps, assign, body, hy, hRd⟩ := hY (some g) (m, ⟨kd, tg, ky, el, bi⟩) i _ (hJk _ _ _ _ hJ.out ka) hx
        simp only [GC.val] at hy
        have Hb := hide (ka.blk Hg.out)
        have HY := hide hY
        have HJR := hide hJR
        clear hJ hY hJR ka Hg hx
        dsimp only at d0 d1 d2 d3 d4 d5
        gi_wp2
        refine hRd.mono ?_
        rintro e W6 ⟨hst, hyy⟩
        have Hb6 := hide ((hst g rfl).trans Hb.out)
        rcases hyy with ⟨rfl, s', hN', hJ6⟩ | ⟨rfl, hJx⟩
        · have HJ := hide hJ6
          have HN' := hide hN'
          clear hJ6 hN' hRd hy hst Hb d0 d1 d2 d3 d4 d5
          gi_wp2_with fail
          gi_roundg (N - (i + 1))
          case measure => omega
          case rel => exact ⟨i + 1, rfl, by omega, rfl, HN'.out ▸ HJ, Hb6⟩
        · have HX := hide hJx
          clear hJx hRd hy hst Hb Hb6 d0 d1 d2 d3 d4 d5
          gi_wp2
          refine bodyPost_ret (results_none rfl _ _ _) rfl ?_
          exact ⟨⟨_, rfl⟩, .inr HX.out⟩
      · obtain rfl : i = N := by omega
        have hlt' : ¬ (i : Int) < (i : Int) := by omega
        clear hY hJR
        gi_wp2_with fail
        go_end0
        exact ⟨⟨_, rfl⟩, .inl ⟨some g, by rw [HN.out]; exact hJ.out⟩⟩
end Go.Proofs.YtmdnknbolgedgaaGreatDoor
