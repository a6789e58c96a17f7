/-
  Cells of a table: what was there when the range began.
-/
import Derived.Test.YtmdnknbolgedgaaGreatDoorHT22
import Derived.Sort.LoopGhostIn
import Derived.LoopNIn
import Derived.LoopIn
namespace Go.Proofs.YtmdnknbolgedgaaGreatDoor
open Go.RowKit Go.Shelf Ly Ct
set_option linter.unusedVariables false
attribute [local go_sem] Oper.semAt_some

theorem tcells_call (p : Nat) (l : Lay) (off : Int) (w : World) :
    Calls Tryz.prog 30 #[.agg #[.pointer (some ⟨p, 0, none⟩), .int .i64 l.k, .int .i64 l.e, .int .i64 l.a, .int .i64 l.b, .int .i64 l.c, .int .i64 l.eo, .int .i64 l.bo, .int .i64 l.s, .int .i64 l.g, .int .i64 off]] w fun e w' => e = .returned (.func (.func 60) #[] #[.pointer (some ⟨w.heap.size, 0, none⟩)]) ∧ w' = w.alloc (.cells #[.pointer (some ⟨p, 0, none⟩), .int .i64 l.k, .int .i64 l.e, .int .i64 l.a, .int .i64 l.b, .int .i64 l.c, .int .i64 l.eo, .int .i64 l.bo, .int .i64 l.s, .int .i64 l.g, .int .i64 off] 36) := by
  go_enter Tryz.func30, Tryz.ntmps30
  go_wp2
  go_ret
  exact ⟨rfl, rfl⟩
/-- What a range over the cells needs of the world: at its start the table, then its own box alone. -/
def RxT (p Bt : Nat) (l : Lay) (off gr G : Nat) (hs : List (Nat × GC)) (s : Nat) (V : World) : Prop := V.heap[Bt]? = some (.cells #[.pointer (some ⟨p, 0, none⟩), .int .i64 l.k, .int .i64 l.e, .int .i64 l.a, .int .i64 l.b, .int .i64 l.c, .int .i64 l.eo, .int .i64 l.bo, .int .i64 l.s, .int .i64 l.g, .int .i64 (off : Int)] 36) ∧ (s = 0 → ∃ F d f c, Arena V p F d ∧ d.Fine ∧ TabD d l off gr G f c ∧ f 4 = ((8 * G : Nat) : Int) ∧ f 7 = (gr : Int) ∧ hs = fullL c (8 * G))
/-- The list as it lies. -/
theorem held_lies {w : World} {base : Nat} {v : Value} {hs : List (Nat × GC)} (h : w.ownsRow base 130 6 v hs.length (heldL hs)) :
    (v = .slice none 0 0 ∧ hs.length = 0) ∨ ∃ g cap cur, v = .slice (some ⟨g, 0, none⟩) hs.length cap ∧ w.heap[g]? = some (.cells cur 130) ∧ ∀ i x, hs[i]? = some x → ∀ j, j < 6 → cur[i * 6 + j]? = (held6 x)[j]? := by
  rcases h.2 with ⟨e1, e2⟩ | ⟨g, cap, cur, e, -, hg, hle, -, hsz, htk⟩
  · exact .inl ⟨e1, e2⟩
  · refine .inr ⟨g, cap, cur, e, hg, fun i x hx j hj => ?_⟩
    obtain ⟨hi, rfl⟩ := List.getElem?_eq_some_iff.1 hx
    rw [← heldL_at hs i j hi hj, ← htk, List.getElem?_take_of_lt (by omega)]
    simp
theorem held_cells {w : World} {g : Nat} {cur : Array Value} {i : Nat} {x : Nat × GC} (hg : w.heap[g]? = some (.cells cur 130)) (h : ∀ j, j < 6 → cur[i * 6 + j]? = (held6 x)[j]?) :
    w.cell? ⟨g, i * 6, none⟩ = some (.int .i64 (x.1 : Int)) ∧ w.cell? ⟨g, i * 6 + 1, none⟩ = some (.int .i64 x.2.kind) ∧ w.cell? ⟨g, i * 6 + 2, none⟩ = some (.int .i64 x.2.tag) ∧ w.cell? ⟨g, i * 6 + 3, none⟩ = some (.string x.2.key) ∧ w.cell? ⟨g, i * 6 + 4, none⟩ = some (.string x.2.elem) ∧ w.cell? ⟨g, i * 6 + 5, none⟩ = some (.int .i64 x.2.birth) := by
  simp only [World.cell?, hg]
  exact ⟨h 0 (by decide), h 1 (by decide), h 2 (by decide), h 3 (by decide), h 4 (by decide), h 5 (by decide)⟩
set_option maxRecDepth 100000 in
set_option maxHeartbeats 4000000 in
theorem tcells_each (n : Nat) (hn : 1 ≤ n) (p Bt : Nat) (l : Lay) (off gr G k : Nat) (hk : k ≤ 13) (hG : G = 2 ^ k) (hs : List (Nat × GC)) (hlen : hs.length ≤ 1000000) :
    SeqStay 130 n 60 #[.pointer (some ⟨Bt, 0, none⟩)] (fun x : Nat × GC => #[.int .i64 (x.1 : Int), x.2.val]) (fun x s => hs[s]? = some x) (fun _ s s' => s' = s + 1) (fun s : Nat => s = hs.length) (RxT p Bt l off gr G hs) 0 := by
  intro lp J Jx W hJk hJR hY hJ0
  have hro : Fence.wide.round = none := rfl
  obtain ⟨hB, hT⟩ := hJR _ _ hJ0
  obtain ⟨F, d, f, c, hA, hF, hD, h4, h7, ehs⟩ := hT rfl
  have hFu := tfull_any hA hF hD h4 h7 hk hG
  rw [← ehs] at hFu
  obtain ⟨c0, c1, c2, c3, c4, c5, c6, c7, c8, c9, c10⟩ := c11_of hB
  clear hA hF hD h4 h7 ehs hT hB hG hk
  clear d f c F
  refine callsIn_of_wp Tryz.func60 rfl trivial ?_ hro
  simp only [Tryz.ntmps60, List.size_toArray, List.length_cons, List.length_nil, Nat.reduceAdd, Nat.reduceSub, Array.replicate_succ, Array.replicate_zero, List.push_toArray, List.append_toArray, List.nil_append, List.cons_append]
  gi_wp2_with fail
  refine ⟨trivial, (callsIn_wide.2 hFu).mono ?_⟩
  rintro e W1 ⟨v, rfl, hrow, k1⟩
  have HJ1 := hide (hJk _ _ _ hJ0 k1)
  clear c0 c1 c2 c3 c4 c5 c6 c7 c8 c9 c10 hFu hJ0 k1
  rcases held_lies hrow with ⟨rfl, h0⟩ | ⟨g, cap, cur, rfl, hg, hat⟩
  · clear hrow
    gi_wp2_with fail
    gi_loopg [8] 0 (fun gm v8 wr => v8 = .int .i64 0 ∧ wr = W1)
    case atStart => exact ⟨rfl, rfl⟩
    case round =>
      obtain ⟨rfl, rfl⟩ := hrel
      gi_wp2_with fail
      go_end0
      exact ⟨⟨_, rfl⟩, .inl ⟨_, h0.symm, HJ1.out⟩⟩
  · clear hrow
    obtain ⟨N, hN⟩ : ∃ N, hs.length = N := ⟨_, rfl⟩
    rw [hN] at hlen ⊢
    have Hat := hide hat
    have HN := hide hN
    clear hat hN
    gi_wp2_with fail
    gi_loopg [8] N (fun gm v8 wr => ∃ i : Nat, gm = N - i ∧ i ≤ N ∧ v8 = .int .i64 (i : Int) ∧ Hid (J i wr) ∧ Hid (wr.heap[g]? = some (.cells cur 130)))
    case atStart => exact ⟨0, rfl, Nat.zero_le _, rfl, HJ1, hg⟩
    case round =>
      clear HJ1 hg
      obtain ⟨i, rfl, hi, rfl, hJ, Hg⟩ := hrel
      by_cases hlt : i < N
      · have hlt' : (i : Int) < (N : Int) := by omega
        have hlt2 : ¬ N ≤ i := by omega
        obtain ⟨⟨m, ⟨kd, tg, ky, el, bi⟩⟩, hx⟩ : ∃ x, hs[i]? = some x := ⟨hs[i]'(by rw [HN.out]; exact hlt), List.getElem?_eq_getElem _⟩
        obtain ⟨d0, d1, d2, d3, d4, d5⟩ := held_cells Hg.out (Hat.out i _ hx)
        obtain ⟨wi1, wi2⟩ : wrap64 ((i : Int) + 1) = (i : Int) + 1 ∧ IntKind.i64.wrap ((i : Int) + 1) = (i : Int) + 1 := by
          constructor
          · unfold wrap64; omega
          · rw [IntKind.wrap_i64]; omega
        have ka : Keeps wr (wr.alloc (.cells #[.int .i64 (m : Int), .int .i64 kd, .int .i64 tg, .string ky, .string el, .int .i64 bi] 130)) (fun _ => False) := (Keeps.refl _ _).alloc _
        obtain ⟨fn, tmps, assign, body, hy, hRd⟩ := hY (m, ⟨kd, tg, ky, el, bi⟩) i _ (hJk _ _ _ hJ.out ka) hx
        simp only [GC.val] at hy
        have Hb := hide (ka.blk Hg.out)
        have HY := hide hY
        have HJR := hide hJR
        clear hJ hY hJR ka Hg hx
        dsimp only at d0 d1 d2 d3 d4 d5
        gi_wp2
        refine hRd.mono ?_
        rintro e W6 ⟨hst, hyy⟩
        have Hb6 := hide (hst _ _ _ Hb.out)
        rcases hyy with ⟨rfl, s', hN', hJ6⟩ | ⟨rfl, hJx⟩
        · have HJ := hide hJ6
          have HN' := hide hN'
          clear hJ6 hN' hRd hy hst Hb d0 d1 d2 d3 d4 d5
          gi_wp2_with fail
          gi_roundg (N - (i + 1))
          case measure => omega
          case rel => exact ⟨i + 1, rfl, by omega, rfl, HN'.out ▸ HJ, Hb6⟩
        · have HX := hide hJx
          clear hJx hRd hy hst Hb Hb6 d0 d1 d2 d3 d4 d5
          gi_wp2
          refine bodyPost_ret (results_none rfl _ _ _) rfl ?_
          exact ⟨⟨_, rfl⟩, .inr HX.out⟩
      · obtain rfl : i = N := by omega
        have hlt' : ¬ (i : Int) < (i : Int) := by omega
        clear hY hJR
        gi_wp2_with fail
        go_end0
        exact ⟨⟨_, rfl⟩, .inl (by rw [HN.out]; exact hJ.out)⟩
end Go.Proofs.YtmdnknbolgedgaaGreatDoor
