/-
  Cells: a range over it sees the cells as they are at that moment.
-/
import Derived.Test.YtmdnknbolgedgaaGreatDoorUn20
import Derived.Stop.RegionWithIn
import Derived.Sort.AtCallIn
import Derived.Sort.LoopGhostIn
import Derived.RangeFuncLeaves
import Derived.OwnWalkIn
import Derived.TacticsInMore
import Derived.LoopNIn
import Derived.LoopIn
namespace Go.Proofs.YtmdnknbolgedgaaGreatDoor
open Go.RowKit Go.Shelf Ly Ct
set_option linter.unusedVariables false

attribute [local go_sem] Oper.semAt_some

theorem cells_call (p : Nat) (l : Lay) (off : Int) (w : World) :
    Calls Tryz.prog 97 #[.agg #[.pointer (some ⟨p, 0, none⟩), .int .i64 l.k, .int .i64 l.e, .int .i64 l.a, .int .i64 l.b, .int .i64 l.c, .int .i64 l.eo, .int .i64 l.bo, .int .i64 l.s, .int .i64 l.g, .int .i64 off]] w fun e w' => e = .returned (.func (.func 129) #[] #[.pointer (some ⟨w.heap.size, 0, none⟩)]) ∧ w' = w.alloc (.cells #[.pointer (some ⟨p, 0, none⟩), .int .i64 l.k, .int .i64 l.e, .int .i64 l.a, .int .i64 l.b, .int .i64 l.c, .int .i64 l.eo, .int .i64 l.bo, .int .i64 l.s, .int .i64 l.g, .int .i64 off] 109) := by
  go_enter Tryz.func97, Tryz.ntmps97
  go_wp2
  go_ret
  exact ⟨rfl, rfl⟩

/-- The next slot that is looked at, and the cells. -/
def GxC (x : Nat × GC) (s : Nat × (Nat → GC)) : Prop := s.1 ≤ x.1 ∧ x.1 < 8 ∧ x.2 = s.2 x.1 ∧ x.2.kind = 2 ∧ ∀ j, s.1 ≤ j → j < x.1 → (s.2 j).kind ≠ 2
def NxC (x : Nat × GC) (s s' : Nat × (Nat → GC)) : Prop := s'.1 = x.1 + 1
def ExC (s : Nat × (Nat → GC)) : Prop := ∀ j, s.1 ≤ j → j < 8 → (s.2 j).kind ≠ 2
def RxC (p Bg : Nat) (l : Lay) (off : Nat) (s : Nat × (Nat → GC)) (V : World) : Prop :=
  (∃ F d, Arena V p F d ∧ d.Fine ∧ GroupAt d l off s.2) ∧ V.heap[Bg]? = some (.cells #[.pointer (some ⟨p, 0, none⟩), .int .i64 l.k, .int .i64 l.e, .int .i64 l.a, .int .i64 l.b, .int .i64 l.c, .int .i64 l.eo, .int .i64 l.bo, .int .i64 l.s, .int .i64 l.g, .int .i64 (off : Int)] 109)

set_option maxRecDepth 100000 in
set_option maxHeartbeats 4000000 in
theorem cells_each (n : Nat) (h1 : 1 ≤ n) (p Bg : Nat) (l : Lay) (off : Nat) (ho : fitsI (off : Int)) (hn : fitsI l.g) (c0 : Nat → GC) :
    SeqTied n 129 #[.pointer (some ⟨Bg, 0, none⟩)] (fun x : Nat × GC => #[.int .i64 (x.1 : Int), x.2.val]) GxC NxC ExC (RxC p Bg l off) (0, c0) := by
  intro lp J Jx W hJk hJR hY hJ0
  have hro : Fence.wide.round = none := rfl
  refine callsIn_of_wp Tryz.func129 rfl trivial ?_ hro
  simp only [Tryz.ntmps129, List.size_toArray, List.length_cons, List.length_nil, Nat.reduceAdd, Nat.reduceSub, Array.replicate_succ, Array.replicate_zero, List.push_toArray, List.append_toArray, List.nil_append, List.cons_append]
  gi_wp2_with fail
  gi_loopw [6] (fun v6 wr => ∃ (k : Nat) (s : Nat × (Nat → GC)), v6 = .int .i64 (k : Int) ∧ k ≤ 8 ∧ J s wr ∧ s.1 ≤ k ∧ ∀ j, s.1 ≤ j → j < k → (s.2 j).kind ≠ 2) (fun v6 _ => 8 - (intOf v6).toNat)
  case atStart => exact ⟨0, (0, c0), rfl, Nat.zero_le _, hJ0, Nat.le_refl _, fun j h1 h2 => by omega⟩
  case round =>
    clear hJ0
    obtain ⟨k, s, rfl, hk, hJ, hsk, hno⟩ := hrel
    by_cases h8 : k < 8
    · have h8' : (k : Int) < 8 := by omega
      obtain ⟨⟨F, d, hA, hF, hG⟩, hB⟩ := hJR s wr hJ
      have hCe := cell_any hA hF l (off : Int) (k : Int) ho hn
      rw [hG.cell h8] at hCe
      obtain ⟨e0, e1, e2, e3, e4, e5, e6, e7, e8, e9, e10⟩ := c11_of hB
      have HN := hide hno
      have HJ := hide hJ
      clear hno hA hF hG hB hJR hJ
      have hx0 : ∃ x, s.2 k = x := ⟨_, rfl⟩
      obtain ⟨⟨kd, tg, ky, el, bi⟩, hx⟩ := hx0
      rw [hx] at hCe
      unfold CellPost GC.val at hCe
      have HX := hide hx
      clear hx
      by_cases h2 : kd = 2
      · subst h2
        have hYk := fun V hV hg => hY (k, ⟨2, tg, ky, el, bi⟩) s V hV hg
        have HG : Hid (GxC (k, ⟨2, tg, ky, el, bi⟩) s) := hide ⟨hsk, h8, HX.out.symm, rfl, HN.out⟩
        clear hY
        gi_wp2_with fail
        refine ⟨trivial, (callsIn_wide.2 hCe).mono ?_⟩
        rintro e W2 ⟨rfl, k2⟩
        have HJ2 := hide (hJk _ _ _ HJ.out (k2.alloc (.cells #[.int .i64 2, .int .i64 tg, .string ky, .string el, .int .i64 bi] 83)))
        clear HJ hCe e0 e1 e2 e3 e4 e5 e6 e7 e8 e9 e10
        obtain ⟨fn, tmps, assign, body, hy, hRd⟩ := hYk _ HJ2.out HG.out
        simp only [GC.val] at hy
        clear hYk HG HJ2
        gi_wp2_with fail
        refine hRd.mono ?_
        rintro e W4 (⟨rfl, s', hN', hJ4⟩ | ⟨rfl, hJx4⟩)
        · have HJ4 := hide hJ4
          have HN' : Hid (s'.1 = k + 1) := hide hN'
          clear hRd hy hJ4 hN' k2
          gi_wp2_with fail
          refine ⟨⟨k + 1, s', rfl, by omega, HJ4.out, by rw [HN'.out]; exact Nat.le_refl _, fun j q1 q2 => by rw [HN'.out] at q1; omega⟩, ?_⟩
          simp only [intOf]
          omega
        · have HX4 := hide hJx4
          clear hRd hy hJx4 k2
          gi_wp2_with fail
          refine bodyPost_ret (results_none rfl _ _ _) rfl ?_
          exact ⟨⟨_, rfl⟩, .inr HX4.out⟩
      · have h2' : (kd == 2) = false := by simp [h2]
        have h2'' : decide (kd = 2) = false := by simp [h2]
        gi_wp2_with fail
        refine ⟨trivial, (callsIn_wide.2 hCe).mono ?_⟩
        rintro e W2 ⟨rfl, k2⟩
        have HJ2 := hide (hJk _ _ _ HJ.out (k2.alloc (.cells #[.int .i64 kd, .int .i64 tg, .string ky, .string el, .int .i64 bi] 83)))
        clear HJ hCe e0 e1 e2 e3 e4 e5 e6 e7 e8 e9 e10 hY
        gi_wp2_with fail
        refine ⟨fun f hf => (nomatch hf), ?_⟩
        gi_wp2_with fail
        refine ⟨⟨k + 1, s, rfl, by omega, HJ2.out, by omega, fun j q1 q2 => ?_⟩, ?_⟩
        · by_cases e : j = k
          · rw [e, HX.out]
            exact h2
          · exact HN.out j q1 (by omega)
        · simp only [intOf]
          omega
    · obtain rfl : k = 8 := by omega
      have HE : Hid (ExC s) := hide hno
      have HJ := hide hJ
      clear hno hJ
      gi_wp2_with fail
      go_end0
      exact ⟨⟨_, rfl⟩, .inl ⟨s, HE.out, HJ.out⟩⟩
end Go.Proofs.YtmdnknbolgedgaaGreatDoor
