/-
  The table's groups, as an iterator that keeps the header across its yields.
-/
import Derived.Test.YtmdnknbolgedgaaGreatDoorHTT3
import Derived.Test.YtmdnknbolgedgaaGreatDoorUn20
import Derived.Test.YtmdnknbolgedgaaGreatDoorHT18
namespace Go.Proofs.YtmdnknbolgedgaaGreatDoor
open Go.RowKit Go.Shelf Ly Ct
set_option linter.unusedVariables false
attribute [local go_sem] Oper.semAt_some

theorem groups_call (p : Nat) (l : Lay) (off : Int) (w : World) :
    Calls Tryz.prog 96 #[.agg #[.pointer (some ⟨p, 0, none⟩), .int .i64 l.k, .int .i64 l.e, .int .i64 l.a, .int .i64 l.b, .int .i64 l.c, .int .i64 l.eo, .int .i64 l.bo, .int .i64 l.s, .int .i64 l.g, .int .i64 off]] w fun e w' => e = .returned (.func (.func 128) #[] #[.pointer (some ⟨w.heap.size, 0, none⟩)]) ∧ w' = w.alloc (.cells #[.pointer (some ⟨p, 0, none⟩), .int .i64 l.k, .int .i64 l.e, .int .i64 l.a, .int .i64 l.b, .int .i64 l.c, .int .i64 l.eo, .int .i64 l.bo, .int .i64 l.s, .int .i64 l.g, .int .i64 off] 36) := by
  go_enter Tryz.func96, Tryz.ntmps96
  go_wp2
  go_ret
  exact ⟨rfl, rfl⟩
/-- What a range over the groups needs of the world. -/
def RxG (p Bt : Nat) (l : Lay) (off gr G : Nat) (V : World) : Prop := (∃ F d f c, Arena V p F d ∧ d.Fine ∧ TabD d l off gr G f c ∧ f 4 = ((8 * G : Nat) : Int) ∧ f 7 = (gr : Int)) ∧ V.heap[Bt]? = some (.cells #[.pointer (some ⟨p, 0, none⟩), .int .i64 l.k, .int .i64 l.e, .int .i64 l.a, .int .i64 l.b, .int .i64 l.c, .int .i64 l.eo, .int .i64 l.bo, .int .i64 l.s, .int .i64 l.g, .int .i64 (off : Int)] 36)
theorem most_pow {k : Nat} (hk : k ≤ 13) : Pb.mostN ((8 * 2 ^ k : Nat) : Int) = 7 * ((2 ^ k : Nat) : Int) := by
  unfold Pb.mostN
  rw [Pb.pwS_yes k (by omega)]
  simp only [if_true]
  omega

theorem wi8 {i G : Nat} (h : i ≤ G) (h2 : G ≤ 8192) : wrap64 ((i : Int) + 1) = (i : Int) + 1 ∧ IntKind.i64.wrap ((i : Int) + 1) = (i : Int) + 1 := by
  constructor
  · unfold wrap64; omega
  · rw [IntKind.wrap_i64]; omega
theorem g8_facts {G : Nat} (h1 : 0 < G) (h2 : G ≤ 8192) : ((8 * G : Nat) : Int).tdiv 8 = (G : Int) ∧ IntKind.i64.wrap (G : Int) = (G : Int) ∧ wrap64 (G : Int) = (G : Int) ∧ (7 * (G : Int) == 0) = false := by
  refine ⟨?_, ?_, ?_, beq_eq_false_iff_ne.2 (by omega)⟩
  · rw [Int.tdiv_eq_ediv_of_nonneg (by omega)]
    omega
  · rw [IntKind.wrap_i64]
    omega
  · unfold wrap64
    omega
set_option maxRecDepth 100000 in
set_option maxHeartbeats 4000000 in
theorem groups_each (n : Nat) (hn : 1 ≤ n) (p Bt : Nat) (l : Lay) (off gr G k : Nat) (hk : k ≤ 13) (hG : G = 2 ^ k) :
    SeqStay 64 n 128 #[.pointer (some ⟨Bt, 0, none⟩)] (fun x : Nat => #[.int .i64 (x : Int), .agg #[.pointer (some ⟨p, 0, none⟩), .int .i64 l.k, .int .i64 l.e, .int .i64 l.a, .int .i64 l.b, .int .i64 l.c, .int .i64 l.eo, .int .i64 l.bo, .int .i64 l.s, .int .i64 l.g, .int .i64 (((gr + x * l.g.toNat : Nat)) : Int)]]) (fun x s => s < G ∧ x = s) (fun _ s s' => s' = s + 1) (fun s : Nat => s = G) (fun _ V => RxG p Bt l off gr G V) 0 := by
  have hm7 : Pb.mostN ((8 * G : Nat) : Int) = 7 * (G : Int) := by rw [hG]; exact most_pow hk
  clear hG hk
  intro lp J Jx W hJk hJR hY hJ0
  have hro : Fence.wide.round = none := rfl
  obtain ⟨⟨F, d, f, c, hA, hF, hD, h4, h7⟩, hB⟩ := hJR _ _ hJ0
  have hSt := tstat_tab hA hF hD
  unfold statV at hSt
  rw [h4, h7] at hSt
  have hG1 := hD.pos
  have hG2 := hD.few
  have ho := hD.off_le hF
  have hvm := valid_more hD.valid
  have hg30 : 0 ≤ l.g ∧ l.g ≤ 3000 := by omega
  have hgr2 : (gr : Int) ≤ 134217728 := by omega
  have hMo := fun W => Pb.most_any ((8 * G : Nat) : Int) W
  rw [hm7] at hMo
  have hGr : Hid (∀ (i : Nat) (W : World), i < G → Calls Tryz.prog 69 #[.agg #[.pointer (some ⟨p, 0, none⟩), .int .i64 l.k, .int .i64 l.e, .int .i64 l.a, .int .i64 l.b, .int .i64 l.c, .int .i64 l.eo, .int .i64 l.bo, .int .i64 l.s, .int .i64 l.g, .int .i64 (off : Int)], .int .i64 (gr : Int), .int .i64 (i : Int)] W fun e w' => e = .returned (.agg #[.pointer (some ⟨p, 0, none⟩), .int .i64 l.k, .int .i64 l.e, .int .i64 l.a, .int .i64 l.b, .int .i64 l.c, .int .i64 l.eo, .int .i64 l.bo, .int .i64 l.s, .int .i64 l.g, .int .i64 (((gr + i * l.g.toNat : Nat)) : Int)]) ∧ Keeps W w' (fun _ => False)) := fun i W hi => by
    have ey : (gr : Int) + (i : Int) * l.g = (((gr + i * l.g.toNat : Nat)) : Int) := by rw [Int.natCast_add, Int.natCast_mul, Int.toNat_of_nonneg hg30.1]
    have := tgroup_any p l (off : Int) (gr : Int) (i : Int) W (Int.natCast_nonneg _) hgr2 (Int.natCast_nonneg _) (by clear hSt hMo hm7 ey; omega) hg30.1 hg30.2
    rw [ey] at this
    exact this
  obtain ⟨hd8, hw1, hw2, h70⟩ := g8_facts hG1 hG2
  generalize 7 * (G : Int) = G7 at *
  generalize hS8 : ((8 * G : Nat) : Int) = S8 at hSt hMo hd8
  clear hS8 hm7 h4 h7 hA hF hD ho hvm hg30 hgr2
  generalize f 3 = f3 at hSt
  generalize f 5 = f5 at hSt
  generalize f 6 = f6 at hSt
  generalize f 1 = f1 at hSt
  generalize f 2 = f2 at hSt
  generalize (f 0 == 4) = f0 at hSt
  clear d f c F
  obtain ⟨c0, c1, c2, c3, c4, c5, c6, c7, c8, c9, c10⟩ := c11_of hB
  refine callsIn_of_wp Tryz.func128 rfl trivial ?_ hro
  simp only [Tryz.ntmps128, List.size_toArray, List.length_cons, List.length_nil, Nat.reduceAdd, Nat.reduceSub, Array.replicate_succ, Array.replicate_zero, List.push_toArray, List.append_toArray, List.nil_append, List.cons_append]
  gi_wp2_with fail
  refine ⟨trivial, (callsIn_wide.2 hSt).mono ?_⟩
  rintro e W1 ⟨rfl, k1⟩
  have k2 := k1.alloc (.cells #[.int .i64 f3, .int .i64 S8, .int .i64 f5, .int .i64 f6, .int .i64 f1, .int .i64 f2, .bool f0, .int .i64 (gr : Int)] 64)
  have hb2 := heap_alloc_new W1 (.cells #[.int .i64 f3, .int .i64 S8, .int .i64 f5, .int .i64 f6, .int .i64 f1, .int .i64 f2, .bool f0, .int .i64 (gr : Int)] 64)
  have HJ2 := hide (hJk _ _ _ hJ0 k2)
  clear c0 c1 c2 c3 c4 c5 c6 c7 c8 c9 c10 hSt hB k1 k2 hJ0
  gi_wp2_with fail
  refine ⟨trivial, (callsIn_wide.2 (hMo _)).mono ?_⟩
  rintro e W2 ⟨rfl, hw⟩
  rw [hw]
  clear hw W2
  generalize W1.alloc (.cells #[.int .i64 f3, .int .i64 S8, .int .i64 f5, .int .i64 f6, .int .i64 f1, .int .i64 f2, .bool f0, .int .i64 (gr : Int)] 64) = W3 at *
  generalize W1.heap.size = B3 at *
  have a1 : W3.cell? ⟨B3, 1, none⟩ = some (.int .i64 S8) := (st8_cells hb2).1.2.1
  gi_wp2_with fail
  clear a1 hMo h70 hd8 hw1 hw2
  gi_loopg [22] G (fun gm v22 wr => ∃ i : Nat, gm = G - i ∧ i ≤ G ∧ v22 = .int .i64 (i : Int) ∧ Hid (J i wr) ∧ wr.heap[B3]? = some (.cells #[.int .i64 f3, .int .i64 S8, .int .i64 f5, .int .i64 f6, .int .i64 f1, .int .i64 f2, .bool f0, .int .i64 (gr : Int)] 64))
  case atStart => exact ⟨0, rfl, Nat.zero_le _, rfl, HJ2, hb2⟩
  case round =>
    clear HJ2 hb2
    obtain ⟨i, rfl, hi, rfl, hJ, hb⟩ := hrel
    by_cases hlt : i < G
    · have hlt' : (i : Int) < (G : Int) := by omega
      obtain ⟨-, hB⟩ := hJR _ _ hJ.out
      obtain ⟨c0, c1, c2, c3, c4, c5, c6, c7, c8, c9, c10⟩ := c11_of hB
      have b7 : wr.cell? ⟨B3, 7, none⟩ = some (.int .i64 (gr : Int)) := (st8_cells hb).1.2.2.2.2.2.2.2
      have hg := hGr.out i wr hlt
      obtain ⟨wi1, wi2⟩ := wi8 hi hG2
      have Hb := hide hb
      have HY := hide hY
      have HJR := hide hJR
      have HYi := hide (fun (V : World) (h : J i V) => HY.out i i V h ⟨hlt, rfl⟩)
      clear hb hB hY hJR HY
      generalize (((gr + i * l.g.toNat : Nat)) : Int) = Z at hg HYi
      gi_wp2_with fail
      refine ⟨trivial, (callsIn_wide.2 hg).mono ?_⟩
      rintro e W5 ⟨rfl, k5⟩
      obtain ⟨fn, tmps, assign, body, hy, hRd⟩ := HYi.out W5 (hJk _ _ _ hJ.out k5)
      have hb5 := hide (k5.blk Hb.out)
      clear c0 c1 c2 c3 c4 c5 c6 c7 c8 c9 c10 b7 hg Hb hJ k5 HYi
      gi_wp2
      refine hRd.mono ?_
      rintro e W6 ⟨hst, hyy⟩
      have hb6 := hst _ _ _ hb5.out
      rcases hyy with ⟨rfl, s', hN', hJ6⟩ | ⟨rfl, hJx⟩
      · have HJ := hide hJ6
        have HN' := hide hN'
        clear hJ6 hN' hRd hy hst hb5
        gi_wp2_with fail
        gi_roundg (G - (i + 1))
        case measure => omega
        case rel => exact ⟨i + 1, rfl, by omega, rfl, HN'.out ▸ HJ, hb6⟩
      · have HX := hide hJx
        clear hJx hRd hy hst hb5 hb6
        gi_wp2
        refine bodyPost_ret (results_none rfl _ _ _) rfl ?_
        exact ⟨⟨_, rfl⟩, .inr HX.out⟩
    · obtain rfl : i = G := by omega
      have hlt' : ¬ (i : Int) < (i : Int) := by omega
      clear hY hJR
      gi_wp2_with fail
      go_end0
      exact ⟨⟨_, rfl⟩, .inl hJ.out⟩
end Go.Proofs.YtmdnknbolgedgaaGreatDoor
