/-
  full, walked.
-/
import Derived.Test.YtmdnknbolgedgaaGreatDoorHT21
import Derived.OwnWalkIn
import Derived.TacticsInMore
namespace Go.Proofs.YtmdnknbolgedgaaGreatDoor
open Go.RowKit Go.Shelf Ly Ct
set_option linter.unusedVariables false
attribute [local go_sem] Oper.semAt_some

theorem HB.putD {w0 V : World} {Bl : Nat} {v : Value} {hs : List (Nat × GC)} (h : HB w0 V Bl v hs) {l : Nat} {r : Option (List Deferred)} (hl : V.heap[l]? = some (.deferred r)) (hw : w0.heap.size ≤ l) (o : Obj) : HB w0 (V.putObj l o) Bl v hs := by
  have ne : Bl ≠ l := fun e => by
    have := h.box
    rw [e, hl] at this
    cases this
  refine ⟨(World.putObj_heap_other ne).trans h.box, row_kept8 h.row (fun q hq => World.putObj_heap_other (fun e => ?_)), h.k.put hw o, h.lb⟩
  rcases h.row.2 with ⟨rfl, -⟩ | ⟨g, cap, cur, rfl, -, hg, -⟩
  · cases hq
  · have eg : g = q := by simpa [Value.ownBlock] using hq
    rw [eg, e, hl] at hg
    cases hg
theorem w8_facts {s n G : Nat} (h : s < G) (h2 : G ≤ 8192) (hn : n < 8) : IntKind.i64.wrap ((s : Int) * 8) = (s : Int) * 8 ∧ wrap64 ((s : Int) * 8) = (s : Int) * 8 ∧ IntKind.i64.wrap ((s : Int) * 8 + (n : Int)) = ((8 * s + n : Nat) : Int) ∧ wrap64 ((s : Int) * 8 + (n : Int)) = ((8 * s + n : Nat) : Int) := by
  refine ⟨?_, ?_, ?_, ?_⟩
  · rw [IntKind.wrap_i64]; omega
  · unfold wrap64; omega
  · rw [IntKind.wrap_i64]; omega
  · unfold wrap64; omega
set_option maxRecDepth 100000 in
set_option maxHeartbeats 4000000 in
theorem tfull_any {w : World} {p : Nat} {F : Nat → Prop} {d : AD} {l : Lay} {off gr G k : Nat} {f : Nat → Int} {c : Nat → GC} (hA : Arena w p F d) (hF : d.Fine) (hD : TabD d l off gr G f c) (h4 : f 4 = ((8 * G : Nat) : Int)) (h7 : f 7 = (gr : Int)) (hk : k ≤ 13) (hG : G = 2 ^ k) :
    Calls Tryz.prog 61 #[.agg #[.pointer (some ⟨p, 0, none⟩), .int .i64 l.k, .int .i64 l.e, .int .i64 l.a, .int .i64 l.b, .int .i64 l.c, .int .i64 l.eo, .int .i64 l.bo, .int .i64 l.s, .int .i64 l.g, .int .i64 (off : Int)]] w fun e w' => ∃ v, e = .returned v ∧ w'.ownsRow w.heap.size 130 6 v (fullL c (8 * G)).length (heldL (fullL c (8 * G))) ∧ Keeps w w' (fun _ => False) := by
  have hGC := fun W => groups_call p l (off : Int) W
  have hOT := groups_each 7 (by omega) p (w.heap.size + 1 + 1) l off gr G k hk hG
  have HA := hide hA
  have HF := hide hF
  have HD := hide hD
  have H4 := hide h4
  have H7 := hide h7
  have HG := hide hG
  clear hA hF hD h4 h7 hG
  refine (callsIn_wide (n := 8)).1 ?_
  refine callsIn_of_wp_marks Tryz.func61 rfl trivial ?_ rfl
  simp only [Tryz.ntmps61, List.size_toArray, List.length_cons, List.length_nil, Nat.reduceAdd, Nat.reduceSub, Array.replicate_succ, Array.replicate_zero, List.push_toArray, List.append_toArray, List.nil_append, List.cons_append]
  rw [wpIn_wide]
  go_wp2_with fail
  (with_reducible refine (hGC _).mono ?_)
  rintro r w7 ⟨rfl, hw7⟩
  have hz : ((w.alloc (.cells #[.pointer (some ⟨p, 0, none⟩), .int .i64 l.k, .int .i64 l.e, .int .i64 l.a, .int .i64 l.b, .int .i64 l.c, .int .i64 l.eo, .int .i64 l.bo, .int .i64 l.s, .int .i64 l.g, .int .i64 (off : Int)] 36)).alloc (.cells #[.slice none 0 0] 127)).heap.size = w.heap.size + 1 + 1 := by simp
  rw [hz]
  have k2 : Keeps w ((w.alloc (.cells #[.pointer (some ⟨p, 0, none⟩), .int .i64 l.k, .int .i64 l.e, .int .i64 l.a, .int .i64 l.b, .int .i64 l.c, .int .i64 l.eo, .int .i64 l.bo, .int .i64 l.s, .int .i64 l.g, .int .i64 (off : Int)] 36)).alloc (.cells #[.slice none 0 0] 127)) (fun _ => False) := ((Keeps.refl _ _).alloc _).alloc _
  have hl2 := heap_alloc_new (w.alloc (.cells #[.pointer (some ⟨p, 0, none⟩), .int .i64 l.k, .int .i64 l.e, .int .i64 l.a, .int .i64 l.b, .int .i64 l.c, .int .i64 l.eo, .int .i64 l.bo, .int .i64 l.s, .int .i64 l.g, .int .i64 (off : Int)] 36)) (.cells #[.slice none 0 0] 127)
  rw [World.size_alloc] at hl2
  generalize (w.alloc (.cells #[.pointer (some ⟨p, 0, none⟩), .int .i64 l.k, .int .i64 l.e, .int .i64 l.a, .int .i64 l.b, .int .i64 l.c, .int .i64 l.eo, .int .i64 l.bo, .int .i64 l.s, .int .i64 l.g, .int .i64 (off : Int)] 36)).alloc (.cells #[.slice none 0 0] 127) = w2 at *
  have k27 : Keeps w2 w7 (fun _ => False) := by rw [hw7]; exact (Keeps.refl _ _).alloc _
  have hb7 : w7.heap[w.heap.size + 1 + 1]? = some (.cells #[.pointer (some ⟨p, 0, none⟩), .int .i64 l.k, .int .i64 l.e, .int .i64 l.a, .int .i64 l.b, .int .i64 l.c, .int .i64 l.eo, .int .i64 l.bo, .int .i64 l.s, .int .i64 l.g, .int .i64 (off : Int)] 36) := by rw [hw7, ← hz]; exact heap_alloc_new _ _
  have K7 := k2.trans k27 (fun _ _ e => e)
  have hHB7 : HB w w7 (w.heap.size + 1) (.slice none 0 0) [] := ⟨k27.blk hl2, ⟨rfl, .inl ⟨rfl, rfl⟩⟩, K7, by omega⟩
  have hN : Aside (w7.heap.size = w.heap.size + 1 + 1 + 1) := by
    show w7.heap.size = w.heap.size + 1 + 1 + 1
    rw [hw7, World.size_alloc, hz]
  clear hw7 k27 hl2 k2 hz hGC w2
  go_wp2_with fail
  rename_i Q9 KX hKX
  rw [← wpIn_wide (n := 8)]
  refine range_stay (n := 8) (by omega) (gf := 128) (lb := #[.pointer (some ⟨w.heap.size + 1 + 1, 0, none⟩)]) ?hop (enters_of Tryz.func128 (by kernel_rfl) rfl) hOT (fun _ => rfl)
    (fun a x a' V => ∃ b4 b5, a' = { tmps := (((a.tmps.setIfInBounds 10 (.int .i64 (x : Int))).setIfInBounds 11 (.agg #[.pointer (some ⟨p, 0, none⟩), .int .i64 l.k, .int .i64 l.e, .int .i64 l.a, .int .i64 l.b, .int .i64 l.c, .int .i64 l.eo, .int .i64 l.bo, .int .i64 l.s, .int .i64 l.g, .int .i64 (((gr + x * l.g.toNat : Nat)) : Int)])).setIfInBounds 4 (.pointer (some ⟨b4, 0, none⟩))).setIfInBounds 5 (.pointer (some ⟨b5, 0, none⟩)), defers := [] } ∧ V.heap[b4]? = some (.cells #[.int .i64 (x : Int)] 3) ∧ V.heap[b5]? = some (.cells #[.pointer (some ⟨p, 0, none⟩), .int .i64 l.k, .int .i64 l.e, .int .i64 l.a, .int .i64 l.b, .int .i64 l.c, .int .i64 l.eo, .int .i64 l.bo, .int .i64 l.s, .int .i64 l.g, .int .i64 (((gr + x * l.g.toNat : Nat)) : Int)] 109))
    ?hAx
    (fun s V => s ≤ G ∧ (∃ v, HB w V (w.heap.size + 1) v (fullL c (8 * s))) ∧ V.heap[w.heap.size + 1 + 1]? = some (.cells #[.pointer (some ⟨p, 0, none⟩), .int .i64 l.k, .int .i64 l.e, .int .i64 l.a, .int .i64 l.b, .int .i64 l.c, .int .i64 l.eo, .int .i64 l.bo, .int .i64 l.s, .int .i64 l.g, .int .i64 (off : Int)] 36) ∧ V.heap[w7.heap.size]? = some (.deferred (some [])))
    (fun c' V => False)
    ?hR ?hI ?hIp ?hXp ?h0 ?hassign ?hbody ?hdone ?hstop
  case hop => rfl
  case hAx =>
    rintro x a' V r o ⟨b4, b5, e1, e2, e3⟩ hL
    refine ⟨b4, b5, e1, putBlk e2 (fun e => ?_), putBlk e3 (fun e => ?_)⟩
    · rw [e, hL] at e2
      cases e2
    · rw [e, hL] at e3
      cases e3
  case hR =>
    rintro s V ⟨-, ⟨v, h⟩, hb, -⟩
    exact ⟨⟨F, d, f, c, HA.out.keeps h.k (fun _ _ _ e => e), HF.out, HD.out, H4.out, H7.out⟩, hb⟩
  case hI =>
    rintro s V V' ⟨h1, ⟨v, h2⟩, h3, h4⟩ kk
    exact ⟨h1, ⟨v, h2.stay kk⟩, kk.blk h3, kk.blk h4⟩
  case hIp =>
    rintro s V r o ⟨h1, ⟨v, h2⟩, h3, h4⟩ hL
    have := hN.out
    exact ⟨h1, ⟨v, h2.put hL (by omega) o⟩, putBlk h3 (by omega), putBlk h4 (by omega)⟩
  case hXp =>
    rintro c V r o h hL
    exact h
  case h0 =>
    intro r
    have kk : Keeps w7 ((w7.alloc (.deferred (some []))).alloc (.loop r)) (fun _ => False) := ((Keeps.refl _ _).alloc _).alloc _
    exact ⟨Nat.zero_le _, ⟨_, hHB7.stay kk⟩, kk.blk hb7, ((Keeps.refl (w7.alloc (.deferred (some []))) (fun _ => False)).alloc _).blk (World.alloc_heap_new w7 _)⟩
  case hstop =>
    rintro c' V h
    exact h.elim
  case hassign =>
    rintro x s V K' hI' hK'
    have hK2 := hide hK'
    clear hK' hI' hOT
    generalize (((gr + x * l.g.toNat : Nat)) : Int) = y at *
    gi_wp2_with fail
    refine hK2.out _ _ (((Keeps.refl _ _).alloc _).alloc _) ⟨V.heap.size, V.heap.size + 1, ?_, ((Keeps.refl (V.alloc _) (fun _ => False)).alloc _).blk (heap_alloc_new V _), ?_⟩
    · simp only [List.setIfInBounds_toArray, List.set_cons_zero, List.set_cons_succ]
    · rw [← World.size_alloc V (.cells #[.int .i64 (x : Int)] 3)]
      exact heap_alloc_new _ _
  case hdone =>
    rintro s V rfl ⟨h1, ⟨v, h2⟩, h3, -⟩ hDf
    have hcell := (Ct.one_cell h2.box).1
    have hn := hN.out
    have HP := hide (h2.putD hDf (by omega) (.deferred none))
    clear hOT hb7 hHB7 h3 hN hn
    have H2 := hide h2
    clear h2
    show KX _ _
    refine hKX _ _ ?_
    go_wp2_with fail
    refine ⟨by simp, .inl ⟨_, _, rfl, run_takeDeferred hDf, ?_⟩⟩
    exact ⟨_, by simp [results, Tryz.results61, go_sem], v, rfl, HP.out.row, HP.out.k⟩
  case hbody =>
    rintro x s a' X ⟨r, hl⟩ ⟨hs, ⟨v, hB⟩, hbt, hdf⟩ ⟨b4, b5, rfl, hb4, hb5⟩ ⟨hsG, hxs⟩
    obtain rfl : s = x := hxs.symm
    have hGA : GroupAt d l (gr + s * l.g.toNat) (fun j => c (8 * s + j)) := HD.out.grp s hsG
    have hfew := HD.out.few
    have hgl := HD.out.glen
    have hin := HD.out.in hsG
    have hmo := HF.out.most
    have hvm := valid_more HD.out.valid
    have hfg : fitsI l.g := fitsI_mk (by omega) (by omega)
    have hfo : fitsI (((gr + s * l.g.toNat : Nat)) : Int) := fitsI_mk (by omega) (by omega)
    have hSq := cells_each 5 (by omega) p X.heap.size l (gr + s * l.g.toNat) hfo hfg (fun j => c (8 * s + j))
    unfold RxC at hSq
    obtain ⟨y, hy⟩ : ∃ y, (((gr + s * l.g.toNat : Nat)) : Int) = y := ⟨_, rfl⟩
    rw [hy] at hb5 hSq ⊢
    have hCC := fun W => cells_call p l y W
    obtain ⟨e0, e1, e2, e3, e4, e5, e6, e7, e8, e9, e10⟩ := c11_of hb5
    have HSq := hide hSq
    have HGA := hide hGA
    clear hOT hSq hfo hfg hy hin hgl hmo hvm hGA hb5
    dsimp only
    simp only [List.setIfInBounds_toArray, List.set_cons_zero, List.set_cons_succ]
    gi_wp2_with fail
    refine ⟨trivial, (CallsIn.inRound (w7.heap.size + 1) (callsIn_wide.2 (hCC _))).mono ?_⟩
    rintro e X5 ⟨rfl, hX5⟩
    have kX5 : Keeps X X5 (fun _ => False) := by rw [hX5]; exact (Keeps.refl _ _).alloc _
    have hbg : X5.heap[X.heap.size]? = some (.cells #[.pointer (some ⟨p, 0, none⟩), .int .i64 l.k, .int .i64 l.e, .int .i64 l.a, .int .i64 l.b, .int .i64 l.c, .int .i64 l.eo, .int .i64 l.bo, .int .i64 l.s, .int .i64 l.g, .int .i64 y] 109) := by rw [hX5]; exact heap_alloc_new _ _
    have hB5 := hB.stay kX5
    have hl5 := kX5.blk hl
    have hb45 := kX5.blk hb4
    have hlt5 := heap_lt hB.box
    clear hX5 hCC e0 e1 e2 e3 e4 e5 e6 e7 e8 e9 e10
    gi_wp2_with fail
    refine range_tiedN (n := 6) (l0 := w7.heap.size + 1) hl5 (by omega) (gf := 129) (lb := #[.pointer (some ⟨X.heap.size, 0, none⟩)]) ?hop2 (enters_of Tryz.func129 (by kernel_rfl) rfl) HSq.out (fun _ => rfl)
      (fun a x a' V => ∃ b7, a' = { tmps := (((a.tmps.setIfInBounds 14 (.int .i64 (x.1 : Int))).setIfInBounds 15 x.2.val).setIfInBounds 6 (.int .i64 (x.1 : Int))).setIfInBounds 7 (.pointer (some ⟨b7, 0, none⟩)), defers := [] } ∧ V.heap[b7]? = some (.cells #[.int .i64 x.2.kind, .int .i64 x.2.tag, .string x.2.key, .string x.2.elem, .int .i64 x.2.birth] 83))
      ?hAx2
      (fun t V => t.1 ≤ 8 ∧ t.2 = (fun j => c (8 * s + j)) ∧ (∃ v, HB w V (w.heap.size + 1) v (fullL c (8 * s + t.1))) ∧ HKx (w.heap.size + 1) X5 V)
      (fun _ _ => False)
      ?hR2 ?hI2 ?hIp2 ?hXp2 ?h02 ?hassign2 ?hbody2 ?hdone2 ?hstop2
    case hop2 => rfl
    case hAx2 =>
      rintro x a' V r o ⟨b7, e1, e2⟩ hL
      refine ⟨b7, e1, putBlk e2 (fun e => ?_)⟩
      rw [e, hL] at e2
      cases e2
    case hR2 =>
      rintro ⟨t1, t2⟩ V ⟨-, e, ⟨v, h⟩, hk⟩
      dsimp only at e
      subst e
      exact ⟨⟨F, d, HA.out.keeps h.k (fun _ _ _ e => e), HF.out, HGA.out⟩, hk _ _ hbg (by omega) (fun cs fz e => by injection e with _ h2 _; exact absurd h2 (by decide))⟩
    case hI2 =>
      rintro t V V' ⟨h1, h2, ⟨v, h3⟩, h4⟩ kk
      exact ⟨h1, h2, ⟨v, h3.stay kk⟩, h4.trans (HKx.ofKeeps kk)⟩
    case hIp2 =>
      rintro t V r o ⟨h1, h2, ⟨v, h3⟩, h4⟩ hL
      exact ⟨h1, h2, ⟨v, h3.put hL (by have := hB5.k.size; omega) o⟩, h4.put (Nat.le_refl _) o⟩
    case hXp2 =>
      rintro c V r o h hL
      exact h
    case h02 =>
      intro r
      have kk : Keeps X5 (X5.alloc (.loop r)) (fun _ => False) := (Keeps.refl _ _).alloc _
      exact ⟨Nat.zero_le _, rfl, ⟨_, hB5.stay kk⟩, HKx.ofKeeps kk⟩
    case hstop2 =>
      rintro c' V h
      exact h.elim
    case hassign2 =>
      rintro ⟨i, ⟨kd, tg, ky, el, bi⟩⟩ t V K' hI' hK'
      have hK2 := hide hK'
      clear hK' hI'
      simp only [GC.val]
      gi_wp2_with fail
      refine hK2.out _ _ ((Keeps.refl _ _).alloc _) ⟨V.heap.size, ?_, heap_alloc_new _ _⟩
      simp only [GC.val, List.setIfInBounds_toArray, List.set_cons_zero, List.set_cons_succ]
    case hdone2 =>
      rintro ⟨t1, t2⟩ V hE ⟨h8, e, ⟨v', hBV⟩, hkV⟩
      dsimp only at e h8 hBV
      subst e
      have hXV : HKx (w.heap.size + 1) X V := (HKx.ofKeeps kX5).trans hkV
      have hn := hN.out
      have eL : fullL c (8 * (s + 1)) = fullL c (8 * s + t1) := fullL_skip c _ (by omega) (fun j q1 q2 => by
        have := hE (j - 8 * s) (by dsimp only; omega) (by omega)
        dsimp only at this
        rwa [show 8 * s + (j - 8 * s) = j by omega] at this)
      rw [← eL] at hBV
      refine ⟨HKx.stat hB.box hXV, ?_, s + 1, rfl, by omega, ⟨v', hBV⟩, hXV _ _ hbt (by omega) (fun cs fz e => by injection e with _ h2 _; exact absurd h2 (by decide)), hXV _ _ hdf (by omega) (fun _ _ e => by cases e)⟩
      rintro q (rfl | rfl)
      · exact (hXV _ _ hdf (by omega) (fun _ _ e => by cases e)).trans hdf.symm
      · exact (hXV _ _ hl (by omega) (fun _ _ e => by cases e)).trans hl.symm
    case hbody2 =>
      rintro ⟨n, ⟨kd, tg, ky, el, bi⟩⟩ ⟨t1, t2⟩ a' Y ⟨r', hl'⟩ ⟨h8, ht2, ⟨v', hBY⟩, hKY⟩ ⟨b7, rfl, hb7'⟩ ⟨q1, q2, q3, q4, q5⟩
      dsimp only at q1 q2 q3 q4 q5 h8 ht2 hBY hb7'
      subst ht2
      dsimp only at q3 q5
      have eL : fullL c (8 * s + n) = fullL c (8 * s + t1) := fullL_skip c _ (by omega) (fun j z1 z2 => by
        have := q5 (j - 8 * s) (by omega) (by omega)
        rwa [show 8 * s + (j - 8 * s) = j by omega] at this)
      rw [← eL] at hBY
      have eH : fullL c (8 * s + (n + 1)) = fullL c (8 * s + n) ++ [(8 * s + n, ⟨kd, tg, ky, el, bi⟩)] := by
        rw [← Nat.add_assoc, fullL_hit c (by rw [← q3]; exact q4), ← q3]
      obtain ⟨g, cap, V2, hap, hbx, hB2, k2⟩ := hBY.more (by have := fullL_len c (8 * s + n); omega) (8 * s + n) ⟨kd, tg, ky, el, bi⟩
      rw [← eH] at hB2
      have HK2 := hide (hKY.trans (HKx.more hBY k2 (.slice (some ⟨g, 0, none⟩) ((fullL c (8 * s + n)).length + 1) cap)))
      have HL2 := hide (HKx.more hBY k2 (.slice (some ⟨g, 0, none⟩) ((fullL c (8 * s + n)).length + 1) cap) _ _ hl' (by have := hB5.k.size; have := heap_lt hB5.box; omega) (fun _ _ e => by cases e))
      have c3 := (Ct.one_cell hBY.box).1
      have c4 := (Ct.one_cell (hKY _ _ hb45 (fun e => by rw [e, hB5.box] at hb45; injection Option.some.inj hb45 with _ h2 _; exact absurd h2 (by decide)) (fun cs fz e => by injection e with _ h2 _; exact absurd h2 (by decide)))).1
      obtain ⟨b0, b1, b2, b3, b4', -⟩ := five_cells hb7'
      obtain ⟨c9, f9⟩ := Ct.one_cell hbx
      obtain ⟨w1, w2, w3, w4⟩ := w8_facts hsG hfew q2
      have HB2 := hide hB2
      have Hl' := hide hl'
      dsimp only at hap
      generalize ((8 * s + n : Nat) : Int) = M at *
      clear hB2 hBY hKY hl' hbx k2 eL q3 q4 q5 hb7' HA HF HD H4 H7 HG HGA HSq hb4 hb45 hbg hB hB5 hbt hdf hl hl5 kX5 hHB7 hb7
      dsimp only
      simp only [GC.val, List.setIfInBounds_toArray, List.set_cons_zero, List.set_cons_succ]
      gi_wp2_with (first | (gi_at_builtin; have _t := hap; refine app_runIn8 _ rfl (.tmp 16) (.tmp 23) 127 rfl rfl rfl hap ?_; clear hap))
      exact ⟨HL2.out.trans Hl'.out.symm, (n + 1, _), rfl, by dsimp only; omega, rfl, ⟨_, HB2.out⟩, HK2.out⟩
end Go.Proofs.YtmdnknbolgedgaaGreatDoor
