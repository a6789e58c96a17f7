import Derived.Test.YtdnkjbbpfhegdaaGreatHRT4
namespace Go.Proofs.YtdnkjbbpfhegdaaGreat
namespace groupSteps
open Go.RowKit Go.Shelf Ly Ct
set_option linter.unusedVariables false

theorem four_three {w : World} {b : Nat} {v0 v1 v2 v3 : Value} {t : TypeId} (h : w.heap[b]? = some (.cells #[v0, v1, v2, v3] t)) : w.cell? ⟨b, 3, none⟩ = some v3 := by
  simp [World.cell?, h]

theorem putBlk {W : World} {l q : Nat} {o o' : Obj} (h : W.heap[q]? = some o') (hne : q ≠ l) : (W.putObj l o).heap[q]? = some o' :=
  ((grownBy_putObj' W l o).block q (Array.getElem?_eq_some_iff.1 h).1 (fun e => hne (by cases e; rfl))).trans h
theorem eq_nil_seq (W : World) (g : Nat) (x : Array Value) : (binOp .eql 53 (.func (.func g) #[] x) .nilFunc).run Tryz.prog W = .ok (.bool false) W := by
  kernel_rfl

attribute [local go_sem] Oper.semAt_some

set_option maxRecDepth 100000 in
set_option maxHeartbeats 16000000 in
theorem core (K E B : Int) (a : Option Addr) (cap : Nat) (ss : List SD) (a2 : Option Addr) (cap2 : Nat) (ms : List SD) (w : World) (hK : (Lit.int .i64 K).wf = true) (hE : (Lit.int .i64 E).wf = true) (hB : (Lit.int .i64 B).wf = true) (hS : RowS w a ss) (hNn : ss.length ≤ 140737488355328)
    (hM : RowS w a2 ms) (hMn : ms.length ≤ 140737488355328) :
    Calls Tryz.prog 4 #[.agg #[.int .i64 K, .int .i64 E, .int .i64 B, .slice a ss.length cap], .slice a2 ms.length cap2] w fun e w' => e = .returned (.bool true) ∧ Keeps w w' (fun _ => False) := by
  have hDk := fun V => desk_any K E B (.slice a ss.length cap) V hK hE hB
  have hv := desk_valid K E B
  have hg := desk_g K E B
  generalize deskL K E B = l at *
  have hvm := valid_more hv
  obtain ⟨off, hoff⟩ : ∃ off : Nat, 16 + l.g = (off : Int) := ⟨(16 + l.g).toNat, by omega⟩
  have hoff2 : 16 + l.g.toNat = off := by omega
  obtain ⟨en, hen⟩ : ∃ en, 16 + 3 * l.g = en := ⟨_, rfl⟩
  have ho : fitsI (off : Int) := fits_nat (by omega)
  have hn : fitsI l.g := fitsI_mk (by omega) (by omega)
  unfold DeskPost at hDk
  rw [hoff, hoff2, hen] at hDk
  clear hK hE hB hen hoff hoff2 hg hvm
  refine (callsIn_wide (n := 8)).1 ?_
  refine callsIn_of_wp_marks Tryz.func4 rfl trivial ?_ rfl
  simp only [Tryz.ntmps4, List.size_toArray, List.length_cons, List.length_nil, Nat.reduceAdd, Nat.reduceSub, Array.replicate_succ, Array.replicate_zero, List.push_toArray, List.append_toArray, List.nil_append, List.cons_append]
  rw [wpIn_wide]
  go_wp2_with fail
  refine alloc2 (P := fun W => Calls _ _ _ W _) fun V hb hm hz K0 => ?_
  refine (hDk _).mono ?_
  rintro e w1 ⟨p, d, rfl, hO, hD⟩
  clear hDk
  have hAD := AtX.of (AtDesk.make (en := en) hO hD)
  clear hO hD
  obtain ⟨e0, e1, e2, e3, e4, e5, e6, e7, e8, e9, e10, e11⟩ := n12_of hAD.blk
  go_wp2_with fail
  generalize w1.alloc _ = w2 at *
  obtain ⟨Bd, hBd⟩ : ∃ B, B = w1.heap.size := ⟨_, rfl⟩
  rw [← hBd] at hAD ⊢
  clear hBd
  refine (at_any p l (off : Int) _).mono ?_
  rintro e w3 ⟨rfl, k3⟩
  have k34 : Keeps w2 (w3.alloc (.cells #[.pointer (some ⟨p, 0, none⟩), .int .i64 l.k, .int .i64 l.e, .int .i64 l.a, .int .i64 l.b, .int .i64 l.c, .int .i64 l.eo, .int .i64 l.bo, .int .i64 l.s, .int .i64 l.g, .int .i64 (off : Int)] 46)) (fun _ => False) := k3.alloc _
  have hA4 := hAD.add k34 k3.size (by simp)
  have hG4 := heap_alloc_new w3 (.cells #[.pointer (some ⟨p, 0, none⟩), .int .i64 l.k, .int .i64 l.e, .int .i64 l.a, .int .i64 l.b, .int .i64 l.c, .int .i64 l.eo, .int .i64 l.bo, .int .i64 l.s, .int .i64 l.g, .int .i64 (off : Int)] 46)
  go_wp2_with fail
  generalize w3.alloc _ = w4 at *
  obtain ⟨Bgr, hBgr⟩ : ∃ B, B = w3.heap.size := ⟨_, rfl⟩
  rw [← hBgr] at hA4 hG4 ⊢
  have hS0 := hS.keeps K0
  have hM0 := hM.keeps K0
  have c30 := four_three hb
  have m0 := (Ct.one_cell hm).1
  have K0' := hide K0
  clear hBgr hS K0 hz hb hm hM hAD k3 k34 e0 e1 e2 e3 e4 e5 e6 e7 e8 e9 e10 e11
  go_loopw [8] (fun v8 wr => ∃ k : Nat, v8 = .int .i64 (k : Int) ∧ k ≤ ss.length ∧ Hid (∃ d c, AtX V wr p Bd (fun i => i = Bd ∨ i = Bgr) l off en d c ∧ wr.heap[Bgr]? = some (.cells #[.pointer (some ⟨p, 0, none⟩), .int .i64 l.k, .int .i64 l.e, .int .i64 l.a, .int .i64 l.b, .int .i64 l.c, .int .i64 l.eo, .int .i64 l.bo, .int .i64 l.s, .int .i64 l.g, .int .i64 (off : Int)] 46))) (fun v8 _ => ss.length - (intOf v8).toNat)
  case atStart => exact ⟨0, rfl, Nat.zero_le _, _, _, hA4, hG4⟩
  case round =>
    clear hA4 hG4
    obtain ⟨k, rfl, hk, hAD⟩ := hrel
    obtain ⟨d, c, hAD, hGr⟩ := hAD.out
    have c3 := hAD.own.keeps.cellK c30
    by_cases hlt : k < ss.length
    · have hlt' : (k : Int) < (ss.length : Int) := by omega
      obtain ⟨b, o, rfl, s0, s1, s2, s3, s4, ok⟩ := hS0 k hlt
      obtain ⟨ok1, ok2, ok3, ok4, ok5⟩ := ok
      generalize ss[k].k = sk at *
      generalize ss[k].i = si at *
      generalize ss[k].t = st at *
      generalize ss[k].b = sb at *
      generalize ss[k].x = sx at *
      have hX4 := hAD.stay ((Keeps.refl _ (fun _ => False)).drew)
      have hTk := take_any hX4.own.here (fun _ h => h.2) l off en c hX4.desk ho hn sk si st sb sx ok1 ok2 ok3 ok4 ok5
      have mkS : Hid (∀ w' X d c, AtX V w' p Bd X l off en d c → (w'.cell? ⟨Bd, 0, none⟩ = some (.pointer (some ⟨p, 0, none⟩)) ∧ w'.cell? ⟨Bd, 1, none⟩ = some (.int .i64 l.k) ∧ w'.cell? ⟨Bd, 2, none⟩ = some (.int .i64 l.e) ∧ w'.cell? ⟨Bd, 3, none⟩ = some (.int .i64 l.a) ∧ w'.cell? ⟨Bd, 4, none⟩ = some (.int .i64 l.b) ∧ w'.cell? ⟨Bd, 5, none⟩ = some (.int .i64 l.c) ∧ w'.cell? ⟨Bd, 6, none⟩ = some (.int .i64 l.eo) ∧ w'.cell? ⟨Bd, 7, none⟩ = some (.int .i64 l.bo) ∧ w'.cell? ⟨Bd, 8, none⟩ = some (.int .i64 l.s) ∧ w'.cell? ⟨Bd, 9, none⟩ = some (.int .i64 l.g) ∧ w'.cell? ⟨Bd, 10, none⟩ = some (.int .i64 (off : Int)) ∧ w'.cell? ⟨Bd, 11, none⟩ = some (.int .i64 en)) ∧ w'.cell? ⟨w.heap.size, 3, none⟩ = some (.slice (some ⟨b, o, none⟩) ss.length cap) ∧ w'.cell? ⟨b, o + k * 5, none⟩ = some (.int .i64 sk) ∧ w'.cell? ⟨b, o + k * 5 + 1, none⟩ = some (.int .i64 si) ∧ w'.cell? ⟨b, o + k * 5 + 2, none⟩ = some (.int .i64 st) ∧ w'.cell? ⟨b, o + k * 5 + 3, none⟩ = some (.int .i64 sb) ∧ w'.cell? ⟨b, o + k * 5 + 4, none⟩ = some (.string sx)) := fun w' X d c h => ⟨n12_of h.blk, h.own.keeps.cellK c30, h.own.keeps.cellK s0, h.own.keeps.cellK s1, h.own.keeps.cellK s2, h.own.keeps.cellK s3, h.own.keeps.cellK s4⟩
      have SD := mkS.out _ _ _ _ hX4
      have HX4 := hide (And.intro hX4 ((Keeps.refl _ (fun _ => False)).drew.blk hGr))
      clear hX4 hAD hGr
      go_wp2_with fail
      go_region_held3 (fun w' => (w'.cell? ⟨Bd, 0, none⟩ = some (.pointer (some ⟨p, 0, none⟩)) ∧ w'.cell? ⟨Bd, 1, none⟩ = some (.int .i64 l.k) ∧ w'.cell? ⟨Bd, 2, none⟩ = some (.int .i64 l.e) ∧ w'.cell? ⟨Bd, 3, none⟩ = some (.int .i64 l.a) ∧ w'.cell? ⟨Bd, 4, none⟩ = some (.int .i64 l.b) ∧ w'.cell? ⟨Bd, 5, none⟩ = some (.int .i64 l.c) ∧ w'.cell? ⟨Bd, 6, none⟩ = some (.int .i64 l.eo) ∧ w'.cell? ⟨Bd, 7, none⟩ = some (.int .i64 l.bo) ∧ w'.cell? ⟨Bd, 8, none⟩ = some (.int .i64 l.s) ∧ w'.cell? ⟨Bd, 9, none⟩ = some (.int .i64 l.g) ∧ w'.cell? ⟨Bd, 10, none⟩ = some (.int .i64 (off : Int)) ∧ w'.cell? ⟨Bd, 11, none⟩ = some (.int .i64 en)) ∧ w'.cell? ⟨w.heap.size, 3, none⟩ = some (.slice (some ⟨b, o, none⟩) ss.length cap) ∧ w'.cell? ⟨b, o + k * 5, none⟩ = some (.int .i64 sk) ∧ w'.cell? ⟨b, o + k * 5 + 1, none⟩ = some (.int .i64 si) ∧ w'.cell? ⟨b, o + k * 5 + 2, none⟩ = some (.int .i64 st) ∧ w'.cell? ⟨b, o + k * 5 + 3, none⟩ = some (.int .i64 sb) ∧ w'.cell? ⟨b, o + k * 5 + 4, none⟩ = some (.string sx)) (first | with_reducible assumption) (first | (go_at_call 8; (with_reducible refine hTk.mono ?_); rintro r w5 ⟨rfl, d', c', hTu, hD'⟩; have HX5 := hide (And.intro (HX4.out.1.turn hTu hD') ((hTu.2.block Bgr (heap_lt HX4.out.2) (fun e => e.1.2 (Or.inr rfl))).trans HX4.out.2)); have S5 := mkS.out _ _ _ _ HX5.out.1))
      clear HX4 hTu hD' hTk SD S5 mkS
      go_wp2_with fail
      go_roundw
      case rel => exact ⟨k + 1, rfl, by omega, d', c', HX5.out⟩
      case measure => simp [intOf]; omega
    · have hge : (ss.length : Int) ≤ (k : Int) := by omega
      have kA : Keeps wr (((wr.alloc (.cells #[.int .i64 (-1)] 3)).alloc (.cells #[.int .i64 0] 3)).alloc (.cells #[.bool true] 4)) (fun _ => False) := (((Keeps.refl _ _).alloc _).alloc _).alloc _
      obtain ⟨d0, d1, d2, d3, d4, d5, d6, d7, d8, d9, d10, d11⟩ := n12_of (kA.blk hAD.blk)
      clear hlt kA
      go_wp2_with fail
      rename_i KA hKA KB hKB
      have HKB := hide hKB
      clear hKB
      refine alloc3 (P := fun W => Calls _ _ _ W _) fun W5 bl bt bf hz5 K5 => ?_
      have hX5 := hAD.stay K5
      have hAl := all_any hX5.own.here hX5.desk.fine l off en c hX5.desk.grp ho hn
      clear d0 d1 d2 d3 d4 d5 d6 d7 d8 d9 d10 d11 hX5
      refine hAl.mono ?_
      rintro r w6 ⟨rfl, k6⟩
      show KB _ _
      refine HKB.out _ _ ?_
      refine wpList_arr 13 50 c rfl rfl rfl rfl rfl rfl rfl fun W7 R7 K7 hz7 => ?_
      have k57 := k6.trans K7 (fun _ _ e => e)
      have k7 := K5.trans k57 (fun _ _ e => e)
      have hG7 := k7.blk hGr
      obtain ⟨g0, g1, g2, g3, g4, g5, g6, g7, g8, g9, g10⟩ := c11_of hG7
      clear HKB hAl
      go_wp2_with fail
      refine (cells_call p l (off : Int) _).mono ?_
      rintro r W8 ⟨rfl, hW8⟩
      have k78 : Keeps W7 W8 (fun _ => False) := by
        rw [hW8]
        exact (Keeps.refl _ _).alloc _
      have k8 := k7.trans k78 (fun _ _ e => e)
      have hb8 : W8.heap[W7.heap.size]? = some (.cells #[.pointer (some ⟨p, 0, none⟩), .int .i64 l.k, .int .i64 l.e, .int .i64 l.a, .int .i64 l.b, .int .i64 l.c, .int .i64 l.eo, .int .i64 l.bo, .int .i64 l.s, .int .i64 l.g, .int .i64 (off : Int)] 46) := by
        rw [hW8]
        exact heap_alloc_new _ _
      have hsz8 : W8.heap.size = W7.heap.size + 1 := by rw [hW8]; simp
      obtain ⟨Bl, hBl⟩ : ∃ B, B = wr.heap.size := ⟨_, rfl⟩
      obtain ⟨Bt, hBt⟩ : ∃ B, B = wr.heap.size + 1 := ⟨_, rfl⟩
      obtain ⟨Bf, hBf⟩ : ∃ B, B = wr.heap.size + 1 + 1 := ⟨_, rfl⟩
      obtain ⟨Bn, hBn⟩ : ∃ B, B = w6.heap.size := ⟨_, rfl⟩
      obtain ⟨Bg, hBg⟩ : ∃ B, B = W7.heap.size := ⟨_, rfl⟩
      obtain ⟨lo, hlo⟩ : ∃ B, B = wr.heap.size := ⟨_, rfl⟩
      obtain ⟨hi, hhi⟩ : ∃ B, B = W8.heap.size + 2 := ⟨_, rfl⟩
      have hOk : Hid (BxOk V Bd Bl Bt Bf Bn Bg lo hi) := by
        have q1 := hAD.own.keeps.size
        have q2 := hAD.lt Bd (Or.inl rfl)
        have q3 := k6.size
        exact ⟨by omega, by omega, by omega, by omega, by omega, by omega, by omega, by omega⟩
      have h0 : Hid (∀ r, AtL V ((W8.alloc (.deferred (some []))).alloc (.loop r)) p Bd Bgr Bl Bt Bf Bn Bg lo hi l off en (-1) 0 true c c) := fun r => by
        have kr : Keeps W8 ((W8.alloc (.deferred (some []))).alloc (.loop r)) (fun _ => False) := ((Keeps.refl _ _).alloc _).alloc _
        have k9 := k8.trans kr (fun _ _ e => e)
        have hx := hAD.grow k9
        have hs : ((W8.alloc (.deferred (some []))).alloc (.loop r)).heap.size = hi := by rw [hhi]; simp
        rw [hs, ← hlo] at hx
        have k79 := k78.trans kr (fun _ _ e => e)
        have k59 := k57.trans k79 (fun _ _ e => e)
        exact ⟨⟨_, hx⟩, by rw [hBg]; exact kr.blk hb8, by rw [hBl]; exact k59.blk bl, by rw [hBt]; exact k59.blk bt, by rw [hBf]; exact k59.blk bf, by rw [hBn]; exact R7.keeps k79 id⟩
      have hDn : Hid (Bg < W8.heap.size ∧ hi = W8.heap.size + 2) := ⟨by omega, hhi⟩
      rw [← hBg, ← hBn, ← hBf, ← hBt, ← hBl]
      clear hBl hBt hBf hBn hBg hlo hhi hsz8 hb8 k8 k78 hW8 g0 g1 g2 g3 g4 g5 g6 g7 g8 g9 g10 hG7 k7 k57 hz7 K7 R7 k6 K5 hz5 bl bt bf hGr hAD c3 hge hk
      have hnil := eq_nil_seq
      go_wp2_with fail
      clear hnil
      rw [← wpIn_wide (n := 8)]
      refine range_tied (n := 8) (by omega) (gf := 40) (lb := #[.pointer (some ⟨Bg, 0, none⟩)]) rfl (enters_of Tryz.func40 (by kernel_rfl) rfl) (cells_each 7 (by omega) p Bg l off ho hn c) (fun _ => rfl)
        (fun a x a' W => ∃ Bc, hi ≤ Bc ∧ W.heap[Bc]? = some (.cells #[.int .i64 x.2.kind, .int .i64 x.2.tag, .string x.2.key, .string x.2.elem, .int .i64 x.2.birth] 35) ∧ a' = { tmps := (((a.tmps.setIfInBounds 56 (.int .i64 (x.1 : Int))).setIfInBounds 57 x.2.val).setIfInBounds 15 (.int .i64 (x.1 : Int))).setIfInBounds 16 (.pointer (some ⟨Bc, 0, none⟩)), defers := [] })
        ?hAx (fun s W => ∃ t : Nat, t ≤ s.1 ∧ s.1 ≤ 8 ∧ Hid (AtL V W p Bd Bgr Bl Bt Bf Bn Bg lo hi l off en ((s.1 : Int) - 1) (t : Int) true s.2 s.2)) (fun _ _ => False) ?hR ?hI ?hIp (fun _ _ _ _ h => h.elim) ?h0 ?hassign ?hbody ?hdone (fun _ _ h => h.elim)
      case hAx =>
        rintro x a' U r o ⟨Bc, h1, h2, rfl⟩ hL
        exact ⟨Bc, h1, putBlk h2 (by have := hDn.out; omega), rfl⟩
      case hR =>
        rintro s U ⟨t, ht, h8, HL⟩
        obtain ⟨d, ax⟩ := HL.out.ax
        exact ⟨⟨_, d, ax.own.arena, ax.desk.fine, ax.desk.grp⟩, HL.out.gb⟩
      case hI =>
        rintro s U U' ⟨t, ht, h8, HL⟩ k
        exact ⟨t, ht, h8, HL.out.stay k⟩
      case hIp =>
        rintro s U r o ⟨t, ht, h8, HL⟩ hL
        exact ⟨t, ht, h8, HL.out.put hOk.out (by have := hDn.out; omega) o⟩
      case h0 => exact fun r => ⟨0, Nat.le_refl _, Nat.zero_le _, h0.out r⟩
      case hassign =>
        rintro ⟨i, ⟨kd, tg, ky, el, bi⟩⟩ s U K' ⟨t, ht, h8, HL⟩ hK'
        obtain ⟨d, ax⟩ := HL.out.ax
        have hsz : hi ≤ U.heap.size := by
          have := ax.lt (hi - 1) (Or.inr ⟨by have := hOk.out; have := this.l; have := hOk.out.t; have := hOk.out.f; have := hOk.out.n; have := hOk.out.g; have := hOk.out.h; omega, by have := hOk.out.h; omega⟩)
          omega
        have hK2 := hide hK'
        clear hK' ax
        simp only [GC.val]
        gi_wp2_with fail
        refine hK2.out _ _ ((Keeps.refl _ _).alloc _) ⟨U.heap.size, hsz, heap_alloc_new _ _, ?_⟩
        simp only [GC.val, List.setIfInBounds_toArray, List.set_cons_zero, List.set_cons_succ]
      case hbody =>
        rintro ⟨i, gc⟩ ⟨n, c⟩ a' W ⟨t, ht, hn8, HL⟩ ⟨Bc, hBc, hcell, rfl⟩ ⟨q1, q2, q3, q4, q5⟩
        dsimp only at q1 q2 q3 q4 q5 ht hn8 HL hcell
        subst q3
        have HK0 : Hid (AtK W8.heap.size W V W p Bd Bgr Bl Bt Bf Bn Bg lo hi l off en ((n : Int) - 1) (t : Int) true c c) := ⟨HL.out, fun _ _ => rfl⟩
        have HKd := hide (HK0.out.stay hOk.out hDn.out ((Keeps.refl _ (fun _ => False)).drew))
        have hcd := (Keeps.refl W (fun _ => False)).drew.blk hcell
        obtain ⟨a0, a1, a2, a3, a4⟩ := HKd.out.l.nw.five q2
        obtain ⟨b0, b1, b2, b3, b4, -⟩ := five_cells hcd
        have e1 := HKd.out.l.la.cell
        rw [q4] at a0 b0
        have z1 : ¬ (i : Int) ≤ (n : Int) - 1 := by omega
        have z2 : ¬ (7 : Int) < (i : Int) := by omega
        have z3 : (i : Int) < 8 := by omega
        have HQ5 := hide q5
        clear HL HK0 hcell hcd q4 q5
        simp only [GC.val]
        generalize (c i).tag = x1 at *
        generalize (c i).key = x2 at *
        generalize (c i).elem = x3 at *
        generalize (c i).birth = x4 at *
        generalize (c i).kind = x0 at *
        simp only [List.setIfInBounds_toArray, List.set_cons_zero, List.set_cons_succ]
        gi_wp2_with fail
        apply twice
        case h =>
          intro hrest
          gi_region_with fail
          all_goals exact hrest.out
        case r =>
          clear a0 a1 a2 a3 a4 b0 b1 b2 b3 b4 z1 z2
          generalize W.drew = Wd at *
          have e2 := HKd.out.l.la.frozen
          gi_wp2_with fail
          gi_loopw [17] (fun v17 wx => ∃ j : Nat, v17 = .int .i64 (j : Int) ∧ n ≤ j ∧ j ≤ i ∧ wx = Wd) (fun v17 _ => i - (intOf v17).toNat)
          case atStart => exact ⟨n, by first | rfl | (congr 1; omega) | simp, Nat.le_refl _, q1, rfl⟩
          case round =>
            obtain ⟨j, rfl, hnj, hji, rfl⟩ := hrel
            by_cases hjl : j < i
            · have hjl' : (j : Int) < (i : Int) := by omega
              have hj8 : (j : Int) < 8 := by omega
              obtain ⟨a0, -, -, -, -⟩ := HKd.out.l.nw.five (k := j) (by omega)
              have hk2 : (c j).kind ≠ 2 := HQ5.out j hnj hjl
              generalize (c j).kind = y0 at *
              have hb : (y0 == 2) = false := by simp [hk2]
              gi_wp2_with fail
              refine ⟨⟨j + 1, rfl, Nat.le_succ_of_le hnj, by omega, by first | rfl | trivial⟩, ?_⟩
              simp only [intOf]
              omega
            · have hjl' : ¬ (j : Int) < (i : Int) := by omega
              have HK1 := hide (HKd.out.setLa hOk.out hDn.out (i : Int))
              obtain ⟨d1, ax1⟩ := HK1.out.l.ax
              have m1 := ax1.own.keeps.cellK m0
              have u1 := HK1.out.l.tu.cell
              have f1 := HK1.out.l.fi.cell
              clear ax1 HKd
              by_cases htm : t < ms.length
              · have htm' : (t : Int) < (ms.length : Int) := by omega
                obtain ⟨b, o, rfl, s0, s1, s2, s3, s4, ok⟩ := hM0 t htm
                obtain ⟨ok1, ok2, ok3, ok4, ok5⟩ := ok
                generalize ms[t].k = sk at *
                generalize ms[t].i = si at *
                generalize ms[t].t = st at *
                generalize ms[t].b = sb at *
                generalize ms[t].x = sx at *
                gi_wp2_with fail
                clear e1 e2 u1 f1 m1
                have HK2 := hide (HK1.out.stay hOk.out hDn.out ((Keeps.refl _ (fun _ => False)).drew))
                obtain ⟨d2, ax2⟩ := HK2.out.l.ax
                have m2 := ax2.own.keeps.cellK m0
                have t0 := ax2.own.keeps.cellK s0
                have t1 := ax2.own.keeps.cellK s1
                have t2 := ax2.own.keeps.cellK s2
                have t3 := ax2.own.keeps.cellK s3
                have t4 := ax2.own.keeps.cellK s4
                have u2 := HK2.out.l.tu.cell
                obtain ⟨g0, g1, g2, g3, g4, g5, g6, g7, g8, g9, g10, g11⟩ := n12_of ax2.blk
                have hTk := take_any ax2.own.here (fun _ h => h.2) l off en c ax2.desk ho hn sk si st sb sx ok1 ok2 ok3 ok4 ok5
                clear ax2 HK1 s0 s1 s2 s3 s4
                apply twice
                case h =>
                  intro hrest
                  gi_region_with (refine ⟨trivial, (CallsIn.inRound _ (callsIn_wide.2 hTk)).mono ?_⟩; rintro r w5 ⟨rfl, d', c', hTu, hD'⟩; have HK5 := hide (HK2.out.take hOk.out hDn.out hTu hD'); have f1 := HK5.out.l.fi.cell; have f2 := HK5.out.l.fi.frozen)
                  all_goals (have HK6 := hide (HK5.out.setFi hOk.out hDn.out true); clear f1 f2 HK5 hTu hD'; generalize w5.setCell ⟨Bf, 0, none⟩ (.bool true) = W6 at HK6 ⊢; revert W6 c'; exact hrest.out)
                case r =>
                  intro c6 W6 HK6
                  clear HK2 m2 t0 t1 t2 t3 t4 u2 g0 g1 g2 g3 g4 g5 g6 g7 g8 g9 g10 g11 hTk
                  have u1 := HK6.out.l.tu.cell
                  have u2 := HK6.out.l.tu.frozen
                  have HK7 := hide (HK6.out.setTu hOk.out hDn.out ((t : Int) + 1))
                  obtain ⟨d7, ax7⟩ := HK7.out.l.ax
                  obtain ⟨d0, d1, d2, d3, d4, d5, d6, d7', d8, d9, d10, d11⟩ := n12_of ax7.blk
                  have hAl := all_any ax7.own.here ax7.desk.fine l off en c6 ax7.desk.grp ho hn
                  clear ax7
                  gi_wp2_with fail
                  rename_i KA hKA KB hKB
                  have HKB := hide hKB
                  clear hKB
                  refine ⟨trivial, (CallsIn.inRound _ (callsIn_wide.2 hAl)).mono ?_⟩
                  rintro r w8 ⟨rfl, k8⟩
                  show KB _ _
                  refine HKB.out _ _ ?_
                  have HK8 := hide (HK7.out.stay hOk.out hDn.out k8)
                  have HK9 := hide (HK8.out.setNw hOk.out hDn.out c6)
                  refine listIn_row rfl (.tmp 13) (.tmp 108) rfl rfl Bn c6 c rfl rfl HK8.out.l.nw ?_
                  refine wpListIn_nil ?_
                  clear HKB HK8 HK7 HK6 hAl k8 d0 d1 d2 d3 d4 d5 d6 d7' d8 d9 d10 d11 u1 u2
                  have HKA : Hid (AtL V (w8.setRow Bn (cs8 c6).toArray) p Bd Bgr Bl Bt Bf Bn Bg lo hi l off en (((i + 1 : Nat) : Int) - 1) ((t + 1 : Nat) : Int) true c6 c6) := by
                    rw [show (((i + 1 : Nat) : Int) - 1) = (i : Int) by omega, show (((t + 1 : Nat)) : Int) = (t : Int) + 1 by omega]
                    exact HK9.out.l
                  generalize w8.setRow Bn (cs8 c6).toArray = W9 at *
                  gi_wp2_with fail
                  exact ⟨HK9.out.k, (i + 1, c6), rfl, t + 1, by show t + 1 ≤ i + 1; omega, by show i + 1 ≤ 8; omega, HKA⟩
              · have htm' : ¬ (t : Int) < (ms.length : Int) := by omega
                have HK6 := HK1
                have u2 := HK6.out.l.tu.frozen
                have HK7 := hide (HK6.out.setTu hOk.out hDn.out ((t : Int) + 1))
                obtain ⟨d7, ax7⟩ := HK7.out.l.ax
                obtain ⟨d0, d1, d2, d3, d4, d5, d6, d7', d8, d9, d10, d11⟩ := n12_of ax7.blk
                have hAl := all_any ax7.own.here ax7.desk.fine l off en c ax7.desk.grp ho hn
                clear ax7
                gi_wp2_with fail
                rename_i KA hKA KB hKB
                have HKB := hide hKB
                clear hKB
                refine ⟨trivial, (CallsIn.inRound _ (callsIn_wide.2 hAl)).mono ?_⟩
                rintro r w8 ⟨rfl, k8⟩
                show KB _ _
                refine HKB.out _ _ ?_
                have HK8 := hide (HK7.out.stay hOk.out hDn.out k8)
                have HK9 := hide (HK8.out.setNw hOk.out hDn.out c)
                refine listIn_row rfl (.tmp 13) (.tmp 108) rfl rfl Bn c c rfl rfl HK8.out.l.nw ?_
                refine wpListIn_nil ?_
                clear HKB HK8 HK7 HK6 hAl k8 d0 d1 d2 d3 d4 d5 d6 d7' d8 d9 d10 d11 u2
                have HKA : Hid (AtL V (w8.setRow Bn (cs8 c).toArray) p Bd Bgr Bl Bt Bf Bn Bg lo hi l off en (((i + 1 : Nat) : Int) - 1) ((t + 1 : Nat) : Int) true c c) := by
                  rw [show (((i + 1 : Nat) : Int) - 1) = (i : Int) by omega, show (((t + 1 : Nat)) : Int) = (t : Int) + 1 by omega]
                  exact HK9.out.l
                generalize w8.setRow Bn (cs8 c).toArray = W9 at *
                gi_wp2_with fail
                exact ⟨HK9.out.k, (i + 1, c), rfl, t + 1, by show t + 1 ≤ i + 1; omega, by show i + 1 ≤ 8; omega, HKA⟩
      case hdone =>
        rintro ⟨n, c⟩ W hE ⟨t, ht, hn8, HL⟩ hD
        dsimp only at hn8 HL ht
        obtain ⟨d, ax⟩ := HL.out.ax
        have hOk' := hOk.out
        have hDn' := hDn.out
        obtain ⟨o1, o2, o3, o4, o5, o6, o7, o8⟩ := hOk'
        have kw := K0'.out.trans ax.own.keeps (fun _ _ e => e)
        have hDw : w.heap.size ≤ W8.heap.size := by have := K0'.out.size; omega
        have kfin : Hid (Keeps w (W.putObj W8.heap.size (.deferred none)) (fun _ => False)) := kw.trans (Keeps.ofGrown (grownBy_putObj' W W8.heap.size (.deferred none))) (fun i hi e => by cases e; omega)
        have e1 := (Ct.one_cell HL.out.la).1
        have e2 := (Ct.one_cell HL.out.fi).1
        have hD' := hide hD
        have HE := hide hE
        have RW := hide HL.out.nw
        clear o1 o2 o3 o4 o5 o6 o7 o8 kw hDw hD hE HL ax hDn' hOk hDn h0
        go_wp2_with fail
        go_loopw [18] (fun v18 wx => ∃ j : Nat, v18 = .int .i64 (j : Int) ∧ n ≤ j ∧ wx = W) (fun v18 _ => 8 - (intOf v18).toNat)
        case atStart => exact ⟨n, by first | rfl | (congr 1; omega) | (simp), Nat.le_refl _, rfl⟩
        case round =>
          obtain ⟨j, rfl, hnj, rfl⟩ := hrel
          by_cases hj8 : j < 8
          · have hj8' : (j : Int) < 8 := by omega
            obtain ⟨a0, -, -, -, -⟩ := RW.out.five hj8
            have hk2 : (c j).kind ≠ 2 := HE.out j hnj hj8
            generalize (c j).kind = x0 at *
            have hb : (x0 == 2) = false := by simp [hk2]
            go_wp2_with fail
            go_roundw
            case rel => exact ⟨j + 1, rfl, Nat.le_succ_of_le hnj, by first | rfl | trivial⟩
            case measure => simp [intOf]; omega
          · have hj8' : ¬ (j : Int) < 8 := by omega
            go_wp2_with fail
            refine ⟨by simp, .inl ⟨_, _, rfl, run_takeDeferred hD'.out, ?_⟩⟩
            exact ⟨_, by simp [results, Tryz.results4, go_sem], rfl, kfin.out⟩
end groupSteps
end Go.Proofs.YtdnkjbbpfhegdaaGreat
