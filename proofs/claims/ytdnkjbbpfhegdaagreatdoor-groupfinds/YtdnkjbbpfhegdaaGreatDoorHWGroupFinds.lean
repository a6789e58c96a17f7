import Derived.Test.YtdnkjbbpfhegdaaGreatDoorMf16
namespace Go.Proofs.YtdnkjbbpfhegdaaGreatDoor
namespace groupFinds
open Go.RowKit Go.Shelf Ly Ct
set_option linter.unusedVariables false

theorem four_three {w : World} {b : Nat} {v0 v1 v2 v3 : Value} {t : TypeId} (h : w.heap[b]? = some (.cells #[v0, v1, v2, v3] t)) : w.cell? ⟨b, 3, none⟩ = some v3 := by
  simp [World.cell?, h]
theorem six2 {w : World} {b : Nat} {v0 v1 v2 v3 v4 v5 : Value} {t : TypeId} (h : w.heap[b]? = some (.cells #[v0, v1, v2, v3, v4, v5] t)) : w.cell? ⟨b, 4, none⟩ = some v4 ∧ w.cell? ⟨b, 5, none⟩ = some v5 := by
  simp [World.cell?, h]

set_option maxRecDepth 100000 in
set_option maxHeartbeats 16000000 in
theorem core (K E B T : Int) (tx : ByteArray) (a : Option Addr) (cap : Nat) (ss : List SD) (w : World) (hK : (Lit.int .i64 K).wf = true) (hE : (Lit.int .i64 E).wf = true) (hB : (Lit.int .i64 B).wf = true) (hS : RowS w a ss) (hNn : ss.length ≤ 140737488355328)
    (hTw : (Lit.int .i64 T).wf = true) (htx : tx.size ≤ 140737488355328) (hTab : TabAt w) :
    Calls Tryz.prog 3 #[.agg #[.int .i64 K, .int .i64 E, .int .i64 B, .slice a ss.length cap, .int .i64 T, .string tx]] w fun e w' => e = .returned (.bool true) ∧ Keeps w w' (fun _ => False) := by
  have hDk := fun V => desk_any K E B (.slice a ss.length cap) V hK hE hB
  have hv := desk_valid K E B
  have hg := desk_g K E B
  generalize deskL K E B = l at *
  have hvm := valid_more hv
  obtain ⟨off, hoff⟩ : ∃ off : Nat, 16 + l.g = (off : Int) := ⟨(16 + l.g).toNat, by omega⟩
  have hoff2 : 16 + l.g.toNat = off := by omega
  obtain ⟨en, hen⟩ : ∃ en, 16 + 3 * l.g = en := ⟨_, rfl⟩
  have ho : fitsI (off : Int) := fits_nat (by omega)
  have hn : fitsI l.g := fitsI_mk (by omega) (by omega)
  unfold DeskPost at hDk
  rw [hoff, hoff2, hen] at hDk
  have hWi : Hid (∀ W, Calls Tryz.prog 8 #[.string tx, .int .i64 l.k] W fun e w' => e = .returned (.string (wideD tx l.k.toNat)) ∧ w' = W) := fun W => by
    have := wide_any tx l.k.toNat W (by omega) (by omega)
    rw [show ((l.k.toNat : Nat) : Int) = l.k by omega] at this
    exact this
  have hKs : Hid (((wideD tx l.k.toNat).size : Int) = l.k) := by
    show ((wideD tx l.k.toNat).size : Int) = l.k
    rw [wideD_size]
    omega
  generalize wideD tx l.k.toNat = KY at *
  have hmT : Mod6 T 128 (T % 128) := ⟨hTw, by omega, by omega, rfl⟩
  have hT0 : 0 ≤ T % 128 := by omega
  have hT1 : T % 128 ≤ 127 := by omega
  generalize T % 128 = tm at *
  clear hK hE hB hen hoff hoff2 hg hvm hTw
  go_enter Tryz.func3, Tryz.ntmps3
  go_wp2_with fail
  refine alloc2 (P := fun W => Calls _ _ _ W _) fun V ha hb hz K0 => ?_
  refine (hDk _).mono ?_
  rintro e w1 ⟨p, d, rfl, hO, hD⟩
  clear hDk
  have hAD := AtX.of (AtDesk.make (en := en) hO hD)
  clear hO hD
  obtain ⟨e0, e1, e2, e3, e4, e5, e6, e7, e8, e9, e10, e11⟩ := n12_of hAD.blk
  go_wp2_with fail
  generalize w1.alloc _ = w2 at *
  obtain ⟨Bd, hBd⟩ : ∃ B, B = w1.heap.size := ⟨_, rfl⟩
  rw [← hBd] at hAD ⊢
  clear hBd
  refine (at_any p l (off : Int) _).mono ?_
  rintro e w3 ⟨rfl, k3⟩
  have k34 : Keeps w2 (w3.alloc (.cells #[.pointer (some ⟨p, 0, none⟩), .int .i64 l.k, .int .i64 l.e, .int .i64 l.a, .int .i64 l.b, .int .i64 l.c, .int .i64 l.eo, .int .i64 l.bo, .int .i64 l.s, .int .i64 l.g, .int .i64 (off : Int)] 35)) (fun _ => False) := k3.alloc _
  have hA4 := hAD.add k34 k3.size (by simp)
  have hG4 := heap_alloc_new w3 (.cells #[.pointer (some ⟨p, 0, none⟩), .int .i64 l.k, .int .i64 l.e, .int .i64 l.a, .int .i64 l.b, .int .i64 l.c, .int .i64 l.eo, .int .i64 l.bo, .int .i64 l.s, .int .i64 l.g, .int .i64 (off : Int)] 35)
  go_wp2_with fail
  generalize w3.alloc _ = w4 at *
  obtain ⟨Bgr, hBgr⟩ : ∃ B, B = w3.heap.size := ⟨_, rfl⟩
  rw [← hBgr] at hA4 hG4 ⊢
  have hS0 := hS.keeps K0
  have c30 := four_three hb
  have a60 := six2 ha
  have K0' := hide K0
  have mkT : Hid (∀ W X d c, AtX V W p Bd X l off en d c → TabAt W) := fun W X d c h => hTab.kp ((K0.trans h.own.keeps (fun _ _ e => e)).below (Nat.le_refl _) (fun _ _ e => e))
  clear hBgr hS K0 hz hb ha hAD k3 k34 e0 e1 e2 e3 e4 e5 e6 e7 e8 e9 e10 e11
  go_loopw [7] (fun v7 wr => ∃ k : Nat, v7 = .int .i64 (k : Int) ∧ k ≤ ss.length ∧ Hid (∃ d c, AtX V wr p Bd (fun i => i = Bd ∨ i = Bgr) l off en d c ∧ wr.heap[Bgr]? = some (.cells #[.pointer (some ⟨p, 0, none⟩), .int .i64 l.k, .int .i64 l.e, .int .i64 l.a, .int .i64 l.b, .int .i64 l.c, .int .i64 l.eo, .int .i64 l.bo, .int .i64 l.s, .int .i64 l.g, .int .i64 (off : Int)] 35))) (fun v7 _ => ss.length - (intOf v7).toNat)
  case atStart => exact ⟨0, rfl, Nat.zero_le _, _, _, hA4, hG4⟩
  case round =>
    clear hA4 hG4
    obtain ⟨k, rfl, hk, hAD⟩ := hrel
    obtain ⟨d, c, hAD, hGr⟩ := hAD.out
    have c3 := hAD.own.keeps.cellK c30
    by_cases hlt : k < ss.length
    · have hlt' : (k : Int) < (ss.length : Int) := by omega
      obtain ⟨b, o, rfl, s0, s1, s2, s3, s4, ok⟩ := hS0 k hlt
      obtain ⟨ok1, ok2, ok3, ok4, ok5⟩ := ok
      generalize ss[k].k = sk at *
      generalize ss[k].i = si at *
      generalize ss[k].t = st at *
      generalize ss[k].b = sb at *
      generalize ss[k].x = sx at *
      have hX4 := hAD.stay ((Keeps.refl _ (fun _ => False)).drew)
      have hTk := take_any hX4.own.here (fun _ h => h.2) l off en c hX4.desk ho hn sk si st sb sx ok1 ok2 ok3 ok4 ok5
      have mkS : Hid (∀ w' X d c, AtX V w' p Bd X l off en d c → (w'.cell? ⟨Bd, 0, none⟩ = some (.pointer (some ⟨p, 0, none⟩)) ∧ w'.cell? ⟨Bd, 1, none⟩ = some (.int .i64 l.k) ∧ w'.cell? ⟨Bd, 2, none⟩ = some (.int .i64 l.e) ∧ w'.cell? ⟨Bd, 3, none⟩ = some (.int .i64 l.a) ∧ w'.cell? ⟨Bd, 4, none⟩ = some (.int .i64 l.b) ∧ w'.cell? ⟨Bd, 5, none⟩ = some (.int .i64 l.c) ∧ w'.cell? ⟨Bd, 6, none⟩ = some (.int .i64 l.eo) ∧ w'.cell? ⟨Bd, 7, none⟩ = some (.int .i64 l.bo) ∧ w'.cell? ⟨Bd, 8, none⟩ = some (.int .i64 l.s) ∧ w'.cell? ⟨Bd, 9, none⟩ = some (.int .i64 l.g) ∧ w'.cell? ⟨Bd, 10, none⟩ = some (.int .i64 (off : Int)) ∧ w'.cell? ⟨Bd, 11, none⟩ = some (.int .i64 en)) ∧ w'.cell? ⟨w.heap.size + 1, 3, none⟩ = some (.slice (some ⟨b, o, none⟩) ss.length cap) ∧ w'.cell? ⟨b, o + k * 5, none⟩ = some (.int .i64 sk) ∧ w'.cell? ⟨b, o + k * 5 + 1, none⟩ = some (.int .i64 si) ∧ w'.cell? ⟨b, o + k * 5 + 2, none⟩ = some (.int .i64 st) ∧ w'.cell? ⟨b, o + k * 5 + 3, none⟩ = some (.int .i64 sb) ∧ w'.cell? ⟨b, o + k * 5 + 4, none⟩ = some (.string sx)) := fun w' X d c h => ⟨n12_of h.blk, h.own.keeps.cellK c30, h.own.keeps.cellK s0, h.own.keeps.cellK s1, h.own.keeps.cellK s2, h.own.keeps.cellK s3, h.own.keeps.cellK s4⟩
      have SD := mkS.out _ _ _ _ hX4
      have HX4 := hide (And.intro hX4 ((Keeps.refl _ (fun _ => False)).drew.blk hGr))
      clear hX4 hAD hGr
      go_wp2_with fail
      go_region_held3 (fun w' => (w'.cell? ⟨Bd, 0, none⟩ = some (.pointer (some ⟨p, 0, none⟩)) ∧ w'.cell? ⟨Bd, 1, none⟩ = some (.int .i64 l.k) ∧ w'.cell? ⟨Bd, 2, none⟩ = some (.int .i64 l.e) ∧ w'.cell? ⟨Bd, 3, none⟩ = some (.int .i64 l.a) ∧ w'.cell? ⟨Bd, 4, none⟩ = some (.int .i64 l.b) ∧ w'.cell? ⟨Bd, 5, none⟩ = some (.int .i64 l.c) ∧ w'.cell? ⟨Bd, 6, none⟩ = some (.int .i64 l.eo) ∧ w'.cell? ⟨Bd, 7, none⟩ = some (.int .i64 l.bo) ∧ w'.cell? ⟨Bd, 8, none⟩ = some (.int .i64 l.s) ∧ w'.cell? ⟨Bd, 9, none⟩ = some (.int .i64 l.g) ∧ w'.cell? ⟨Bd, 10, none⟩ = some (.int .i64 (off : Int)) ∧ w'.cell? ⟨Bd, 11, none⟩ = some (.int .i64 en)) ∧ w'.cell? ⟨w.heap.size + 1, 3, none⟩ = some (.slice (some ⟨b, o, none⟩) ss.length cap) ∧ w'.cell? ⟨b, o + k * 5, none⟩ = some (.int .i64 sk) ∧ w'.cell? ⟨b, o + k * 5 + 1, none⟩ = some (.int .i64 si) ∧ w'.cell? ⟨b, o + k * 5 + 2, none⟩ = some (.int .i64 st) ∧ w'.cell? ⟨b, o + k * 5 + 3, none⟩ = some (.int .i64 sb) ∧ w'.cell? ⟨b, o + k * 5 + 4, none⟩ = some (.string sx)) (first | with_reducible assumption) (first | (go_at_call 7; (with_reducible refine hTk.mono ?_); rintro r w5 ⟨rfl, d', c', hTu, hD'⟩; have HX5 := hide (And.intro (HX4.out.1.turn hTu hD') ((hTu.2.block Bgr (heap_lt HX4.out.2) (fun e => e.1.2 (Or.inr rfl))).trans HX4.out.2)); have S5 := mkS.out _ _ _ _ HX5.out.1))
      clear HX4 hTu hD' hTk SD S5 mkS
      go_wp2_with fail
      go_roundw
      case rel => exact ⟨k + 1, rfl, by omega, d', c', HX5.out⟩
      case measure => simp [intOf]; omega
    · have hge : (ss.length : Int) ≤ (k : Int) := by omega
      obtain ⟨d0, d1, d2, d3, d4, d5, d6, d7, d8, d9, d10, d11⟩ := n12_of hAD.blk
      have a4 := hAD.own.keeps.cellK a60.1
      have a5 := hAD.own.keeps.cellK a60.2
      have hAl := all_any hAD.own.here hAD.desk.fine l off en c hAD.desk.grp ho hn
      have HAD := hide (And.intro hAD hGr)
      have hWi' := hWi.out
      clear hAD hGr
      go_wp2_with fail
      refine (hWi' _).mono ?_
      rintro r w5 ⟨rfl, rfl⟩
      go_wp2_with fail
      refine (mod6_is hmT _).mono ?_
      rintro r w5 ⟨rfl, rfl⟩
      clear hWi'
      go_wp2_with fail
      rename_i KA hKA KB hKB
      have HKB := hide hKB
      clear hKB
      refine hAl.mono ?_
      rintro r w6 ⟨rfl, k6⟩
      show KB _ _
      refine HKB.out _ _ ?_
      refine wpList_arr 12 60 c rfl rfl rfl rfl rfl rfl rfl fun W7 R7 K7 hz7 => ?_
      obtain ⟨Bc, hBc⟩ : ∃ B, B = w6.heap.size := ⟨_, rfl⟩
      have k67 := k6.trans K7 (fun _ _ e => e)
      have HX7 := hide (And.intro (HAD.out.1.stay k67) (And.intro R7 (k67.blk HAD.out.2)))
      rw [← hBc] at HX7 ⊢
      clear HKB HAD hAl d0 d1 d2 d3 d4 d5 d6 d7 d8 d9 d10 d11 c3 a4 a5 R7 hBc hz7 K7 k6 k67
      go_wp2_with fail
      go_loopw [11, 13] (fun v11 v13 wx => ∃ x : Int, v13 = .int .i64 x ∧ -1 ≤ x ∧ x ≤ 7 ∧ v11 = .int .i64 ((low (mtC c tm KY) (7 - x).toNat : Nat) : Int) ∧ Hid (AtX V wx p Bd (fun i => i = Bd ∨ i = Bgr) l off en d c ∧ RowG wx Bc 44 c ∧ wx.heap[Bgr]? = some (.cells #[.pointer (some ⟨p, 0, none⟩), .int .i64 l.k, .int .i64 l.e, .int .i64 l.a, .int .i64 l.b, .int .i64 l.c, .int .i64 l.eo, .int .i64 l.bo, .int .i64 l.s, .int .i64 l.g, .int .i64 (off : Int)] 35))) (fun _ v13 _ => (intOf v13 + 1).toNat)
      case atStart => exact ⟨7, rfl, by omega, by omega, rfl, HX7⟩
      case round =>
        clear HX7
        obtain ⟨x, rfl, hx1, hx2, rfl, HX7⟩ := hrel
        by_cases hx : 0 ≤ x
        · obtain ⟨i, rfl⟩ := Int.eq_ofNat_of_zero_le hx
          have hi8 : i < 8 := by omega
          have hi8' : (i : Int) < 8 := by omega
          have hst : low (mtC c tm KY) (7 - ((i : Int) - 1)).toNat = if mtC c tm KY i then i else low (mtC c tm KY) (7 - (i : Int)).toNat := by
            rw [show (7 - ((i : Int) - 1)).toNat = (7 - i) + 1 by omega, show (7 - (i : Int)).toNat = 7 - i by omega]
            show (if mtC c tm KY (7 - (7 - i)) then 7 - (7 - i) else low (mtC c tm KY) (7 - i)) = _
            rw [show 7 - (7 - i) = i by omega]
          have hok := HX7.out.1.desk.grp.ok i hi8
          by_cases hk2 : (c i).kind = 2
          · have hok : 0 ≤ (c i).tag ∧ (c i).tag ≤ 127 ∧ ((c i).key.size : Int) = l.k := by
              rcases hok with q | q | q
              · rw [q] at hk2; cases hk2
              · rw [q] at hk2; cases hk2
              · exact ⟨q.2.1, q.2.2.1, q.2.2.2.1⟩
            have hAx := HX7.out.1.stay ((Keeps.refl _ (fun _ => False)).drew)
            have hRw := HX7.out.2.1
            have hRx := HX7.out.2.1.keeps (S := fun _ => False) ((Keeps.refl _ _).drew) id
            have hGx := (Keeps.refl _ (fun _ => False)).drew.blk HX7.out.2.2
            clear HX7
            by_cases htg : (c i).tag = tm
            · by_cases hky : (c i).key = KY
              · have hlow : Hid (low (mtC c tm KY) (7 - ((i : Int) - 1)).toNat = i) := by
                  show low (mtC c tm KY) (7 - ((i : Int) - 1)).toNat = i
                  rw [hst, if_pos (show mtC c tm KY i = true from decide_eq_true ⟨hk2, htg, hky⟩)]
                clear hst
                obtain ⟨LO, hLO⟩ : ∃ LO, low (mtC c tm KY) (7 - (i : Int)).toNat = LO := ⟨_, rfl⟩
                rw [hLO]
                clear hLO
                replace htg := hide htg
                replace hky := hide hky
                have hFi := find_any hAx.own.here hAx.desk.fine l off c hAx.desk.grp ho hn (mkT.out _ _ _ _ hAx) (c i).tag (c i).key hok.1 hok.2.1 hok.2.2
                have hJ := low_spec (mtC c (c i).tag (c i).key) 8 (Nat.le_refl _)
                have hMi : mtC c (c i).tag (c i).key i = true := decide_eq_true ⟨hk2, rfl, rfl⟩
                obtain ⟨J, hJe⟩ : ∃ J, low (mtC c (c i).tag (c i).key) 8 = J := ⟨_, rfl⟩
                rw [hJe] at hFi hJ
                have hJi : J ≤ i := by
                  refine Nat.le_of_not_lt fun q => ?_
                  have := hJ.2.2 i (by omega) q
                  rw [hMi] at this
                  cases this
                have hJm := (hJ.2.1 (by omega)).1
                unfold mtC at hJm
                rw [decide_eq_true_iff] at hJm
                have mkS : Hid (∀ w', RowG w' Bc 44 c → w'.heap[Bgr]? = some (.cells #[.pointer (some ⟨p, 0, none⟩), .int .i64 l.k, .int .i64 l.e, .int .i64 l.a, .int .i64 l.b, .int .i64 l.c, .int .i64 l.eo, .int .i64 l.bo, .int .i64 l.s, .int .i64 l.g, .int .i64 (off : Int)] 35) → (w'.cell? ⟨Bgr, 0, none⟩ = some (.pointer (some ⟨p, 0, none⟩)) ∧ w'.cell? ⟨Bgr, 1, none⟩ = some (.int .i64 l.k) ∧ w'.cell? ⟨Bgr, 2, none⟩ = some (.int .i64 l.e) ∧ w'.cell? ⟨Bgr, 3, none⟩ = some (.int .i64 l.a) ∧ w'.cell? ⟨Bgr, 4, none⟩ = some (.int .i64 l.b) ∧ w'.cell? ⟨Bgr, 5, none⟩ = some (.int .i64 l.c) ∧ w'.cell? ⟨Bgr, 6, none⟩ = some (.int .i64 l.eo) ∧ w'.cell? ⟨Bgr, 7, none⟩ = some (.int .i64 l.bo) ∧ w'.cell? ⟨Bgr, 8, none⟩ = some (.int .i64 l.s) ∧ w'.cell? ⟨Bgr, 9, none⟩ = some (.int .i64 l.g) ∧ w'.cell? ⟨Bgr, 10, none⟩ = some (.int .i64 (off : Int))) ∧ (w'.cell? ⟨Bc, i * 5, none⟩ = some (.int .i64 2) ∧ w'.cell? ⟨Bc, i * 5 + 1, none⟩ = some (.int .i64 (c i).tag) ∧ w'.cell? ⟨Bc, i * 5 + 2, none⟩ = some (.string (c i).key) ∧ w'.cell? ⟨Bc, i * 5 + 3, none⟩ = some (.string (c i).elem) ∧ w'.cell? ⟨Bc, i * 5 + 4, none⟩ = some (.int .i64 (c i).birth)) ∧ (w'.cell? ⟨Bc, J * 5, none⟩ = some (.int .i64 2) ∧ w'.cell? ⟨Bc, J * 5 + 1, none⟩ = some (.int .i64 (c i).tag) ∧ w'.cell? ⟨Bc, J * 5 + 2, none⟩ = some (.string (c i).key))) := fun w' r g => by
                  obtain ⟨a0, a1, a2, a3, a4⟩ := r.five hi8
                  obtain ⟨b0, b1, b2, -, -⟩ := r.five (k := J) (by omega)
                  rw [hk2] at a0
                  rw [hJm.1] at b0
                  rw [hJm.2.1] at b1
                  rw [hJm.2.2] at b2
                  exact ⟨c11_of g, ⟨a0, a1, a2, a3, a4⟩, b0, b1, b2⟩
                have SD := mkS.out _ hRx hGx
                have HX := hide (And.intro hAx (And.intro hRx hGx))
                have hJ8 : (J : Int) ≤ (i : Int) := by omega
                have hJ9 : (J : Int) < 8 := by omega
                have hJ10 : ¬ (i : Int) < (J : Int) := by omega
                have hJ11 : decide ((i : Int) < (J : Int)) = false := decide_eq_false hJ10
                have hJ12 : decide ((J : Int) < 0) = false := decide_eq_false (by omega)
                have hJ13 : ¬ i < J := by omega
                have hJ14 : decide (i < J) = false := decide_eq_false hJ13
                have A0 := hRw.five hi8
                rw [hk2] at A0
                clear hAx hRx hGx hJ hMi hJe hJm hJi hok hk2 hRw
                generalize (c i).tag = x1 at *
                generalize (c i).key = x2 at *
                generalize (c i).elem = x3 at *
                generalize (c i).birth = x4 at *
                obtain ⟨a0, a1, a2, a3, a4⟩ := A0
                have hb1 : (x1 == tm) = true := beq_iff_eq.2 htg.out
                have hb2 : (x2.toList == KY.toList) = true := by rw [hky.out]; exact beq_self_eq_true _
                go_wp2_with fail
                go_region_held3 (fun w' => (w'.cell? ⟨Bgr, 0, none⟩ = some (.pointer (some ⟨p, 0, none⟩)) ∧ w'.cell? ⟨Bgr, 1, none⟩ = some (.int .i64 l.k) ∧ w'.cell? ⟨Bgr, 2, none⟩ = some (.int .i64 l.e) ∧ w'.cell? ⟨Bgr, 3, none⟩ = some (.int .i64 l.a) ∧ w'.cell? ⟨Bgr, 4, none⟩ = some (.int .i64 l.b) ∧ w'.cell? ⟨Bgr, 5, none⟩ = some (.int .i64 l.c) ∧ w'.cell? ⟨Bgr, 6, none⟩ = some (.int .i64 l.eo) ∧ w'.cell? ⟨Bgr, 7, none⟩ = some (.int .i64 l.bo) ∧ w'.cell? ⟨Bgr, 8, none⟩ = some (.int .i64 l.s) ∧ w'.cell? ⟨Bgr, 9, none⟩ = some (.int .i64 l.g) ∧ w'.cell? ⟨Bgr, 10, none⟩ = some (.int .i64 (off : Int))) ∧ (w'.cell? ⟨Bc, i * 5, none⟩ = some (.int .i64 2) ∧ w'.cell? ⟨Bc, i * 5 + 1, none⟩ = some (.int .i64 x1) ∧ w'.cell? ⟨Bc, i * 5 + 2, none⟩ = some (.string x2) ∧ w'.cell? ⟨Bc, i * 5 + 3, none⟩ = some (.string x3) ∧ w'.cell? ⟨Bc, i * 5 + 4, none⟩ = some (.int .i64 x4)) ∧ (w'.cell? ⟨Bc, J * 5, none⟩ = some (.int .i64 2) ∧ w'.cell? ⟨Bc, J * 5 + 1, none⟩ = some (.int .i64 x1) ∧ w'.cell? ⟨Bc, J * 5 + 2, none⟩ = some (.string x2))) (first | with_reducible assumption) (first | (go_at_call 11; (with_reducible refine hFi.mono ?_); rintro r w5 ⟨rfl, k5⟩; have HX5 := hide (And.intro (HX.out.1.stay k5) (And.intro (HX.out.2.1.keeps k5 id) (k5.blk HX.out.2.2))); have S5 := mkS.out _ HX5.out.2.1 HX5.out.2.2))
                have HX6 := hide (And.intro (HX5.out.1.stay ((Keeps.refl _ (fun _ => False)).drew)) (And.intro (HX5.out.2.1.keeps (S := fun _ => False) ((Keeps.refl _ _).drew) id) ((Keeps.refl _ (fun _ => False)).drew.blk HX5.out.2.2)))
                have S6 := mkS.out _ HX6.out.2.1 HX6.out.2.2
                clear HX HX5 SD S5 hFi k5 mkS a0 a1 a2 a3 a4
                go_wp2_with fail
                go_region_held3 (fun w' => (w'.cell? ⟨Bgr, 0, none⟩ = some (.pointer (some ⟨p, 0, none⟩)) ∧ w'.cell? ⟨Bgr, 1, none⟩ = some (.int .i64 l.k) ∧ w'.cell? ⟨Bgr, 2, none⟩ = some (.int .i64 l.e) ∧ w'.cell? ⟨Bgr, 3, none⟩ = some (.int .i64 l.a) ∧ w'.cell? ⟨Bgr, 4, none⟩ = some (.int .i64 l.b) ∧ w'.cell? ⟨Bgr, 5, none⟩ = some (.int .i64 l.c) ∧ w'.cell? ⟨Bgr, 6, none⟩ = some (.int .i64 l.eo) ∧ w'.cell? ⟨Bgr, 7, none⟩ = some (.int .i64 l.bo) ∧ w'.cell? ⟨Bgr, 8, none⟩ = some (.int .i64 l.s) ∧ w'.cell? ⟨Bgr, 9, none⟩ = some (.int .i64 l.g) ∧ w'.cell? ⟨Bgr, 10, none⟩ = some (.int .i64 (off : Int))) ∧ (w'.cell? ⟨Bc, i * 5, none⟩ = some (.int .i64 2) ∧ w'.cell? ⟨Bc, i * 5 + 1, none⟩ = some (.int .i64 x1) ∧ w'.cell? ⟨Bc, i * 5 + 2, none⟩ = some (.string x2) ∧ w'.cell? ⟨Bc, i * 5 + 3, none⟩ = some (.string x3) ∧ w'.cell? ⟨Bc, i * 5 + 4, none⟩ = some (.int .i64 x4)) ∧ (w'.cell? ⟨Bc, J * 5, none⟩ = some (.int .i64 2) ∧ w'.cell? ⟨Bc, J * 5 + 1, none⟩ = some (.int .i64 x1) ∧ w'.cell? ⟨Bc, J * 5 + 2, none⟩ = some (.string x2))) (first | with_reducible assumption) (first | fail)
                clear S6
                go_wp2_with fail
                go_roundw
                case rel => exact ⟨(i : Int) - 1, rfl, by omega, by omega, by rw [hlow.out], HX6⟩
                case measure => simp [intOf]
              · have hlow : Hid (low (mtC c tm KY) (7 - ((i : Int) - 1)).toNat = low (mtC c tm KY) (7 - (i : Int)).toNat) := by
                  show low (mtC c tm KY) (7 - ((i : Int) - 1)).toNat = low (mtC c tm KY) (7 - (i : Int)).toNat
                  rw [hst, if_neg (by unfold mtC; rw [decide_eq_true_iff]; exact fun q => hky q.2.2)]
                clear hst
                obtain ⟨LO, hLO⟩ : ∃ LO, low (mtC c tm KY) (7 - (i : Int)).toNat = LO := ⟨_, rfl⟩
                rw [hLO] at hlow ⊢
                clear hLO
                replace htg := hide htg
                replace hky := hide hky
                have hFi := find_any hAx.own.here hAx.desk.fine l off c hAx.desk.grp ho hn (mkT.out _ _ _ _ hAx) (c i).tag (c i).key hok.1 hok.2.1 hok.2.2
                have hJ := low_spec (mtC c (c i).tag (c i).key) 8 (Nat.le_refl _)
                have hMi : mtC c (c i).tag (c i).key i = true := decide_eq_true ⟨hk2, rfl, rfl⟩
                obtain ⟨J, hJe⟩ : ∃ J, low (mtC c (c i).tag (c i).key) 8 = J := ⟨_, rfl⟩
                rw [hJe] at hFi hJ
                have hJi : J ≤ i := by
                  refine Nat.le_of_not_lt fun q => ?_
                  have := hJ.2.2 i (by omega) q
                  rw [hMi] at this
                  cases this
                have hJm := (hJ.2.1 (by omega)).1
                unfold mtC at hJm
                rw [decide_eq_true_iff] at hJm
                have mkS : Hid (∀ w', RowG w' Bc 44 c → w'.heap[Bgr]? = some (.cells #[.pointer (some ⟨p, 0, none⟩), .int .i64 l.k, .int .i64 l.e, .int .i64 l.a, .int .i64 l.b, .int .i64 l.c, .int .i64 l.eo, .int .i64 l.bo, .int .i64 l.s, .int .i64 l.g, .int .i64 (off : Int)] 35) → (w'.cell? ⟨Bgr, 0, none⟩ = some (.pointer (some ⟨p, 0, none⟩)) ∧ w'.cell? ⟨Bgr, 1, none⟩ = some (.int .i64 l.k) ∧ w'.cell? ⟨Bgr, 2, none⟩ = some (.int .i64 l.e) ∧ w'.cell? ⟨Bgr, 3, none⟩ = some (.int .i64 l.a) ∧ w'.cell? ⟨Bgr, 4, none⟩ = some (.int .i64 l.b) ∧ w'.cell? ⟨Bgr, 5, none⟩ = some (.int .i64 l.c) ∧ w'.cell? ⟨Bgr, 6, none⟩ = some (.int .i64 l.eo) ∧ w'.cell? ⟨Bgr, 7, none⟩ = some (.int .i64 l.bo) ∧ w'.cell? ⟨Bgr, 8, none⟩ = some (.int .i64 l.s) ∧ w'.cell? ⟨Bgr, 9, none⟩ = some (.int .i64 l.g) ∧ w'.cell? ⟨Bgr, 10, none⟩ = some (.int .i64 (off : Int))) ∧ (w'.cell? ⟨Bc, i * 5, none⟩ = some (.int .i64 2) ∧ w'.cell? ⟨Bc, i * 5 + 1, none⟩ = some (.int .i64 (c i).tag) ∧ w'.cell? ⟨Bc, i * 5 + 2, none⟩ = some (.string (c i).key) ∧ w'.cell? ⟨Bc, i * 5 + 3, none⟩ = some (.string (c i).elem) ∧ w'.cell? ⟨Bc, i * 5 + 4, none⟩ = some (.int .i64 (c i).birth)) ∧ (w'.cell? ⟨Bc, J * 5, none⟩ = some (.int .i64 2) ∧ w'.cell? ⟨Bc, J * 5 + 1, none⟩ = some (.int .i64 (c i).tag) ∧ w'.cell? ⟨Bc, J * 5 + 2, none⟩ = some (.string (c i).key))) := fun w' r g => by
                  obtain ⟨a0, a1, a2, a3, a4⟩ := r.five hi8
                  obtain ⟨b0, b1, b2, -, -⟩ := r.five (k := J) (by omega)
                  rw [hk2] at a0
                  rw [hJm.1] at b0
                  rw [hJm.2.1] at b1
                  rw [hJm.2.2] at b2
                  exact ⟨c11_of g, ⟨a0, a1, a2, a3, a4⟩, b0, b1, b2⟩
                have SD := mkS.out _ hRx hGx
                have HX := hide (And.intro hAx (And.intro hRx hGx))
                have hJ8 : (J : Int) ≤ (i : Int) := by omega
                have hJ9 : (J : Int) < 8 := by omega
                have hJ10 : ¬ (i : Int) < (J : Int) := by omega
                have hJ11 : decide ((i : Int) < (J : Int)) = false := decide_eq_false hJ10
                have hJ12 : decide ((J : Int) < 0) = false := decide_eq_false (by omega)
                have hJ13 : ¬ i < J := by omega
                have hJ14 : decide (i < J) = false := decide_eq_false hJ13
                have A0 := hRw.five hi8
                rw [hk2] at A0
                clear hAx hRx hGx hJ hMi hJe hJm hJi hok hk2 hRw
                generalize (c i).tag = x1 at *
                generalize (c i).key = x2 at *
                generalize (c i).elem = x3 at *
                generalize (c i).birth = x4 at *
                obtain ⟨a0, a1, a2, a3, a4⟩ := A0
                have hb1 : (x1 == tm) = true := beq_iff_eq.2 htg.out
                have hb2 : (x2.toList == KY.toList) = false := by rw [beq_eq_false_iff_ne]; exact fun e => hky.out (str_eq e)
                go_wp2_with fail
                go_region_held3 (fun w' => (w'.cell? ⟨Bgr, 0, none⟩ = some (.pointer (some ⟨p, 0, none⟩)) ∧ w'.cell? ⟨Bgr, 1, none⟩ = some (.int .i64 l.k) ∧ w'.cell? ⟨Bgr, 2, none⟩ = some (.int .i64 l.e) ∧ w'.cell? ⟨Bgr, 3, none⟩ = some (.int .i64 l.a) ∧ w'.cell? ⟨Bgr, 4, none⟩ = some (.int .i64 l.b) ∧ w'.cell? ⟨Bgr, 5, none⟩ = some (.int .i64 l.c) ∧ w'.cell? ⟨Bgr, 6, none⟩ = some (.int .i64 l.eo) ∧ w'.cell? ⟨Bgr, 7, none⟩ = some (.int .i64 l.bo) ∧ w'.cell? ⟨Bgr, 8, none⟩ = some (.int .i64 l.s) ∧ w'.cell? ⟨Bgr, 9, none⟩ = some (.int .i64 l.g) ∧ w'.cell? ⟨Bgr, 10, none⟩ = some (.int .i64 (off : Int))) ∧ (w'.cell? ⟨Bc, i * 5, none⟩ = some (.int .i64 2) ∧ w'.cell? ⟨Bc, i * 5 + 1, none⟩ = some (.int .i64 x1) ∧ w'.cell? ⟨Bc, i * 5 + 2, none⟩ = some (.string x2) ∧ w'.cell? ⟨Bc, i * 5 + 3, none⟩ = some (.string x3) ∧ w'.cell? ⟨Bc, i * 5 + 4, none⟩ = some (.int .i64 x4)) ∧ (w'.cell? ⟨Bc, J * 5, none⟩ = some (.int .i64 2) ∧ w'.cell? ⟨Bc, J * 5 + 1, none⟩ = some (.int .i64 x1) ∧ w'.cell? ⟨Bc, J * 5 + 2, none⟩ = some (.string x2))) (first | with_reducible assumption) (first | (go_at_call 11; (with_reducible refine hFi.mono ?_); rintro r w5 ⟨rfl, k5⟩; have HX5 := hide (And.intro (HX.out.1.stay k5) (And.intro (HX.out.2.1.keeps k5 id) (k5.blk HX.out.2.2))); have S5 := mkS.out _ HX5.out.2.1 HX5.out.2.2))
                have HX6 := hide (And.intro (HX5.out.1.stay ((Keeps.refl _ (fun _ => False)).drew)) (And.intro (HX5.out.2.1.keeps (S := fun _ => False) ((Keeps.refl _ _).drew) id) ((Keeps.refl _ (fun _ => False)).drew.blk HX5.out.2.2)))
                have S6 := mkS.out _ HX6.out.2.1 HX6.out.2.2
                clear HX HX5 SD S5 hFi k5 mkS a0 a1 a2 a3 a4
                go_wp2_with fail
                go_region_held3 (fun w' => (w'.cell? ⟨Bgr, 0, none⟩ = some (.pointer (some ⟨p, 0, none⟩)) ∧ w'.cell? ⟨Bgr, 1, none⟩ = some (.int .i64 l.k) ∧ w'.cell? ⟨Bgr, 2, none⟩ = some (.int .i64 l.e) ∧ w'.cell? ⟨Bgr, 3, none⟩ = some (.int .i64 l.a) ∧ w'.cell? ⟨Bgr, 4, none⟩ = some (.int .i64 l.b) ∧ w'.cell? ⟨Bgr, 5, none⟩ = some (.int .i64 l.c) ∧ w'.cell? ⟨Bgr, 6, none⟩ = some (.int .i64 l.eo) ∧ w'.cell? ⟨Bgr, 7, none⟩ = some (.int .i64 l.bo) ∧ w'.cell? ⟨Bgr, 8, none⟩ = some (.int .i64 l.s) ∧ w'.cell? ⟨Bgr, 9, none⟩ = some (.int .i64 l.g) ∧ w'.cell? ⟨Bgr, 10, none⟩ = some (.int .i64 (off : Int))) ∧ (w'.cell? ⟨Bc, i * 5, none⟩ = some (.int .i64 2) ∧ w'.cell? ⟨Bc, i * 5 + 1, none⟩ = some (.int .i64 x1) ∧ w'.cell? ⟨Bc, i * 5 + 2, none⟩ = some (.string x2) ∧ w'.cell? ⟨Bc, i * 5 + 3, none⟩ = some (.string x3) ∧ w'.cell? ⟨Bc, i * 5 + 4, none⟩ = some (.int .i64 x4)) ∧ (w'.cell? ⟨Bc, J * 5, none⟩ = some (.int .i64 2) ∧ w'.cell? ⟨Bc, J * 5 + 1, none⟩ = some (.int .i64 x1) ∧ w'.cell? ⟨Bc, J * 5 + 2, none⟩ = some (.string x2))) (first | with_reducible assumption) (first | fail)
                clear S6
                go_wp2_with fail
                go_roundw
                case rel => exact ⟨(i : Int) - 1, rfl, by omega, by omega, by rw [hlow.out], HX6⟩
                case measure => simp [intOf]
            · have hlow : Hid (low (mtC c tm KY) (7 - ((i : Int) - 1)).toNat = low (mtC c tm KY) (7 - (i : Int)).toNat) := by
                show low (mtC c tm KY) (7 - ((i : Int) - 1)).toNat = low (mtC c tm KY) (7 - (i : Int)).toNat
                rw [hst, if_neg (by unfold mtC; rw [decide_eq_true_iff]; exact fun q => htg q.2.1)]
              clear hst
              obtain ⟨LO, hLO⟩ : ∃ LO, low (mtC c tm KY) (7 - (i : Int)).toNat = LO := ⟨_, rfl⟩
              rw [hLO] at hlow ⊢
              clear hLO
              replace htg := hide htg
              have hFi := find_any hAx.own.here hAx.desk.fine l off c hAx.desk.grp ho hn (mkT.out _ _ _ _ hAx) (c i).tag (c i).key hok.1 hok.2.1 hok.2.2
              have hJ := low_spec (mtC c (c i).tag (c i).key) 8 (Nat.le_refl _)
              have hMi : mtC c (c i).tag (c i).key i = true := decide_eq_true ⟨hk2, rfl, rfl⟩
              obtain ⟨J, hJe⟩ : ∃ J, low (mtC c (c i).tag (c i).key) 8 = J := ⟨_, rfl⟩
              rw [hJe] at hFi hJ
              have hJi : J ≤ i := by
                refine Nat.le_of_not_lt fun q => ?_
                have := hJ.2.2 i (by omega) q
                rw [hMi] at this
                cases this
              have hJm := (hJ.2.1 (by omega)).1
              unfold mtC at hJm
              rw [decide_eq_true_iff] at hJm
              have mkS : Hid (∀ w', RowG w' Bc 44 c → w'.heap[Bgr]? = some (.cells #[.pointer (some ⟨p, 0, none⟩), .int .i64 l.k, .int .i64 l.e, .int .i64 l.a, .int .i64 l.b, .int .i64 l.c, .int .i64 l.eo, .int .i64 l.bo, .int .i64 l.s, .int .i64 l.g, .int .i64 (off : Int)] 35) → (w'.cell? ⟨Bgr, 0, none⟩ = some (.pointer (some ⟨p, 0, none⟩)) ∧ w'.cell? ⟨Bgr, 1, none⟩ = some (.int .i64 l.k) ∧ w'.cell? ⟨Bgr, 2, none⟩ = some (.int .i64 l.e) ∧ w'.cell? ⟨Bgr, 3, none⟩ = some (.int .i64 l.a) ∧ w'.cell? ⟨Bgr, 4, none⟩ = some (.int .i64 l.b) ∧ w'.cell? ⟨Bgr, 5, none⟩ = some (.int .i64 l.c) ∧ w'.cell? ⟨Bgr, 6, none⟩ = some (.int .i64 l.eo) ∧ w'.cell? ⟨Bgr, 7, none⟩ = some (.int .i64 l.bo) ∧ w'.cell? ⟨Bgr, 8, none⟩ = some (.int .i64 l.s) ∧ w'.cell? ⟨Bgr, 9, none⟩ = some (.int .i64 l.g) ∧ w'.cell? ⟨Bgr, 10, none⟩ = some (.int .i64 (off : Int))) ∧ (w'.cell? ⟨Bc, i * 5, none⟩ = some (.int .i64 2) ∧ w'.cell? ⟨Bc, i * 5 + 1, none⟩ = some (.int .i64 (c i).tag) ∧ w'.cell? ⟨Bc, i * 5 + 2, none⟩ = some (.string (c i).key) ∧ w'.cell? ⟨Bc, i * 5 + 3, none⟩ = some (.string (c i).elem) ∧ w'.cell? ⟨Bc, i * 5 + 4, none⟩ = some (.int .i64 (c i).birth)) ∧ (w'.cell? ⟨Bc, J * 5, none⟩ = some (.int .i64 2) ∧ w'.cell? ⟨Bc, J * 5 + 1, none⟩ = some (.int .i64 (c i).tag) ∧ w'.cell? ⟨Bc, J * 5 + 2, none⟩ = some (.string (c i).key))) := fun w' r g => by
                obtain ⟨a0, a1, a2, a3, a4⟩ := r.five hi8
                obtain ⟨b0, b1, b2, -, -⟩ := r.five (k := J) (by omega)
                rw [hk2] at a0
                rw [hJm.1] at b0
                rw [hJm.2.1] at b1
                rw [hJm.2.2] at b2
                exact ⟨c11_of g, ⟨a0, a1, a2, a3, a4⟩, b0, b1, b2⟩
              have SD := mkS.out _ hRx hGx
              have HX := hide (And.intro hAx (And.intro hRx hGx))
              have hJ8 : (J : Int) ≤ (i : Int) := by omega
              have hJ9 : (J : Int) < 8 := by omega
              have hJ10 : ¬ (i : Int) < (J : Int) := by omega
              have hJ11 : decide ((i : Int) < (J : Int)) = false := decide_eq_false hJ10
              have hJ12 : decide ((J : Int) < 0) = false := decide_eq_false (by omega)
              have hJ13 : ¬ i < J := by omega
              have hJ14 : decide (i < J) = false := decide_eq_false hJ13
              have A0 := hRw.five hi8
              rw [hk2] at A0
              clear hAx hRx hGx hJ hMi hJe hJm hJi hok hk2 hRw
              generalize (c i).tag = x1 at *
              generalize (c i).key = x2 at *
              generalize (c i).elem = x3 at *
              generalize (c i).birth = x4 at *
              obtain ⟨a0, a1, a2, a3, a4⟩ := A0
              have hb1 : (x1 == tm) = false := beq_eq_false_iff_ne.2 htg.out
              go_wp2_with fail
              go_region_held3 (fun w' => (w'.cell? ⟨Bgr, 0, none⟩ = some (.pointer (some ⟨p, 0, none⟩)) ∧ w'.cell? ⟨Bgr, 1, none⟩ = some (.int .i64 l.k) ∧ w'.cell? ⟨Bgr, 2, none⟩ = some (.int .i64 l.e) ∧ w'.cell? ⟨Bgr, 3, none⟩ = some (.int .i64 l.a) ∧ w'.cell? ⟨Bgr, 4, none⟩ = some (.int .i64 l.b) ∧ w'.cell? ⟨Bgr, 5, none⟩ = some (.int .i64 l.c) ∧ w'.cell? ⟨Bgr, 6, none⟩ = some (.int .i64 l.eo) ∧ w'.cell? ⟨Bgr, 7, none⟩ = some (.int .i64 l.bo) ∧ w'.cell? ⟨Bgr, 8, none⟩ = some (.int .i64 l.s) ∧ w'.cell? ⟨Bgr, 9, none⟩ = some (.int .i64 l.g) ∧ w'.cell? ⟨Bgr, 10, none⟩ = some (.int .i64 (off : Int))) ∧ (w'.cell? ⟨Bc, i * 5, none⟩ = some (.int .i64 2) ∧ w'.cell? ⟨Bc, i * 5 + 1, none⟩ = some (.int .i64 x1) ∧ w'.cell? ⟨Bc, i * 5 + 2, none⟩ = some (.string x2) ∧ w'.cell? ⟨Bc, i * 5 + 3, none⟩ = some (.string x3) ∧ w'.cell? ⟨Bc, i * 5 + 4, none⟩ = some (.int .i64 x4)) ∧ (w'.cell? ⟨Bc, J * 5, none⟩ = some (.int .i64 2) ∧ w'.cell? ⟨Bc, J * 5 + 1, none⟩ = some (.int .i64 x1) ∧ w'.cell? ⟨Bc, J * 5 + 2, none⟩ = some (.string x2))) (first | with_reducible assumption) (first | (go_at_call 11; (with_reducible refine hFi.mono ?_); rintro r w5 ⟨rfl, k5⟩; have HX5 := hide (And.intro (HX.out.1.stay k5) (And.intro (HX.out.2.1.keeps k5 id) (k5.blk HX.out.2.2))); have S5 := mkS.out _ HX5.out.2.1 HX5.out.2.2))
              have HX6 := hide (And.intro (HX5.out.1.stay ((Keeps.refl _ (fun _ => False)).drew)) (And.intro (HX5.out.2.1.keeps (S := fun _ => False) ((Keeps.refl _ _).drew) id) ((Keeps.refl _ (fun _ => False)).drew.blk HX5.out.2.2)))
              have S6 := mkS.out _ HX6.out.2.1 HX6.out.2.2
              clear HX HX5 SD S5 hFi k5 mkS a0 a1 a2 a3 a4
              go_wp2_with fail
              go_region_held3 (fun w' => (w'.cell? ⟨Bgr, 0, none⟩ = some (.pointer (some ⟨p, 0, none⟩)) ∧ w'.cell? ⟨Bgr, 1, none⟩ = some (.int .i64 l.k) ∧ w'.cell? ⟨Bgr, 2, none⟩ = some (.int .i64 l.e) ∧ w'.cell? ⟨Bgr, 3, none⟩ = some (.int .i64 l.a) ∧ w'.cell? ⟨Bgr, 4, none⟩ = some (.int .i64 l.b) ∧ w'.cell? ⟨Bgr, 5, none⟩ = some (.int .i64 l.c) ∧ w'.cell? ⟨Bgr, 6, none⟩ = some (.int .i64 l.eo) ∧ w'.cell? ⟨Bgr, 7, none⟩ = some (.int .i64 l.bo) ∧ w'.cell? ⟨Bgr, 8, none⟩ = some (.int .i64 l.s) ∧ w'.cell? ⟨Bgr, 9, none⟩ = some (.int .i64 l.g) ∧ w'.cell? ⟨Bgr, 10, none⟩ = some (.int .i64 (off : Int))) ∧ (w'.cell? ⟨Bc, i * 5, none⟩ = some (.int .i64 2) ∧ w'.cell? ⟨Bc, i * 5 + 1, none⟩ = some (.int .i64 x1) ∧ w'.cell? ⟨Bc, i * 5 + 2, none⟩ = some (.string x2) ∧ w'.cell? ⟨Bc, i * 5 + 3, none⟩ = some (.string x3) ∧ w'.cell? ⟨Bc, i * 5 + 4, none⟩ = some (.int .i64 x4)) ∧ (w'.cell? ⟨Bc, J * 5, none⟩ = some (.int .i64 2) ∧ w'.cell? ⟨Bc, J * 5 + 1, none⟩ = some (.int .i64 x1) ∧ w'.cell? ⟨Bc, J * 5 + 2, none⟩ = some (.string x2))) (first | with_reducible assumption) (first | fail)
              clear S6
              go_wp2_with fail
              go_roundw
              case rel => exact ⟨(i : Int) - 1, rfl, by omega, by omega, by rw [hlow.out], HX6⟩
              case measure => simp [intOf]
          · have hlow : Hid (low (mtC c tm KY) (7 - ((i : Int) - 1)).toNat = low (mtC c tm KY) (7 - (i : Int)).toNat) := by
              show low (mtC c tm KY) (7 - ((i : Int) - 1)).toNat = low (mtC c tm KY) (7 - (i : Int)).toNat
              rw [hst, if_neg (by unfold mtC; rw [decide_eq_true_iff]; exact fun q => hk2 q.1)]
            clear hst hok
            obtain ⟨LO, hLO⟩ : ∃ LO, low (mtC c tm KY) (7 - (i : Int)).toNat = LO := ⟨_, rfl⟩
            rw [hLO] at hlow ⊢
            clear hLO
            obtain ⟨a0, a1, a2, a3, a4⟩ := HX7.out.2.1.five hi8
            have hkb : ((c i).kind == 2) = false := beq_eq_false_iff_ne.2 hk2
            replace hk2 := hide hk2
            generalize (c i).kind = x0 at *
            go_wp2_with fail
            go_roundw
            case rel => exact ⟨(i : Int) - 1, rfl, by omega, by omega, by rw [hlow.out], HX7⟩
            case measure => simp [intOf]
        · obtain rfl : x = -1 := by omega
          have hFi := find_any HX7.out.1.own.here HX7.out.1.desk.fine l off c HX7.out.1.desk.grp ho hn (mkT.out _ _ _ _ HX7.out.1) tm KY hT0 hT1 hKs.out
          have h78 : (7 - (-1 : Int)).toNat = 8 := rfl
          rw [h78]
          generalize low (mtC c tm KY) 8 = LW at *
          obtain ⟨g0, g1, g2, g3, g4, g5, g6, g7, g8, g9, g10⟩ := c11_of HX7.out.2.2
          go_wp2_with fail
          refine hFi.mono ?_
          rintro r w8 ⟨rfl, k8⟩
          have K8 := hide ((K0'.out.trans HX7.out.1.own.keeps (fun _ _ e => e)).trans k8 (fun _ _ e => e))
          clear g0 g1 g2 g3 g4 g5 g6 g7 g8 g9 g10 hFi
          go_wp2_with fail
          go_ret
          exact ⟨rfl, K8.out⟩
end groupFinds
end Go.Proofs.YtdnkjbbpfhegdaaGreatDoor
