import Derived.Test.YtdnkjbbpfhegdaaGreatMg15
namespace Go.Proofs.YtdnkjbbpfhegdaaGreat
namespace groupBytes
open Go.RowKit Go.Shelf Ly Ct
set_option linter.unusedVariables false

theorem four_three {w : World} {b : Nat} {v0 v1 v2 v3 : Value} {t : TypeId} (h : w.heap[b]? = some (.cells #[v0, v1, v2, v3] t)) : w.cell? ⟨b, 3, none⟩ = some v3 := by
  simp [World.cell?, h]

set_option maxRecDepth 100000 in
set_option maxHeartbeats 4000000 in
theorem core (K E B : Int) (a : Option Addr) (cap : Nat) (ss : List SD) (w : World) (hK : (Lit.int .i64 K).wf = true) (hE : (Lit.int .i64 E).wf = true) (hB : (Lit.int .i64 B).wf = true) (hS : RowS w a ss) (hN : ss.length ≤ 140737488355328) :
    Calls Tryz.prog 5 #[.agg #[.int .i64 K, .int .i64 E, .int .i64 B, .slice a ss.length cap]] w fun e w' => e = .returned (.bool true) ∧ Keeps w w' (fun _ => False) := by
  have hDk := fun V => desk_any K E B (.slice a ss.length cap) V hK hE hB
  have hv := desk_valid K E B
  have hg := desk_g K E B
  generalize deskL K E B = l at *
  obtain ⟨off, hoff⟩ : ∃ off : Nat, 16 + l.g = (off : Int) := ⟨(16 + l.g).toNat, by omega⟩
  have hoff2 : 16 + l.g.toNat = off := by omega
  obtain ⟨en, hen⟩ : ∃ en, 16 + 3 * l.g = en := ⟨_, rfl⟩
  have ho : fitsI (off : Int) := fits_nat (by omega)
  have hn : fitsI l.g := fitsI_mk (by omega) (by omega)
  unfold DeskPost at hDk
  rw [hoff, hoff2, hen] at hDk
  have hnums : Hid (136 ≤ l.g ∧ l.g ≤ 520 ∧ 16 + l.g = (off : Int)) := ⟨hg.1, hg.2, hoff⟩
  clear hK hE hB hen hoff hoff2 hg
  go_enter Tryz.func5, Tryz.ntmps5
  go_wp2_with fail
  refine alloc1 (P := fun W => Calls _ _ _ W _) fun V hb hz K0 => ?_
  refine (hDk _).mono ?_
  rintro e w1 ⟨p, d, rfl, hO, hD⟩
  clear hDk
  have hAD := AtDesk.make (en := en) hO hD
  clear hO hD
  go_wp2_with fail
  generalize w1.alloc _ = w2 at *
  obtain ⟨Bd, hBd⟩ : ∃ B, B = w1.heap.size := ⟨_, rfl⟩
  rw [← hBd] at hAD ⊢
  have hS0 := hS.keeps K0
  have c30 := four_three hb
  have K0' := hide K0
  clear hBd hS K0 hz hb
  go_loopw [5] (fun v5 wr => ∃ k : Nat, v5 = .int .i64 (k : Int) ∧ k ≤ ss.length ∧ Hid (∃ d c, AtDesk V wr p Bd l off en d c)) (fun v5 _ => ss.length - (intOf v5).toNat)
  case atStart => exact ⟨0, rfl, Nat.zero_le _, _, _, hAD⟩
  case round =>
    clear hAD
    obtain ⟨k, rfl, hk, hAD⟩ := hrel
    obtain ⟨d, c, hAD⟩ := hAD.out
    have c3 := hAD.own.keeps.cellK c30
    have D0 := n12_of hAD.blk
    by_cases hlt : k < ss.length
    · have hlt' : (k : Int) < (ss.length : Int) := by omega
      replace hAD := hAD.stay ((Keeps.refl _ _).drew)
      obtain ⟨b, o, rfl, s0, s1, s2, s3, s4, ok⟩ := hS0 k hlt
      obtain ⟨ok1, ok2, ok3, ok4, ok5⟩ := ok
      have hT := take_any hAD.own.here (fun _ h => h.2) l off en c hAD.desk ho hn ss[k].k ss[k].i ss[k].t ss[k].b ss[k].x ok1 ok2 ok3 ok4 ok5
      generalize ss[k].k = sk at *
      generalize ss[k].i = si at *
      generalize ss[k].t = st at *
      generalize ss[k].b = sb at *
      generalize ss[k].x = sx at *
      have mkS : Hid (∀ w' d c, AtDesk V w' p Bd l off en d c → (w'.cell? ⟨Bd, 0, none⟩ = some (.pointer (some ⟨p, 0, none⟩)) ∧ w'.cell? ⟨Bd, 1, none⟩ = some (.int .i64 l.k) ∧ w'.cell? ⟨Bd, 2, none⟩ = some (.int .i64 l.e) ∧ w'.cell? ⟨Bd, 3, none⟩ = some (.int .i64 l.a) ∧ w'.cell? ⟨Bd, 4, none⟩ = some (.int .i64 l.b) ∧ w'.cell? ⟨Bd, 5, none⟩ = some (.int .i64 l.c) ∧ w'.cell? ⟨Bd, 6, none⟩ = some (.int .i64 l.eo) ∧ w'.cell? ⟨Bd, 7, none⟩ = some (.int .i64 l.bo) ∧ w'.cell? ⟨Bd, 8, none⟩ = some (.int .i64 l.s) ∧ w'.cell? ⟨Bd, 9, none⟩ = some (.int .i64 l.g) ∧ w'.cell? ⟨Bd, 10, none⟩ = some (.int .i64 (off : Int)) ∧ w'.cell? ⟨Bd, 11, none⟩ = some (.int .i64 en)) ∧ w'.cell? ⟨w.heap.size, 3, none⟩ = some (.slice (some ⟨b, o, none⟩) ss.length cap) ∧ w'.cell? ⟨b, o + k * 5, none⟩ = some (.int .i64 sk) ∧ w'.cell? ⟨b, o + k * 5 + 1, none⟩ = some (.int .i64 si) ∧ w'.cell? ⟨b, o + k * 5 + 2, none⟩ = some (.int .i64 st) ∧ w'.cell? ⟨b, o + k * 5 + 3, none⟩ = some (.int .i64 sb) ∧ w'.cell? ⟨b, o + k * 5 + 4, none⟩ = some (.string sx)) := fun w' d c h => ⟨n12_of h.blk, h.own.keeps.cellK c30, h.own.keeps.cellK s0, h.own.keeps.cellK s1, h.own.keeps.cellK s2, h.own.keeps.cellK s3, h.own.keeps.cellK s4⟩
      have SD := mkS.out _ _ _ hAD
      have HAD := hide hAD
      clear hAD ok1 ok2 ok3 ok4 ok5 D0 s0 s1 s2 s3 s4
      go_wp2_with fail
      go_region_held3 (fun w' => (w'.cell? ⟨Bd, 0, none⟩ = some (.pointer (some ⟨p, 0, none⟩)) ∧ w'.cell? ⟨Bd, 1, none⟩ = some (.int .i64 l.k) ∧ w'.cell? ⟨Bd, 2, none⟩ = some (.int .i64 l.e) ∧ w'.cell? ⟨Bd, 3, none⟩ = some (.int .i64 l.a) ∧ w'.cell? ⟨Bd, 4, none⟩ = some (.int .i64 l.b) ∧ w'.cell? ⟨Bd, 5, none⟩ = some (.int .i64 l.c) ∧ w'.cell? ⟨Bd, 6, none⟩ = some (.int .i64 l.eo) ∧ w'.cell? ⟨Bd, 7, none⟩ = some (.int .i64 l.bo) ∧ w'.cell? ⟨Bd, 8, none⟩ = some (.int .i64 l.s) ∧ w'.cell? ⟨Bd, 9, none⟩ = some (.int .i64 l.g) ∧ w'.cell? ⟨Bd, 10, none⟩ = some (.int .i64 (off : Int)) ∧ w'.cell? ⟨Bd, 11, none⟩ = some (.int .i64 en)) ∧ w'.cell? ⟨w.heap.size, 3, none⟩ = some (.slice (some ⟨b, o, none⟩) ss.length cap) ∧ w'.cell? ⟨b, o + k * 5, none⟩ = some (.int .i64 sk) ∧ w'.cell? ⟨b, o + k * 5 + 1, none⟩ = some (.int .i64 si) ∧ w'.cell? ⟨b, o + k * 5 + 2, none⟩ = some (.int .i64 st) ∧ w'.cell? ⟨b, o + k * 5 + 3, none⟩ = some (.int .i64 sb) ∧ w'.cell? ⟨b, o + k * 5 + 4, none⟩ = some (.string sx)) (first | with_reducible assumption) (first | (go_at_call 8; (with_reducible refine hT.mono ?_); rintro r w3 ⟨rfl, d', c', hTu, hD'⟩; have hAD3 := hide (HAD.out.turn hTu hD'); have S3 := mkS.out _ _ _ hAD3.out))
      clear HAD hTu hD' hT SD S3 mkS
      go_wp2_with fail
      go_roundw
      case rel => exact ⟨k + 1, rfl, by omega, d', c', hAD3.out⟩
      case measure => simp [intOf]; omega
    · have hge : (ss.length : Int) ≤ (k : Int) := by omega
      obtain ⟨d0, d1, d2, d3, d4, d5, d6, d7, d8, d9, d10, d11⟩ := D0
      have hAl := all_any hAD.own.here hAD.desk.fine l off en c hAD.desk.grp ho hn
      have HAD := hide hAD
      clear hAD
      go_wp2_with fail
      rename_i KA hKA KB hKB
      have HKB := hide hKB
      clear hKB
      refine hAl.mono ?_
      rintro r w3 ⟨rfl, k3⟩
      show KB _ _
      refine HKB.out _ _ ?_
      refine wpList_arr 7 38 c rfl rfl rfl rfl rfl rfl rfl fun W4 R4 K4 hz4 => ?_
      have hA4 := HAD.out.stay (k3.trans K4 (fun _ _ e => e))
      obtain ⟨Bc, hBc⟩ : ∃ B, B = w3.heap.size := ⟨_, rfl⟩
      rw [← hBc] at R4 ⊢
      have HI : Hid (AtDesk V W4 p Bd l off en d c ∧ RowG W4 Bc 36 c) := ⟨hA4, R4⟩
      clear HKB HAD hAl d0 d1 d2 d3 d4 d5 d6 d7 d8 d9 d10 d11 c3 hA4 R4 hBc hz4 K4 k3
      go_wp2_with fail
      go_loopw [8] (fun v8 wx => ∃ i : Nat, v8 = .int .i64 (i : Int) ∧ i ≤ 8 ∧ Hid (AtDesk V wx p Bd l off en d c ∧ RowG wx Bc 36 c)) (fun v8 _ => 8 - (intOf v8).toNat)
      case atStart => exact ⟨0, rfl, by omega, HI⟩
      case round =>
        clear HI
        obtain ⟨i, rfl, hi, HI⟩ := hrel
        by_cases hi8 : i < 8
        · have hi8' : (i : Int) < 8 := by omega
          have hAx := HI.out.1.stay ((Keeps.refl _ _).drew)
          have hRx := HI.out.2.keeps (S := fun _ => False) ((Keeps.refl _ _).drew) id
          have hL := laid6_any hAx.own.here hAx.desk.fine l off en c hAx.desk.grp ho hn i hi8
          unfold GC.val at hL
          have mkS : Hid (∀ w', AtDesk V w' p Bd l off en d c → RowG w' Bc 36 c → _ ∧ _) := fun w' h1 h2 => (⟨n12_of h1.blk, h2.five hi8⟩ : N12 _ _ _ _ _ _ _ _ _ _ _ _ _ _ ∧ _)
          have SD := mkS.out _ hAx hRx
          have HX := hide (And.intro hAx hRx)
          clear hAx hRx HI
          generalize (c i).kind = x0 at *
          generalize (c i).tag = x1 at *
          generalize (c i).key = x2 at *
          generalize (c i).elem = x3 at *
          generalize (c i).birth = x4 at *
          unfold N12 at SD
          go_wp2_with fail
          go_region_held3 (fun w' => (w'.cell? ⟨Bd, 0, none⟩ = some (.pointer (some ⟨p, 0, none⟩)) ∧ w'.cell? ⟨Bd, 1, none⟩ = some (.int .i64 l.k) ∧ w'.cell? ⟨Bd, 2, none⟩ = some (.int .i64 l.e) ∧ w'.cell? ⟨Bd, 3, none⟩ = some (.int .i64 l.a) ∧ w'.cell? ⟨Bd, 4, none⟩ = some (.int .i64 l.b) ∧ w'.cell? ⟨Bd, 5, none⟩ = some (.int .i64 l.c) ∧ w'.cell? ⟨Bd, 6, none⟩ = some (.int .i64 l.eo) ∧ w'.cell? ⟨Bd, 7, none⟩ = some (.int .i64 l.bo) ∧ w'.cell? ⟨Bd, 8, none⟩ = some (.int .i64 l.s) ∧ w'.cell? ⟨Bd, 9, none⟩ = some (.int .i64 l.g) ∧ w'.cell? ⟨Bd, 10, none⟩ = some (.int .i64 (off : Int)) ∧ w'.cell? ⟨Bd, 11, none⟩ = some (.int .i64 en)) ∧ w'.cell? ⟨Bc, i * 5, none⟩ = some (.int .i64 x0) ∧ w'.cell? ⟨Bc, i * 5 + 1, none⟩ = some (.int .i64 x1) ∧ w'.cell? ⟨Bc, i * 5 + 2, none⟩ = some (.string x2) ∧ w'.cell? ⟨Bc, i * 5 + 3, none⟩ = some (.string x3) ∧ w'.cell? ⟨Bc, i * 5 + 4, none⟩ = some (.int .i64 x4)) (first | with_reducible assumption) (first | (go_at_call 15; (with_reducible refine hL.mono ?_); rintro r w5 ⟨rfl, k5⟩; have HX5 := hide (And.intro (HX.out.1.stay k5) (HX.out.2.keeps k5 id)); have S5 := mkS.out _ HX5.out.1 HX5.out.2; unfold N12 at S5))
          clear HX hL SD S5 mkS k5
          go_wp2_with fail
          go_roundw
          case rel => exact ⟨i + 1, rfl, by omega, HX5⟩
          case measure => simp [intOf]; omega
        · have hi8' : (8 : Int) ≤ (i : Int) := by omega
          have hAx := HI.out.1
          obtain ⟨n1, n2, n3⟩ := hnums.out
          have o1 : (off : Int) ≤ 100000 := by omega
          have o2 : 0 ≤ (off : Int) - l.g := by omega
          have hW : ∀ W, Calls Tryz.prog 16 #[.string ⟨#[165]⟩, .int .i64 l.g] W fun e w' => e = .returned (.string (strOf (same l.g.toNat 165))) ∧ w' = W := fun W => by
            have := wide_any ⟨#[165]⟩ l.g.toNat W (by show (1 : Nat) ≤ _; omega) (by omega)
            rw [wideD_byte, show ((l.g.toNat : Nat) : Int) = l.g by omega] at this
            exact this
          have hR := fun W (h : AtDesk V W p Bd l off en d c) => h.beside o1 ⟨by omega, n2⟩
          generalize strOf (same l.g.toNat 165) = T at *
          have D0 := n12_of hAx.blk
          obtain ⟨d0, d1, d2, d3, d4, d5, d6, d7, d8, d9, d10, d11⟩ := D0
          have HAx := hide hAx
          clear hAx HI n3
          go_wp2_with fail
          refine (hR _ HAx.out).1.mono ?_
          rintro r w5 ⟨rfl, k5⟩
          have hA5 := HAx.out.stay k5
          have D5 := n12_of hA5.blk
          clear d0 d1 d2 d3 d4 d5 d6 d7 d8 d9 d10 d11
          obtain ⟨d0, d1, d2, d3, d4, d5, d6, d7, d8, d9, d10, d11⟩ := D5
          have HA5 := hide hA5
          clear hA5 HAx k5
          go_wp2_with fail
          refine (hR _ HA5.out).2.mono ?_
          rintro r w6 ⟨rfl, k6⟩
          have hA6 := HA5.out.stay k6
          have D6 := n12_of hA6.blk
          clear d0 d1 d2 d3 d4 d5 d6 d7 d8 d9 d10 d11
          obtain ⟨d0, d1, d2, d3, d4, d5, d6, d7, d8, d9, d10, d11⟩ := D6
          have HA6 := hide hA6
          clear hA6 HA5 k6
          go_wp2_with fail
          refine (hW _).mono ?_
          rintro r w7 ⟨rfl, rfl⟩
          go_wp2_with fail
          refine (hW _).mono ?_
          rintro r w7 ⟨rfl, rfl⟩
          go_wp2_with fail
          go_ret
          exact ⟨rfl, K0'.out.trans HA6.out.own.keeps (fun _ _ e => e)⟩
end groupBytes
end Go.Proofs.YtdnkjbbpfhegdaaGreat
