import Derived.Test.YtdnkjbbpfhegdaaGreatHGB2
import Derived.OrdersHeld
namespace Go.Proofs.YtdnkjbbpfhegdaaGreat
namespace groupStays
open Go.RowKit Go.Shelf Ly Ct
set_option linter.unusedVariables false

theorem nine5 {w : World} {b : Nat} {v0 v1 v2 v3 v4 v5 v6 v7 v8 : Value} {t : TypeId} (h : w.heap[b]? = some (.cells #[v0, v1, v2, v3, v4, v5, v6, v7, v8] t)) : w.cell? ⟨b, 4, none⟩ = some v4 ∧ w.cell? ⟨b, 5, none⟩ = some v5 ∧ w.cell? ⟨b, 6, none⟩ = some v6 ∧ w.cell? ⟨b, 7, none⟩ = some v7 ∧ w.cell? ⟨b, 8, none⟩ = some v8 := by
  simp [World.cell?, h]
theorem four_three {w : World} {b : Nat} {v0 v1 v2 v3 : Value} {t : TypeId} (h : w.heap[b]? = some (.cells #[v0, v1, v2, v3] t)) : w.cell? ⟨b, 3, none⟩ = some v3 := by
  simp [World.cell?, h]

set_option maxRecDepth 100000 in
set_option maxHeartbeats 16000000 in
theorem core (K E B I T N : Int) (xk xe : ByteArray) (a : Option Addr) (cap : Nat) (ss : List SD) (w : World) (hK : (Lit.int .i64 K).wf = true) (hE : (Lit.int .i64 E).wf = true) (hB : (Lit.int .i64 B).wf = true) (hS : RowS w a ss) (hNn : ss.length ≤ 140737488355328)
    (hI : -9223372036854775808 ≤ I ∧ I ≤ 9223372036854775807) (hT : -9223372036854775808 ≤ T ∧ T ≤ 9223372036854775807) (hNb : -9223372036854775808 ≤ N ∧ N ≤ 9223372036854775807) (hxk : xk.size ≤ 140737488355328) (hxe : xe.size ≤ 140737488355328) :
    Calls Tryz.prog 3 #[.agg #[.int .i64 K, .int .i64 E, .int .i64 B, .slice a ss.length cap, .int .i64 I, .int .i64 T, .int .i64 N, .string xk, .string xe]] w fun e w' => e = .returned (.bool true) ∧ Keeps w w' (fun _ => False) := by
  have hDk := fun V => desk_any K E B (.slice a ss.length cap) V hK hE hB
  have hv := desk_valid K E B
  have hg := desk_g K E B
  generalize deskL K E B = l at *
  obtain ⟨off, hoff⟩ : ∃ off : Nat, 16 + l.g = (off : Int) := ⟨(16 + l.g).toNat, by omega⟩
  have hoff2 : 16 + l.g.toNat = off := by omega
  obtain ⟨en, hen⟩ : ∃ en, 16 + 3 * l.g = en := ⟨_, rfl⟩
  have ho : fitsI (off : Int) := fits_nat (by omega)
  have hn : fitsI l.g := fitsI_mk (by omega) (by omega)
  unfold DeskPost at hDk
  rw [hoff, hoff2, hen] at hDk
  have hnums : Hid (136 ≤ l.g ∧ l.g ≤ 520 ∧ 16 + l.g = (off : Int)) := ⟨hg.1, hg.2, hoff⟩
  clear hK hE hB hen hoff hoff2 hg
  go_enter Tryz.func3, Tryz.ntmps3
  go_wp2_with fail
  refine alloc2 (P := fun W => Calls _ _ _ W _) fun V ha hb hz K0 => ?_
  refine (hDk _).mono ?_
  rintro e w1 ⟨p, d, rfl, hO, hD⟩
  clear hDk
  have hAD := AtX.of (AtDesk.make (en := en) hO hD)
  clear hO hD
  go_wp2_with fail
  generalize w1.alloc _ = w2 at *
  obtain ⟨Bd, hBd⟩ : ∃ B, B = w1.heap.size := ⟨_, rfl⟩
  rw [← hBd] at hAD ⊢
  have hS0 := hS.keeps K0
  have c30 := four_three hb
  have K0' := hide K0
  have ha' := hide ha
  clear hBd hS K0 hz hb ha
  go_loopw [6] (fun v6 wr => ∃ k : Nat, v6 = .int .i64 (k : Int) ∧ k ≤ ss.length ∧ Hid (∃ d c, AtX V wr p Bd (fun i => i = Bd) l off en d c)) (fun v6 _ => ss.length - (intOf v6).toNat)
  case atStart => exact ⟨0, rfl, Nat.zero_le _, _, _, hAD⟩
  case round =>
    clear hAD
    obtain ⟨k, rfl, hk, hAD⟩ := hrel
    obtain ⟨d, c, hAD⟩ := hAD.out
    have c3 := hAD.own.keeps.cellK c30
    by_cases hlt : k < ss.length
    · have hlt' : (k : Int) < (ss.length : Int) := by omega
      obtain ⟨b, o, rfl, s0, s1, s2, s3, s4, ok⟩ := hS0 k hlt
      obtain ⟨ok1, ok2, ok3, ok4, ok5⟩ := ok
      generalize ss[k].k = sk at *
      generalize ss[k].i = si at *
      generalize ss[k].t = st at *
      generalize ss[k].b = sb at *
      generalize ss[k].x = sx at *
      obtain ⟨d0, d1, d2, d3, d4, d5, d6, d7, d8, d9, d10, d11⟩ := n12_of hAD.blk
      have hAl := all_any hAD.own.here hAD.desk.fine l off en c hAD.desk.grp ho hn
      have HAD := hide hAD
      clear hAD
      go_wp2_with fail
      rename_i KA hKA KB hKB
      have HKB := hide hKB
      clear hKB
      refine hAl.mono ?_
      rintro r w3 ⟨rfl, k3⟩
      show KB _ _
      refine HKB.out _ _ ?_
      refine wpList_arr 7 35 c rfl rfl rfl rfl rfl rfl rfl fun W4 R4 K4 hz4 => ?_
      obtain ⟨Bw, hBw⟩ : ∃ B, B = w3.heap.size := ⟨_, rfl⟩
      have hX4 := (HAD.out.add (k3.trans K4 (fun _ _ e => e)) k3.size (by rw [hz4]; exact Nat.lt_succ_self _)).stay ((Keeps.refl _ (fun _ => False)).drew)
      have R4d := R4.keeps (S := fun _ => False) ((Keeps.refl _ _).drew) id
      rw [← hBw] at R4d hX4 ⊢
      clear HKB HAD hAl d0 d1 d2 d3 d4 d5 d6 d7 d8 d9 d10 d11 c3 R4 hBw hz4 K4 k3
      have hTk := take_stay hX4.own.here (fun _ h => h.2) l off en c hX4.desk ho hn sk si st sb sx ok1 ok2 ok3 ok4 ok5
      have mkS : Hid (∀ w' X d c, AtX V w' p Bd X l off en d c → (w'.cell? ⟨Bd, 0, none⟩ = some (.pointer (some ⟨p, 0, none⟩)) ∧ w'.cell? ⟨Bd, 1, none⟩ = some (.int .i64 l.k) ∧ w'.cell? ⟨Bd, 2, none⟩ = some (.int .i64 l.e) ∧ w'.cell? ⟨Bd, 3, none⟩ = some (.int .i64 l.a) ∧ w'.cell? ⟨Bd, 4, none⟩ = some (.int .i64 l.b) ∧ w'.cell? ⟨Bd, 5, none⟩ = some (.int .i64 l.c) ∧ w'.cell? ⟨Bd, 6, none⟩ = some (.int .i64 l.eo) ∧ w'.cell? ⟨Bd, 7, none⟩ = some (.int .i64 l.bo) ∧ w'.cell? ⟨Bd, 8, none⟩ = some (.int .i64 l.s) ∧ w'.cell? ⟨Bd, 9, none⟩ = some (.int .i64 l.g) ∧ w'.cell? ⟨Bd, 10, none⟩ = some (.int .i64 (off : Int)) ∧ w'.cell? ⟨Bd, 11, none⟩ = some (.int .i64 en)) ∧ w'.cell? ⟨w.heap.size + 1, 3, none⟩ = some (.slice (some ⟨b, o, none⟩) ss.length cap) ∧ w'.cell? ⟨b, o + k * 5, none⟩ = some (.int .i64 sk) ∧ w'.cell? ⟨b, o + k * 5 + 1, none⟩ = some (.int .i64 si) ∧ w'.cell? ⟨b, o + k * 5 + 2, none⟩ = some (.int .i64 st) ∧ w'.cell? ⟨b, o + k * 5 + 3, none⟩ = some (.int .i64 sb) ∧ w'.cell? ⟨b, o + k * 5 + 4, none⟩ = some (.string sx)) := fun w' X d c h => ⟨n12_of h.blk, h.own.keeps.cellK c30, h.own.keeps.cellK s0, h.own.keeps.cellK s1, h.own.keeps.cellK s2, h.own.keeps.cellK s3, h.own.keeps.cellK s4⟩
      have SD := mkS.out _ _ _ _ hX4
      have HX4 := hide (And.intro hX4 R4d)
      clear hX4 R4d
      go_wp2_with fail
      go_region_held3 (fun w' => (w'.cell? ⟨Bd, 0, none⟩ = some (.pointer (some ⟨p, 0, none⟩)) ∧ w'.cell? ⟨Bd, 1, none⟩ = some (.int .i64 l.k) ∧ w'.cell? ⟨Bd, 2, none⟩ = some (.int .i64 l.e) ∧ w'.cell? ⟨Bd, 3, none⟩ = some (.int .i64 l.a) ∧ w'.cell? ⟨Bd, 4, none⟩ = some (.int .i64 l.b) ∧ w'.cell? ⟨Bd, 5, none⟩ = some (.int .i64 l.c) ∧ w'.cell? ⟨Bd, 6, none⟩ = some (.int .i64 l.eo) ∧ w'.cell? ⟨Bd, 7, none⟩ = some (.int .i64 l.bo) ∧ w'.cell? ⟨Bd, 8, none⟩ = some (.int .i64 l.s) ∧ w'.cell? ⟨Bd, 9, none⟩ = some (.int .i64 l.g) ∧ w'.cell? ⟨Bd, 10, none⟩ = some (.int .i64 (off : Int)) ∧ w'.cell? ⟨Bd, 11, none⟩ = some (.int .i64 en)) ∧ w'.cell? ⟨w.heap.size + 1, 3, none⟩ = some (.slice (some ⟨b, o, none⟩) ss.length cap) ∧ w'.cell? ⟨b, o + k * 5, none⟩ = some (.int .i64 sk) ∧ w'.cell? ⟨b, o + k * 5 + 1, none⟩ = some (.int .i64 si) ∧ w'.cell? ⟨b, o + k * 5 + 2, none⟩ = some (.int .i64 st) ∧ w'.cell? ⟨b, o + k * 5 + 3, none⟩ = some (.int .i64 sb) ∧ w'.cell? ⟨b, o + k * 5 + 4, none⟩ = some (.string sx)) (first | with_reducible assumption) (first | (go_at_call 8; (with_reducible refine hTk.mono ?_); rintro r w5 ⟨rfl, d', c', hTu, hD', hst⟩; have HX5 := hide (And.intro (HX4.out.1.turn hTu hD') (AtX.row (Or.inr rfl) HX4.out.2 hTu)); have S5 := mkS.out _ _ _ _ HX5.out.1))
      have Hst := hide hst
      clear HX4 hTu hD' hTk SD hst
      have hAl5 := all_any HX5.out.1.own.here HX5.out.1.desk.fine l off en c' HX5.out.1.desk.grp ho hn
      obtain ⟨⟨d0, d1, d2, d3, d4, d5, d6, d7, d8, d9, d10, d11⟩, -⟩ := S5
      go_wp2_with fail
      rename_i KC hKC KD hKD
      have HKD := hide hKD
      clear hKD
      refine hAl5.mono ?_
      rintro r w6 ⟨rfl, k6⟩
      show KD _ _
      refine HKD.out _ _ ?_
      refine wpList_arr 9 44 c' rfl rfl rfl rfl rfl rfl rfl fun W7 R7 K7 hz7 => ?_
      obtain ⟨Bn, hBn⟩ : ∃ B, B = w6.heap.size := ⟨_, rfl⟩
      have hX7 := HX5.out.1.add (k6.trans K7 (fun _ _ e => e)) k6.size (by rw [hz7]; exact Nat.lt_succ_self _)
      have Q7 := HX5.out.2.keeps (k6.trans K7 (fun _ _ e => e)) id
      rw [← hBn] at R7 hX7 ⊢
      have HX7 := hide (And.intro hX7 (And.intro Q7 R7))
      clear HKD HX5 hAl5 d0 d1 d2 d3 d4 d5 d6 d7 d8 d9 d10 d11 hX7 Q7 R7 hBn hz7 K7 k6
      go_wp2_with fail
      go_loopw [10] (fun v10 wx => ∃ j : Nat, v10 = .int .i64 (j : Int) ∧ j ≤ 8 ∧ Hid (AtX V wx p Bd (fun i => ((fun i => i = Bd) i ∨ i = Bw) ∨ i = Bn) l off en d' c' ∧ RowG wx Bw 36 c ∧ RowG wx Bn 36 c')) (fun v10 _ => 8 - (intOf v10).toNat)
      case atStart => exact ⟨0, rfl, by omega, HX7⟩
      case round =>
        clear HX7
        obtain ⟨j, rfl, hj, HX7⟩ := hrel
        by_cases hj8 : j < 8
        · have hj8' : (j : Int) < 8 := by omega
          have hXd := HX7.out.1.stay ((Keeps.refl _ (fun _ => False)).drew)
          have hwd := HX7.out.2.1.keeps (S := fun _ => False) ((Keeps.refl _ _).drew) id
          have hnd := HX7.out.2.2.keeps (S := fun _ => False) ((Keeps.refl _ _).drew) id
          have HXd := hide (And.intro hXd (And.intro hwd hnd))
          have SD := (⟨hXd.own.keeps.cellK c30, hXd.own.keeps.cellK s0, hXd.own.keeps.cellK s1, hwd.five hj8, hnd.five hj8⟩ : _ ∧ _ ∧ _ ∧ _ ∧ _)
          have heq : sk % 5 ≠ 4 → (j : Int) ≠ si % 8 → c' j = c j := fun h1 h2 => Hst.out.elim (fun e => absurd e h1) (fun h => h j h2)
          have hmi : Mod6 si 8 (si % 8) := ⟨ok2, by omega, by omega, rfl⟩
          have hmk : Mod6 sk 5 (sk % 5) := ⟨ok1, by omega, by omega, rfl⟩
          clear hXd hwd hnd HX7 mkS
          generalize si % 8 = mi at *
          generalize sk % 5 = mk at *
          by_cases hji : (j : Int) = mi
          · have hb1 : ((j : Int) != mi) = false := by simp [hji]
            clear heq hji
            generalize (c j).kind = x0 at *
            generalize (c j).tag = x1 at *
            generalize (c j).key = x2 at *
            generalize (c j).elem = x3 at *
            generalize (c j).birth = x4 at *
            generalize (c' j).kind = y0 at *
            generalize (c' j).tag = y1 at *
            generalize (c' j).key = y2 at *
            generalize (c' j).elem = y3 at *
            generalize (c' j).birth = y4 at *
            go_wp2_with fail
            refine wp_region_noPanic ?_
            refine wp_region_held_drew (S := fun w' => w'.cell? ⟨w.heap.size + 1, 3, none⟩ = some (.slice (some ⟨b, o, none⟩) ss.length cap) ∧ w'.cell? ⟨b, o + k * 5, none⟩ = some (.int .i64 sk) ∧ w'.cell? ⟨b, o + k * 5 + 1, none⟩ = some (.int .i64 si) ∧ (w'.cell? ⟨Bw, j * 5, none⟩ = some (.int .i64 x0) ∧ w'.cell? ⟨Bw, j * 5 + 1, none⟩ = some (.int .i64 x1) ∧ w'.cell? ⟨Bw, j * 5 + 2, none⟩ = some (.string x2) ∧ w'.cell? ⟨Bw, j * 5 + 3, none⟩ = some (.string x3) ∧ w'.cell? ⟨Bw, j * 5 + 4, none⟩ = some (.int .i64 x4)) ∧ (w'.cell? ⟨Bn, j * 5, none⟩ = some (.int .i64 y0) ∧ w'.cell? ⟨Bn, j * 5 + 1, none⟩ = some (.int .i64 y1) ∧ w'.cell? ⟨Bn, j * 5 + 2, none⟩ = some (.string y2) ∧ w'.cell? ⟨Bn, j * 5 + 3, none⟩ = some (.string y3) ∧ w'.cell? ⟨Bn, j * 5 + 4, none⟩ = some (.int .i64 y4))) (by kernel_rfl) SD fun hH => ?_
            refine wpAnyH_take (i := 0) (oi := { dst := some 51, op := Op.move (Operand.tmp 10), type := 3, pos := "outright.go:263", after := #[], guard := none }) (v := ?_) rfl (by kernel_rfl) (by kernel_rfl) (by kernel_rfl) (fun _ _ _ h => h) (Or.inl ⟨by rfl, ?_⟩) (by assumption) ?_
            rotate_left
            · intro w hSw
              (try dsimp only at hSw)
              go_simp
              (try with_reducible rfl)
            try simp only [Act.put, List.setIfInBounds_toArray, List.set_cons_zero, List.set_cons_succ]
            refine wpAnyH_take (i := 1) (oi := { dst := some 52, op := Op.fieldAddr 24 (Operand.tmp 3) 3, type := 0, pos := "outright.go:263", after := #[], guard := none }) (v := ?_) rfl (by kernel_rfl) (by kernel_rfl) (by kernel_rfl) (fun _ _ _ h => h) (Or.inl ⟨by rfl, ?_⟩) (by assumption) ?_
            rotate_left
            · intro w hSw
              (try dsimp only at hSw)
              go_simp
              (try with_reducible rfl)
            try simp only [Act.put, List.setIfInBounds_toArray, List.set_cons_zero, List.set_cons_succ]
            refine wpAnyH_take (i := 2) (oi := { dst := some 53, op := Op.load 22 (Operand.tmp 52), type := 22, pos := "outright.go:263", after := #[{ on := 1, ground := Ground.data }], guard := none }) (v := ?_) rfl (by kernel_rfl) (by kernel_rfl) (by kernel_rfl) (fun _ _ _ h => h) (Or.inl ⟨by rfl, ?_⟩) (by assumption) ?_
            rotate_left
            · intro w hSw
              (try dsimp only at hSw)
              go_simp
              (try with_reducible rfl)
            try simp only [Act.put, List.setIfInBounds_toArray, List.set_cons_zero, List.set_cons_succ]
            refine wpAnyH_take (i := 3) (oi := { dst := some 54, op := Op.move (Operand.tmp 6), type := 3, pos := "outright.go:263", after := #[], guard := none }) (v := ?_) rfl (by kernel_rfl) (by kernel_rfl) (by kernel_rfl) (fun _ _ _ h => h) (Or.inl ⟨by rfl, ?_⟩) (by assumption) ?_
            rotate_left
            · intro w hSw
              (try dsimp only at hSw)
              go_simp
              (try with_reducible rfl)
            try simp only [Act.put, List.setIfInBounds_toArray, List.set_cons_zero, List.set_cons_succ]
            refine wpAnyH_take (i := 4) (oi := { dst := some 55, op := Op.indexAddr 22 (Operand.tmp 53) (Operand.tmp 54), type := 0, pos := "outright.go:263", after := #[{ on := 2, ground := Ground.data }, { on := 3, ground := Ground.data }], guard := none }) (v := ?_) rfl (by kernel_rfl) (by kernel_rfl) (by kernel_rfl) (fun _ _ _ h => h) (Or.inl ⟨by rfl, ?_⟩) (by assumption) ?_
            rotate_left
            · intro w hSw
              (try dsimp only at hSw)
              go_simp
              (try with_reducible rfl)
            try simp only [Act.put, List.setIfInBounds_toArray, List.set_cons_zero, List.set_cons_succ]
            refine wpAnyH_take (i := 5) (oi := { dst := some 56, op := Op.fieldAddr 40 (Operand.tmp 55) 1, type := 0, pos := "outright.go:263", after := #[{ on := 4, ground := Ground.data }], guard := none }) (v := ?_) rfl (by kernel_rfl) (by kernel_rfl) (by kernel_rfl) (fun _ _ _ h => h) (Or.inl ⟨by rfl, ?_⟩) (by assumption) ?_
            rotate_left
            · intro w hSw
              (try dsimp only at hSw)
              go_simp
              (try with_reducible rfl)
            try simp only [Act.put, List.setIfInBounds_toArray, List.set_cons_zero, List.set_cons_succ]
            refine wpAnyH_take (i := 6) (oi := { dst := some 57, op := Op.load 3 (Operand.tmp 56), type := 3, pos := "outright.go:263", after := #[{ on := 5, ground := Ground.data }], guard := none }) (v := ?_) rfl (by kernel_rfl) (by kernel_rfl) (by kernel_rfl) (fun _ _ _ h => h) (Or.inl ⟨by rfl, ?_⟩) (by assumption) ?_
            rotate_left
            · intro w hSw
              (try dsimp only at hSw)
              go_simp
              (try with_reducible rfl)
            try simp only [Act.put, List.setIfInBounds_toArray, List.set_cons_zero, List.set_cons_succ]
            refine wpAnyH_ready (rs := [7]) (by kernel_rfl) (by simp) ?_
            refine AllReadyH.cons (o := { dst := some 58, op := Op.call { callee := Callee.value (Operand.func 9), args := #[Operand.tmp 57, Operand.const (Value.int IntKind.i64 8)], argTypes := #[3, 3] }, type := 3, pos := "outright.go:263", after := #[{ on := 6, ground := Ground.data }], guard := none }) rfl (fun K hK => ?_) AllReadyH.nil
            go_simp
            go_at_call 9
            refine (mod6_is hmi _).mono ?_
            rintro r w5 ⟨rfl, rfl⟩
            refine hK.out _ _ hH fun hH5 => ?_
            try simp only [Act.put, List.setIfInBounds_toArray, List.set_cons_zero, List.set_cons_succ]
            refine wpAnyH_take (i := 8) (oi := { dst := some 59, op := Op.binOp BinOp.neq 3 (Operand.tmp 51) (Operand.tmp 58) 3, type := 4, pos := "outright.go:263", after := #[{ on := 0, ground := Ground.data }, { on := 7, ground := Ground.data }], guard := none }) (v := ?_) rfl (by kernel_rfl) (by kernel_rfl) (by kernel_rfl) (fun _ _ _ h => h) (Or.inl ⟨by rfl, ?_⟩) (by assumption) ?_
            rotate_left
            · intro w hSw
              (try dsimp only at hSw)
              go_simp
              (try with_reducible rfl)
            try simp only [Act.put, List.setIfInBounds_toArray, List.set_cons_zero, List.set_cons_succ]
            refine wpAnyH_take (i := 9) (oi := { dst := some 60, op := Op.move (Operand.tmp 59), type := 4, pos := "outright.go:263", after := #[{ on := 8, ground := Ground.data }, { on := 7, ground := Ground.chain }], guard := none }) (v := ?_) rfl (by kernel_rfl) (by kernel_rfl) (by kernel_rfl) (fun _ _ _ h => h) (Or.inl ⟨by rfl, ?_⟩) (by assumption) ?_
            rotate_left
            · intro w hSw
              (try dsimp only at hSw)
              go_simp
              (try with_reducible rfl)
            try simp only [Act.put, List.setIfInBounds_toArray, List.set_cons_zero, List.set_cons_succ]
            refine wpAnyH_take (i := 10) (oi := { dst := some 61, op := Op.fieldAddr 24 (Operand.tmp 3) 3, type := 0, pos := "outright.go:263", after := #[{ on := 9, ground := Ground.guard }], guard := some (9, true) }) (v := undef) rfl (by kernel_rfl) (by kernel_rfl) (by kernel_rfl) (fun _ _ _ h => h) (Or.inr ⟨by rfl, rfl⟩) (by assumption) ?_
            try simp only [Act.put, List.setIfInBounds_toArray, List.set_cons_zero, List.set_cons_succ]
            refine wpAnyH_take (i := 11) (oi := { dst := some 62, op := Op.load 22 (Operand.tmp 61), type := 22, pos := "outright.go:263", after := #[{ on := 10, ground := Ground.data }, { on := 9, ground := Ground.guard }], guard := some (9, true) }) (v := undef) rfl (by kernel_rfl) (by kernel_rfl) (by kernel_rfl) (fun _ _ _ h => h) (Or.inr ⟨by rfl, rfl⟩) (by assumption) ?_
            try simp only [Act.put, List.setIfInBounds_toArray, List.set_cons_zero, List.set_cons_succ]
            refine wpAnyH_take (i := 12) (oi := { dst := some 63, op := Op.move (Operand.tmp 6), type := 3, pos := "outright.go:263", after := #[{ on := 9, ground := Ground.guard }], guard := some (9, true) }) (v := undef) rfl (by kernel_rfl) (by kernel_rfl) (by kernel_rfl) (fun _ _ _ h => h) (Or.inr ⟨by rfl, rfl⟩) (by assumption) ?_
            try simp only [Act.put, List.setIfInBounds_toArray, List.set_cons_zero, List.set_cons_succ]
            refine wpAnyH_take (i := 13) (oi := { dst := some 64, op := Op.indexAddr 22 (Operand.tmp 62) (Operand.tmp 63), type := 0, pos := "outright.go:263", after := #[{ on := 11, ground := Ground.data }, { on := 12, ground := Ground.data }, { on := 9, ground := Ground.guard }], guard := some (9, true) }) (v := undef) rfl (by kernel_rfl) (by kernel_rfl) (by kernel_rfl) (fun _ _ _ h => h) (Or.inr ⟨by rfl, rfl⟩) (by assumption) ?_
            try simp only [Act.put, List.setIfInBounds_toArray, List.set_cons_zero, List.set_cons_succ]
            refine wpAnyH_take (i := 14) (oi := { dst := some 65, op := Op.fieldAddr 40 (Operand.tmp 64) 0, type := 0, pos := "outright.go:263", after := #[{ on := 13, ground := Ground.data }, { on := 9, ground := Ground.guard }], guard := some (9, true) }) (v := undef) rfl (by kernel_rfl) (by kernel_rfl) (by kernel_rfl) (fun _ _ _ h => h) (Or.inr ⟨by rfl, rfl⟩) (by assumption) ?_
            try simp only [Act.put, List.setIfInBounds_toArray, List.set_cons_zero, List.set_cons_succ]
            refine wpAnyH_take (i := 15) (oi := { dst := some 66, op := Op.load 3 (Operand.tmp 65), type := 3, pos := "outright.go:263", after := #[{ on := 14, ground := Ground.data }, { on := 9, ground := Ground.guard }], guard := some (9, true) }) (v := undef) rfl (by kernel_rfl) (by kernel_rfl) (by kernel_rfl) (fun _ _ _ h => h) (Or.inr ⟨by rfl, rfl⟩) (by assumption) ?_
            try simp only [Act.put, List.setIfInBounds_toArray, List.set_cons_zero, List.set_cons_succ]
            refine wpAnyH_take (i := 16) (oi := { dst := some 67, op := Op.call { callee := Callee.value (Operand.func 9), args := #[Operand.tmp 66, Operand.const (Value.int IntKind.i64 5)], argTypes := #[3, 3] }, type := 3, pos := "outright.go:263", after := #[{ on := 15, ground := Ground.data }, { on := 9, ground := Ground.chain }, { on := 9, ground := Ground.guard }], guard := some (9, true) }) (v := undef) rfl (by kernel_rfl) (by kernel_rfl) (by kernel_rfl) (fun _ _ _ h => h) (Or.inr ⟨by rfl, rfl⟩) (by assumption) ?_
            try simp only [Act.put, List.setIfInBounds_toArray, List.set_cons_zero, List.set_cons_succ]
            refine wpAnyH_take (i := 17) (oi := { dst := some 68, op := Op.binOp BinOp.neq 3 (Operand.tmp 67) (Operand.const (Value.int IntKind.i64 4)) 3, type := 4, pos := "outright.go:263", after := #[{ on := 16, ground := Ground.data }, { on := 9, ground := Ground.guard }], guard := some (9, true) }) (v := undef) rfl (by kernel_rfl) (by kernel_rfl) (by kernel_rfl) (fun _ _ _ h => h) (Or.inr ⟨by rfl, rfl⟩) (by assumption) ?_
            try simp only [Act.put, List.setIfInBounds_toArray, List.set_cons_zero, List.set_cons_succ]
            refine wpAnyH_take (i := 18) (oi := { dst := some 69, op := Op.pick (Operand.tmp 60) (Operand.tmp 68) (Operand.const (Value.bool false)), type := 4, pos := "outright.go:263", after := #[{ on := 9, ground := Ground.data }, { on := 17, ground := Ground.data }], guard := none }) (v := ?_) rfl (by kernel_rfl) (by kernel_rfl) (by kernel_rfl) (fun _ _ _ h => h) (Or.inl ⟨by rfl, ?_⟩) (by assumption) ?_
            rotate_left
            · intro w hSw
              (try dsimp only at hSw)
              go_simp
              (try with_reducible rfl)
            try simp only [Act.put, List.setIfInBounds_toArray, List.set_cons_zero, List.set_cons_succ]
            refine wpAnyH_take (i := 19) (oi := { dst := some 70, op := Op.move (Operand.tmp 69), type := 4, pos := "outright.go:263", after := #[{ on := 18, ground := Ground.data }, { on := 16, ground := Ground.chain }], guard := none }) (v := ?_) rfl (by kernel_rfl) (by kernel_rfl) (by kernel_rfl) (fun _ _ _ h => h) (Or.inl ⟨by rfl, ?_⟩) (by assumption) ?_
            rotate_left
            · intro w hSw
              (try dsimp only at hSw)
              go_simp
              (try with_reducible rfl)
            try simp only [Act.put, List.setIfInBounds_toArray, List.set_cons_zero, List.set_cons_succ]
            refine wpAnyH_take (i := 20) (oi := { dst := some 71, op := Op.move (Operand.tmp 10), type := 3, pos := "outright.go:263", after := #[{ on := 19, ground := Ground.guard }], guard := some (19, true) }) (v := undef) rfl (by kernel_rfl) (by kernel_rfl) (by kernel_rfl) (fun _ _ _ h => h) (Or.inr ⟨by rfl, rfl⟩) (by assumption) ?_
            try simp only [Act.put, List.setIfInBounds_toArray, List.set_cons_zero, List.set_cons_succ]
            refine wpAnyH_take (i := 21) (oi := { dst := some 72, op := Op.indexAddr 36 (Operand.tmp 7) (Operand.tmp 71), type := 0, pos := "outright.go:263", after := #[{ on := 20, ground := Ground.data }, { on := 19, ground := Ground.guard }], guard := some (19, true) }) (v := undef) rfl (by kernel_rfl) (by kernel_rfl) (by kernel_rfl) (fun _ _ _ h => h) (Or.inr ⟨by rfl, rfl⟩) (by assumption) ?_
            try simp only [Act.put, List.setIfInBounds_toArray, List.set_cons_zero, List.set_cons_succ]
            refine wpAnyH_take (i := 22) (oi := { dst := some 73, op := Op.load 35 (Operand.tmp 72), type := 35, pos := "outright.go:263", after := #[{ on := 21, ground := Ground.data }, { on := 19, ground := Ground.guard }], guard := some (19, true) }) (v := undef) rfl (by kernel_rfl) (by kernel_rfl) (by kernel_rfl) (fun _ _ _ h => h) (Or.inr ⟨by rfl, rfl⟩) (by assumption) ?_
            try simp only [Act.put, List.setIfInBounds_toArray, List.set_cons_zero, List.set_cons_succ]
            refine wpAnyH_take (i := 23) (oi := { dst := some 74, op := Op.move (Operand.tmp 10), type := 3, pos := "outright.go:263", after := #[{ on := 19, ground := Ground.guard }], guard := some (19, true) }) (v := undef) rfl (by kernel_rfl) (by kernel_rfl) (by kernel_rfl) (fun _ _ _ h => h) (Or.inr ⟨by rfl, rfl⟩) (by assumption) ?_
            try simp only [Act.put, List.setIfInBounds_toArray, List.set_cons_zero, List.set_cons_succ]
            refine wpAnyH_take (i := 24) (oi := { dst := some 75, op := Op.indexAddr 36 (Operand.tmp 9) (Operand.tmp 74), type := 0, pos := "outright.go:263", after := #[{ on := 23, ground := Ground.data }, { on := 19, ground := Ground.guard }], guard := some (19, true) }) (v := undef) rfl (by kernel_rfl) (by kernel_rfl) (by kernel_rfl) (fun _ _ _ h => h) (Or.inr ⟨by rfl, rfl⟩) (by assumption) ?_
            try simp only [Act.put, List.setIfInBounds_toArray, List.set_cons_zero, List.set_cons_succ]
            refine wpAnyH_take (i := 25) (oi := { dst := some 76, op := Op.load 35 (Operand.tmp 75), type := 35, pos := "outright.go:263", after := #[{ on := 24, ground := Ground.data }, { on := 19, ground := Ground.guard }], guard := some (19, true) }) (v := undef) rfl (by kernel_rfl) (by kernel_rfl) (by kernel_rfl) (fun _ _ _ h => h) (Or.inr ⟨by rfl, rfl⟩) (by assumption) ?_
            try simp only [Act.put, List.setIfInBounds_toArray, List.set_cons_zero, List.set_cons_succ]
            refine wpAnyH_take (i := 26) (oi := { dst := some 77, op := Op.binOp BinOp.neq 35 (Operand.tmp 73) (Operand.tmp 76) 35, type := 4, pos := "outright.go:263", after := #[{ on := 22, ground := Ground.data }, { on := 25, ground := Ground.data }, { on := 19, ground := Ground.guard }], guard := some (19, true) }) (v := undef) rfl (by kernel_rfl) (by kernel_rfl) (by kernel_rfl) (fun _ _ _ h => h) (Or.inr ⟨by rfl, rfl⟩) (by assumption) ?_
            try simp only [Act.put, List.setIfInBounds_toArray, List.set_cons_zero, List.set_cons_succ]
            refine wpAnyH_take (i := 27) (oi := { dst := some 78, op := Op.pick (Operand.tmp 70) (Operand.tmp 77) (Operand.const (Value.bool false)), type := 4, pos := "outright.go:263", after := #[{ on := 19, ground := Ground.data }, { on := 26, ground := Ground.data }], guard := none }) (v := ?_) rfl (by kernel_rfl) (by kernel_rfl) (by kernel_rfl) (fun _ _ _ h => h) (Or.inl ⟨by rfl, ?_⟩) (by assumption) ?_
            rotate_left
            · intro w hSw
              (try dsimp only at hSw)
              go_simp
              (try with_reducible rfl)
            try simp only [Act.put, List.setIfInBounds_toArray, List.set_cons_zero, List.set_cons_succ]
            refine wpAnyH_done (by kernel_rfl) (NoPanic.normal ?_) _
            clear hH hK SD
            go_wp2_with fail
            go_roundw
            case rel => exact ⟨j + 1, rfl, by omega, HXd⟩
            case measure => simp [intOf]; omega
          · have hb1 : ((j : Int) != mi) = true := by rw [bne_iff_ne]; exact hji
            by_cases hm4 : mk = 4
            · have hb2 : (mk != 4) = false := by simp [hm4]
              clear heq hji hm4
              generalize (c j).kind = x0 at *
              generalize (c j).tag = x1 at *
              generalize (c j).key = x2 at *
              generalize (c j).elem = x3 at *
              generalize (c j).birth = x4 at *
              generalize (c' j).kind = y0 at *
              generalize (c' j).tag = y1 at *
              generalize (c' j).key = y2 at *
              generalize (c' j).elem = y3 at *
              generalize (c' j).birth = y4 at *
              go_wp2_with fail
              refine wp_region_noPanic ?_
              refine wp_region_held_drew (S := fun w' => w'.cell? ⟨w.heap.size + 1, 3, none⟩ = some (.slice (some ⟨b, o, none⟩) ss.length cap) ∧ w'.cell? ⟨b, o + k * 5, none⟩ = some (.int .i64 sk) ∧ w'.cell? ⟨b, o + k * 5 + 1, none⟩ = some (.int .i64 si) ∧ (w'.cell? ⟨Bw, j * 5, none⟩ = some (.int .i64 x0) ∧ w'.cell? ⟨Bw, j * 5 + 1, none⟩ = some (.int .i64 x1) ∧ w'.cell? ⟨Bw, j * 5 + 2, none⟩ = some (.string x2) ∧ w'.cell? ⟨Bw, j * 5 + 3, none⟩ = some (.string x3) ∧ w'.cell? ⟨Bw, j * 5 + 4, none⟩ = some (.int .i64 x4)) ∧ (w'.cell? ⟨Bn, j * 5, none⟩ = some (.int .i64 y0) ∧ w'.cell? ⟨Bn, j * 5 + 1, none⟩ = some (.int .i64 y1) ∧ w'.cell? ⟨Bn, j * 5 + 2, none⟩ = some (.string y2) ∧ w'.cell? ⟨Bn, j * 5 + 3, none⟩ = some (.string y3) ∧ w'.cell? ⟨Bn, j * 5 + 4, none⟩ = some (.int .i64 y4))) (by kernel_rfl) SD fun hH => ?_
              refine wpAnyH_take (i := 0) (oi := { dst := some 51, op := Op.move (Operand.tmp 10), type := 3, pos := "outright.go:263", after := #[], guard := none }) (v := ?_) rfl (by kernel_rfl) (by kernel_rfl) (by kernel_rfl) (fun _ _ _ h => h) (Or.inl ⟨by rfl, ?_⟩) (by assumption) ?_
              rotate_left
              · intro w hSw
                (try dsimp only at hSw)
                go_simp
                (try with_reducible rfl)
              try simp only [Act.put, List.setIfInBounds_toArray, List.set_cons_zero, List.set_cons_succ]
              refine wpAnyH_take (i := 1) (oi := { dst := some 52, op := Op.fieldAddr 24 (Operand.tmp 3) 3, type := 0, pos := "outright.go:263", after := #[], guard := none }) (v := ?_) rfl (by kernel_rfl) (by kernel_rfl) (by kernel_rfl) (fun _ _ _ h => h) (Or.inl ⟨by rfl, ?_⟩) (by assumption) ?_
              rotate_left
              · intro w hSw
                (try dsimp only at hSw)
                go_simp
                (try with_reducible rfl)
              try simp only [Act.put, List.setIfInBounds_toArray, List.set_cons_zero, List.set_cons_succ]
              refine wpAnyH_take (i := 2) (oi := { dst := some 53, op := Op.load 22 (Operand.tmp 52), type := 22, pos := "outright.go:263", after := #[{ on := 1, ground := Ground.data }], guard := none }) (v := ?_) rfl (by kernel_rfl) (by kernel_rfl) (by kernel_rfl) (fun _ _ _ h => h) (Or.inl ⟨by rfl, ?_⟩) (by assumption) ?_
              rotate_left
              · intro w hSw
                (try dsimp only at hSw)
                go_simp
                (try with_reducible rfl)
              try simp only [Act.put, List.setIfInBounds_toArray, List.set_cons_zero, List.set_cons_succ]
              refine wpAnyH_take (i := 3) (oi := { dst := some 54, op := Op.move (Operand.tmp 6), type := 3, pos := "outright.go:263", after := #[], guard := none }) (v := ?_) rfl (by kernel_rfl) (by kernel_rfl) (by kernel_rfl) (fun _ _ _ h => h) (Or.inl ⟨by rfl, ?_⟩) (by assumption) ?_
              rotate_left
              · intro w hSw
                (try dsimp only at hSw)
                go_simp
                (try with_reducible rfl)
              try simp only [Act.put, List.setIfInBounds_toArray, List.set_cons_zero, List.set_cons_succ]
              refine wpAnyH_take (i := 4) (oi := { dst := some 55, op := Op.indexAddr 22 (Operand.tmp 53) (Operand.tmp 54), type := 0, pos := "outright.go:263", after := #[{ on := 2, ground := Ground.data }, { on := 3, ground := Ground.data }], guard := none }) (v := ?_) rfl (by kernel_rfl) (by kernel_rfl) (by kernel_rfl) (fun _ _ _ h => h) (Or.inl ⟨by rfl, ?_⟩) (by assumption) ?_
              rotate_left
              · intro w hSw
                (try dsimp only at hSw)
                go_simp
                (try with_reducible rfl)
              try simp only [Act.put, List.setIfInBounds_toArray, List.set_cons_zero, List.set_cons_succ]
              refine wpAnyH_take (i := 5) (oi := { dst := some 56, op := Op.fieldAddr 40 (Operand.tmp 55) 1, type := 0, pos := "outright.go:263", after := #[{ on := 4, ground := Ground.data }], guard := none }) (v := ?_) rfl (by kernel_rfl) (by kernel_rfl) (by kernel_rfl) (fun _ _ _ h => h) (Or.inl ⟨by rfl, ?_⟩) (by assumption) ?_
              rotate_left
              · intro w hSw
                (try dsimp only at hSw)
                go_simp
                (try with_reducible rfl)
              try simp only [Act.put, List.setIfInBounds_toArray, List.set_cons_zero, List.set_cons_succ]
              refine wpAnyH_take (i := 6) (oi := { dst := some 57, op := Op.load 3 (Operand.tmp 56), type := 3, pos := "outright.go:263", after := #[{ on := 5, ground := Ground.data }], guard := none }) (v := ?_) rfl (by kernel_rfl) (by kernel_rfl) (by kernel_rfl) (fun _ _ _ h => h) (Or.inl ⟨by rfl, ?_⟩) (by assumption) ?_
              rotate_left
              · intro w hSw
                (try dsimp only at hSw)
                go_simp
                (try with_reducible rfl)
              try simp only [Act.put, List.setIfInBounds_toArray, List.set_cons_zero, List.set_cons_succ]
              refine wpAnyH_ready (rs := [7]) (by kernel_rfl) (by simp) ?_
              refine AllReadyH.cons (o := { dst := some 58, op := Op.call { callee := Callee.value (Operand.func 9), args := #[Operand.tmp 57, Operand.const (Value.int IntKind.i64 8)], argTypes := #[3, 3] }, type := 3, pos := "outright.go:263", after := #[{ on := 6, ground := Ground.data }], guard := none }) rfl (fun K hK => ?_) AllReadyH.nil
              go_simp
              go_at_call 9
              refine (mod6_is hmi _).mono ?_
              rintro r w5 ⟨rfl, rfl⟩
              refine hK.out _ _ hH fun hH5 => ?_
              try simp only [Act.put, List.setIfInBounds_toArray, List.set_cons_zero, List.set_cons_succ]
              refine wpAnyH_take (i := 8) (oi := { dst := some 59, op := Op.binOp BinOp.neq 3 (Operand.tmp 51) (Operand.tmp 58) 3, type := 4, pos := "outright.go:263", after := #[{ on := 0, ground := Ground.data }, { on := 7, ground := Ground.data }], guard := none }) (v := ?_) rfl (by kernel_rfl) (by kernel_rfl) (by kernel_rfl) (fun _ _ _ h => h) (Or.inl ⟨by rfl, ?_⟩) (by assumption) ?_
              rotate_left
              · intro w hSw
                (try dsimp only at hSw)
                go_simp
                (try with_reducible rfl)
              try simp only [Act.put, List.setIfInBounds_toArray, List.set_cons_zero, List.set_cons_succ]
              refine wpAnyH_take (i := 9) (oi := { dst := some 60, op := Op.move (Operand.tmp 59), type := 4, pos := "outright.go:263", after := #[{ on := 8, ground := Ground.data }, { on := 7, ground := Ground.chain }], guard := none }) (v := ?_) rfl (by kernel_rfl) (by kernel_rfl) (by kernel_rfl) (fun _ _ _ h => h) (Or.inl ⟨by rfl, ?_⟩) (by assumption) ?_
              rotate_left
              · intro w hSw
                (try dsimp only at hSw)
                go_simp
                (try with_reducible rfl)
              try simp only [Act.put, List.setIfInBounds_toArray, List.set_cons_zero, List.set_cons_succ]
              refine wpAnyH_take (i := 10) (oi := { dst := some 61, op := Op.fieldAddr 24 (Operand.tmp 3) 3, type := 0, pos := "outright.go:263", after := #[{ on := 9, ground := Ground.guard }], guard := some (9, true) }) (v := ?_) rfl (by kernel_rfl) (by kernel_rfl) (by kernel_rfl) (fun _ _ _ h => h) (Or.inl ⟨by rfl, ?_⟩) (by assumption) ?_
              rotate_left
              · intro w hSw
                (try dsimp only at hSw)
                go_simp
                (try with_reducible rfl)
              try simp only [Act.put, List.setIfInBounds_toArray, List.set_cons_zero, List.set_cons_succ]
              refine wpAnyH_take (i := 11) (oi := { dst := some 62, op := Op.load 22 (Operand.tmp 61), type := 22, pos := "outright.go:263", after := #[{ on := 10, ground := Ground.data }, { on := 9, ground := Ground.guard }], guard := some (9, true) }) (v := ?_) rfl (by kernel_rfl) (by kernel_rfl) (by kernel_rfl) (fun _ _ _ h => h) (Or.inl ⟨by rfl, ?_⟩) (by assumption) ?_
              rotate_left
              · intro w hSw
                (try dsimp only at hSw)
                go_simp
                (try with_reducible rfl)
              try simp only [Act.put, List.setIfInBounds_toArray, List.set_cons_zero, List.set_cons_succ]
              refine wpAnyH_take (i := 12) (oi := { dst := some 63, op := Op.move (Operand.tmp 6), type := 3, pos := "outright.go:263", after := #[{ on := 9, ground := Ground.guard }], guard := some (9, true) }) (v := ?_) rfl (by kernel_rfl) (by kernel_rfl) (by kernel_rfl) (fun _ _ _ h => h) (Or.inl ⟨by rfl, ?_⟩) (by assumption) ?_
              rotate_left
              · intro w hSw
                (try dsimp only at hSw)
                go_simp
                (try with_reducible rfl)
              try simp only [Act.put, List.setIfInBounds_toArray, List.set_cons_zero, List.set_cons_succ]
              refine wpAnyH_take (i := 13) (oi := { dst := some 64, op := Op.indexAddr 22 (Operand.tmp 62) (Operand.tmp 63), type := 0, pos := "outright.go:263", after := #[{ on := 11, ground := Ground.data }, { on := 12, ground := Ground.data }, { on := 9, ground := Ground.guard }], guard := some (9, true) }) (v := ?_) rfl (by kernel_rfl) (by kernel_rfl) (by kernel_rfl) (fun _ _ _ h => h) (Or.inl ⟨by rfl, ?_⟩) (by assumption) ?_
              rotate_left
              · intro w hSw
                (try dsimp only at hSw)
                go_simp
                (try with_reducible rfl)
              try simp only [Act.put, List.setIfInBounds_toArray, List.set_cons_zero, List.set_cons_succ]
              refine wpAnyH_take (i := 14) (oi := { dst := some 65, op := Op.fieldAddr 40 (Operand.tmp 64) 0, type := 0, pos := "outright.go:263", after := #[{ on := 13, ground := Ground.data }, { on := 9, ground := Ground.guard }], guard := some (9, true) }) (v := ?_) rfl (by kernel_rfl) (by kernel_rfl) (by kernel_rfl) (fun _ _ _ h => h) (Or.inl ⟨by rfl, ?_⟩) (by assumption) ?_
              rotate_left
              · intro w hSw
                (try dsimp only at hSw)
                go_simp
                (try with_reducible rfl)
              try simp only [Act.put, List.setIfInBounds_toArray, List.set_cons_zero, List.set_cons_succ]
              refine wpAnyH_take (i := 15) (oi := { dst := some 66, op := Op.load 3 (Operand.tmp 65), type := 3, pos := "outright.go:263", after := #[{ on := 14, ground := Ground.data }, { on := 9, ground := Ground.guard }], guard := some (9, true) }) (v := ?_) rfl (by kernel_rfl) (by kernel_rfl) (by kernel_rfl) (fun _ _ _ h => h) (Or.inl ⟨by rfl, ?_⟩) (by assumption) ?_
              rotate_left
              · intro w hSw
                (try dsimp only at hSw)
                go_simp
                (try with_reducible rfl)
              try simp only [Act.put, List.setIfInBounds_toArray, List.set_cons_zero, List.set_cons_succ]
              refine wpAnyH_ready (rs := [16]) (by kernel_rfl) (by simp) ?_
              refine AllReadyH.cons (o := { dst := some 67, op := Op.call { callee := Callee.value (Operand.func 9), args := #[Operand.tmp 66, Operand.const (Value.int IntKind.i64 5)], argTypes := #[3, 3] }, type := 3, pos := "outright.go:263", after := #[{ on := 15, ground := Ground.data }, { on := 9, ground := Ground.chain }, { on := 9, ground := Ground.guard }], guard := some (9, true) }) rfl (fun K hK => ?_) AllReadyH.nil
              go_simp
              go_at_call 9
              refine (mod6_is hmk _).mono ?_
              rintro r w5 ⟨rfl, rfl⟩
              refine hK.out _ _ hH fun hH6 => ?_
              try simp only [Act.put, List.setIfInBounds_toArray, List.set_cons_zero, List.set_cons_succ]
              refine wpAnyH_take (i := 17) (oi := { dst := some 68, op := Op.binOp BinOp.neq 3 (Operand.tmp 67) (Operand.const (Value.int IntKind.i64 4)) 3, type := 4, pos := "outright.go:263", after := #[{ on := 16, ground := Ground.data }, { on := 9, ground := Ground.guard }], guard := some (9, true) }) (v := ?_) rfl (by kernel_rfl) (by kernel_rfl) (by kernel_rfl) (fun _ _ _ h => h) (Or.inl ⟨by rfl, ?_⟩) (by assumption) ?_
              rotate_left
              · intro w hSw
                (try dsimp only at hSw)
                go_simp
                (try with_reducible rfl)
              try simp only [Act.put, List.setIfInBounds_toArray, List.set_cons_zero, List.set_cons_succ]
              refine wpAnyH_take (i := 18) (oi := { dst := some 69, op := Op.pick (Operand.tmp 60) (Operand.tmp 68) (Operand.const (Value.bool false)), type := 4, pos := "outright.go:263", after := #[{ on := 9, ground := Ground.data }, { on := 17, ground := Ground.data }], guard := none }) (v := ?_) rfl (by kernel_rfl) (by kernel_rfl) (by kernel_rfl) (fun _ _ _ h => h) (Or.inl ⟨by rfl, ?_⟩) (by assumption) ?_
              rotate_left
              · intro w hSw
                (try dsimp only at hSw)
                go_simp
                (try with_reducible rfl)
              try simp only [Act.put, List.setIfInBounds_toArray, List.set_cons_zero, List.set_cons_succ]
              refine wpAnyH_take (i := 19) (oi := { dst := some 70, op := Op.move (Operand.tmp 69), type := 4, pos := "outright.go:263", after := #[{ on := 18, ground := Ground.data }, { on := 16, ground := Ground.chain }], guard := none }) (v := ?_) rfl (by kernel_rfl) (by kernel_rfl) (by kernel_rfl) (fun _ _ _ h => h) (Or.inl ⟨by rfl, ?_⟩) (by assumption) ?_
              rotate_left
              · intro w hSw
                (try dsimp only at hSw)
                go_simp
                (try with_reducible rfl)
              try simp only [Act.put, List.setIfInBounds_toArray, List.set_cons_zero, List.set_cons_succ]
              refine wpAnyH_take (i := 20) (oi := { dst := some 71, op := Op.move (Operand.tmp 10), type := 3, pos := "outright.go:263", after := #[{ on := 19, ground := Ground.guard }], guard := some (19, true) }) (v := undef) rfl (by kernel_rfl) (by kernel_rfl) (by kernel_rfl) (fun _ _ _ h => h) (Or.inr ⟨by rfl, rfl⟩) (by assumption) ?_
              try simp only [Act.put, List.setIfInBounds_toArray, List.set_cons_zero, List.set_cons_succ]
              refine wpAnyH_take (i := 21) (oi := { dst := some 72, op := Op.indexAddr 36 (Operand.tmp 7) (Operand.tmp 71), type := 0, pos := "outright.go:263", after := #[{ on := 20, ground := Ground.data }, { on := 19, ground := Ground.guard }], guard := some (19, true) }) (v := undef) rfl (by kernel_rfl) (by kernel_rfl) (by kernel_rfl) (fun _ _ _ h => h) (Or.inr ⟨by rfl, rfl⟩) (by assumption) ?_
              try simp only [Act.put, List.setIfInBounds_toArray, List.set_cons_zero, List.set_cons_succ]
              refine wpAnyH_take (i := 22) (oi := { dst := some 73, op := Op.load 35 (Operand.tmp 72), type := 35, pos := "outright.go:263", after := #[{ on := 21, ground := Ground.data }, { on := 19, ground := Ground.guard }], guard := some (19, true) }) (v := undef) rfl (by kernel_rfl) (by kernel_rfl) (by kernel_rfl) (fun _ _ _ h => h) (Or.inr ⟨by rfl, rfl⟩) (by assumption) ?_
              try simp only [Act.put, List.setIfInBounds_toArray, List.set_cons_zero, List.set_cons_succ]
              refine wpAnyH_take (i := 23) (oi := { dst := some 74, op := Op.move (Operand.tmp 10), type := 3, pos := "outright.go:263", after := #[{ on := 19, ground := Ground.guard }], guard := some (19, true) }) (v := undef) rfl (by kernel_rfl) (by kernel_rfl) (by kernel_rfl) (fun _ _ _ h => h) (Or.inr ⟨by rfl, rfl⟩) (by assumption) ?_
              try simp only [Act.put, List.setIfInBounds_toArray, List.set_cons_zero, List.set_cons_succ]
              refine wpAnyH_take (i := 24) (oi := { dst := some 75, op := Op.indexAddr 36 (Operand.tmp 9) (Operand.tmp 74), type := 0, pos := "outright.go:263", after := #[{ on := 23, ground := Ground.data }, { on := 19, ground := Ground.guard }], guard := some (19, true) }) (v := undef) rfl (by kernel_rfl) (by kernel_rfl) (by kernel_rfl) (fun _ _ _ h => h) (Or.inr ⟨by rfl, rfl⟩) (by assumption) ?_
              try simp only [Act.put, List.setIfInBounds_toArray, List.set_cons_zero, List.set_cons_succ]
              refine wpAnyH_take (i := 25) (oi := { dst := some 76, op := Op.load 35 (Operand.tmp 75), type := 35, pos := "outright.go:263", after := #[{ on := 24, ground := Ground.data }, { on := 19, ground := Ground.guard }], guard := some (19, true) }) (v := undef) rfl (by kernel_rfl) (by kernel_rfl) (by kernel_rfl) (fun _ _ _ h => h) (Or.inr ⟨by rfl, rfl⟩) (by assumption) ?_
              try simp only [Act.put, List.setIfInBounds_toArray, List.set_cons_zero, List.set_cons_succ]
              refine wpAnyH_take (i := 26) (oi := { dst := some 77, op := Op.binOp BinOp.neq 35 (Operand.tmp 73) (Operand.tmp 76) 35, type := 4, pos := "outright.go:263", after := #[{ on := 22, ground := Ground.data }, { on := 25, ground := Ground.data }, { on := 19, ground := Ground.guard }], guard := some (19, true) }) (v := undef) rfl (by kernel_rfl) (by kernel_rfl) (by kernel_rfl) (fun _ _ _ h => h) (Or.inr ⟨by rfl, rfl⟩) (by assumption) ?_
              try simp only [Act.put, List.setIfInBounds_toArray, List.set_cons_zero, List.set_cons_succ]
              refine wpAnyH_take (i := 27) (oi := { dst := some 78, op := Op.pick (Operand.tmp 70) (Operand.tmp 77) (Operand.const (Value.bool false)), type := 4, pos := "outright.go:263", after := #[{ on := 19, ground := Ground.data }, { on := 26, ground := Ground.data }], guard := none }) (v := ?_) rfl (by kernel_rfl) (by kernel_rfl) (by kernel_rfl) (fun _ _ _ h => h) (Or.inl ⟨by rfl, ?_⟩) (by assumption) ?_
              rotate_left
              · intro w hSw
                (try dsimp only at hSw)
                go_simp
                (try with_reducible rfl)
              try simp only [Act.put, List.setIfInBounds_toArray, List.set_cons_zero, List.set_cons_succ]
              refine wpAnyH_done (by kernel_rfl) (NoPanic.normal ?_) _
              clear hH hK SD
              go_wp2_with fail
              go_roundw
              case rel => exact ⟨j + 1, rfl, by omega, HXd⟩
              case measure => simp [intOf]; omega
            · have hb2 : (mk != 4) = true := by rw [bne_iff_ne]; exact hm4
              rw [heq hm4 hji] at SD
              clear heq hji hm4
              generalize (c j).kind = x0 at *
              generalize (c j).tag = x1 at *
              generalize (c j).key = x2 at *
              generalize (c j).elem = x3 at *
              generalize (c j).birth = x4 at *
              go_wp2_with fail
              refine wp_region_noPanic ?_
              refine wp_region_held_drew (S := fun w' => w'.cell? ⟨w.heap.size + 1, 3, none⟩ = some (.slice (some ⟨b, o, none⟩) ss.length cap) ∧ w'.cell? ⟨b, o + k * 5, none⟩ = some (.int .i64 sk) ∧ w'.cell? ⟨b, o + k * 5 + 1, none⟩ = some (.int .i64 si) ∧ (w'.cell? ⟨Bw, j * 5, none⟩ = some (.int .i64 x0) ∧ w'.cell? ⟨Bw, j * 5 + 1, none⟩ = some (.int .i64 x1) ∧ w'.cell? ⟨Bw, j * 5 + 2, none⟩ = some (.string x2) ∧ w'.cell? ⟨Bw, j * 5 + 3, none⟩ = some (.string x3) ∧ w'.cell? ⟨Bw, j * 5 + 4, none⟩ = some (.int .i64 x4)) ∧ (w'.cell? ⟨Bn, j * 5, none⟩ = some (.int .i64 x0) ∧ w'.cell? ⟨Bn, j * 5 + 1, none⟩ = some (.int .i64 x1) ∧ w'.cell? ⟨Bn, j * 5 + 2, none⟩ = some (.string x2) ∧ w'.cell? ⟨Bn, j * 5 + 3, none⟩ = some (.string x3) ∧ w'.cell? ⟨Bn, j * 5 + 4, none⟩ = some (.int .i64 x4))) (by kernel_rfl) SD fun hH => ?_
              refine wpAnyH_take (i := 0) (oi := { dst := some 51, op := Op.move (Operand.tmp 10), type := 3, pos := "outright.go:263", after := #[], guard := none }) (v := ?_) rfl (by kernel_rfl) (by kernel_rfl) (by kernel_rfl) (fun _ _ _ h => h) (Or.inl ⟨by rfl, ?_⟩) (by assumption) ?_
              rotate_left
              · intro w hSw
                (try dsimp only at hSw)
                go_simp
                (try with_reducible rfl)
              try simp only [Act.put, List.setIfInBounds_toArray, List.set_cons_zero, List.set_cons_succ]
              refine wpAnyH_take (i := 1) (oi := { dst := some 52, op := Op.fieldAddr 24 (Operand.tmp 3) 3, type := 0, pos := "outright.go:263", after := #[], guard := none }) (v := ?_) rfl (by kernel_rfl) (by kernel_rfl) (by kernel_rfl) (fun _ _ _ h => h) (Or.inl ⟨by rfl, ?_⟩) (by assumption) ?_
              rotate_left
              · intro w hSw
                (try dsimp only at hSw)
                go_simp
                (try with_reducible rfl)
              try simp only [Act.put, List.setIfInBounds_toArray, List.set_cons_zero, List.set_cons_succ]
              refine wpAnyH_take (i := 2) (oi := { dst := some 53, op := Op.load 22 (Operand.tmp 52), type := 22, pos := "outright.go:263", after := #[{ on := 1, ground := Ground.data }], guard := none }) (v := ?_) rfl (by kernel_rfl) (by kernel_rfl) (by kernel_rfl) (fun _ _ _ h => h) (Or.inl ⟨by rfl, ?_⟩) (by assumption) ?_
              rotate_left
              · intro w hSw
                (try dsimp only at hSw)
                go_simp
                (try with_reducible rfl)
              try simp only [Act.put, List.setIfInBounds_toArray, List.set_cons_zero, List.set_cons_succ]
              refine wpAnyH_take (i := 3) (oi := { dst := some 54, op := Op.move (Operand.tmp 6), type := 3, pos := "outright.go:263", after := #[], guard := none }) (v := ?_) rfl (by kernel_rfl) (by kernel_rfl) (by kernel_rfl) (fun _ _ _ h => h) (Or.inl ⟨by rfl, ?_⟩) (by assumption) ?_
              rotate_left
              · intro w hSw
                (try dsimp only at hSw)
                go_simp
                (try with_reducible rfl)
              try simp only [Act.put, List.setIfInBounds_toArray, List.set_cons_zero, List.set_cons_succ]
              refine wpAnyH_take (i := 4) (oi := { dst := some 55, op := Op.indexAddr 22 (Operand.tmp 53) (Operand.tmp 54), type := 0, pos := "outright.go:263", after := #[{ on := 2, ground := Ground.data }, { on := 3, ground := Ground.data }], guard := none }) (v := ?_) rfl (by kernel_rfl) (by kernel_rfl) (by kernel_rfl) (fun _ _ _ h => h) (Or.inl ⟨by rfl, ?_⟩) (by assumption) ?_
              rotate_left
              · intro w hSw
                (try dsimp only at hSw)
                go_simp
                (try with_reducible rfl)
              try simp only [Act.put, List.setIfInBounds_toArray, List.set_cons_zero, List.set_cons_succ]
              refine wpAnyH_take (i := 5) (oi := { dst := some 56, op := Op.fieldAddr 40 (Operand.tmp 55) 1, type := 0, pos := "outright.go:263", after := #[{ on := 4, ground := Ground.data }], guard := none }) (v := ?_) rfl (by kernel_rfl) (by kernel_rfl) (by kernel_rfl) (fun _ _ _ h => h) (Or.inl ⟨by rfl, ?_⟩) (by assumption) ?_
              rotate_left
              · intro w hSw
                (try dsimp only at hSw)
                go_simp
                (try with_reducible rfl)
              try simp only [Act.put, List.setIfInBounds_toArray, List.set_cons_zero, List.set_cons_succ]
              refine wpAnyH_take (i := 6) (oi := { dst := some 57, op := Op.load 3 (Operand.tmp 56), type := 3, pos := "outright.go:263", after := #[{ on := 5, ground := Ground.data }], guard := none }) (v := ?_) rfl (by kernel_rfl) (by kernel_rfl) (by kernel_rfl) (fun _ _ _ h => h) (Or.inl ⟨by rfl, ?_⟩) (by assumption) ?_
              rotate_left
              · intro w hSw
                (try dsimp only at hSw)
                go_simp
                (try with_reducible rfl)
              try simp only [Act.put, List.setIfInBounds_toArray, List.set_cons_zero, List.set_cons_succ]
              refine wpAnyH_ready (rs := [7]) (by kernel_rfl) (by simp) ?_
              refine AllReadyH.cons (o := { dst := some 58, op := Op.call { callee := Callee.value (Operand.func 9), args := #[Operand.tmp 57, Operand.const (Value.int IntKind.i64 8)], argTypes := #[3, 3] }, type := 3, pos := "outright.go:263", after := #[{ on := 6, ground := Ground.data }], guard := none }) rfl (fun K hK => ?_) AllReadyH.nil
              go_simp
              go_at_call 9
              refine (mod6_is hmi _).mono ?_
              rintro r w5 ⟨rfl, rfl⟩
              refine hK.out _ _ hH fun hH5 => ?_
              try simp only [Act.put, List.setIfInBounds_toArray, List.set_cons_zero, List.set_cons_succ]
              refine wpAnyH_take (i := 8) (oi := { dst := some 59, op := Op.binOp BinOp.neq 3 (Operand.tmp 51) (Operand.tmp 58) 3, type := 4, pos := "outright.go:263", after := #[{ on := 0, ground := Ground.data }, { on := 7, ground := Ground.data }], guard := none }) (v := ?_) rfl (by kernel_rfl) (by kernel_rfl) (by kernel_rfl) (fun _ _ _ h => h) (Or.inl ⟨by rfl, ?_⟩) (by assumption) ?_
              rotate_left
              · intro w hSw
                (try dsimp only at hSw)
                go_simp
                (try with_reducible rfl)
              try simp only [Act.put, List.setIfInBounds_toArray, List.set_cons_zero, List.set_cons_succ]
              refine wpAnyH_take (i := 9) (oi := { dst := some 60, op := Op.move (Operand.tmp 59), type := 4, pos := "outright.go:263", after := #[{ on := 8, ground := Ground.data }, { on := 7, ground := Ground.chain }], guard := none }) (v := ?_) rfl (by kernel_rfl) (by kernel_rfl) (by kernel_rfl) (fun _ _ _ h => h) (Or.inl ⟨by rfl, ?_⟩) (by assumption) ?_
              rotate_left
              · intro w hSw
                (try dsimp only at hSw)
                go_simp
                (try with_reducible rfl)
              try simp only [Act.put, List.setIfInBounds_toArray, List.set_cons_zero, List.set_cons_succ]
              refine wpAnyH_take (i := 10) (oi := { dst := some 61, op := Op.fieldAddr 24 (Operand.tmp 3) 3, type := 0, pos := "outright.go:263", after := #[{ on := 9, ground := Ground.guard }], guard := some (9, true) }) (v := ?_) rfl (by kernel_rfl) (by kernel_rfl) (by kernel_rfl) (fun _ _ _ h => h) (Or.inl ⟨by rfl, ?_⟩) (by assumption) ?_
              rotate_left
              · intro w hSw
                (try dsimp only at hSw)
                go_simp
                (try with_reducible rfl)
              try simp only [Act.put, List.setIfInBounds_toArray, List.set_cons_zero, List.set_cons_succ]
              refine wpAnyH_take (i := 11) (oi := { dst := some 62, op := Op.load 22 (Operand.tmp 61), type := 22, pos := "outright.go:263", after := #[{ on := 10, ground := Ground.data }, { on := 9, ground := Ground.guard }], guard := some (9, true) }) (v := ?_) rfl (by kernel_rfl) (by kernel_rfl) (by kernel_rfl) (fun _ _ _ h => h) (Or.inl ⟨by rfl, ?_⟩) (by assumption) ?_
              rotate_left
              · intro w hSw
                (try dsimp only at hSw)
                go_simp
                (try with_reducible rfl)
              try simp only [Act.put, List.setIfInBounds_toArray, List.set_cons_zero, List.set_cons_succ]
              refine wpAnyH_take (i := 12) (oi := { dst := some 63, op := Op.move (Operand.tmp 6), type := 3, pos := "outright.go:263", after := #[{ on := 9, ground := Ground.guard }], guard := some (9, true) }) (v := ?_) rfl (by kernel_rfl) (by kernel_rfl) (by kernel_rfl) (fun _ _ _ h => h) (Or.inl ⟨by rfl, ?_⟩) (by assumption) ?_
              rotate_left
              · intro w hSw
                (try dsimp only at hSw)
                go_simp
                (try with_reducible rfl)
              try simp only [Act.put, List.setIfInBounds_toArray, List.set_cons_zero, List.set_cons_succ]
              refine wpAnyH_take (i := 13) (oi := { dst := some 64, op := Op.indexAddr 22 (Operand.tmp 62) (Operand.tmp 63), type := 0, pos := "outright.go:263", after := #[{ on := 11, ground := Ground.data }, { on := 12, ground := Ground.data }, { on := 9, ground := Ground.guard }], guard := some (9, true) }) (v := ?_) rfl (by kernel_rfl) (by kernel_rfl) (by kernel_rfl) (fun _ _ _ h => h) (Or.inl ⟨by rfl, ?_⟩) (by assumption) ?_
              rotate_left
              · intro w hSw
                (try dsimp only at hSw)
                go_simp
                (try with_reducible rfl)
              try simp only [Act.put, List.setIfInBounds_toArray, List.set_cons_zero, List.set_cons_succ]
              refine wpAnyH_take (i := 14) (oi := { dst := some 65, op := Op.fieldAddr 40 (Operand.tmp 64) 0, type := 0, pos := "outright.go:263", after := #[{ on := 13, ground := Ground.data }, { on := 9, ground := Ground.guard }], guard := some (9, true) }) (v := ?_) rfl (by kernel_rfl) (by kernel_rfl) (by kernel_rfl) (fun _ _ _ h => h) (Or.inl ⟨by rfl, ?_⟩) (by assumption) ?_
              rotate_left
              · intro w hSw
                (try dsimp only at hSw)
                go_simp
                (try with_reducible rfl)
              try simp only [Act.put, List.setIfInBounds_toArray, List.set_cons_zero, List.set_cons_succ]
              refine wpAnyH_take (i := 15) (oi := { dst := some 66, op := Op.load 3 (Operand.tmp 65), type := 3, pos := "outright.go:263", after := #[{ on := 14, ground := Ground.data }, { on := 9, ground := Ground.guard }], guard := some (9, true) }) (v := ?_) rfl (by kernel_rfl) (by kernel_rfl) (by kernel_rfl) (fun _ _ _ h => h) (Or.inl ⟨by rfl, ?_⟩) (by assumption) ?_
              rotate_left
              · intro w hSw
                (try dsimp only at hSw)
                go_simp
                (try with_reducible rfl)
              try simp only [Act.put, List.setIfInBounds_toArray, List.set_cons_zero, List.set_cons_succ]
              refine wpAnyH_ready (rs := [16]) (by kernel_rfl) (by simp) ?_
              refine AllReadyH.cons (o := { dst := some 67, op := Op.call { callee := Callee.value (Operand.func 9), args := #[Operand.tmp 66, Operand.const (Value.int IntKind.i64 5)], argTypes := #[3, 3] }, type := 3, pos := "outright.go:263", after := #[{ on := 15, ground := Ground.data }, { on := 9, ground := Ground.chain }, { on := 9, ground := Ground.guard }], guard := some (9, true) }) rfl (fun K hK => ?_) AllReadyH.nil
              go_simp
              go_at_call 9
              refine (mod6_is hmk _).mono ?_
              rintro r w5 ⟨rfl, rfl⟩
              refine hK.out _ _ hH fun hH6 => ?_
              try simp only [Act.put, List.setIfInBounds_toArray, List.set_cons_zero, List.set_cons_succ]
              refine wpAnyH_take (i := 17) (oi := { dst := some 68, op := Op.binOp BinOp.neq 3 (Operand.tmp 67) (Operand.const (Value.int IntKind.i64 4)) 3, type := 4, pos := "outright.go:263", after := #[{ on := 16, ground := Ground.data }, { on := 9, ground := Ground.guard }], guard := some (9, true) }) (v := ?_) rfl (by kernel_rfl) (by kernel_rfl) (by kernel_rfl) (fun _ _ _ h => h) (Or.inl ⟨by rfl, ?_⟩) (by assumption) ?_
              rotate_left
              · intro w hSw
                (try dsimp only at hSw)
                go_simp
                (try with_reducible rfl)
              try simp only [Act.put, List.setIfInBounds_toArray, List.set_cons_zero, List.set_cons_succ]
              refine wpAnyH_take (i := 18) (oi := { dst := some 69, op := Op.pick (Operand.tmp 60) (Operand.tmp 68) (Operand.const (Value.bool false)), type := 4, pos := "outright.go:263", after := #[{ on := 9, ground := Ground.data }, { on := 17, ground := Ground.data }], guard := none }) (v := ?_) rfl (by kernel_rfl) (by kernel_rfl) (by kernel_rfl) (fun _ _ _ h => h) (Or.inl ⟨by rfl, ?_⟩) (by assumption) ?_
              rotate_left
              · intro w hSw
                (try dsimp only at hSw)
                go_simp
                (try with_reducible rfl)
              try simp only [Act.put, List.setIfInBounds_toArray, List.set_cons_zero, List.set_cons_succ]
              refine wpAnyH_take (i := 19) (oi := { dst := some 70, op := Op.move (Operand.tmp 69), type := 4, pos := "outright.go:263", after := #[{ on := 18, ground := Ground.data }, { on := 16, ground := Ground.chain }], guard := none }) (v := ?_) rfl (by kernel_rfl) (by kernel_rfl) (by kernel_rfl) (fun _ _ _ h => h) (Or.inl ⟨by rfl, ?_⟩) (by assumption) ?_
              rotate_left
              · intro w hSw
                (try dsimp only at hSw)
                go_simp
                (try with_reducible rfl)
              try simp only [Act.put, List.setIfInBounds_toArray, List.set_cons_zero, List.set_cons_succ]
              refine wpAnyH_take (i := 20) (oi := { dst := some 71, op := Op.move (Operand.tmp 10), type := 3, pos := "outright.go:263", after := #[{ on := 19, ground := Ground.guard }], guard := some (19, true) }) (v := ?_) rfl (by kernel_rfl) (by kernel_rfl) (by kernel_rfl) (fun _ _ _ h => h) (Or.inl ⟨by rfl, ?_⟩) (by assumption) ?_
              rotate_left
              · intro w hSw
                (try dsimp only at hSw)
                go_simp
                (try with_reducible rfl)
              try simp only [Act.put, List.setIfInBounds_toArray, List.set_cons_zero, List.set_cons_succ]
              refine wpAnyH_take (i := 21) (oi := { dst := some 72, op := Op.indexAddr 36 (Operand.tmp 7) (Operand.tmp 71), type := 0, pos := "outright.go:263", after := #[{ on := 20, ground := Ground.data }, { on := 19, ground := Ground.guard }], guard := some (19, true) }) (v := ?_) rfl (by kernel_rfl) (by kernel_rfl) (by kernel_rfl) (fun _ _ _ h => h) (Or.inl ⟨by rfl, ?_⟩) (by assumption) ?_
              rotate_left
              · intro w hSw
                (try dsimp only at hSw)
                go_simp
                (try with_reducible rfl)
              try simp only [Act.put, List.setIfInBounds_toArray, List.set_cons_zero, List.set_cons_succ]
              refine wpAnyH_take (i := 22) (oi := { dst := some 73, op := Op.load 35 (Operand.tmp 72), type := 35, pos := "outright.go:263", after := #[{ on := 21, ground := Ground.data }, { on := 19, ground := Ground.guard }], guard := some (19, true) }) (v := ?_) rfl (by kernel_rfl) (by kernel_rfl) (by kernel_rfl) (fun _ _ _ h => h) (Or.inl ⟨by rfl, ?_⟩) (by assumption) ?_
              rotate_left
              · intro w hSw
                (try dsimp only at hSw)
                go_simp
                (try with_reducible rfl)
              try simp only [Act.put, List.setIfInBounds_toArray, List.set_cons_zero, List.set_cons_succ]
              refine wpAnyH_take (i := 23) (oi := { dst := some 74, op := Op.move (Operand.tmp 10), type := 3, pos := "outright.go:263", after := #[{ on := 19, ground := Ground.guard }], guard := some (19, true) }) (v := ?_) rfl (by kernel_rfl) (by kernel_rfl) (by kernel_rfl) (fun _ _ _ h => h) (Or.inl ⟨by rfl, ?_⟩) (by assumption) ?_
              rotate_left
              · intro w hSw
                (try dsimp only at hSw)
                go_simp
                (try with_reducible rfl)
              try simp only [Act.put, List.setIfInBounds_toArray, List.set_cons_zero, List.set_cons_succ]
              refine wpAnyH_take (i := 24) (oi := { dst := some 75, op := Op.indexAddr 36 (Operand.tmp 9) (Operand.tmp 74), type := 0, pos := "outright.go:263", after := #[{ on := 23, ground := Ground.data }, { on := 19, ground := Ground.guard }], guard := some (19, true) }) (v := ?_) rfl (by kernel_rfl) (by kernel_rfl) (by kernel_rfl) (fun _ _ _ h => h) (Or.inl ⟨by rfl, ?_⟩) (by assumption) ?_
              rotate_left
              · intro w hSw
                (try dsimp only at hSw)
                go_simp
                (try with_reducible rfl)
              try simp only [Act.put, List.setIfInBounds_toArray, List.set_cons_zero, List.set_cons_succ]
              refine wpAnyH_take (i := 25) (oi := { dst := some 76, op := Op.load 35 (Operand.tmp 75), type := 35, pos := "outright.go:263", after := #[{ on := 24, ground := Ground.data }, { on := 19, ground := Ground.guard }], guard := some (19, true) }) (v := ?_) rfl (by kernel_rfl) (by kernel_rfl) (by kernel_rfl) (fun _ _ _ h => h) (Or.inl ⟨by rfl, ?_⟩) (by assumption) ?_
              rotate_left
              · intro w hSw
                (try dsimp only at hSw)
                go_simp
                (try with_reducible rfl)
              try simp only [Act.put, List.setIfInBounds_toArray, List.set_cons_zero, List.set_cons_succ]
              refine wpAnyH_take (i := 26) (oi := { dst := some 77, op := Op.binOp BinOp.neq 35 (Operand.tmp 73) (Operand.tmp 76) 35, type := 4, pos := "outright.go:263", after := #[{ on := 22, ground := Ground.data }, { on := 25, ground := Ground.data }, { on := 19, ground := Ground.guard }], guard := some (19, true) }) (v := ?_) rfl (by kernel_rfl) (by kernel_rfl) (by kernel_rfl) (fun _ _ _ h => h) (Or.inl ⟨by rfl, ?_⟩) (by assumption) ?_
              rotate_left
              · intro w hSw
                (try dsimp only at hSw)
                go_simp
                (try with_reducible rfl)
              try simp only [Act.put, List.setIfInBounds_toArray, List.set_cons_zero, List.set_cons_succ]
              refine wpAnyH_take (i := 27) (oi := { dst := some 78, op := Op.pick (Operand.tmp 70) (Operand.tmp 77) (Operand.const (Value.bool false)), type := 4, pos := "outright.go:263", after := #[{ on := 19, ground := Ground.data }, { on := 26, ground := Ground.data }], guard := none }) (v := ?_) rfl (by kernel_rfl) (by kernel_rfl) (by kernel_rfl) (fun _ _ _ h => h) (Or.inl ⟨by rfl, ?_⟩) (by assumption) ?_
              rotate_left
              · intro w hSw
                (try dsimp only at hSw)
                go_simp
                (try with_reducible rfl)
              try simp only [Act.put, List.setIfInBounds_toArray, List.set_cons_zero, List.set_cons_succ]
              refine wpAnyH_done (by kernel_rfl) (NoPanic.normal ?_) _
              clear hH hK SD
              go_wp2_with fail
              go_roundw
              case rel => exact ⟨j + 1, rfl, by omega, HXd⟩
              case measure => simp [intOf]; omega
        · have hj8' : (8 : Int) ≤ (j : Int) := by omega
          have HXl := hide (HX7.out.1.less (Y := fun i => i = Bd) (fun k e => Or.inl (Or.inl e)) rfl)
          clear HX7 Hst mkS
          go_wp2_with fail
          go_roundw
          case rel => exact ⟨k + 1, rfl, by omega, _, _, HXl.out⟩
          case measure => simp [intOf]; omega
    · have hge : (ss.length : Int) ≤ (k : Int) := by omega
      obtain ⟨n1, n2, n3⟩ := hnums.out
      have o1 : (off : Int) ≤ 100000 := by omega
      have o2 : 0 ≤ (off : Int) - l.g := by omega
      have hge2 := hAD.desk.ge
      have hR3 : ∀ W c, AtX V W p Bd (fun i => i = Bd) l off en d c → Calls Tryz.prog 10 #[.pointer (some ⟨p, 0, none⟩), .int .i64 ((off : Int) - l.g), .int .i64 (3 * l.g)] W fun e w' => ReadAPost W (strOf (d.span ((off - l.g.toNat : Nat) : Int) (3 * l.g))) 0 e w' := fun W c h => by
        have r := own_read h.own h.desk.fine ((off - l.g.toNat : Nat) : Int) (3 * l.g) (fitsI_mk (by omega) (by omega)) (fitsI_mk (by omega) (by omega))
        unfold readV at r
        rw [h.desk.good3, if_pos rfl] at r
        rw [show (off : Int) - l.g = ((off - l.g.toNat : Nat) : Int) by omega]
        exact r
      generalize strOf (d.span ((off - l.g.toNat : Nat) : Int) (3 * l.g)) = T0 at *
      have mkA : Hid (∀ W X d c, AtX V W p Bd X l off en d c → (W.cell? ⟨w.heap.size, 4, none⟩ = some (.int .i64 I) ∧ W.cell? ⟨w.heap.size, 5, none⟩ = some (.int .i64 T) ∧ W.cell? ⟨w.heap.size, 6, none⟩ = some (.int .i64 N) ∧ W.cell? ⟨w.heap.size, 7, none⟩ = some (.string xk) ∧ W.cell? ⟨w.heap.size, 8, none⟩ = some (.string xe)) ∧ (W.cell? ⟨Bd, 0, none⟩ = some (.pointer (some ⟨p, 0, none⟩)) ∧ W.cell? ⟨Bd, 1, none⟩ = some (.int .i64 l.k) ∧ W.cell? ⟨Bd, 2, none⟩ = some (.int .i64 l.e) ∧ W.cell? ⟨Bd, 3, none⟩ = some (.int .i64 l.a) ∧ W.cell? ⟨Bd, 4, none⟩ = some (.int .i64 l.b) ∧ W.cell? ⟨Bd, 5, none⟩ = some (.int .i64 l.c) ∧ W.cell? ⟨Bd, 6, none⟩ = some (.int .i64 l.eo) ∧ W.cell? ⟨Bd, 7, none⟩ = some (.int .i64 l.bo) ∧ W.cell? ⟨Bd, 8, none⟩ = some (.int .i64 l.s) ∧ W.cell? ⟨Bd, 9, none⟩ = some (.int .i64 l.g) ∧ W.cell? ⟨Bd, 10, none⟩ = some (.int .i64 (off : Int)) ∧ W.cell? ⟨Bd, 11, none⟩ = some (.int .i64 en))) := fun W X d c h => by
        have h4 := nine5 (h.own.keeps.blk ha'.out)
        exact ⟨h4, n12_of h.blk⟩
      have hAt := fun W => at_any p l (off : Int) W
      have HAD := hide hAD
      have A0 := mkA.out _ _ _ _ hAD
      clear hAD hge2 n3
      by_cases h0 : 0 ≤ I
      · by_cases h1 : I < 8
        · by_cases h2 : 0 ≤ T
          · by_cases h3 : T < 128
            · by_cases h4 : 0 ≤ N
              · by_cases h5 : (xk.size : Int) = l.k
                · by_cases h6 : (xe.size : Int) = l.e
                  · obtain ⟨i, rfl⟩ := Int.eq_ofNat_of_zero_le h0
                    have hi8 : i < 8 := by omega
                    obtain ⟨f1, f2, f3⟩ := HAD.out.desk.grp.fill hi8 (t := T) h2 (by omega) (k := xk) (e := xe) h5 h6 h4 hNb.2
                    have hFl := fun W (h : AtX V W p Bd (fun i => i = Bd) l off en d c) => gfill_any h.own.here h.desk.fine h.desk.small (fun _ q => q.2) l (off : Int) (i : Int) T xk xe N hNb.2 ho hn
                    rw [f1] at hFl
                    have hD2 := hide (HAD.out.desk.turn f2 f3)
                    clear f1 f2 f3
                    generalize (fillG d l (off : Int) (i : Int) T xk xe N).2 = dd at *
                    have hCe : ∀ W X, AtX V W p Bd X l off en dd (updC c i (GC.full T xk xe N)) → Calls Tryz.prog 13 #[.agg #[.pointer (some ⟨p, 0, none⟩), .int .i64 l.k, .int .i64 l.e, .int .i64 l.a, .int .i64 l.b, .int .i64 l.c, .int .i64 l.eo, .int .i64 l.bo, .int .i64 l.s, .int .i64 l.g, .int .i64 (off : Int)], .int .i64 (i : Int)] W fun e w' => e = .returned (.tuple #[.agg #[.int .i64 2, .int .i64 T, .string xk, .string xe, .int .i64 N], .int .i64 0]) ∧ Keeps W w' (fun _ => False) := fun W X h => by
                      have q := cell_any h.own.here h.desk.fine l (off : Int) (i : Int) ho hn
                      rw [h.desk.grp.cell hi8] at q
                      have e : updC c i (GC.full T xk xe N) i = GC.full T xk xe N := if_pos rfl
                      rw [e] at q
                      exact q
                    have hc5 : ((xk.size : Int) == l.k) = true := beq_iff_eq.2 h5
                    have hc6 : ((xe.size : Int) == l.e) = true := beq_iff_eq.2 h6
                    replace h5 := hide h5
                    replace h6 := hide h6
                    obtain ⟨⟨a4, a5, a6, a7, a8⟩, d0, d1, d2, d3, d4, d5, d6, d7, d8, d9, d10, d11⟩ := A0
                    go_wp2_with fail
                    refine (hR3 _ _ HAD.out).mono ?_
                    rintro r w5 ⟨rfl, k5⟩
                    have HA5 := hide (HAD.out.stay k5)
                    have A5 := mkA.out _ _ _ _ HA5.out
                    clear a4 a5 a6 a7 a8 d0 d1 d2 d3 d4 d5 d6 d7 d8 d9 d10 d11 HAD k5
                    obtain ⟨⟨a4, a5, a6, a7, a8⟩, d0, d1, d2, d3, d4, d5, d6, d7, d8, d9, d10, d11⟩ := A5
                    go_wp2_with fail
                    refine (hAt _).mono ?_
                    rintro r w6 ⟨rfl, k6⟩
                    have HA7 := hide ((HA5.out.stay k6).stay ((Keeps.refl _ (fun _ => False)).alloc (.cells #[.pointer (some ⟨p, 0, none⟩), .int .i64 l.k, .int .i64 l.e, .int .i64 l.a, .int .i64 l.b, .int .i64 l.c, .int .i64 l.eo, .int .i64 l.bo, .int .i64 l.s, .int .i64 l.g, .int .i64 (off : Int)] 46)))
                    have A7 := mkA.out _ _ _ _ HA7.out
                    clear a4 a5 a6 a7 a8 d0 d1 d2 d3 d4 d5 d6 d7 d8 d9 d10 d11 HA5 k6
                    obtain ⟨⟨a4, a5, a6, a7, a8⟩, d0, d1, d2, d3, d4, d5, d6, d7, d8, d9, d10, d11⟩ := A7
                    go_wp2_with fail
                    refine (hFl _ HA7.out).mono ?_
                    rintro r w8 ⟨rfl, T8⟩
                    have HA8 := hide (HA7.out.turn T8 hD2.out)
                    have KA0 : Keeps w8 w8.drew (fun _ => False) := (Keeps.refl _ _).drew
                    have SD := mkA.out _ _ _ _ (HA8.out.stay KA0)
                    clear a4 a5 a6 a7 a8 d0 d1 d2 d3 d4 d5 d6 d7 d8 d9 d10 d11 HA7 T8 hFl hR3
                    go_wp2_with fail
                    rename_i KQ hKQ
                    go_region_held3 (fun w' => (w'.cell? ⟨w.heap.size, 4, none⟩ = some (.int .i64 (i : Int)) ∧ w'.cell? ⟨w.heap.size, 5, none⟩ = some (.int .i64 T) ∧ w'.cell? ⟨w.heap.size, 6, none⟩ = some (.int .i64 N) ∧ w'.cell? ⟨w.heap.size, 7, none⟩ = some (.string xk) ∧ w'.cell? ⟨w.heap.size, 8, none⟩ = some (.string xe)) ∧ (w'.cell? ⟨Bd, 0, none⟩ = some (.pointer (some ⟨p, 0, none⟩)) ∧ w'.cell? ⟨Bd, 1, none⟩ = some (.int .i64 l.k) ∧ w'.cell? ⟨Bd, 2, none⟩ = some (.int .i64 l.e) ∧ w'.cell? ⟨Bd, 3, none⟩ = some (.int .i64 l.a) ∧ w'.cell? ⟨Bd, 4, none⟩ = some (.int .i64 l.b) ∧ w'.cell? ⟨Bd, 5, none⟩ = some (.int .i64 l.c) ∧ w'.cell? ⟨Bd, 6, none⟩ = some (.int .i64 l.eo) ∧ w'.cell? ⟨Bd, 7, none⟩ = some (.int .i64 l.bo) ∧ w'.cell? ⟨Bd, 8, none⟩ = some (.int .i64 l.s) ∧ w'.cell? ⟨Bd, 9, none⟩ = some (.int .i64 l.g) ∧ w'.cell? ⟨Bd, 10, none⟩ = some (.int .i64 (off : Int)) ∧ w'.cell? ⟨Bd, 11, none⟩ = some (.int .i64 en))) (first | with_reducible assumption | with_reducible exact mkA.out _ _ _ _ (HA8.out.stay (((Keeps.refl w8 (fun _ => False)).alloc _).drew)) | with_reducible exact mkA.out _ _ _ _ (HA8.out.stay (KA.alloc _)) | with_reducible exact mkA.out _ _ _ _ (HA8.out.stay (KC.alloc _))) (first | (go_at_call 11; (with_reducible refine (hAt _).mono ?_); rintro r wA ⟨rfl, kA⟩; have KA : Keeps w8 wA (fun _ => False) := (by first | exact KA0.trans kA (fun _ _ e => e) | exact (((Keeps.refl w8 (fun _ => False)).alloc _).drew).trans kA (fun _ _ e => e)); have SA1 := mkA.out _ _ _ _ (HA8.out.stay KA)) | (go_at_call 13; (with_reducible refine (hCe _ _ (HA8.out.stay KA)).mono ?_); rintro r wC ⟨rfl, kC⟩; have KC : Keeps w8 wC (fun _ => False) := KA.trans kC (fun _ _ e => e); have SC := mkA.out _ _ _ _ (HA8.out.stay KC); (try have hq := kC.blk (kA.blk (heap_new_drew _ _)); have hbn : w8.heap.size < w8.heap.size → False := (fun q => absurd q (Nat.lt_irrefl _)); have SS := five_set (v0 := .int .i64 2) (v1 := .int .i64 T) (v2 := .string xk) (v3 := .string xe) (v4 := .int .i64 N) (P := fun w' => (w'.cell? ⟨w.heap.size, 4, none⟩ = some (.int .i64 (i : Int)) ∧ w'.cell? ⟨w.heap.size, 5, none⟩ = some (.int .i64 T) ∧ w'.cell? ⟨w.heap.size, 6, none⟩ = some (.int .i64 N) ∧ w'.cell? ⟨w.heap.size, 7, none⟩ = some (.string xk) ∧ w'.cell? ⟨w.heap.size, 8, none⟩ = some (.string xe)) ∧ (w'.cell? ⟨Bd, 0, none⟩ = some (.pointer (some ⟨p, 0, none⟩)) ∧ w'.cell? ⟨Bd, 1, none⟩ = some (.int .i64 l.k) ∧ w'.cell? ⟨Bd, 2, none⟩ = some (.int .i64 l.e) ∧ w'.cell? ⟨Bd, 3, none⟩ = some (.int .i64 l.a) ∧ w'.cell? ⟨Bd, 4, none⟩ = some (.int .i64 l.b) ∧ w'.cell? ⟨Bd, 5, none⟩ = some (.int .i64 l.c) ∧ w'.cell? ⟨Bd, 6, none⟩ = some (.int .i64 l.eo) ∧ w'.cell? ⟨Bd, 7, none⟩ = some (.int .i64 l.bo) ∧ w'.cell? ⟨Bd, 8, none⟩ = some (.int .i64 l.s) ∧ w'.cell? ⟨Bd, 9, none⟩ = some (.int .i64 l.g) ∧ w'.cell? ⟨Bd, 10, none⟩ = some (.int .i64 (off : Int)) ∧ w'.cell? ⟨Bd, 11, none⟩ = some (.int .i64 en))) hq KC hbn (fun w9 _ k9 _ => mkA.out _ _ _ _ (HA8.out.stay k9)); obtain ⟨q0, q1, q2, q3, q4, q5, q6, q7, q8, q9⟩ := five_cells hq)) | (go_at_call 13; (with_reducible refine (hCe _ _ (HA8.out.stay (KA.alloc _))).mono ?_); rintro r wC ⟨rfl, kC⟩; have KC : Keeps w8 wC (fun _ => False) := (KA.alloc _).trans kC (fun _ _ e => e); have SC := mkA.out _ _ _ _ (HA8.out.stay KC); have hq := kC.blk (heap_alloc_new _ _); have hbn : wA.heap.size < w8.heap.size → False := (fun q => absurd q (Nat.not_lt.2 KA.size)); have SS := five_set (v0 := .int .i64 2) (v1 := .int .i64 T) (v2 := .string xk) (v3 := .string xe) (v4 := .int .i64 N) (P := fun w' => (w'.cell? ⟨w.heap.size, 4, none⟩ = some (.int .i64 (i : Int)) ∧ w'.cell? ⟨w.heap.size, 5, none⟩ = some (.int .i64 T) ∧ w'.cell? ⟨w.heap.size, 6, none⟩ = some (.int .i64 N) ∧ w'.cell? ⟨w.heap.size, 7, none⟩ = some (.string xk) ∧ w'.cell? ⟨w.heap.size, 8, none⟩ = some (.string xe)) ∧ (w'.cell? ⟨Bd, 0, none⟩ = some (.pointer (some ⟨p, 0, none⟩)) ∧ w'.cell? ⟨Bd, 1, none⟩ = some (.int .i64 l.k) ∧ w'.cell? ⟨Bd, 2, none⟩ = some (.int .i64 l.e) ∧ w'.cell? ⟨Bd, 3, none⟩ = some (.int .i64 l.a) ∧ w'.cell? ⟨Bd, 4, none⟩ = some (.int .i64 l.b) ∧ w'.cell? ⟨Bd, 5, none⟩ = some (.int .i64 l.c) ∧ w'.cell? ⟨Bd, 6, none⟩ = some (.int .i64 l.eo) ∧ w'.cell? ⟨Bd, 7, none⟩ = some (.int .i64 l.bo) ∧ w'.cell? ⟨Bd, 8, none⟩ = some (.int .i64 l.s) ∧ w'.cell? ⟨Bd, 9, none⟩ = some (.int .i64 l.g) ∧ w'.cell? ⟨Bd, 10, none⟩ = some (.int .i64 (off : Int)) ∧ w'.cell? ⟨Bd, 11, none⟩ = some (.int .i64 en))) hq KC hbn (fun w9 _ k9 _ => mkA.out _ _ _ _ (HA8.out.stay k9)); obtain ⟨q0, q1, q2, q3, q4, q5, q6, q7, q8, q9⟩ := five_cells hq))
                    · show KQ _ _
                      refine alloc1 (P := fun W => KQ _ W) fun W9 hb9 hz9 k9 => ?_
                      have K9 : Keeps w8 W9 (fun _ => False) := KC.trans k9 (fun _ _ e => e)
                      have HA9 := hide (HA8.out.stay K9)
                      obtain ⟨q0, q1, q2, q3, q4, -⟩ := five_cells hb9
                      obtain ⟨⟨a4, a5, a6, a7, a8⟩, -⟩ := mkA.out _ _ _ _ HA9.out
                      clear SD SA1 SC KA0 KA KC HA8
                      go_wp2_with fail
                      go_ret
                      exact ⟨rfl, K0'.out.trans HA9.out.own.keeps (fun _ _ e => e)⟩
                    · show KQ _ _
                      clear q0 q1 q2 q3 q4 q5 q6 q7 q8 q9 SS
                      refine five_set (P := fun W => KQ _ W) hq KC hbn (fun W9 hb9 K9 _ => ?_)
                      have HA9 := hide (HA8.out.stay K9)
                      obtain ⟨q0, q1, q2, q3, q4, -⟩ := five_cells hb9
                      obtain ⟨⟨a4, a5, a6, a7, a8⟩, -⟩ := mkA.out _ _ _ _ HA9.out
                      clear SD SA1 SC KA0 KA KC HA8
                      go_wp2_with fail
                      go_ret
                      exact ⟨rfl, K0'.out.trans HA9.out.own.keeps (fun _ _ e => e)⟩
                    · show KQ _ _
                      clear q0 q1 q2 q3 q4 q5 q6 q7 q8 q9 SS
                      refine five_set (P := fun W => KQ _ W) hq KC hbn (fun W9 hb9 K9 _ => ?_)
                      have HA9 := hide (HA8.out.stay K9)
                      obtain ⟨q0, q1, q2, q3, q4, -⟩ := five_cells hb9
                      obtain ⟨⟨a4, a5, a6, a7, a8⟩, -⟩ := mkA.out _ _ _ _ HA9.out
                      clear SD SA1 SC KA0 KA KC HA8
                      go_wp2_with fail
                      go_ret
                      exact ⟨rfl, K0'.out.trans HA9.out.own.keeps (fun _ _ e => e)⟩
                  · have hEr : fillErr l I T xk.size xe.size N ≠ 0 := fun e => by
                      obtain ⟨q1, q2, q3, q4, q5⟩ := fillErr_zero e
                      omega
                    have hFl := fun W (h : AtX V W p Bd (fun i => i = Bd) l off en d c) => gfill_any h.own.here h.desk.fine h.desk.small (fun _ q => q.2) l (off : Int) I T xk xe N (by omega) ho hn
                    have hfg : fillG d l (off : Int) I T xk xe N = (fillErr l I T xk.size xe.size N, d) := by unfold fillG; rw [if_neg hEr]
                    rw [hfg] at hFl
                    generalize fillErr l I T xk.size xe.size N = ER at *
                    have hEb : (ER == 0) = false := beq_eq_false_iff_ne.2 hEr
                    have hc5 : ((xk.size : Int) == l.k) = true := beq_iff_eq.2 h5
                    have hc6 : ((xe.size : Int) == l.e) = false := beq_eq_false_iff_ne.2 h6
                    replace h5 := hide h5
                    replace h6 := hide h6
                    clear hfg
                    obtain ⟨⟨a4, a5, a6, a7, a8⟩, d0, d1, d2, d3, d4, d5, d6, d7, d8, d9, d10, d11⟩ := A0
                    go_wp2_with fail
                    refine (hR3 _ _ HAD.out).mono ?_
                    rintro r w5 ⟨rfl, k5⟩
                    have HA5 := hide (HAD.out.stay k5)
                    have A5 := mkA.out _ _ _ _ HA5.out
                    clear a4 a5 a6 a7 a8 d0 d1 d2 d3 d4 d5 d6 d7 d8 d9 d10 d11 HAD k5
                    obtain ⟨⟨a4, a5, a6, a7, a8⟩, d0, d1, d2, d3, d4, d5, d6, d7, d8, d9, d10, d11⟩ := A5
                    go_wp2_with fail
                    refine (hAt _).mono ?_
                    rintro r w6 ⟨rfl, k6⟩
                    have HA7 := hide ((HA5.out.stay k6).stay ((Keeps.refl _ (fun _ => False)).alloc (.cells #[.pointer (some ⟨p, 0, none⟩), .int .i64 l.k, .int .i64 l.e, .int .i64 l.a, .int .i64 l.b, .int .i64 l.c, .int .i64 l.eo, .int .i64 l.bo, .int .i64 l.s, .int .i64 l.g, .int .i64 (off : Int)] 46)))
                    have A7 := mkA.out _ _ _ _ HA7.out
                    clear a4 a5 a6 a7 a8 d0 d1 d2 d3 d4 d5 d6 d7 d8 d9 d10 d11 HA5 k6
                    obtain ⟨⟨a4, a5, a6, a7, a8⟩, d0, d1, d2, d3, d4, d5, d6, d7, d8, d9, d10, d11⟩ := A7
                    go_wp2_with fail
                    refine (hFl _ HA7.out).mono ?_
                    rintro r w8 ⟨rfl, T8⟩
                    have HA8 := hide (HA7.out.turn T8 HA7.out.desk)
                    have A8 := mkA.out _ _ _ _ HA8.out
                    clear a4 a5 a6 a7 a8 d0 d1 d2 d3 d4 d5 d6 d7 d8 d9 d10 d11 HA7 T8
                    obtain ⟨⟨a4, a5, a6, a7, a8⟩, d0, d1, d2, d3, d4, d5, d6, d7, d8, d9, d10, d11⟩ := A8
                    go_wp2_with fail
                    refine (hR3 _ _ HA8.out).mono ?_
                    rintro r w9 ⟨rfl, k9⟩
                    have HA9 := hide (HA8.out.stay k9)
                    clear a4 a5 a6 a7 a8 d0 d1 d2 d3 d4 d5 d6 d7 d8 d9 d10 d11 HA8 k9
                    go_wp2_with fail
                    go_ret
                    exact ⟨rfl, K0'.out.trans HA9.out.own.keeps (fun _ _ e => e)⟩
                · have hEr : fillErr l I T xk.size xe.size N ≠ 0 := fun e => by
                    obtain ⟨q1, q2, q3, q4, q5⟩ := fillErr_zero e
                    omega
                  have hFl := fun W (h : AtX V W p Bd (fun i => i = Bd) l off en d c) => gfill_any h.own.here h.desk.fine h.desk.small (fun _ q => q.2) l (off : Int) I T xk xe N (by omega) ho hn
                  have hfg : fillG d l (off : Int) I T xk xe N = (fillErr l I T xk.size xe.size N, d) := by unfold fillG; rw [if_neg hEr]
                  rw [hfg] at hFl
                  generalize fillErr l I T xk.size xe.size N = ER at *
                  have hEb : (ER == 0) = false := beq_eq_false_iff_ne.2 hEr
                  have hc5 : ((xk.size : Int) == l.k) = false := beq_eq_false_iff_ne.2 h5
                  replace h5 := hide h5
                  clear hfg
                  obtain ⟨⟨a4, a5, a6, a7, a8⟩, d0, d1, d2, d3, d4, d5, d6, d7, d8, d9, d10, d11⟩ := A0
                  go_wp2_with fail
                  refine (hR3 _ _ HAD.out).mono ?_
                  rintro r w5 ⟨rfl, k5⟩
                  have HA5 := hide (HAD.out.stay k5)
                  have A5 := mkA.out _ _ _ _ HA5.out
                  clear a4 a5 a6 a7 a8 d0 d1 d2 d3 d4 d5 d6 d7 d8 d9 d10 d11 HAD k5
                  obtain ⟨⟨a4, a5, a6, a7, a8⟩, d0, d1, d2, d3, d4, d5, d6, d7, d8, d9, d10, d11⟩ := A5
                  go_wp2_with fail
                  refine (hAt _).mono ?_
                  rintro r w6 ⟨rfl, k6⟩
                  have HA7 := hide ((HA5.out.stay k6).stay ((Keeps.refl _ (fun _ => False)).alloc (.cells #[.pointer (some ⟨p, 0, none⟩), .int .i64 l.k, .int .i64 l.e, .int .i64 l.a, .int .i64 l.b, .int .i64 l.c, .int .i64 l.eo, .int .i64 l.bo, .int .i64 l.s, .int .i64 l.g, .int .i64 (off : Int)] 46)))
                  have A7 := mkA.out _ _ _ _ HA7.out
                  clear a4 a5 a6 a7 a8 d0 d1 d2 d3 d4 d5 d6 d7 d8 d9 d10 d11 HA5 k6
                  obtain ⟨⟨a4, a5, a6, a7, a8⟩, d0, d1, d2, d3, d4, d5, d6, d7, d8, d9, d10, d11⟩ := A7
                  go_wp2_with fail
                  refine (hFl _ HA7.out).mono ?_
                  rintro r w8 ⟨rfl, T8⟩
                  have HA8 := hide (HA7.out.turn T8 HA7.out.desk)
                  have A8 := mkA.out _ _ _ _ HA8.out
                  clear a4 a5 a6 a7 a8 d0 d1 d2 d3 d4 d5 d6 d7 d8 d9 d10 d11 HA7 T8
                  obtain ⟨⟨a4, a5, a6, a7, a8⟩, d0, d1, d2, d3, d4, d5, d6, d7, d8, d9, d10, d11⟩ := A8
                  go_wp2_with fail
                  refine (hR3 _ _ HA8.out).mono ?_
                  rintro r w9 ⟨rfl, k9⟩
                  have HA9 := hide (HA8.out.stay k9)
                  clear a4 a5 a6 a7 a8 d0 d1 d2 d3 d4 d5 d6 d7 d8 d9 d10 d11 HA8 k9
                  go_wp2_with fail
                  go_ret
                  exact ⟨rfl, K0'.out.trans HA9.out.own.keeps (fun _ _ e => e)⟩
              · have hEr : fillErr l I T xk.size xe.size N ≠ 0 := fun e => by
                  obtain ⟨q1, q2, q3, q4, q5⟩ := fillErr_zero e
                  omega
                have hFl := fun W (h : AtX V W p Bd (fun i => i = Bd) l off en d c) => gfill_any h.own.here h.desk.fine h.desk.small (fun _ q => q.2) l (off : Int) I T xk xe N (by omega) ho hn
                have hfg : fillG d l (off : Int) I T xk xe N = (fillErr l I T xk.size xe.size N, d) := by unfold fillG; rw [if_neg hEr]
                rw [hfg] at hFl
                generalize fillErr l I T xk.size xe.size N = ER at *
                have hEb : (ER == 0) = false := beq_eq_false_iff_ne.2 hEr
                clear hfg
                obtain ⟨⟨a4, a5, a6, a7, a8⟩, d0, d1, d2, d3, d4, d5, d6, d7, d8, d9, d10, d11⟩ := A0
                go_wp2_with fail
                refine (hR3 _ _ HAD.out).mono ?_
                rintro r w5 ⟨rfl, k5⟩
                have HA5 := hide (HAD.out.stay k5)
                have A5 := mkA.out _ _ _ _ HA5.out
                clear a4 a5 a6 a7 a8 d0 d1 d2 d3 d4 d5 d6 d7 d8 d9 d10 d11 HAD k5
                obtain ⟨⟨a4, a5, a6, a7, a8⟩, d0, d1, d2, d3, d4, d5, d6, d7, d8, d9, d10, d11⟩ := A5
                go_wp2_with fail
                refine (hAt _).mono ?_
                rintro r w6 ⟨rfl, k6⟩
                have HA7 := hide ((HA5.out.stay k6).stay ((Keeps.refl _ (fun _ => False)).alloc (.cells #[.pointer (some ⟨p, 0, none⟩), .int .i64 l.k, .int .i64 l.e, .int .i64 l.a, .int .i64 l.b, .int .i64 l.c, .int .i64 l.eo, .int .i64 l.bo, .int .i64 l.s, .int .i64 l.g, .int .i64 (off : Int)] 46)))
                have A7 := mkA.out _ _ _ _ HA7.out
                clear a4 a5 a6 a7 a8 d0 d1 d2 d3 d4 d5 d6 d7 d8 d9 d10 d11 HA5 k6
                obtain ⟨⟨a4, a5, a6, a7, a8⟩, d0, d1, d2, d3, d4, d5, d6, d7, d8, d9, d10, d11⟩ := A7
                go_wp2_with fail
                refine (hFl _ HA7.out).mono ?_
                rintro r w8 ⟨rfl, T8⟩
                have HA8 := hide (HA7.out.turn T8 HA7.out.desk)
                have A8 := mkA.out _ _ _ _ HA8.out
                clear a4 a5 a6 a7 a8 d0 d1 d2 d3 d4 d5 d6 d7 d8 d9 d10 d11 HA7 T8
                obtain ⟨⟨a4, a5, a6, a7, a8⟩, d0, d1, d2, d3, d4, d5, d6, d7, d8, d9, d10, d11⟩ := A8
                go_wp2_with fail
                refine (hR3 _ _ HA8.out).mono ?_
                rintro r w9 ⟨rfl, k9⟩
                have HA9 := hide (HA8.out.stay k9)
                clear a4 a5 a6 a7 a8 d0 d1 d2 d3 d4 d5 d6 d7 d8 d9 d10 d11 HA8 k9
                go_wp2_with fail
                go_ret
                exact ⟨rfl, K0'.out.trans HA9.out.own.keeps (fun _ _ e => e)⟩
            · have hEr : fillErr l I T xk.size xe.size N ≠ 0 := fun e => by
                obtain ⟨q1, q2, q3, q4, q5⟩ := fillErr_zero e
                omega
              have hFl := fun W (h : AtX V W p Bd (fun i => i = Bd) l off en d c) => gfill_any h.own.here h.desk.fine h.desk.small (fun _ q => q.2) l (off : Int) I T xk xe N (by omega) ho hn
              have hfg : fillG d l (off : Int) I T xk xe N = (fillErr l I T xk.size xe.size N, d) := by unfold fillG; rw [if_neg hEr]
              rw [hfg] at hFl
              generalize fillErr l I T xk.size xe.size N = ER at *
              have hEb : (ER == 0) = false := beq_eq_false_iff_ne.2 hEr
              clear hfg
              obtain ⟨⟨a4, a5, a6, a7, a8⟩, d0, d1, d2, d3, d4, d5, d6, d7, d8, d9, d10, d11⟩ := A0
              go_wp2_with fail
              refine (hR3 _ _ HAD.out).mono ?_
              rintro r w5 ⟨rfl, k5⟩
              have HA5 := hide (HAD.out.stay k5)
              have A5 := mkA.out _ _ _ _ HA5.out
              clear a4 a5 a6 a7 a8 d0 d1 d2 d3 d4 d5 d6 d7 d8 d9 d10 d11 HAD k5
              obtain ⟨⟨a4, a5, a6, a7, a8⟩, d0, d1, d2, d3, d4, d5, d6, d7, d8, d9, d10, d11⟩ := A5
              go_wp2_with fail
              refine (hAt _).mono ?_
              rintro r w6 ⟨rfl, k6⟩
              have HA7 := hide ((HA5.out.stay k6).stay ((Keeps.refl _ (fun _ => False)).alloc (.cells #[.pointer (some ⟨p, 0, none⟩), .int .i64 l.k, .int .i64 l.e, .int .i64 l.a, .int .i64 l.b, .int .i64 l.c, .int .i64 l.eo, .int .i64 l.bo, .int .i64 l.s, .int .i64 l.g, .int .i64 (off : Int)] 46)))
              have A7 := mkA.out _ _ _ _ HA7.out
              clear a4 a5 a6 a7 a8 d0 d1 d2 d3 d4 d5 d6 d7 d8 d9 d10 d11 HA5 k6
              obtain ⟨⟨a4, a5, a6, a7, a8⟩, d0, d1, d2, d3, d4, d5, d6, d7, d8, d9, d10, d11⟩ := A7
              go_wp2_with fail
              refine (hFl _ HA7.out).mono ?_
              rintro r w8 ⟨rfl, T8⟩
              have HA8 := hide (HA7.out.turn T8 HA7.out.desk)
              have A8 := mkA.out _ _ _ _ HA8.out
              clear a4 a5 a6 a7 a8 d0 d1 d2 d3 d4 d5 d6 d7 d8 d9 d10 d11 HA7 T8
              obtain ⟨⟨a4, a5, a6, a7, a8⟩, d0, d1, d2, d3, d4, d5, d6, d7, d8, d9, d10, d11⟩ := A8
              go_wp2_with fail
              refine (hR3 _ _ HA8.out).mono ?_
              rintro r w9 ⟨rfl, k9⟩
              have HA9 := hide (HA8.out.stay k9)
              clear a4 a5 a6 a7 a8 d0 d1 d2 d3 d4 d5 d6 d7 d8 d9 d10 d11 HA8 k9
              go_wp2_with fail
              go_ret
              exact ⟨rfl, K0'.out.trans HA9.out.own.keeps (fun _ _ e => e)⟩
          · have hEr : fillErr l I T xk.size xe.size N ≠ 0 := fun e => by
              obtain ⟨q1, q2, q3, q4, q5⟩ := fillErr_zero e
              omega
            have hFl := fun W (h : AtX V W p Bd (fun i => i = Bd) l off en d c) => gfill_any h.own.here h.desk.fine h.desk.small (fun _ q => q.2) l (off : Int) I T xk xe N (by omega) ho hn
            have hfg : fillG d l (off : Int) I T xk xe N = (fillErr l I T xk.size xe.size N, d) := by unfold fillG; rw [if_neg hEr]
            rw [hfg] at hFl
            generalize fillErr l I T xk.size xe.size N = ER at *
            have hEb : (ER == 0) = false := beq_eq_false_iff_ne.2 hEr
            clear hfg
            obtain ⟨⟨a4, a5, a6, a7, a8⟩, d0, d1, d2, d3, d4, d5, d6, d7, d8, d9, d10, d11⟩ := A0
            go_wp2_with fail
            refine (hR3 _ _ HAD.out).mono ?_
            rintro r w5 ⟨rfl, k5⟩
            have HA5 := hide (HAD.out.stay k5)
            have A5 := mkA.out _ _ _ _ HA5.out
            clear a4 a5 a6 a7 a8 d0 d1 d2 d3 d4 d5 d6 d7 d8 d9 d10 d11 HAD k5
            obtain ⟨⟨a4, a5, a6, a7, a8⟩, d0, d1, d2, d3, d4, d5, d6, d7, d8, d9, d10, d11⟩ := A5
            go_wp2_with fail
            refine (hAt _).mono ?_
            rintro r w6 ⟨rfl, k6⟩
            have HA7 := hide ((HA5.out.stay k6).stay ((Keeps.refl _ (fun _ => False)).alloc (.cells #[.pointer (some ⟨p, 0, none⟩), .int .i64 l.k, .int .i64 l.e, .int .i64 l.a, .int .i64 l.b, .int .i64 l.c, .int .i64 l.eo, .int .i64 l.bo, .int .i64 l.s, .int .i64 l.g, .int .i64 (off : Int)] 46)))
            have A7 := mkA.out _ _ _ _ HA7.out
            clear a4 a5 a6 a7 a8 d0 d1 d2 d3 d4 d5 d6 d7 d8 d9 d10 d11 HA5 k6
            obtain ⟨⟨a4, a5, a6, a7, a8⟩, d0, d1, d2, d3, d4, d5, d6, d7, d8, d9, d10, d11⟩ := A7
            go_wp2_with fail
            refine (hFl _ HA7.out).mono ?_
            rintro r w8 ⟨rfl, T8⟩
            have HA8 := hide (HA7.out.turn T8 HA7.out.desk)
            have A8 := mkA.out _ _ _ _ HA8.out
            clear a4 a5 a6 a7 a8 d0 d1 d2 d3 d4 d5 d6 d7 d8 d9 d10 d11 HA7 T8
            obtain ⟨⟨a4, a5, a6, a7, a8⟩, d0, d1, d2, d3, d4, d5, d6, d7, d8, d9, d10, d11⟩ := A8
            go_wp2_with fail
            refine (hR3 _ _ HA8.out).mono ?_
            rintro r w9 ⟨rfl, k9⟩
            have HA9 := hide (HA8.out.stay k9)
            clear a4 a5 a6 a7 a8 d0 d1 d2 d3 d4 d5 d6 d7 d8 d9 d10 d11 HA8 k9
            go_wp2_with fail
            go_ret
            exact ⟨rfl, K0'.out.trans HA9.out.own.keeps (fun _ _ e => e)⟩
        · have hEr : fillErr l I T xk.size xe.size N ≠ 0 := fun e => by
            obtain ⟨q1, q2, q3, q4, q5⟩ := fillErr_zero e
            omega
          have hFl := fun W (h : AtX V W p Bd (fun i => i = Bd) l off en d c) => gfill_any h.own.here h.desk.fine h.desk.small (fun _ q => q.2) l (off : Int) I T xk xe N (by omega) ho hn
          have hfg : fillG d l (off : Int) I T xk xe N = (fillErr l I T xk.size xe.size N, d) := by unfold fillG; rw [if_neg hEr]
          rw [hfg] at hFl
          generalize fillErr l I T xk.size xe.size N = ER at *
          have hEb : (ER == 0) = false := beq_eq_false_iff_ne.2 hEr
          clear hfg
          obtain ⟨⟨a4, a5, a6, a7, a8⟩, d0, d1, d2, d3, d4, d5, d6, d7, d8, d9, d10, d11⟩ := A0
          go_wp2_with fail
          refine (hR3 _ _ HAD.out).mono ?_
          rintro r w5 ⟨rfl, k5⟩
          have HA5 := hide (HAD.out.stay k5)
          have A5 := mkA.out _ _ _ _ HA5.out
          clear a4 a5 a6 a7 a8 d0 d1 d2 d3 d4 d5 d6 d7 d8 d9 d10 d11 HAD k5
          obtain ⟨⟨a4, a5, a6, a7, a8⟩, d0, d1, d2, d3, d4, d5, d6, d7, d8, d9, d10, d11⟩ := A5
          go_wp2_with fail
          refine (hAt _).mono ?_
          rintro r w6 ⟨rfl, k6⟩
          have HA7 := hide ((HA5.out.stay k6).stay ((Keeps.refl _ (fun _ => False)).alloc (.cells #[.pointer (some ⟨p, 0, none⟩), .int .i64 l.k, .int .i64 l.e, .int .i64 l.a, .int .i64 l.b, .int .i64 l.c, .int .i64 l.eo, .int .i64 l.bo, .int .i64 l.s, .int .i64 l.g, .int .i64 (off : Int)] 46)))
          have A7 := mkA.out _ _ _ _ HA7.out
          clear a4 a5 a6 a7 a8 d0 d1 d2 d3 d4 d5 d6 d7 d8 d9 d10 d11 HA5 k6
          obtain ⟨⟨a4, a5, a6, a7, a8⟩, d0, d1, d2, d3, d4, d5, d6, d7, d8, d9, d10, d11⟩ := A7
          go_wp2_with fail
          refine (hFl _ HA7.out).mono ?_
          rintro r w8 ⟨rfl, T8⟩
          have HA8 := hide (HA7.out.turn T8 HA7.out.desk)
          have A8 := mkA.out _ _ _ _ HA8.out
          clear a4 a5 a6 a7 a8 d0 d1 d2 d3 d4 d5 d6 d7 d8 d9 d10 d11 HA7 T8
          obtain ⟨⟨a4, a5, a6, a7, a8⟩, d0, d1, d2, d3, d4, d5, d6, d7, d8, d9, d10, d11⟩ := A8
          go_wp2_with fail
          refine (hR3 _ _ HA8.out).mono ?_
          rintro r w9 ⟨rfl, k9⟩
          have HA9 := hide (HA8.out.stay k9)
          clear a4 a5 a6 a7 a8 d0 d1 d2 d3 d4 d5 d6 d7 d8 d9 d10 d11 HA8 k9
          go_wp2_with fail
          go_ret
          exact ⟨rfl, K0'.out.trans HA9.out.own.keeps (fun _ _ e => e)⟩
      · have hEr : fillErr l I T xk.size xe.size N ≠ 0 := fun e => by
          obtain ⟨q1, q2, q3, q4, q5⟩ := fillErr_zero e
          omega
        have hFl := fun W (h : AtX V W p Bd (fun i => i = Bd) l off en d c) => gfill_any h.own.here h.desk.fine h.desk.small (fun _ q => q.2) l (off : Int) I T xk xe N (by omega) ho hn
        have hfg : fillG d l (off : Int) I T xk xe N = (fillErr l I T xk.size xe.size N, d) := by unfold fillG; rw [if_neg hEr]
        rw [hfg] at hFl
        generalize fillErr l I T xk.size xe.size N = ER at *
        have hEb : (ER == 0) = false := beq_eq_false_iff_ne.2 hEr
        clear hfg
        obtain ⟨⟨a4, a5, a6, a7, a8⟩, d0, d1, d2, d3, d4, d5, d6, d7, d8, d9, d10, d11⟩ := A0
        go_wp2_with fail
        refine (hR3 _ _ HAD.out).mono ?_
        rintro r w5 ⟨rfl, k5⟩
        have HA5 := hide (HAD.out.stay k5)
        have A5 := mkA.out _ _ _ _ HA5.out
        clear a4 a5 a6 a7 a8 d0 d1 d2 d3 d4 d5 d6 d7 d8 d9 d10 d11 HAD k5
        obtain ⟨⟨a4, a5, a6, a7, a8⟩, d0, d1, d2, d3, d4, d5, d6, d7, d8, d9, d10, d11⟩ := A5
        go_wp2_with fail
        refine (hAt _).mono ?_
        rintro r w6 ⟨rfl, k6⟩
        have HA7 := hide ((HA5.out.stay k6).stay ((Keeps.refl _ (fun _ => False)).alloc (.cells #[.pointer (some ⟨p, 0, none⟩), .int .i64 l.k, .int .i64 l.e, .int .i64 l.a, .int .i64 l.b, .int .i64 l.c, .int .i64 l.eo, .int .i64 l.bo, .int .i64 l.s, .int .i64 l.g, .int .i64 (off : Int)] 46)))
        have A7 := mkA.out _ _ _ _ HA7.out
        clear a4 a5 a6 a7 a8 d0 d1 d2 d3 d4 d5 d6 d7 d8 d9 d10 d11 HA5 k6
        obtain ⟨⟨a4, a5, a6, a7, a8⟩, d0, d1, d2, d3, d4, d5, d6, d7, d8, d9, d10, d11⟩ := A7
        go_wp2_with fail
        refine (hFl _ HA7.out).mono ?_
        rintro r w8 ⟨rfl, T8⟩
        have HA8 := hide (HA7.out.turn T8 HA7.out.desk)
        have A8 := mkA.out _ _ _ _ HA8.out
        clear a4 a5 a6 a7 a8 d0 d1 d2 d3 d4 d5 d6 d7 d8 d9 d10 d11 HA7 T8
        obtain ⟨⟨a4, a5, a6, a7, a8⟩, d0, d1, d2, d3, d4, d5, d6, d7, d8, d9, d10, d11⟩ := A8
        go_wp2_with fail
        refine (hR3 _ _ HA8.out).mono ?_
        rintro r w9 ⟨rfl, k9⟩
        have HA9 := hide (HA8.out.stay k9)
        clear a4 a5 a6 a7 a8 d0 d1 d2 d3 d4 d5 d6 d7 d8 d9 d10 d11 HA8 k9
        go_wp2_with fail
        go_ret
        exact ⟨rfl, K0'.out.trans HA9.out.own.keeps (fun _ _ e => e)⟩
end groupStays
end Go.Proofs.YtdnkjbbpfhegdaaGreat
