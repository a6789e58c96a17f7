/-
  The law's shape (made by gensh.py).
-/
import Derived.Test.YtmdnknbolgedgaaGreatDoorUn20
import Derived.Test.YtmdnknbolgedgaaGreatDoorHTB14
import Derived.Test.YtmdnknbolgedgaaGreatDoorHTB15
import Derived.Deep.RegionHeld3
namespace Go.Proofs.YtmdnknbolgedgaaGreatDoor
open Go.RowKit Go.Shelf Ly Ct
set_option linter.unusedVariables false

/-- What shape stands on behind its first loop. -/
theorem BM.kinds {w wr : World} {b p : Nat} {l : Lay} {G : Nat} {fs ts hs lv : Value} {L : List LifeD} {ad : Nat} {d : AD} {f : Nat → Int} {c : Nat → GC} (h : BM w wr b p l G fs ts hs lv L ad d f c) : ∀ s, s < 8 * G → c s = GC.zero ∨ c s = GC.gone ∨ (c s).kind = 2 := fun s hs => by
  have := (h.tab.grp (s / 8) (by omega)).ok (s % 8) (by omega)
  rw [show 8 * (s / 8) + s % 8 = s by omega] at this
  rcases this with q | q | q
  · exact Or.inl q
  · exact Or.inr (Or.inl q)
  · exact Or.inr (Or.inr q.1)
theorem cast1 (i : Nat) : Value.int .i64 ((i : Int) + 1) = Value.int .i64 (((i + 1 : Nat)) : Int) := by rw [Int.natCast_add]; rfl
theorem meas8 {i n : Nat} (h : i < n) : n - (intOf (Value.int .i64 ((i : Int) + 1))).toNat < n - (intOf (Value.int .i64 (i : Int))).toNat := by
  simp [intOf]
  omega
theorem wr3 {q m k : Nat} (hq : q ≤ 128) (hm : m ≤ 1024) (hk : k ≤ 1024) : (wrap64 (q : Int) = (q : Int) ∧ IntKind.i64.wrap (q : Int) = (q : Int)) ∧ (wrap64 ((m / 8 : Nat) : Int) = ((m / 8 : Nat) : Int) ∧ IntKind.i64.wrap ((m / 8 : Nat) : Int) = ((m / 8 : Nat) : Int)) ∧ wrap64 ((k : Int) + 1) = (k : Int) + 1 ∧ IntKind.i64.wrap ((k : Int) + 1) = (k : Int) + 1 := ⟨wrm (by omega) (by omega), wrm (by omega) (by omega), wrm (by omega) (by omega)⟩
theorem div8n (k : Nat) : ((k : Int)).tdiv 8 = ((k / 8 : Nat) : Int) := by rw [Int.tdiv_eq_ediv_of_nonneg (by omega)]; omega
section
variable {w wr : World} {b p : Nat} {l : Lay} {G j g o nh hc : Nat} {hv : Nat → Nat} {fs ts lv : Value} {L : List LifeD} {ad : Nat} {d : AD} {f : Nat → Int} {c : Nat → GC}
set_option maxRecDepth 100000 in
set_option maxHeartbeats 16000000 in
theorem shape_any (h : BM w wr b p l G fs ts (.slice (some ⟨g, o, none⟩) nh hc) lv L ad d f c) (P : PlanAt w l G j g o nh hv) (tie : LTie c G f (hsT hv nh) L ad) :
    Calls Tryz.prog 26 #[.pointer (some ⟨b, 0, none⟩)] wr fun e w' => e = .returned (.bool true) ∧ Keeps wr w' (fun _ => False) := by
  have hG8 := P.le
  have hLf := tie.few
  have hkd : ∀ s, s < 8 * G → (c s).kind = 0 ∨ (c s).kind = 1 ∨ (c s).kind = 2 := fun s hs => by
    rcases h.kinds s hs with q | q | q
    · rw [q]; exact Or.inl rfl
    · rw [q]; exact Or.inr (Or.inl rfl)
    · exact Or.inr (Or.inr q)
  have hStat : Calls Tryz.prog 23 #[.agg #[.pointer (some ⟨p, 0, none⟩), .int .i64 l.k, .int .i64 l.e, .int .i64 l.a, .int .i64 l.b, .int .i64 l.c, .int .i64 l.eo, .int .i64 l.bo, .int .i64 l.s, .int .i64 l.g, .int .i64 (16 : Int)]] wr fun e w' => e = .returned (.tuple #[.agg #[.int .i64 (L.length : Int), .int .i64 ((8 * G : Nat) : Int), .int .i64 ((G : Int) * 7 - (L.length : Int) - ((cntC isD c (8 * G) : Nat) : Int)), .int .i64 (f 6), .int .i64 (f 1), .int .i64 (f 2), .bool (f 0 == 4), .int .i64 (f 7)], .int .i64 0]) ∧ Keeps wr w' (fun _ => False) := by
    have := sw_stat h.sw
    rw [tie.used, h.f4, tie.left' hkd] at this
    exact this
  have hCell : Hid (∀ (W : World) (i : Nat), Keeps wr W (fun _ => False) → i < 8 * G → Calls Tryz.prog 31 #[.agg #[.pointer (some ⟨p, 0, none⟩), .int .i64 l.k, .int .i64 l.e, .int .i64 l.a, .int .i64 l.b, .int .i64 l.c, .int .i64 l.eo, .int .i64 l.bo, .int .i64 l.s, .int .i64 l.g, .int .i64 (16 : Int)], .int .i64 (i : Int)] W fun e w' => e = .returned (.tuple #[.agg #[.int .i64 (c i).kind, .int .i64 (c i).tag, .string (c i).key, .string (c i).elem, .int .i64 (c i).birth], .int .i64 0]) ∧ Keeps W w' (fun _ => False)) := fun W i q hi => tcell_yes (h.stay q).own.here h.fine h.tab h.f4 h.f7 i hi
  have hB : Hid (∀ W, Keeps wr W (fun _ => False) → W.heap[b]? = some (.cells (benC p l 16 fs ((8 * G : Nat) : Int) (.slice (some ⟨g, o, none⟩) nh hc) ts lv (ad : Int)) 57)) := fun W q => q.blk h.blk
  have hNum := fun x W => num8_any x W
  have hKinds : Hid (∀ s, s < 8 * G → c s = GC.zero ∨ c s = GC.gone ∨ (c s).kind = 2) := fun s hs => h.kinds s hs
  obtain ⟨a, cap, hlv, hLa, hcap⟩ := h.lives
  have hLA : Hid (∀ W, Keeps wr W (fun _ => False) → ∀ i (hi : i < L.length), ∃ gl ol, a = some ⟨gl, ol, none⟩ ∧ W.cell? ⟨gl, ol + i * 5, none⟩ = some (.string L[i].key) ∧ W.cell? ⟨gl, ol + i * 5 + 1, none⟩ = some (.string L[i].elem) ∧ W.cell? ⟨gl, ol + i * 5 + 2, none⟩ = some (.int .u64 (L[i].hash : Int)) ∧ W.cell? ⟨gl, ol + i * 5 + 3, none⟩ = some (.int .i64 L[i].birth) ∧ W.cell? ⟨gl, ol + i * 5 + 4, none⟩ = some (.int .i64 L[i].slot)) := fun W q i hi => by
    rcases hLa with rfl | ⟨gl, ol, e, hc⟩
    · simp at hi
    · obtain ⟨x1, x2, x3, x4, x5⟩ := hc i hi
      exact ⟨gl, ol, e, keeps_cell q id x1, keeps_cell q id x2, keeps_cell q id x3, keeps_cell q id x4, keeps_cell q id x5⟩
  have hTie := hide tie
  have hPl := hide P
  have hfull := hide tie.fulls
  have HG : Hid (0 < G ∧ G ≤ 128 ∧ L.length ≤ 8 * G) := ⟨hG8.1, hG8.2, hLf⟩
  have hmk : ∀ W : World, (Instr.makeSlice 22 (.int .i64 (G : Int)) (.int .i64 (G : Int))).run Tryz.prog W = .ok (.slice (some ⟨W.heap.size, 0, none⟩) G G) (W.alloc (.cells (offRow G []) 3)) := fun W => run_make_ints W 22 Tryz.underlying22 (by kernel_rfl) G (by omega)
  have hd8 : ((8 * G : Nat) : Int).tdiv 8 = (G : Int) := by rw [Int.tdiv_eq_ediv_of_nonneg (by omega)]; omega
  have hwG := wrm (x := (G : Int)) (by omega) (by omega)
  obtain ⟨hwG1, hwG2⟩ := hwG
  obtain ⟨LF, hLF⟩ : ∃ LF, LF = (G : Int) * 7 - (L.length : Int) - ((cntC isD c (8 * G) : Nat) : Int) := ⟨_, rfl⟩
  rw [← hLF] at hStat
  replace hLF := hide hLF
  generalize f 6 = f6 at hStat
  generalize f 1 = f1 at hStat
  generalize f 2 = f2 at hStat
  generalize (f 0 == 4) = f0 at hStat
  generalize f 7 = f7 at hStat
  obtain ⟨t0, t1, t2, t3, t4, t5, t6, t7, t8, t9, t10⟩ := ben_T h.blk
  subst hlv
  clear h P tie hkd hLa hcap hG8 hLf
  generalize hS8' : ((8 * G : Nat) : Int) = S8 at hStat hB hd8
  have hS8 := hide hS8'
  clear hS8'
  go_enter Tryz.func26, Tryz.ntmps26
  go_wp2_with fail
  (with_reducible refine hStat.mono ?_)
  rintro r w1 ⟨rfl, k1⟩
  clear t0 t1 t2 t3 t4 t5 t6 t7 t8 t9 t10 hStat
  have k2 : Keeps wr (w1.alloc (.cells #[.int .i64 (L.length : Int), .int .i64 S8, .int .i64 LF, .int .i64 f6, .int .i64 f1, .int .i64 f2, .bool f0, .int .i64 f7] 64)) (fun _ => False) := k1.alloc _
  have hs2 := heap_alloc_new w1 (.cells #[.int .i64 (L.length : Int), .int .i64 S8, .int .i64 LF, .int .i64 f6, .int .i64 f1, .int .i64 f2, .bool f0, .int .i64 f7] 64)
  clear k1
  go_wp2_with fail
  generalize w1.alloc (.cells #[.int .i64 (L.length : Int), .int .i64 S8, .int .i64 LF, .int .i64 f6, .int .i64 f1, .int .i64 f2, .bool f0, .int .i64 f7] 64) = W2 at *
  generalize w1.heap.size = B3 at *
  have SD : W2.drew.cell? ⟨B3, 1, none⟩ = some (.int .i64 S8) ∧ W2.drew.cell? ⟨B3, 0, none⟩ = some (.int .i64 (L.length : Int)) ∧ W2.drew.cell? ⟨b, 22, none⟩ = some (.int .i64 S8) ∧ W2.drew.cell? ⟨b, 25, none⟩ = some (.slice a L.length cap) := ⟨(st8_cells (w := W2.drew) hs2).1.2.1, (st8_cells (w := W2.drew) hs2).1.1, (ben_22 (hB.out _ k2.drew)).1, (ben_25 (hB.out _ k2.drew)).1⟩
  go_region_held3 (fun w' => w'.cell? ⟨B3, 1, none⟩ = some (.int .i64 S8) ∧ w'.cell? ⟨B3, 0, none⟩ = some (.int .i64 (L.length : Int)) ∧ w'.cell? ⟨b, 22, none⟩ = some (.int .i64 S8) ∧ w'.cell? ⟨b, 25, none⟩ = some (.slice a L.length cap)) (with_reducible assumption)
    (first | (go_at_call 11; (refine (hNum _ _).mono ?_); rintro r wA ⟨rfl, hwA⟩; subst hwA))
  have k3 : Keeps wr W2.drew (fun _ => False) := k2.drew
  have hs3 : W2.drew.heap[B3]? = some (.cells #[.int .i64 (L.length : Int), .int .i64 S8, .int .i64 LF, .int .i64 f6, .int .i64 f1, .int .i64 f2, .bool f0, .int .i64 f7] 64) := hs2
  clear SD k2 hs2
  generalize W2.drew = W3 at *
  obtain ⟨⟨a0, a1, a2, a3, a4, a5, a6, a7⟩, -⟩ := st8_cells hs3
  have b1 : (W3.alloc (.cells (offRow G []) 3)).cell? ⟨B3, 1, none⟩ = some (.int .i64 S8) := keeps_cell ((Keeps.refl W3 (fun _ => False)).alloc _) id a1
  have hSh0 : Hid (ShA W3 ((W3.alloc (.cells (offRow G []) 3)).alloc (.cells (offRow G []) 3)) W3.heap.size (W3.heap.size + 1) G (fun g => ((cntG isE c 0 g : Nat) : Int)) (fun g => ((cntG isD c 0 g : Nat) : Int)) (.slice none 0 0) 0 c) := by
    have kk : Keeps W3 ((W3.alloc (.cells (offRow G []) 3)).alloc (.cells (offRow G []) 3)) (fun _ => False) := ((Keeps.refl _ _).alloc _).alloc _
    have q := heap_alloc_new (W3.alloc (.cells (offRow G []) 3)) (.cells (offRow G []) 3)
    rw [World.size_alloc] at q
    have q0 := ((Keeps.refl (W3.alloc (.cells (offRow G []) 3)) (fun _ => False)).alloc (.cells (offRow G []) 3)).blk (heap_alloc_new W3 (.cells (offRow G []) 3))
    exact ⟨rowN_made q0, rowN_made q, ⟨rfl, Or.inl ⟨rfl, rfl⟩⟩, kk, by omega, by omega, by omega⟩
  have hS3 : Hid (∀ V, Keeps W3 V (fun _ => False) → V.heap[B3]? = some (.cells #[.int .i64 (L.length : Int), .int .i64 S8, .int .i64 LF, .int .i64 f6, .int .i64 f1, .int .i64 f2, .bool f0, .int .i64 f7] 64)) := fun V q => q.blk hs3
  have hk3 := hide k3
  clear hs3 k3
  have hmk3 := hmk W3
  have hmk4 := hmk (W3.alloc (.cells (offRow G []) 3))
  clear hmk
  go_wp2_with fail
  clear hmk3 hmk4 a0 a1 a2 a3 a4 a5 a6 a7 b1 hwG1 hwG2 hd8
  generalize (W3.alloc (.cells (offRow G []) 3)).alloc (.cells (offRow G []) 3) = W4 at *
  obtain ⟨Be, hBe⟩ : ∃ Be, W3.heap.size = Be := ⟨_, rfl⟩
  rw [hBe] at hSh0 ⊢
  clear hBe
  go_loopw [7, 8, 9] (fun v7 v8 v9 V => ∃ i : Nat, v9 = .int .i64 (i : Int) ∧ i ≤ 8 * G ∧ v7 = .int .i64 ((cntC isF c i : Nat) : Int) ∧ (∃ aa ca, v8 = .slice aa i ca) ∧ Hid (ShA W3 V Be (Be + 1) G (fun g => ((cntG isE c i g : Nat) : Int)) (fun g => ((cntG isD c i g : Nat) : Int)) v8 i c)) (fun _ _ v9 _ => 8 * G - (intOf v9).toNat)
  case atStart => exact ⟨0, rfl, Nat.zero_le _, rfl, ⟨none, 0, rfl⟩, hSh0⟩
  case round =>
    clear hSh0
    obtain ⟨i, rfl, hi, rfl, ⟨aa, ca, rfl⟩, hSh⟩ := hrel
    obtain ⟨⟨a0, a1, a2, a3, a4, a5, a6, a7⟩, -⟩ := st8_cells (hS3.out _ hSh.out.k)
    by_cases hlt : i < 8 * G
    · have hlt' : (i : Int) < S8 := by have := hS8.out; omega
      have kV := hk3.out.trans hSh.out.k (fun _ _ e => e)
      obtain ⟨t0, t1, t2, t3, t4, t5, t6, t7, t8, t9, t10⟩ := ben_T (hB.out _ kV)
      have hCe := hCell.out _ i kV hlt
      clear a0 a2 a3 a4 a5 a6 a7
      rcases hKinds.out i hlt with hc0 | hc0 | hc0
      · have hIE : isE (c i) = true := by rw [hc0]; rfl
        have hID : isD (c i) = false := by rw [hc0]; rfl
        have hIF : isF (c i) = false := by rw [hc0]; rfl
        have hc1 : c i = ⟨0, 0, ByteArray.empty, ByteArray.empty, 0⟩ := hc0
        rw [hc1] at hCe
        clear hc0
        go_wp2_with fail
        (with_reducible refine hCe.mono ?_)
        rintro r V1 ⟨rfl, k1⟩
        clear t0 t1 t2 t3 t4 t5 t6 t7 t8 t9 t10 hCe a1
        have hshA := hSh.out.stay (k1.alloc (.cells #[.int .i64 0, .int .i64 0, .string ByteArray.empty, .string ByteArray.empty, .int .i64 0] 83))
        have hbA := heap_alloc_new V1 (.cells #[.int .i64 0, .int .i64 0, .string ByteArray.empty, .string ByteArray.empty, .int .i64 0] 83)
        go_wp2_with fail
        generalize V1.alloc (.cells #[.int .i64 0, .int .i64 0, .string ByteArray.empty, .string ByteArray.empty, .int .i64 0] 83) = VA at *
        generalize V1.heap.size = B10 at *
        refine (hNum _ _).mono ?_
        rintro r VA2 ⟨rfl, hw⟩
        rw [hw]
        clear hw VA2
        obtain ⟨g0, g1, g2⟩ := HG.out
        obtain ⟨i8, hj⟩ : ∃ i8, i / 8 = i8 := ⟨_, rfl⟩
        have hd : (i : Int).tdiv 8 = (i8 : Int) := by rw [div8n i, hj]
        have hi8 : i8 < G := by omega
        have hle := cntG_le (P := isE) (c := c) i i8
        have hle2 := cntG_le (P := isD) (c := c) i i8
        have hle3 := cntC_le isF c i
        have eE := cntG_step (P := isE) (c := c) i
        have eD := cntG_step (P := isD) (c := c) i
        have eF := cntC_succ isF c i
        rw [hIE, hj] at eE
        rw [hID, hj] at eD
        rw [hIF] at eF
        rw [if_pos rfl] at eE
        rw [if_neg (by decide)] at eD
        rw [if_neg (by decide)] at eF
        obtain ⟨r1, r2⟩ := hshA.e.cell hi8
        have hshB := hshA.setE hi8 (((cntG isE c i i8 : Nat) : Int) + 1)
        obtain ⟨gn, cn, V5, hap, hsh5⟩ := hshB.more (by omega)
        rw [hc1] at hap
        dsimp only at hap
        have hsz : (VA.setCell ⟨Be, i8, none⟩ (.int .i64 (((cntG isE c i i8 : Nat) : Int) + 1))).heap.size = VA.heap.size := by simp [World.setCell]
        rw [hsz] at hap
        have hbB : (VA.setCell ⟨Be, i8, none⟩ (.int .i64 (((cntG isE c i i8 : Nat) : Int) + 1))).heap[B10]? = some (.cells #[.int .i64 0, .int .i64 0, .string ByteArray.empty, .string ByteArray.empty, .int .i64 0] 83) := (Below.heap_setCell _ _ _ _ (fun e => by
          obtain ⟨cs, q1, -⟩ := hshA.e
          have e' : B10 = Be := e
          rw [← e', hbA] at q1
          injection Option.some.inj q1 with _ h2 _
          exact absurd h2 (by decide))).trans hbA
        obtain ⟨u0, u1, u2, u3, u4, -⟩ := five_cells hbB
        obtain ⟨v0, v1, v2, v3, v4, -⟩ := five_cells hbA
        obtain ⟨wf1, wf2⟩ := wrm (x := ((cntG isE c i i8 : Nat) : Int) + 1) (by omega) (by omega)
        have HF : Hid (ShA W3 V5 Be (Be + 1) G (fun g => ((cntG isE c (i + 1) g : Nat) : Int)) (fun g => ((cntG isD c (i + 1) g : Nat) : Int)) (.slice (some ⟨gn, 0, none⟩) (i + 1) cn) (i + 1) c) := by
          show ShA W3 V5 Be (Be + 1) G _ _ _ _ c
          rw [eE, eD]
          exact hsh5
        have HeF : Hid (((cntC isF c (i + 1) : Nat) : Int) = ((cntC isF c i : Nat) : Int)) := by
          show ((cntC isF c (i + 1) : Nat) : Int) = _
          omega
        clear hsh5 hSh hle hle2 hle3 eE eD eF hIE hID hIF hc1 k1 kV hshA hshB hbA hbB hsz
        generalize ((cntC isF c i : Nat) : Int) = FF at *
        generalize ((cntG isE c i i8 : Nat) : Int) = EE at *
        have hi8' : (i8 : Int) < (G : Int) := by omega
        have hi80 : ¬ (i8 : Int) < 0 := by omega
        have hi81 : (0 : Int) ≤ (i8 : Int) := by omega
        obtain ⟨w81, w82⟩ := wrm (x := (i8 : Int)) (by omega) (by omega)
        obtain ⟨wi1, wi2⟩ := wrm (x := (i : Int) + 1) (by omega) (by omega)
        clear hj hi8 g0 g1 g2
        go_wp2_with (first | (at_builtin; have _t := hap; refine app_run8 _ rfl (.tmp 117) (.tmp 119) 120 rfl rfl rfl hap ?_; clear hap))
        go_roundw
        case rel => exact ⟨i + 1, cast1 i, Nat.succ_le_of_lt hlt, congrArg (Value.int .i64) HeF.out.symm, ⟨_, _, rfl⟩, HF⟩
        case measure => exact meas8 hlt
      · have hIE : isE (c i) = false := by rw [hc0]; rfl
        have hID : isD (c i) = true := by rw [hc0]; rfl
        have hIF : isF (c i) = false := by rw [hc0]; rfl
        have hc1 : c i = ⟨1, 0, ByteArray.empty, ByteArray.empty, 0⟩ := hc0
        rw [hc1] at hCe
        clear hc0
        go_wp2_with fail
        (with_reducible refine hCe.mono ?_)
        rintro r V1 ⟨rfl, k1⟩
        clear t0 t1 t2 t3 t4 t5 t6 t7 t8 t9 t10 hCe a1
        have hshA := hSh.out.stay (k1.alloc (.cells #[.int .i64 1, .int .i64 0, .string ByteArray.empty, .string ByteArray.empty, .int .i64 0] 83))
        have hbA := heap_alloc_new V1 (.cells #[.int .i64 1, .int .i64 0, .string ByteArray.empty, .string ByteArray.empty, .int .i64 0] 83)
        go_wp2_with fail
        generalize V1.alloc (.cells #[.int .i64 1, .int .i64 0, .string ByteArray.empty, .string ByteArray.empty, .int .i64 0] 83) = VA at *
        generalize V1.heap.size = B10 at *
        refine (hNum _ _).mono ?_
        rintro r VA2 ⟨rfl, hw⟩
        rw [hw]
        clear hw VA2
        obtain ⟨g0, g1, g2⟩ := HG.out
        obtain ⟨i8, hj⟩ : ∃ i8, i / 8 = i8 := ⟨_, rfl⟩
        have hd : (i : Int).tdiv 8 = (i8 : Int) := by rw [div8n i, hj]
        have hi8 : i8 < G := by omega
        have hle := cntG_le (P := isE) (c := c) i i8
        have hle2 := cntG_le (P := isD) (c := c) i i8
        have hle3 := cntC_le isF c i
        have eE := cntG_step (P := isE) (c := c) i
        have eD := cntG_step (P := isD) (c := c) i
        have eF := cntC_succ isF c i
        rw [hIE, hj] at eE
        rw [hID, hj] at eD
        rw [hIF] at eF
        rw [if_neg (by decide)] at eE
        rw [if_pos rfl] at eD
        rw [if_neg (by decide)] at eF
        obtain ⟨r1, r2⟩ := hshA.d.cell hi8
        have hshB := hshA.setD hi8 (((cntG isD c i i8 : Nat) : Int) + 1)
        obtain ⟨gn, cn, V5, hap, hsh5⟩ := hshB.more (by omega)
        rw [hc1] at hap
        dsimp only at hap
        have hsz : (VA.setCell ⟨Be + 1, i8, none⟩ (.int .i64 (((cntG isD c i i8 : Nat) : Int) + 1))).heap.size = VA.heap.size := by simp [World.setCell]
        rw [hsz] at hap
        have hbB : (VA.setCell ⟨Be + 1, i8, none⟩ (.int .i64 (((cntG isD c i i8 : Nat) : Int) + 1))).heap[B10]? = some (.cells #[.int .i64 1, .int .i64 0, .string ByteArray.empty, .string ByteArray.empty, .int .i64 0] 83) := (Below.heap_setCell _ _ _ _ (fun e => by
          obtain ⟨cs, q1, -⟩ := hshA.d
          have e' : B10 = Be + 1 := e
          rw [← e', hbA] at q1
          injection Option.some.inj q1 with _ h2 _
          exact absurd h2 (by decide))).trans hbA
        obtain ⟨u0, u1, u2, u3, u4, -⟩ := five_cells hbB
        obtain ⟨v0, v1, v2, v3, v4, -⟩ := five_cells hbA
        obtain ⟨wf1, wf2⟩ := wrm (x := ((cntG isD c i i8 : Nat) : Int) + 1) (by omega) (by omega)
        have HF : Hid (ShA W3 V5 Be (Be + 1) G (fun g => ((cntG isE c (i + 1) g : Nat) : Int)) (fun g => ((cntG isD c (i + 1) g : Nat) : Int)) (.slice (some ⟨gn, 0, none⟩) (i + 1) cn) (i + 1) c) := by
          show ShA W3 V5 Be (Be + 1) G _ _ _ _ c
          rw [eE, eD]
          exact hsh5
        have HeF : Hid (((cntC isF c (i + 1) : Nat) : Int) = ((cntC isF c i : Nat) : Int)) := by
          show ((cntC isF c (i + 1) : Nat) : Int) = _
          omega
        clear hsh5 hSh hle hle2 hle3 eE eD eF hIE hID hIF hc1 k1 kV hshA hshB hbA hbB hsz
        generalize ((cntC isF c i : Nat) : Int) = FF at *
        generalize ((cntG isD c i i8 : Nat) : Int) = EE at *
        have hi8' : (i8 : Int) < (G : Int) := by omega
        have hi80 : ¬ (i8 : Int) < 0 := by omega
        have hi81 : (0 : Int) ≤ (i8 : Int) := by omega
        obtain ⟨w81, w82⟩ := wrm (x := (i8 : Int)) (by omega) (by omega)
        obtain ⟨wi1, wi2⟩ := wrm (x := (i : Int) + 1) (by omega) (by omega)
        clear hj hi8 g0 g1 g2
        go_wp2_with (first | (at_builtin; have _t := hap; refine app_run8 _ rfl (.tmp 117) (.tmp 119) 120 rfl rfl rfl hap ?_; clear hap))
        go_roundw
        case rel => exact ⟨i + 1, cast1 i, Nat.succ_le_of_lt hlt, congrArg (Value.int .i64) HeF.out.symm, ⟨_, _, rfl⟩, HF⟩
        case measure => exact meas8 hlt
      · have hIE : isE (c i) = false := decide_eq_false (by rw [hc0]; decide)
        have hID : isD (c i) = false := decide_eq_false (by rw [hc0]; decide)
        have hIF : isF (c i) = true := decide_eq_true hc0
        obtain ⟨x, hx⟩ : ∃ x, x = c i := ⟨_, rfl⟩
        obtain ⟨y0, y1, y2, y3, y4⟩ := x
        have hc1 : c i = ⟨2, y1, y2, y3, y4⟩ := by
          rw [← hx] at hc0 ⊢
          dsimp only at hc0
          rw [hc0]
        rw [hc1] at hCe
        clear hx hc0
        go_wp2_with fail
        (with_reducible refine hCe.mono ?_)
        rintro r V1 ⟨rfl, k1⟩
        clear t0 t1 t2 t3 t4 t5 t6 t7 t8 t9 t10 hCe a1
        have hshA := hSh.out.stay (k1.alloc (.cells #[.int .i64 2, .int .i64 y1, .string y2, .string y3, .int .i64 y4] 83))
        have hbA := heap_alloc_new V1 (.cells #[.int .i64 2, .int .i64 y1, .string y2, .string y3, .int .i64 y4] 83)
        go_wp2_with fail
        generalize V1.alloc (.cells #[.int .i64 2, .int .i64 y1, .string y2, .string y3, .int .i64 y4] 83) = VA at *
        generalize V1.heap.size = B10 at *
        refine (hNum _ _).mono ?_
        rintro r VA2 ⟨rfl, hw⟩
        rw [hw]
        clear hw VA2
        obtain ⟨g0, g1, g2⟩ := HG.out
        obtain ⟨i8, hj⟩ : ∃ i8, i / 8 = i8 := ⟨_, rfl⟩
        have hd : (i : Int).tdiv 8 = (i8 : Int) := by rw [div8n i, hj]
        have hi8 : i8 < G := by omega
        have hle := cntG_le (P := isE) (c := c) i i8
        have hle2 := cntG_le (P := isD) (c := c) i i8
        have hle3 := cntC_le isF c i
        have eE := cntG_step (P := isE) (c := c) i
        have eD := cntG_step (P := isD) (c := c) i
        have eF := cntC_succ isF c i
        rw [hIE, hj] at eE
        rw [hID, hj] at eD
        rw [hIF] at eF
        rw [if_neg (by decide)] at eE eD
        rw [if_pos rfl] at eF
        obtain ⟨gn, cn, V5, hap, hsh5⟩ := hshA.more (by omega)
        rw [hc1] at hap
        dsimp only at hap
        obtain ⟨u0, u1, u2, u3, u4, -⟩ := five_cells hbA
        obtain ⟨wf1, wf2⟩ := wrm (x := ((cntC isF c i : Nat) : Int) + 1) (by omega) (by omega)
        have HF : Hid (ShA W3 V5 Be (Be + 1) G (fun g => ((cntG isE c (i + 1) g : Nat) : Int)) (fun g => ((cntG isD c (i + 1) g : Nat) : Int)) (.slice (some ⟨gn, 0, none⟩) (i + 1) cn) (i + 1) c) := by
          show ShA W3 V5 Be (Be + 1) G _ _ _ _ c
          rw [eE, eD]
          exact hsh5
        have HeF : Hid (((cntC isF c (i + 1) : Nat) : Int) = ((cntC isF c i : Nat) : Int) + 1) := by
          show ((cntC isF c (i + 1) : Nat) : Int) = _
          omega
        clear hsh5 hSh hle hle2 hle3 eE eD eF hIE hID hIF hc1 k1 kV hshA hbA
        generalize ((cntC isF c i : Nat) : Int) = FF at *
        have hi8' : (i8 : Int) < (G : Int) := by omega
        have hi80 : ¬ (i8 : Int) < 0 := by omega
        have hi81 : (0 : Int) ≤ (i8 : Int) := by omega
        obtain ⟨w81, w82⟩ := wrm (x := (i8 : Int)) (by omega) (by omega)
        obtain ⟨wi1, wi2⟩ := wrm (x := (i : Int) + 1) (by omega) (by omega)
        clear hj hi8 g0 g1 g2
        go_wp2_with (first | (at_builtin; have _t := hap; refine app_run8 _ rfl (.tmp 117) (.tmp 119) 120 rfl rfl rfl hap ?_; clear hap))
        go_roundw
        case rel => exact ⟨i + 1, cast1 i, Nat.succ_le_of_lt hlt, congrArg (Value.int .i64) HeF.out.symm, ⟨_, _, rfl⟩, HF⟩
        case measure => exact meas8 hlt
    · have hiG : i = 8 * G := by omega
      have HiG := hide hiG
      have hlt' : ¬ (i : Int) < S8 := by have := hS8.out; omega
      clear a0 a2 a3 a4 a5 a6 a7 hlt hi
      obtain ⟨ga, rfl⟩ : ∃ ga, aa = some ⟨ga, 0, none⟩ := by
        rcases hSh.out.a.2 with ⟨e, e0⟩ | ⟨ga, cap', cur, e, -⟩
        · have := HG.out.1
          omega
        · cases e
          exact ⟨ga, rfl⟩
      clear hiG
      obtain ⟨VV, hVV⟩ : ∃ VV, VV = wr := ⟨_, rfl⟩
      rw [← hVV] at hSh a1 ⊢
      clear hVV
      go_wp2_with fail
      clear a1 hlt'
      go_loopw [12, 123] (fun v12 v123 V => ∃ q : Nat, v123 = .int .i64 (q : Int) ∧ q ≤ G ∧ v12 = .int .i64 ((sumG (cntG isD c i) q : Nat) : Int) ∧ VV = V) (fun _ v123 _ => G - (intOf v123).toNat)
      case atStart => exact ⟨0, rfl, Nat.zero_le _, rfl, rfl⟩
      case round =>
        obtain ⟨q, rfl, hq, rfl, hW⟩ := hrel
        subst hW
        by_cases hqG : q < G
        · have hq' : (q : Int) < (G : Int) := by omega
          have hq0 : ¬ (q : Int) < 0 := by omega
          obtain ⟨r1, -⟩ := hSh.out.e.cell hqG
          obtain ⟨s1, -⟩ := hSh.out.d.cell hqG
          obtain ⟨g0, g1, g2⟩ := HG.out
          have hmx : cntG isE c i q ≠ 0 → cntG isD c i q = 0 := fun z => by
            have hi := HiG.out
            rw [hi] at z ⊢
            exact hTie.out.mix' hqG z
          have hs1 : sumG (cntG isD c i) q ≤ 1024 := by
            have hi := HiG.out
            rw [hi]
            have h1 := sumG_cnt (P := isD) (c := c) (G := G) (8 * G) (Nat.le_refl _)
            have h2 := cntC_le isD c (8 * G)
            have h3 := sumG_mono (cntG isD c (8 * G)) (Nat.le_of_lt hqG)
            omega
          have hs2 := cntG_le (P := isD) (c := c) i q
          have hi := HiG.out
          have HS : Hid (((sumG (cntG isD c i) (q + 1) : Nat) : Int) = ((sumG (cntG isD c i) q : Nat) : Int) + ((cntG isD c i q : Nat) : Int)) := by
            show ((sumG (cntG isD c i) q + cntG isD c i q : Nat) : Int) = _
            omega
          obtain ⟨wm1, wm2⟩ := wrm (x := ((sumG (cntG isD c i) q : Nat) : Int) + ((cntG isD c i q : Nat) : Int)) (by omega) (by omega)
          obtain ⟨wq1, wq2⟩ := wrm (x := (q : Int) + 1) (by omega) (by omega)
          obtain ⟨wn1, wn2⟩ := wrm (x := ((sumG (cntG isD c i) q : Nat) : Int)) (by omega) (by omega)
          by_cases hE : cntG isE c i q = 0
          · rw [hE] at r1
            clear hmx hs1 hs2 hi hE
            generalize ((sumG (cntG isD c i) q : Nat) : Int) = MM at *
            generalize ((cntG isD c i q : Nat) : Int) = DD at *
            clear g0 g1 g2
            go_wp2_with fail
            go_roundw
            case rel => exact ⟨q + 1, cast1 q, Nat.succ_le_of_lt hqG, congrArg (Value.int .i64) HS.out.symm, trivial⟩
            case measure => exact meas8 hqG
          · have hD := hmx hE
            have hD0 : ((cntG isD c i q : Nat) : Int) = 0 := by rw [hD]; rfl
            have hE1 : (0 : Int) < ((cntG isE c i q : Nat) : Int) := Int.natCast_pos.2 (Nat.pos_of_ne_zero hE)
            rw [hD0] at s1
            have HS' : Hid (((sumG (cntG isD c i) (q + 1) : Nat) : Int) = ((sumG (cntG isD c i) q : Nat) : Int)) := by
              show ((sumG (cntG isD c i) q + cntG isD c i q : Nat) : Int) = _
              rw [hD]
              rfl
            clear HS wm1 wm2 hD0
            clear hmx hs1 hs2 hi hD hE
            generalize ((sumG (cntG isD c i) q : Nat) : Int) = MM at *
            generalize ((cntG isE c i q : Nat) : Int) = EE at *
            clear g0 g1 g2
            go_wp2_with fail
            go_roundw
            case rel => exact ⟨q + 1, cast1 q, Nat.succ_le_of_lt hqG, congrArg (Value.int .i64) HS'.out.symm, trivial⟩
            case measure => exact meas8 hqG
        · obtain rfl : q = G := by omega
          have hq' : ¬ (q : Int) < (q : Int) := by omega
          obtain ⟨⟨a0, a1, a2, a3, a4, a5, a6, a7⟩, -⟩ := st8_cells (hS3.out _ hSh.out.k)
          have kV := hk3.out.trans hSh.out.k (fun _ _ e => e)
          obtain ⟨z25, -⟩ := ben_25 (hB.out _ kV)
          obtain ⟨g0, g1, g2⟩ := HG.out
          have hi := HiG.out
          have hFF : ((cntC isF c i : Nat) : Int) = (L.length : Int) := by rw [hi, hfull.out]
          have hMM : ((sumG (cntG isD c i) q : Nat) : Int) = ((cntC isD c (8 * q) : Nat) : Int) := by rw [hi, sumG_cnt (P := isD) (c := c) (G := q) (8 * q) (Nat.le_refl _)]
          have hLF2 := hLF.out
          have hcl := cntC_le isD c (8 * q)
          have hd8 : S8.tdiv 8 = (q : Int) := by rw [← hS8.out, Int.tdiv_eq_ediv_of_nonneg (by omega)]; omega
          rw [← hMM] at hLF2
          rw [← hFF] at a0 hLF2
          have hFb : 0 ≤ ((cntC isF c i : Nat) : Int) ∧ ((cntC isF c i : Nat) : Int) ≤ 1024 := by omega
          have hMb : 0 ≤ ((sumG (cntG isD c i) q : Nat) : Int) ∧ ((sumG (cntG isD c i) q : Nat) : Int) ≤ 1024 := by omega
          clear hMM hcl a3 a4 a5 a6 a7 hi
          generalize ((sumG (cntG isD c i) q : Nat) : Int) = MM at *
          generalize ((cntC isF c i : Nat) : Int) = FF at *
          obtain ⟨wa1, wa2⟩ := wrm (x := (q : Int)) (by omega) (by omega)
          obtain ⟨wb1, wb2⟩ := wrm (x := (q : Int) * 7) (by omega) (by omega)
          obtain ⟨wc1, wc2⟩ := wrm (x := (q : Int) * 7 - FF) (by omega) (by omega)
          obtain ⟨wd1, wd2⟩ := wrm (x := (q : Int) * 7 - FF - MM) (by omega) (by omega)
          have e29 : (LF != (q : Int) * 7 - FF - MM) = false := by rw [hLF2]; simp
          have HKV := hide kV
          clear hLF2 hFb hMb g0 g1 g2 hFF kV
          go_wp2_with fail
          clear a0 a1 a2 z25 wa1 wa2 wb1 wb2 wc1 wc2 wd1 wd2 e29 hd8 hq'
          obtain ⟨W5, hW5⟩ : ∃ W5, W5 = VV := ⟨_, rfl⟩
          have HK5 : Hid (Keeps W5 VV (fun _ => False)) := by rw [hW5]; exact Keeps.refl _ _
          rw [← hW5] at hSh HKV
          clear hW5
          go_loopw [167] (fun v167 V => ∃ k : Nat, v167 = .int .i64 (k : Int) ∧ k ≤ L.length ∧ Hid (Keeps W5 V (fun _ => False))) (fun v167 _ => L.length - (intOf v167).toNat)
          case atStart => exact ⟨0, rfl, Nat.zero_le _, HK5⟩
          case round =>
            clear HK5
            obtain ⟨k, rfl, hk, hKk⟩ := hrel
            by_cases hkL : k < L.length
            · have hk' : (k : Int) < (L.length : Int) := by omega
              have hk0 : ¬ (k : Int) < 0 := by omega
              obtain ⟨gl, ol, ha, x1, x2, x3, x4, x5⟩ := hLA.out _ (HKV.out.trans hKk.out (fun _ _ e => e)) k hkL
              obtain ⟨p1, p2, p3, p4⟩ := hTie.out.life _ (List.getElem_mem hkL)
              obtain ⟨st, hst, hmet, hzero⟩ := hTie.out.ways (List.getElem_mem hkL)
              obtain ⟨m, hm⟩ := Int.eq_ofNat_of_zero_le p1
              have hm1 : L[k].slot.toNat = m := by omega
              rw [hm1] at p3 hmet
              have hm8 : m < 8 * q := by omega
              have hmi : m < i := by have := HiG.out; omega
              have hH64 : L[k].hash < 18446744073709551616 := by rw [p4]; exact hPl.out.word _
              have hah : Hid (∀ W, Keeps W5 W (fun _ => False) → Calls Tryz.prog 54 #[.int .u64 ((L[k].hash / 128 : Nat) : Int), .int .i64 (q : Int), .int .i64 ((m / 8 : Nat) : Int), .slice (some ⟨Be, 0, none⟩) q q] W fun e w' => e = .returned (.bool true) ∧ Keeps W w' (fun _ => False)) := fun W kW => by
                have e2 := hPl.out.hG
                have hj7 := hPl.out.hj
                have hi := HiG.out
                have := ahead_yes (L[k].hash / 128) j (m / 8) Be q (by omega) (by omega) (fun g => ((cntG isE c i g : Nat) : Int)) W (fun g hg => keeps_cell kW id (hSh.out.e.cell (by rw [e2]; exact hg)).1) st (by rw [← e2]; exact hst) (by rw [← e2]; exact hmet) (fun z hz => by
                  rw [← e2]
                  have := hzero z hz
                  rw [hi]
                  omega)
                rw [← e2] at this
                exact this
              have hrow := hSh.out.a
              have hca : W5.cell? ⟨ga, m * 5 + 2, none⟩ = some (.string L[k].key) := by
                have := (hrow.cellAt (m * 5 + 2) (by omega)).trans (cellL_key c i m hmi)
                rw [p3] at this
                exact this
              have hyk := keeps_cell hKk.out id hca
              obtain ⟨⟨-, aS, -⟩, -⟩ := st8_cells (hS3.out _ (hSh.out.k.trans hKk.out (fun _ _ e => e)))
              have hq128 : q ≤ 128 := HG.out.2.1
              have hm1k : m ≤ 1024 := by omega
              have hk1k : k ≤ 1024 := by have := HG.out.2.2; omega
              have hmi' : ¬ (i : Int) ≤ (m : Int) := by omega
              have hmi2 : ¬ i ≤ m := by omega
              have hmi3 : (m : Int) < (i : Int) := by omega
              have hm0 : ¬ (m : Int) < 0 := by omega
              have hm00 : (0 : Int) ≤ (m : Int) := by omega
              have hd1 : (L[k].hash : Int).tdiv 128 = ((L[k].hash / 128 : Nat) : Int) := by rw [Int.tdiv_eq_ediv_of_nonneg (by omega)]; omega
              have hu1 : IntKind.u64.wrap ((L[k].hash / 128 : Nat) : Int) = ((L[k].hash / 128 : Nat) : Int) := by rw [IntKind.wrap_u64]; omega
              have hd2 := div8n m
              obtain ⟨g0, g1, g2⟩ := HG.out
              have hd8 : S8.tdiv 8 = (q : Int) := by rw [← hS8.out, Int.tdiv_eq_ediv_of_nonneg (by omega)]; omega
              obtain ⟨⟨wa1, wa2⟩, ⟨wb1, wb2⟩, wc1, wc2⟩ := wr3 hq128 hm1k hk1k
              rw [hm] at x5
              subst ha
              clear p1 p2 p3 p4 hst hmet hzero hm hm1 hm8 hmi hH64 hrow hca g0 g1 g2 hq128 hm1k hk1k
              generalize ((m / 8 : Nat) : Int) = m8 at *
              generalize ((L[k].hash / 128 : Nat) : Int) = h128 at *
              generalize L[k].key = yk at *
              generalize L[k].elem = ye at *
              generalize L[k].hash = yh at *
              generalize L[k].birth = yb at *
              go_wp2_with fail
              have hKc : Hid (Keeps W5 (wr.alloc (.cells #[.string yk, .string ye, .int .u64 (yh : Int), .int .i64 yb, .int .i64 (m : Int)] 75)) (fun _ => False)) := hKk.out.alloc _
              have kc1 : Keeps wr (wr.alloc (.cells #[.string yk, .string ye, .int .u64 (yh : Int), .int .i64 yb, .int .i64 (m : Int)] 75)) (fun _ => False) := (Keeps.refl _ _).alloc _
              have hbc := heap_alloc_new wr (.cells #[.string yk, .string ye, .int .u64 (yh : Int), .int .i64 yb, .int .i64 (m : Int)] 75)
              have hyk2 := keeps_cell kc1 id hyk
              have aS2 := keeps_cell kc1 id aS
              clear kc1 x1 x2 x3 x4 x5 hyk aS hKk
              generalize wr.alloc (.cells #[.string yk, .string ye, .int .u64 (yh : Int), .int .i64 yb, .int .i64 (m : Int)] 75) = WC at *
              generalize wr.heap.size = B15 at *
              obtain ⟨u0, u1, u2, u3, u4, -⟩ := five_cells (w := WC.drew) hbc
              have SD : WC.drew.cell? ⟨B15, 4, none⟩ = some (.int .i64 (m : Int)) ∧ WC.drew.cell? ⟨B15, 0, none⟩ = some (.string yk) ∧ WC.drew.cell? ⟨B15, 2, none⟩ = some (.int .u64 (yh : Int)) ∧ WC.drew.cell? ⟨B3, 1, none⟩ = some (.int .i64 S8) ∧ WC.drew.cell? ⟨ga, m * 5 + 2, none⟩ = some (.string yk) := ⟨u4, u0, u2, aS2, hyk2⟩
              clear u0 u1 u2 u3 u4 aS2 hyk2 hbc
              go_region_held3 (fun w' => w'.cell? ⟨B15, 4, none⟩ = some (.int .i64 (m : Int)) ∧ w'.cell? ⟨B15, 0, none⟩ = some (.string yk) ∧ w'.cell? ⟨B15, 2, none⟩ = some (.int .u64 (yh : Int)) ∧ w'.cell? ⟨B3, 1, none⟩ = some (.int .i64 S8) ∧ w'.cell? ⟨ga, m * 5 + 2, none⟩ = some (.string yk)) (with_reducible assumption)
                (first | (go_at_call 54; (with_reducible refine (hah.out _ hKc.out.drew).mono ?_); rintro r wA ⟨rfl, kA⟩; have SA : wA.cell? ⟨B15, 4, none⟩ = some (.int .i64 (m : Int)) ∧ wA.cell? ⟨B15, 0, none⟩ = some (.string yk) ∧ wA.cell? ⟨B15, 2, none⟩ = some (.int .u64 (yh : Int)) ∧ wA.cell? ⟨B3, 1, none⟩ = some (.int .i64 S8) ∧ wA.cell? ⟨ga, m * 5 + 2, none⟩ = some (.string yk) := ⟨keeps_cell kA id SD.1, keeps_cell kA id SD.2.1, keeps_cell kA id SD.2.2.1, keeps_cell kA id SD.2.2.2.1, keeps_cell kA id SD.2.2.2.2⟩))
              have hKA := hide (hKc.out.drew.trans kA (fun _ _ e => e))
              clear SD SA kA hKc hah
              go_wp2_with fail
              go_roundw
              case rel => exact ⟨k + 1, cast1 k, Nat.succ_le_of_lt hkL, hKA⟩
              case measure => exact meas8 hkL
            · obtain rfl : k = L.length := by omega
              have hk' : ¬ (L.length : Int) < (L.length : Int) := by omega
              go_wp2_with fail
              go_ret
              exact ⟨rfl, HKV.out.trans hKk.out (fun _ _ e => e)⟩
end
end Go.Proofs.YtmdnknbolgedgaaGreatDoor
