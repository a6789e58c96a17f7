/-
  TablePins (made by gentp.py).
-/
import Derived.Test.YtmdnknbolgedgaaGreatDoorUn20
import Derived.Test.YtmdnknbolgedgaaGreatDoorHTB16
import Derived.Test.YtmdnknbolgedgaaGreatDoorHTB17
namespace Go.Proofs.YtmdnknbolgedgaaGreatDoor
open Go.RowKit Go.Shelf Ly Ct
set_option linter.unusedVariables false

theorem ben_0 {W : World} {b p : Nat} {l : Lay} {off : Int} {fs hs ts lv : Value} {S ad : Int} {t : TypeId} (hb : W.heap[b]? = some (.cells (benC p l off fs S hs ts lv ad) t)) : W.cell? ⟨b, 0, none⟩ = some (.pointer (some ⟨p, 0, none⟩)) := by
  simp only [World.cell?, hb]
  rfl
/-- A row of marks: kind, number. -/
def MarksIn (w : World) (a : Option Addr) (ms : List (Int × Int)) : Prop := ms = [] ∨ ∃ b o, a = some ⟨b, o, none⟩ ∧ ∀ i (h : i < ms.length), w.cell? ⟨b, o + i * 2, none⟩ = some (.int .i64 ms[i].1) ∧ w.cell? ⟨b, o + i * 2 + 1, none⟩ = some (.int .i64 ms[i].2)
def hv59 (i : Nat) : Nat := if i = 0 then 5 else 900
/-- The Bench behind some marks. -/
def PB (W0 W : World) (b p : Nat) (l : Lay) (G : Nat) (fs : Value) (g o : Nat) (hv : Nat → Nat) (i : Nat) (pn nx : Int) (kn : Nat) : Prop := ∃ lv L ad d f c, BM W0 W b p l G fs (.slice none 0 0) (.slice (some ⟨g, o, none⟩) 2 2) lv L ad d f c ∧ LTie c G f (hsT hv 2) L ad ∧ ad ≤ i ∧ f 1 = pn ∧ f 2 = nx ∧ f 0 = (kn : Int)
theorem wi_of {i n : Nat} (h : i ≤ n) (hn : n ≤ 8796093022208) : wrap64 ((i : Int) + 1) = (i : Int) + 1 ∧ IntKind.i64.wrap ((i : Int) + 1) = (i : Int) + 1 := by
  constructor
  · unfold wrap64; omega
  · rw [IntKind.wrap_i64]; omega
theorem wr62 {pn : Int} (h0 : 0 ≤ pn) (h1 : pn ≤ 4611686018427387904) : (wrap64 (-pn) = -pn ∧ IntKind.i64.wrap (-pn) = -pn) ∧ wrap64 (4611686018427387904 - pn) = 4611686018427387904 - pn ∧ IntKind.i64.wrap (4611686018427387904 - pn) = 4611686018427387904 - pn := by
  refine ⟨⟨?_, ?_⟩, ?_, ?_⟩
  · unfold wrap64; omega
  · rw [IntKind.wrap_i64]; omega
  · unfold wrap64; omega
  · rw [IntKind.wrap_i64]; omega
theorem wr63 {x : Int} (h0 : 0 ≤ x) (h1 : x ≤ 4611686018427387904) : wrap64 x = x ∧ IntKind.i64.wrap x = x := by
  constructor
  · unfold wrap64; omega
  · rw [IntKind.wrap_i64]; omega
namespace tablePins
set_option maxRecDepth 100000 in
set_option maxHeartbeats 40000000 in
theorem walk {w : World} {l : Lay} {fa : Option Addr} {fl fc : Nat} {ma : Option Addr} {mc : Nat} {ms : List (Int × Int)} (hBe : ∀ W hb, Keeps w W (fun _ => False) → W.heap[hb]? = some (.cells #[.int .u64 5, .int .u64 900] 23) → Calls Tryz.prog 18 #[.agg #[.slice fa fl fc, .int .i64 16, .slice (some ⟨hb, 0, none⟩) 2 2, .slice none 0 0]] W fun e w' => BenchAny W l (.slice fa fl fc) (.slice none 0 0) 16 (some ⟨hb, 0, none⟩) 2 2 hv59 e w') (hms : MarksIn w ma ms) (hfew : ms.length ≤ 8796093022208) (hfit : ∀ x ∈ ms, fitsI x.1 ∧ fitsI x.2) :
    Calls Tryz.prog 4 #[.slice fa fl fc, .slice ma ms.length mc] w fun e w' => e = .returned (.bool true) ∧ Keeps w w' (fun _ => False) := by
  have hTn : Hid (∀ i (hi : i < ms.length), ∃ tb tq, ma = some ⟨tb, tq, none⟩ ∧ ∀ W, Keeps w W (fun _ => False) → W.cell? ⟨tb, tq + i * 2, none⟩ = some (.int .i64 ms[i].1) ∧ W.cell? ⟨tb, tq + i * 2 + 1, none⟩ = some (.int .i64 ms[i].2)) := fun i hi => by
    rcases hms with rfl | ⟨tb, tq, e, hc⟩
    · simp at hi
    · obtain ⟨c1, c2⟩ := hc i hi
      exact ⟨tb, tq, e, fun W q => ⟨keeps_cell q id c1, keeps_cell q id c2⟩⟩
  have hFit := hide hfit
  replace hBe := hide hBe
  have hNum := fun x W => num8_any x W
  clear hms hfit
  go_enter Tryz.func4, Tryz.ntmps4
  go_wp2_with fail
  refine alloc1 (P := fun W => Calls _ _ _ W _) fun W0 hb hz k0 => ?_
  (with_reducible refine (hBe.out _ _ k0 hb).mono ?_)
  clear hBe
  generalize Value.slice fa fl fc = fs at *
  rintro r w1 (⟨rfl, k1⟩ | ⟨b, p, G, j, g, o, d, f, c, rfl, hgo, hS, hP, hB, hT, h0, h1, h2⟩)
  · go_wp2_with fail
    go_ret
    exact ⟨rfl, k0.trans k1 (fun _ _ e => e)⟩
  · have HP := hide hP
    have Hk0 := hide k0
    have HB0 : Hid (PB W0 w1 b p l G fs g o hv59 0 0 0 2) := ⟨_, _, _, _, _, _, hB, hT, Nat.le_refl _, h1, h2, h0⟩
    clear hB hT hP hS hb hz d f c hgo h0 h1 h2 k0
    go_wp2_with fail
    go_loopw [8, 9, 10, 33] (fun v8 v9 v10 v33 wr => ∃ (i : Nat) (pn nx : Int) (rt : Bool), v33 = .int .i64 (i : Int) ∧ i ≤ ms.length ∧ v8 = .int .i64 pn ∧ v9 = .int .i64 nx ∧ v10 = .bool rt ∧ Hid (0 ≤ pn) ∧ Hid (pn ≤ 4611686018427387904) ∧ Hid (PB W0 wr b p l G fs g o hv59 i pn nx (if rt then 4 else 2))) (fun _ _ _ v33 _ => ms.length - (intOf v33).toNat)
    case atStart => exact ⟨0, 0, 0, false, rfl, Nat.zero_le _, rfl, rfl, rfl, (by show (0 : Int) ≤ 0; decide), (by show (0 : Int) ≤ 4611686018427387904; decide), HB0⟩
    case round =>
      clear HB0
      obtain ⟨i, pn, nx, rt, rfl, hi, rfl, rfl, rfl, HP0, HP1, HPB⟩ := hrel
      by_cases hlt : i < ms.length
      · have hlt' : (i : Int) < (ms.length : Int) := by omega
        obtain ⟨tb, tq, hta, hcs⟩ := hTn.out i hlt
        have hf2 := hide (hFit.out _ (List.getElem_mem hlt)).2
        obtain ⟨x1, x2⟩ := hcs wr (Hk0.out.trans (by obtain ⟨_, _, _, _, _, _, q, -⟩ := HPB.out; exact q.keep) (fun _ _ e => e))
        subst hta
        clear hcs
        generalize ms[i].1 = y1 at *
        generalize ms[i].2 = y2 at *
        have wi := wi_of hi hfew
        obtain ⟨wi1, wi2⟩ := wi
        by_cases hk1 : y1 = 1
        · subst hk1
          have kA0 : Keeps wr (wr.alloc (.cells #[.int .i64 1, .int .i64 y2] 54)) (fun _ => False) := (Keeps.refl wr (fun _ => False)).alloc _
          have hbA0 := heap_alloc_new wr (.cells #[.int .i64 1, .int .i64 y2] 54)
          have kA := hide kA0
          have hbA := hide hbA0
          clear kA0 hbA0
          go_wp2_with fail
          generalize wr.alloc (.cells #[.int .i64 1, .int .i64 y2] 54) = WA at *
          obtain ⟨lv, L, ad, d, f, c, hB, hT, had, h1, h2, h0⟩ := HPB.out
          have hBA := hB.stay kA.out
          have hSA : SW W0 WA p (fun q => (q = b ∨ lv.ownBlock = some q) ∨ q = wr.heap.size) l G d f c := hB.sw.box (Nat.le_refl _) kA.out (heap_lt hbA.out)
          clear hB kA HPB
          generalize wr.heap.size = B12 at *
          have hm2 : ∀ W : World, W.heap[B12]? = WA.heap[B12]? → W.cell? ⟨B12, 1, none⟩ = some (.int .i64 y2) := fun W q => by
            have := q.trans hbA.out
            simp only [World.cell?, this]
            rfl
          by_cases hno : y2 < -pn ∨ 4611686018427387904 - pn < y2
          · have hPin : Hid (∀ W, Keeps WA W (fun _ => False) → Calls Tryz.prog 19 #[.agg #[.pointer (some ⟨p, 0, none⟩), .int .i64 l.k, .int .i64 l.e, .int .i64 l.a, .int .i64 l.b, .int .i64 l.c, .int .i64 l.eo, .int .i64 l.bo, .int .i64 l.s, .int .i64 l.g, .int .i64 (16 : Int)], .int .i64 y2] W fun e w' => e = .returned (.tuple #[.int .i64 0, .int .i64 83]) ∧ Keeps W w' (fun _ => False)) := fun W q => sw_pin_no (hSA.stay q) y2 hf2.out (by rw [h1]; exact HP0.out) (by rw [h1]; exact HP1.out) (by rw [h1]; exact hno)
            have HT0 : Hid (∀ W, Keeps WA W (fun _ => False) → PB W0 W b p l G fs g o hv59 (i + 1) pn nx (if rt then 4 else 2)) := fun W q => ⟨lv, L, ad, d, f, c, hBA.stay q, hT, by omega, h1, h2, h0⟩
            have hSS : Hid (∀ W, Keeps WA W (fun _ => False) → (W.cell? ⟨b, 10, none⟩ = some (.pointer (some ⟨p, 0, none⟩)) ∧ W.cell? ⟨b, 11, none⟩ = some (.int .i64 l.k) ∧ W.cell? ⟨b, 12, none⟩ = some (.int .i64 l.e) ∧ W.cell? ⟨b, 13, none⟩ = some (.int .i64 l.a) ∧ W.cell? ⟨b, 14, none⟩ = some (.int .i64 l.b) ∧ W.cell? ⟨b, 15, none⟩ = some (.int .i64 l.c) ∧ W.cell? ⟨b, 16, none⟩ = some (.int .i64 l.eo) ∧ W.cell? ⟨b, 17, none⟩ = some (.int .i64 l.bo) ∧ W.cell? ⟨b, 18, none⟩ = some (.int .i64 l.s) ∧ W.cell? ⟨b, 19, none⟩ = some (.int .i64 l.g) ∧ W.cell? ⟨b, 20, none⟩ = some (.int .i64 (16 : Int))) ∧ W.cell? ⟨B12, 1, none⟩ = some (.int .i64 y2)) := fun W q => ⟨ben_T (q.blk hBA.blk), hm2 W (q.block _ (heap_lt hbA.out) id)⟩
            have SD := hSS.out _ (Keeps.refl WA (fun _ => False)).drew
            clear hBA hSA hT had h1 h2 h0 d f c L ad hm2 hbA
            go_region_held3 (fun w' => (w'.cell? ⟨b, 10, none⟩ = some (.pointer (some ⟨p, 0, none⟩)) ∧ w'.cell? ⟨b, 11, none⟩ = some (.int .i64 l.k) ∧ w'.cell? ⟨b, 12, none⟩ = some (.int .i64 l.e) ∧ w'.cell? ⟨b, 13, none⟩ = some (.int .i64 l.a) ∧ w'.cell? ⟨b, 14, none⟩ = some (.int .i64 l.b) ∧ w'.cell? ⟨b, 15, none⟩ = some (.int .i64 l.c) ∧ w'.cell? ⟨b, 16, none⟩ = some (.int .i64 l.eo) ∧ w'.cell? ⟨b, 17, none⟩ = some (.int .i64 l.bo) ∧ w'.cell? ⟨b, 18, none⟩ = some (.int .i64 l.s) ∧ w'.cell? ⟨b, 19, none⟩ = some (.int .i64 l.g) ∧ w'.cell? ⟨b, 20, none⟩ = some (.int .i64 (16 : Int))) ∧ w'.cell? ⟨B12, 1, none⟩ = some (.int .i64 y2)) (with_reducible assumption)
              (first | (go_at_call 19; (with_reducible refine (hPin.out _ (Keeps.refl WA (fun _ => False)).drew).mono ?_); rintro r WT ⟨rfl, kP'⟩; have kP := (Keeps.refl WA (fun _ => False)).drew.trans kP' (fun _ _ e => e); have SA := hSS.out _ kP))
            obtain ⟨-, sm⟩ := SA
            have HT := hide (HT0.out _ kP)
            obtain ⟨⟨wn1, wn2⟩, ws1, ws2⟩ := wr62 HP0.out HP1.out
            clear SD kP kP' hPin HT0 hSS
            by_cases hlo : y2 < -pn
            · go_wp2_with fail
              refine (hNum _ _).mono ?_
              rintro r wC ⟨rfl, hw⟩
              rw [hw]
              clear hw wC
              clear sm wn1 wn2 ws1 ws2 hlo hno
              cases rt
              · as_aux_lemma =>
                  have HT : Hid (PB W0 WT b p l G fs g o hv59 (i + 1) pn nx 2) := HT
                  obtain ⟨lv, L, ad, d, f, c, hB, hT, had, h1, h2, h0⟩ := HT.out
                  have hSt := sw_stat hB.sw
                  rw [h1, h2, h0] at hSt
                  have e4 : (((2 : Nat) : Int) == 4) = false := rfl
                  rw [e4] at hSt
                  have hKi : Hid (∀ W, Keeps WT W (fun _ => False) → Calls Tryz.prog 24 #[.pointer (some ⟨p, 0, none⟩), .int .i64 (16 : Int), .int .i64 8] W fun e w' => e = .returned (.tuple #[.int .u64 2, .int .i64 0]) ∧ Keeps W w' (fun _ => False)) := fun W q => sw_kind (hB.stay q).sw 2 h0 (by decide)
                  have hBb : Hid (∀ W, Keeps WT W (fun _ => False) → (W.cell? ⟨b, 10, none⟩ = some (.pointer (some ⟨p, 0, none⟩)) ∧ W.cell? ⟨b, 11, none⟩ = some (.int .i64 l.k) ∧ W.cell? ⟨b, 12, none⟩ = some (.int .i64 l.e) ∧ W.cell? ⟨b, 13, none⟩ = some (.int .i64 l.a) ∧ W.cell? ⟨b, 14, none⟩ = some (.int .i64 l.b) ∧ W.cell? ⟨b, 15, none⟩ = some (.int .i64 l.c) ∧ W.cell? ⟨b, 16, none⟩ = some (.int .i64 l.eo) ∧ W.cell? ⟨b, 17, none⟩ = some (.int .i64 l.bo) ∧ W.cell? ⟨b, 18, none⟩ = some (.int .i64 l.s) ∧ W.cell? ⟨b, 19, none⟩ = some (.int .i64 l.g) ∧ W.cell? ⟨b, 20, none⟩ = some (.int .i64 (16 : Int))) ∧ W.cell? ⟨b, 0, none⟩ = some (.pointer (some ⟨p, 0, none⟩))) := fun W q => ⟨ben_T (q.blk hB.blk), ben_0 (q.blk hB.blk)⟩
                  have hFin : Hid (∀ W, Keeps WT W (fun _ => False) → PB W0 W b p l G fs g o hv59 (i + 1) pn nx 2) := fun W q => ⟨lv, L, ad, d, f, c, hB.stay q, hT, had, h1, h2, h0⟩
                  obtain ⟨t0, t1, t2, t3, t4, t5, t6, t7, t8, t9, t10⟩ := ben_T hB.blk
                  clear HT hB hT had h1 h2 h0 e4
                  generalize f 3 = f3 at hSt
                  generalize f 4 = f4 at hSt
                  generalize f 5 = f5 at hSt
                  generalize f 6 = f6 at hSt
                  generalize f 7 = f7 at hSt
                  clear d f c
                  go_wp2_with fail
                  (with_reducible refine hSt.mono ?_)
                  rintro r V1 ⟨rfl, k1⟩
                  clear t0 t1 t2 t3 t4 t5 t6 t7 t8 t9 t10 hSt
                  have kx := hide (k1.alloc (.cells #[.int .i64 f3, .int .i64 f4, .int .i64 f5, .int .i64 f6, .int .i64 (pn), .int .i64 (nx), .bool false, .int .i64 f7] 64))
                  have hbx := hide (heap_alloc_new V1 (.cells #[.int .i64 f3, .int .i64 f4, .int .i64 f5, .int .i64 f6, .int .i64 (pn), .int .i64 (nx), .bool false, .int .i64 f7] 64))
                  clear k1
                  go_wp2_with fail
                  generalize V1.alloc (.cells #[.int .i64 f3, .int .i64 f4, .int .i64 f5, .int .i64 f6, .int .i64 (pn), .int .i64 (nx), .bool false, .int .i64 f7] 64) = V2 at *
                  generalize V1.heap.size = B15 at *
                  have SD := hBb.out _ kx.out.drew
                  go_region_held3 (fun w' => (w'.cell? ⟨b, 10, none⟩ = some (.pointer (some ⟨p, 0, none⟩)) ∧ w'.cell? ⟨b, 11, none⟩ = some (.int .i64 l.k) ∧ w'.cell? ⟨b, 12, none⟩ = some (.int .i64 l.e) ∧ w'.cell? ⟨b, 13, none⟩ = some (.int .i64 l.a) ∧ w'.cell? ⟨b, 14, none⟩ = some (.int .i64 l.b) ∧ w'.cell? ⟨b, 15, none⟩ = some (.int .i64 l.c) ∧ w'.cell? ⟨b, 16, none⟩ = some (.int .i64 l.eo) ∧ w'.cell? ⟨b, 17, none⟩ = some (.int .i64 l.bo) ∧ w'.cell? ⟨b, 18, none⟩ = some (.int .i64 l.s) ∧ w'.cell? ⟨b, 19, none⟩ = some (.int .i64 l.g) ∧ w'.cell? ⟨b, 20, none⟩ = some (.int .i64 (16 : Int))) ∧ w'.cell? ⟨b, 0, none⟩ = some (.pointer (some ⟨p, 0, none⟩))) (with_reducible assumption)
                    (first | (go_at_call 25; (with_reducible refine (toff_any p l 16 _).mono ?_); rintro r wA ⟨rfl, kA⟩; have kA2 := kx.out.drew.trans kA (fun _ _ e => e); have SA := hBb.out _ kA2) | (go_at_call 24; (with_reducible refine (hKi.out _ kA2).mono ?_); rintro r wB ⟨rfl, kB⟩; have kB2 := kA2.trans kB (fun _ _ e => e); have SB := hBb.out _ kB2))
                  obtain ⟨⟨c0, c1, c2, c3, c4, c5, c6, c7⟩, -⟩ := st8_cells (((Keeps.refl V2 (fun _ => False)).drew.trans (kA.trans kB (fun _ _ e => e)) (fun _ _ e => e)).blk hbx.out)
                  have HFin := hide (hFin.out _ kB2)
                  clear SD SA SB kA kA2 kB kB2 kx hbx hBb hKi hFin
                  go_wp2_with fail
                  refine (hNum _ _).mono ?_
                  rintro r wC ⟨rfl, hw⟩
                  rw [hw]
                  clear hw wC
                  go_wp2_with fail
                  refine (hNum _ _).mono ?_
                  rintro r wC ⟨rfl, hw⟩
                  rw [hw]
                  clear hw wC
                  go_wp2_with fail
                  go_roundw
                  case rel => exact ⟨i + 1, pn, nx, false, cast1 i, Nat.succ_le_of_lt hlt, rfl, rfl, rfl, HP0, HP1, HFin⟩
                  case measure => exact meas8 hlt
              · as_aux_lemma =>
                  have HT : Hid (PB W0 WT b p l G fs g o hv59 (i + 1) pn nx 4) := HT
                  obtain ⟨lv, L, ad, d, f, c, hB, hT, had, h1, h2, h0⟩ := HT.out
                  have hSt := sw_stat hB.sw
                  rw [h1, h2, h0] at hSt
                  have e4 : (((4 : Nat) : Int) == 4) = true := rfl
                  rw [e4] at hSt
                  have hKi : Hid (∀ W, Keeps WT W (fun _ => False) → Calls Tryz.prog 24 #[.pointer (some ⟨p, 0, none⟩), .int .i64 (16 : Int), .int .i64 8] W fun e w' => e = .returned (.tuple #[.int .u64 4, .int .i64 0]) ∧ Keeps W w' (fun _ => False)) := fun W q => sw_kind (hB.stay q).sw 4 h0 (by decide)
                  have hBb : Hid (∀ W, Keeps WT W (fun _ => False) → (W.cell? ⟨b, 10, none⟩ = some (.pointer (some ⟨p, 0, none⟩)) ∧ W.cell? ⟨b, 11, none⟩ = some (.int .i64 l.k) ∧ W.cell? ⟨b, 12, none⟩ = some (.int .i64 l.e) ∧ W.cell? ⟨b, 13, none⟩ = some (.int .i64 l.a) ∧ W.cell? ⟨b, 14, none⟩ = some (.int .i64 l.b) ∧ W.cell? ⟨b, 15, none⟩ = some (.int .i64 l.c) ∧ W.cell? ⟨b, 16, none⟩ = some (.int .i64 l.eo) ∧ W.cell? ⟨b, 17, none⟩ = some (.int .i64 l.bo) ∧ W.cell? ⟨b, 18, none⟩ = some (.int .i64 l.s) ∧ W.cell? ⟨b, 19, none⟩ = some (.int .i64 l.g) ∧ W.cell? ⟨b, 20, none⟩ = some (.int .i64 (16 : Int))) ∧ W.cell? ⟨b, 0, none⟩ = some (.pointer (some ⟨p, 0, none⟩))) := fun W q => ⟨ben_T (q.blk hB.blk), ben_0 (q.blk hB.blk)⟩
                  have hFin : Hid (∀ W, Keeps WT W (fun _ => False) → PB W0 W b p l G fs g o hv59 (i + 1) pn nx 4) := fun W q => ⟨lv, L, ad, d, f, c, hB.stay q, hT, had, h1, h2, h0⟩
                  obtain ⟨t0, t1, t2, t3, t4, t5, t6, t7, t8, t9, t10⟩ := ben_T hB.blk
                  clear HT hB hT had h1 h2 h0 e4
                  generalize f 3 = f3 at hSt
                  generalize f 4 = f4 at hSt
                  generalize f 5 = f5 at hSt
                  generalize f 6 = f6 at hSt
                  generalize f 7 = f7 at hSt
                  clear d f c
                  go_wp2_with fail
                  (with_reducible refine hSt.mono ?_)
                  rintro r V1 ⟨rfl, k1⟩
                  clear t0 t1 t2 t3 t4 t5 t6 t7 t8 t9 t10 hSt
                  have kx := hide (k1.alloc (.cells #[.int .i64 f3, .int .i64 f4, .int .i64 f5, .int .i64 f6, .int .i64 (pn), .int .i64 (nx), .bool true, .int .i64 f7] 64))
                  have hbx := hide (heap_alloc_new V1 (.cells #[.int .i64 f3, .int .i64 f4, .int .i64 f5, .int .i64 f6, .int .i64 (pn), .int .i64 (nx), .bool true, .int .i64 f7] 64))
                  clear k1
                  go_wp2_with fail
                  generalize V1.alloc (.cells #[.int .i64 f3, .int .i64 f4, .int .i64 f5, .int .i64 f6, .int .i64 (pn), .int .i64 (nx), .bool true, .int .i64 f7] 64) = V2 at *
                  generalize V1.heap.size = B15 at *
                  have SD := hBb.out _ kx.out.drew
                  go_region_held3 (fun w' => (w'.cell? ⟨b, 10, none⟩ = some (.pointer (some ⟨p, 0, none⟩)) ∧ w'.cell? ⟨b, 11, none⟩ = some (.int .i64 l.k) ∧ w'.cell? ⟨b, 12, none⟩ = some (.int .i64 l.e) ∧ w'.cell? ⟨b, 13, none⟩ = some (.int .i64 l.a) ∧ w'.cell? ⟨b, 14, none⟩ = some (.int .i64 l.b) ∧ w'.cell? ⟨b, 15, none⟩ = some (.int .i64 l.c) ∧ w'.cell? ⟨b, 16, none⟩ = some (.int .i64 l.eo) ∧ w'.cell? ⟨b, 17, none⟩ = some (.int .i64 l.bo) ∧ w'.cell? ⟨b, 18, none⟩ = some (.int .i64 l.s) ∧ w'.cell? ⟨b, 19, none⟩ = some (.int .i64 l.g) ∧ w'.cell? ⟨b, 20, none⟩ = some (.int .i64 (16 : Int))) ∧ w'.cell? ⟨b, 0, none⟩ = some (.pointer (some ⟨p, 0, none⟩))) (with_reducible assumption)
                    (first | (go_at_call 25; (with_reducible refine (toff_any p l 16 _).mono ?_); rintro r wA ⟨rfl, kA⟩; have kA2 := kx.out.drew.trans kA (fun _ _ e => e); have SA := hBb.out _ kA2) | (go_at_call 24; (with_reducible refine (hKi.out _ kA2).mono ?_); rintro r wB ⟨rfl, kB⟩; have kB2 := kA2.trans kB (fun _ _ e => e); have SB := hBb.out _ kB2))
                  obtain ⟨⟨c0, c1, c2, c3, c4, c5, c6, c7⟩, -⟩ := st8_cells (((Keeps.refl V2 (fun _ => False)).drew.trans (kA.trans kB (fun _ _ e => e)) (fun _ _ e => e)).blk hbx.out)
                  have HFin := hide (hFin.out _ kB2)
                  clear SD SA SB kA kA2 kB kB2 kx hbx hBb hKi hFin
                  go_wp2_with fail
                  refine (hNum _ _).mono ?_
                  rintro r wC ⟨rfl, hw⟩
                  rw [hw]
                  clear hw wC
                  go_wp2_with fail
                  refine (hNum _ _).mono ?_
                  rintro r wC ⟨rfl, hw⟩
                  rw [hw]
                  clear hw wC
                  go_wp2_with fail
                  go_roundw
                  case rel => exact ⟨i + 1, pn, nx, true, cast1 i, Nat.succ_le_of_lt hlt, rfl, rfl, rfl, HP0, HP1, HFin⟩
                  case measure => exact meas8 hlt
            · have hhi : 4611686018427387904 - pn < y2 := hno.resolve_left hlo
              go_wp2_with fail
              refine (hNum _ _).mono ?_
              rintro r wC ⟨rfl, hw⟩
              rw [hw]
              clear hw wC
              clear sm wn1 wn2 ws1 ws2 hlo hno hhi
              cases rt
              · as_aux_lemma =>
                  have HT : Hid (PB W0 WT b p l G fs g o hv59 (i + 1) pn nx 2) := HT
                  obtain ⟨lv, L, ad, d, f, c, hB, hT, had, h1, h2, h0⟩ := HT.out
                  have hSt := sw_stat hB.sw
                  rw [h1, h2, h0] at hSt
                  have e4 : (((2 : Nat) : Int) == 4) = false := rfl
                  rw [e4] at hSt
                  have hKi : Hid (∀ W, Keeps WT W (fun _ => False) → Calls Tryz.prog 24 #[.pointer (some ⟨p, 0, none⟩), .int .i64 (16 : Int), .int .i64 8] W fun e w' => e = .returned (.tuple #[.int .u64 2, .int .i64 0]) ∧ Keeps W w' (fun _ => False)) := fun W q => sw_kind (hB.stay q).sw 2 h0 (by decide)
                  have hBb : Hid (∀ W, Keeps WT W (fun _ => False) → (W.cell? ⟨b, 10, none⟩ = some (.pointer (some ⟨p, 0, none⟩)) ∧ W.cell? ⟨b, 11, none⟩ = some (.int .i64 l.k) ∧ W.cell? ⟨b, 12, none⟩ = some (.int .i64 l.e) ∧ W.cell? ⟨b, 13, none⟩ = some (.int .i64 l.a) ∧ W.cell? ⟨b, 14, none⟩ = some (.int .i64 l.b) ∧ W.cell? ⟨b, 15, none⟩ = some (.int .i64 l.c) ∧ W.cell? ⟨b, 16, none⟩ = some (.int .i64 l.eo) ∧ W.cell? ⟨b, 17, none⟩ = some (.int .i64 l.bo) ∧ W.cell? ⟨b, 18, none⟩ = some (.int .i64 l.s) ∧ W.cell? ⟨b, 19, none⟩ = some (.int .i64 l.g) ∧ W.cell? ⟨b, 20, none⟩ = some (.int .i64 (16 : Int))) ∧ W.cell? ⟨b, 0, none⟩ = some (.pointer (some ⟨p, 0, none⟩))) := fun W q => ⟨ben_T (q.blk hB.blk), ben_0 (q.blk hB.blk)⟩
                  have hFin : Hid (∀ W, Keeps WT W (fun _ => False) → PB W0 W b p l G fs g o hv59 (i + 1) pn nx 2) := fun W q => ⟨lv, L, ad, d, f, c, hB.stay q, hT, had, h1, h2, h0⟩
                  obtain ⟨t0, t1, t2, t3, t4, t5, t6, t7, t8, t9, t10⟩ := ben_T hB.blk
                  clear HT hB hT had h1 h2 h0 e4
                  generalize f 3 = f3 at hSt
                  generalize f 4 = f4 at hSt
                  generalize f 5 = f5 at hSt
                  generalize f 6 = f6 at hSt
                  generalize f 7 = f7 at hSt
                  clear d f c
                  go_wp2_with fail
                  (with_reducible refine hSt.mono ?_)
                  rintro r V1 ⟨rfl, k1⟩
                  clear t0 t1 t2 t3 t4 t5 t6 t7 t8 t9 t10 hSt
                  have kx := hide (k1.alloc (.cells #[.int .i64 f3, .int .i64 f4, .int .i64 f5, .int .i64 f6, .int .i64 (pn), .int .i64 (nx), .bool false, .int .i64 f7] 64))
                  have hbx := hide (heap_alloc_new V1 (.cells #[.int .i64 f3, .int .i64 f4, .int .i64 f5, .int .i64 f6, .int .i64 (pn), .int .i64 (nx), .bool false, .int .i64 f7] 64))
                  clear k1
                  go_wp2_with fail
                  generalize V1.alloc (.cells #[.int .i64 f3, .int .i64 f4, .int .i64 f5, .int .i64 f6, .int .i64 (pn), .int .i64 (nx), .bool false, .int .i64 f7] 64) = V2 at *
                  generalize V1.heap.size = B15 at *
                  have SD := hBb.out _ kx.out.drew
                  go_region_held3 (fun w' => (w'.cell? ⟨b, 10, none⟩ = some (.pointer (some ⟨p, 0, none⟩)) ∧ w'.cell? ⟨b, 11, none⟩ = some (.int .i64 l.k) ∧ w'.cell? ⟨b, 12, none⟩ = some (.int .i64 l.e) ∧ w'.cell? ⟨b, 13, none⟩ = some (.int .i64 l.a) ∧ w'.cell? ⟨b, 14, none⟩ = some (.int .i64 l.b) ∧ w'.cell? ⟨b, 15, none⟩ = some (.int .i64 l.c) ∧ w'.cell? ⟨b, 16, none⟩ = some (.int .i64 l.eo) ∧ w'.cell? ⟨b, 17, none⟩ = some (.int .i64 l.bo) ∧ w'.cell? ⟨b, 18, none⟩ = some (.int .i64 l.s) ∧ w'.cell? ⟨b, 19, none⟩ = some (.int .i64 l.g) ∧ w'.cell? ⟨b, 20, none⟩ = some (.int .i64 (16 : Int))) ∧ w'.cell? ⟨b, 0, none⟩ = some (.pointer (some ⟨p, 0, none⟩))) (with_reducible assumption)
                    (first | (go_at_call 25; (with_reducible refine (toff_any p l 16 _).mono ?_); rintro r wA ⟨rfl, kA⟩; have kA2 := kx.out.drew.trans kA (fun _ _ e => e); have SA := hBb.out _ kA2) | (go_at_call 24; (with_reducible refine (hKi.out _ kA2).mono ?_); rintro r wB ⟨rfl, kB⟩; have kB2 := kA2.trans kB (fun _ _ e => e); have SB := hBb.out _ kB2))
                  obtain ⟨⟨c0, c1, c2, c3, c4, c5, c6, c7⟩, -⟩ := st8_cells (((Keeps.refl V2 (fun _ => False)).drew.trans (kA.trans kB (fun _ _ e => e)) (fun _ _ e => e)).blk hbx.out)
                  have HFin := hide (hFin.out _ kB2)
                  clear SD SA SB kA kA2 kB kB2 kx hbx hBb hKi hFin
                  go_wp2_with fail
                  refine (hNum _ _).mono ?_
                  rintro r wC ⟨rfl, hw⟩
                  rw [hw]
                  clear hw wC
                  go_wp2_with fail
                  refine (hNum _ _).mono ?_
                  rintro r wC ⟨rfl, hw⟩
                  rw [hw]
                  clear hw wC
                  go_wp2_with fail
                  go_roundw
                  case rel => exact ⟨i + 1, pn, nx, false, cast1 i, Nat.succ_le_of_lt hlt, rfl, rfl, rfl, HP0, HP1, HFin⟩
                  case measure => exact meas8 hlt
              · as_aux_lemma =>
                  have HT : Hid (PB W0 WT b p l G fs g o hv59 (i + 1) pn nx 4) := HT
                  obtain ⟨lv, L, ad, d, f, c, hB, hT, had, h1, h2, h0⟩ := HT.out
                  have hSt := sw_stat hB.sw
                  rw [h1, h2, h0] at hSt
                  have e4 : (((4 : Nat) : Int) == 4) = true := rfl
                  rw [e4] at hSt
                  have hKi : Hid (∀ W, Keeps WT W (fun _ => False) → Calls Tryz.prog 24 #[.pointer (some ⟨p, 0, none⟩), .int .i64 (16 : Int), .int .i64 8] W fun e w' => e = .returned (.tuple #[.int .u64 4, .int .i64 0]) ∧ Keeps W w' (fun _ => False)) := fun W q => sw_kind (hB.stay q).sw 4 h0 (by decide)
                  have hBb : Hid (∀ W, Keeps WT W (fun _ => False) → (W.cell? ⟨b, 10, none⟩ = some (.pointer (some ⟨p, 0, none⟩)) ∧ W.cell? ⟨b, 11, none⟩ = some (.int .i64 l.k) ∧ W.cell? ⟨b, 12, none⟩ = some (.int .i64 l.e) ∧ W.cell? ⟨b, 13, none⟩ = some (.int .i64 l.a) ∧ W.cell? ⟨b, 14, none⟩ = some (.int .i64 l.b) ∧ W.cell? ⟨b, 15, none⟩ = some (.int .i64 l.c) ∧ W.cell? ⟨b, 16, none⟩ = some (.int .i64 l.eo) ∧ W.cell? ⟨b, 17, none⟩ = some (.int .i64 l.bo) ∧ W.cell? ⟨b, 18, none⟩ = some (.int .i64 l.s) ∧ W.cell? ⟨b, 19, none⟩ = some (.int .i64 l.g) ∧ W.cell? ⟨b, 20, none⟩ = some (.int .i64 (16 : Int))) ∧ W.cell? ⟨b, 0, none⟩ = some (.pointer (some ⟨p, 0, none⟩))) := fun W q => ⟨ben_T (q.blk hB.blk), ben_0 (q.blk hB.blk)⟩
                  have hFin : Hid (∀ W, Keeps WT W (fun _ => False) → PB W0 W b p l G fs g o hv59 (i + 1) pn nx 4) := fun W q => ⟨lv, L, ad, d, f, c, hB.stay q, hT, had, h1, h2, h0⟩
                  obtain ⟨t0, t1, t2, t3, t4, t5, t6, t7, t8, t9, t10⟩ := ben_T hB.blk
                  clear HT hB hT had h1 h2 h0 e4
                  generalize f 3 = f3 at hSt
                  generalize f 4 = f4 at hSt
                  generalize f 5 = f5 at hSt
                  generalize f 6 = f6 at hSt
                  generalize f 7 = f7 at hSt
                  clear d f c
                  go_wp2_with fail
                  (with_reducible refine hSt.mono ?_)
                  rintro r V1 ⟨rfl, k1⟩
                  clear t0 t1 t2 t3 t4 t5 t6 t7 t8 t9 t10 hSt
                  have kx := hide (k1.alloc (.cells #[.int .i64 f3, .int .i64 f4, .int .i64 f5, .int .i64 f6, .int .i64 (pn), .int .i64 (nx), .bool true, .int .i64 f7] 64))
                  have hbx := hide (heap_alloc_new V1 (.cells #[.int .i64 f3, .int .i64 f4, .int .i64 f5, .int .i64 f6, .int .i64 (pn), .int .i64 (nx), .bool true, .int .i64 f7] 64))
                  clear k1
                  go_wp2_with fail
                  generalize V1.alloc (.cells #[.int .i64 f3, .int .i64 f4, .int .i64 f5, .int .i64 f6, .int .i64 (pn), .int .i64 (nx), .bool true, .int .i64 f7] 64) = V2 at *
                  generalize V1.heap.size = B15 at *
                  have SD := hBb.out _ kx.out.drew
                  go_region_held3 (fun w' => (w'.cell? ⟨b, 10, none⟩ = some (.pointer (some ⟨p, 0, none⟩)) ∧ w'.cell? ⟨b, 11, none⟩ = some (.int .i64 l.k) ∧ w'.cell? ⟨b, 12, none⟩ = some (.int .i64 l.e) ∧ w'.cell? ⟨b, 13, none⟩ = some (.int .i64 l.a) ∧ w'.cell? ⟨b, 14, none⟩ = some (.int .i64 l.b) ∧ w'.cell? ⟨b, 15, none⟩ = some (.int .i64 l.c) ∧ w'.cell? ⟨b, 16, none⟩ = some (.int .i64 l.eo) ∧ w'.cell? ⟨b, 17, none⟩ = some (.int .i64 l.bo) ∧ w'.cell? ⟨b, 18, none⟩ = some (.int .i64 l.s) ∧ w'.cell? ⟨b, 19, none⟩ = some (.int .i64 l.g) ∧ w'.cell? ⟨b, 20, none⟩ = some (.int .i64 (16 : Int))) ∧ w'.cell? ⟨b, 0, none⟩ = some (.pointer (some ⟨p, 0, none⟩))) (with_reducible assumption)
                    (first | (go_at_call 25; (with_reducible refine (toff_any p l 16 _).mono ?_); rintro r wA ⟨rfl, kA⟩; have kA2 := kx.out.drew.trans kA (fun _ _ e => e); have SA := hBb.out _ kA2) | (go_at_call 24; (with_reducible refine (hKi.out _ kA2).mono ?_); rintro r wB ⟨rfl, kB⟩; have kB2 := kA2.trans kB (fun _ _ e => e); have SB := hBb.out _ kB2))
                  obtain ⟨⟨c0, c1, c2, c3, c4, c5, c6, c7⟩, -⟩ := st8_cells (((Keeps.refl V2 (fun _ => False)).drew.trans (kA.trans kB (fun _ _ e => e)) (fun _ _ e => e)).blk hbx.out)
                  have HFin := hide (hFin.out _ kB2)
                  clear SD SA SB kA kA2 kB kB2 kx hbx hBb hKi hFin
                  go_wp2_with fail
                  refine (hNum _ _).mono ?_
                  rintro r wC ⟨rfl, hw⟩
                  rw [hw]
                  clear hw wC
                  go_wp2_with fail
                  refine (hNum _ _).mono ?_
                  rintro r wC ⟨rfl, hw⟩
                  rw [hw]
                  clear hw wC
                  go_wp2_with fail
                  go_roundw
                  case rel => exact ⟨i + 1, pn, nx, true, cast1 i, Nat.succ_le_of_lt hlt, rfl, rfl, rfl, HP0, HP1, HFin⟩
                  case measure => exact meas8 hlt
          · have hlo : ¬ y2 < -pn := fun q => hno (Or.inl q)
            have hhi : ¬ 4611686018427387904 - pn < y2 := fun q => hno (Or.inr q)
            have hPin := sw_pin_yes (hSA.stay (Keeps.refl WA (fun _ => False)).drew) y2 (by rw [h1]; exact HP0.out) (by rw [h1]; exact HP1.out) (by rw [h1]; omega) (by rw [h1]; omega)
            rw [h1] at hPin
            have HQ0 : Hid (0 ≤ pn + y2) := by show 0 ≤ pn + y2; omega
            have HQ1 : Hid (pn + y2 ≤ 4611686018427387904) := by show pn + y2 ≤ 4611686018427387904; omega
            have SD : (WA.drew.cell? ⟨b, 10, none⟩ = some (.pointer (some ⟨p, 0, none⟩)) ∧ WA.drew.cell? ⟨b, 11, none⟩ = some (.int .i64 l.k) ∧ WA.drew.cell? ⟨b, 12, none⟩ = some (.int .i64 l.e) ∧ WA.drew.cell? ⟨b, 13, none⟩ = some (.int .i64 l.a) ∧ WA.drew.cell? ⟨b, 14, none⟩ = some (.int .i64 l.b) ∧ WA.drew.cell? ⟨b, 15, none⟩ = some (.int .i64 l.c) ∧ WA.drew.cell? ⟨b, 16, none⟩ = some (.int .i64 l.eo) ∧ WA.drew.cell? ⟨b, 17, none⟩ = some (.int .i64 l.bo) ∧ WA.drew.cell? ⟨b, 18, none⟩ = some (.int .i64 l.s) ∧ WA.drew.cell? ⟨b, 19, none⟩ = some (.int .i64 l.g) ∧ WA.drew.cell? ⟨b, 20, none⟩ = some (.int .i64 (16 : Int))) ∧ WA.drew.cell? ⟨B12, 1, none⟩ = some (.int .i64 y2) := ⟨ben_T (W := WA.drew) hBA.blk, hm2 WA.drew rfl⟩
            have hBA' := hide hBA
            have hT' := hide hT
            have hU : Hid (updI f 1 (pn + y2) 1 = pn + y2 ∧ updI f 1 (pn + y2) 2 = nx ∧ updI f 1 (pn + y2) 0 = (((if rt then 4 else 2 : Nat)) : Int) ∧ updI f 1 (pn + y2) 3 = f 3 ∧ updI f 1 (pn + y2) 5 = f 5) := ⟨if_pos rfl, (if_neg (by decide)).trans h2, (if_neg (by decide)).trans h0, if_neg (by decide), if_neg (by decide)⟩
            replace hm2 := hide hm2
            clear hBA hSA hT h1 h2 h0
            go_region_held3 (fun w' => (w'.cell? ⟨b, 10, none⟩ = some (.pointer (some ⟨p, 0, none⟩)) ∧ w'.cell? ⟨b, 11, none⟩ = some (.int .i64 l.k) ∧ w'.cell? ⟨b, 12, none⟩ = some (.int .i64 l.e) ∧ w'.cell? ⟨b, 13, none⟩ = some (.int .i64 l.a) ∧ w'.cell? ⟨b, 14, none⟩ = some (.int .i64 l.b) ∧ w'.cell? ⟨b, 15, none⟩ = some (.int .i64 l.c) ∧ w'.cell? ⟨b, 16, none⟩ = some (.int .i64 l.eo) ∧ w'.cell? ⟨b, 17, none⟩ = some (.int .i64 l.bo) ∧ w'.cell? ⟨b, 18, none⟩ = some (.int .i64 l.s) ∧ w'.cell? ⟨b, 19, none⟩ = some (.int .i64 l.g) ∧ w'.cell? ⟨b, 20, none⟩ = some (.int .i64 (16 : Int))) ∧ w'.cell? ⟨B12, 1, none⟩ = some (.int .i64 y2)) (with_reducible assumption)
              (first | (go_at_call 19; (with_reducible refine hPin.mono ?_); rintro r WT ⟨rfl, hSP, hqP⟩; obtain ⟨d2, hSP⟩ := hSP; have hBP := (hBA'.out.stay (Keeps.refl WA (fun _ => False)).drew).ofSW hSP hqP; have SA : (WT.cell? ⟨b, 10, none⟩ = some (.pointer (some ⟨p, 0, none⟩)) ∧ WT.cell? ⟨b, 11, none⟩ = some (.int .i64 l.k) ∧ WT.cell? ⟨b, 12, none⟩ = some (.int .i64 l.e) ∧ WT.cell? ⟨b, 13, none⟩ = some (.int .i64 l.a) ∧ WT.cell? ⟨b, 14, none⟩ = some (.int .i64 l.b) ∧ WT.cell? ⟨b, 15, none⟩ = some (.int .i64 l.c) ∧ WT.cell? ⟨b, 16, none⟩ = some (.int .i64 l.eo) ∧ WT.cell? ⟨b, 17, none⟩ = some (.int .i64 l.bo) ∧ WT.cell? ⟨b, 18, none⟩ = some (.int .i64 l.s) ∧ WT.cell? ⟨b, 19, none⟩ = some (.int .i64 l.g) ∧ WT.cell? ⟨b, 20, none⟩ = some (.int .i64 (16 : Int))) ∧ WT.cell? ⟨B12, 1, none⟩ = some (.int .i64 y2) := ⟨ben_T hBP.blk, hm2.out WT (hqP B12 (Or.inr rfl))⟩))
            obtain ⟨-, sm⟩ := SA
            have HT : Hid (PB W0 WT b p l G fs g o hv59 (i + 1) (pn + y2) nx (if rt then 4 else 2)) := ⟨lv, L, ad, d2, _, c, hBP, hT'.out.head hU.out.2.2.2.1 hU.out.2.2.2.2, by omega, hU.out.1, hU.out.2.1, hU.out.2.2.1⟩
            obtain ⟨⟨wn1, wn2⟩, ws1, ws2⟩ := wr62 HP0.out HP1.out
            obtain ⟨wt1, wt2⟩ := wr63 HQ0.out HQ1.out
            replace HP0 := HQ0
            replace HP1 := HQ1
            clear SD hPin hSP hqP hBP hBA' hT' hU hm2 hbA had d f c L ad d2 HQ0 HQ1
            go_wp2_with fail
            refine (hNum _ _).mono ?_
            rintro r wC ⟨rfl, hw⟩
            rw [hw]
            clear hw wC
            clear sm wn1 wn2 ws1 ws2 wt1 wt2 hlo hhi hno
            generalize pn + y2 = pq at *
            cases rt
            · as_aux_lemma =>
                have HT : Hid (PB W0 WT b p l G fs g o hv59 (i + 1) pq nx 2) := HT
                obtain ⟨lv, L, ad, d, f, c, hB, hT, had, h1, h2, h0⟩ := HT.out
                have hSt := sw_stat hB.sw
                rw [h1, h2, h0] at hSt
                have e4 : (((2 : Nat) : Int) == 4) = false := rfl
                rw [e4] at hSt
                have hKi : Hid (∀ W, Keeps WT W (fun _ => False) → Calls Tryz.prog 24 #[.pointer (some ⟨p, 0, none⟩), .int .i64 (16 : Int), .int .i64 8] W fun e w' => e = .returned (.tuple #[.int .u64 2, .int .i64 0]) ∧ Keeps W w' (fun _ => False)) := fun W q => sw_kind (hB.stay q).sw 2 h0 (by decide)
                have hBb : Hid (∀ W, Keeps WT W (fun _ => False) → (W.cell? ⟨b, 10, none⟩ = some (.pointer (some ⟨p, 0, none⟩)) ∧ W.cell? ⟨b, 11, none⟩ = some (.int .i64 l.k) ∧ W.cell? ⟨b, 12, none⟩ = some (.int .i64 l.e) ∧ W.cell? ⟨b, 13, none⟩ = some (.int .i64 l.a) ∧ W.cell? ⟨b, 14, none⟩ = some (.int .i64 l.b) ∧ W.cell? ⟨b, 15, none⟩ = some (.int .i64 l.c) ∧ W.cell? ⟨b, 16, none⟩ = some (.int .i64 l.eo) ∧ W.cell? ⟨b, 17, none⟩ = some (.int .i64 l.bo) ∧ W.cell? ⟨b, 18, none⟩ = some (.int .i64 l.s) ∧ W.cell? ⟨b, 19, none⟩ = some (.int .i64 l.g) ∧ W.cell? ⟨b, 20, none⟩ = some (.int .i64 (16 : Int))) ∧ W.cell? ⟨b, 0, none⟩ = some (.pointer (some ⟨p, 0, none⟩))) := fun W q => ⟨ben_T (q.blk hB.blk), ben_0 (q.blk hB.blk)⟩
                have hFin : Hid (∀ W, Keeps WT W (fun _ => False) → PB W0 W b p l G fs g o hv59 (i + 1) pq nx 2) := fun W q => ⟨lv, L, ad, d, f, c, hB.stay q, hT, had, h1, h2, h0⟩
                obtain ⟨t0, t1, t2, t3, t4, t5, t6, t7, t8, t9, t10⟩ := ben_T hB.blk
                clear HT hB hT had h1 h2 h0 e4
                generalize f 3 = f3 at hSt
                generalize f 4 = f4 at hSt
                generalize f 5 = f5 at hSt
                generalize f 6 = f6 at hSt
                generalize f 7 = f7 at hSt
                clear d f c
                go_wp2_with fail
                (with_reducible refine hSt.mono ?_)
                rintro r V1 ⟨rfl, k1⟩
                clear t0 t1 t2 t3 t4 t5 t6 t7 t8 t9 t10 hSt
                have kx := hide (k1.alloc (.cells #[.int .i64 f3, .int .i64 f4, .int .i64 f5, .int .i64 f6, .int .i64 (pq), .int .i64 (nx), .bool false, .int .i64 f7] 64))
                have hbx := hide (heap_alloc_new V1 (.cells #[.int .i64 f3, .int .i64 f4, .int .i64 f5, .int .i64 f6, .int .i64 (pq), .int .i64 (nx), .bool false, .int .i64 f7] 64))
                clear k1
                go_wp2_with fail
                generalize V1.alloc (.cells #[.int .i64 f3, .int .i64 f4, .int .i64 f5, .int .i64 f6, .int .i64 (pq), .int .i64 (nx), .bool false, .int .i64 f7] 64) = V2 at *
                generalize V1.heap.size = B15 at *
                have SD := hBb.out _ kx.out.drew
                go_region_held3 (fun w' => (w'.cell? ⟨b, 10, none⟩ = some (.pointer (some ⟨p, 0, none⟩)) ∧ w'.cell? ⟨b, 11, none⟩ = some (.int .i64 l.k) ∧ w'.cell? ⟨b, 12, none⟩ = some (.int .i64 l.e) ∧ w'.cell? ⟨b, 13, none⟩ = some (.int .i64 l.a) ∧ w'.cell? ⟨b, 14, none⟩ = some (.int .i64 l.b) ∧ w'.cell? ⟨b, 15, none⟩ = some (.int .i64 l.c) ∧ w'.cell? ⟨b, 16, none⟩ = some (.int .i64 l.eo) ∧ w'.cell? ⟨b, 17, none⟩ = some (.int .i64 l.bo) ∧ w'.cell? ⟨b, 18, none⟩ = some (.int .i64 l.s) ∧ w'.cell? ⟨b, 19, none⟩ = some (.int .i64 l.g) ∧ w'.cell? ⟨b, 20, none⟩ = some (.int .i64 (16 : Int))) ∧ w'.cell? ⟨b, 0, none⟩ = some (.pointer (some ⟨p, 0, none⟩))) (with_reducible assumption)
                  (first | (go_at_call 25; (with_reducible refine (toff_any p l 16 _).mono ?_); rintro r wA ⟨rfl, kA⟩; have kA2 := kx.out.drew.trans kA (fun _ _ e => e); have SA := hBb.out _ kA2) | (go_at_call 24; (with_reducible refine (hKi.out _ kA2).mono ?_); rintro r wB ⟨rfl, kB⟩; have kB2 := kA2.trans kB (fun _ _ e => e); have SB := hBb.out _ kB2))
                obtain ⟨⟨c0, c1, c2, c3, c4, c5, c6, c7⟩, -⟩ := st8_cells (((Keeps.refl V2 (fun _ => False)).drew.trans (kA.trans kB (fun _ _ e => e)) (fun _ _ e => e)).blk hbx.out)
                have HFin := hide (hFin.out _ kB2)
                clear SD SA SB kA kA2 kB kB2 kx hbx hBb hKi hFin
                go_wp2_with fail
                refine (hNum _ _).mono ?_
                rintro r wC ⟨rfl, hw⟩
                rw [hw]
                clear hw wC
                go_wp2_with fail
                refine (hNum _ _).mono ?_
                rintro r wC ⟨rfl, hw⟩
                rw [hw]
                clear hw wC
                go_wp2_with fail
                go_roundw
                case rel => exact ⟨i + 1, pq, nx, false, cast1 i, Nat.succ_le_of_lt hlt, rfl, rfl, rfl, HP0, HP1, HFin⟩
                case measure => exact meas8 hlt
            · as_aux_lemma =>
                have HT : Hid (PB W0 WT b p l G fs g o hv59 (i + 1) pq nx 4) := HT
                obtain ⟨lv, L, ad, d, f, c, hB, hT, had, h1, h2, h0⟩ := HT.out
                have hSt := sw_stat hB.sw
                rw [h1, h2, h0] at hSt
                have e4 : (((4 : Nat) : Int) == 4) = true := rfl
                rw [e4] at hSt
                have hKi : Hid (∀ W, Keeps WT W (fun _ => False) → Calls Tryz.prog 24 #[.pointer (some ⟨p, 0, none⟩), .int .i64 (16 : Int), .int .i64 8] W fun e w' => e = .returned (.tuple #[.int .u64 4, .int .i64 0]) ∧ Keeps W w' (fun _ => False)) := fun W q => sw_kind (hB.stay q).sw 4 h0 (by decide)
                have hBb : Hid (∀ W, Keeps WT W (fun _ => False) → (W.cell? ⟨b, 10, none⟩ = some (.pointer (some ⟨p, 0, none⟩)) ∧ W.cell? ⟨b, 11, none⟩ = some (.int .i64 l.k) ∧ W.cell? ⟨b, 12, none⟩ = some (.int .i64 l.e) ∧ W.cell? ⟨b, 13, none⟩ = some (.int .i64 l.a) ∧ W.cell? ⟨b, 14, none⟩ = some (.int .i64 l.b) ∧ W.cell? ⟨b, 15, none⟩ = some (.int .i64 l.c) ∧ W.cell? ⟨b, 16, none⟩ = some (.int .i64 l.eo) ∧ W.cell? ⟨b, 17, none⟩ = some (.int .i64 l.bo) ∧ W.cell? ⟨b, 18, none⟩ = some (.int .i64 l.s) ∧ W.cell? ⟨b, 19, none⟩ = some (.int .i64 l.g) ∧ W.cell? ⟨b, 20, none⟩ = some (.int .i64 (16 : Int))) ∧ W.cell? ⟨b, 0, none⟩ = some (.pointer (some ⟨p, 0, none⟩))) := fun W q => ⟨ben_T (q.blk hB.blk), ben_0 (q.blk hB.blk)⟩
                have hFin : Hid (∀ W, Keeps WT W (fun _ => False) → PB W0 W b p l G fs g o hv59 (i + 1) pq nx 4) := fun W q => ⟨lv, L, ad, d, f, c, hB.stay q, hT, had, h1, h2, h0⟩
                obtain ⟨t0, t1, t2, t3, t4, t5, t6, t7, t8, t9, t10⟩ := ben_T hB.blk
                clear HT hB hT had h1 h2 h0 e4
                generalize f 3 = f3 at hSt
                generalize f 4 = f4 at hSt
                generalize f 5 = f5 at hSt
                generalize f 6 = f6 at hSt
                generalize f 7 = f7 at hSt
                clear d f c
                go_wp2_with fail
                (with_reducible refine hSt.mono ?_)
                rintro r V1 ⟨rfl, k1⟩
                clear t0 t1 t2 t3 t4 t5 t6 t7 t8 t9 t10 hSt
                have kx := hide (k1.alloc (.cells #[.int .i64 f3, .int .i64 f4, .int .i64 f5, .int .i64 f6, .int .i64 (pq), .int .i64 (nx), .bool true, .int .i64 f7] 64))
                have hbx := hide (heap_alloc_new V1 (.cells #[.int .i64 f3, .int .i64 f4, .int .i64 f5, .int .i64 f6, .int .i64 (pq), .int .i64 (nx), .bool true, .int .i64 f7] 64))
                clear k1
                go_wp2_with fail
                generalize V1.alloc (.cells #[.int .i64 f3, .int .i64 f4, .int .i64 f5, .int .i64 f6, .int .i64 (pq), .int .i64 (nx), .bool true, .int .i64 f7] 64) = V2 at *
                generalize V1.heap.size = B15 at *
                have SD := hBb.out _ kx.out.drew
                go_region_held3 (fun w' => (w'.cell? ⟨b, 10, none⟩ = some (.pointer (some ⟨p, 0, none⟩)) ∧ w'.cell? ⟨b, 11, none⟩ = some (.int .i64 l.k) ∧ w'.cell? ⟨b, 12, none⟩ = some (.int .i64 l.e) ∧ w'.cell? ⟨b, 13, none⟩ = some (.int .i64 l.a) ∧ w'.cell? ⟨b, 14, none⟩ = some (.int .i64 l.b) ∧ w'.cell? ⟨b, 15, none⟩ = some (.int .i64 l.c) ∧ w'.cell? ⟨b, 16, none⟩ = some (.int .i64 l.eo) ∧ w'.cell? ⟨b, 17, none⟩ = some (.int .i64 l.bo) ∧ w'.cell? ⟨b, 18, none⟩ = some (.int .i64 l.s) ∧ w'.cell? ⟨b, 19, none⟩ = some (.int .i64 l.g) ∧ w'.cell? ⟨b, 20, none⟩ = some (.int .i64 (16 : Int))) ∧ w'.cell? ⟨b, 0, none⟩ = some (.pointer (some ⟨p, 0, none⟩))) (with_reducible assumption)
                  (first | (go_at_call 25; (with_reducible refine (toff_any p l 16 _).mono ?_); rintro r wA ⟨rfl, kA⟩; have kA2 := kx.out.drew.trans kA (fun _ _ e => e); have SA := hBb.out _ kA2) | (go_at_call 24; (with_reducible refine (hKi.out _ kA2).mono ?_); rintro r wB ⟨rfl, kB⟩; have kB2 := kA2.trans kB (fun _ _ e => e); have SB := hBb.out _ kB2))
                obtain ⟨⟨c0, c1, c2, c3, c4, c5, c6, c7⟩, -⟩ := st8_cells (((Keeps.refl V2 (fun _ => False)).drew.trans (kA.trans kB (fun _ _ e => e)) (fun _ _ e => e)).blk hbx.out)
                have HFin := hide (hFin.out _ kB2)
                clear SD SA SB kA kA2 kB kB2 kx hbx hBb hKi hFin
                go_wp2_with fail
                refine (hNum _ _).mono ?_
                rintro r wC ⟨rfl, hw⟩
                rw [hw]
                clear hw wC
                go_wp2_with fail
                refine (hNum _ _).mono ?_
                rintro r wC ⟨rfl, hw⟩
                rw [hw]
                clear hw wC
                go_wp2_with fail
                go_roundw
                case rel => exact ⟨i + 1, pq, nx, true, cast1 i, Nat.succ_le_of_lt hlt, rfl, rfl, rfl, HP0, HP1, HFin⟩
                case measure => exact meas8 hlt
        · by_cases hk2 : y1 = 2
          · subst hk2
            clear hk1
            have kA0 : Keeps wr (wr.alloc (.cells #[.int .i64 2, .int .i64 y2] 54)) (fun _ => False) := (Keeps.refl wr (fun _ => False)).alloc _
            have hbA0 := heap_alloc_new wr (.cells #[.int .i64 2, .int .i64 y2] 54)
            have kA := hide kA0
            have hbA := hide hbA0
            clear kA0 hbA0
            go_wp2_with fail
            generalize wr.alloc (.cells #[.int .i64 2, .int .i64 y2] 54) = WA at *
            obtain ⟨lv, L, ad, d, f, c, hB, hT, had, h1, h2, h0⟩ := HPB.out
            have hBA := hB.stay kA.out
            have hSA : SW W0 WA p (fun q => (q = b ∨ lv.ownBlock = some q) ∨ q = wr.heap.size) l G d f c := hB.sw.box (Nat.le_refl _) kA.out (heap_lt hbA.out)
            clear hB kA HPB
            generalize wr.heap.size = B12 at *
            have hm2 : ∀ W : World, W.heap[B12]? = WA.heap[B12]? → W.cell? ⟨B12, 1, none⟩ = some (.int .i64 y2) := fun W q => by
              have := q.trans hbA.out
              simp only [World.cell?, this]
              rfl
            have hCa := sw_retire (hSA.stay (Keeps.refl WA (fun _ => False)).drew) y2 hf2.out
            have SD : (WA.drew.cell? ⟨b, 10, none⟩ = some (.pointer (some ⟨p, 0, none⟩)) ∧ WA.drew.cell? ⟨b, 11, none⟩ = some (.int .i64 l.k) ∧ WA.drew.cell? ⟨b, 12, none⟩ = some (.int .i64 l.e) ∧ WA.drew.cell? ⟨b, 13, none⟩ = some (.int .i64 l.a) ∧ WA.drew.cell? ⟨b, 14, none⟩ = some (.int .i64 l.b) ∧ WA.drew.cell? ⟨b, 15, none⟩ = some (.int .i64 l.c) ∧ WA.drew.cell? ⟨b, 16, none⟩ = some (.int .i64 l.eo) ∧ WA.drew.cell? ⟨b, 17, none⟩ = some (.int .i64 l.bo) ∧ WA.drew.cell? ⟨b, 18, none⟩ = some (.int .i64 l.s) ∧ WA.drew.cell? ⟨b, 19, none⟩ = some (.int .i64 l.g) ∧ WA.drew.cell? ⟨b, 20, none⟩ = some (.int .i64 (16 : Int))) ∧ WA.drew.cell? ⟨B12, 1, none⟩ = some (.int .i64 y2) := ⟨ben_T (W := WA.drew) hBA.blk, hm2 WA.drew rfl⟩
            have hBA' := hide hBA
            have hT' := hide hT
            have hU : Hid ((updI (updI f 2 y2) 0 4) 1 = pn ∧ (updI (updI f 2 y2) 0 4) 2 = y2 ∧ (updI (updI f 2 y2) 0 4) 0 = ((4 : Nat) : Int) ∧ (updI (updI f 2 y2) 0 4) 3 = f 3 ∧ (updI (updI f 2 y2) 0 4) 5 = f 5) := by
              refine ⟨?_, ?_, ?_, ?_, ?_⟩
              all_goals (unfold updI; first | rfl | exact h1 | exact h0)
            replace hm2 := hide hm2
            clear hBA hSA hT h1 h2 h0
            go_region_held3 (fun w' => (w'.cell? ⟨b, 10, none⟩ = some (.pointer (some ⟨p, 0, none⟩)) ∧ w'.cell? ⟨b, 11, none⟩ = some (.int .i64 l.k) ∧ w'.cell? ⟨b, 12, none⟩ = some (.int .i64 l.e) ∧ w'.cell? ⟨b, 13, none⟩ = some (.int .i64 l.a) ∧ w'.cell? ⟨b, 14, none⟩ = some (.int .i64 l.b) ∧ w'.cell? ⟨b, 15, none⟩ = some (.int .i64 l.c) ∧ w'.cell? ⟨b, 16, none⟩ = some (.int .i64 l.eo) ∧ w'.cell? ⟨b, 17, none⟩ = some (.int .i64 l.bo) ∧ w'.cell? ⟨b, 18, none⟩ = some (.int .i64 l.s) ∧ w'.cell? ⟨b, 19, none⟩ = some (.int .i64 l.g) ∧ w'.cell? ⟨b, 20, none⟩ = some (.int .i64 (16 : Int))) ∧ w'.cell? ⟨B12, 1, none⟩ = some (.int .i64 y2)) (with_reducible assumption)
              (first | (go_at_call 20; (with_reducible refine hCa.mono ?_); rintro r WT ⟨rfl, hSP, hqP⟩; obtain ⟨d2, hSP⟩ := hSP; have hBP := (hBA'.out.stay (Keeps.refl WA (fun _ => False)).drew).ofSW hSP hqP; have SA : (WT.cell? ⟨b, 10, none⟩ = some (.pointer (some ⟨p, 0, none⟩)) ∧ WT.cell? ⟨b, 11, none⟩ = some (.int .i64 l.k) ∧ WT.cell? ⟨b, 12, none⟩ = some (.int .i64 l.e) ∧ WT.cell? ⟨b, 13, none⟩ = some (.int .i64 l.a) ∧ WT.cell? ⟨b, 14, none⟩ = some (.int .i64 l.b) ∧ WT.cell? ⟨b, 15, none⟩ = some (.int .i64 l.c) ∧ WT.cell? ⟨b, 16, none⟩ = some (.int .i64 l.eo) ∧ WT.cell? ⟨b, 17, none⟩ = some (.int .i64 l.bo) ∧ WT.cell? ⟨b, 18, none⟩ = some (.int .i64 l.s) ∧ WT.cell? ⟨b, 19, none⟩ = some (.int .i64 l.g) ∧ WT.cell? ⟨b, 20, none⟩ = some (.int .i64 (16 : Int))) ∧ WT.cell? ⟨B12, 1, none⟩ = some (.int .i64 y2) := ⟨ben_T hBP.blk, hm2.out WT (hqP B12 (Or.inr rfl))⟩) | (go_at_call 11; (refine (hNum _ _).mono ?_); rintro r wN ⟨rfl, hwN⟩; rw [hwN]; clear hwN wN))
            have HT : Hid (PB W0 WT b p l G fs g o hv59 (i + 1) pn y2 (4)) := ⟨lv, L, ad, d2, _, c, hBP, hT'.out.head hU.out.2.2.2.1 hU.out.2.2.2.2, by omega, hU.out.1, hU.out.2.1, hU.out.2.2.1⟩
            clear SD SA hCa hSP hqP hBP hBA' hT' hU hm2 hbA had d f c L ad d2
            as_aux_lemma =>
              obtain ⟨lv, L, ad, d, f, c, hB, hT, had, h1, h2, h0⟩ := HT.out
              have hSt := sw_stat hB.sw
              rw [h1, h2, h0] at hSt
              have e4 : (((4 : Nat) : Int) == 4) = true := rfl
              rw [e4] at hSt
              have hKi : Hid (∀ W, Keeps WT W (fun _ => False) → Calls Tryz.prog 24 #[.pointer (some ⟨p, 0, none⟩), .int .i64 (16 : Int), .int .i64 8] W fun e w' => e = .returned (.tuple #[.int .u64 4, .int .i64 0]) ∧ Keeps W w' (fun _ => False)) := fun W q => sw_kind (hB.stay q).sw 4 h0 (by decide)
              have hBb : Hid (∀ W, Keeps WT W (fun _ => False) → (W.cell? ⟨b, 10, none⟩ = some (.pointer (some ⟨p, 0, none⟩)) ∧ W.cell? ⟨b, 11, none⟩ = some (.int .i64 l.k) ∧ W.cell? ⟨b, 12, none⟩ = some (.int .i64 l.e) ∧ W.cell? ⟨b, 13, none⟩ = some (.int .i64 l.a) ∧ W.cell? ⟨b, 14, none⟩ = some (.int .i64 l.b) ∧ W.cell? ⟨b, 15, none⟩ = some (.int .i64 l.c) ∧ W.cell? ⟨b, 16, none⟩ = some (.int .i64 l.eo) ∧ W.cell? ⟨b, 17, none⟩ = some (.int .i64 l.bo) ∧ W.cell? ⟨b, 18, none⟩ = some (.int .i64 l.s) ∧ W.cell? ⟨b, 19, none⟩ = some (.int .i64 l.g) ∧ W.cell? ⟨b, 20, none⟩ = some (.int .i64 (16 : Int))) ∧ W.cell? ⟨b, 0, none⟩ = some (.pointer (some ⟨p, 0, none⟩))) := fun W q => ⟨ben_T (q.blk hB.blk), ben_0 (q.blk hB.blk)⟩
              have hFin : Hid (∀ W, Keeps WT W (fun _ => False) → PB W0 W b p l G fs g o hv59 (i + 1) pn y2 4) := fun W q => ⟨lv, L, ad, d, f, c, hB.stay q, hT, had, h1, h2, h0⟩
              obtain ⟨t0, t1, t2, t3, t4, t5, t6, t7, t8, t9, t10⟩ := ben_T hB.blk
              clear HT hB hT had h1 h2 h0 e4
              generalize f 3 = f3 at hSt
              generalize f 4 = f4 at hSt
              generalize f 5 = f5 at hSt
              generalize f 6 = f6 at hSt
              generalize f 7 = f7 at hSt
              clear d f c
              go_wp2_with fail
              (with_reducible refine hSt.mono ?_)
              rintro r V1 ⟨rfl, k1⟩
              clear t0 t1 t2 t3 t4 t5 t6 t7 t8 t9 t10 hSt
              have kx := hide (k1.alloc (.cells #[.int .i64 f3, .int .i64 f4, .int .i64 f5, .int .i64 f6, .int .i64 (pn), .int .i64 (y2), .bool true, .int .i64 f7] 64))
              have hbx := hide (heap_alloc_new V1 (.cells #[.int .i64 f3, .int .i64 f4, .int .i64 f5, .int .i64 f6, .int .i64 (pn), .int .i64 (y2), .bool true, .int .i64 f7] 64))
              clear k1
              go_wp2_with fail
              generalize V1.alloc (.cells #[.int .i64 f3, .int .i64 f4, .int .i64 f5, .int .i64 f6, .int .i64 (pn), .int .i64 (y2), .bool true, .int .i64 f7] 64) = V2 at *
              generalize V1.heap.size = B15 at *
              have SD := hBb.out _ kx.out.drew
              go_region_held3 (fun w' => (w'.cell? ⟨b, 10, none⟩ = some (.pointer (some ⟨p, 0, none⟩)) ∧ w'.cell? ⟨b, 11, none⟩ = some (.int .i64 l.k) ∧ w'.cell? ⟨b, 12, none⟩ = some (.int .i64 l.e) ∧ w'.cell? ⟨b, 13, none⟩ = some (.int .i64 l.a) ∧ w'.cell? ⟨b, 14, none⟩ = some (.int .i64 l.b) ∧ w'.cell? ⟨b, 15, none⟩ = some (.int .i64 l.c) ∧ w'.cell? ⟨b, 16, none⟩ = some (.int .i64 l.eo) ∧ w'.cell? ⟨b, 17, none⟩ = some (.int .i64 l.bo) ∧ w'.cell? ⟨b, 18, none⟩ = some (.int .i64 l.s) ∧ w'.cell? ⟨b, 19, none⟩ = some (.int .i64 l.g) ∧ w'.cell? ⟨b, 20, none⟩ = some (.int .i64 (16 : Int))) ∧ w'.cell? ⟨b, 0, none⟩ = some (.pointer (some ⟨p, 0, none⟩))) (with_reducible assumption)
                (first | (go_at_call 25; (with_reducible refine (toff_any p l 16 _).mono ?_); rintro r wA ⟨rfl, kA⟩; have kA2 := kx.out.drew.trans kA (fun _ _ e => e); have SA := hBb.out _ kA2) | (go_at_call 24; (with_reducible refine (hKi.out _ kA2).mono ?_); rintro r wB ⟨rfl, kB⟩; have kB2 := kA2.trans kB (fun _ _ e => e); have SB := hBb.out _ kB2))
              obtain ⟨⟨c0, c1, c2, c3, c4, c5, c6, c7⟩, -⟩ := st8_cells (((Keeps.refl V2 (fun _ => False)).drew.trans (kA.trans kB (fun _ _ e => e)) (fun _ _ e => e)).blk hbx.out)
              have HFin := hide (hFin.out _ kB2)
              clear SD SA SB kA kA2 kB kB2 kx hbx hBb hKi hFin
              go_wp2_with fail
              refine (hNum _ _).mono ?_
              rintro r wC ⟨rfl, hw⟩
              rw [hw]
              clear hw wC
              go_wp2_with fail
              refine (hNum _ _).mono ?_
              rintro r wC ⟨rfl, hw⟩
              rw [hw]
              clear hw wC
              go_wp2_with fail
              go_roundw
              case rel => exact ⟨i + 1, pn, y2, true, cast1 i, Nat.succ_le_of_lt hlt, rfl, rfl, rfl, HP0, HP1, HFin⟩
              case measure => exact meas8 hlt
          · by_cases hk3 : y1 = 3
            · subst hk3
              clear hk1 hk2
              have kA0 : Keeps wr (wr.alloc (.cells #[.int .i64 3, .int .i64 y2] 54)) (fun _ => False) := (Keeps.refl wr (fun _ => False)).alloc _
              have hbA0 := heap_alloc_new wr (.cells #[.int .i64 3, .int .i64 y2] 54)
              have kA := hide kA0
              have hbA := hide hbA0
              clear kA0 hbA0
              go_wp2_with fail
              generalize wr.alloc (.cells #[.int .i64 3, .int .i64 y2] 54) = WA at *
              obtain ⟨lv, L, ad, d, f, c, hB, hT, had, h1, h2, h0⟩ := HPB.out
              have hBA := hB.stay kA.out
              have hSA : SW W0 WA p (fun q => (q = b ∨ lv.ownBlock = some q) ∨ q = wr.heap.size) l G d f c := hB.sw.box (Nat.le_refl _) kA.out (heap_lt hbA.out)
              clear hB kA HPB
              generalize wr.heap.size = B12 at *
              have hm2 : ∀ W : World, W.heap[B12]? = WA.heap[B12]? → W.cell? ⟨B12, 1, none⟩ = some (.int .i64 y2) := fun W q => by
                have := q.trans hbA.out
                simp only [World.cell?, this]
                rfl
              have hCa := sw_next (hSA.stay (Keeps.refl WA (fun _ => False)).drew) y2 hf2.out
              have SD : (WA.drew.cell? ⟨b, 10, none⟩ = some (.pointer (some ⟨p, 0, none⟩)) ∧ WA.drew.cell? ⟨b, 11, none⟩ = some (.int .i64 l.k) ∧ WA.drew.cell? ⟨b, 12, none⟩ = some (.int .i64 l.e) ∧ WA.drew.cell? ⟨b, 13, none⟩ = some (.int .i64 l.a) ∧ WA.drew.cell? ⟨b, 14, none⟩ = some (.int .i64 l.b) ∧ WA.drew.cell? ⟨b, 15, none⟩ = some (.int .i64 l.c) ∧ WA.drew.cell? ⟨b, 16, none⟩ = some (.int .i64 l.eo) ∧ WA.drew.cell? ⟨b, 17, none⟩ = some (.int .i64 l.bo) ∧ WA.drew.cell? ⟨b, 18, none⟩ = some (.int .i64 l.s) ∧ WA.drew.cell? ⟨b, 19, none⟩ = some (.int .i64 l.g) ∧ WA.drew.cell? ⟨b, 20, none⟩ = some (.int .i64 (16 : Int))) ∧ WA.drew.cell? ⟨B12, 1, none⟩ = some (.int .i64 y2) := ⟨ben_T (W := WA.drew) hBA.blk, hm2 WA.drew rfl⟩
              have hBA' := hide hBA
              have hT' := hide hT
              have hU : Hid ((updI f 2 y2) 1 = pn ∧ (updI f 2 y2) 2 = y2 ∧ (updI f 2 y2) 0 = ((if rt then 4 else 2 : Nat) : Int) ∧ (updI f 2 y2) 3 = f 3 ∧ (updI f 2 y2) 5 = f 5) := by
                refine ⟨?_, ?_, ?_, ?_, ?_⟩
                all_goals (unfold updI; first | rfl | exact h1 | exact h0)
              replace hm2 := hide hm2
              clear hBA hSA hT h1 h2 h0
              go_region_held3 (fun w' => (w'.cell? ⟨b, 10, none⟩ = some (.pointer (some ⟨p, 0, none⟩)) ∧ w'.cell? ⟨b, 11, none⟩ = some (.int .i64 l.k) ∧ w'.cell? ⟨b, 12, none⟩ = some (.int .i64 l.e) ∧ w'.cell? ⟨b, 13, none⟩ = some (.int .i64 l.a) ∧ w'.cell? ⟨b, 14, none⟩ = some (.int .i64 l.b) ∧ w'.cell? ⟨b, 15, none⟩ = some (.int .i64 l.c) ∧ w'.cell? ⟨b, 16, none⟩ = some (.int .i64 l.eo) ∧ w'.cell? ⟨b, 17, none⟩ = some (.int .i64 l.bo) ∧ w'.cell? ⟨b, 18, none⟩ = some (.int .i64 l.s) ∧ w'.cell? ⟨b, 19, none⟩ = some (.int .i64 l.g) ∧ w'.cell? ⟨b, 20, none⟩ = some (.int .i64 (16 : Int))) ∧ w'.cell? ⟨B12, 1, none⟩ = some (.int .i64 y2)) (with_reducible assumption)
                (first | (go_at_call 21; (with_reducible refine hCa.mono ?_); rintro r WT ⟨rfl, hSP, hqP⟩; obtain ⟨d2, hSP⟩ := hSP; have hBP := (hBA'.out.stay (Keeps.refl WA (fun _ => False)).drew).ofSW hSP hqP; have SA : (WT.cell? ⟨b, 10, none⟩ = some (.pointer (some ⟨p, 0, none⟩)) ∧ WT.cell? ⟨b, 11, none⟩ = some (.int .i64 l.k) ∧ WT.cell? ⟨b, 12, none⟩ = some (.int .i64 l.e) ∧ WT.cell? ⟨b, 13, none⟩ = some (.int .i64 l.a) ∧ WT.cell? ⟨b, 14, none⟩ = some (.int .i64 l.b) ∧ WT.cell? ⟨b, 15, none⟩ = some (.int .i64 l.c) ∧ WT.cell? ⟨b, 16, none⟩ = some (.int .i64 l.eo) ∧ WT.cell? ⟨b, 17, none⟩ = some (.int .i64 l.bo) ∧ WT.cell? ⟨b, 18, none⟩ = some (.int .i64 l.s) ∧ WT.cell? ⟨b, 19, none⟩ = some (.int .i64 l.g) ∧ WT.cell? ⟨b, 20, none⟩ = some (.int .i64 (16 : Int))) ∧ WT.cell? ⟨B12, 1, none⟩ = some (.int .i64 y2) := ⟨ben_T hBP.blk, hm2.out WT (hqP B12 (Or.inr rfl))⟩) | (go_at_call 11; (refine (hNum _ _).mono ?_); rintro r wN ⟨rfl, hwN⟩; rw [hwN]; clear hwN wN))
              have HT : Hid (PB W0 WT b p l G fs g o hv59 (i + 1) pn y2 (if rt then 4 else 2)) := ⟨lv, L, ad, d2, _, c, hBP, hT'.out.head hU.out.2.2.2.1 hU.out.2.2.2.2, by omega, hU.out.1, hU.out.2.1, hU.out.2.2.1⟩
              clear SD SA hCa hSP hqP hBP hBA' hT' hU hm2 hbA had d f c L ad d2
              cases rt
              · as_aux_lemma =>
                  have HT : Hid (PB W0 WT b p l G fs g o hv59 (i + 1) pn y2 2) := HT
                  obtain ⟨lv, L, ad, d, f, c, hB, hT, had, h1, h2, h0⟩ := HT.out
                  have hSt := sw_stat hB.sw
                  rw [h1, h2, h0] at hSt
                  have e4 : (((2 : Nat) : Int) == 4) = false := rfl
                  rw [e4] at hSt
                  have hKi : Hid (∀ W, Keeps WT W (fun _ => False) → Calls Tryz.prog 24 #[.pointer (some ⟨p, 0, none⟩), .int .i64 (16 : Int), .int .i64 8] W fun e w' => e = .returned (.tuple #[.int .u64 2, .int .i64 0]) ∧ Keeps W w' (fun _ => False)) := fun W q => sw_kind (hB.stay q).sw 2 h0 (by decide)
                  have hBb : Hid (∀ W, Keeps WT W (fun _ => False) → (W.cell? ⟨b, 10, none⟩ = some (.pointer (some ⟨p, 0, none⟩)) ∧ W.cell? ⟨b, 11, none⟩ = some (.int .i64 l.k) ∧ W.cell? ⟨b, 12, none⟩ = some (.int .i64 l.e) ∧ W.cell? ⟨b, 13, none⟩ = some (.int .i64 l.a) ∧ W.cell? ⟨b, 14, none⟩ = some (.int .i64 l.b) ∧ W.cell? ⟨b, 15, none⟩ = some (.int .i64 l.c) ∧ W.cell? ⟨b, 16, none⟩ = some (.int .i64 l.eo) ∧ W.cell? ⟨b, 17, none⟩ = some (.int .i64 l.bo) ∧ W.cell? ⟨b, 18, none⟩ = some (.int .i64 l.s) ∧ W.cell? ⟨b, 19, none⟩ = some (.int .i64 l.g) ∧ W.cell? ⟨b, 20, none⟩ = some (.int .i64 (16 : Int))) ∧ W.cell? ⟨b, 0, none⟩ = some (.pointer (some ⟨p, 0, none⟩))) := fun W q => ⟨ben_T (q.blk hB.blk), ben_0 (q.blk hB.blk)⟩
                  have hFin : Hid (∀ W, Keeps WT W (fun _ => False) → PB W0 W b p l G fs g o hv59 (i + 1) pn y2 2) := fun W q => ⟨lv, L, ad, d, f, c, hB.stay q, hT, had, h1, h2, h0⟩
                  obtain ⟨t0, t1, t2, t3, t4, t5, t6, t7, t8, t9, t10⟩ := ben_T hB.blk
                  clear HT hB hT had h1 h2 h0 e4
                  generalize f 3 = f3 at hSt
                  generalize f 4 = f4 at hSt
                  generalize f 5 = f5 at hSt
                  generalize f 6 = f6 at hSt
                  generalize f 7 = f7 at hSt
                  clear d f c
                  go_wp2_with fail
                  (with_reducible refine hSt.mono ?_)
                  rintro r V1 ⟨rfl, k1⟩
                  clear t0 t1 t2 t3 t4 t5 t6 t7 t8 t9 t10 hSt
                  have kx := hide (k1.alloc (.cells #[.int .i64 f3, .int .i64 f4, .int .i64 f5, .int .i64 f6, .int .i64 (pn), .int .i64 (y2), .bool false, .int .i64 f7] 64))
                  have hbx := hide (heap_alloc_new V1 (.cells #[.int .i64 f3, .int .i64 f4, .int .i64 f5, .int .i64 f6, .int .i64 (pn), .int .i64 (y2), .bool false, .int .i64 f7] 64))
                  clear k1
                  go_wp2_with fail
                  generalize V1.alloc (.cells #[.int .i64 f3, .int .i64 f4, .int .i64 f5, .int .i64 f6, .int .i64 (pn), .int .i64 (y2), .bool false, .int .i64 f7] 64) = V2 at *
                  generalize V1.heap.size = B15 at *
                  have SD := hBb.out _ kx.out.drew
                  go_region_held3 (fun w' => (w'.cell? ⟨b, 10, none⟩ = some (.pointer (some ⟨p, 0, none⟩)) ∧ w'.cell? ⟨b, 11, none⟩ = some (.int .i64 l.k) ∧ w'.cell? ⟨b, 12, none⟩ = some (.int .i64 l.e) ∧ w'.cell? ⟨b, 13, none⟩ = some (.int .i64 l.a) ∧ w'.cell? ⟨b, 14, none⟩ = some (.int .i64 l.b) ∧ w'.cell? ⟨b, 15, none⟩ = some (.int .i64 l.c) ∧ w'.cell? ⟨b, 16, none⟩ = some (.int .i64 l.eo) ∧ w'.cell? ⟨b, 17, none⟩ = some (.int .i64 l.bo) ∧ w'.cell? ⟨b, 18, none⟩ = some (.int .i64 l.s) ∧ w'.cell? ⟨b, 19, none⟩ = some (.int .i64 l.g) ∧ w'.cell? ⟨b, 20, none⟩ = some (.int .i64 (16 : Int))) ∧ w'.cell? ⟨b, 0, none⟩ = some (.pointer (some ⟨p, 0, none⟩))) (with_reducible assumption)
                    (first | (go_at_call 25; (with_reducible refine (toff_any p l 16 _).mono ?_); rintro r wA ⟨rfl, kA⟩; have kA2 := kx.out.drew.trans kA (fun _ _ e => e); have SA := hBb.out _ kA2) | (go_at_call 24; (with_reducible refine (hKi.out _ kA2).mono ?_); rintro r wB ⟨rfl, kB⟩; have kB2 := kA2.trans kB (fun _ _ e => e); have SB := hBb.out _ kB2))
                  obtain ⟨⟨c0, c1, c2, c3, c4, c5, c6, c7⟩, -⟩ := st8_cells (((Keeps.refl V2 (fun _ => False)).drew.trans (kA.trans kB (fun _ _ e => e)) (fun _ _ e => e)).blk hbx.out)
                  have HFin := hide (hFin.out _ kB2)
                  clear SD SA SB kA kA2 kB kB2 kx hbx hBb hKi hFin
                  go_wp2_with fail
                  refine (hNum _ _).mono ?_
                  rintro r wC ⟨rfl, hw⟩
                  rw [hw]
                  clear hw wC
                  go_wp2_with fail
                  refine (hNum _ _).mono ?_
                  rintro r wC ⟨rfl, hw⟩
                  rw [hw]
                  clear hw wC
                  go_wp2_with fail
                  go_roundw
                  case rel => exact ⟨i + 1, pn, y2, false, cast1 i, Nat.succ_le_of_lt hlt, rfl, rfl, rfl, HP0, HP1, HFin⟩
                  case measure => exact meas8 hlt
              · as_aux_lemma =>
                  have HT : Hid (PB W0 WT b p l G fs g o hv59 (i + 1) pn y2 4) := HT
                  obtain ⟨lv, L, ad, d, f, c, hB, hT, had, h1, h2, h0⟩ := HT.out
                  have hSt := sw_stat hB.sw
                  rw [h1, h2, h0] at hSt
                  have e4 : (((4 : Nat) : Int) == 4) = true := rfl
                  rw [e4] at hSt
                  have hKi : Hid (∀ W, Keeps WT W (fun _ => False) → Calls Tryz.prog 24 #[.pointer (some ⟨p, 0, none⟩), .int .i64 (16 : Int), .int .i64 8] W fun e w' => e = .returned (.tuple #[.int .u64 4, .int .i64 0]) ∧ Keeps W w' (fun _ => False)) := fun W q => sw_kind (hB.stay q).sw 4 h0 (by decide)
                  have hBb : Hid (∀ W, Keeps WT W (fun _ => False) → (W.cell? ⟨b, 10, none⟩ = some (.pointer (some ⟨p, 0, none⟩)) ∧ W.cell? ⟨b, 11, none⟩ = some (.int .i64 l.k) ∧ W.cell? ⟨b, 12, none⟩ = some (.int .i64 l.e) ∧ W.cell? ⟨b, 13, none⟩ = some (.int .i64 l.a) ∧ W.cell? ⟨b, 14, none⟩ = some (.int .i64 l.b) ∧ W.cell? ⟨b, 15, none⟩ = some (.int .i64 l.c) ∧ W.cell? ⟨b, 16, none⟩ = some (.int .i64 l.eo) ∧ W.cell? ⟨b, 17, none⟩ = some (.int .i64 l.bo) ∧ W.cell? ⟨b, 18, none⟩ = some (.int .i64 l.s) ∧ W.cell? ⟨b, 19, none⟩ = some (.int .i64 l.g) ∧ W.cell? ⟨b, 20, none⟩ = some (.int .i64 (16 : Int))) ∧ W.cell? ⟨b, 0, none⟩ = some (.pointer (some ⟨p, 0, none⟩))) := fun W q => ⟨ben_T (q.blk hB.blk), ben_0 (q.blk hB.blk)⟩
                  have hFin : Hid (∀ W, Keeps WT W (fun _ => False) → PB W0 W b p l G fs g o hv59 (i + 1) pn y2 4) := fun W q => ⟨lv, L, ad, d, f, c, hB.stay q, hT, had, h1, h2, h0⟩
                  obtain ⟨t0, t1, t2, t3, t4, t5, t6, t7, t8, t9, t10⟩ := ben_T hB.blk
                  clear HT hB hT had h1 h2 h0 e4
                  generalize f 3 = f3 at hSt
                  generalize f 4 = f4 at hSt
                  generalize f 5 = f5 at hSt
                  generalize f 6 = f6 at hSt
                  generalize f 7 = f7 at hSt
                  clear d f c
                  go_wp2_with fail
                  (with_reducible refine hSt.mono ?_)
                  rintro r V1 ⟨rfl, k1⟩
                  clear t0 t1 t2 t3 t4 t5 t6 t7 t8 t9 t10 hSt
                  have kx := hide (k1.alloc (.cells #[.int .i64 f3, .int .i64 f4, .int .i64 f5, .int .i64 f6, .int .i64 (pn), .int .i64 (y2), .bool true, .int .i64 f7] 64))
                  have hbx := hide (heap_alloc_new V1 (.cells #[.int .i64 f3, .int .i64 f4, .int .i64 f5, .int .i64 f6, .int .i64 (pn), .int .i64 (y2), .bool true, .int .i64 f7] 64))
                  clear k1
                  go_wp2_with fail
                  generalize V1.alloc (.cells #[.int .i64 f3, .int .i64 f4, .int .i64 f5, .int .i64 f6, .int .i64 (pn), .int .i64 (y2), .bool true, .int .i64 f7] 64) = V2 at *
                  generalize V1.heap.size = B15 at *
                  have SD := hBb.out _ kx.out.drew
                  go_region_held3 (fun w' => (w'.cell? ⟨b, 10, none⟩ = some (.pointer (some ⟨p, 0, none⟩)) ∧ w'.cell? ⟨b, 11, none⟩ = some (.int .i64 l.k) ∧ w'.cell? ⟨b, 12, none⟩ = some (.int .i64 l.e) ∧ w'.cell? ⟨b, 13, none⟩ = some (.int .i64 l.a) ∧ w'.cell? ⟨b, 14, none⟩ = some (.int .i64 l.b) ∧ w'.cell? ⟨b, 15, none⟩ = some (.int .i64 l.c) ∧ w'.cell? ⟨b, 16, none⟩ = some (.int .i64 l.eo) ∧ w'.cell? ⟨b, 17, none⟩ = some (.int .i64 l.bo) ∧ w'.cell? ⟨b, 18, none⟩ = some (.int .i64 l.s) ∧ w'.cell? ⟨b, 19, none⟩ = some (.int .i64 l.g) ∧ w'.cell? ⟨b, 20, none⟩ = some (.int .i64 (16 : Int))) ∧ w'.cell? ⟨b, 0, none⟩ = some (.pointer (some ⟨p, 0, none⟩))) (with_reducible assumption)
                    (first | (go_at_call 25; (with_reducible refine (toff_any p l 16 _).mono ?_); rintro r wA ⟨rfl, kA⟩; have kA2 := kx.out.drew.trans kA (fun _ _ e => e); have SA := hBb.out _ kA2) | (go_at_call 24; (with_reducible refine (hKi.out _ kA2).mono ?_); rintro r wB ⟨rfl, kB⟩; have kB2 := kA2.trans kB (fun _ _ e => e); have SB := hBb.out _ kB2))
                  obtain ⟨⟨c0, c1, c2, c3, c4, c5, c6, c7⟩, -⟩ := st8_cells (((Keeps.refl V2 (fun _ => False)).drew.trans (kA.trans kB (fun _ _ e => e)) (fun _ _ e => e)).blk hbx.out)
                  have HFin := hide (hFin.out _ kB2)
                  clear SD SA SB kA kA2 kB kB2 kx hbx hBb hKi hFin
                  go_wp2_with fail
                  refine (hNum _ _).mono ?_
                  rintro r wC ⟨rfl, hw⟩
                  rw [hw]
                  clear hw wC
                  go_wp2_with fail
                  refine (hNum _ _).mono ?_
                  rintro r wC ⟨rfl, hw⟩
                  rw [hw]
                  clear hw wC
                  go_wp2_with fail
                  go_roundw
                  case rel => exact ⟨i + 1, pn, y2, true, cast1 i, Nat.succ_le_of_lt hlt, rfl, rfl, rfl, HP0, HP1, HFin⟩
                  case measure => exact meas8 hlt
            · by_cases hk4 : y1 = 4
              · subst hk4
                clear hk1 hk2 hk3
                have kA0 : Keeps wr (wr.alloc (.cells #[.int .i64 4, .int .i64 y2] 54)) (fun _ => False) := (Keeps.refl wr (fun _ => False)).alloc _
                have hbA0 := heap_alloc_new wr (.cells #[.int .i64 4, .int .i64 y2] 54)
                have kA := hide kA0
                have hbA := hide hbA0
                clear kA0 hbA0
                go_wp2_with fail
                generalize wr.alloc (.cells #[.int .i64 4, .int .i64 y2] 54) = WA at *
                obtain ⟨lv, L, ad, d, f, c, hB, hT, had, h1, h2, h0⟩ := HPB.out
                have hBA := hB.stay kA.out
                have hSA : SW W0 WA p (fun q => (q = b ∨ lv.ownBlock = some q) ∨ q = wr.heap.size) l G d f c := hB.sw.box (Nat.le_refl _) kA.out (heap_lt hbA.out)
                clear hB kA HPB
                generalize wr.heap.size = B12 at *
                have hm2 : ∀ W : World, W.heap[B12]? = WA.heap[B12]? → W.cell? ⟨B12, 1, none⟩ = some (.int .i64 y2) := fun W q => by
                  have := q.trans hbA.out
                  simp only [World.cell?, this]
                  rfl
                have hPu := puts_any hBA HP.out hT (by omega) 1 y2 y2 hf2.out hf2.out
                have h12 := hide (And.intro h1 (And.intro h2 h0))
                clear hBA hSA hT h1 h2 h0 hm2 hbA
                (with_reducible refine hPu.mono ?_)
                rintro r WT ⟨rfl, lv', L', ad', d', f', c', hB', hT', had', hf', -⟩
                have HT : Hid (PB W0 WT b p l G fs g o hv59 (i + 1) pn nx (if rt then 4 else 2)) := ⟨lv', L', ad', d', f', c', hB', hT', by omega, (hf' 1 (by decide) (by decide)).trans h12.out.1, (hf' 2 (by decide) (by decide)).trans h12.out.2.1, (hf' 0 (by decide) (by decide)).trans h12.out.2.2⟩
                clear hPu hB' hT' had' had hf' h12 d f c L ad lv' L' ad' d' f' c'
                cases rt
                · as_aux_lemma =>
                    have HT : Hid (PB W0 WT b p l G fs g o hv59 (i + 1) pn nx 2) := HT
                    obtain ⟨lv, L, ad, d, f, c, hB, hT, had, h1, h2, h0⟩ := HT.out
                    have hSt := sw_stat hB.sw
                    rw [h1, h2, h0] at hSt
                    have e4 : (((2 : Nat) : Int) == 4) = false := rfl
                    rw [e4] at hSt
                    have hKi : Hid (∀ W, Keeps WT W (fun _ => False) → Calls Tryz.prog 24 #[.pointer (some ⟨p, 0, none⟩), .int .i64 (16 : Int), .int .i64 8] W fun e w' => e = .returned (.tuple #[.int .u64 2, .int .i64 0]) ∧ Keeps W w' (fun _ => False)) := fun W q => sw_kind (hB.stay q).sw 2 h0 (by decide)
                    have hBb : Hid (∀ W, Keeps WT W (fun _ => False) → (W.cell? ⟨b, 10, none⟩ = some (.pointer (some ⟨p, 0, none⟩)) ∧ W.cell? ⟨b, 11, none⟩ = some (.int .i64 l.k) ∧ W.cell? ⟨b, 12, none⟩ = some (.int .i64 l.e) ∧ W.cell? ⟨b, 13, none⟩ = some (.int .i64 l.a) ∧ W.cell? ⟨b, 14, none⟩ = some (.int .i64 l.b) ∧ W.cell? ⟨b, 15, none⟩ = some (.int .i64 l.c) ∧ W.cell? ⟨b, 16, none⟩ = some (.int .i64 l.eo) ∧ W.cell? ⟨b, 17, none⟩ = some (.int .i64 l.bo) ∧ W.cell? ⟨b, 18, none⟩ = some (.int .i64 l.s) ∧ W.cell? ⟨b, 19, none⟩ = some (.int .i64 l.g) ∧ W.cell? ⟨b, 20, none⟩ = some (.int .i64 (16 : Int))) ∧ W.cell? ⟨b, 0, none⟩ = some (.pointer (some ⟨p, 0, none⟩))) := fun W q => ⟨ben_T (q.blk hB.blk), ben_0 (q.blk hB.blk)⟩
                    have hFin : Hid (∀ W, Keeps WT W (fun _ => False) → PB W0 W b p l G fs g o hv59 (i + 1) pn nx 2) := fun W q => ⟨lv, L, ad, d, f, c, hB.stay q, hT, had, h1, h2, h0⟩
                    obtain ⟨t0, t1, t2, t3, t4, t5, t6, t7, t8, t9, t10⟩ := ben_T hB.blk
                    clear HT hB hT had h1 h2 h0 e4
                    generalize f 3 = f3 at hSt
                    generalize f 4 = f4 at hSt
                    generalize f 5 = f5 at hSt
                    generalize f 6 = f6 at hSt
                    generalize f 7 = f7 at hSt
                    clear d f c
                    go_wp2_with fail
                    (with_reducible refine hSt.mono ?_)
                    rintro r V1 ⟨rfl, k1⟩
                    clear t0 t1 t2 t3 t4 t5 t6 t7 t8 t9 t10 hSt
                    have kx := hide (k1.alloc (.cells #[.int .i64 f3, .int .i64 f4, .int .i64 f5, .int .i64 f6, .int .i64 (pn), .int .i64 (nx), .bool false, .int .i64 f7] 64))
                    have hbx := hide (heap_alloc_new V1 (.cells #[.int .i64 f3, .int .i64 f4, .int .i64 f5, .int .i64 f6, .int .i64 (pn), .int .i64 (nx), .bool false, .int .i64 f7] 64))
                    clear k1
                    go_wp2_with fail
                    generalize V1.alloc (.cells #[.int .i64 f3, .int .i64 f4, .int .i64 f5, .int .i64 f6, .int .i64 (pn), .int .i64 (nx), .bool false, .int .i64 f7] 64) = V2 at *
                    generalize V1.heap.size = B15 at *
                    have SD := hBb.out _ kx.out.drew
                    go_region_held3 (fun w' => (w'.cell? ⟨b, 10, none⟩ = some (.pointer (some ⟨p, 0, none⟩)) ∧ w'.cell? ⟨b, 11, none⟩ = some (.int .i64 l.k) ∧ w'.cell? ⟨b, 12, none⟩ = some (.int .i64 l.e) ∧ w'.cell? ⟨b, 13, none⟩ = some (.int .i64 l.a) ∧ w'.cell? ⟨b, 14, none⟩ = some (.int .i64 l.b) ∧ w'.cell? ⟨b, 15, none⟩ = some (.int .i64 l.c) ∧ w'.cell? ⟨b, 16, none⟩ = some (.int .i64 l.eo) ∧ w'.cell? ⟨b, 17, none⟩ = some (.int .i64 l.bo) ∧ w'.cell? ⟨b, 18, none⟩ = some (.int .i64 l.s) ∧ w'.cell? ⟨b, 19, none⟩ = some (.int .i64 l.g) ∧ w'.cell? ⟨b, 20, none⟩ = some (.int .i64 (16 : Int))) ∧ w'.cell? ⟨b, 0, none⟩ = some (.pointer (some ⟨p, 0, none⟩))) (with_reducible assumption)
                      (first | (go_at_call 25; (with_reducible refine (toff_any p l 16 _).mono ?_); rintro r wA ⟨rfl, kA⟩; have kA2 := kx.out.drew.trans kA (fun _ _ e => e); have SA := hBb.out _ kA2) | (go_at_call 24; (with_reducible refine (hKi.out _ kA2).mono ?_); rintro r wB ⟨rfl, kB⟩; have kB2 := kA2.trans kB (fun _ _ e => e); have SB := hBb.out _ kB2))
                    obtain ⟨⟨c0, c1, c2, c3, c4, c5, c6, c7⟩, -⟩ := st8_cells (((Keeps.refl V2 (fun _ => False)).drew.trans (kA.trans kB (fun _ _ e => e)) (fun _ _ e => e)).blk hbx.out)
                    have HFin := hide (hFin.out _ kB2)
                    clear SD SA SB kA kA2 kB kB2 kx hbx hBb hKi hFin
                    go_wp2_with fail
                    refine (hNum _ _).mono ?_
                    rintro r wC ⟨rfl, hw⟩
                    rw [hw]
                    clear hw wC
                    go_wp2_with fail
                    refine (hNum _ _).mono ?_
                    rintro r wC ⟨rfl, hw⟩
                    rw [hw]
                    clear hw wC
                    go_wp2_with fail
                    go_roundw
                    case rel => exact ⟨i + 1, pn, nx, false, cast1 i, Nat.succ_le_of_lt hlt, rfl, rfl, rfl, HP0, HP1, HFin⟩
                    case measure => exact meas8 hlt
                · as_aux_lemma =>
                    have HT : Hid (PB W0 WT b p l G fs g o hv59 (i + 1) pn nx 4) := HT
                    obtain ⟨lv, L, ad, d, f, c, hB, hT, had, h1, h2, h0⟩ := HT.out
                    have hSt := sw_stat hB.sw
                    rw [h1, h2, h0] at hSt
                    have e4 : (((4 : Nat) : Int) == 4) = true := rfl
                    rw [e4] at hSt
                    have hKi : Hid (∀ W, Keeps WT W (fun _ => False) → Calls Tryz.prog 24 #[.pointer (some ⟨p, 0, none⟩), .int .i64 (16 : Int), .int .i64 8] W fun e w' => e = .returned (.tuple #[.int .u64 4, .int .i64 0]) ∧ Keeps W w' (fun _ => False)) := fun W q => sw_kind (hB.stay q).sw 4 h0 (by decide)
                    have hBb : Hid (∀ W, Keeps WT W (fun _ => False) → (W.cell? ⟨b, 10, none⟩ = some (.pointer (some ⟨p, 0, none⟩)) ∧ W.cell? ⟨b, 11, none⟩ = some (.int .i64 l.k) ∧ W.cell? ⟨b, 12, none⟩ = some (.int .i64 l.e) ∧ W.cell? ⟨b, 13, none⟩ = some (.int .i64 l.a) ∧ W.cell? ⟨b, 14, none⟩ = some (.int .i64 l.b) ∧ W.cell? ⟨b, 15, none⟩ = some (.int .i64 l.c) ∧ W.cell? ⟨b, 16, none⟩ = some (.int .i64 l.eo) ∧ W.cell? ⟨b, 17, none⟩ = some (.int .i64 l.bo) ∧ W.cell? ⟨b, 18, none⟩ = some (.int .i64 l.s) ∧ W.cell? ⟨b, 19, none⟩ = some (.int .i64 l.g) ∧ W.cell? ⟨b, 20, none⟩ = some (.int .i64 (16 : Int))) ∧ W.cell? ⟨b, 0, none⟩ = some (.pointer (some ⟨p, 0, none⟩))) := fun W q => ⟨ben_T (q.blk hB.blk), ben_0 (q.blk hB.blk)⟩
                    have hFin : Hid (∀ W, Keeps WT W (fun _ => False) → PB W0 W b p l G fs g o hv59 (i + 1) pn nx 4) := fun W q => ⟨lv, L, ad, d, f, c, hB.stay q, hT, had, h1, h2, h0⟩
                    obtain ⟨t0, t1, t2, t3, t4, t5, t6, t7, t8, t9, t10⟩ := ben_T hB.blk
                    clear HT hB hT had h1 h2 h0 e4
                    generalize f 3 = f3 at hSt
                    generalize f 4 = f4 at hSt
                    generalize f 5 = f5 at hSt
                    generalize f 6 = f6 at hSt
                    generalize f 7 = f7 at hSt
                    clear d f c
                    go_wp2_with fail
                    (with_reducible refine hSt.mono ?_)
                    rintro r V1 ⟨rfl, k1⟩
                    clear t0 t1 t2 t3 t4 t5 t6 t7 t8 t9 t10 hSt
                    have kx := hide (k1.alloc (.cells #[.int .i64 f3, .int .i64 f4, .int .i64 f5, .int .i64 f6, .int .i64 (pn), .int .i64 (nx), .bool true, .int .i64 f7] 64))
                    have hbx := hide (heap_alloc_new V1 (.cells #[.int .i64 f3, .int .i64 f4, .int .i64 f5, .int .i64 f6, .int .i64 (pn), .int .i64 (nx), .bool true, .int .i64 f7] 64))
                    clear k1
                    go_wp2_with fail
                    generalize V1.alloc (.cells #[.int .i64 f3, .int .i64 f4, .int .i64 f5, .int .i64 f6, .int .i64 (pn), .int .i64 (nx), .bool true, .int .i64 f7] 64) = V2 at *
                    generalize V1.heap.size = B15 at *
                    have SD := hBb.out _ kx.out.drew
                    go_region_held3 (fun w' => (w'.cell? ⟨b, 10, none⟩ = some (.pointer (some ⟨p, 0, none⟩)) ∧ w'.cell? ⟨b, 11, none⟩ = some (.int .i64 l.k) ∧ w'.cell? ⟨b, 12, none⟩ = some (.int .i64 l.e) ∧ w'.cell? ⟨b, 13, none⟩ = some (.int .i64 l.a) ∧ w'.cell? ⟨b, 14, none⟩ = some (.int .i64 l.b) ∧ w'.cell? ⟨b, 15, none⟩ = some (.int .i64 l.c) ∧ w'.cell? ⟨b, 16, none⟩ = some (.int .i64 l.eo) ∧ w'.cell? ⟨b, 17, none⟩ = some (.int .i64 l.bo) ∧ w'.cell? ⟨b, 18, none⟩ = some (.int .i64 l.s) ∧ w'.cell? ⟨b, 19, none⟩ = some (.int .i64 l.g) ∧ w'.cell? ⟨b, 20, none⟩ = some (.int .i64 (16 : Int))) ∧ w'.cell? ⟨b, 0, none⟩ = some (.pointer (some ⟨p, 0, none⟩))) (with_reducible assumption)
                      (first | (go_at_call 25; (with_reducible refine (toff_any p l 16 _).mono ?_); rintro r wA ⟨rfl, kA⟩; have kA2 := kx.out.drew.trans kA (fun _ _ e => e); have SA := hBb.out _ kA2) | (go_at_call 24; (with_reducible refine (hKi.out _ kA2).mono ?_); rintro r wB ⟨rfl, kB⟩; have kB2 := kA2.trans kB (fun _ _ e => e); have SB := hBb.out _ kB2))
                    obtain ⟨⟨c0, c1, c2, c3, c4, c5, c6, c7⟩, -⟩ := st8_cells (((Keeps.refl V2 (fun _ => False)).drew.trans (kA.trans kB (fun _ _ e => e)) (fun _ _ e => e)).blk hbx.out)
                    have HFin := hide (hFin.out _ kB2)
                    clear SD SA SB kA kA2 kB kB2 kx hbx hBb hKi hFin
                    go_wp2_with fail
                    refine (hNum _ _).mono ?_
                    rintro r wC ⟨rfl, hw⟩
                    rw [hw]
                    clear hw wC
                    go_wp2_with fail
                    refine (hNum _ _).mono ?_
                    rintro r wC ⟨rfl, hw⟩
                    rw [hw]
                    clear hw wC
                    go_wp2_with fail
                    go_roundw
                    case rel => exact ⟨i + 1, pn, nx, true, cast1 i, Nat.succ_le_of_lt hlt, rfl, rfl, rfl, HP0, HP1, HFin⟩
                    case measure => exact meas8 hlt
              · have e1 : (y1 == 1) = false := beq_eq_false_iff_ne.2 hk1
                have e2 : (y1 == 2) = false := beq_eq_false_iff_ne.2 hk2
                have e3 : (y1 == 3) = false := beq_eq_false_iff_ne.2 hk3
                have e4' : (y1 == 4) = false := beq_eq_false_iff_ne.2 hk4
                have HT0 : Hid (∀ W, Keeps wr W (fun _ => False) → PB W0 W b p l G fs g o hv59 (i + 1) pn nx (if rt then 4 else 2)) := fun W q => by
                  obtain ⟨lv, L, ad, d, f, c, hB, hT, had, h1, h2, h0⟩ := HPB.out
                  exact ⟨lv, L, ad, d, f, c, hB.stay q, hT, by omega, h1, h2, h0⟩
                have hBk : Hid (∃ lv L ad d f c, BM W0 wr b p l G fs (.slice none 0 0) (.slice (some ⟨g, o, none⟩) 2 2) lv L ad d f c) := by
                  obtain ⟨lv, L, ad, d, f, c, hB, -⟩ := HPB.out
                  exact ⟨lv, L, ad, d, f, c, hB⟩
                have kA := (Keeps.refl wr (fun _ => False)).alloc (.cells #[.int .i64 y1, .int .i64 y2] 54)
                obtain ⟨q0, q1, q2, q3, q4, q5, q6, q7, q8, q9, q10⟩ : (wr.alloc (.cells #[.int .i64 y1, .int .i64 y2] 54)).cell? ⟨b, 10, none⟩ = some (.pointer (some ⟨p, 0, none⟩)) ∧ (wr.alloc (.cells #[.int .i64 y1, .int .i64 y2] 54)).cell? ⟨b, 11, none⟩ = some (.int .i64 l.k) ∧ (wr.alloc (.cells #[.int .i64 y1, .int .i64 y2] 54)).cell? ⟨b, 12, none⟩ = some (.int .i64 l.e) ∧ (wr.alloc (.cells #[.int .i64 y1, .int .i64 y2] 54)).cell? ⟨b, 13, none⟩ = some (.int .i64 l.a) ∧ (wr.alloc (.cells #[.int .i64 y1, .int .i64 y2] 54)).cell? ⟨b, 14, none⟩ = some (.int .i64 l.b) ∧ (wr.alloc (.cells #[.int .i64 y1, .int .i64 y2] 54)).cell? ⟨b, 15, none⟩ = some (.int .i64 l.c) ∧ (wr.alloc (.cells #[.int .i64 y1, .int .i64 y2] 54)).cell? ⟨b, 16, none⟩ = some (.int .i64 l.eo) ∧ (wr.alloc (.cells #[.int .i64 y1, .int .i64 y2] 54)).cell? ⟨b, 17, none⟩ = some (.int .i64 l.bo) ∧ (wr.alloc (.cells #[.int .i64 y1, .int .i64 y2] 54)).cell? ⟨b, 18, none⟩ = some (.int .i64 l.s) ∧ (wr.alloc (.cells #[.int .i64 y1, .int .i64 y2] 54)).cell? ⟨b, 19, none⟩ = some (.int .i64 l.g) ∧ (wr.alloc (.cells #[.int .i64 y1, .int .i64 y2] 54)).cell? ⟨b, 20, none⟩ = some (.int .i64 (16 : Int)) := by
                  obtain ⟨lv, L, ad, d, f, c, hB⟩ := hBk.out
                  exact ben_T (kA.blk hB.blk)
                have HT := hide (HT0.out _ kA)
                clear HT0 hBk kA HPB hk1 hk2 hk3 hk4
                go_wp2_with fail
                clear q0 q1 q2 q3 q4 q5 q6 q7 q8 q9 q10
                generalize wr.alloc (.cells #[.int .i64 y1, .int .i64 y2] 54) = WT at *
                cases rt
                · as_aux_lemma =>
                    have HT : Hid (PB W0 WT b p l G fs g o hv59 (i + 1) pn nx 2) := HT
                    obtain ⟨lv, L, ad, d, f, c, hB, hT, had, h1, h2, h0⟩ := HT.out
                    have hSt := sw_stat hB.sw
                    rw [h1, h2, h0] at hSt
                    have e4 : (((2 : Nat) : Int) == 4) = false := rfl
                    rw [e4] at hSt
                    have hKi : Hid (∀ W, Keeps WT W (fun _ => False) → Calls Tryz.prog 24 #[.pointer (some ⟨p, 0, none⟩), .int .i64 (16 : Int), .int .i64 8] W fun e w' => e = .returned (.tuple #[.int .u64 2, .int .i64 0]) ∧ Keeps W w' (fun _ => False)) := fun W q => sw_kind (hB.stay q).sw 2 h0 (by decide)
                    have hBb : Hid (∀ W, Keeps WT W (fun _ => False) → (W.cell? ⟨b, 10, none⟩ = some (.pointer (some ⟨p, 0, none⟩)) ∧ W.cell? ⟨b, 11, none⟩ = some (.int .i64 l.k) ∧ W.cell? ⟨b, 12, none⟩ = some (.int .i64 l.e) ∧ W.cell? ⟨b, 13, none⟩ = some (.int .i64 l.a) ∧ W.cell? ⟨b, 14, none⟩ = some (.int .i64 l.b) ∧ W.cell? ⟨b, 15, none⟩ = some (.int .i64 l.c) ∧ W.cell? ⟨b, 16, none⟩ = some (.int .i64 l.eo) ∧ W.cell? ⟨b, 17, none⟩ = some (.int .i64 l.bo) ∧ W.cell? ⟨b, 18, none⟩ = some (.int .i64 l.s) ∧ W.cell? ⟨b, 19, none⟩ = some (.int .i64 l.g) ∧ W.cell? ⟨b, 20, none⟩ = some (.int .i64 (16 : Int))) ∧ W.cell? ⟨b, 0, none⟩ = some (.pointer (some ⟨p, 0, none⟩))) := fun W q => ⟨ben_T (q.blk hB.blk), ben_0 (q.blk hB.blk)⟩
                    have hFin : Hid (∀ W, Keeps WT W (fun _ => False) → PB W0 W b p l G fs g o hv59 (i + 1) pn nx 2) := fun W q => ⟨lv, L, ad, d, f, c, hB.stay q, hT, had, h1, h2, h0⟩
                    obtain ⟨t0, t1, t2, t3, t4, t5, t6, t7, t8, t9, t10⟩ := ben_T hB.blk
                    clear HT hB hT had h1 h2 h0 e4
                    generalize f 3 = f3 at hSt
                    generalize f 4 = f4 at hSt
                    generalize f 5 = f5 at hSt
                    generalize f 6 = f6 at hSt
                    generalize f 7 = f7 at hSt
                    clear d f c
                    go_wp2_with fail
                    (with_reducible refine hSt.mono ?_)
                    rintro r V1 ⟨rfl, k1⟩
                    clear t0 t1 t2 t3 t4 t5 t6 t7 t8 t9 t10 hSt
                    have kx := hide (k1.alloc (.cells #[.int .i64 f3, .int .i64 f4, .int .i64 f5, .int .i64 f6, .int .i64 (pn), .int .i64 (nx), .bool false, .int .i64 f7] 64))
                    have hbx := hide (heap_alloc_new V1 (.cells #[.int .i64 f3, .int .i64 f4, .int .i64 f5, .int .i64 f6, .int .i64 (pn), .int .i64 (nx), .bool false, .int .i64 f7] 64))
                    clear k1
                    go_wp2_with fail
                    generalize V1.alloc (.cells #[.int .i64 f3, .int .i64 f4, .int .i64 f5, .int .i64 f6, .int .i64 (pn), .int .i64 (nx), .bool false, .int .i64 f7] 64) = V2 at *
                    generalize V1.heap.size = B15 at *
                    have SD := hBb.out _ kx.out.drew
                    go_region_held3 (fun w' => (w'.cell? ⟨b, 10, none⟩ = some (.pointer (some ⟨p, 0, none⟩)) ∧ w'.cell? ⟨b, 11, none⟩ = some (.int .i64 l.k) ∧ w'.cell? ⟨b, 12, none⟩ = some (.int .i64 l.e) ∧ w'.cell? ⟨b, 13, none⟩ = some (.int .i64 l.a) ∧ w'.cell? ⟨b, 14, none⟩ = some (.int .i64 l.b) ∧ w'.cell? ⟨b, 15, none⟩ = some (.int .i64 l.c) ∧ w'.cell? ⟨b, 16, none⟩ = some (.int .i64 l.eo) ∧ w'.cell? ⟨b, 17, none⟩ = some (.int .i64 l.bo) ∧ w'.cell? ⟨b, 18, none⟩ = some (.int .i64 l.s) ∧ w'.cell? ⟨b, 19, none⟩ = some (.int .i64 l.g) ∧ w'.cell? ⟨b, 20, none⟩ = some (.int .i64 (16 : Int))) ∧ w'.cell? ⟨b, 0, none⟩ = some (.pointer (some ⟨p, 0, none⟩))) (with_reducible assumption)
                      (first | (go_at_call 25; (with_reducible refine (toff_any p l 16 _).mono ?_); rintro r wA ⟨rfl, kA⟩; have kA2 := kx.out.drew.trans kA (fun _ _ e => e); have SA := hBb.out _ kA2) | (go_at_call 24; (with_reducible refine (hKi.out _ kA2).mono ?_); rintro r wB ⟨rfl, kB⟩; have kB2 := kA2.trans kB (fun _ _ e => e); have SB := hBb.out _ kB2))
                    obtain ⟨⟨c0, c1, c2, c3, c4, c5, c6, c7⟩, -⟩ := st8_cells (((Keeps.refl V2 (fun _ => False)).drew.trans (kA.trans kB (fun _ _ e => e)) (fun _ _ e => e)).blk hbx.out)
                    have HFin := hide (hFin.out _ kB2)
                    clear SD SA SB kA kA2 kB kB2 kx hbx hBb hKi hFin
                    go_wp2_with fail
                    refine (hNum _ _).mono ?_
                    rintro r wC ⟨rfl, hw⟩
                    rw [hw]
                    clear hw wC
                    go_wp2_with fail
                    refine (hNum _ _).mono ?_
                    rintro r wC ⟨rfl, hw⟩
                    rw [hw]
                    clear hw wC
                    go_wp2_with fail
                    go_roundw
                    case rel => exact ⟨i + 1, pn, nx, false, cast1 i, Nat.succ_le_of_lt hlt, rfl, rfl, rfl, HP0, HP1, HFin⟩
                    case measure => exact meas8 hlt
                · as_aux_lemma =>
                    have HT : Hid (PB W0 WT b p l G fs g o hv59 (i + 1) pn nx 4) := HT
                    obtain ⟨lv, L, ad, d, f, c, hB, hT, had, h1, h2, h0⟩ := HT.out
                    have hSt := sw_stat hB.sw
                    rw [h1, h2, h0] at hSt
                    have e4 : (((4 : Nat) : Int) == 4) = true := rfl
                    rw [e4] at hSt
                    have hKi : Hid (∀ W, Keeps WT W (fun _ => False) → Calls Tryz.prog 24 #[.pointer (some ⟨p, 0, none⟩), .int .i64 (16 : Int), .int .i64 8] W fun e w' => e = .returned (.tuple #[.int .u64 4, .int .i64 0]) ∧ Keeps W w' (fun _ => False)) := fun W q => sw_kind (hB.stay q).sw 4 h0 (by decide)
                    have hBb : Hid (∀ W, Keeps WT W (fun _ => False) → (W.cell? ⟨b, 10, none⟩ = some (.pointer (some ⟨p, 0, none⟩)) ∧ W.cell? ⟨b, 11, none⟩ = some (.int .i64 l.k) ∧ W.cell? ⟨b, 12, none⟩ = some (.int .i64 l.e) ∧ W.cell? ⟨b, 13, none⟩ = some (.int .i64 l.a) ∧ W.cell? ⟨b, 14, none⟩ = some (.int .i64 l.b) ∧ W.cell? ⟨b, 15, none⟩ = some (.int .i64 l.c) ∧ W.cell? ⟨b, 16, none⟩ = some (.int .i64 l.eo) ∧ W.cell? ⟨b, 17, none⟩ = some (.int .i64 l.bo) ∧ W.cell? ⟨b, 18, none⟩ = some (.int .i64 l.s) ∧ W.cell? ⟨b, 19, none⟩ = some (.int .i64 l.g) ∧ W.cell? ⟨b, 20, none⟩ = some (.int .i64 (16 : Int))) ∧ W.cell? ⟨b, 0, none⟩ = some (.pointer (some ⟨p, 0, none⟩))) := fun W q => ⟨ben_T (q.blk hB.blk), ben_0 (q.blk hB.blk)⟩
                    have hFin : Hid (∀ W, Keeps WT W (fun _ => False) → PB W0 W b p l G fs g o hv59 (i + 1) pn nx 4) := fun W q => ⟨lv, L, ad, d, f, c, hB.stay q, hT, had, h1, h2, h0⟩
                    obtain ⟨t0, t1, t2, t3, t4, t5, t6, t7, t8, t9, t10⟩ := ben_T hB.blk
                    clear HT hB hT had h1 h2 h0 e4
                    generalize f 3 = f3 at hSt
                    generalize f 4 = f4 at hSt
                    generalize f 5 = f5 at hSt
                    generalize f 6 = f6 at hSt
                    generalize f 7 = f7 at hSt
                    clear d f c
                    go_wp2_with fail
                    (with_reducible refine hSt.mono ?_)
                    rintro r V1 ⟨rfl, k1⟩
                    clear t0 t1 t2 t3 t4 t5 t6 t7 t8 t9 t10 hSt
                    have kx := hide (k1.alloc (.cells #[.int .i64 f3, .int .i64 f4, .int .i64 f5, .int .i64 f6, .int .i64 (pn), .int .i64 (nx), .bool true, .int .i64 f7] 64))
                    have hbx := hide (heap_alloc_new V1 (.cells #[.int .i64 f3, .int .i64 f4, .int .i64 f5, .int .i64 f6, .int .i64 (pn), .int .i64 (nx), .bool true, .int .i64 f7] 64))
                    clear k1
                    go_wp2_with fail
                    generalize V1.alloc (.cells #[.int .i64 f3, .int .i64 f4, .int .i64 f5, .int .i64 f6, .int .i64 (pn), .int .i64 (nx), .bool true, .int .i64 f7] 64) = V2 at *
                    generalize V1.heap.size = B15 at *
                    have SD := hBb.out _ kx.out.drew
                    go_region_held3 (fun w' => (w'.cell? ⟨b, 10, none⟩ = some (.pointer (some ⟨p, 0, none⟩)) ∧ w'.cell? ⟨b, 11, none⟩ = some (.int .i64 l.k) ∧ w'.cell? ⟨b, 12, none⟩ = some (.int .i64 l.e) ∧ w'.cell? ⟨b, 13, none⟩ = some (.int .i64 l.a) ∧ w'.cell? ⟨b, 14, none⟩ = some (.int .i64 l.b) ∧ w'.cell? ⟨b, 15, none⟩ = some (.int .i64 l.c) ∧ w'.cell? ⟨b, 16, none⟩ = some (.int .i64 l.eo) ∧ w'.cell? ⟨b, 17, none⟩ = some (.int .i64 l.bo) ∧ w'.cell? ⟨b, 18, none⟩ = some (.int .i64 l.s) ∧ w'.cell? ⟨b, 19, none⟩ = some (.int .i64 l.g) ∧ w'.cell? ⟨b, 20, none⟩ = some (.int .i64 (16 : Int))) ∧ w'.cell? ⟨b, 0, none⟩ = some (.pointer (some ⟨p, 0, none⟩))) (with_reducible assumption)
                      (first | (go_at_call 25; (with_reducible refine (toff_any p l 16 _).mono ?_); rintro r wA ⟨rfl, kA⟩; have kA2 := kx.out.drew.trans kA (fun _ _ e => e); have SA := hBb.out _ kA2) | (go_at_call 24; (with_reducible refine (hKi.out _ kA2).mono ?_); rintro r wB ⟨rfl, kB⟩; have kB2 := kA2.trans kB (fun _ _ e => e); have SB := hBb.out _ kB2))
                    obtain ⟨⟨c0, c1, c2, c3, c4, c5, c6, c7⟩, -⟩ := st8_cells (((Keeps.refl V2 (fun _ => False)).drew.trans (kA.trans kB (fun _ _ e => e)) (fun _ _ e => e)).blk hbx.out)
                    have HFin := hide (hFin.out _ kB2)
                    clear SD SA SB kA kA2 kB kB2 kx hbx hBb hKi hFin
                    go_wp2_with fail
                    refine (hNum _ _).mono ?_
                    rintro r wC ⟨rfl, hw⟩
                    rw [hw]
                    clear hw wC
                    go_wp2_with fail
                    refine (hNum _ _).mono ?_
                    rintro r wC ⟨rfl, hw⟩
                    rw [hw]
                    clear hw wC
                    go_wp2_with fail
                    go_roundw
                    case rel => exact ⟨i + 1, pn, nx, true, cast1 i, Nat.succ_le_of_lt hlt, rfl, rfl, rfl, HP0, HP1, HFin⟩
                    case measure => exact meas8 hlt
      · obtain rfl : i = ms.length := by omega
        have hlt' : ¬ (ms.length : Int) < (ms.length : Int) := by omega
        obtain ⟨lv, L, ad, d, f, c, hB, hT, had, -⟩ := HPB.out
        have hSh := shape_any hB HP.out hT
        have HK := hide (Hk0.out.trans hB.keep (fun _ _ e => e))
        clear hB hT had HPB d f c
        go_wp2_with fail
        (with_reducible refine hSh.mono ?_)
        rintro e w3 ⟨rfl, k3⟩
        clear hSh
        go_wp2_with fail
        go_ret
        exact ⟨rfl, HK.out.trans k3 (fun _ _ e => e)⟩
end tablePins
end Go.Proofs.YtmdnknbolgedgaaGreatDoor
