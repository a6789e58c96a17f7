/-
  TableSwaps (made by gensw.py).
-/
import Derived.Test.YtmdnknbolgedgaaGreatDoorUn20
namespace Go.Proofs.YtmdnknbolgedgaaGreatDoor
namespace tableSwaps
open Go.RowKit Go.Shelf Ly Ct
set_option linter.unusedVariables false

/-- The blocks of the Bench, of the life and of the header's counts. -/
structure SB (W : World) (b p : Nat) (l : Lay) (fs S hs ts lv ad : Value) (B10 B11 : Nat) (H : Nat) (K0 E0 : ByteArray) (bi sl : Int) (st : Array Value) : Prop where
  t : W.heap[B11]? = some (.cells st 64)
  v : W.heap[B10]? = some (.cells #[.string K0, .string E0, .int .u64 (H : Int), .int .i64 bi, .int .i64 sl] 75)
  b : ∃ (x : Int) (y : Int), S = .int .i64 x ∧ ad = .int .i64 y ∧ W.heap[b]? = some (.cells (benC p l 16 fs x hs ts lv y) 57)
theorem SB.move {W W' : World} {b p : Nat} {l : Lay} {fs S hs ts lv ad : Value} {B10 B11 H : Nat} {K0 E0 : ByteArray} {bi sl : Int} {st : Array Value} (h : SB W b p l fs S hs ts lv ad B10 B11 H K0 E0 bi sl st) (h1 : W'.heap[b]? = W.heap[b]?) (h2 : W'.heap[B10]? = W.heap[B10]?) (h3 : W'.heap[B11]? = W.heap[B11]?) : SB W' b p l fs S hs ts lv ad B10 B11 H K0 E0 bi sl st := by
  obtain ⟨a1, a2, x, y, e1, e2, a3⟩ := h
  exact ⟨h3.trans a1, h2.trans a2, x, y, e1, e2, h1.trans a3⟩
theorem SB.stay {W W' : World} {b p : Nat} {l : Lay} {fs S hs ts lv ad : Value} {B10 B11 H : Nat} {K0 E0 : ByteArray} {bi sl : Int} {st : Array Value} (h : SB W b p l fs S hs ts lv ad B10 B11 H K0 E0 bi sl st) (k : Keeps W W' (fun _ => False)) : SB W' b p l fs S hs ts lv ad B10 B11 H K0 E0 bi sl st := by
  obtain ⟨a1, a2, x, y, e1, e2, a3⟩ := h
  exact ⟨k.blk a1, k.blk a2, x, y, e1, e2, k.blk a3⟩
theorem SB.cells {W : World} {b p : Nat} {l : Lay} {fs S hs ts lv ad : Value} {B10 B11 H : Nat} {K0 E0 : ByteArray} {bi sl : Int} {st : Array Value} (h : SB W b p l fs S hs ts lv ad B10 B11 H K0 E0 bi sl st) : (W.cell? ⟨b, 10, none⟩ = some (.pointer (some ⟨p, 0, none⟩)) ∧ W.cell? ⟨b, 11, none⟩ = some (.int .i64 l.k) ∧ W.cell? ⟨b, 12, none⟩ = some (.int .i64 l.e) ∧ W.cell? ⟨b, 13, none⟩ = some (.int .i64 l.a) ∧ W.cell? ⟨b, 14, none⟩ = some (.int .i64 l.b) ∧ W.cell? ⟨b, 15, none⟩ = some (.int .i64 l.c) ∧ W.cell? ⟨b, 16, none⟩ = some (.int .i64 l.eo) ∧ W.cell? ⟨b, 17, none⟩ = some (.int .i64 l.bo) ∧ W.cell? ⟨b, 18, none⟩ = some (.int .i64 l.s) ∧ W.cell? ⟨b, 19, none⟩ = some (.int .i64 l.g) ∧ W.cell? ⟨b, 20, none⟩ = some (.int .i64 (16 : Int))) ∧ W.cell? ⟨B10, 2, none⟩ = some (.int .u64 (H : Int)) ∧ W.cell? ⟨B10, 0, none⟩ = some (.string K0) ∧ W.cell? ⟨b, 2, none⟩ = some (.int .i64 l.e) := by
  obtain ⟨a1, a2, x, y, e1, e2, a3⟩ := h
  refine ⟨ben_T a3, ?_, ?_, (ben_22 a3).2.1⟩
  · simp only [World.cell?, a2]; rfl
  · simp only [World.cell?, a2]; rfl
theorem SB.keyw {W : World} {b p : Nat} {l : Lay} {fs S hs ts lv ad : Value} {B10 B11 H : Nat} {K0 E0 : ByteArray} {bi sl : Int} {st : Array Value} (h : SB W b p l fs S hs ts lv ad B10 B11 H K0 E0 bi sl st) : W.cell? ⟨b, 1, none⟩ = some (.int .i64 l.k) := by
  obtain ⟨a1, a2, x, y, e1, e2, a3⟩ := h
  exact (ben_22 a3).2.2
/-- What is played behind the turns, as contracts. -/
def Plays (w wr : World) (p : Nat) (l : Lay) (G : Nat) (d : AD) (f : Nat → Int) (c : Nat → GC) (H : Nat) (K0 K E : ByteArray) (n : Nat) (f1 f2 : Nat → Int) (c1 c2 : Nat → GC) (n2 : Nat) : Prop :=
      (∀ W, Keeps wr W (fun _ => False) → Calls Tryz.prog 13 #[.agg #[.pointer (some ⟨p, 0, none⟩), .int .i64 l.k, .int .i64 l.e, .int .i64 l.a, .int .i64 l.b, .int .i64 l.c, .int .i64 l.eo, .int .i64 l.bo, .int .i64 l.s, .int .i64 l.g, .int .i64 (16 : Int)], .int .u64 (H : Int), .string K0] W fun e w' => e = .returned (.tuple #[.int .i64 (n : Int), .int .i64 0]) ∧ Keeps W w' (fun _ => False)) ∧
      (∀ W Y, SW w W p Y l G d f c → Calls Tryz.prog 29 #[.agg #[.pointer (some ⟨p, 0, none⟩), .int .i64 l.k, .int .i64 l.e, .int .i64 l.a, .int .i64 l.b, .int .i64 l.c, .int .i64 l.eo, .int .i64 l.bo, .int .i64 l.s, .int .i64 l.g, .int .i64 (16 : Int)], .int .u64 (H : Int), .string K0] W fun e w' => e = .returned (.tuple #[.bool true, .int .i64 0]) ∧ (∃ d', SW w w' p Y l G d' f1 c1) ∧ ∀ q, Y q → w'.heap[q]? = W.heap[q]?) ∧
      (∀ W Y d', SW w W p Y l G d' f1 c1 → Calls Tryz.prog 15 #[.agg #[.pointer (some ⟨p, 0, none⟩), .int .i64 l.k, .int .i64 l.e, .int .i64 l.a, .int .i64 l.b, .int .i64 l.c, .int .i64 l.eo, .int .i64 l.bo, .int .i64 l.s, .int .i64 l.g, .int .i64 (16 : Int)], .int .u64 (H : Int), .string K, .string E, .int .i64 7] W fun e w' => e = .returned (.tuple #[.int .i64 2, .int .i64 0]) ∧ (∃ d', SW w w' p Y l G d' f2 c2) ∧ ∀ q, Y q → w'.heap[q]? = W.heap[q]?) ∧
      (∀ W Y d', SW w W p Y l G d' f2 c2 → Calls Tryz.prog 13 #[.agg #[.pointer (some ⟨p, 0, none⟩), .int .i64 l.k, .int .i64 l.e, .int .i64 l.a, .int .i64 l.b, .int .i64 l.c, .int .i64 l.eo, .int .i64 l.bo, .int .i64 l.s, .int .i64 l.g, .int .i64 (16 : Int)], .int .u64 (H : Int), .string K] W fun e w' => e = .returned (.tuple #[.int .i64 (n2 : Int), .int .i64 0]) ∧ Keeps W w' (fun _ => False)) ∧
      n2 ≤ n ∧ f2 3 = f 3 ∧ (f2 5 = f 5 ∨ f2 5 = f 5 + 1) ∧ -100000 ≤ f 5 ∧ f 5 ≤ 100000
set_option maxRecDepth 100000 in
set_option maxHeartbeats 8000000 in
theorem walk {w : World} {l : Lay} {fs : Value} {S : Int} {ha : Option Addr} {nh hc : Nat} {hv : Nat → Nat} {ta : Option Addr} {tc : Nat} {ss : List (Int × Int × Int)} (h : PlanIn w l fs S ha nh hc hv ta tc ss) (which : Int) (hwf : fitsI which) :
    Calls Tryz.prog 6 #[.agg #[fs, .int .i64 S, .slice ha nh hc, .slice ta ss.length tc], .int .i64 which] w fun e w' => e = .returned (.bool true) ∧ Keeps w w' (fun _ => False) := by
  have hBe := hide h.bench
  have hfew := h.few
  have hFit := hide h.fits
  have hTn : Hid (∀ i (hi : i < ss.length), _) := fun i hi => h.turn hi
  clear h
  go_enter Tryz.func6, Tryz.ntmps6
  go_wp2_with fail
  refine alloc1 (P := fun W => Calls _ _ _ W _) fun W0 hb hz k0 => ?_
  (with_reducible refine (hBe.out _ k0).mono ?_)
  clear hBe
  rintro r w1 (⟨rfl, k1⟩ | ⟨b, p, G, j, g, o, d, f, c, rfl, rfl, hS, hP, hB, hT, -⟩)
  · go_wp2_with fail
    go_ret
    exact ⟨rfl, k0.trans k1 (fun _ _ e => e)⟩
  · have hq3 : Hid (∀ W, Keeps W0 W (fun _ => False) → W.cell? ⟨w.heap.size, 3, none⟩ = some (.slice ta ss.length tc)) := fun W q => by
      have := q.blk hb
      simp only [World.cell?, this]
      rfl
    have q3 := hq3.out _ hB.keep
    have HP := hide hP
    have HB0 : Hid (∃ lv L ad d f c, BM W0 w1 b p l G fs (.slice ta ss.length tc) (.slice (some ⟨g, o, none⟩) nh hc) lv L ad d f c ∧ LTie c G f (hsT hv nh) L ad ∧ ad ≤ 0 ∧ Keyed l L) := ⟨_, _, _, _, _, _, hB, hT, Nat.le_refl _, fun x hx => by cases hx⟩
    clear hB hT hP hS hb hz d f c
    generalize w.heap.size = B0 at *
    go_wp2_with fail
    clear q3 hq3
    go_loopw [37] (fun v37 wr => ∃ i : Nat, v37 = .int .i64 (i : Int) ∧ i ≤ ss.length ∧ Hid (∃ lv L ad d f c, BM W0 wr b p l G fs (.slice ta ss.length tc) (.slice (some ⟨g, o, none⟩) nh hc) lv L ad d f c ∧ LTie c G f (hsT hv nh) L ad ∧ ad ≤ i ∧ Keyed l L)) (fun v37 _ => ss.length - (intOf v37).toNat)
    case atStart => exact ⟨0, rfl, Nat.zero_le _, HB0⟩
    case round =>
      clear HB0
      obtain ⟨i, rfl, hi, HB⟩ := hrel
      by_cases hlt : i < ss.length
      · have hlt' : (i : Int) < (ss.length : Int) := by omega
        obtain ⟨tb, tq, hta, hcs⟩ := hTn.out i hlt
        have hfit := hide (hFit.out _ (List.getElem_mem hlt))
        obtain ⟨x1, x2, x3⟩ := hcs wr (k0.trans (by obtain ⟨_, _, _, _, _, _, q, -⟩ := HB.out; exact q.keep) (fun _ _ e => e))
        subst hta
        clear hcs
        generalize ss[i].1 = y1 at *
        generalize ss[i].2.1 = y2 at *
        generalize ss[i].2.2 = y3 at *
        have hTu : Hid (∀ W, Keeps wr W (fun _ => False) → Calls Tryz.prog 27 #[.pointer (some ⟨b, 0, none⟩), .agg #[.int .i64 y1, .int .i64 y2, .int .i64 y3]] W fun e w' => e = .returned (.bool true) ∧ Hid (∃ lv L ad d f c, BM W0 w' b p l G fs (.slice (some ⟨tb, tq, none⟩) ss.length tc) (.slice (some ⟨g, o, none⟩) nh hc) lv L ad d f c ∧ LTie c G f (hsT hv nh) L ad ∧ ad ≤ i + 1 ∧ Keyed l L)) := fun W q => by
          obtain ⟨lv, L, ad, d, f, c, hB, hT, had, hKy⟩ := HB.out
          refine (turn_any (hB.stay q) HP.out hT (by omega) y1 y2 y3 hfit.out.2.1 hfit.out.2.2).mono ?_
          rintro e w' ⟨rfl, lv', L', ad', d', f', c', hB', hT', had', -, hKy'⟩
          exact ⟨rfl, lv', L', ad', d', f', c', hB', hT', by omega, hKy' hKy⟩
        clear HB hfit
        go_wp2_with fail
        refine alloc1 (P := fun W => Calls _ _ _ W _) fun W2 hb2 hz2 k2 => ?_
        (with_reducible refine (hTu.out _ k2).mono ?_)
        rintro e w3 ⟨rfl, HB3⟩
        clear hb2 hz2 k2 hTu x1 x2 x3
        go_wp2_with fail
        go_roundw
        case rel => exact ⟨i + 1, by go_num, by omega, HB3⟩
        case measure => simp [intOf]; omega
      · obtain rfl : i = ss.length := by omega
        have hlt' : ¬ (ss.length : Int) < (ss.length : Int) := by omega
        obtain ⟨lv, L, ad, d, f, c, hB, hT, had, hKy⟩ := HB.out
        clear HB had hTn hFit
        have HK := hide (k0.trans hB.keep (fun _ _ e => e))
        have hk0 := hide k0
        clear k0
        obtain ⟨z25, -⟩ := ben_25 hB.blk
        obtain ⟨-, -, z1⟩ := ben_22 hB.blk
        obtain ⟨a, cap, hlv, hLa, hcap⟩ := hB.lives
        rw [hlv] at z25
        by_cases hL0 : L.length = 0
        · have e0 : ((L.length : Int) == 0) = true := by simp [hL0]
          clear hT hB hKy HP hLa z1 hcap hL0
          go_wp2_with fail
          go_ret
          exact ⟨rfl, HK.out⟩
        · have e0 : ((L.length : Int) == 0) = false := beq_eq_false_iff_ne.2 (by omega)
          by_cases hw0 : which < 0
          · clear hT hB hKy HP hLa z1 hcap hL0
            go_wp2_with fail
            go_ret
            exact ⟨rfl, HK.out⟩
          · by_cases hk2 : l.k < 2
            · clear hT hB hKy HP hLa hcap hL0
              go_wp2_with fail
              go_ret
              exact ⟨rfl, HK.out⟩
            · have hG8 := HP.out.le
              have hLf := hT.few
              obtain ⟨i, hi⟩ : ∃ i, i = which.toNat % L.length := ⟨_, rfl⟩
              have hiL : i < L.length := by rw [hi]; exact Nat.mod_lt _ (by omega)
              have hmod : which.tmod (L.length : Int) = (i : Int) := by
                rw [hi, Int.tmod_eq_emod_of_nonneg (by omega), Int.natCast_emod, Int.toNat_of_nonneg (by omega)]
              obtain ⟨hwm1, hwm2⟩ := wrm (x := (i : Int)) (by omega) (by omega)
              have hnz : ¬ (L.length : Int) = 0 := by omega
              have hnz3 : ¬ L.length = 0 := by omega
              have hilt : (i : Int) < (L.length : Int) := by omega
              have hi0 : ¬ (i : Int) < 0 := by omega
              have hvm := valid_more hB.tab.valid
              have hx := hT.life _ (List.getElem_mem hiL)
              have hH64 : L[i].hash < 18446744073709551616 := by rw [hx.2.2.2]; exact HP.out.word _
              have hKs : (L[i].key.size : Int) = l.k := by
                obtain ⟨n, hn⟩ := hKy _ (List.getElem_mem hiL)
                rw [hn]
                exact keyT_size hB.tab.valid n
              have hK5 : ∀ x, x ∈ L → x.key ≠ strOf (txL 5000 l.k.toNat) := fun x hx e => by
                obtain ⟨n, hn⟩ := hKy x hx
                have hk := keyN_lt n
                rw [hn] at e
                have := tx_inj (a := keyN n) (b := 5000) (w := l.k.toNat) (by omega) (by omega) (by omega) e
                omega
              have hPl : Hid (∃ n f1 f2 c1 c2 n2, Plays W0 wr p l G d f c L[i].hash L[i].key (strOf (txL 5000 l.k.toNat)) (elemT l 1) n f1 f2 c1 c2 n2) := sw_swap hB.sw hT HP.out.hj HP.out.hG HP.out.tabs hiL hH64 hKs hK5 (by rw [tx_size]; omega) (elemT_size hB.tab.valid 1)
              have hTx : Hid (∀ W, Calls Tryz.prog 14 #[.int .i64 5000, .int .i64 l.k] W fun e w' => e = .returned (.string (strOf (txL 5000 l.k.toNat))) ∧ Keeps W w' (fun _ => False)) := fun W => by
                have := text_any 5000 l.k.toNat W (fitsI_mk (by omega) (by omega)) (by omega)
                rw [Int.toNat_of_nonneg (by omega)] at this
                exact this
              have hTe : Hid (∀ W, Calls Tryz.prog 14 #[.int .i64 1, .int .i64 l.e] W fun e w' => e = .returned (.string (elemT l 1)) ∧ Keeps W w' (fun _ => False)) := fun W => bm_elem hB.tab.valid 1 (fitsI_mk (by omega) (by omega)) W
              have hSt : Hid (∀ W (Y : Nat → Prop) (d' : AD) (f' : Nat → Int) (c' : Nat → GC), SW W0 W p Y l G d' f' c' → _) := fun W Y d' f' c' q => sw_stat q
              have hNum := fun x W => num8_any x W
              have HSW := hide hB.sw
              have HBb := hide hB.blk
              have hRow : Hid (∃ gl, a = some ⟨gl, 0, none⟩ ∧ ∀ W, Keeps wr W (fun _ => False) → W.cell? ⟨b, 25, none⟩ = some (.slice a L.length cap) ∧ W.cell? ⟨gl, i * 5, none⟩ = some (.string L[i].key) ∧ W.cell? ⟨gl, i * 5 + 1, none⟩ = some (.string L[i].elem) ∧ W.cell? ⟨gl, i * 5 + 2, none⟩ = some (.int .u64 (L[i].hash : Int)) ∧ W.cell? ⟨gl, i * 5 + 3, none⟩ = some (.int .i64 L[i].birth) ∧ W.cell? ⟨gl, i * 5 + 4, none⟩ = some (.int .i64 L[i].slot)) := by
                rcases hB.row.2 with ⟨e, e0⟩ | ⟨gl, cap', cur, e, -⟩
                · omega
                · rw [e] at hlv
                  cases hlv
                  obtain ⟨c0, c1, c2, c3, c4⟩ := lifeC_get L i hiL
                  have hr := hB.row
                  rw [e] at hr
                  exact ⟨gl, rfl, fun W q => ⟨keeps_cell q id z25, keeps_cell q id ((hr.cellAt _ (by omega)).trans c0), keeps_cell q id ((hr.cellAt _ (by omega)).trans c1), keeps_cell q id ((hr.cellAt _ (by omega)).trans c2), keeps_cell q id ((hr.cellAt _ (by omega)).trans c3), keeps_cell q id ((hr.cellAt _ (by omega)).trans c4)⟩⟩
              have hlow := HSW.out.lt b (Or.inl rfl)
              clear hB hT hKy hLa hcap hL0 hx hK5 hvm hi HP hKs hH64 hLf hG8
              obtain ⟨gl, rfl, hR⟩ := hRow.out
              generalize elemT l 1 = e1 at *
              generalize strOf (txL 5000 l.k.toNat) = K5 at *
              generalize L[i].key = K0 at *
              generalize L[i].elem = E0 at *
              generalize L[i].hash = H at *
              generalize L[i].birth = bi at *
              generalize L[i].slot = sl at *
              generalize L.length = nL at *
              replace hR := hide hR
              clear hRow
              obtain ⟨n, f1, f2, c1, c2, n2, hPr1, hDel, hPut, hPr2, hn2, h3, h5, hlo, hhi⟩ := hPl.out
              replace hPr1 := hide hPr1
              replace hDel := hide hDel
              replace hPut := hide hPut
              replace hPr2 := hide hPr2
              replace h3 := hide h3
              replace h5 := hide h5
              clear hPl
              go_wp2_with fail
              go_region_held3 (fun w' => w'.cell? ⟨b, 25, none⟩ = some (.slice (some ⟨gl, 0, none⟩) nL cap) ∧ w'.cell? ⟨gl, i * 5, none⟩ = some (.string K0) ∧ w'.cell? ⟨gl, i * 5 + 1, none⟩ = some (.string E0) ∧ w'.cell? ⟨gl, i * 5 + 2, none⟩ = some (.int .u64 (H : Int)) ∧ w'.cell? ⟨gl, i * 5 + 3, none⟩ = some (.int .i64 bi) ∧ w'.cell? ⟨gl, i * 5 + 4, none⟩ = some (.int .i64 sl)) (first | exact hR.out _ ((Keeps.refl _ _).drew) | exact hR.out _ (((Keeps.refl _ _).alloc _).drew) | exact hR.out _ ((Keeps.refl _ _).alloc _)) (fail)
              have k2 : Keeps wr ((wr.alloc (.cells #[.string K0, .string E0, .int .u64 (H : Int), .int .i64 bi, .int .i64 sl] 75)).drew) (fun _ => False) := ((Keeps.refl _ _).alloc _).drew
              have hv2 : ((wr.alloc (.cells #[.string K0, .string E0, .int .u64 (H : Int), .int .i64 bi, .int .i64 sl] 75)).drew).heap[wr.heap.size]? = some (.cells #[.string K0, .string E0, .int .u64 (H : Int), .int .i64 bi, .int .i64 sl] 75) := heap_alloc_new _ _
              generalize (wr.alloc (.cells #[.string K0, .string E0, .int .u64 (H : Int), .int .i64 bi, .int .i64 sl] 75)).drew = W2 at *
              have hSW2 := HSW.out.box (Nat.le_refl _) k2 (heap_lt hv2)
              have hBb2 := k2.blk HBb.out
              have HK2 := hide (HK.out.trans k2 (fun _ _ e => e))
              have hK2 := hide k2
              generalize wr.heap.size = B10 at *
              obtain ⟨t0, t1, t2, t3, t4, t5, t6, t7, t8, t9, t10⟩ := ben_T hBb2
              clear hR HSW HBb HK k2 z1 z25 hmod hwm1 hwm2 hnz hnz3 hilt hi0 hlow
              go_wp2_with fail
              (with_reducible refine (hSt.out _ _ _ _ _ hSW2).mono ?_)
              rintro r w3 ⟨rfl, k3⟩
              clear t0 t1 t2 t3 t4 t5 t6 t7 t8 t9 t10
              have k4 : Keeps w3 (w3.alloc (.cells #[.int .i64 (f 3), .int .i64 (f 4), .int .i64 (f 5), .int .i64 (f 6), .int .i64 (f 1), .int .i64 (f 2), .bool (f 0 == 4), .int .i64 (f 7)] 64)) (fun _ => False) := (Keeps.refl _ _).alloc _
              have ht4 := heap_alloc_new w3 (.cells #[.int .i64 (f 3), .int .i64 (f 4), .int .i64 (f 5), .int .i64 (f 6), .int .i64 (f 1), .int .i64 (f 2), .bool (f 0 == 4), .int .i64 (f 7)] 64)
              have hSW4 := (hSW2.stay k3).box (Nat.le_refl _) k4 (heap_lt ht4)
              have k34 := k3.trans k4 (fun _ _ e => e)
              have hSB4 : SB (w3.alloc (.cells #[.int .i64 (f 3), .int .i64 (f 4), .int .i64 (f 5), .int .i64 (f 6), .int .i64 (f 1), .int .i64 (f 2), .bool (f 0 == 4), .int .i64 (f 7)] 64)) b p l fs _ _ _ _ _ B10 w3.heap.size H K0 E0 bi sl _ := ⟨ht4, k34.blk hv2, _, _, rfl, rfl, k34.blk hBb2⟩
              have HK4 := hide (HK2.out.trans k34 (fun _ _ e => e))
              have hKw4 := hide (hK2.out.trans k34 (fun _ _ e => e))
              clear ht4 hv2 hBb2 k3 k4 hSW2 HK2 hK2 k34
              replace hSB4 := hide hSB4
              replace hSW4 := hide hSW4
              go_wp2_with fail
              generalize w3.alloc (.cells #[.int .i64 (f 3), .int .i64 (f 4), .int .i64 (f 5), .int .i64 (f 6), .int .i64 (f 1), .int .i64 (f 2), .bool (f 0 == 4), .int .i64 (f 7)] 64) = W4 at *
              generalize w3.heap.size = B11 at *
              have SD := (hSB4.out.stay (Keeps.refl _ _).drew).cells
              go_region_held3 (fun w' => (w'.cell? ⟨b, 10, none⟩ = some (.pointer (some ⟨p, 0, none⟩)) ∧ w'.cell? ⟨b, 11, none⟩ = some (.int .i64 l.k) ∧ w'.cell? ⟨b, 12, none⟩ = some (.int .i64 l.e) ∧ w'.cell? ⟨b, 13, none⟩ = some (.int .i64 l.a) ∧ w'.cell? ⟨b, 14, none⟩ = some (.int .i64 l.b) ∧ w'.cell? ⟨b, 15, none⟩ = some (.int .i64 l.c) ∧ w'.cell? ⟨b, 16, none⟩ = some (.int .i64 l.eo) ∧ w'.cell? ⟨b, 17, none⟩ = some (.int .i64 l.bo) ∧ w'.cell? ⟨b, 18, none⟩ = some (.int .i64 l.s) ∧ w'.cell? ⟨b, 19, none⟩ = some (.int .i64 l.g) ∧ w'.cell? ⟨b, 20, none⟩ = some (.int .i64 (16 : Int))) ∧ w'.cell? ⟨B10, 2, none⟩ = some (.int .u64 (H : Int)) ∧ w'.cell? ⟨B10, 0, none⟩ = some (.string K0) ∧ w'.cell? ⟨b, 2, none⟩ = some (.int .i64 l.e)) (with_reducible assumption)
                (first | (go_at_call 13; (with_reducible refine (hPr1.out _ hKw4.out.drew).mono ?_); rintro r wA ⟨rfl, kA'⟩; have kA := (Keeps.refl W4 (fun _ => False)).drew.trans kA' (fun _ _ e => e); have SA := (hSB4.out.stay kA).cells))
              have hSB5 := hide (hSB4.out.stay kA)
              have hSW5 := hide (hSW4.out.stay kA)
              have HK5 := hide (HK4.out.trans kA (fun _ _ e => e))
              clear SD SA kA kA' hSB4 hSW4 HK4 hKw4 hPr1
              have SD := (hSB5.out.stay (Keeps.refl _ _).drew).cells
              go_wp2_with fail
              go_region_held3 (fun w' => (w'.cell? ⟨b, 10, none⟩ = some (.pointer (some ⟨p, 0, none⟩)) ∧ w'.cell? ⟨b, 11, none⟩ = some (.int .i64 l.k) ∧ w'.cell? ⟨b, 12, none⟩ = some (.int .i64 l.e) ∧ w'.cell? ⟨b, 13, none⟩ = some (.int .i64 l.a) ∧ w'.cell? ⟨b, 14, none⟩ = some (.int .i64 l.b) ∧ w'.cell? ⟨b, 15, none⟩ = some (.int .i64 l.c) ∧ w'.cell? ⟨b, 16, none⟩ = some (.int .i64 l.eo) ∧ w'.cell? ⟨b, 17, none⟩ = some (.int .i64 l.bo) ∧ w'.cell? ⟨b, 18, none⟩ = some (.int .i64 l.s) ∧ w'.cell? ⟨b, 19, none⟩ = some (.int .i64 l.g) ∧ w'.cell? ⟨b, 20, none⟩ = some (.int .i64 (16 : Int))) ∧ w'.cell? ⟨B10, 2, none⟩ = some (.int .u64 (H : Int)) ∧ w'.cell? ⟨B10, 0, none⟩ = some (.string K0) ∧ w'.cell? ⟨b, 2, none⟩ = some (.int .i64 l.e)) (with_reducible assumption)
                (first | (go_at_call 29; (with_reducible refine (hDel.out _ _ (hSW5.out.stay (Keeps.refl _ _).drew)).mono ?_); rintro r wB ⟨rfl, hSW6, hq6⟩; have hSB6 := ((hSB5.out.stay (Keeps.refl _ _).drew).move (hq6 b (Or.inl (Or.inl (Or.inl rfl)))) (hq6 B10 (Or.inl (Or.inr rfl))) (hq6 B11 (Or.inr rfl))); have SA := hSB6.cells))
              obtain ⟨d6, hSW6⟩ := hSW6
              replace hSW6 := hide hSW6
              replace hSB6 := hide hSB6
              clear SD SA hSB5 hSW5 hq6 hDel
              have HK6 : Hid (Keeps w wB (fun _ => False)) := hk0.out.trans hSW6.out.keep (fun _ _ e => e)
              clear HK5
              go_wp2_with fail
              refine (hNum _ _).mono ?_
              rintro r wC ⟨rfl, hw⟩
              subst hw
              go_wp2_with fail
              refine (hNum _ _).mono ?_
              rintro r wC ⟨rfl, hw⟩
              subst hw
              go_wp2_with fail
              refine (hNum _ _).mono ?_
              rintro r wC ⟨rfl, hw⟩
              subst hw
              have hkw := hSB6.out.keyw
              go_wp2_with fail
              (with_reducible refine (hTx.out _).mono ?_)
              rintro r wD ⟨rfl, kD⟩
              have hSB7 := hide (hSB6.out.stay kD)
              have hSW7 := hide (hSW6.out.stay kD)
              clear hkw hSB6 hSW6 kD hTx HK6
              have SD := (hSB7.out.stay (Keeps.refl _ _).drew).cells
              go_wp2_with fail
              go_region_held3 (fun w' => (w'.cell? ⟨b, 10, none⟩ = some (.pointer (some ⟨p, 0, none⟩)) ∧ w'.cell? ⟨b, 11, none⟩ = some (.int .i64 l.k) ∧ w'.cell? ⟨b, 12, none⟩ = some (.int .i64 l.e) ∧ w'.cell? ⟨b, 13, none⟩ = some (.int .i64 l.a) ∧ w'.cell? ⟨b, 14, none⟩ = some (.int .i64 l.b) ∧ w'.cell? ⟨b, 15, none⟩ = some (.int .i64 l.c) ∧ w'.cell? ⟨b, 16, none⟩ = some (.int .i64 l.eo) ∧ w'.cell? ⟨b, 17, none⟩ = some (.int .i64 l.bo) ∧ w'.cell? ⟨b, 18, none⟩ = some (.int .i64 l.s) ∧ w'.cell? ⟨b, 19, none⟩ = some (.int .i64 l.g) ∧ w'.cell? ⟨b, 20, none⟩ = some (.int .i64 (16 : Int))) ∧ w'.cell? ⟨B10, 2, none⟩ = some (.int .u64 (H : Int)) ∧ w'.cell? ⟨B10, 0, none⟩ = some (.string K0) ∧ w'.cell? ⟨b, 2, none⟩ = some (.int .i64 l.e)) (with_reducible assumption)
                (first | (go_at_call 14; (with_reducible refine (hTe.out _).mono ?_); rintro r wE ⟨rfl, kE'⟩; have kE := (Keeps.refl wD (fun _ => False)).drew.trans kE' (fun _ _ e => e); have SA := (hSB7.out.stay kE).cells) | (go_at_call 15; (with_reducible refine (hPut.out _ _ _ (hSW7.out.stay kE)).mono ?_); rintro r wF ⟨rfl, hSW8, hq8⟩; have hSB8 := ((hSB7.out.stay kE).move (hq8 b (Or.inl (Or.inl (Or.inl rfl)))) (hq8 B10 (Or.inl (Or.inr rfl))) (hq8 B11 (Or.inr rfl))); have SB := hSB8.cells))
              obtain ⟨d8, hSW8⟩ := hSW8
              replace hSW8 := hide hSW8
              replace hSB8 := hide hSB8
              clear SD SA SB hSB7 hSW7 hq8 hPut hTe kE kE'
              have SD := (hSB8.out.stay (Keeps.refl _ _).drew).cells
              go_wp2_with fail
              go_region_held3 (fun w' => (w'.cell? ⟨b, 10, none⟩ = some (.pointer (some ⟨p, 0, none⟩)) ∧ w'.cell? ⟨b, 11, none⟩ = some (.int .i64 l.k) ∧ w'.cell? ⟨b, 12, none⟩ = some (.int .i64 l.e) ∧ w'.cell? ⟨b, 13, none⟩ = some (.int .i64 l.a) ∧ w'.cell? ⟨b, 14, none⟩ = some (.int .i64 l.b) ∧ w'.cell? ⟨b, 15, none⟩ = some (.int .i64 l.c) ∧ w'.cell? ⟨b, 16, none⟩ = some (.int .i64 l.eo) ∧ w'.cell? ⟨b, 17, none⟩ = some (.int .i64 l.bo) ∧ w'.cell? ⟨b, 18, none⟩ = some (.int .i64 l.s) ∧ w'.cell? ⟨b, 19, none⟩ = some (.int .i64 l.g) ∧ w'.cell? ⟨b, 20, none⟩ = some (.int .i64 (16 : Int))) ∧ w'.cell? ⟨B10, 2, none⟩ = some (.int .u64 (H : Int)) ∧ w'.cell? ⟨B10, 0, none⟩ = some (.string K0) ∧ w'.cell? ⟨b, 2, none⟩ = some (.int .i64 l.e)) (with_reducible assumption)
                (first | (go_at_call 13; (with_reducible refine (hPr2.out _ _ _ (hSW8.out.stay (Keeps.refl _ _).drew)).mono ?_); rintro r wG ⟨rfl, kG'⟩; have kG := (Keeps.refl wF (fun _ => False)).drew.trans kG' (fun _ _ e => e); have SA := (hSB8.out.stay kG).cells))
              have hSB9 := hide (hSB8.out.stay kG)
              have hSW9 := hide (hSW8.out.stay kG)
              clear SD SA kG kG' hSB8 hSW8 hPr2
              obtain ⟨⟨t0, t1, t2, t3, t4, t5, t6, t7, t8, t9, t10⟩, -⟩ := hSB9.out.cells
              go_wp2_with fail
              (with_reducible refine (hSt.out _ _ _ _ _ hSW9.out).mono ?_)
              rintro r wH ⟨rfl, kH⟩
              have kI : Keeps wH (wH.alloc (.cells #[.int .i64 (f2 3), .int .i64 (f2 4), .int .i64 (f2 5), .int .i64 (f2 6), .int .i64 (f2 1), .int .i64 (f2 2), .bool (f2 0 == 4), .int .i64 (f2 7)] 64)) (fun _ => False) := (Keeps.refl _ _).alloc _
              have htI := (st8_cells (heap_alloc_new wH (.cells #[.int .i64 (f2 3), .int .i64 (f2 4), .int .i64 (f2 5), .int .i64 (f2 6), .int .i64 (f2 1), .int .i64 (f2 2), .bool (f2 0 == 4), .int .i64 (f2 7)] 64))).1
              have htJ := (st8_cells ((kH.trans kI (fun _ _ e => e)).blk hSB9.out.t)).1
              have HKI := hide (hk0.out.trans ((hSW9.out.stay (kH.trans kI (fun _ _ e => e))).keep) (fun _ _ e => e))
              clear t0 t1 t2 t3 t4 t5 t6 t7 t8 t9 t10 hSB9 hSW9 kH kI hSt
              go_wp2_with fail
              generalize wH.alloc (.cells #[.int .i64 (f2 3), .int .i64 (f2 4), .int .i64 (f2 5), .int .i64 (f2 6), .int .i64 (f2 1), .int .i64 (f2 2), .bool (f2 0 == 4), .int .i64 (f2 7)] 64) = WI at *
              generalize wH.heap.size = BI at *
              obtain ⟨a0, a1, a2, a3, a4, a5, a6, a7⟩ := htI
              obtain ⟨b0, b1, b2, b3, b4, b5, b6, b7⟩ := htJ
              rw [h3.out] at a0
              have hnn : (n2 : Int) ≤ (n : Int) := by omega
              refine (hNum _ _).mono ?_
              rintro r wJ ⟨rfl, hw⟩
              subst hw
              go_wp2_with fail
              refine (hNum _ _).mono ?_
              rintro r wJ ⟨rfl, hw⟩
              subst hw
              go_wp2_with fail
              refine (hNum _ _).mono ?_
              rintro r wJ ⟨rfl, hw⟩
              subst hw
              rcases h5.out with h5 | h5
              · rw [h5] at a2
                have eq5 : (f 5 == f 5) = true := beq_self_eq_true _
                clear h3 h5 hlo hhi
                generalize f 5 = F5 at *
                generalize f 3 = F3 at *
                go_wp2_with fail
                go_ret
                exact ⟨rfl, HKI.out⟩
              · rw [h5] at a2
                obtain ⟨wp1, wp2⟩ := wrm (x := f 5 + 1) (by omega) (by omega)
                have ne5 : (f 5 + 1 == f 5) = false := beq_eq_false_iff_ne.2 (by omega)
                clear h3 h5 hlo hhi
                generalize f 5 = F5 at *
                generalize f 3 = F3 at *
                go_wp2_with fail
                go_ret
                exact ⟨rfl, HKI.out⟩
end tableSwaps
end Go.Proofs.YtmdnknbolgedgaaGreatDoor
