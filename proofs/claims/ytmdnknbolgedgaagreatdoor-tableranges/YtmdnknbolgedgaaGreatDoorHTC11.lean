/-
  TB11 beside the pointer's box. (made by gentc.py)
-/
import Derived.Test.YtmdnknbolgedgaaGreatDoorHTC10
import Derived.Deep.RegionHeld3
namespace Go.Proofs.YtmdnknbolgedgaaGreatDoor
open Go.RowKit Go.Shelf Ly Ct
set_option linter.unusedVariables false
set_option linter.unusedSectionVars false
namespace Bx
variable [BoxNo]
section
variable {w wr : World} {b p : Nat} {l : Lay} {G j g o nh hc : Nat} {hv : Nat → Nat} {fs ts lv : Value} {L : List LifeD} {ad : Nat} {d : AD} {f : Nat → Int} {c : Nat → GC}
set_option maxRecDepth 100000 in
set_option maxHeartbeats 8000000 in
theorem puts_old (h : BM w wr b p l G fs ts (.slice (some ⟨g, o, none⟩) nh hc) lv L ad d f c) (P : PlanAt w l G j g o nh hv) (tie : LTie c G f (hsT hv nh) L ad) (had : ad ≤ 9000000000000000000) (kd n E : Int) (hn : fitsI n) (hE : fitsI E) {i : Nat} (hi : i < L.length) (hk : L[i].key = keyT l n) (hp : placeL (keyT l n) L 0 = (i : Int)) :
    Calls Tryz.prog 22 #[.pointer (some ⟨b, 0, none⟩), .agg #[.int .i64 kd, .int .i64 n, .int .i64 E]] wr fun e w' => TurnPost w b p l G fs ts (.slice (some ⟨g, o, none⟩) nh hc) hv nh ad f L e w' := by
  have hG8 := P.le
  have hfew := tie.few
  have hK := keyT_size h.tab.valid n
  have hEl := elemT_size h.tab.valid E
  have hKey : Hid (∀ W, Keeps wr W (fun _ => False) → _) := fun W q => bm_key (h.stay q) P n hn
  have hTe := fun W => bm_elem h.tab.valid E hE W
  have hB : Hid (∀ W, Keeps wr W (fun _ => False) → W.heap[b]? = some (.cells (benC p l 16 fs ((8 * G : Nat) : Int) (.slice (some ⟨g, o, none⟩) nh hc) ts lv (ad : Int)) 57)) := fun W q => q.blk h.blk
  have hNum := fun x W => num8_any x W
  obtain ⟨a, cap, hlv, hL, hcap⟩ := h.lives
  have HL : Hid (L.length ≤ 1024) := by show L.length ≤ 1024; omega
  have hPut : Hid (∀ W, Keeps wr W (fun _ => False) → _) := fun W q => bm_put_old (h.stay q) P tie hK hEl ad (by omega) hi hk
  have hlt' : (i : Int) < (L.length : Int) := by omega
  have hi0 : ¬ (i : Int) < 0 := by omega
  have hi1 : (0 : Int) ≤ (i : Int) := by omega
  have hRow : Hid (∃ gl, a = some ⟨gl, 0, none⟩) := by
    rcases h.row.2 with ⟨e, e0⟩ | ⟨gl, cap', cur, e, -⟩
    · omega
    · rw [e] at hlv
      cases hlv
      exact ⟨gl, rfl⟩
  clear hK hEl h tie hn hE P hG8 hfew hL hk had
  subst hlv
  have hPl : Hid (∀ {W d f c}, BM w W b p l G fs ts (.slice (some ⟨g, o, none⟩) nh hc) (.slice a L.length cap) L ad d f c → Calls Tryz.prog 50 #[.pointer (some ⟨b, 0, none⟩), .string (keyT l n)] W fun e w' => e = .returned (.int .i64 (i : Int)) ∧ Keeps W w' (fun _ => False)) := fun {W d f c} hh => by
    have := bm_place hh (by have := HL.out; omega) (keyT l n)
    rw [hp] at this
    exact this
  clear hp
  generalize hsT hv nh (keyT l n) = H at *
  generalize keyT l n = K at *
  generalize elemT l E = el at *
  obtain ⟨gl, rfl⟩ := hRow.out
  clear hRow
  go_enter Tryz.func22, Tryz.ntmps22
  go_wp2_with fail
  refine alloc1 (P := fun W => Calls _ _ _ W _) fun W0 hb hz k0 => ?_
  generalize wr.heap.size = Bo at *
  (with_reducible refine (hKey.out _ k0).mono ?_)
  rintro r w1 ⟨rfl, k1'⟩
  have k1 := k0.trans k1' (fun _ _ e => e)
  have SD : w1.drew.cell? ⟨Bo, 2, none⟩ = some (.int .i64 E) ∧ w1.drew.cell? ⟨b, 2, none⟩ = some (.int .i64 l.e) := ⟨by
    have hb1 := (k1'.drew).blk hb
    simp only [World.cell?, hb1]; rfl, (ben_22 (hB.out _ k1.drew)).2.1⟩
  clear hKey hz
  go_wp2_with fail
  go_region_held3 (fun w' => w'.cell? ⟨Bo, 2, none⟩ = some (.int .i64 E) ∧ w'.cell? ⟨b, 2, none⟩ = some (.int .i64 l.e)) (with_reducible assumption)
    (first | (go_at_call 14; (with_reducible refine (hTe _).mono ?_); rintro r wA ⟨rfl, kA⟩; have SA : wA.cell? ⟨Bo, 2, none⟩ = some (.int .i64 E) ∧ wA.cell? ⟨b, 2, none⟩ = some (.int .i64 l.e) := ⟨keeps_cell kA id SD.1, keeps_cell kA id SD.2⟩))
  have k2 : Keeps wr wA (fun _ => False) := k1.drew.trans kA (fun _ _ e => e)
  obtain ⟨t0, t1, t2, t3, t4, t5, t6, t7, t8, t9, t10⟩ := ben_T (hB.out _ k2)
  obtain ⟨t26, -⟩ := ben_26 (hB.out _ k2)
  clear SD SA kA k1 k1' k0 hb hTe
  go_wp2_with fail
  (with_reducible refine (hPut.out _ k2).mono ?_)
  rintro r w3 ⟨rfl, d', c', hB3, hT3⟩
  clear t0 t1 t2 t3 t4 t5 t6 t7 t8 t9 t10 t26 k2 hPut hB
  go_wp2_with fail
  refine (hNum _ _).mono ?_
  rintro r w6 ⟨rfl, hw⟩
  subst hw
  go_wp2_with fail
  (with_reducible refine (hPl.out hB3).mono ?_)
  rintro r w4 ⟨rfl, k4⟩
  have hB4 := hB3.stay k4
  obtain ⟨-, hB5⟩ := hB4.putE rfl hi el
  obtain ⟨z25, -⟩ := ben_25 hB4.blk
  obtain ⟨c0, c1, c2, c3, c4⟩ := lifeC_get L i hi
  have y1 : w4.cell? ⟨gl, i * 5 + 1, none⟩ = some (.string L[i].elem) := (hB4.row.cellAt _ (by omega)).trans c1
  have y2 := hB4.row.frozenAt (i * 5 + 1)
  have hfin : Hid (TurnPost w b p l G fs ts (.slice (some ⟨g, o, none⟩) nh hc) hv nh ad f L (.returned (.bool true)) (w4.setCell ⟨gl, i * 5 + 1, none⟩ (.string el))) := ⟨rfl, _, _, ad, d', f, c', hB5, hT3, by omega, fun _ _ _ => rfl, keyed_set hi⟩
  clear hB3 hB4 hB5 hT3 k4 hPl c0 c1 c2 c3 c4
  generalize L[i].elem = yE at *
  go_wp2_with fail
  go_ret
  exact hfin.out
set_option maxRecDepth 100000 in
set_option maxHeartbeats 8000000 in
theorem puts_no (h : BM w wr b p l G fs ts (.slice (some ⟨g, o, none⟩) nh hc) lv L ad d f c) (P : PlanAt w l G j g o nh hv) (tie : LTie c G f (hsT hv nh) L ad) (had : ad ≤ 9000000000000000000) (kd n E : Int) (hn : fitsI n) (hE : fitsI E) (hno : ∀ x, x ∈ L → x.key ≠ keyT l n) :
    Calls Tryz.prog 22 #[.pointer (some ⟨b, 0, none⟩), .agg #[.int .i64 kd, .int .i64 n, .int .i64 E]] wr fun e w' => TurnPost w b p l G fs ts (.slice (some ⟨g, o, none⟩) nh hc) hv nh ad f L e w' := by
  have hG8 := P.le
  have hfew := tie.few
  have hK := keyT_size h.tab.valid n
  have hEl := elemT_size h.tab.valid E
  have hKey : Hid (∀ W, Keeps wr W (fun _ => False) → _) := fun W q => bm_key (h.stay q) P n hn
  have hTe := fun W => bm_elem h.tab.valid E hE W
  have hB : Hid (∀ W, Keeps wr W (fun _ => False) → W.heap[b]? = some (.cells (benC p l 16 fs ((8 * G : Nat) : Int) (.slice (some ⟨g, o, none⟩) nh hc) ts lv (ad : Int)) 57)) := fun W q => q.blk h.blk
  have hNum := fun x W => num8_any x W
  obtain ⟨a, cap, hlv, hL, hcap⟩ := h.lives
  have HL : Hid (L.length ≤ 1024) := by show L.length ≤ 1024; omega
  have hPut : Hid (∀ W, Keeps wr W (fun _ => False) → _) := fun W q => bm_put_no (h.stay q) P tie hK hEl ad (by omega) hno
  have hFi : Hid (∀ {W : World} {d : AD} {f : Nat → Int} {c : Nat → GC} {v : Nat}, BM w W b p l G fs ts (.slice (some ⟨g, o, none⟩) nh hc) lv L ad d f c → LTie c G f (hsT hv nh) (L ++ [⟨keyT l n, elemT l E, hsT hv nh (keyT l n), (ad : Int), ((v : Nat) : Int)⟩]) (ad + 1) → Calls Tryz.prog 16 #[.agg #[.pointer (some ⟨p, 0, none⟩), .int .i64 l.k, .int .i64 l.e, .int .i64 l.a, .int .i64 l.b, .int .i64 l.c, .int .i64 l.eo, .int .i64 l.bo, .int .i64 l.s, .int .i64 l.g, .int .i64 (16 : Int)], .int .u64 ((hsT hv nh (keyT l n) : Nat) : Int), .string (keyT l n)] W fun e w' => e = .returned (.tuple #[.int .i64 (v : Int), .int .i64 0]) ∧ Keeps W w' (fun _ => False)) := fun {W d f c v} hh ht => by
    have := bm_find_yes hh P ht hK (i := L.length) (by simp) (by simp)
    simpa using this
  have ep : placeL (keyT l n) L 0 = -1 := by
    rcases placeL_spec (keyT l n) L 0 with q | ⟨i, hi, q1, q2⟩
    · exact q.1
    · exact absurd q2 (hno _ (List.getElem_mem hi))
  have hPl : Hid (∀ {W d f c}, BM w W b p l G fs ts (.slice (some ⟨g, o, none⟩) nh hc) lv L ad d f c → Calls Tryz.prog 50 #[.pointer (some ⟨b, 0, none⟩), .string (keyT l n)] W fun e w' => e = .returned (.int .i64 (-1)) ∧ Keeps W w' (fun _ => False)) := fun {W d f c} hh => by
    have := bm_place hh (by have := HL.out; omega) (keyT l n)
    rw [ep] at this
    exact this
  have hW : Hid (((8 * G : Nat) : Int).tdiv 8 = (G : Int) ∧ IntKind.i64.wrap (G : Int) = (G : Int) ∧ wrap64 (G : Int) = (G : Int) ∧ IntKind.i64.wrap ((G : Int) * 7) = (G : Int) * 7 ∧ wrap64 ((G : Int) * 7) = (G : Int) * 7) := ⟨by rw [Int.tdiv_eq_ediv_of_nonneg (by omega)]; omega, (wrm (by omega) (by omega)).2, (wrm (by omega) (by omega)).1, (wrm (by omega) (by omega)).2, (wrm (by omega) (by omega)).1⟩
  have hA : Hid (IntKind.i64.wrap ((ad : Int) + 1) = (((ad + 1 : Nat)) : Int) ∧ wrap64 ((ad : Int) + 1) = (((ad + 1 : Nat)) : Int)) := ⟨by rw [IntKind.wrap_i64]; omega, by unfold wrap64; omega⟩
  have hS : Hid (∀ W, Keeps wr W (fun _ => False) → TurnPost w b p l G fs ts (.slice (some ⟨g, o, none⟩) nh hc) hv nh ad f L (.returned (.bool true)) W) := fun W q => ⟨rfl, lv, L, ad, d, f, c, h.stay q, tie, by omega, fun _ _ _ => rfl, id⟩
  have hBs : Hid (∀ W, Keeps wr W (fun _ => False) → BM w W b p l G fs ts (.slice (some ⟨g, o, none⟩) nh hc) lv L ad d f c) := fun W q => h.stay q
  clear ep hK hEl h tie hn hE P hG8 hfew hL hno had hcap
  generalize hsT hv nh (keyT l n) = H at *
  generalize hKn' : keyT l n = K at *
  have hKn := hide hKn'.symm
  clear hKn'
  generalize elemT l E = el at *
  go_enter Tryz.func22, Tryz.ntmps22
  go_wp2_with fail
  refine alloc1 (P := fun W => Calls _ _ _ W _) fun W0 hb hz k0 => ?_
  generalize wr.heap.size = Bo at *
  (with_reducible refine (hKey.out _ k0).mono ?_)
  rintro r w1 ⟨rfl, k1'⟩
  have k1 := k0.trans k1' (fun _ _ e => e)
  have SD : w1.drew.cell? ⟨Bo, 2, none⟩ = some (.int .i64 E) ∧ w1.drew.cell? ⟨b, 2, none⟩ = some (.int .i64 l.e) := ⟨by
    have hb1 := (k1'.drew).blk hb
    simp only [World.cell?, hb1]; rfl, (ben_22 (hB.out _ k1.drew)).2.1⟩
  clear hKey hz
  go_wp2_with fail
  go_region_held3 (fun w' => w'.cell? ⟨Bo, 2, none⟩ = some (.int .i64 E) ∧ w'.cell? ⟨b, 2, none⟩ = some (.int .i64 l.e)) (with_reducible assumption)
    (first | (go_at_call 14; (with_reducible refine (hTe _).mono ?_); rintro r wA ⟨rfl, kA⟩; have SA : wA.cell? ⟨Bo, 2, none⟩ = some (.int .i64 E) ∧ wA.cell? ⟨b, 2, none⟩ = some (.int .i64 l.e) := ⟨keeps_cell kA id SD.1, keeps_cell kA id SD.2⟩))
  have k2 : Keeps wr wA (fun _ => False) := k1.drew.trans kA (fun _ _ e => e)
  obtain ⟨t0, t1, t2, t3, t4, t5, t6, t7, t8, t9, t10⟩ := ben_T (hB.out _ k2)
  obtain ⟨t26, -⟩ := ben_26 (hB.out _ k2)
  clear SD SA kA k1 k1' k0 hb hTe
  go_wp2_with fail
  (with_reducible refine (hPut.out _ k2).mono ?_)
  rintro r w3 (⟨rfl, h7, k3⟩ | ⟨rfl, d', f', c', v, hB3, hT3, hv8, hf3⟩)
  · have k4 := k2.trans k3 (fun _ _ e => e)
    clear t0 t1 t2 t3 t4 t5 t6 t7 t8 t9 t10 t26 hPut
    go_wp2_with fail
    refine (hNum _ _).mono ?_
    rintro r w6 ⟨rfl, hw⟩
    subst hw
    go_wp2_with fail
    (with_reducible refine (hPl.out (hBs.out _ k4)).mono ?_)
    rintro r w4 ⟨rfl, k5⟩
    have k6 := k4.trans k5 (fun _ _ e => e)
    obtain ⟨z26, -⟩ := ben_26 (hB.out _ k6)
    obtain ⟨z22, -, -⟩ := ben_22 (hB.out _ k6)
    obtain ⟨d8, wa, wb, wc, wd⟩ := hW.out
    have h7' : (G : Int) * 7 ≤ (ad : Int) := by omega
    have h7'' : ¬ (ad : Int) < (G : Int) * 7 := by omega
    clear k2 k3 k4 k5 hB hBs hPl hFi h7 hA
    generalize ((8 * G : Nat) : Int) = G8 at *
    go_wp2_with fail
    go_big_quiet (fail)
    all_goals go_wp2_with fail
    all_goals go_ret
    all_goals exact hS.out _ (by first | exact k6 | exact k6.drew | exact k6.drewN _)
  · clear t0 t1 t2 t3 t4 t5 t6 t7 t8 t9 t10 t26 hPut k2 hB hS hBs
    replace hf3 := hide hf3
    replace hT3 := hide hT3
    go_wp2_with fail
    refine (hNum _ _).mono ?_
    rintro r w6 ⟨rfl, hw⟩
    subst hw
    go_wp2_with fail
    (with_reducible refine (hPl.out hB3).mono ?_)
    rintro r w4 ⟨rfl, k4⟩
    have hB4 := hB3.stay k4
    obtain ⟨t0, t1, t2, t3, t4, t5, t6, t7, t8, t9, t10⟩ := ben_T hB4.blk
    clear hB3 k4 hPl
    go_wp2_with fail
    (with_reducible refine (hFi.out hB4 hT3.out).mono ?_)
    rintro r w5 ⟨rfl, k5⟩
    have hB5 := hB4.stay k5
    obtain ⟨gn, cn, w7, hap, hb7, hB7⟩ := hB5.more ⟨K, el, H, (ad : Int), (v : Int)⟩ (by have := HL.out; omega)
    have hB8 := hB7.put26 (ad + 1)
    obtain ⟨z25, -⟩ := ben_25 hB5.blk
    obtain ⟨y25, y25f⟩ := ben_25 hb7
    obtain ⟨x26, x26f⟩ := ben_26 hB7.blk
    obtain ⟨x22, -, -⟩ := ben_22 hB8.blk
    have hfin : Hid (TurnPost w b p l G fs ts (.slice (some ⟨g, o, none⟩) nh hc) hv nh ad f L (.returned (.bool true)) ((w7.setCell ⟨b, 25, none⟩ (.slice (some ⟨gn, 0, none⟩) (L.length + 1) cn)).setCell ⟨b, 26, none⟩ (.int .i64 (((ad + 1 : Nat)) : Int)))) := ⟨rfl, _, _, ad + 1, d', f', c', hB8, hT3.out, by omega, hf3.out, keyed_more hKn.out⟩
    have hvl : (v : Int) < ((8 * G : Nat) : Int) := by omega
    have hv0 : (0 : Int) ≤ (v : Int) := by omega
    have hv1 : ¬ (v : Int) < 0 := by omega
    obtain ⟨wa, wb⟩ := hA.out
    subst hlv
    clear t0 t1 t2 t3 t4 t5 t6 t7 t8 t9 t10 hB4 hB5 k5 hFi hT3 hf3 hB7 hB8 hb7 hv8 hW hA
    generalize (((ad + 1 : Nat)) : Int) = ad1 at *
    generalize ((8 * G : Nat) : Int) = G8 at *
    dsimp only at hap
    go_wp2_with (first | (at_builtin; have _t := hap; refine app_run8 _ rfl (.tmp 96) (.tmp 103) 55 rfl rfl rfl hap ?_; clear hap))
    all_goals
      refine (hNum _ _).mono ?_
      rintro r w9 ⟨rfl, hw⟩
      subst hw
      go_wp2_with fail
      go_ret
      exact hfin.out
theorem puts_any (h : BM w wr b p l G fs ts (.slice (some ⟨g, o, none⟩) nh hc) lv L ad d f c) (P : PlanAt w l G j g o nh hv) (tie : LTie c G f (hsT hv nh) L ad) (had : ad ≤ 9000000000000000000) (kd n E : Int) (hn : fitsI n) (hE : fitsI E) :
    Calls Tryz.prog 22 #[.pointer (some ⟨b, 0, none⟩), .agg #[.int .i64 kd, .int .i64 n, .int .i64 E]] wr fun e w' => TurnPost w b p l G fs ts (.slice (some ⟨g, o, none⟩) nh hc) hv nh ad f L e w' := by
  rcases placeL_spec (keyT l n) L 0 with ⟨-, q⟩ | ⟨i, hi, q1, q2⟩
  · exact puts_no h P tie had kd n E hn hE q
  · exact puts_old h P tie had kd n E hn hE hi q2 (by rw [q1]; simp)
end
end Bx
end Go.Proofs.YtmdnknbolgedgaaGreatDoor
