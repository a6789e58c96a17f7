import Derived.Deep.RegionHeld3
import Derived.Test.YtmdnknbolgedgaaGreatDoorRows
import Derived.ProofKit
import Derived.LaidMore
import Derived.OpenShut
import Derived.Stop.Joined
import Derived.Lib.LaidTab
import Derived.Deep.Slices
import Derived.Deep.SlicePairs
import Derived.Lib.SmallJoins
import Derived.ChangeOld
import Derived.SizedLaws
import Derived.Test.YtmdnknbolgedgaaGreatDoorUn18
/-
  The law's puts (made by gen11.py).
-/
namespace Go.Proofs.YtmdnknbolgedgaaGreatDoor
open Go.RowKit Go.Shelf Ly Ct
set_option linter.unusedVariables false

section
variable {w wr : World} {b p : Nat} {l : Lay} {G j g o nh hc : Nat} {hv : Nat → Nat} {fs ts lv : Value} {L : List LifeD} {ad : Nat} {d : AD} {f : Nat → Int} {c : Nat → GC}
set_option maxRecDepth 100000 in
set_option maxHeartbeats 8000000 in
theorem puts_old (h : BM w wr b p l G fs ts (.slice (some ⟨g, o, none⟩) nh hc) lv L ad d f c) (P : PlanAt w l G j g o nh hv) (tie : LTie c G f (hsT hv nh) L ad) (had : ad ≤ 9000000000000000000) (kd n E : Int) (hn : fitsI n) (hE : fitsI E) {i : Nat} (hi : i < L.length) (hk : L[i].key = keyT l n) (hp : placeL (keyT l n) L 0 = (i : Int)) :
    Calls Tryz.prog 22 #[.pointer (some ⟨b, 0, none⟩), .agg #[.int .i64 kd, .int .i64 n, .int .i64 E]] wr fun e w' => TurnPost w b p l G fs ts (.slice (some ⟨g, o, none⟩) nh hc) hv nh ad f L e w' := by
  have hG8 := P.le
  have hfew := tie.few
  have hK := keyT_size h.tab.valid n
  have hEl := elemT_size h.tab.valid E
  have hKey : Hid (∀ W, Keeps wr W (fun _ => False) → _) := fun W q => bm_key (h.stay q) P n hn
  have hTe := fun W => bm_elem h.tab.valid E hE W
  have hB : Hid (∀ W, Keeps wr W (fun _ => False) → W.heap[b]? = some (.cells (benC p l 16 fs ((8 * G : Nat) : Int) (.slice (some ⟨g, o, none⟩) nh hc) ts lv (ad : Int)) 57)) := fun W q => q.blk h.blk
  have hNum := fun x W => num8_any x W
  obtain ⟨a, cap, hlv, hL, hcap⟩ := h.lives
  have HL : Hid (L.length ≤ 1024) := by show L.length ≤ 1024; omega
  have hPut : Hid (∀ W, Keeps wr W (fun _ => False) → _) := fun W q => bm_put_old (h.stay q) P tie hK hEl ad (by omega) hi hk
  have hlt' : (i : Int) < (L.length : Int) := by omega
  have hi0 : ¬ (i : Int) < 0 := by omega
  have hi1 : (0 : Int) ≤ (i : Int) := by omega
  have hRow : Hid (∃ gl, a = some ⟨gl, 0, none⟩) := by
    rcases h.row.2 with ⟨e, e0⟩ | ⟨gl, cap', cur, e, -⟩
    · omega
    · rw [e] at hlv
      cases hlv
      exact ⟨gl, rfl⟩
  clear hK hEl h tie hn hE P hG8 hfew hL hk had
  subst hlv
  have hPl : Hid (∀ {W d f c}, BM w W b p l G fs ts (.slice (some ⟨g, o, none⟩) nh hc) (.slice a L.length cap) L ad d f c → Calls Tryz.prog 50 #[.pointer (some ⟨b, 0, none⟩), .string (keyT l n)] W fun e w' => e = .returned (.int .i64 (i : Int)) ∧ Keeps W w' (fun _ => False)) := fun {W d f c} hh => by
    have := bm_place hh (by have := HL.out; omega) (keyT l n)
    rw [hp] at this
    exact this
  clear hp
  generalize hsT hv nh (keyT l n) = H at *
  generalize keyT l n = K at *
  generalize elemT l E = el at *
  obtain ⟨gl, rfl⟩ := hRow.out
  clear hRow
  go_enter Tryz.func22, Tryz.ntmps22
  go_wp2_with fail
  refine alloc1 (P := fun W => Calls _ _ _ W _) fun W0 hb hz k0 => ?_
  generalize wr.heap.size = Bo at *
  (with_reducible refine (hKey.out _ k0).mono ?_)
  rintro r w1 ⟨rfl, k1'⟩
  have k1 := k0.trans k1' (fun _ _ e => e)
  have SD : w1.drew.cell? ⟨Bo, 2, none⟩ = some (.int .i64 E) ∧ w1.drew.cell? ⟨b, 2, none⟩ = some (.int .i64 l.e) := ⟨by
    have hb1 := (k1'.drew).blk hb
    simp only [World.cell?, hb1]; rfl, (ben_22 (hB.out _ k1.drew)).2.1⟩
  clear hKey hz
  go_wp2_with fail
  go_region_held3 (fun w' => w'.cell? ⟨Bo, 2, none⟩ = some (.int .i64 E) ∧ w'.cell? ⟨b, 2, none⟩ = some (.int .i64 l.e)) (with_reducible assumption)
    (first | (go_at_call 14; (with_reducible refine (hTe _).mono ?_); rintro r wA ⟨rfl, kA⟩; have SA : wA.cell? ⟨Bo, 2, none⟩ = some (.int .i64 E) ∧ wA.cell? ⟨b, 2, none⟩ = some (.int .i64 l.e) := ⟨keeps_cell kA id SD.1, keeps_cell kA id SD.2⟩))
  have k2 : Keeps wr wA (fun _ => False) := k1.drew.trans kA (fun _ _ e => e)
  obtain ⟨t0, t1, t2, t3, t4, t5, t6, t7, t8, t9, t10⟩ := ben_T (hB.out _ k2)
  obtain ⟨t26, -⟩ := ben_26 (hB.out _ k2)
  clear SD SA kA k1 k1' k0 hb hTe
  go_wp2_with fail
  (with_reducible refine (hPut.out _ k2).mono ?_)
  rintro r w3 ⟨rfl, d', c', hB3, hT3⟩
  clear t0 t1 t2 t3 t4 t5 t6 t7 t8 t9 t10 t26 k2 hPut hB
  go_wp2_with fail
  refine (hNum _ _).mono ?_
  rintro r w6 ⟨rfl, hw⟩
  subst hw
  go_wp2_with fail
  (with_reducible refine (hPl.out hB3).mono ?_)
  rintro r w4 ⟨rfl, k4⟩
  have hB4 := hB3.stay k4
  obtain ⟨-, hB5⟩ := hB4.putE rfl hi el
  obtain ⟨z25, -⟩ := ben_25 hB4.blk
  obtain ⟨c0, c1, c2, c3, c4⟩ := lifeC_get L i hi
  have y1 : w4.cell? ⟨gl, i * 5 + 1, none⟩ = some (.string L[i].elem) := (hB4.row.cellAt _ (by omega)).trans c1
  have y2 := hB4.row.frozenAt (i * 5 + 1)
  have hfin : Hid (TurnPost w b p l G fs ts (.slice (some ⟨g, o, none⟩) nh hc) hv nh ad f L (.returned (.bool true)) (w4.setCell ⟨gl, i * 5 + 1, none⟩ (.string el))) := ⟨rfl, _, _, ad, d', f, c', hB5, hT3, by omega, fun _ _ _ => rfl, keyed_set hi⟩
  clear hB3 hB4 hB5 hT3 k4 hPl c0 c1 c2 c3 c4
  generalize L[i].elem = yE at *
  go_wp2_with fail
  go_ret
  exact hfin.out
set_option maxRecDepth 100000 in
set_option maxHeartbeats 8000000 in
theorem puts_no (h : BM w wr b p l G fs ts (.slice (some ⟨g, o, none⟩) nh hc) lv L ad d f c) (P : PlanAt w l G j g o nh hv) (tie : LTie c G f (hsT hv nh) L ad) (had : ad ≤ 9000000000000000000) (kd n E : Int) (hn : fitsI n) (hE : fitsI E) (hno : ∀ x, x ∈ L → x.key ≠ keyT l n) :
    Calls Tryz.prog 22 #[.pointer (some ⟨b, 0, none⟩), .agg #[.int .i64 kd, .int .i64 n, .int .i64 E]] wr fun e w' => TurnPost w b p l G fs ts (.slice (some ⟨g, o, none⟩) nh hc) hv nh ad f L e w' := by
  have hG8 := P.le
  have hfew := tie.few
  have hK := keyT_size h.tab.valid n
  have hEl := elemT_size h.tab.valid E
  have hKey : Hid (∀ W, Keeps wr W (fun _ => False) → _) := fun W q => bm_key (h.stay q) P n hn
  have hTe := fun W => bm_elem h.tab.valid E hE W
  have hB : Hid (∀ W, Keeps wr W (fun _ => False) → W.heap[b]? = some (.cells (benC p l 16 fs ((8 * G : Nat) : Int) (.slice (some ⟨g, o, none⟩) nh hc) ts lv (ad : Int)) 57)) := fun W q => q.blk h.blk
  have hNum := fun x W => num8_any x W
  obtain ⟨a, cap, hlv, hL, hcap⟩ := h.lives
  have HL : Hid (L.length ≤ 1024) := by show L.length ≤ 1024; omega
  have hPut : Hid (∀ W, Keeps wr W (fun _ => False) → _) := fun W q => bm_put_no (h.stay q) P tie hK hEl ad (by omega) hno
  have hFi : Hid (∀ {W : World} {d : AD} {f : Nat → Int} {c : Nat → GC} {v : Nat}, BM w W b p l G fs ts (.slice (some ⟨g, o, none⟩) nh hc) lv L ad d f c → LTie c G f (hsT hv nh) (L ++ [⟨keyT l n, elemT l E, hsT hv nh (keyT l n), (ad : Int), ((v : Nat) : Int)⟩]) (ad + 1) → Calls Tryz.prog 16 #[.agg #[.pointer (some ⟨p, 0, none⟩), .int .i64 l.k, .int .i64 l.e, .int .i64 l.a, .int .i64 l.b, .int .i64 l.c, .int .i64 l.eo, .int .i64 l.bo, .int .i64 l.s, .int .i64 l.g, .int .i64 (16 : Int)], .int .u64 ((hsT hv nh (keyT l n) : Nat) : Int), .string (keyT l n)] W fun e w' => e = .returned (.tuple #[.int .i64 (v : Int), .int .i64 0]) ∧ Keeps W w' (fun _ => False)) := fun {W d f c v} hh ht => by
    have := bm_find_yes hh P ht hK (i := L.length) (by simp) (by simp)
    simpa using this
  have ep : placeL (keyT l n) L 0 = -1 := by
    rcases placeL_spec (keyT l n) L 0 with q | ⟨i, hi, q1, q2⟩
    · exact q.1
    · exact absurd q2 (hno _ (List.getElem_mem hi))
  have hPl : Hid (∀ {W d f c}, BM w W b p l G fs ts (.slice (some ⟨g, o, none⟩) nh hc) lv L ad d f c → Calls Tryz.prog 50 #[.pointer (some ⟨b, 0, none⟩), .string (keyT l n)] W fun e w' => e = .returned (.int .i64 (-1)) ∧ Keeps W w' (fun _ => False)) := fun {W d f c} hh => by
    have := bm_place hh (by have := HL.out; omega) (keyT l n)
    rw [ep] at this
    exact this
  have hW : Hid (((8 * G : Nat) : Int).tdiv 8 = (G : Int) ∧ IntKind.i64.wrap (G : Int) = (G : Int) ∧ wrap64 (G : Int) = (G : Int) ∧ IntKind.i64.wrap ((G : Int) * 7) = (G : Int) * 7 ∧ wrap64 ((G : Int) * 7) = (G : Int) * 7) := ⟨by rw [Int.tdiv_eq_ediv_of_nonneg (by omega)]; omega, (wrm (by omega) (by omega)).2, (wrm (by omega) (by omega)).1, (wrm (by omega) (by omega)).2, (wrm (by omega) (by omega)).1⟩
  have hA : Hid (IntKind.i64.wrap ((ad : Int) + 1) = (((ad + 1 : Nat)) : Int) ∧ wrap64 ((ad : Int) + 1) = (((ad + 1 : Nat)) : Int)) := ⟨by rw [IntKind.wrap_i64]; omega, by unfold wrap64; omega⟩
  have hS : Hid (∀ W, Keeps wr W (fun _ => False) → TurnPost w b p l G fs ts (.slice (some ⟨g, o, none⟩) nh hc) hv nh ad f L (.returned (.bool true)) W) := fun W q => ⟨rfl, lv, L, ad, d, f, c, h.stay q, tie, by omega, fun _ _ _ => rfl, id⟩
  have hBs : Hid (∀ W, Keeps wr W (fun _ => False) → BM w W b p l G fs ts (.slice (some ⟨g, o, none⟩) nh hc) lv L ad d f c) := fun W q => h.stay q
  clear ep hK hEl h tie hn hE P hG8 hfew hL hno had hcap
  generalize hsT hv nh (keyT l n) = H at *
  generalize hKn' : keyT l n = K at *
  have hKn := hide hKn'.symm
  clear hKn'
  generalize elemT l E = el at *
  go_enter Tryz.func22, Tryz.ntmps22
  go_wp2_with fail
  refine alloc1 (P := fun W => Calls _ _ _ W _) fun W0 hb hz k0 => ?_
  generalize wr.heap.size = Bo at *
  (with_reducible refine (hKey.out _ k0).mono ?_)
  rintro r w1 ⟨rfl, k1'⟩
  have k1 := k0.trans k1' (fun _ _ e => e)
  have SD : w1.drew.cell? ⟨Bo, 2, none⟩ = some (.int .i64 E) ∧ w1.drew.cell? ⟨b, 2, none⟩ = some (.int .i64 l.e) := ⟨by
    have hb1 := (k1'.drew).blk hb
    simp only [World.cell?, hb1]; rfl, (ben_22 (hB.out _ k1.drew)).2.1⟩
  clear hKey hz
  go_wp2_with fail
  go_region_held3 (fun w' => w'.cell? ⟨Bo, 2, none⟩ = some (.int .i64 E) ∧ w'.cell? ⟨b, 2, none⟩ = some (.int .i64 l.e)) (with_reducible assumption)
    (first | (go_at_call 14; (with_reducible refine (hTe _).mono ?_); rintro r wA ⟨rfl, kA⟩; have SA : wA.cell? ⟨Bo, 2, none⟩ = some (.int .i64 E) ∧ wA.cell? ⟨b, 2, none⟩ = some (.int .i64 l.e) := ⟨keeps_cell kA id SD.1, keeps_cell kA id SD.2⟩))
  have k2 : Keeps wr wA (fun _ => False) := k1.drew.trans kA (fun _ _ e => e)
  obtain ⟨t0, t1, t2, t3, t4, t5, t6, t7, t8, t9, t10⟩ := ben_T (hB.out _ k2)
  obtain ⟨t26, -⟩ := ben_26 (hB.out _ k2)
  clear SD SA kA k1 k1' k0 hb hTe
  go_wp2_with fail
  (with_reducible refine (hPut.out _ k2).mono ?_)
  rintro r w3 (⟨rfl, h7, k3⟩ | ⟨rfl, d', f', c', v, hB3, hT3, hv8, hf3⟩)
  · have k4 := k2.trans k3 (fun _ _ e => e)
    clear t0 t1 t2 t3 t4 t5 t6 t7 t8 t9 t10 t26 hPut
    go_wp2_with fail
    refine (hNum _ _).mono ?_
    rintro r w6 ⟨rfl, hw⟩
    subst hw
    go_wp2_with fail
    (with_reducible refine (hPl.out (hBs.out _ k4)).mono ?_)
    rintro r w4 ⟨rfl, k5⟩
    have k6 := k4.trans k5 (fun _ _ e => e)
    obtain ⟨z26, -⟩ := ben_26 (hB.out _ k6)
    obtain ⟨z22, -, -⟩ := ben_22 (hB.out _ k6)
    obtain ⟨d8, wa, wb, wc, wd⟩ := hW.out
    have h7' : (G : Int) * 7 ≤ (ad : Int) := by omega
    have h7'' : ¬ (ad : Int) < (G : Int) * 7 := by omega
    clear k2 k3 k4 k5 hB hBs hPl hFi h7 hA
    generalize ((8 * G : Nat) : Int) = G8 at *
    go_wp2_with fail
    go_big_quiet (fail)
    all_goals go_wp2_with fail
    all_goals go_ret
    all_goals exact hS.out _ (by first | exact k6 | exact k6.drew | exact k6.drewN _)
  · clear t0 t1 t2 t3 t4 t5 t6 t7 t8 t9 t10 t26 hPut k2 hB hS hBs
    replace hf3 := hide hf3
    replace hT3 := hide hT3
    go_wp2_with fail
    refine (hNum _ _).mono ?_
    rintro r w6 ⟨rfl, hw⟩
    subst hw
    go_wp2_with fail
    (with_reducible refine (hPl.out hB3).mono ?_)
    rintro r w4 ⟨rfl, k4⟩
    have hB4 := hB3.stay k4
    obtain ⟨t0, t1, t2, t3, t4, t5, t6, t7, t8, t9, t10⟩ := ben_T hB4.blk
    clear hB3 k4 hPl
    go_wp2_with fail
    (with_reducible refine (hFi.out hB4 hT3.out).mono ?_)
    rintro r w5 ⟨rfl, k5⟩
    have hB5 := hB4.stay k5
    obtain ⟨gn, cn, w7, hap, hb7, hB7⟩ := hB5.more ⟨K, el, H, (ad : Int), (v : Int)⟩ (by have := HL.out; omega)
    have hB8 := hB7.put26 (ad + 1)
    obtain ⟨z25, -⟩ := ben_25 hB5.blk
    obtain ⟨y25, y25f⟩ := ben_25 hb7
    obtain ⟨x26, x26f⟩ := ben_26 hB7.blk
    obtain ⟨x22, -, -⟩ := ben_22 hB8.blk
    have hfin : Hid (TurnPost w b p l G fs ts (.slice (some ⟨g, o, none⟩) nh hc) hv nh ad f L (.returned (.bool true)) ((w7.setCell ⟨b, 25, none⟩ (.slice (some ⟨gn, 0, none⟩) (L.length + 1) cn)).setCell ⟨b, 26, none⟩ (.int .i64 (((ad + 1 : Nat)) : Int)))) := ⟨rfl, _, _, ad + 1, d', f', c', hB8, hT3.out, by omega, hf3.out, keyed_more hKn.out⟩
    have hvl : (v : Int) < ((8 * G : Nat) : Int) := by omega
    have hv0 : (0 : Int) ≤ (v : Int) := by omega
    have hv1 : ¬ (v : Int) < 0 := by omega
    obtain ⟨wa, wb⟩ := hA.out
    subst hlv
    clear t0 t1 t2 t3 t4 t5 t6 t7 t8 t9 t10 hB4 hB5 k5 hFi hT3 hf3 hB7 hB8 hb7 hv8 hW hA
    generalize (((ad + 1 : Nat)) : Int) = ad1 at *
    generalize ((8 * G : Nat) : Int) = G8 at *
    dsimp only at hap
    go_wp2_with (first | (at_builtin; have _t := hap; refine app_run8 _ rfl (.tmp 96) (.tmp 103) 55 rfl rfl rfl hap ?_; clear hap))
    all_goals
      refine (hNum _ _).mono ?_
      rintro r w9 ⟨rfl, hw⟩
      subst hw
      go_wp2_with fail
      go_ret
      exact hfin.out
theorem puts_any (h : BM w wr b p l G fs ts (.slice (some ⟨g, o, none⟩) nh hc) lv L ad d f c) (P : PlanAt w l G j g o nh hv) (tie : LTie c G f (hsT hv nh) L ad) (had : ad ≤ 9000000000000000000) (kd n E : Int) (hn : fitsI n) (hE : fitsI E) :
    Calls Tryz.prog 22 #[.pointer (some ⟨b, 0, none⟩), .agg #[.int .i64 kd, .int .i64 n, .int .i64 E]] wr fun e w' => TurnPost w b p l G fs ts (.slice (some ⟨g, o, none⟩) nh hc) hv nh ad f L e w' := by
  rcases placeL_spec (keyT l n) L 0 with ⟨-, q⟩ | ⟨i, hi, q1, q2⟩
  · exact puts_no h P tie had kd n E hn hE q
  · exact puts_old h P tie had kd n E hn hE hi q2 (by rw [q1]; simp)
end
end Go.Proofs.YtmdnknbolgedgaaGreatDoor
/-
  What the given condition on the table of math/bits tells.
-/
namespace Go.Proofs.YtmdnknbolgedgaaGreatDoor
open Go.ChangeShapes Go.WideShapes Go.ChangeAt Go.WideMaps Go.WideElems Go.RowKit Ct

theorem own : ownKnob Tryz.prog.godebug = none := by kernel_rfl
theorem laidOut : laidOutB Tryz.prog = true := by kernel_rfl
theorem gTab : Tryz.prog.globalNamed "math/bits.deBruijn64tab" = some 0 := by kernel_rfl
theorem tTab : (Tryz.prog.globals[0]?).map (·.type) = some 208 := by kernel_rfl
theorem listed : (Rows.laid_math_bits_deBruijn64tab : DataW Unit) = Lib.tabData .u8 (tabL.map fun n : Nat => (n : Int)) := rfl

def laidO : List (String × DataW Unit) := [("math/bits.deBruijn64tab", Rows.laid_math_bits_deBruijn64tab)]
theorem door_met (os : Os) (args : Array Value) : laidMetH Tryz.prog laidO ((World.doorLaid Tryz.prog 400 os).forCall (fun _ _ => 0) ⟨#[], args, []⟩).memory :=
  laidMetH_of_parts3 (fuel := 8) (laidMet_of_run' 8 (by kernel_rfl) (by kernel_rfl)) (by kernel_rfl) (by kernel_rfl)

theorem of_laid {W : World} (h : laidMetH Tryz.prog laidO W) : TabAt W := by
  rw [MakeChecks.laidMetH_plain _ _ _ (by kernel_rfl)] at h
  have h2 : laidMet Tryz.prog (("math/bits.deBruijn64tab", Lib.tabData .u8 (tabL.map fun n : Nat => (n : Int))) :: []) W := h
  have t := Lib.tabIs_of_head gTab tTab Tryz.underlying208 Tryz.underlying5 (by kernel_rfl) (by kernel_rfl) h2
  intro k hk
  have e := t.cell gTab k (by rw [List.length_map]; exact hk)
  rw [e]
  congr 2
  have : (tabL.map fun n : Nat => (n : Int)).getD k 0 = ((tabL.getD k 0 : Nat) : Int) := by
    simp [List.getD]
    cases tabL[k]? <;> rfl
  exact this
end Go.Proofs.YtmdnknbolgedgaaGreatDoor
/-
  What came in for TablePiles: a Pile.
-/
namespace Go.Proofs.YtmdnknbolgedgaaGreatDoor
open Go.ChangeShapes Go.WideShapes Go.ChangeAt Go.WideMaps Go.WideElems Go.RowKit Ly Ct
set_option linter.unusedVariables false
set_option maxRecDepth 100000

theorem array4 {α : Type} {cs : Array α} (h : cs.size = 4) : ∃ c0 c1 c2 c3, cs = #[c0, c1, c2, c3] := by
  obtain ⟨l⟩ := cs
  match l, h with
  | [c0, c1, c2, c3], _ => exact ⟨c0, c1, c2, c3, rfl⟩
theorem plain_cell {w : World} {a : Addr} {v : Value} (h : w.cell? (a.add 0) = some v) : ∃ bb oo, a = ⟨bb, oo, none⟩ ∧ bb < w.heap.size := by
  obtain ⟨bb, oo, sp⟩ := a
  have h' : w.cell? ⟨bb, oo, sp⟩ = some v := h
  have hlt : bb < w.heap.size := by
    rcases Nat.lt_or_ge bb w.heap.size with h1 | h1
    · exact h1
    · simp [World.cell?, Array.getElem?_eq_none h1] at h'
  cases sp with
  | none => exact ⟨bb, oo, rfl, hlt⟩
  | some s =>
    exfalso
    unfold World.cell? at h'
    split at h' <;> simp at h'
/-- A list of five numbers lies there. -/
def Five (w : World) (a : Option Addr) : Prop := ∃ (g o : Nat) (k e x b c : Int), a = some ⟨g, o, none⟩ ∧ w.cell? ⟨g, o, none⟩ = some (.int .i64 k) ∧ w.cell? ⟨g, o + 1, none⟩ = some (.int .i64 e) ∧ w.cell? ⟨g, o + 2, none⟩ = some (.int .i64 x) ∧ w.cell? ⟨g, o + 3, none⟩ = some (.int .i64 b) ∧ w.cell? ⟨g, o + 4, none⟩ = some (.int .i64 c)
section
variable {H : Type} {enc : TypeId × Value → H} {w : World} {held : Bool}
theorem fields_open {n : Nat} {v0 : Value} {x : DataW H × List MemPlace} (h : DataW.trod enc Tryz.prog w 0 (fun _ => true) held n 22 [v0] = some x) :
    ∃ (a : Option Addr) (len cap : Nat), v0 = .slice a len cap ∧ (len = 5 → Five w a) := by
  rcases Go.Deep.open_slice1 Tryz.underlying22 (by kernel_rfl) h with ⟨hcs, _⟩ | ⟨a, len, cap, m, n', V, D, Pl, hcs, _, hl, hm, hmm, hy, hx⟩
  · simp at hcs
    exact ⟨none, 0, 0, hcs, fun e => by omega⟩
  · simp at hcs
    have hmc : m = cap := by simpa using hmm
    subst hmc
    refine ⟨some a, len, m, hcs, fun e => ?_⟩
    have hc : ∀ i, i < len → ∃ z : Int, w.cell? (a.add i) = some (.int .i64 z) := fun i hi => by
      obtain ⟨g1, g2⟩ := hx i (by omega)
      obtain ⟨z, e, _, hw⟩ := DataW.trod_int Tryz.underlying3 g2
      simp at e
      exact ⟨z, by rw [g1, e]⟩
    obtain ⟨z0, h0⟩ := hc 0 (by omega)
    obtain ⟨z1, h1⟩ := hc 1 (by omega)
    obtain ⟨z2, h2⟩ := hc 2 (by omega)
    obtain ⟨z3, h3⟩ := hc 3 (by omega)
    obtain ⟨z4, h4⟩ := hc 4 (by omega)
    obtain ⟨g, o, rfl, _⟩ := plain_cell h0
    exact ⟨g, o, z0, z1, z2, z3, z4, rfl, h0, h1, h2, h3, h4⟩

theorem open_pile {r : Reach} {b0 : Nat} {v : Value} {d : DataW H} {q : List MemPlace} (hv : Value.okWide Tryz.prog w r b0 25 v) (h : DataW.Trod enc Tryz.prog w 0 (fun _ => true) held 25 v d q) :
    ∃ (a : Option Addr) (len cap : Nat) (S N U : Int), v = .agg #[.slice a len cap, .int .i64 S, .int .i64 N, .int .u64 U] ∧ (len = 5 → Five w a) ∧ (Lit.int .u64 U).wf = true := by
  obtain ⟨cs, rfl, hsz⟩ := okWide_struct Tryz.underlying25 hv
  obtain ⟨c0, c1, c2, c3, rfl⟩ := array4 (hsz.trans (by kernel_rfl))
  obtain ⟨fuel, hf0⟩ := h
  have hf1 : DataW.trod enc Tryz.prog w 0 (fun _ => true) held fuel 25 [c0, c1, c2, c3] = some (d, q) := by simpa [Value.cells] using hf0
  obtain ⟨xs, m, _, hx, hl, hlen, hf⟩ := DataW.trod_struct Tryz.underlying25 hf1
  have hlen4 : xs.length = 4 := hlen
  have c3' : Tryz.prog.cellsOf 3 = 1 := by kernel_rfl
  have cI : Tryz.prog.cellsOf 22 = 1 := by kernel_rfl
  have cU : Tryz.prog.cellsOf 23 = 1 := by kernel_rfl
  match xs, hlen4 with
  | [y0, y1, y2, y3], _ =>
    have f0 : DataW.trod enc Tryz.prog w 0 (fun _ => true) held m 22 (([c0, c1, c2, c3].drop 0).take (Tryz.prog.cellsOf 22)) = some y0 := hf 0 _ rfl
    have f1 : DataW.trod enc Tryz.prog w 0 (fun _ => true) held m 3 (([c0, c1, c2, c3].drop 1).take (Tryz.prog.cellsOf 3)) = some y1 := hf 1 _ rfl
    have f2 : DataW.trod enc Tryz.prog w 0 (fun _ => true) held m 3 (([c0, c1, c2, c3].drop 2).take (Tryz.prog.cellsOf 3)) = some y2 := hf 2 _ rfl
    have f3 : DataW.trod enc Tryz.prog w 0 (fun _ => true) held m 23 (([c0, c1, c2, c3].drop 3).take (Tryz.prog.cellsOf 23)) = some y3 := hf 3 _ rfl
    rw [cI] at f0
    rw [c3'] at f1 f2
    rw [cU] at f3
    obtain ⟨a, len, cap, e0, h5⟩ := fields_open f0
    obtain ⟨k1, e1, q1, w1⟩ := DataW.trod_int Tryz.underlying3 f1
    obtain ⟨k2, e2, q2, w2⟩ := DataW.trod_int Tryz.underlying3 f2
    obtain ⟨k3, e3, q3, w3⟩ := DataW.trod_int Tryz.underlying23 f3
    simp at e1 e2 e3
    exact ⟨a, len, cap, k1, k2, k3, by rw [e0, e1, e2, e3], h5, w3⟩
end
/-- The reference's Parse of what came in. -/
theorem parse_in {w : World} {a : Option Addr} {len cap : Nat} (h : len = 5 → Five w a) : ∃ (l : Lay) (E : Int), (E = 0 → validB l = true) ∧ ∀ W, Keeps w W (fun _ => False) → Calls Tryz.prog 9 #[.slice a len cap] W fun r w' => r = .returned (.tuple #[l.val, .int .i64 E]) ∧ Keeps W w' (fun _ => False) := by
  by_cases h5 : len = 5
  · obtain ⟨g, o, k, e, x, b, c, rfl, h0, h1, h2, h3, h4⟩ := h h5
    subst h5
    refine ⟨(Ly.parseD [k, e, x, b, c]).1, (Ly.parseD [k, e, x, b, c]).2, fun hE => ?_, fun W q => ?_⟩
    · by_cases hN : Ly.errN k e x b c = 0
      · have hP : Ly.parseD [k, e, x, b, c] = (Ly.laidD k e x b c, 0) := if_pos hN
        rw [hP]
        exact decide_eq_true ⟨hN, rfl⟩
      · have hP : Ly.parseD [k, e, x, b, c] = (Ly.Lay.zero, Ly.errN k e x b c) := if_neg hN
        rw [hP] at hE
        exact absurd hE hN
    · have hc : ∀ j v, w.cell? ⟨g, j, none⟩ = some v → W.cell? ⟨g, j, none⟩ = some v := fun j v hj => keeps_cell q id hj
      refine (Ly.ref_parse_five g o cap k e x b c W (hc _ _ h0) (hc _ _ h1) (hc _ _ h2) (hc _ _ h3) (hc _ _ h4)).mono ?_
      rintro r w' ⟨rfl, kp⟩
      exact ⟨rfl, Keeps.ofKp kp⟩
  · refine ⟨Ly.Lay.zero, 30, fun hE => by omega, fun W q => ?_⟩
    refine (Ly.ref_parse_wrong a len cap W h5).mono ?_
    rintro r w' ⟨rfl, kp⟩
    exact ⟨rfl, Keeps.ofKp kp⟩
end Go.Proofs.YtmdnknbolgedgaaGreatDoor
/-
  What came in for the statements over a Plan.
-/
namespace Go.Proofs.YtmdnknbolgedgaaGreatDoor
open Go.ChangeShapes Go.WideShapes Go.ChangeAt Go.WideMaps Go.WideElems Go.RowKit Ly Ct
set_option linter.unusedVariables false
set_option maxRecDepth 100000

/-- A row of turns: kind, key, elem. -/
def TurnsIn (w : World) (a : Option Addr) (ss : List (Int × Int × Int)) : Prop := ss = [] ∨ ∃ b o, a = some ⟨b, o, none⟩ ∧ ∀ i (h : i < ss.length), w.cell? ⟨b, o + i * 3, none⟩ = some (.int .i64 ss[i].1) ∧ w.cell? ⟨b, o + i * 3 + 1, none⟩ = some (.int .i64 ss[i].2.1) ∧ w.cell? ⟨b, o + i * 3 + 2, none⟩ = some (.int .i64 ss[i].2.2)
/-- A row of hashes. -/
def HashIn (w : World) (a : Option Addr) (n : Nat) (hv : Nat → Nat) : Prop := 0 < n → ∃ g o, a = some ⟨g, o, none⟩ ∧ ∀ i, i < n → w.cell? ⟨g, o + i, none⟩ = some (.int .u64 ((hv i : Nat) : Int))
section
variable {H : Type} {enc : TypeId × Value → H} {w : World} {held : Bool}
theorem hashes_open {n : Nat} {v0 : Value} {x : DataW H × List MemPlace} (h : DataW.trod enc Tryz.prog w 0 (fun _ => true) held n 49 [v0] = some x) (hw : ∀ k ∈ x.1.weights Tryz.prog 49, k ≤ reachBytes) :
    ∃ (a : Option Addr) (len cap : Nat) (hv : Nat → Nat), v0 = .slice a len cap ∧ len ≤ 17592186044000 ∧ (∀ i, hv i < 18446744073709551616) ∧ HashIn w a len hv := by
  rcases Go.Deep.open_slice1 Tryz.underlying49 (by kernel_rfl) h with ⟨hcs, _⟩ | ⟨a, len, cap, m, n', V, D, Pl, hcs, _, hl, hm, hmm, hy, hx⟩
  · simp at hcs
    exact ⟨none, 0, 0, fun _ => 0, hcs, by omega, fun _ => Nat.zero_lt_succ _, fun e => by omega⟩
  · simp at hcs
    have hmc : m = cap := by simpa using hmm
    subst hmc
    subst hy
    have h47 : reachBytes = 140737488351232 := by decide
    have hby : Tryz.prog.bytesOf 23 = 8 := by kernel_rfl
    have hlen : len ≤ 17592186044000 := by
      have := hw (((List.map D (List.range len)).length + (List.map D ((List.range m).drop len)).length) * Tryz.prog.bytesOf 23) (by simp [DataW.weights, Tryz.underlying49])
      rw [hby, List.length_map, List.length_range] at this
      have h2 := Nat.le_trans (Nat.mul_le_mul_right 8 (Nat.le_add_right len _)) this
      omega
    obtain ⟨f, hf⟩ := Go.Deep.choose_lt (α := Nat) (n := len) (p := fun i x => w.cell? (a.add i) = some (.int .u64 (x : Int)) ∧ x < 18446744073709551616) (fun i hi => by
      obtain ⟨g1, g2⟩ := hx i (by omega)
      obtain ⟨x, e, _, hw⟩ := DataW.trod_int Tryz.underlying23 g2
      simp at e
      obtain ⟨y, rfl, hy⟩ := Op.u64_nat hw
      exact ⟨y, by rw [g1, e], hy⟩)
    refine ⟨some a, len, m, fun i => if i < len then f i else 0, hcs, hlen, fun i => ?_, fun h0 => ?_⟩
    · show (if i < len then f i else 0) < _
      split
      · rename_i q
        exact (hf i q).2
      · decide
    · obtain ⟨g, o, rfl, _⟩ := plain_cell (w := w) (a := a) (hf 0 h0).1
      refine ⟨g, o, rfl, fun i hi => ?_⟩
      have := (hf i hi).1
      rw [addr_add] at this
      show w.cell? _ = some (Value.int .u64 (((if i < len then f i else 0 : Nat)) : Int))
      rw [if_pos hi]
      exact this
theorem turns_open {n : Nat} {v0 : Value} {x : DataW H × List MemPlace} (h : DataW.trod enc Tryz.prog w 0 (fun _ => true) held n 50 [v0] = some x) (hw : ∀ k ∈ x.1.weights Tryz.prog 50, k ≤ reachBytes) :
    ∃ (a : Option Addr) (cap : Nat) (ss : List (Int × Int × Int)), v0 = .slice a ss.length cap ∧ TurnsIn w a ss ∧ ss.length ≤ 8796093022208 ∧ ∀ x ∈ ss, fitsI x.1 ∧ fitsI x.2.1 ∧ fitsI x.2.2 := by
  rcases Go.Deep.open_slice Tryz.underlying50 h with ⟨hcs, hx⟩ | ⟨ad, len, cap, m, n', D, Pl, hcs, _, hl, hm, hmm, hx, hc⟩
  · simp at hcs
    exact ⟨none, 0, [], hcs, Or.inl rfl, by simp, fun x hx => by cases hx⟩
  · simp at hcs
    subst hx
    have ce : Tryz.prog.cellsOf 62 = 3 := by kernel_rfl
    have hmc : m = cap := by simpa using hmm
    have h47 : reachBytes = 140737488351232 := by decide
    have hby : Tryz.prog.bytesOf 62 = 24 := by kernel_rfl
    have hlw : len * 24 ≤ reachBytes := by
      have := hw (((List.map D (List.range len)).length + (List.map D ((List.range m).drop len)).length) * Tryz.prog.bytesOf 62) (by simp [DataW.weights, Tryz.underlying50])
      rw [hby, List.length_map, List.length_range] at this
      exact Nat.le_trans (Nat.mul_le_mul_right 24 (Nat.le_add_right len _)) this
    obtain ⟨f, hf⟩ := Go.Deep.choose_lt (α := Int × Int × Int) (n := len) (p := fun i q => w.cell? (ad.add (i * 3)) = some (.int .i64 q.1) ∧ w.cell? (ad.add (i * 3 + 1)) = some (.int .i64 q.2.1) ∧ w.cell? (ad.add (i * 3 + 2)) = some (.int .i64 q.2.2) ∧ fitsI q.1 ∧ fitsI q.2.1 ∧ fitsI q.2.2) (fun i hi => by
      obtain ⟨cs', h1, h2⟩ := hc i (by omega)
      rw [ce] at h1
      obtain ⟨_, hlen, hcell⟩ := World.cells?_some h1
      obtain ⟨xs, k, hk, hxy, _, hxl, hf⟩ := DataW.trod_struct Tryz.underlying62 h2
      match xs, hxl, cs', hlen with
      | [y0, y1, y2], _, [v0, v1, v2], _ =>
        have g0 := hf 0 _ rfl
        have g1 := hf 1 _ rfl
        have g2 := hf 2 _ rfl
        have z3 : Tryz.prog.cellsOf 3 = 1 := by kernel_rfl
        simp [z3] at g0 g1 g2
        have e0 := hcell 0 (by omega)
        have e1 := hcell 1 (by omega)
        have e2 := hcell 2 (by omega)
        rw [Go.Deep.add_add] at e0 e1 e2
        obtain ⟨X0, u0, _, q0⟩ := DataW.trod_int Tryz.underlying3 g0
        obtain ⟨X1, u1, _, q1⟩ := DataW.trod_int Tryz.underlying3 g1
        obtain ⟨X2, u2, _, q2⟩ := DataW.trod_int Tryz.underlying3 g2
        simp only [List.cons.injEq, and_true] at u0 u1 u2
        subst u0 u1 u2
        exact ⟨(X0, X1, X2), by simpa using e0, by simpa using e1, by simpa using e2, q0, q1, q2⟩)
    have hlen : ((List.range len).map f).length = len := by simp
    refine ⟨some ad, cap, (List.range len).map f, by rw [hlen]; exact hcs, ?_, by rw [hlen]; omega, fun x hx => ?_⟩
    · by_cases hz : len = 0
      · left
        subst hz
        rfl
      · right
        obtain ⟨b, o, rfl, hb⟩ := plain_cell (w := w) (a := ad) (v := .int .i64 (f 0).1) (by have := (hf 0 (by omega)).1; simpa using this)
        refine ⟨b, o, rfl, fun j hj => ?_⟩
        have hj' : j < len := by rw [hlen] at hj; exact hj
        have e : ((List.range len).map f)[j] = f j := by simp
        rw [e]
        obtain ⟨c0, c1, c2, ok⟩ := hf j hj'
        rw [addr_add] at c0 c1 c2
        exact ⟨c0, by rw [Nat.add_assoc]; exact c1, by rw [Nat.add_assoc]; exact c2⟩
    · obtain ⟨i, hi, rfl⟩ := List.mem_map.1 hx
      exact (hf i (List.mem_range.1 hi)).2.2.2
theorem open_plan {r : Reach} {b0 : Nat} {v : Value} {d : DataW H} {q : List MemPlace} (hv : Value.okWide Tryz.prog w r b0 52 v) (h : DataW.Trod enc Tryz.prog w 0 (fun _ => true) held 52 v d q) (hw : ∀ k ∈ d.weights Tryz.prog 52, k ≤ reachBytes) :
    ∃ (a : Option Addr) (len cap : Nat) (S : Int) (ha : Option Addr) (nh hc : Nat) (hv : Nat → Nat) (ta : Option Addr) (tc : Nat) (ss : List (Int × Int × Int)), v = .agg #[.slice a len cap, .int .i64 S, .slice ha nh hc, .slice ta ss.length tc] ∧ (len = 5 → Five w a) ∧ nh ≤ 17592186044000 ∧ (∀ i, hv i < 18446744073709551616) ∧ HashIn w ha nh hv ∧ TurnsIn w ta ss ∧ ss.length ≤ 8796093022208 ∧ ∀ x ∈ ss, fitsI x.1 ∧ fitsI x.2.1 ∧ fitsI x.2.2 := by
  obtain ⟨cs, rfl, hsz⟩ := okWide_struct Tryz.underlying52 hv
  obtain ⟨c0, c1, c2, c3, rfl⟩ := array4 (hsz.trans (by kernel_rfl))
  obtain ⟨fuel, hf0⟩ := h
  have hf1 : DataW.trod enc Tryz.prog w 0 (fun _ => true) held fuel 52 [c0, c1, c2, c3] = some (d, q) := by simpa [Value.cells] using hf0
  obtain ⟨xs, m, _, hx, hl, hlen, hf⟩ := DataW.trod_struct Tryz.underlying52 hf1
  have hlen4 : xs.length = 4 := hlen
  have c3' : Tryz.prog.cellsOf 3 = 1 := by kernel_rfl
  have cI : Tryz.prog.cellsOf 22 = 1 := by kernel_rfl
  have cU : Tryz.prog.cellsOf 49 = 1 := by kernel_rfl
  have cT : Tryz.prog.cellsOf 50 = 1 := by kernel_rfl
  match xs, hlen4 with
  | [y0, y1, y2, y3], _ =>
    have f0 : DataW.trod enc Tryz.prog w 0 (fun _ => true) held m 22 (([c0, c1, c2, c3].drop 0).take (Tryz.prog.cellsOf 22)) = some y0 := hf 0 _ rfl
    have f1 : DataW.trod enc Tryz.prog w 0 (fun _ => true) held m 3 (([c0, c1, c2, c3].drop 1).take (Tryz.prog.cellsOf 3)) = some y1 := hf 1 _ rfl
    have f2 : DataW.trod enc Tryz.prog w 0 (fun _ => true) held m 49 (([c0, c1, c2, c3].drop 2).take (Tryz.prog.cellsOf 49)) = some y2 := hf 2 _ rfl
    have f3 : DataW.trod enc Tryz.prog w 0 (fun _ => true) held m 50 (([c0, c1, c2, c3].drop 3).take (Tryz.prog.cellsOf 50)) = some y3 := hf 3 _ rfl
    rw [cI] at f0
    rw [c3'] at f1
    rw [cU] at f2
    rw [cT] at f3
    have hd : d = DataW.agg [y0.1, y1.1, y2.1, y3.1] := by
      have := congrArg Prod.fst hx
      simpa using this
    subst hd
    have w2 : ∀ k ∈ y2.1.weights Tryz.prog 49, k ≤ reachBytes := fun k hk => hw k (by
      simp only [DataW.weights, Tryz.underlying52]
      exact DataW.weights_mem_each (j := 2) (t := 49) (d := y2.1) rfl rfl _ hk)
    have w3 : ∀ k ∈ y3.1.weights Tryz.prog 50, k ≤ reachBytes := fun k hk => hw k (by
      simp only [DataW.weights, Tryz.underlying52]
      exact DataW.weights_mem_each (j := 3) (t := 50) (d := y3.1) rfl rfl _ hk)
    obtain ⟨a, len, cap, e0, h5⟩ := fields_open f0
    obtain ⟨k1, e1, q1, z1⟩ := DataW.trod_int Tryz.underlying3 f1
    obtain ⟨ha, nh, hc, hv', e2, n2, u2, H2⟩ := hashes_open f2 w2
    obtain ⟨ta, tc, ss, e3, H3, n3, u3⟩ := turns_open f3 w3
    simp at e1
    exact ⟨a, len, cap, k1, ha, nh, hc, hv', ta, tc, ss, by rw [e0, e1, e2, e3], h5, n2, u2, H2, H3, n3, u3⟩
end
end Go.Proofs.YtmdnknbolgedgaaGreatDoor
/-
  The law's turn; bench, whatever the plan is.
-/
namespace Go.Proofs.YtmdnknbolgedgaaGreatDoor
open Go.RowKit Go.Shelf Ly Ct
set_option linter.unusedVariables false

section
variable {w wr : World} {b p : Nat} {l : Lay} {G j g o nh hc : Nat} {hv : Nat → Nat} {fs ts lv : Value} {L : List LifeD} {ad : Nat} {d : AD} {f : Nat → Int} {c : Nat → GC}
set_option maxRecDepth 100000 in
set_option maxHeartbeats 4000000 in
theorem turn_any (h : BM w wr b p l G fs ts (.slice (some ⟨g, o, none⟩) nh hc) lv L ad d f c) (P : PlanAt w l G j g o nh hv) (tie : LTie c G f (hsT hv nh) L ad) (had : ad ≤ 9000000000000000000) (kd n E : Int) (hn : fitsI n) (hE : fitsI E) :
    Calls Tryz.prog 27 #[.pointer (some ⟨b, 0, none⟩), .agg #[.int .i64 kd, .int .i64 n, .int .i64 E]] wr fun e w' => TurnPost w b p l G fs ts (.slice (some ⟨g, o, none⟩) nh hc) hv nh ad f L e w' := by
  have hPu : Hid (∀ W, Keeps wr W (fun _ => False) → _) := fun W q => puts_any (h.stay q) P tie had kd n E hn hE
  have hDe : Hid (∀ W, Keeps wr W (fun _ => False) → _) := fun W q => deletes_any (h.stay q) P tie kd n E hn
  have hAs : Hid (∀ W, Keeps wr W (fun _ => False) → _) := fun W q => asks_any (h.stay q) P tie n hn
  have hS : Hid (∀ W, Keeps wr W (fun _ => False) → TurnPost w b p l G fs ts (.slice (some ⟨g, o, none⟩) nh hc) hv nh ad f L (.returned (.bool true)) W) := fun W q => ⟨rfl, lv, L, ad, d, f, c, h.stay q, tie, by omega, fun _ _ _ => rfl, id⟩
  clear h P tie had hn hE
  by_cases h1 : kd = 1
  · subst h1
    go_enter Tryz.func27, Tryz.ntmps27
    go_wp2_with fail
    refine alloc1 (P := fun W => Calls _ _ _ W _) fun W0 hb hz k0 => ?_
    (with_reducible refine (hPu.out _ k0).mono ?_)
    rintro e w' ⟨rfl, hx⟩
    have hfin : Hid (TurnPost w b p l G fs ts (.slice (some ⟨g, o, none⟩) nh hc) hv nh ad f L (.returned (.bool true)) w') := ⟨rfl, hx⟩
    clear hx
    go_wp2_with fail
    go_ret
    exact hfin.out
  · by_cases h2 : kd = 2
    · subst h2
      clear h1
      go_enter Tryz.func27, Tryz.ntmps27
      go_wp2_with fail
      refine alloc1 (P := fun W => Calls _ _ _ W _) fun W0 hb hz k0 => ?_
      (with_reducible refine (hDe.out _ k0).mono ?_)
      rintro e w' ⟨rfl, hx⟩
      have hfin : Hid (TurnPost w b p l G fs ts (.slice (some ⟨g, o, none⟩) nh hc) hv nh ad f L (.returned (.bool true)) w') := ⟨rfl, hx⟩
      clear hx
      go_wp2_with fail
      go_ret
      exact hfin.out
    · by_cases h3 : kd = 3
      · subst h3
        clear h1 h2
        go_enter Tryz.func27, Tryz.ntmps27
        go_wp2_with fail
        refine alloc1 (P := fun W => Calls _ _ _ W _) fun W0 hb hz k0 => ?_
        (with_reducible refine (hAs.out _ k0).mono ?_)
        rintro e w' ⟨rfl, k⟩
        go_wp2_with fail
        go_ret
        exact hS.out _ (k0.trans k (fun _ _ e => e))
      · have e1 : (kd == 1) = false := by simp [h1]
        have e2 : (kd == 2) = false := by simp [h2]
        have e3 : (kd == 3) = false := by simp [h3]
        go_enter Tryz.func27, Tryz.ntmps27
        go_wp2_with fail
        go_ret
        exact hS.out _ ((Keeps.refl _ _).alloc _)
end
/-- What bench answers. -/
def BenchAny (w : World) (l : Lay) (fs ts : Value) (S : Int) (ha : Option Addr) (nh hc : Nat) (hv : Nat → Nat) (e : Ending) (w' : World) : Prop :=
  (e = .returned (.tuple #[.pointer none, .bool true, .bool false]) ∧ Keeps w w' (fun _ => False)) ∨
  ∃ (b p G j g o : Nat) (d : AD) (f : Nat → Int) (c : Nat → GC), e = .returned (.tuple #[.pointer (some ⟨b, 0, none⟩), .bool true, .bool true]) ∧ ha = some ⟨g, o, none⟩ ∧ S = ((8 * G : Nat) : Int) ∧ PlanAt w l G j g o nh hv ∧ BM w w' b p l G fs ts (.slice (some ⟨g, o, none⟩) nh hc) (.slice none 0 0) [] 0 d f c ∧ LTie c G f (hsT hv nh) [] 0 ∧ f 0 = 2 ∧ f 1 = 0 ∧ f 2 = 0
theorem bench_any (fs ts : Value) (S : Int) (ha : Option Addr) (nh hc : Nat) (hv : Nat → Nat) (l : Lay) (E : Int) (w : World) (hPar : ∀ W, Keeps w W (fun _ => False) → Calls Tryz.prog 9 #[fs] W fun r w' => r = .returned (.tuple #[.agg #[.int .i64 l.k, .int .i64 l.e, .int .i64 l.a, .int .i64 l.b, .int .i64 l.c, .int .i64 l.eo, .int .i64 l.bo, .int .i64 l.s, .int .i64 l.g], .int .i64 E]) ∧ Keeps W w' (fun _ => False)) (hEv : E = 0 → validB l = true) (hT : TabAt w) (hn : nh ≤ 17592186044000) (hw : ∀ i, hv i < 18446744073709551616) (hH : HashIn w ha nh hv) :
    Calls Tryz.prog 18 #[.agg #[fs, .int .i64 S, .slice ha nh hc, ts]] w fun e w' => BenchAny w l fs ts S ha nh hc hv e w' := by
  by_cases h0 : E = 0
  · by_cases h1 : nh = 0
    · exact (bench_no1 fs ts S ha nh hc l E w hPar h0 h1).mono (fun _ _ q => Or.inl q)
    · by_cases h2 : S < 8
      · exact (bench_no2 fs ts S ha nh hc l E w hPar h0 h1 h2).mono (fun _ _ q => Or.inl q)
      · by_cases h3 : 1024 < S
        · exact (bench_no3 fs ts S ha nh hc l E w hPar h0 h1 h2 h3).mono (fun _ _ q => Or.inl q)
        · by_cases h4 : bits BinOp.and IntKind.i64 S (S - 1) = 0
          · obtain ⟨j, G, hj, hG, hS⟩ := pow10' (by omega) (by omega) h4
            refine (bench_yes fs ts S ha nh hc l E w hPar h0 (hEv h0) h1 h2 h3 h4 G j hj hG hS).mono ?_
            rintro e w' ⟨b, p, d, f, rfl, hb, hlow, hO, hF, hSm, hD, f1, f2, f3, f4, f5, f0, f7⟩
            obtain ⟨g, o, rfl, hc'⟩ := hH (by omega)
            refine Or.inr ⟨b, p, G, j, g, o, d, f, _, rfl, rfl, hS, ⟨hj, hG, by omega, hn, hc', hw, hT⟩, ⟨?_, ⟨rfl, Or.inl ⟨rfl, rfl⟩⟩, hlow, hO.less (fun k _ _ e => e.elim id (fun e => by cases e)), hF, hSm, hD, f4, f7⟩, ltie_new f3 f5, f0, f1, f2⟩
            rw [← hS]
            exact hb
          · exact (bench_no4 fs ts S ha nh hc l E w hPar h0 h1 h2 h3 h4).mono (fun _ _ q => Or.inl q)
  · exact (bench_no0 fs ts S ha nh hc l E w hPar h0).mono (fun _ _ q => Or.inl q)
end Go.Proofs.YtmdnknbolgedgaaGreatDoor
/-
  TableHolds.
-/
namespace Go.Proofs.YtmdnknbolgedgaaGreatDoor
open Go.RowKit Go.Shelf Ly Ct
set_option linter.unusedVariables false

/-- A plan that came in, as it stays. -/
structure PlanIn (w : World) (l : Lay) (fs : Value) (S : Int) (ha : Option Addr) (nh hc : Nat) (hv : Nat → Nat) (ta : Option Addr) (tc : Nat) (ss : List (Int × Int × Int)) : Prop where
  bench : ∀ W, Keeps w W (fun _ => False) → Calls Tryz.prog 18 #[.agg #[fs, .int .i64 S, .slice ha nh hc, .slice ta ss.length tc]] W fun e w' => BenchAny W l fs (.slice ta ss.length tc) S ha nh hc hv e w'
  turns : TurnsIn w ta ss
  few : ss.length ≤ 8796093022208
  fits : ∀ x ∈ ss, fitsI x.1 ∧ fitsI x.2.1 ∧ fitsI x.2.2
theorem PlanIn.turn {w : World} {l : Lay} {fs : Value} {S : Int} {ha : Option Addr} {nh hc : Nat} {hv : Nat → Nat} {ta : Option Addr} {tc : Nat} {ss : List (Int × Int × Int)} (h : PlanIn w l fs S ha nh hc hv ta tc ss) {i : Nat} (hi : i < ss.length) : ∃ tb tq, ta = some ⟨tb, tq, none⟩ ∧ ∀ W, Keeps w W (fun _ => False) → W.cell? ⟨tb, tq + i * 3, none⟩ = some (.int .i64 ss[i].1) ∧ W.cell? ⟨tb, tq + i * 3 + 1, none⟩ = some (.int .i64 ss[i].2.1) ∧ W.cell? ⟨tb, tq + i * 3 + 2, none⟩ = some (.int .i64 ss[i].2.2) := by
  rcases h.turns with rfl | ⟨tb, tq, e, hc⟩
  · simp at hi
  · obtain ⟨c1, c2, c3⟩ := hc i hi
    exact ⟨tb, tq, e, fun W q => ⟨keeps_cell q id c1, keeps_cell q id c2, keeps_cell q id c3⟩⟩
namespace tableHolds
set_option maxRecDepth 100000 in
set_option maxHeartbeats 8000000 in
theorem walk {w : World} {l : Lay} {fs : Value} {S : Int} {ha : Option Addr} {nh hc : Nat} {hv : Nat → Nat} {ta : Option Addr} {tc : Nat} {ss : List (Int × Int × Int)} (h : PlanIn w l fs S ha nh hc hv ta tc ss) :
    Calls Tryz.prog 5 #[.agg #[fs, .int .i64 S, .slice ha nh hc, .slice ta ss.length tc]] w fun e w' => e = .returned (.bool true) ∧ Keeps w w' (fun _ => False) := by
  have hBe := hide h.bench
  have hfew := h.few
  have hFit := hide h.fits
  have hTn : Hid (∀ i (hi : i < ss.length), _) := fun i hi => h.turn hi
  clear h
  go_enter Tryz.func5, Tryz.ntmps5
  go_wp2_with fail
  refine alloc1 (P := fun W => Calls _ _ _ W _) fun W0 hb hz k0 => ?_
  (with_reducible refine (hBe.out _ k0).mono ?_)
  clear hBe
  rintro r w1 (⟨rfl, k1⟩ | ⟨b, p, G, j, g, o, d, f, c, rfl, rfl, hS, hP, hB, hT, -⟩)
  · go_wp2_with fail
    go_ret
    exact ⟨rfl, k0.trans k1 (fun _ _ e => e)⟩
  · have hq3 : Hid (∀ W, Keeps W0 W (fun _ => False) → W.cell? ⟨w.heap.size, 3, none⟩ = some (.slice ta ss.length tc)) := fun W q => by
      have := q.blk hb
      simp only [World.cell?, this]
      rfl
    have q3 := hq3.out _ hB.keep
    have HP := hide hP
    have HB0 : Hid (∃ lv L ad d f c, BM W0 w1 b p l G fs (.slice ta ss.length tc) (.slice (some ⟨g, o, none⟩) nh hc) lv L ad d f c ∧ LTie c G f (hsT hv nh) L ad ∧ ad ≤ 0) := ⟨_, _, _, _, _, _, hB, hT, Nat.le_refl _⟩
    clear hB hT hP hS hb hz d f c
    generalize w.heap.size = B0 at *
    go_wp2_with fail
    clear q3
    go_loopw [23] (fun v23 wr => ∃ i : Nat, v23 = .int .i64 (i : Int) ∧ i ≤ ss.length ∧ Hid (∃ lv L ad d f c, BM W0 wr b p l G fs (.slice ta ss.length tc) (.slice (some ⟨g, o, none⟩) nh hc) lv L ad d f c ∧ LTie c G f (hsT hv nh) L ad ∧ ad ≤ i)) (fun v23 _ => ss.length - (intOf v23).toNat)
    case atStart => exact ⟨0, rfl, Nat.zero_le _, HB0⟩
    case round =>
      clear HB0
      obtain ⟨i, rfl, hi, HB⟩ := hrel
      by_cases hlt : i < ss.length
      · have hlt' : (i : Int) < (ss.length : Int) := by omega
        obtain ⟨tb, tq, hta, hcs⟩ := hTn.out i hlt
        have hfit := hide (hFit.out _ (List.getElem_mem hlt))
        obtain ⟨x1, x2, x3⟩ := hcs wr (k0.trans (by obtain ⟨_, _, _, _, _, _, q, -⟩ := HB.out; exact q.keep) (fun _ _ e => e))
        subst hta
        clear hcs
        generalize ss[i].1 = y1 at *
        generalize ss[i].2.1 = y2 at *
        generalize ss[i].2.2 = y3 at *
        have hTu : Hid (∀ W, Keeps wr W (fun _ => False) → Calls Tryz.prog 27 #[.pointer (some ⟨b, 0, none⟩), .agg #[.int .i64 y1, .int .i64 y2, .int .i64 y3]] W fun e w' => e = .returned (.bool true) ∧ Hid (∃ lv L ad d f c, BM W0 w' b p l G fs (.slice (some ⟨tb, tq, none⟩) ss.length tc) (.slice (some ⟨g, o, none⟩) nh hc) lv L ad d f c ∧ LTie c G f (hsT hv nh) L ad ∧ ad ≤ i + 1)) := fun W q => by
          obtain ⟨lv, L, ad, d, f, c, hB, hT, had⟩ := HB.out
          refine (turn_any (hB.stay q) HP.out hT (by omega) y1 y2 y3 hfit.out.2.1 hfit.out.2.2).mono ?_
          rintro e w' ⟨rfl, lv', L', ad', d', f', c', hB', hT', had', -⟩
          exact ⟨rfl, lv', L', ad', d', f', c', hB', hT', by omega⟩
        clear HB hfit
        go_wp2_with fail
        refine alloc1 (P := fun W => Calls _ _ _ W _) fun W2 hb2 hz2 k2 => ?_
        (with_reducible refine (hTu.out _ k2).mono ?_)
        rintro e w3 ⟨rfl, HB3⟩
        clear hb2 hz2 k2 hTu x1 x2 x3
        go_wp2_with fail
        go_roundw
        case rel => exact ⟨i + 1, by go_num, by omega, HB3⟩
        case measure => simp [intOf]; omega
      · obtain rfl : i = ss.length := by omega
        have hlt' : ¬ (ss.length : Int) < (ss.length : Int) := by omega
        obtain ⟨lv, L, ad, d, f, c, hB, hT, had⟩ := HB.out
        have q3 := hq3.out _ hB.keep
        have hAs : Hid (∀ W n, Keeps wr W (fun _ => False) → fitsI n → _) := fun W n q hn => asks_any (hB.stay q) HP.out hT n hn
        have HK := hide (k0.trans hB.keep (fun _ _ e => e))
        clear HB hB hT had
        go_wp2_with fail
        clear q3
        obtain ⟨wz, hwz⟩ : ∃ wz, wz = wr := ⟨_, rfl⟩
        have HK0 : Hid (Keeps wz wr (fun _ => False)) := by rw [hwz]; exact Keeps.refl _ _
        rw [← hwz] at HK hAs
        clear hwz
        go_loopw [35] (fun v35 wr => ∃ i : Nat, v35 = .int .i64 (i : Int) ∧ i ≤ ss.length ∧ Hid (Keeps wz wr (fun _ => False))) (fun v35 _ => ss.length - (intOf v35).toNat)
        case atStart => exact ⟨0, rfl, Nat.zero_le _, HK0⟩
        case round =>
          clear HK0
          obtain ⟨i, rfl, hi, Hr⟩ := hrel
          by_cases hlt : i < ss.length
          · have hlt' : (i : Int) < (ss.length : Int) := by omega
            obtain ⟨tb, tq, hta, hcs⟩ := hTn.out i hlt
            have hfit := hide (hFit.out _ (List.getElem_mem hlt)).2.1
            obtain ⟨x1, x2, x3⟩ := hcs wr (HK.out.trans Hr.out (fun _ _ e => e))
            subst hta
            clear hcs
            generalize ss[i].1 = y1 at *
            generalize ss[i].2.1 = y2 at *
            generalize ss[i].2.2 = y3 at *
            go_wp2_with fail
            refine alloc1 (P := fun W => Calls _ _ _ W _) fun W2 hb2 hz2 k2 => ?_
            (with_reducible refine (hAs.out _ y2 (Hr.out.trans k2 (fun _ _ e => e)) hfit.out).mono ?_)
            rintro e w3 ⟨rfl, k3⟩
            have Hr3 := hide ((Hr.out.trans k2 (fun _ _ e => e)).trans k3 (fun _ _ e => e))
            clear hb2 hz2 k2 k3 x1 x2 x3 Hr
            go_wp2_with fail
            go_roundw
            case rel => exact ⟨i + 1, by go_num, by omega, Hr3⟩
            case measure => simp [intOf]; omega
          · obtain rfl : i = ss.length := by omega
            have hlt' : ¬ (ss.length : Int) < (ss.length : Int) := by omega
            go_wp2_with fail
            go_ret
            exact ⟨rfl, HK.out.trans Hr.out (fun _ _ e => e)⟩
end tableHolds
end Go.Proofs.YtmdnknbolgedgaaGreatDoor
/-
  A key is deleted, and another of the same hash is put.
-/
namespace Go.Proofs.YtmdnknbolgedgaaGreatDoor
open Go.RowKit Go.Shelf Ly Ct
set_option linter.unusedVariables false

section
variable {c : Nat → GC} {tag : Int} {key : ByteArray} {m : Nat → Nat} {G : Nat}
theorem srchN_some : ∀ (f s y : Nat), (srchN c tag key m f s (some y)).vac = some y
  | 0, s, y => rfl
  | f + 1, s, y => by
    unfold srchN
    split
    · rfl
    · split
      · rfl
      · exact srchN_some f (s + 1) y
theorem vacS_spec : ∀ (s x : Nat), vacS c m s = some x → ∃ i, i < s ∧ m i = x / 8
  | 0, x, h => by cases h
  | s + 1, x, h => by
    have h' : meetV (vacS c m s) c (m s) = some x := h
    cases hv : vacS c m s with
    | some y =>
      rw [hv] at h'
      have e : y = x := Option.some.inj h'
      subst e
      obtain ⟨i, h1, h2⟩ := vacS_spec s y hv
      exact ⟨i, by omega, h2⟩
    | none =>
      rw [hv] at h'
      simp only [meetV] at h'
      by_cases h8 : vacG c (m s) < 8
      · rw [if_pos h8] at h'
        have := Option.some.inj h'
        exact ⟨s, by omega, by omega⟩
      · rw [if_neg h8] at h'
        cases h'
theorem vacS_has {k : Nat} (h : vacG c (m k) < 8) : ∃ x, vacS c m (k + 1) = some x := by
  show ∃ x, meetV (vacS c m k) c (m k) = some x
  cases hv : vacS c m k with
  | some y => exact ⟨y, rfl⟩
  | none =>
    simp only [meetV]
    rw [if_pos h]
    exact ⟨_, rfl⟩
theorem srch_near {k : Nat} (hk : k < G) (hgo : goes c tag key m k) (hh : ¬ hitG c tag key (m k) < 8) (hv : vacG c (m k) < 8) : ∃ x i, (srchT c tag key m G).vac = some x ∧ i ≤ k ∧ m i = x / 8 := by
  obtain ⟨x, hx⟩ := vacS_has (m := m) hv
  obtain ⟨i, hi, e⟩ := vacS_spec (k + 1) x hx
  refine ⟨x, i, ?_, by omega, e⟩
  rw [srch_at k hgo (by omega), show G - k = (G - (k + 1)) + 1 by omega, srchN, if_neg hh]
  have hm : meetV (vacS c m k) c (m k) = some x := hx
  rw [hm]
  split
  · rfl
  · exact srchN_some _ _ _
end
section
variable {c : Nat → GC} {G k0 : Nat} {hs : ByteArray → Nat}
theorem TInv.found' (h : TInv c G hs) (hG : G = 2 ^ k0) {s : Nat} (hs8 : s < 8 * G) (h2 : (c s).kind = 2) : ∃ i v, i < G ∧ Pb.metN (hs (c s).key / 128) G i = s / 8 ∧ (∀ j, j < i → empG c (Pb.metN (hs (c s).key / 128) G j) = false) ∧ srchT c (((hs (c s).key : Nat) : Int) % 128) (c s).key (Pb.metN (hs (c s).key / 128) G) G = ⟨i + 1, some s, v⟩ := by
  have hG0 : 0 < G := by omega
  obtain ⟨i, hi, hm, he⟩ := h.way s hs8 h2
  have hlt : ∀ a, Pb.metN (hs (c s).key / 128) G a < G := fun a => Pb.metN_lt hG0
  have hgo : goes c (((hs (c s).key : Nat) : Int) % 128) (c s).key (Pb.metN (hs (c s).key / 128) G) i := fun j hj => by
    refine ⟨fun hh => ?_, he j hj⟩
    obtain ⟨q1, q2, q3⟩ := hit_cell hh
    have hl := hlt j
    have e := h.one _ _ (by omega) hs8 q1 h2 q3
    have : Pb.metN (hs (c s).key / 128) G j = s / 8 := by omega
    exact absurd (met_inj hG (by omega) hi (this.trans hm.symm)) (by omega)
  have hhit : hitG c (((hs (c s).key : Nat) : Int) % 128) (c s).key (Pb.metN (hs (c s).key / 128) G i) = s % 8 := by
    rw [hm]
    refine low_is (by omega) ?_ (fun z hz => ?_)
    · refine decide_eq_true ?_
      show (c (8 * (s / 8) + s % 8)).kind = 2 ∧ (c (8 * (s / 8) + s % 8)).tag = _ ∧ (c (8 * (s / 8) + s % 8)).key = _
      rw [show 8 * (s / 8) + s % 8 = s by omega]
      exact ⟨h2, h.tag s hs8 h2, rfl⟩
    · refine decide_eq_false fun q => ?_
      have e := h.one (8 * (s / 8) + z) s (by omega) hs8 q.1 h2 q.2.2
      omega
  have := srch_hit hgo hi (by rw [hhit]; omega)
  rw [hhit, hm, show 8 * (s / 8) + s % 8 = s by omega] at this
  exact ⟨i, _, hi, hm, he, this⟩
theorem gone_emp {v : Nat} (hv : (c v).kind = 2) : ∀ g, empG (updN c v (if empG c (v / 8) then GC.zero else GC.gone)) g = empG c g := by
  obtain ⟨x, hx⟩ : ∃ x, (if empG c (v / 8) then GC.zero else GC.gone) = x := ⟨_, rfl⟩
  have hx0 : x.kind = 0 → empG c (v / 8) = true := fun q => by
    cases e : empG c (v / 8)
    · rw [e] at hx
      rw [← hx] at q
      exact absurd q (by decide)
    · rfl
  rw [hx]
  have hv1 : updN c v x v = x := if_pos rfl
  have hv2 : ∀ t, t ≠ v → updN c v x t = c t := fun t q => if_neg q
  generalize hc' : updN c v x = c' at *
  intro g
  cases hb : empG c g
  · rw [emp_false] at hb ⊢
    intro j hj
    by_cases q : 8 * g + j = v
    · rw [q, hv1]
      intro h0
      have h1 := hx0 h0
      rw [show v / 8 = g by omega] at h1
      obtain ⟨j', p1, p2⟩ := emp_iff.1 h1
      exact hb j' p1 p2
    · rw [hv2 _ q]
      exact hb j hj
  · rw [emp_iff] at hb ⊢
    obtain ⟨j, h1, h2⟩ := hb
    refine ⟨j, h1, ?_⟩
    rw [hv2 _ (fun q => by rw [q, hv] at h2; exact absurd h2 (by decide))]
    exact h2
variable {f : Nat → Int} {L : List LifeD} {ad : Nat}
/-- A key that is there gives way to a new one of the same hash. -/
theorem LTie.swap (h : LTie c G f hs L ad) (hG : G = 2 ^ k0) {i : Nat} (hi : i < L.length) {K : ByteArray} (hK : ∀ x, x ∈ L → x.key ≠ K) :
    ∃ n v0, srchT c ((L[i].hash : Int) % 128) L[i].key (Pb.metN (L[i].hash / 128) G) G = ⟨n, some L[i].slot.toNat, v0⟩ ∧
      ∃ v, (srchT (updN c L[i].slot.toNat (if empG c (L[i].slot.toNat / 8) then GC.zero else GC.gone)) ((L[i].hash : Int) % 128) K (Pb.metN (L[i].hash / 128) G) G).slot = none ∧ (srchT (updN c L[i].slot.toNat (if empG c (L[i].slot.toNat / 8) then GC.zero else GC.gone)) ((L[i].hash : Int) % 128) K (Pb.metN (L[i].hash / 128) G) G).vac = some v ∧ v < 8 * G ∧ ((updN c L[i].slot.toNat (if empG c (L[i].slot.toNat / 8) then GC.zero else GC.gone) v).kind = 0 → empG c (L[i].slot.toNat / 8) = true) ∧
      ∀ e b, (srchT (updN (updN c L[i].slot.toNat (if empG c (L[i].slot.toNat / 8) then GC.zero else GC.gone)) v (GC.full ((L[i].hash : Int) % 128) K e b)) ((L[i].hash : Int) % 128) K (Pb.metN (L[i].hash / 128) G) G).probes ≤ n := by
  obtain ⟨p1, p2, p3, p4⟩ := h.life _ (List.getElem_mem hi)
  have h2 : (c L[i].slot.toNat).kind = 2 := by rw [p3]; rfl
  have hk : (c L[i].slot.toNat).key = L[i].key := by rw [p3]; rfl
  have hab := h.absent hK
  obtain ⟨q, v0, hq, hm, he, hfo⟩ := h.inv.found' hG (s := L[i].slot.toNat) (by omega) h2
  rw [hk, ← p4] at hm he hfo
  have hgE := gone_emp h2
  have hs8 : L[i].slot.toNat < 8 * G := by omega
  generalize L[i].slot.toNat = s0 at *
  generalize L[i].hash = H at *
  generalize ((H : Int) % 128) = tag at *
  have hG0 : 0 < G := by omega
  have hx2 : (if empG c (s0 / 8) then GC.zero else GC.gone).kind ≠ 2 := by cases empG c (s0 / 8) <;> decide
  have hv1 : updN c s0 (if empG c (s0 / 8) then GC.zero else GC.gone) s0 = (if empG c (s0 / 8) then GC.zero else GC.gone) := if_pos rfl
  have hv2 : ∀ t, t ≠ s0 → updN c s0 (if empG c (s0 / 8) then GC.zero else GC.gone) t = c t := fun t z => if_neg z
  rw [← hv1] at hx2
  generalize updN c s0 (if empG c (s0 / 8) then GC.zero else GC.gone) = c1 at *
  have hab1 : ∀ s, s < 8 * G → (c1 s).kind = 2 → (c1 s).key ≠ K := fun s z1 z2 => by
    by_cases e : s = s0
    · rw [e] at z2
      exact absurd z2 hx2
    · rw [hv2 s e] at z2 ⊢
      exact hab s z1 z2
  have hlt : ∀ a, Pb.metN (H / 128) G a < G := fun a => Pb.metN_lt hG0
  have hnh : ∀ a, ¬ hitG c1 tag K (Pb.metN (H / 128) G a) < 8 := fun a z => by
    obtain ⟨z1, z2, z3⟩ := hit_cell z
    exact hab1 _ (by have := hlt a; omega) z1 z3
  have hgo : goes c1 tag K (Pb.metN (H / 128) G) q := fun j hj => ⟨hnh j, by rw [hgE]; exact he j hj⟩
  have hvac : vacG c1 (Pb.metN (H / 128) G q) < 8 := by
    refine Nat.lt_of_not_le fun z => ?_
    have := vac_full (c := c1) (g := Pb.metN (H / 128) G q) (by omega) (j := s0 % 8) (by omega)
    rw [hm, show 8 * (s0 / 8) + s0 % 8 = s0 by omega] at this
    exact hx2 this
  obtain ⟨v, i', hv, hi', hm'⟩ := srch_near hq hgo (hnh q) hvac
  obtain ⟨hv8, hvk⟩ := srch_vac (fun i hi => hlt i) hv
  refine ⟨q + 1, v0, hfo, v, Go.Proofs.YtmdnknbolgedgaaGreatDoor.absent (fun i hi => hlt i) hab1, hv, hv8, fun h0 => ?_, fun e b => ?_⟩
  · have z : empG c1 (v / 8) = true := emp_iff.2 ⟨v % 8, by omega, by rw [show 8 * (v / 8) + v % 8 = v by omega]; exact h0⟩
    rw [hgE, ← hm'] at z
    rcases Nat.lt_or_ge i' q with y | y
    · rw [he i' y] at z
      cases z
    · rw [show i' = q by omega, hm] at z
      exact z
  · have hw1 : updN c1 v (GC.full tag K e b) v = GC.full tag K e b := if_pos rfl
    have hw2 : ∀ t, t ≠ v → updN c1 v (GC.full tag K e b) t = c1 t := fun t z => if_neg z
    generalize updN c1 v (GC.full tag K e b) = c2 at *
    have hgo2 : goes c2 tag K (Pb.metN (H / 128) G) i' := fun j hj => by
      constructor
      · intro z
        obtain ⟨z1, z2, z3⟩ := hit_cell z
        by_cases y : 8 * Pb.metN (H / 128) G j + hitG c2 tag K (Pb.metN (H / 128) G j) = v
        · have : Pb.metN (H / 128) G j = Pb.metN (H / 128) G i' := by omega
          exact absurd (met_inj hG (by omega) (by omega) this) (by omega)
        · rw [hw2 _ y] at z1 z3
          exact hab1 _ (by have := hlt j; omega) z1 z3
      · rw [emp_false]
        have z := he j (by omega)
        rw [← hgE, emp_false] at z
        intro a ha
        by_cases y : 8 * Pb.metN (H / 128) G j + a = v
        · rw [y, hw1]
          show (2 : Int) ≠ 0
          decide
        · rw [hw2 _ y]
          exact z a ha
    have hhit : hitG c2 tag K (Pb.metN (H / 128) G i') = v % 8 := by
      rw [hm']
      refine low_is (by omega) ?_ (fun z hz => ?_)
      · refine decide_eq_true ?_
        show (c2 (8 * (v / 8) + v % 8)).kind = 2 ∧ (c2 (8 * (v / 8) + v % 8)).tag = _ ∧ (c2 (8 * (v / 8) + v % 8)).key = _
        rw [show 8 * (v / 8) + v % 8 = v by omega, hw1]
        exact ⟨rfl, rfl, rfl⟩
      · refine decide_eq_false fun y => ?_
        have y1 : (c2 (8 * (v / 8) + z)).kind = 2 := y.1
        have y3 : (c2 (8 * (v / 8) + z)).key = K := y.2.2
        rw [hw2 _ (by omega)] at y1 y3
        exact hab1 _ (by omega) y1 y3
    have := srch_hit (G := G) hgo2 (by omega) (by rw [hhit]; omega)
    rw [this]
    show i' + 1 ≤ q + 1
    omega
end
end Go.Proofs.YtmdnknbolgedgaaGreatDoor
