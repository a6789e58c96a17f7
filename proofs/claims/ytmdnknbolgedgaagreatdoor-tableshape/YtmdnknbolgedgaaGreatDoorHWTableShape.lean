/-
  TableShape.
-/
import Derived.Test.YtmdnknbolgedgaaGreatDoorUn20
import Derived.Test.YtmdnknbolgedgaaGreatDoorHTB16
namespace Go.Proofs.YtmdnknbolgedgaaGreatDoor
open Go.RowKit Go.Shelf Ly Ct
set_option linter.unusedVariables false

namespace tableShape
set_option maxRecDepth 100000 in
set_option maxHeartbeats 8000000 in
theorem walk {w : World} {l : Lay} {fs : Value} {S : Int} {ha : Option Addr} {nh hc : Nat} {hv : Nat → Nat} {ta : Option Addr} {tc : Nat} {ss : List (Int × Int × Int)} (h : PlanIn w l fs S ha nh hc hv ta tc ss) :
    Calls Tryz.prog 8 #[.agg #[fs, .int .i64 S, .slice ha nh hc, .slice ta ss.length tc]] w fun e w' => e = .returned (.bool true) ∧ Keeps w w' (fun _ => False) := by
  have hBe := hide h.bench
  have hfew := h.few
  have hFit := hide h.fits
  have hTn : Hid (∀ i (hi : i < ss.length), _) := fun i hi => h.turn hi
  clear h
  go_enter Tryz.func8, Tryz.ntmps8
  go_wp2_with fail
  refine alloc1 (P := fun W => Calls _ _ _ W _) fun W0 hb hz k0 => ?_
  (with_reducible refine (hBe.out _ k0).mono ?_)
  clear hBe
  rintro r w1 (⟨rfl, k1⟩ | ⟨b, p, G, j, g, o, d, f, c, rfl, rfl, hS, hP, hB, hT, -⟩)
  · go_wp2_with fail
    go_ret
    exact ⟨rfl, k0.trans k1 (fun _ _ e => e)⟩
  · have hq3 : Hid (∀ W, Keeps W0 W (fun _ => False) → W.cell? ⟨w.heap.size, 3, none⟩ = some (.slice ta ss.length tc)) := fun W q => by
      have := q.blk hb
      simp only [World.cell?, this]
      rfl
    have hKw := hide hB.keep
    have HP := hide hP
    have hSh0 := shape_any hB hP hT
    have HB0' : Hid (∀ W, Keeps w1 W (fun _ => False) → ∃ lv L ad d f c, BM W0 W b p l G fs (.slice ta ss.length tc) (.slice (some ⟨g, o, none⟩) nh hc) lv L ad d f c ∧ LTie c G f (hsT hv nh) L ad ∧ ad ≤ 0) := fun W q => ⟨_, _, _, _, _, _, hB.stay q, hT, Nat.le_refl _⟩
    clear hB hT hP hS hb hz d f c
    generalize w.heap.size = B0 at *
    go_wp2_with fail
    (with_reducible refine hSh0.mono ?_)
    rintro e w2 ⟨rfl, ks⟩
    have HB0 := hide (HB0'.out _ ks)
    have q3 := hq3.out _ (hKw.out.trans ks (fun _ _ e => e))
    clear hSh0 HB0' hKw ks
    go_wp2_with fail
    clear q3
    go_loopw [26] (fun v26 wr => ∃ i : Nat, v26 = .int .i64 (i : Int) ∧ i ≤ ss.length ∧ Hid (∃ lv L ad d f c, BM W0 wr b p l G fs (.slice ta ss.length tc) (.slice (some ⟨g, o, none⟩) nh hc) lv L ad d f c ∧ LTie c G f (hsT hv nh) L ad ∧ ad ≤ i)) (fun v26 _ => ss.length - (intOf v26).toNat)
    case atStart => exact ⟨0, rfl, Nat.zero_le _, HB0⟩
    case round =>
      clear HB0
      obtain ⟨i, rfl, hi, HB⟩ := hrel
      by_cases hlt : i < ss.length
      · have hlt' : (i : Int) < (ss.length : Int) := by omega
        obtain ⟨tb, tq, hta, hcs⟩ := hTn.out i hlt
        have hfit := hide (hFit.out _ (List.getElem_mem hlt))
        obtain ⟨x1, x2, x3⟩ := hcs wr (k0.trans (by obtain ⟨_, _, _, _, _, _, q, -⟩ := HB.out; exact q.keep) (fun _ _ e => e))
        subst hta
        clear hcs
        generalize ss[i].1 = y1 at *
        generalize ss[i].2.1 = y2 at *
        generalize ss[i].2.2 = y3 at *
        have hTu : Hid (∀ W, Keeps wr W (fun _ => False) → Calls Tryz.prog 27 #[.pointer (some ⟨b, 0, none⟩), .agg #[.int .i64 y1, .int .i64 y2, .int .i64 y3]] W fun e w' => e = .returned (.bool true) ∧ Hid (∃ lv L ad d f c, BM W0 w' b p l G fs (.slice (some ⟨tb, tq, none⟩) ss.length tc) (.slice (some ⟨g, o, none⟩) nh hc) lv L ad d f c ∧ LTie c G f (hsT hv nh) L ad ∧ ad ≤ i + 1)) := fun W q => by
          obtain ⟨lv, L, ad, d, f, c, hB, hT, had⟩ := HB.out
          refine (turn_any (hB.stay q) HP.out hT (by omega) y1 y2 y3 hfit.out.2.1 hfit.out.2.2).mono ?_
          rintro e w' ⟨rfl, lv', L', ad', d', f', c', hB', hT', had', -⟩
          exact ⟨rfl, lv', L', ad', d', f', c', hB', hT', by omega⟩
        clear HB hfit
        go_wp2_with fail
        refine alloc1 (P := fun W => Calls _ _ _ W _) fun W2 hb2 hz2 k2 => ?_
        (with_reducible refine (hTu.out _ k2).mono ?_)
        rintro e w3 ⟨rfl, HB3⟩
        have hSh : Hid (Calls Tryz.prog 26 #[.pointer (some ⟨b, 0, none⟩)] w3 fun e w' => e = .returned (.bool true) ∧ Keeps w3 w' (fun _ => False)) := by
          obtain ⟨lv, L, ad, d, f, c, hB, hT, had⟩ := HB3.out
          exact shape_any hB HP.out hT
        clear hb2 hz2 k2 hTu x1 x2 x3
        go_wp2_with fail
        (with_reducible refine hSh.out.mono ?_)
        rintro e w4 ⟨rfl, k4⟩
        have HB4 : Hid (∃ lv L ad d f c, BM W0 w4 b p l G fs (.slice (some ⟨tb, tq, none⟩) ss.length tc) (.slice (some ⟨g, o, none⟩) nh hc) lv L ad d f c ∧ LTie c G f (hsT hv nh) L ad ∧ ad ≤ i + 1) := by
          obtain ⟨lv, L, ad, d, f, c, hB, hT, had⟩ := HB3.out
          exact ⟨lv, L, ad, d, f, c, hB.stay k4, hT, had⟩
        clear hSh HB3 k4
        go_wp2_with fail
        go_roundw
        case rel => exact ⟨i + 1, by go_num, by omega, HB4⟩
        case measure => simp [intOf]; omega
      · obtain rfl : i = ss.length := by omega
        have hlt' : ¬ (ss.length : Int) < (ss.length : Int) := by omega
        obtain ⟨lv, L, ad, d, f, c, hB, hT, had⟩ := HB.out
        have HK := hide (k0.trans hB.keep (fun _ _ e => e))
        clear HB hB hT had
        go_wp2_with fail
        go_ret
        exact ⟨rfl, HK.out⟩
end tableShape
end Go.Proofs.YtmdnknbolgedgaaGreatDoor
