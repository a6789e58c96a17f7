import Derived.Deep.DeepCutAuto
import Derived.Deep.LoopGhost
import Derived.Test.YtgckinldnnckoaaGreatDoorRows
import Derived.ProofKit
import Derived.LaidMore
import Derived.OpenShut
import Derived.Stop.Joined
import Derived.Lib.LaidTab
import Derived.Test.YtgckinldnnckoaaGreatDoorChecked
import Derived.WalkKit
import Derived.Below
import Derived.IntWalk
import Derived.Laws.Bits64
import Derived.Laws.BitsAll
import Derived.Deep.QuietTactic
import Derived.BigQuiet
import Derived.Test.YtgckinldnnckoaaGreatDoorPn19
/-
  SmallPins' walk (made by gensz6.py).
-/
namespace Go.Proofs.YtgckinldnnckoaaGreatDoor
open Go.RowKit Go.Shelf Ly Ct
set_option linter.unusedVariables false
/-- A row of marks: kind, number. -/
def MarksIn (w : World) (a : Option Addr) (ms : List (Int × Int)) : Prop := ms = [] ∨ ∃ b o, a = some ⟨b, o, none⟩ ∧ ∀ i (h : i < ms.length), w.cell? ⟨b, o + i * 2, none⟩ = some (.int .i64 ms[i].1) ∧ w.cell? ⟨b, o + i * 2 + 1, none⟩ = some (.int .i64 ms[i].2)
/-- The Bench behind some marks. -/
def PS (W0 W : World) (b p : Nat) (l : Lay) (q m nm seed : Nat) (X : Nat → Prop) (g : List UInt8 → Option Nat) (i : Nat) (pn nx : Int) (rt : Bool) : Prop := ∃ d f c ad, SB (if rt then 3 else 1, pn, nx, 65536) W0 b p l 16 q m nm seed X g d f c c ad W ∧ 0 ≤ ad ∧ ad ≤ (i : Int)
theorem PS.stay {W0 W W' : World} {b p : Nat} {l : Lay} {q m nm seed : Nat} {X : Nat → Prop} {g : List UInt8 → Option Nat} {i : Nat} {pn nx : Int} {rt : Bool} (h : PS W0 W b p l q m nm seed X g i pn nx rt) (k : Keeps W W' (fun _ => False)) : PS W0 W' b p l q m nm seed X g (i + 1) pn nx rt := by
  obtain ⟨d, f, c, ad, hB, h0, h1⟩ := h
  exact ⟨d, f, c, ad, hB.stay k, h0, by omega⟩
theorem wi_of {i n : Nat} (h : i ≤ n) (hn : n ≤ 8796093022208) : wrap64 ((i : Int) + 1) = (i : Int) + 1 ∧ IntKind.i64.wrap ((i : Int) + 1) = (i : Int) + 1 := by
  constructor
  · unfold wrap64; omega
  · rw [IntKind.wrap_i64]; omega
theorem wr62 {pn : Int} (h0 : 0 ≤ pn) (h1 : pn ≤ 4611686018427387904) : (wrap64 (-pn) = -pn ∧ IntKind.i64.wrap (-pn) = -pn) ∧ wrap64 (4611686018427387904 - pn) = 4611686018427387904 - pn ∧ IntKind.i64.wrap (4611686018427387904 - pn) = 4611686018427387904 - pn := by
  refine ⟨⟨?_, ?_⟩, ?_, ?_⟩
  · unfold wrap64; omega
  · rw [IntKind.wrap_i64]; omega
  · unfold wrap64; omega
  · rw [IntKind.wrap_i64]; omega
theorem wr63 {x : Int} (h0 : 0 ≤ x) (h1 : x ≤ 4611686018427387904) : wrap64 x = x ∧ IntKind.i64.wrap x = x := by
  constructor
  · unfold wrap64; omega
  · rw [IntKind.wrap_i64]; omega
namespace smallPins
set_option maxRecDepth 100000 in
set_option maxHeartbeats 40000000 in
theorem walk {w : World} {l : Lay} {fs : Value} {a : Option Addr} {cap seed : Nat} {os : List Oc.Ovr} {ta : Option Addr} {tc : Nat} {ss : List (Int × Int × Int)} (h : SPlan w l fs a cap seed os ta tc ss) {ma : Option Addr} {mc : Nat} {ms : List (Int × Int)} (hms : MarksIn w ma ms) (hfew : ms.length ≤ 8796093022208) (hfit : ∀ x ∈ ms, fitsI x.1 ∧ fitsI x.2) :
    Calls Tryz.prog 6 #[planV fs a os.length cap seed (.slice ta ss.length tc), .slice ma ms.length mc] w fun e w' => e = .returned (.bool true) ∧ Keeps w w' (fun _ => False) := by
  have hBe := hide h.bench
  have hTn : Hid (∀ i (hi : i < ms.length), ∃ tb tq, ma = some ⟨tb, tq, none⟩ ∧ ∀ W, Keeps w W (fun _ => False) → W.cell? ⟨tb, tq + i * 2, none⟩ = some (.int .i64 ms[i].1) ∧ W.cell? ⟨tb, tq + i * 2 + 1, none⟩ = some (.int .i64 ms[i].2)) := fun i hi => by
    rcases hms with rfl | ⟨tb, tq, e, hc⟩
    · simp at hi
    · obtain ⟨c1, c2⟩ := hc i hi
      exact ⟨tb, tq, e, fun W q => ⟨keeps_cell q id c1, keeps_cell q id c2⟩⟩
  have hFit := hide hfit
  have hNum := fun x W => snum_any x W
  have HE : Hid (∀ W b q m, Keeps w W (fun _ => False) → q ≠ b → m ≠ b → W.heap.size ≤ b → SEnv W b q m seed (Oc.mapN os os.length)) := fun W b q m k h1 h2 h3 => ⟨h.tab.kp (k.below (Nat.le_refl _) (fun _ _ e => e)), h.odd.kp (k.below (Nat.le_refl _) (fun _ _ e => e)), h.sd, h.gl, h1, h2, h3⟩
  clear h hms hfit
  unfold planV at hBe ⊢
  go_enter Tryz.func6, Tryz.ntmps6
  go_wp2_with fail
  refine alloc1 (P := fun W => Calls _ _ _ W _) fun W0 hb hz k0 => ?_
  (with_reducible refine (hBe.out _ k0).mono ?_)
  clear hBe
  rintro r w1 (⟨rfl, k1⟩ | ⟨b, p, q, m, d, X, rfl, hB, hqb, hmb, hwb⟩)
  · go_wp2_with fail
    go_ret
    exact ⟨rfl, k0.trans k1 (fun _ _ e => e)⟩
  · have HEn := hide (HE.out W0 b q m k0 hqb hmb hwb)
    obtain ⟨nm, hnm⟩ : ∃ nm, os.length = nm := ⟨_, rfl⟩
    obtain ⟨g, hg⟩ : ∃ g, Oc.mapN os os.length = g := ⟨_, rfl⟩
    rw [hg] at HEn
    have HB0 : Hid (PS W0 w1 b p l q m nm seed X g 0 0 0 false) := by
      rw [hg, hnm] at hB
      exact ⟨_, _, _, _, hB, Int.le_refl _, Int.le_refl _⟩
    have Hk0 := hide k0
    have Hfew := hide hfew
    clear HE hB hb hz hg hnm k0 d hfew
    generalize w.heap.size = B0 at *
    go_wp2_with fail
    go_loopg [8, 9, 10, 35] ms.length (fun gh v8 v9 v10 v35 wr => ∃ (i : Nat) (pn nx : Int) (rt : Bool), gh = ms.length - i ∧ i ≤ ms.length ∧ v35 = .int .i64 (i : Int) ∧ v8 = .int .i64 pn ∧ v9 = .int .i64 nx ∧ v10 = .bool rt ∧ Hid (0 ≤ pn) ∧ Hid (pn ≤ 4611686018427387904) ∧ Hid (PS W0 wr b p l q m nm seed X g i pn nx rt))
    case atStart => exact ⟨0, 0, 0, false, rfl, Nat.zero_le _, rfl, rfl, rfl, rfl, (by show (0 : Int) ≤ 0; decide), (by show (0 : Int) ≤ 4611686018427387904; decide), HB0⟩
    case round =>
      clear HB0
      obtain ⟨i, pn, nx, rt, rfl, hi, rfl, rfl, rfl, rfl, HP0, HP1, HPB⟩ := hrel
      by_cases hlt : i < ms.length
      · have hlt' : (i : Int) < (ms.length : Int) := by omega
        obtain ⟨tb, tq, hta, hcs⟩ := hTn.out i hlt
        have hf2 := hide (hFit.out _ (List.getElem_mem hlt)).2
        obtain ⟨x1, x2⟩ := hcs wr (Hk0.out.trans (by obtain ⟨_, _, _, _, q, -⟩ := HPB.out; exact q.own.keeps) (fun _ _ e => e))
        subst hta
        clear hcs
        generalize ms[i].1 = y1 at *
        generalize ms[i].2 = y2 at *
        go_upto_block 2 with fail
        refine alloc1 (P := fun W => Code.wp _ _ _ _ W) fun WA hbA hzA kA => ?_
        have HbA := hide hbA
        have HkA := hide kA
        have hB12 : Hid (wr.heap.size ≤ wr.heap.size ∧ wr.heap.size < WA.heap.size) := ⟨Nat.le_refl _, heap_lt hbA⟩
        have HPA : Hid (∃ d f c ad, SB (if rt then 3 else 1, pn, nx, 65536) W0 b p l 16 q m nm seed (fun z => X z ∨ z = wr.heap.size) g d f c c ad WA ∧ (0 ≤ ad ∧ ad ≤ (i : Int)) ∧ X b ∧ X q ∧ X m) := by
          obtain ⟨d, f, c, ad, hB, h0, h1⟩ := HPB.out
          exact ⟨d, f, c, ad, hB.box kA (Nat.le_refl _) (heap_lt hbA), ⟨h0, h1⟩, hB.xb, hB.xq, hB.xm⟩
        have HPN : Hid (∃ d f c ad, SB (if rt then 3 else 1, pn, nx, 65536) W0 b p l 16 q m nm seed X g d f c c ad WA ∧ (0 ≤ ad ∧ ad ≤ (i : Int))) := by
          obtain ⟨d, f, c, ad, hB, h0, h1⟩ := HPB.out
          exact ⟨d, f, c, ad, hB.stay kA, h0, h1⟩
        clear hbA hzA kA x1 x2 HPB
        generalize wr.heap.size = B12 at *
        have Hlt := hide hlt
        clear hlt hB12 hi
        go_cut [8, 9, 10] (fun s8 s9 s10 wx => ∃ (pn' nx' : Int) (rt' : Bool), s8 = .int .i64 pn' ∧ s9 = .int .i64 nx' ∧ s10 = .bool rt' ∧ Hid (0 ≤ pn') ∧ Hid (pn' ≤ 4611686018427387904) ∧ Hid (PS W0 wx b p l q m nm seed X g (i + 1) pn' nx' rt'))
        case first =>
          by_cases hk1 : y1 = 1
          · subst hk1
            by_cases hno : y2 < -pn ∨ 4611686018427387904 - pn < y2
            · as_aux_lemma =>
                obtain ⟨d, f, c, ad, hB, had, xb, xq, xm⟩ := HPA.out
                have o0 : WA.cell? ⟨B12, 0, none⟩ = some (.int .i64 1) := by have := HbA.out; simp only [World.cell?, this]; rfl
                have o1 : ∀ W : World, W.heap[B12]? = WA.heap[B12]? → W.cell? ⟨B12, 1, none⟩ = some (.int .i64 y2) := fun W q => by
                  have := q.trans HbA.out
                  simp only [World.cell?, this]
                  rfl
                have hSS : Hid (∀ W, Keeps WA W (fun _ => False) → (fun w' : World => (w'.cell? ⟨b, 11, none⟩ = some (.pointer (some ⟨p, 0, none⟩)) ∧ w'.cell? ⟨b, 12, none⟩ = some (.int .i64 l.k) ∧ w'.cell? ⟨b, 13, none⟩ = some (.int .i64 l.e) ∧ w'.cell? ⟨b, 14, none⟩ = some (.int .i64 l.a) ∧ w'.cell? ⟨b, 15, none⟩ = some (.int .i64 l.b) ∧ w'.cell? ⟨b, 16, none⟩ = some (.int .i64 l.c) ∧ w'.cell? ⟨b, 17, none⟩ = some (.int .i64 l.eo) ∧ w'.cell? ⟨b, 18, none⟩ = some (.int .i64 l.bo) ∧ w'.cell? ⟨b, 19, none⟩ = some (.int .i64 l.s) ∧ w'.cell? ⟨b, 20, none⟩ = some (.int .i64 l.g) ∧ w'.cell? ⟨b, 21, none⟩ = some (.int .i64 (16 : Int))) ∧ w'.cell? ⟨B12, 1, none⟩ = some (.int .i64 y2)) W) := fun W k => ⟨(hB.stay k).bn.small, o1 W (k.block _ (heap_lt HbA.out) id)⟩
                have hPin : Hid (∀ W, Keeps WA W (fun _ => False) → Calls Tryz.prog 18 #[.agg #[.pointer (some ⟨p, 0, none⟩), .int .i64 l.k, .int .i64 l.e, .int .i64 l.a, .int .i64 l.b, .int .i64 l.c, .int .i64 l.eo, .int .i64 l.bo, .int .i64 l.s, .int .i64 l.g, .int .i64 (16 : Int)], .int .i64 y2] W fun e w' => e = .returned (.tuple #[.int .i64 0, .int .i64 83]) ∧ Keeps W w' (fun _ => False)) := fun W k => sb_pin_no (hB.stay k) y2 hf2.out HP0.out HP1.out hno
                have HT0 : Hid (∀ W, Keeps WA W (fun _ => False) → PS W0 W b p l q m nm seed X g (i + 1) pn nx rt) := fun W k => ⟨d, f, c, ad, (hB.stay k).less xb xq xm, had.1, by omega⟩
                have KD : Keeps WA WA.drew (fun _ => False) := (Keeps.refl _ _).drew
                have SD := hSS.out _ KD
                clear hB had xb xq xm o0 o1 d f c ad HPA
                go_wp2_with fail
                go_region_held3 (fun w' : World => (w'.cell? ⟨b, 11, none⟩ = some (.pointer (some ⟨p, 0, none⟩)) ∧ w'.cell? ⟨b, 12, none⟩ = some (.int .i64 l.k) ∧ w'.cell? ⟨b, 13, none⟩ = some (.int .i64 l.e) ∧ w'.cell? ⟨b, 14, none⟩ = some (.int .i64 l.a) ∧ w'.cell? ⟨b, 15, none⟩ = some (.int .i64 l.b) ∧ w'.cell? ⟨b, 16, none⟩ = some (.int .i64 l.c) ∧ w'.cell? ⟨b, 17, none⟩ = some (.int .i64 l.eo) ∧ w'.cell? ⟨b, 18, none⟩ = some (.int .i64 l.bo) ∧ w'.cell? ⟨b, 19, none⟩ = some (.int .i64 l.s) ∧ w'.cell? ⟨b, 20, none⟩ = some (.int .i64 l.g) ∧ w'.cell? ⟨b, 21, none⟩ = some (.int .i64 (16 : Int))) ∧ w'.cell? ⟨B12, 1, none⟩ = some (.int .i64 y2)) (with_reducible assumption)
                  (first | (go_at_call 18; (with_reducible refine (hPin.out _ KD).mono ?_); rintro r WT ⟨rfl, kP'⟩; have kP := KD.trans kP' (fun _ _ e => e); have SA := hSS.out _ kP))
                obtain ⟨-, sm⟩ := SA
                have HT := hide (HT0.out _ kP)
                obtain ⟨⟨wn1, wn2⟩, ws1, ws2⟩ := wr62 HP0.out HP1.out
                clear SD kP kP' KD hPin HT0 hSS
                by_cases hlo : y2 < -pn
                · go_wp2_with fail
                  (with_reducible refine (hNum _ _).mono ?_)
                  rintro r wC ⟨rfl, rfl⟩
                  go_wp2_with fail
                  go_meet
                  case rel => exact ⟨pn, nx, rt, rfl, rfl, rfl, HP0, HP1, HT⟩
                · have hhi : 4611686018427387904 - pn < y2 := hno.resolve_left hlo
                  go_wp2_with fail
                  (with_reducible refine (hNum _ _).mono ?_)
                  rintro r wC ⟨rfl, rfl⟩
                  go_wp2_with fail
                  go_meet
                  case rel => exact ⟨pn, nx, rt, rfl, rfl, rfl, HP0, HP1, HT⟩
            · as_aux_lemma =>
                have hlo : ¬ y2 < -pn := fun q => hno (Or.inl q)
                have hhi : ¬ 4611686018427387904 - pn < y2 := fun q => hno (Or.inr q)
                obtain ⟨d, f, c, ad, hB, had, xb, xq, xm⟩ := HPA.out
                have o0 : WA.cell? ⟨B12, 0, none⟩ = some (.int .i64 1) := by have := HbA.out; simp only [World.cell?, this]; rfl
                have o1 : ∀ W : World, W.heap[B12]? = WA.heap[B12]? → W.cell? ⟨B12, 1, none⟩ = some (.int .i64 y2) := fun W q => by
                  have := q.trans HbA.out
                  simp only [World.cell?, this]
                  rfl
                have KD : Keeps WA WA.drew (fun _ => False) := (Keeps.refl _ _).drew
                have SD : (fun w' : World => (w'.cell? ⟨b, 11, none⟩ = some (.pointer (some ⟨p, 0, none⟩)) ∧ w'.cell? ⟨b, 12, none⟩ = some (.int .i64 l.k) ∧ w'.cell? ⟨b, 13, none⟩ = some (.int .i64 l.e) ∧ w'.cell? ⟨b, 14, none⟩ = some (.int .i64 l.a) ∧ w'.cell? ⟨b, 15, none⟩ = some (.int .i64 l.b) ∧ w'.cell? ⟨b, 16, none⟩ = some (.int .i64 l.c) ∧ w'.cell? ⟨b, 17, none⟩ = some (.int .i64 l.eo) ∧ w'.cell? ⟨b, 18, none⟩ = some (.int .i64 l.bo) ∧ w'.cell? ⟨b, 19, none⟩ = some (.int .i64 l.s) ∧ w'.cell? ⟨b, 20, none⟩ = some (.int .i64 l.g) ∧ w'.cell? ⟨b, 21, none⟩ = some (.int .i64 (16 : Int))) ∧ w'.cell? ⟨B12, 1, none⟩ = some (.int .i64 y2)) WA.drew := ⟨(hB.stay KD).bn.small, o1 WA.drew rfl⟩
                have hPin : Calls Tryz.prog 18 #[.agg #[.pointer (some ⟨p, 0, none⟩), .int .i64 l.k, .int .i64 l.e, .int .i64 l.a, .int .i64 l.b, .int .i64 l.c, .int .i64 l.eo, .int .i64 l.bo, .int .i64 l.s, .int .i64 l.g, .int .i64 (16 : Int)], .int .i64 y2] WA.drew fun e w' => e = .returned (.tuple #[.int .i64 (pn + y2), .int .i64 0]) ∧ (fun w' : World => (w'.cell? ⟨b, 11, none⟩ = some (.pointer (some ⟨p, 0, none⟩)) ∧ w'.cell? ⟨b, 12, none⟩ = some (.int .i64 l.k) ∧ w'.cell? ⟨b, 13, none⟩ = some (.int .i64 l.e) ∧ w'.cell? ⟨b, 14, none⟩ = some (.int .i64 l.a) ∧ w'.cell? ⟨b, 15, none⟩ = some (.int .i64 l.b) ∧ w'.cell? ⟨b, 16, none⟩ = some (.int .i64 l.c) ∧ w'.cell? ⟨b, 17, none⟩ = some (.int .i64 l.eo) ∧ w'.cell? ⟨b, 18, none⟩ = some (.int .i64 l.bo) ∧ w'.cell? ⟨b, 19, none⟩ = some (.int .i64 l.s) ∧ w'.cell? ⟨b, 20, none⟩ = some (.int .i64 l.g) ∧ w'.cell? ⟨b, 21, none⟩ = some (.int .i64 (16 : Int))) ∧ w'.cell? ⟨B12, 1, none⟩ = some (.int .i64 y2)) w' ∧ Hid (PS W0 w' b p l q m nm seed X g (i + 1) (pn + y2) nx rt) := by
                  refine (sb_pin_yes (hB.stay KD) y2 HP0.out HP1.out (by show -pn ≤ y2; omega) (by show y2 ≤ 4611686018427387904 - pn; omega)).mono ?_
                  rintro e w' ⟨rfl, ⟨d', f', hB'⟩, hX⟩
                  exact ⟨rfl, ⟨hB'.bn.small, o1 w' (hX B12 (Or.inr rfl))⟩, d', f', c, ad, hB'.less xb xq xm, had.1, by omega⟩
                have HQ0 : Hid (0 ≤ pn + y2) := by show 0 ≤ pn + y2; omega
                have HQ1 : Hid (pn + y2 ≤ 4611686018427387904) := by show pn + y2 ≤ 4611686018427387904; omega
                clear hB had xb xq xm o1 d f c ad HPA KD
                go_wp2_with fail
                go_region_held3 (fun w' : World => (w'.cell? ⟨b, 11, none⟩ = some (.pointer (some ⟨p, 0, none⟩)) ∧ w'.cell? ⟨b, 12, none⟩ = some (.int .i64 l.k) ∧ w'.cell? ⟨b, 13, none⟩ = some (.int .i64 l.e) ∧ w'.cell? ⟨b, 14, none⟩ = some (.int .i64 l.a) ∧ w'.cell? ⟨b, 15, none⟩ = some (.int .i64 l.b) ∧ w'.cell? ⟨b, 16, none⟩ = some (.int .i64 l.c) ∧ w'.cell? ⟨b, 17, none⟩ = some (.int .i64 l.eo) ∧ w'.cell? ⟨b, 18, none⟩ = some (.int .i64 l.bo) ∧ w'.cell? ⟨b, 19, none⟩ = some (.int .i64 l.s) ∧ w'.cell? ⟨b, 20, none⟩ = some (.int .i64 l.g) ∧ w'.cell? ⟨b, 21, none⟩ = some (.int .i64 (16 : Int))) ∧ w'.cell? ⟨B12, 1, none⟩ = some (.int .i64 y2)) (with_reducible assumption)
                  (first | (go_at_call 18; (with_reducible refine hPin.mono ?_); rintro r WT ⟨rfl, SA, HT⟩))
                obtain ⟨-, sm⟩ := SA
                obtain ⟨⟨wn1, wn2⟩, ws1, ws2⟩ := wr62 HP0.out HP1.out
                obtain ⟨wt1, wt2⟩ := wr63 HQ0.out HQ1.out
                clear SD hPin
                go_wp2_with fail
                (with_reducible refine (hNum _ _).mono ?_)
                rintro r wC ⟨rfl, rfl⟩
                go_wp2_with fail
                go_meet
                case rel => exact ⟨(pn + y2), nx, rt, rfl, rfl, rfl, HQ0, HQ1, HT⟩
          · by_cases hk2 : y1 = 2
            · subst hk2
              as_aux_lemma =>
                obtain ⟨d, f, c, ad, hB, had, xb, xq, xm⟩ := HPA.out
                have o0 : WA.cell? ⟨B12, 0, none⟩ = some (.int .i64 2) := by have := HbA.out; simp only [World.cell?, this]; rfl
                have o1 : ∀ W : World, W.heap[B12]? = WA.heap[B12]? → W.cell? ⟨B12, 1, none⟩ = some (.int .i64 y2) := fun W q => by
                  have := q.trans HbA.out
                  simp only [World.cell?, this]
                  rfl
                have KD : Keeps WA WA.drew (fun _ => False) := (Keeps.refl _ _).drew
                have o1A := o1 WA rfl
                have SD : (fun w' : World => (w'.cell? ⟨b, 11, none⟩ = some (.pointer (some ⟨p, 0, none⟩)) ∧ w'.cell? ⟨b, 12, none⟩ = some (.int .i64 l.k) ∧ w'.cell? ⟨b, 13, none⟩ = some (.int .i64 l.e) ∧ w'.cell? ⟨b, 14, none⟩ = some (.int .i64 l.a) ∧ w'.cell? ⟨b, 15, none⟩ = some (.int .i64 l.b) ∧ w'.cell? ⟨b, 16, none⟩ = some (.int .i64 l.c) ∧ w'.cell? ⟨b, 17, none⟩ = some (.int .i64 l.eo) ∧ w'.cell? ⟨b, 18, none⟩ = some (.int .i64 l.bo) ∧ w'.cell? ⟨b, 19, none⟩ = some (.int .i64 l.s) ∧ w'.cell? ⟨b, 20, none⟩ = some (.int .i64 l.g) ∧ w'.cell? ⟨b, 21, none⟩ = some (.int .i64 (16 : Int))) ∧ w'.cell? ⟨B12, 1, none⟩ = some (.int .i64 y2)) WA.drew := ⟨(hB.stay KD).bn.small, o1 WA.drew rfl⟩
                have hCa : Calls Tryz.prog 19 #[.agg #[.pointer (some ⟨p, 0, none⟩), .int .i64 l.k, .int .i64 l.e, .int .i64 l.a, .int .i64 l.b, .int .i64 l.c, .int .i64 l.eo, .int .i64 l.bo, .int .i64 l.s, .int .i64 l.g, .int .i64 (16 : Int)], .int .i64 y2] WA.drew fun e w' => e = .returned (.int .i64 0) ∧ (fun w' : World => (w'.cell? ⟨b, 11, none⟩ = some (.pointer (some ⟨p, 0, none⟩)) ∧ w'.cell? ⟨b, 12, none⟩ = some (.int .i64 l.k) ∧ w'.cell? ⟨b, 13, none⟩ = some (.int .i64 l.e) ∧ w'.cell? ⟨b, 14, none⟩ = some (.int .i64 l.a) ∧ w'.cell? ⟨b, 15, none⟩ = some (.int .i64 l.b) ∧ w'.cell? ⟨b, 16, none⟩ = some (.int .i64 l.c) ∧ w'.cell? ⟨b, 17, none⟩ = some (.int .i64 l.eo) ∧ w'.cell? ⟨b, 18, none⟩ = some (.int .i64 l.bo) ∧ w'.cell? ⟨b, 19, none⟩ = some (.int .i64 l.s) ∧ w'.cell? ⟨b, 20, none⟩ = some (.int .i64 l.g) ∧ w'.cell? ⟨b, 21, none⟩ = some (.int .i64 (16 : Int))) ∧ w'.cell? ⟨B12, 1, none⟩ = some (.int .i64 y2)) w' ∧ Hid (PS W0 w' b p l q m nm seed X g (i + 1) pn y2 true) := by
                  refine (sb_retire (hB.stay KD) y2 hf2.out).mono ?_
                  rintro e w' ⟨rfl, ⟨d', f', hB'⟩, hX⟩
                  exact ⟨rfl, ⟨hB'.bn.small, o1 w' (hX B12 (Or.inr rfl))⟩, d', f', c, ad, hB'.less xb xq xm, had.1, by omega⟩
                clear hB had xb xq xm o1 d f c ad HPA KD
                go_wp2_with fail
                go_region_held3 (fun w' : World => (w'.cell? ⟨b, 11, none⟩ = some (.pointer (some ⟨p, 0, none⟩)) ∧ w'.cell? ⟨b, 12, none⟩ = some (.int .i64 l.k) ∧ w'.cell? ⟨b, 13, none⟩ = some (.int .i64 l.e) ∧ w'.cell? ⟨b, 14, none⟩ = some (.int .i64 l.a) ∧ w'.cell? ⟨b, 15, none⟩ = some (.int .i64 l.b) ∧ w'.cell? ⟨b, 16, none⟩ = some (.int .i64 l.c) ∧ w'.cell? ⟨b, 17, none⟩ = some (.int .i64 l.eo) ∧ w'.cell? ⟨b, 18, none⟩ = some (.int .i64 l.bo) ∧ w'.cell? ⟨b, 19, none⟩ = some (.int .i64 l.s) ∧ w'.cell? ⟨b, 20, none⟩ = some (.int .i64 l.g) ∧ w'.cell? ⟨b, 21, none⟩ = some (.int .i64 (16 : Int))) ∧ w'.cell? ⟨B12, 1, none⟩ = some (.int .i64 y2)) (with_reducible assumption)
                  (first | (go_at_call 19; (with_reducible refine hCa.mono ?_); rintro r WT ⟨rfl, SA, HT⟩) | (go_at_call 12; (with_reducible refine (hNum _ _).mono ?_); rintro r wN ⟨rfl, rfl⟩))
                clear SD hCa
                go_wp2_with fail
                go_meet
                case rel => exact ⟨pn, y2, true, rfl, rfl, rfl, HP0, HP1, HT⟩
            · by_cases hk3 : y1 = 3
              · subst hk3
                as_aux_lemma =>
                  obtain ⟨d, f, c, ad, hB, had, xb, xq, xm⟩ := HPA.out
                  have o0 : WA.cell? ⟨B12, 0, none⟩ = some (.int .i64 3) := by have := HbA.out; simp only [World.cell?, this]; rfl
                  have o1 : ∀ W : World, W.heap[B12]? = WA.heap[B12]? → W.cell? ⟨B12, 1, none⟩ = some (.int .i64 y2) := fun W q => by
                    have := q.trans HbA.out
                    simp only [World.cell?, this]
                    rfl
                  have KD : Keeps WA WA.drew (fun _ => False) := (Keeps.refl _ _).drew
                  have o1A := o1 WA rfl
                  have SD : (fun w' : World => (w'.cell? ⟨b, 11, none⟩ = some (.pointer (some ⟨p, 0, none⟩)) ∧ w'.cell? ⟨b, 12, none⟩ = some (.int .i64 l.k) ∧ w'.cell? ⟨b, 13, none⟩ = some (.int .i64 l.e) ∧ w'.cell? ⟨b, 14, none⟩ = some (.int .i64 l.a) ∧ w'.cell? ⟨b, 15, none⟩ = some (.int .i64 l.b) ∧ w'.cell? ⟨b, 16, none⟩ = some (.int .i64 l.c) ∧ w'.cell? ⟨b, 17, none⟩ = some (.int .i64 l.eo) ∧ w'.cell? ⟨b, 18, none⟩ = some (.int .i64 l.bo) ∧ w'.cell? ⟨b, 19, none⟩ = some (.int .i64 l.s) ∧ w'.cell? ⟨b, 20, none⟩ = some (.int .i64 l.g) ∧ w'.cell? ⟨b, 21, none⟩ = some (.int .i64 (16 : Int))) ∧ w'.cell? ⟨B12, 1, none⟩ = some (.int .i64 y2)) WA.drew := ⟨(hB.stay KD).bn.small, o1 WA.drew rfl⟩
                  have hCa : Calls Tryz.prog 20 #[.agg #[.pointer (some ⟨p, 0, none⟩), .int .i64 l.k, .int .i64 l.e, .int .i64 l.a, .int .i64 l.b, .int .i64 l.c, .int .i64 l.eo, .int .i64 l.bo, .int .i64 l.s, .int .i64 l.g, .int .i64 (16 : Int)], .int .i64 y2] WA.drew fun e w' => e = .returned (.int .i64 0) ∧ (fun w' : World => (w'.cell? ⟨b, 11, none⟩ = some (.pointer (some ⟨p, 0, none⟩)) ∧ w'.cell? ⟨b, 12, none⟩ = some (.int .i64 l.k) ∧ w'.cell? ⟨b, 13, none⟩ = some (.int .i64 l.e) ∧ w'.cell? ⟨b, 14, none⟩ = some (.int .i64 l.a) ∧ w'.cell? ⟨b, 15, none⟩ = some (.int .i64 l.b) ∧ w'.cell? ⟨b, 16, none⟩ = some (.int .i64 l.c) ∧ w'.cell? ⟨b, 17, none⟩ = some (.int .i64 l.eo) ∧ w'.cell? ⟨b, 18, none⟩ = some (.int .i64 l.bo) ∧ w'.cell? ⟨b, 19, none⟩ = some (.int .i64 l.s) ∧ w'.cell? ⟨b, 20, none⟩ = some (.int .i64 l.g) ∧ w'.cell? ⟨b, 21, none⟩ = some (.int .i64 (16 : Int))) ∧ w'.cell? ⟨B12, 1, none⟩ = some (.int .i64 y2)) w' ∧ Hid (PS W0 w' b p l q m nm seed X g (i + 1) pn y2 rt) := by
                    refine (sb_next (hB.stay KD) y2 hf2.out).mono ?_
                    rintro e w' ⟨rfl, ⟨d', f', hB'⟩, hX⟩
                    exact ⟨rfl, ⟨hB'.bn.small, o1 w' (hX B12 (Or.inr rfl))⟩, d', f', c, ad, hB'.less xb xq xm, had.1, by omega⟩
                  clear hB had xb xq xm o1 d f c ad HPA KD
                  go_wp2_with fail
                  go_region_held3 (fun w' : World => (w'.cell? ⟨b, 11, none⟩ = some (.pointer (some ⟨p, 0, none⟩)) ∧ w'.cell? ⟨b, 12, none⟩ = some (.int .i64 l.k) ∧ w'.cell? ⟨b, 13, none⟩ = some (.int .i64 l.e) ∧ w'.cell? ⟨b, 14, none⟩ = some (.int .i64 l.a) ∧ w'.cell? ⟨b, 15, none⟩ = some (.int .i64 l.b) ∧ w'.cell? ⟨b, 16, none⟩ = some (.int .i64 l.c) ∧ w'.cell? ⟨b, 17, none⟩ = some (.int .i64 l.eo) ∧ w'.cell? ⟨b, 18, none⟩ = some (.int .i64 l.bo) ∧ w'.cell? ⟨b, 19, none⟩ = some (.int .i64 l.s) ∧ w'.cell? ⟨b, 20, none⟩ = some (.int .i64 l.g) ∧ w'.cell? ⟨b, 21, none⟩ = some (.int .i64 (16 : Int))) ∧ w'.cell? ⟨B12, 1, none⟩ = some (.int .i64 y2)) (with_reducible assumption)
                    (first | (go_at_call 20; (with_reducible refine hCa.mono ?_); rintro r WT ⟨rfl, SA, HT⟩) | (go_at_call 12; (with_reducible refine (hNum _ _).mono ?_); rintro r wN ⟨rfl, rfl⟩))
                  clear SD hCa
                  go_wp2_with fail
                  go_meet
                  case rel => exact ⟨pn, y2, rt, rfl, rfl, rfl, HP0, HP1, HT⟩
              · by_cases hk4 : y1 = 4
                · subst hk4
                  as_aux_lemma =>
                    obtain ⟨d, f, c, ad, hB, had⟩ := HPN.out
                    have o0 : WA.cell? ⟨B12, 0, none⟩ = some (.int .i64 4) := by have := HbA.out; simp only [World.cell?, this]; rfl
                    have o1 : ∀ W : World, W.heap[B12]? = WA.heap[B12]? → W.cell? ⟨B12, 1, none⟩ = some (.int .i64 y2) := fun W q => by
                      have := q.trans HbA.out
                      simp only [World.cell?, this]
                      rfl
                    have o1A := o1 WA rfl
                    have hfw := Hfew.out
                    have hll := Hlt.out
                    have hTu : Calls Tryz.prog 9 #[.pointer (some ⟨b, 0, none⟩), .agg #[.int .i64 1, .int .i64 y2, .int .i64 y2]] WA fun e w' => e = .returned (.bool true) ∧ Hid (PS W0 w' b p l q m nm seed X g (i + 1) pn nx rt) := by
                      refine (turn_any hB HEn.out had.1 (by omega) 1 y2 y2 hf2.out).mono ?_
                      rintro e w' ⟨rfl, d', f', c', ad', hB', h0', h1'⟩
                      exact ⟨rfl, d', f', c', ad', hB', h0', by omega⟩
                    clear hB had o1 d f c ad HPA HPN hfw hll
                    go_wp2_with fail
                    (with_reducible refine hTu.mono ?_)
                    rintro r WT ⟨rfl, HT⟩
                    clear hTu
                    go_wp2_with fail
                    go_meet
                    case rel => exact ⟨pn, nx, rt, rfl, rfl, rfl, HP0, HP1, HT⟩
                · as_aux_lemma =>
                    have e1 : (y1 == 1) = false := beq_eq_false_iff_ne.2 hk1
                    have e2 : (y1 == 2) = false := beq_eq_false_iff_ne.2 hk2
                    have e3 : (y1 == 3) = false := beq_eq_false_iff_ne.2 hk3
                    have e4 : (y1 == 4) = false := beq_eq_false_iff_ne.2 hk4
                    have HT : Hid (PS W0 WA b p l q m nm seed X g (i + 1) pn nx rt) := by
                      obtain ⟨d, f, c, ad, hB, had⟩ := HPN.out
                      exact ⟨d, f, c, ad, hB, had.1, by omega⟩
                    clear hk1 hk2 hk3 hk4
                    go_wp2_with fail
                    go_meet
                    case rel => exact ⟨pn, nx, rt, rfl, rfl, rfl, HP0, HP1, HT⟩
        case rest => as_aux_lemma =>
          clear HPA HPN HbA HkA HP0 HP1 hf2
          obtain ⟨pn', nx', rt', rfl, rfl, rfl, HP0, HP1, HT⟩ := hcut
          obtain ⟨d, f, c, ad, hB, had⟩ := HT.out
          have HC : Hid (∀ j, j < 8 → ∀ W, Keeps wc W (fun _ => False) → Calls Tryz.prog 21 #[.agg #[.pointer (some ⟨p, 0, none⟩), .int .i64 l.k, .int .i64 l.e, .int .i64 l.a, .int .i64 l.b, .int .i64 l.c, .int .i64 l.eo, .int .i64 l.bo, .int .i64 l.s, .int .i64 l.g, .int .i64 (16 : Int)], .int .i64 ((j : Nat) : Int)] W fun e w' => CellPost W (c j) 0 e w') := fun j hj W k => scell_yes (hB.own.stay k).here hB.fine hB.sm j hj
          have HS : Hid (∀ W, Keeps wc W (fun _ => False) → Calls Tryz.prog 11 #[.agg #[.pointer (some ⟨p, 0, none⟩), .int .i64 l.k, .int .i64 l.e, .int .i64 l.a, .int .i64 l.b, .int .i64 l.c, .int .i64 l.eo, .int .i64 l.bo, .int .i64 l.s, .int .i64 l.g, .int .i64 (16 : Int)]] W fun e w' => e = .returned (.tuple #[.agg #[.int .i64 ((cntF c 8 : Nat) : Int), .int .i64 pn', .int .i64 nx', .bool rt'], .int .i64 0]) ∧ Keeps W w' (fun _ => False)) := fun W k => by
            have := sstat_sm (hB.own.stay k).here hB.fine hB.sm
            unfold statS at this
            rw [show f 1 = pn' from hB.f1, show f 2 = nx' from hB.f2, hB.f3, show f 0 = (if rt' then 3 else 1) from hB.f0] at this
            rw [show ((if rt' = true then (3 : Int) else 1) == 3) = rt' by cases rt' <;> rfl] at this
            exact this
          obtain ⟨kn, hkn⟩ : ∃ kn : Int, (if rt' = true then (3 : Int) else 1) = kn := ⟨_, rfl⟩
          have HKi : Hid (∀ W, Keeps wc W (fun _ => False) → Calls Tryz.prog 22 #[.pointer (some ⟨p, 0, none⟩), .int .i64 (16 : Int), .int .i64 8] W fun e w' => e = .returned (.tuple #[.int .u64 kn, .int .i64 0]) ∧ Keeps W w' (fun _ => False)) := fun W k => by
            have := sb_kind (hB.stay k) (if rt' then 3 else 1) (by cases rt' <;> rfl) (by cases rt' <;> simp)
            rw [show (((if rt' = true then 3 else 1 : Nat)) : Int) = (if rt' = true then 3 else 1) by cases rt' <;> rfl, hkn] at this
            exact this
          have HBn : Hid (∀ W, Keeps wc W (fun _ => False) → BN b p l 16 q seed c ad W) := fun W k => hB.bn.keeps k id
          have HFin : Hid (∀ W, Keeps wc W (fun _ => False) → PS W0 W b p l q m nm seed X g (i + 1) pn' nx' rt') := fun W k => ⟨d, f, c, ad, hB.stay k, had⟩
          have HKn := hide hkn
          clear hB had HT d f hkn
          go_wp2_with fail
          go_loopg [15, 16] 8 (fun gh v15 v16 wr2 => ∃ j : Nat, gh = 8 - j ∧ v16 = .int .i64 (j : Int) ∧ j ≤ 8 ∧ v15 = .int .i64 ((cntF c j : Nat) : Int) ∧ Keeps wc wr2 (fun _ => False))
          case atStart => exact ⟨0, rfl, rfl, Nat.zero_le _, rfl, Keeps.refl _ _⟩
          case round =>
            obtain ⟨j, rfl, rfl, hj, rfl, K⟩ := hrel
            by_cases hjl : j < 8
            · have hjl' : (j : Int) < 8 := by omega
              have hj0 : (0 : Int) ≤ (j : Int) := by omega
              have hC := HC.out j hjl wr K
              obtain ⟨s0, s1, s2, s3, s4, s5, s6, s7, s8, s9, s10⟩ := (HBn.out wr K).small
              have hn : cntF c (j + 1) = cntF c j + if (c j).kind = 2 then 1 else 0 := rfl
              have HN := hide hn
              have HAt := hide (fun W (k : Keeps wr W (fun _ => False)) => (HBn.out W (K.trans k (fun _ _ e => e))).at hjl)
              have HK := hide K
              have Hj : Hid (j + 1 ≤ 8) := hjl
              have Hms : Hid (8 - (j + 1) < 8 - j) := by show 8 - (j + 1) < 8 - j; omega
              have hw1 := hide (wr8 (i := j) (by omega))
              have hw2 := hide (wr8 (i := cntF c j) (by have := cntF_le c j; omega))
              clear K hj hn
              obtain ⟨n1, hn1⟩ : ∃ n1, cntF c (j + 1) = n1 := ⟨_, rfl⟩
              rw [hn1] at HN
              have HN1 := hide hn1
              clear hn1
              obtain ⟨n0, hn0⟩ : ∃ n0, cntF c j = n0 := ⟨_, rfl⟩
              rw [hn0] at HN hw2 ⊢
              clear hn0
              generalize c j = x at *
              obtain ⟨xk, xt, xy, xe, xb⟩ := x
              unfold CellPost GC.val at hC
              dsimp only at *
              go_wp2_with fail
              (with_reducible refine hC.mono ?_)
              rintro r w3 ⟨rfl, k3⟩
              clear hC s0 s1 s2 s3 s4 s5 s6 s7 s8 s9 s10
              go_upto_region 35 with fail
              refine alloc1 (P := fun W => Code.wp _ _ _ _ W) fun W4 hb4 hz4 k4 => ?_
              have k34 : Keeps wr W4 (fun _ => False) := k3.trans k4 (fun _ _ e => e)
              obtain ⟨d0, d1, d2, d3, d4, -⟩ := five_cells hb4
              obtain ⟨e0, e1, e2, e3, e4⟩ := HAt.out W4 k34
              have K4 := hide (HK.out.trans k34 (fun _ _ e => e))
              have hy : (xy.toList == xy.toList) = true := by simp
              have hz : (xe.toList == xe.toList) = true := by simp
              clear hb4 hz4 k4 k3 k34 HAt
              generalize w3.heap.size = B4 at *
              have S0 : (fun w' : World => (w'.cell? ⟨B4, 0, none⟩ = some (.int .i64 xk) ∧ w'.cell? ⟨B4, 1, none⟩ = some (.int .i64 xt) ∧ w'.cell? ⟨B4, 2, none⟩ = some (.string xy) ∧ w'.cell? ⟨B4, 3, none⟩ = some (.string xe) ∧ w'.cell? ⟨B4, 4, none⟩ = some (.int .i64 xb)) ∧ w'.cell? ⟨b, 26 + j * 5, none⟩ = some (.int .i64 xk) ∧ w'.cell? ⟨b, 26 + j * 5 + 1, none⟩ = some (.int .i64 xt) ∧ w'.cell? ⟨b, 26 + j * 5 + 2, none⟩ = some (.string xy) ∧ w'.cell? ⟨b, 26 + j * 5 + 3, none⟩ = some (.string xe) ∧ w'.cell? ⟨b, 26 + j * 5 + 4, none⟩ = some (.int .i64 xb)) W4.drew := ⟨⟨d0, d1, d2, d3, d4⟩, e0, e1, e2, e3, e4⟩
              go_wp2_with fail
              go_region_held3 (fun w' : World => (w'.cell? ⟨B4, 0, none⟩ = some (.int .i64 xk) ∧ w'.cell? ⟨B4, 1, none⟩ = some (.int .i64 xt) ∧ w'.cell? ⟨B4, 2, none⟩ = some (.string xy) ∧ w'.cell? ⟨B4, 3, none⟩ = some (.string xe) ∧ w'.cell? ⟨B4, 4, none⟩ = some (.int .i64 xb)) ∧ w'.cell? ⟨b, 26 + j * 5, none⟩ = some (.int .i64 xk) ∧ w'.cell? ⟨b, 26 + j * 5 + 1, none⟩ = some (.int .i64 xt) ∧ w'.cell? ⟨b, 26 + j * 5 + 2, none⟩ = some (.string xy) ∧ w'.cell? ⟨b, 26 + j * 5 + 3, none⟩ = some (.string xe) ∧ w'.cell? ⟨b, 26 + j * 5 + 4, none⟩ = some (.int .i64 xb)) (first | with_reducible exact S0 | with_reducible assumption) (first | (go_at_call 12; (with_reducible refine (hNum _ _).mono ?_); rintro r w6 ⟨rfl, rfl⟩))
              all_goals (
                clear S0
                by_cases hx : xk = 2
                · subst hx
                  have hn2 : n1 = n0 + 1 := by rw [HN.out, if_pos rfl]
                  subst hn2
                  have HKd := hide K4.out.drew
                  obtain ⟨a6, a7⟩ := hw1.out
                  obtain ⟨b6, b7⟩ := hw2.out
                  go_wp2_with fail
                  go_roundg (8 - (j + 1))
                  case measure => exact Hms.out
                  case rel => exact ⟨j + 1, rfl, by go_num, Hj.out, by rw [HN1.out]; go_num, HKd.out⟩
                · have hn2 : n1 = n0 := by rw [HN.out, if_neg hx]; rfl
                  subst hn2
                  have hx' : (xk == 2) = false := beq_eq_false_iff_ne.2 hx
                  have HKd := hide K4.out.drew
                  obtain ⟨a6, a7⟩ := hw1.out
                  clear hx
                  go_wp2_with fail
                  go_roundg (8 - (j + 1))
                  case measure => exact Hms.out
                  case rel => exact ⟨j + 1, rfl, by go_num, Hj.out, by rw [HN1.out], HKd.out⟩)
            · obtain rfl : j = 8 := by omega
              have hS := HS.out wr K
              obtain ⟨s0, s1, s2, s3, s4, s5, s6, s7, s8, s9, s10⟩ := (HBn.out wr K).small
              have HK := hide K
              clear K HC HS hj hjl
              generalize ((cntF c 8 : Nat) : Int) = N at *
              go_wp2_with fail
              (with_reducible refine hS.mono ?_)
              rintro r w3 ⟨rfl, k3⟩
              have K3 := hide (HK.out.trans k3 (fun _ _ e => e))
              clear hS s0 s1 s2 s3 s4 s5 s6 s7 s8 s9 s10 k3
              go_upto_region 40 with fail
              refine alloc1 (P := fun W => Code.wp _ _ _ _ W) fun W4 hb4 hz4 k4 => ?_
              have Hb4 := hide hb4
              have K4 := hide (K3.out.trans k4 (fun _ _ e => e))
              clear hb4 hz4 k4
              generalize w3.heap.size = B4 at *
              have hSS : Hid (∀ W, Keeps W4 W (fun _ => False) → (fun w' : World => (w'.cell? ⟨b, 11, none⟩ = some (.pointer (some ⟨p, 0, none⟩)) ∧ w'.cell? ⟨b, 12, none⟩ = some (.int .i64 l.k) ∧ w'.cell? ⟨b, 13, none⟩ = some (.int .i64 l.e) ∧ w'.cell? ⟨b, 14, none⟩ = some (.int .i64 l.a) ∧ w'.cell? ⟨b, 15, none⟩ = some (.int .i64 l.b) ∧ w'.cell? ⟨b, 16, none⟩ = some (.int .i64 l.c) ∧ w'.cell? ⟨b, 17, none⟩ = some (.int .i64 l.eo) ∧ w'.cell? ⟨b, 18, none⟩ = some (.int .i64 l.bo) ∧ w'.cell? ⟨b, 19, none⟩ = some (.int .i64 l.s) ∧ w'.cell? ⟨b, 20, none⟩ = some (.int .i64 l.g) ∧ w'.cell? ⟨b, 21, none⟩ = some (.int .i64 (16 : Int))) ∧ w'.cell? ⟨b, 0, none⟩ = some (.pointer (some ⟨p, 0, none⟩))) W) := fun W k => by
                have := HBn.out W (K4.out.trans k (fun _ _ e => e))
                exact ⟨this.small, this.ar.1⟩
              have KD : Keeps W4 W4.drew (fun _ => False) := (Keeps.refl _ _).drew
              have SD := hSS.out _ KD
              go_wp2_with fail
              go_region_held3 (fun w' : World => (w'.cell? ⟨b, 11, none⟩ = some (.pointer (some ⟨p, 0, none⟩)) ∧ w'.cell? ⟨b, 12, none⟩ = some (.int .i64 l.k) ∧ w'.cell? ⟨b, 13, none⟩ = some (.int .i64 l.e) ∧ w'.cell? ⟨b, 14, none⟩ = some (.int .i64 l.a) ∧ w'.cell? ⟨b, 15, none⟩ = some (.int .i64 l.b) ∧ w'.cell? ⟨b, 16, none⟩ = some (.int .i64 l.c) ∧ w'.cell? ⟨b, 17, none⟩ = some (.int .i64 l.eo) ∧ w'.cell? ⟨b, 18, none⟩ = some (.int .i64 l.bo) ∧ w'.cell? ⟨b, 19, none⟩ = some (.int .i64 l.s) ∧ w'.cell? ⟨b, 20, none⟩ = some (.int .i64 l.g) ∧ w'.cell? ⟨b, 21, none⟩ = some (.int .i64 (16 : Int))) ∧ w'.cell? ⟨b, 0, none⟩ = some (.pointer (some ⟨p, 0, none⟩))) (with_reducible assumption)
                (first | (go_at_call 23; (with_reducible refine (soff_any p l 16 _).mono ?_); rintro r wA ⟨rfl, kA⟩; have kA2 := KD.trans kA (fun _ _ e => e); have SA := hSS.out _ kA2) | (go_at_call 22; (with_reducible refine (HKi.out _ (K4.out.trans kA2 (fun _ _ e => e))).mono ?_); rintro r wB ⟨rfl, kB⟩; have kB2 := kA2.trans kB (fun _ _ e => e); have SB := hSS.out _ kB2))
              obtain ⟨⟨t0, t1, t2, t3⟩, -⟩ := st4_cells (kB2.blk Hb4.out)
              have HF := hide (HFin.out _ (K4.out.trans kB2 (fun _ _ e => e)))
              have hw := wi_of (Nat.le_of_lt Hlt.out) Hfew.out
              have Hms2 : Hid (ms.length - (i + 1) < ms.length - i) := by have := Hlt.out; show ms.length - (i + 1) < ms.length - i; omega
              have Hle : Hid (i + 1 ≤ ms.length) := Hlt.out
              clear SD SA SB KD kA kA2 kB kB2 hSS Hb4 K4 K3 HK HBn HKi HFin
              cases rt'
              · obtain rfl : kn = 1 := HKn.out.symm
                obtain ⟨hw3, hw4⟩ := hw
                go_wp2_with (go_at_call 12; (with_reducible refine (hNum _ _).mono ?_); rintro r wN ⟨rfl, rfl⟩)
                go_roundg (ms.length - (i + 1))
                case measure => exact Hms2.out
                case rel => exact ⟨i + 1, pn', nx', _, rfl, Hle.out, by go_num, rfl, rfl, rfl, HP0, HP1, HF⟩
              · obtain rfl : kn = 3 := HKn.out.symm
                obtain ⟨hw3, hw4⟩ := hw
                go_wp2_with (go_at_call 12; (with_reducible refine (hNum _ _).mono ?_); rintro r wN ⟨rfl, rfl⟩)
                go_roundg (ms.length - (i + 1))
                case measure => exact Hms2.out
                case rel => exact ⟨i + 1, pn', nx', _, rfl, Hle.out, by go_num, rfl, rfl, rfl, HP0, HP1, HF⟩
      · obtain rfl : i = ms.length := by omega
        have hlt' : ¬ (ms.length : Int) < (ms.length : Int) := by omega
        obtain ⟨d, f, c, ad, hB, had⟩ := HPB.out
        have hEn := sended hB
        clear hB had HPB d f
        go_wp2_with fail
        (with_reducible refine hEn.mono ?_)
        rintro e w3 ⟨rfl, k3⟩
        clear hEn
        go_wp2_with fail
        go_ret
        exact ⟨rfl, Hk0.out.trans k3 (fun _ _ e => e)⟩
end smallPins
end Go.Proofs.YtgckinldnnckoaaGreatDoor
/-
  What the given conditions on the table of math/bits and on oracle.odd tell (made by gensraw.py).
-/
namespace Go.Proofs.YtgckinldnnckoaaGreatDoor
open Go.ChangeShapes Go.WideShapes Go.ChangeAt Go.WideMaps Go.WideElems Go.RowKit Ct

theorem own : ownKnob Tryz.prog.godebug = none := by kernel_rfl
theorem laidOut : laidOutB Tryz.prog = true := by kernel_rfl
theorem gTab : Tryz.prog.globalNamed "math/bits.deBruijn64tab" = some 1 := by kernel_rfl
theorem tTab : (Tryz.prog.globals[1]?).map (·.type) = some 249 := by kernel_rfl
theorem listedTab : (Rows.laid_math_bits_deBruijn64tab : DataW Unit) = Lib.tabData .u8 (tabL.map fun n : Nat => (n : Int)) := rfl

theorem gOdd : Tryz.prog.globalNamed "larder/oracle.odd" = some 0 := by kernel_rfl
theorem tOdd : (Tryz.prog.globals[0]?).map (·.type) = some 184 := by kernel_rfl
theorem listedOdd (H : Type) : (Rows.laid_larder_oracle_odd : DataW H) = .agg [.lit (.int .u64 13234230157428861123), .lit (.int .u64 11329751410908088055)] := rfl

def laidO : List (String × DataW Unit) := [("math/bits.deBruijn64tab", Rows.laid_math_bits_deBruijn64tab), ("larder/oracle.odd", Rows.laid_larder_oracle_odd)]
theorem door_met (os : Os) (args : Array Value) : laidMetH Tryz.prog laidO ((World.doorLaid Tryz.prog 400 os).forCall (fun _ _ => 0) ⟨#[], args, []⟩).memory :=
  laidMetH_of_parts3 (fuel := 8) (laidMet_of_run' 8 (by kernel_rfl) (by kernel_rfl)) (by kernel_rfl) (by kernel_rfl)

theorem tab_of {W : World} (h : laidMetH Tryz.prog laidO W) : TabAt W := by
  rw [MakeChecks.laidMetH_plain _ _ _ (by kernel_rfl)] at h
  have h2 : laidMet Tryz.prog (("math/bits.deBruijn64tab", Lib.tabData .u8 (tabL.map fun n : Nat => (n : Int))) :: [("larder/oracle.odd", Rows.laid_larder_oracle_odd)]) W := h
  have t := Lib.tabIs_of_head gTab tTab Tryz.underlying249 Tryz.underlying5 (by kernel_rfl) (by kernel_rfl) h2
  intro k hk
  have e := t.cell gTab k (by rw [List.length_map]; exact hk)
  rw [e]
  congr 2
  have : (tabL.map fun n : Nat => (n : Int)).getD k 0 = ((tabL.getD k 0 : Nat) : Int) := by
    simp [List.getD]
    cases tabL[k]? <;> rfl
  exact this

set_option maxRecDepth 100000 in
theorem odd_of {W : World} (h : laidMetH Tryz.prog laidO W) : Oc.OddAt W := by
  rw [MakeChecks.laidMetH_plain _ _ _ (by kernel_rfl)] at h
  obtain ⟨ps, ⟨g9, t9, cs9, f9, p9, q9, hg9, ht9, hv9, hd9, ⟨g0, t0, cs0, f0, p0, q0, hg0, ht0, hv0, hd0, _, _⟩, _⟩, _, _⟩ := h
  obtain rfl := Option.some.inj (gOdd.symm.trans hg0)
  obtain rfl := Option.some.inj (tOdd.symm.trans ht0)
  obtain ⟨xs, m1, rfl, hx1, hlen, hn, hel⟩ := DataW.trod_array Tryz.underlying184 hd0
  have c22 : Tryz.prog.cellsOf 24 = 1 := by kernel_rfl
  have h0 := hel 0 (by decide)
  have h1 := hel 1 (by decide)
  rw [listedOdd] at hx1
  simp only [Prod.mk.injEq, DataW.agg.injEq] at hx1
  match xs, hn, hx1, h0, h1 with
  | [x0, x1], _, hx1, h0, h1 =>
    simp only [List.map_cons, List.map_nil, List.cons.injEq] at hx1
    obtain ⟨k0, e0, f0, _⟩ := DataW.trod_int Tryz.underlying24 (show DataW.trod _ Tryz.prog W 0 _ false m1 24 _ = some x0 from h0)
    obtain ⟨k1, e1, f1, _⟩ := DataW.trod_int Tryz.underlying24 (show DataW.trod _ Tryz.prog W 0 _ false m1 24 _ = some x1 from h1)
    have hk0 : k0 = 13234230157428861123 := by rw [f0] at hx1; simpa using hx1.1.1.symm
    have hk1 : k1 = 11329751410908088055 := by rw [f1] at hx1; simpa using hx1.1.2.1.symm
    subst hk0 hk1
    have t0 := World.var?_cell hg0 hv0 0
    have t1 := World.var?_cell hg0 hv0 1
    obtain ⟨l1⟩ := cs0
    rw [c22] at e0 e1
    match l1, e0, e1 with
    | c :: d :: _, e0, e1 =>
      simp at e0 e1
      subst e0 e1
      exact ⟨by simpa using t0, by simpa using t1⟩
end Go.Proofs.YtgckinldnnckoaaGreatDoor
/-
  The parts of a hash as numbers.
-/
namespace Go.Proofs.YtgckinldnnckoaaGreatDoor.Op

def bitN (h : Nat) (d : Int) : Nat := if 0 ≤ d ∧ d < 64 then h / 2 ^ (63 - d.toNat) % 2 else 0
def topN (h : Nat) (d : Int) : Nat := if 1 ≤ d ∧ d ≤ 6 then h / 2 ^ (64 - d.toNat) else 0
/-- The first i bits from the highest on. -/
def headN (h i : Nat) : Nat := h / 2 ^ (64 - i)
theorem bitN_lt (h : Nat) (d : Int) : bitN h d < 2 := by
  unfold bitN
  split
  · exact Nat.mod_lt _ (by decide)
  · decide
theorem headN_zero {h : Nat} (hh : h < 18446744073709551616) : headN h 0 = 0 := by
  unfold headN
  exact Nat.div_eq_of_lt hh
theorem headN_all (h : Nat) : headN h 64 = h := by
  unfold headN
  simp
theorem headN_succ (h i : Nat) (hi : i < 64) : headN h (i + 1) = 2 * headN h i + bitN h (i : Int) := by
  unfold headN bitN
  rw [if_pos ⟨by omega, by omega⟩, Int.toNat_natCast]
  have e : 64 - i = (63 - i) + 1 := by omega
  have e2 : 64 - (i + 1) = 63 - i := by omega
  rw [e2, e, Nat.pow_succ, ← Nat.div_div_eq_div_mul]
  omega
theorem headN_lt (h i : Nat) (hh : h < 18446744073709551616) (hi : i ≤ 64) : headN h i < 2 ^ i := by
  unfold headN
  rw [Nat.div_lt_iff_lt_mul (Nat.two_pow_pos _), ← Nat.pow_add, show i + (64 - i) = 64 by omega]
  exact hh
theorem topN_head (h : Nat) (i : Nat) (hh : h < 18446744073709551616) (hi : i ≤ 6) : topN h (i : Int) = headN h i := by
  unfold topN
  by_cases h0 : i = 0
  · subst h0
    rw [headN_zero hh]
    rfl
  · rw [if_pos ⟨by omega, by omega⟩, Int.toNat_natCast]
    rfl
theorem topN_lt (h : Nat) (d : Int) (hh : h < 18446744073709551616) : topN h d < 64 := by
  unfold topN
  split
  · rename_i hd
    obtain ⟨d1, d6⟩ := hd
    have := headN_lt h d.toNat hh (by omega)
    unfold headN at this
    have h2 : (2 : Nat) ^ d.toNat ≤ 2 ^ 6 := Nat.pow_le_pow_right (by decide) (by omega)
    omega
  · decide
/-- The highest bit dropped i times. -/
def dropN (h i : Nat) : Nat := h * 2 ^ i % 18446744073709551616
theorem dropN_zero {h : Nat} (hh : h < 18446744073709551616) : dropN h 0 = h := by
  unfold dropN
  rw [Nat.pow_zero, Nat.mul_one, Nat.mod_eq_of_lt hh]
theorem dropN_succ (h i : Nat) : dropN h (i + 1) = dropN h i % 9223372036854775808 * 2 := by
  unfold dropN
  rw [Nat.pow_succ, ← Nat.mul_assoc]
  omega
theorem dropN_lt (h i : Nat) : dropN h i < 18446744073709551616 := Nat.mod_lt _ (by decide)
theorem dropN_bit (h i : Nat) (hi : i < 64) : dropN h i / 9223372036854775808 = bitN h (i : Int) := by
  unfold dropN bitN
  rw [if_pos ⟨by omega, by omega⟩, Int.toNat_natCast]
  have e : (18446744073709551616 : Nat) = 9223372036854775808 * 2 := by decide
  rw [e, Nat.mod_mul_right_div_self]
  have e2 : (9223372036854775808 : Nat) = 2 ^ (63 - i) * 2 ^ i := by
    rw [← Nat.pow_add, show 63 - i + i = 63 by omega]
  rw [e2, Nat.mul_div_mul_right _ _ (Nat.two_pow_pos _)]
end Go.Proofs.YtgckinldnnckoaaGreatDoor.Op
/-
  The parts of a hash: Tag, Home, Top, Bit.
-/
namespace Go.Proofs.YtgckinldnnckoaaGreatDoor.Op
open Go.RowKit
set_option linter.unusedVariables false

theorem u64_nat {n : Int} (h : (Lit.int .u64 n).wf = true) : ∃ m : Nat, n = (m : Int) ∧ m < 18446744073709551616 := by
  have h2 : 0 ≤ n ∧ n < 18446744073709551616 := by
    have e1 : IntKind.u64.min = 0 := rfl
    have e2 : IntKind.u64.max = 18446744073709551615 := rfl
    simp only [Lit.wf, decide_eq_true_eq, Bool.and_eq_true] at h
    rw [e1, e2] at h
    omega
  exact ⟨n.toNat, by omega, by omega⟩


set_option maxHeartbeats 400000 in
theorem tag_any (h : Nat) (hh : h < 18446744073709551616) (w : World) :
    Calls Tryz.prog 73 #[.int .u64 (h : Int)] w fun e w' => e = .returned (.int .i64 ((h : Int) % 128)) ∧ w' = w := by
  go_enter Tryz.func73, Tryz.ntmps73
  go_wp2_with fail
  go_ret
  exact ⟨rfl, rfl⟩

set_option maxHeartbeats 400000 in
theorem home_any (h : Nat) (hh : h < 18446744073709551616) (w : World) :
    Calls Tryz.prog 110 #[.int .u64 (h : Int)] w fun e w' => e = .returned (.int .u64 ((h : Int) / 128)) ∧ w' = w := by
  go_enter Tryz.func110, Tryz.ntmps110
  go_wp2_with fail
  go_ret
  exact ⟨rfl, rfl⟩
end Go.Proofs.YtgckinldnnckoaaGreatDoor.Op
namespace Go.Proofs.YtgckinldnnckoaaGreatDoor.Ly
open Go.RowKit

theorem up_step {x a n : Int} (ha : a = 1 ∨ a = 2 ∨ a = 4 ∨ a = 8) (hn : n % a = 0) (h1 : x ≤ n) (h2 : n < x + a) : n = up x a := by
  unfold up
  rcases ha with rfl | rfl | rfl | rfl <;> omega

set_option maxHeartbeats 1000000 in
theorem ref_raised (x a : Int) (w : World) (h0 : 0 ≤ x) (h1 : x ≤ 300) (ha : a = 1 ∨ a = 2 ∨ a = 4 ∨ a = 8) :
    Calls Tryz.prog 41 #[.int .i64 x, .int .i64 a] w fun e w' => e = .returned (.int .i64 (up x a)) ∧ w' = w := by
  have a1 : 1 ≤ a := by omega
  have a8 : a ≤ 8 := by omega
  have hU : Hid (∀ n : Int, n % a = 0 → x ≤ n → n < x + a → n = up x a) := fun n e1 e2 e3 => up_step ha e1 e2 e3
  have hM : Hid (∀ n : Int, n % a = 0 → (n + a) % a = 0) := fun n e => by rw [Int.add_emod_right]; exact e
  generalize up x a = U at *
  clear ha
  go_enter Tryz.func41, Tryz.ntmps41
  go_wp2_with fail
  go_loop [5] (fun v => ∃ n : Int, v = .int .i64 n ∧ Hid (n % a = 0) ∧ 0 ≤ n ∧ n < x + a) (fun v => (x - intOf v).toNat)
  case atStart => exact ⟨0, rfl, Int.zero_emod a, by omega, by omega⟩
  case round =>
    obtain ⟨n, rfl, hn, n0, n1⟩ := hrel
    by_cases hlt : n < x
    · go_wp2_with fail
      go_round
      case rel => exact ⟨n + a, rfl, hM.out n hn.out, by omega, by omega⟩
      case measure => simp [intOf]; omega
    · have e := hU.out n hn.out (by omega) n1
      subst e
      go_wp2_with fail
      go_ret
      exact ⟨rfl, rfl⟩

set_option maxHeartbeats 1000000 in
theorem ref_power8 (x : Int) (w : World) :
    Calls Tryz.prog 40 #[.int .i64 x, .int .i64 1, .int .i64 8] w fun e w' => e = .returned (.bool (pw x 1 8)) ∧ w' = w := by
  have hT : Hid (pw x 1 8 = true ↔ x = 1 ∨ x = 2 ∨ x = 4 ∨ x = 8) := pw8
  generalize pw x 1 8 = V at *
  go_enter Tryz.func40, Tryz.ntmps40
  go_wp2_with fail
  go_loop [7] (fun v => ∃ p : Int, v = .int .i64 p ∧ 1 ≤ p ∧ p ≤ 16 ∧ Hid ((p = 1 ∨ p = 2 ∨ p = 4 ∨ p = 8 ∨ p = 16) ∧ (1 < p → x ≠ 1) ∧ (2 < p → x ≠ 2) ∧ (4 < p → x ≠ 4) ∧ (8 < p → x ≠ 8))) (fun v => (100 - intOf v).toNat)
  case atStart => exact ⟨1, rfl, by omega, by omega, by omega, by omega, by omega, by omega, by omega⟩
  case round =>
    obtain ⟨p, rfl, p1, p2, hp⟩ := hrel
    by_cases hle : p ≤ 8
    · by_cases he : p = x
      · have hV : V = true := hT.out.2 (by have := hp.out; omega)
        subst hV
        subst he
        go_wp2_with fail
        go_ret
        exact ⟨rfl, rfl⟩
      · have he' : (p == x) = false := by simpa using he
        go_wp2_with fail
        go_round
        case rel => exact ⟨2 * p, rfl, by omega, by omega, by have := hp.out; omega, by have := hp.out; omega, by have := hp.out; omega, by have := hp.out; omega, by have := hp.out; omega⟩
        case measure => simp [intOf]; omega
    · have hV : V = false := by
        cases hv : V
        · rfl
        · have := hT.out.1 hv
          have := hp.out
          omega
      subst hV
      go_wp2_with fail
      go_ret
      exact ⟨rfl, rfl⟩

set_option maxHeartbeats 1000000 in
theorem ref_powerCap (x : Int) (w : World) :
    Calls Tryz.prog 40 #[.int .i64 x, .int .i64 16, .int .i64 1024] w fun e w' => e = .returned (.bool (pw x 16 1024)) ∧ w' = w := by
  have hT : Hid (pw x 16 1024 = true ↔ x = 16 ∨ x = 32 ∨ x = 64 ∨ x = 128 ∨ x = 256 ∨ x = 512 ∨ x = 1024) := pwCap
  generalize pw x 16 1024 = V at *
  go_enter Tryz.func40, Tryz.ntmps40
  go_wp2_with fail
  go_loop [7] (fun v => ∃ p : Int, v = .int .i64 p ∧ 16 ≤ p ∧ p ≤ 2048 ∧ Hid ((p = 16 ∨ p = 32 ∨ p = 64 ∨ p = 128 ∨ p = 256 ∨ p = 512 ∨ p = 1024 ∨ p = 2048) ∧ (16 < p → x ≠ 16) ∧ (32 < p → x ≠ 32) ∧ (64 < p → x ≠ 64) ∧ (128 < p → x ≠ 128) ∧ (256 < p → x ≠ 256) ∧ (512 < p → x ≠ 512) ∧ (1024 < p → x ≠ 1024))) (fun v => (10000 - intOf v).toNat)
  case atStart => exact ⟨16, rfl, by omega, by omega, by omega, by omega, by omega, by omega, by omega, by omega, by omega, by omega⟩
  case round =>
    obtain ⟨p, rfl, p1, p2, hp⟩ := hrel
    by_cases hle : p ≤ 1024
    · by_cases he : p = x
      · have hV : V = true := hT.out.2 (by have := hp.out; omega)
        subst hV
        subst he
        go_wp2_with fail
        go_ret
        exact ⟨rfl, rfl⟩
      · have he' : (p == x) = false := by simpa using he
        go_wp2_with fail
        go_round
        case rel => exact ⟨2 * p, rfl, by omega, by omega, by have := hp.out; omega, by have := hp.out; omega, by have := hp.out; omega, by have := hp.out; omega, by have := hp.out; omega, by have := hp.out; omega, by have := hp.out; omega, by have := hp.out; omega⟩
        case measure => simp [intOf]; omega
    · have hV : V = false := by
        cases hv : V
        · rfl
        · have := hT.out.1 hv
          have := hp.out
          omega
      subst hV
      go_wp2_with fail
      go_ret
      exact ⟨rfl, rfl⟩

theorem ref_fits (x a : Int) (w : World) (h0 : 0 ≤ x) (h1 : x ≤ 128) :
    Calls Tryz.prog 39 #[.int .i64 x, .int .i64 a] w fun e w' => e = .returned (.bool (al x a)) ∧ w' = w := by
  have hp := ref_power8 a w
  cases hq : pw a 1 8
  · have e : al x a = false := by unfold al; rw [hq]; rfl
    rw [hq] at hp
    rw [e]
    go_enter Tryz.func39, Tryz.ntmps39
    go_wp2_with fail
    refine hp.mono ?_
    rintro e w' ⟨rfl, rfl⟩
    clear hp
    go_wp2_with fail
    go_ret
    exact ⟨rfl, rfl⟩
  · have ha := pw8.1 hq
    have hr := ref_raised x a w h0 (by omega) ha
    have e : al x a = (up x a == x) := by
      unfold al
      rw [hq, Bool.true_and, Bool.eq_iff_iff, decide_eq_true_iff, beq_iff_eq]
      unfold up
      rcases ha with rfl | rfl | rfl | rfl <;> omega
    rw [hq] at hp
    rw [e]
    go_enter Tryz.func39, Tryz.ntmps39
    go_wp2_with fail
    refine hp.mono ?_
    rintro e w' ⟨rfl, rfl⟩
    clear hp
    go_wp2_with fail
    refine hr.mono ?_
    rintro e w' ⟨rfl, rfl⟩
    clear hr
    go_wp2_with fail
    go_ret
    exact ⟨rfl, rfl⟩
end Go.Proofs.YtgckinldnnckoaaGreatDoor.Ly
