/-
  The statement on SmallPins out of its walk, and its card (made by genpsz.py).
-/
import Derived.Test.YtgckinldnnckoaaGreatDoorCards
import Derived.Test.YtgckinldnnckoaaGreatDoorTie
import Derived.SevenTiedAt
import Derived.WalkKit
import Derived.ShutString
import Derived.ChangeOld
import Derived.Below
import Derived.Carry
import Derived.Lib.SmallJoins
import Derived.SizedLaws
import Derived.Deep.Slices
import Derived.Deep.SlicePairs
import Derived.Test.YtgckinldnnckoaaGreatDoorPn21
namespace Go.Proofs.YtgckinldnnckoaaGreatDoor
namespace smallPins
open Go.ChangeShapes Go.WideShapes Go.ChangeAt Go.WideMaps Go.WideElems Go.RowKit Ly Ct
set_option linter.unusedVariables false

section
variable {H : Type} {enc : TypeId × Value → H} {w : World} {held : Bool}
set_option maxRecDepth 100000 in
theorem marks_open {n : Nat} {v0 : Value} {x : DataW H × List MemPlace} (h : DataW.trod enc Tryz.prog w 0 (fun _ => true) held n 66 [v0] = some x) (hw : ∀ k ∈ x.1.weights Tryz.prog 66, k ≤ reachBytes) :
    ∃ (a : Option Addr) (cap : Nat) (ss : List (Int × Int)), v0 = .slice a ss.length cap ∧ MarksIn w a ss ∧ ss.length ≤ 8796093022208 ∧ ∀ x ∈ ss, fitsI x.1 ∧ fitsI x.2 := by
  rcases Go.Deep.open_slice Tryz.underlying66 h with ⟨hcs, hx⟩ | ⟨ad, len, cap, m, n', D, Pl, hcs, _, hl, hm, hmm, hx, hc⟩
  · simp at hcs
    exact ⟨none, 0, [], hcs, Or.inl rfl, by simp, fun x hx => by cases hx⟩
  · simp at hcs
    subst hx
    have ce : Tryz.prog.cellsOf 68 = 2 := by kernel_rfl
    have hmc : m = cap := by simpa using hmm
    have h47 : reachBytes = 140737488351232 := by decide
    have hby : Tryz.prog.bytesOf 68 = 16 := by kernel_rfl
    have hlw : len * 16 ≤ reachBytes := by
      have := hw (((List.map D (List.range len)).length + (List.map D ((List.range m).drop len)).length) * Tryz.prog.bytesOf 68) (by simp [DataW.weights, Tryz.underlying66])
      rw [hby, List.length_map, List.length_range] at this
      exact Nat.le_trans (Nat.mul_le_mul_right 16 (Nat.le_add_right len _)) this
    obtain ⟨f, hf⟩ := Go.Deep.choose_lt (α := Int × Int) (n := len) (p := fun i q => w.cell? (ad.add (i * 2)) = some (.int .i64 q.1) ∧ w.cell? (ad.add (i * 2 + 1)) = some (.int .i64 q.2) ∧ fitsI q.1 ∧ fitsI q.2) (fun i hi => by
      obtain ⟨cs', h1, h2⟩ := hc i (by omega)
      rw [ce] at h1
      obtain ⟨_, hlen, hcell⟩ := World.cells?_some h1
      obtain ⟨xs, k, hk, hxy, _, hxl, hf⟩ := DataW.trod_struct Tryz.underlying68 h2
      match xs, hxl, cs', hlen with
      | [y0, y1], _, [v0, v1], _ =>
        have g0 := hf 0 _ rfl
        have g1 := hf 1 _ rfl
        have z3 : Tryz.prog.cellsOf 3 = 1 := by kernel_rfl
        simp [z3] at g0 g1
        have e0 := hcell 0 (by omega)
        have e1 := hcell 1 (by omega)
        rw [Go.Deep.add_add] at e0 e1
        obtain ⟨X0, u0, _, q0⟩ := DataW.trod_int Tryz.underlying3 g0
        obtain ⟨X1, u1, _, q1⟩ := DataW.trod_int Tryz.underlying3 g1
        simp only [List.cons.injEq, and_true] at u0 u1
        subst u0 u1
        exact ⟨(X0, X1), by simpa using e0, by simpa using e1, q0, q1⟩)
    have hlen : ((List.range len).map f).length = len := by simp
    refine ⟨some ad, cap, (List.range len).map f, by rw [hlen]; exact hcs, ?_, by rw [hlen]; omega, fun x hx => ?_⟩
    · by_cases hz : len = 0
      · left
        subst hz
        rfl
      · right
        obtain ⟨b, o, rfl, hb⟩ := plain_cell (w := w) (a := ad) (v := .int .i64 (f 0).1) (by have := (hf 0 (by omega)).1; simpa using this)
        refine ⟨b, o, rfl, fun j hj => ?_⟩
        have hj' : j < len := by rw [hlen] at hj; exact hj
        have e : ((List.range len).map f)[j] = f j := by simp
        rw [e]
        obtain ⟨c0, c1, ok⟩ := hf j hj'
        rw [addr_add] at c0 c1
        exact ⟨c0, by rw [Nat.add_assoc]; exact c1⟩
    · obtain ⟨i, hi, rfl⟩ := List.mem_map.1 hx
      exact (hf i (List.mem_range.1 hi)).2.2
end
set_option maxRecDepth 100000 in
theorem lifted (os : Os) (started : os.Started) (H : Type) (enc : TypeId × Value → H) :
    ReturnsInHanded {} Tryz.checked os 6 .any (fun w args => (Rows.smallPinsSpec.pre enc Tryz.prog Tryz.f6 [] false w args ∧ laidMetH Tryz.prog laidO w) ∧ sizedMet enc Tryz.prog Tryz.f6 (OpenSpec.ofChange Rows.smallPinsSpec) false w args)
      (Rows.smallPinsSpec.post enc Tryz.prog Tryz.f6 false true false false) := by
  refine returnsInHanded_of_change_and (C := Tryz.checked) (X := fun w _ => laidMetH Tryz.prog laidO w) (fun _ _ _ hh h => h.of_heap hh) own started (by kernel_rfl) Tryz.func6
    (ChangeSpec.witness_shaped (enc := enc) (C := Tryz.checked) (os := os) (X := fun w _ => laidMetH Tryz.prog laidO w) false (World.doorLaid Tryz.prog 400 os) #[.agg #[.slice none 0 0, .slice none 0 0, .int .u64 0, .slice none 0 0], .slice none 0 0] 8 rfl (World.shaped_of_RefB (by kernel_rfl) (by kernel_rfl)) (by kernel_rfl) (by kernel_rfl) (by kernel_rfl) (door_met os _)) ?_
  intro W base args ds gs before hval0 hW _ hsz hL _
  have hval : ∀ (j : Nat) t v, Tryz.f6.params[j]? = some t → args[j]? = some v → Value.okWide Tryz.prog W .any base t v := hval0
  have hW' := hW
  obtain ⟨p, q, hA0, hV, rfl, hfz, hnd⟩ := hW
  have hA : DataW.TrodAll enc Tryz.prog W 0 (fun _ => true) true Tryz.f6.params.toList args.toList ds p := hA0
  rw [Tryz.params6] at hA hval
  obtain ⟨v0, vs0, d0, ds0, p0, q0, hargs, rfl, rfl, h0, r0⟩ := trodAll_cons hA
  obtain ⟨v1, vs1, d1, ds1, p1, q1, hargs1, rfl, rfl, h1, r1⟩ := trodAll_cons r0
  obtain ⟨rfl, rfl, rfl⟩ := trodAll_nil r1
  obtain rfl : args = #[v0, v1] := by cases args; simp_all
  obtain ⟨rfl, rfl⟩ := trodVars_none hV
  have k0 := h0
  have lt0 : ∀ x ∈ p0, x.block < W.heap.size := by obtain ⟨m, hm⟩ := k0; exact DataW.trod_lt m _ _ _ hm
  have k1 := h1
  have lt1 : ∀ x ∈ p1, x.block < W.heap.size := by obtain ⟨m, hm⟩ := k1; exact DataW.trod_lt m _ _ _ hm
  have hO := And.intro (tab_of hL) (odd_of hL)
  obtain ⟨a1, l1, c1, rfl⟩ := okWide_slice Tryz.underlying66 (hval 1 66 v1 rfl rfl)
  obtain ⟨fu1, hf1⟩ := h1
  have hf1' : DataW.trod enc Tryz.prog W 0 (fun _ => true) true fu1 66 [.slice a1 l1 c1] = some _ := hf1
  obtain ⟨ma, mc, ms, e1, hms, hmfew, hmfit⟩ := marks_open hf1' (fun n hn => by
    have := List.all_eq_true.1 hsz n (DataW.weights_mem_each (j := 1) rfl rfl n hn)
    simpa using this)
  cases e1
  obtain ⟨a, len, cap, oa, oc, os, seed, ta, tc, ss, rfl, h5, H1, u1, hsd, H3, n3, u3⟩ := open_plan (hval 0 27 v0 rfl rfl) h0 (fun n hn => by
    have := List.all_eq_true.1 hsz n (DataW.weights_mem_each (j := 0) rfl rfl n hn)
    simpa using this)
  clear hA0 hval0 hsz
  obtain ⟨l, E, hE, hPar⟩ := parse_in (cap := cap) h5
  unfold Lay.val at hPar
  have hIn : SPlan W l (.slice a len cap) oa oc seed os ta tc ss := ⟨fun W1 q => by
    have hP1 := fun W2 (q2 : Keeps W1 W2 (fun _ => False)) => hPar W2 (q.trans q2 (fun _ _ e => e))
    have hR1 : Oc.RowO W1 (.slice oa os.length oc) os := H1.kp (q.below (Nat.le_refl _) (fun _ _ e => e))
    by_cases hE0 : E = 0
    · by_cases hs : Oc.scanN os os.length = 0
      · subst hE0
        exact (sbench_yes 65536 65536 rfl _ _ oa oc seed os l W1 (hE rfl) (room_65536 (hE rfl)) (by omega) hP1 hR1 hs).mono (fun _ _ h => Or.inr h)
      · exact (sbench_no0 _ _ oa oc seed os l E 65536 W1 hP1 hR1 (Or.inr hs)).mono (fun _ _ h => Or.inl h)
    · exact (sbench_no0 _ _ oa oc seed os l E 65536 W1 hP1 hR1 (Or.inl hE0)).mono (fun _ _ h => Or.inl h), fun i hi => by
    rcases H3 with rfl | ⟨tb, tq, e, hc⟩
    · simp at hi
    · obtain ⟨c1, c2, c3⟩ := hc i hi
      exact ⟨tb, tq, e, fun W1 q => ⟨keeps_cell q id c1, keeps_cell q id c2, keeps_cell q id c3⟩⟩, n3, u3, hO.1, hO.2, hsd, mapN_lt u1 _ (Nat.le_refl _)⟩
  refine (walk hIn hms hmfew hmfit).mono fun e W' ⟨he, hkp⟩ => ?_
  subst he
  have bel : Below W.heap.size W W' := hkp.below (Nat.le_refl _) (fun _ _ e => e)
  exact ⟨_, rfl, _, _, _, [], _, [], hW', (trodAll_cons_mk (shut_bool Tryz.underlying4 _) trodAll_mk0), (trodAll_cons_mk (Below.trod laidOut (by kernel_rfl) (of_decide_eq_true (by kernel_rfl)) k0 bel lt0) (trodAll_cons_mk (Below.trod laidOut (by kernel_rfl) (of_decide_eq_true (by kernel_rfl)) k1 bel lt1) trodAll_mk0)), rfl, bel.frame _, fun h => by cases h⟩

theorem over : Rows.smallPinsRow.holds Tryz.pinned (OpenSpec.ofChange Rows.smallPinsSpec) :=
  OpenClaim.holds_of_wide 6 Tryz.f6 rfl rfl rfl rfl rfl rfl rfl ⟨rfl, rfl, rfl, rfl, rfl⟩ rfl rfl rfl rfl rfl (by kernel_rfl) Tryz.func6 (by kernel_rfl)
    (of_decide_eq_true (by kernel_rfl)) (by unfold Func.isWrapper; first | (rw [if_pos (by decide +kernel)]; kernel_rfl) | (rw [if_neg (by decide +kernel)]; exact ⟨rfl, rfl⟩))
    (fun os started H enc _ => lifted os started H enc)
end smallPins

theorem smallPins_holds : Rows.SmallPinsCardSaid :=
  Claim7.holds_tied_plain_at .later [] [.data, .data] true (true, "8b62b8b920ea2d0395e7f702d83b26ee7e562c697130fff0164c5769e6eef60a") true
    smallPins.over (fun _ h => by cases h) (by kernel_rfl) (fun _ h => by cases h) smallPins_row_tie rfl ⟨rfl, rfl⟩ (by kernel_rfl) rfl
    (fun f fn hf hfn => by
      obtain rfl : f = 6 := Option.some.inj ((show Tryz.prog.funcNamed "larder/larderlaw11.SmallPins" = some 6 by kernel_rfl).symm.trans hf) |>.symm
      obtain rfl : fn = Tryz.f6 := (Option.some.inj (Tryz.func6.symm.trans hfn)).symm
      exact ⟨by kernel_rfl, fun j t ht => by
        rw [Tryz.params6] at ht
        rcases j with _ | j
        · have h3 : t = 27 := by simpa using ht.symm
          subst h3
          exact (show Tryz.prog.wantsStandIn 27 = false by kernel_rfl)
        · rcases j with _ | j
          · have h3 : t = 66 := by simpa using ht.symm
            subst h3
            exact (show Tryz.prog.wantsStandIn 66 = false by kernel_rfl)
          · simp at ht⟩)
    (by kernel_rfl)
end Go.Proofs.YtgckinldnnckoaaGreatDoor
