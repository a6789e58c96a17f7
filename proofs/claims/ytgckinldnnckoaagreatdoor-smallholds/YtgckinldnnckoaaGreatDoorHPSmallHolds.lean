/-
  The statement on SmallHolds out of its walk, and its card (made by gensraw.py).
-/
import Derived.Test.YtgckinldnnckoaaGreatDoorCards
import Derived.Test.YtgckinldnnckoaaGreatDoorTie
import Derived.SevenTiedAt
import Derived.WalkKit
import Derived.ShutString
import Derived.ChangeOld
import Derived.Below
import Derived.Carry
import Derived.Lib.SmallJoins
import Derived.SizedLaws
import Derived.Test.YtgckinldnnckoaaGreatDoorUn18
namespace Go.Proofs.YtgckinldnnckoaaGreatDoor
namespace smallHolds
open Go.ChangeShapes Go.WideShapes Go.ChangeAt Go.WideMaps Go.WideElems Go.RowKit Ly Ct
set_option linter.unusedVariables false

set_option maxRecDepth 100000 in
theorem lifted (os : Os) (started : os.Started) (H : Type) (enc : TypeId × Value → H) :
    ReturnsInHanded {} Tryz.checked os 3 .any (fun w args => (Rows.smallHoldsSpec.pre enc Tryz.prog Tryz.f3 [] false w args ∧ laidMetH Tryz.prog laidO w) ∧ sizedMet enc Tryz.prog Tryz.f3 (OpenSpec.ofChange Rows.smallHoldsSpec) false w args)
      (Rows.smallHoldsSpec.post enc Tryz.prog Tryz.f3 false true false false) := by
  refine returnsInHanded_of_change_and (C := Tryz.checked) (X := fun w _ => laidMetH Tryz.prog laidO w) (fun _ _ _ hh h => h.of_heap hh) own started (by kernel_rfl) Tryz.func3
    (ChangeSpec.witness_shaped (enc := enc) (C := Tryz.checked) (os := os) (X := fun w _ => laidMetH Tryz.prog laidO w) false (World.doorLaid Tryz.prog 400 os) #[.agg #[.slice none 0 0, .slice none 0 0, .int .u64 0, .slice none 0 0]] 8 rfl (World.shaped_of_RefB (by kernel_rfl) (by kernel_rfl)) (by kernel_rfl) (by kernel_rfl) (by kernel_rfl) (door_met os _)) ?_
  intro W base args ds gs before hval0 hW _ hsz hL _
  have hval : ∀ (j : Nat) t v, Tryz.f3.params[j]? = some t → args[j]? = some v → Value.okWide Tryz.prog W .any base t v := hval0
  have hW' := hW
  obtain ⟨p, q, hA0, hV, rfl, hfz, hnd⟩ := hW
  have hA : DataW.TrodAll enc Tryz.prog W 0 (fun _ => true) true Tryz.f3.params.toList args.toList ds p := hA0
  rw [Tryz.params3] at hA hval
  obtain ⟨v0, vs0, d0, ds0, p0, q0, hargs, rfl, rfl, h0, r0⟩ := trodAll_cons hA
  obtain ⟨rfl, rfl, rfl⟩ := trodAll_nil r0
  obtain rfl : args = #[v0] := by cases args; simp_all
  obtain ⟨rfl, rfl⟩ := trodVars_none hV
  have k0 := h0
  have lt0 : ∀ x ∈ p0, x.block < W.heap.size := by obtain ⟨m, hm⟩ := k0; exact DataW.trod_lt m _ _ _ hm
  have hO := And.intro (tab_of hL) (odd_of hL)
  obtain ⟨a, len, cap, oa, oc, os, seed, ta, tc, ss, rfl, h5, H1, u1, hsd, H3, n3, u3⟩ := open_plan (hval 0 27 v0 rfl rfl) h0 (fun n hn => by
    have := List.all_eq_true.1 hsz n (DataW.weights_mem_each (j := 0) rfl rfl n hn)
    simpa using this)
  clear hA0 hval0 hsz
  obtain ⟨l, E, hE, hPar⟩ := parse_in (cap := cap) h5
  unfold Lay.val at hPar
  have hIn : SPlan W l (.slice a len cap) oa oc seed os ta tc ss := ⟨fun W1 q => by
    have hP1 := fun W2 (q2 : Keeps W1 W2 (fun _ => False)) => hPar W2 (q.trans q2 (fun _ _ e => e))
    have hR1 : Oc.RowO W1 (.slice oa os.length oc) os := H1.kp (q.below (Nat.le_refl _) (fun _ _ e => e))
    by_cases hE0 : E = 0
    · by_cases hs : Oc.scanN os os.length = 0
      · subst hE0
        exact (sbench_yes _ _ oa oc seed os l W1 (hE rfl) hP1 hR1 hs).mono (fun _ _ h => Or.inr h)
      · exact (sbench_no0 _ _ oa oc seed os l E W1 hP1 hR1 (Or.inr hs)).mono (fun _ _ h => Or.inl h)
    · exact (sbench_no0 _ _ oa oc seed os l E W1 hP1 hR1 (Or.inl hE0)).mono (fun _ _ h => Or.inl h), fun i hi => by
    rcases H3 with rfl | ⟨tb, tq, e, hc⟩
    · simp at hi
    · obtain ⟨c1, c2, c3⟩ := hc i hi
      exact ⟨tb, tq, e, fun W1 q => ⟨keeps_cell q id c1, keeps_cell q id c2, keeps_cell q id c3⟩⟩, n3, u3, hO.1, hO.2, hsd, mapN_lt u1 _ (Nat.le_refl _)⟩
  refine (walk hIn).mono fun e W' ⟨he, hkp⟩ => ?_
  subst he
  have bel : Below W.heap.size W W' := hkp.below (Nat.le_refl _) (fun _ _ e => e)
  exact ⟨_, rfl, _, _, _, [], _, [], hW', (trodAll_cons_mk (shut_bool Tryz.underlying4 _) trodAll_mk0), (trodAll_cons_mk (Below.trod laidOut (by kernel_rfl) (of_decide_eq_true (by kernel_rfl)) k0 bel lt0) trodAll_mk0), rfl, bel.frame _, fun h => by cases h⟩

theorem over : Rows.smallHoldsRow.holds Tryz.pinned (OpenSpec.ofChange Rows.smallHoldsSpec) :=
  OpenClaim.holds_of_wide 3 Tryz.f3 rfl rfl rfl rfl rfl rfl rfl ⟨rfl, rfl, rfl, rfl, rfl⟩ rfl rfl rfl rfl rfl (by kernel_rfl) Tryz.func3 (by kernel_rfl)
    (of_decide_eq_true (by kernel_rfl)) (by unfold Func.isWrapper; first | (rw [if_pos (by decide +kernel)]; kernel_rfl) | (rw [if_neg (by decide +kernel)]; exact ⟨rfl, rfl⟩))
    (fun os started H enc _ => lifted os started H enc)
end smallHolds

theorem smallHolds_holds : Rows.SmallHoldsCardSaid :=
  Claim7.holds_tied_plain_at .later [] [.data, .data] true (true, "8b62b8b920ea2d0395e7f702d83b26ee7e562c697130fff0164c5769e6eef60a") true
    smallHolds.over (fun _ h => by cases h) (by kernel_rfl) (fun _ h => by cases h) smallHolds_row_tie rfl ⟨rfl, rfl⟩ (by kernel_rfl) rfl
    (fun f fn hf hfn => by
      obtain rfl : f = 3 := Option.some.inj ((show Tryz.prog.funcNamed "larder/larderlaw11.SmallHolds" = some 3 by kernel_rfl).symm.trans hf) |>.symm
      obtain rfl : fn = Tryz.f3 := (Option.some.inj (Tryz.func3.symm.trans hfn)).symm
      exact ⟨by kernel_rfl, fun j t ht => by
        rw [Tryz.params3] at ht
        have h3 : t = 27 := by
          rcases j with _ | j
          · simpa using ht.symm
          · simp at ht
        subst h3
        exact (show Tryz.prog.wantsStandIn 27 = false by kernel_rfl)⟩)
    (by kernel_rfl)
end Go.Proofs.YtgckinldnnckoaaGreatDoor
