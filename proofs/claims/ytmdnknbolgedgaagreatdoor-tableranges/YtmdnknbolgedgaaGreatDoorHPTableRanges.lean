/-
  The statement on TableRanges out of its walk, and its card (made by genpt8.py).
-/
import Derived.Test.YtmdnknbolgedgaaGreatDoorCards
import Derived.Test.YtmdnknbolgedgaaGreatDoorTie
import Derived.SevenTiedAt
import Derived.WalkKit
import Derived.ShutString
import Derived.ChangeOld
import Derived.Below
import Derived.Carry
import Derived.Lib.SmallJoins
import Derived.SizedLaws
import Derived.Test.YtmdnknbolgedgaaGreatDoorUn20
import Derived.Test.YtmdnknbolgedgaaGreatDoorHWTableRanges
namespace Go.Proofs.YtmdnknbolgedgaaGreatDoor
namespace tableRanges
open Go.ChangeShapes Go.WideShapes Go.ChangeAt Go.WideMaps Go.WideElems Go.RowKit Ly Ct
set_option linter.unusedVariables false

set_option maxRecDepth 100000 in
theorem lifted (os : Os) (started : os.Started) (H : Type) (enc : TypeId × Value → H) :
    ReturnsInHanded {} Tryz.checked os 7 .any (fun w args => (Rows.tableRangesSpec.pre enc Tryz.prog Tryz.f7 [] false w args ∧ laidMetH Tryz.prog laidO w) ∧ sizedMet enc Tryz.prog Tryz.f7 (OpenSpec.ofChange Rows.tableRangesSpec) false w args)
      (Rows.tableRangesSpec.post enc Tryz.prog Tryz.f7 false true false false) := by
  refine returnsInHanded_of_change_and (C := Tryz.checked) (X := fun w _ => laidMetH Tryz.prog laidO w) (fun _ _ _ hh h => h.of_heap hh) own started (by kernel_rfl) Tryz.func7
    (ChangeSpec.witness_shaped (enc := enc) (C := Tryz.checked) (os := os) (X := fun w _ => laidMetH Tryz.prog laidO w) false (World.doorLaid Tryz.prog 400 os) #[.agg #[.slice none 0 0, .int .i64 0, .slice none 0 0, .slice none 0 0], .int .i64 0] 8 rfl (World.shaped_of_RefB (by kernel_rfl) (by kernel_rfl)) (by kernel_rfl) (by kernel_rfl) (by kernel_rfl) (door_met os _)) ?_
  intro W base args ds gs before hval0 hW _ hsz hL _
  have hval : ∀ (j : Nat) t v, Tryz.f7.params[j]? = some t → args[j]? = some v → Value.okWide Tryz.prog W .any base t v := hval0
  have hW' := hW
  obtain ⟨p, q, hA0, hV, rfl, hfz, hnd⟩ := hW
  have hA : DataW.TrodAll enc Tryz.prog W 0 (fun _ => true) true Tryz.f7.params.toList args.toList ds p := hA0
  rw [Tryz.params7] at hA hval
  obtain ⟨v0, vs0, d0, ds0, p0, q0, hargs, rfl, rfl, h0, r0⟩ := trodAll_cons hA
  obtain ⟨v1, vs1, d1, ds1, p1, q1, hargs1, rfl, rfl, h1, r1⟩ := trodAll_cons r0
  obtain ⟨rfl, rfl, rfl⟩ := trodAll_nil r1
  obtain rfl : args = #[v0, v1] := by cases args; simp_all
  obtain ⟨rfl, rfl⟩ := trodVars_none hV
  have k0 := h0
  have k1 := h1
  have lt0 : ∀ x ∈ p0, x.block < W.heap.size := by obtain ⟨m, hm⟩ := k0; exact DataW.trod_lt m _ _ _ hm
  have lt1 : ∀ x ∈ p1, x.block < W.heap.size := by obtain ⟨m, hm⟩ := k1; exact DataW.trod_lt m _ _ _ hm
  have hO := of_laid hL
  obtain ⟨a, len, cap, S, ha, nh, hc, hv, ta, tc, ss, rfl, h5, n2, u2, H2, H3, n3, u3⟩ := open_plan (hval 0 52 v0 rfl rfl) h0 (fun n hn => by
    have := List.all_eq_true.1 hsz n (DataW.weights_mem_each (j := 0) rfl rfl n hn)
    simpa using this)
  obtain ⟨n1, rfl, wn⟩ : ∃ n1, v1 = .int .i64 n1 ∧ (Lit.int .i64 n1).wf = true := by
    obtain ⟨m, hm⟩ := h1
    obtain ⟨x, e, _, hw⟩ := DataW.trod_int Tryz.underlying3 hm
    refine ⟨x, ?_, hw⟩
    obtain ⟨i1, rfl⟩ := okWide_int Tryz.underlying3 (hval 1 3 v1 rfl rfl)
    simpa [Value.cells] using e
  clear hA0 hval0 hsz
  obtain ⟨l, E, hE, hPar⟩ := parse_in (cap := cap) h5
  unfold Lay.val at hPar
  have hIn : PlanIn W l (.slice a len cap) S ha nh hc hv ta tc ss := ⟨fun W1 q => bench_any _ _ S ha nh hc hv l E W1 (fun W2 q2 => hPar W2 (q.trans q2 (fun _ _ e => e))) hE (hO.kp (q.below (Nat.le_refl _) (fun _ _ e => e))) n2 u2 (fun h0 => by
    obtain ⟨g, o, e, hc⟩ := H2 h0
    exact ⟨g, o, e, fun i hi => keeps_cell q id (hc i hi)⟩), H3, n3, u3⟩
  refine (walk hIn n1 wn).mono fun e W' ⟨he, hkp⟩ => ?_
  subst he
  have bel : Below W.heap.size W W' := hkp.below (Nat.le_refl _) (fun _ _ e => e)
  exact ⟨_, rfl, _, _, _, [], _, [], hW', (trodAll_cons_mk (shut_bool Tryz.underlying4 _) trodAll_mk0), (trodAll_cons_mk (Below.trod laidOut (by kernel_rfl) (of_decide_eq_true (by kernel_rfl)) k0 bel lt0) (trodAll_cons_mk (Below.trod laidOut (by kernel_rfl) (of_decide_eq_true (by kernel_rfl)) k1 bel lt1) trodAll_mk0)), rfl, bel.frame _, fun h => by cases h⟩

theorem over : Rows.tableRangesRow.holds Tryz.pinned (OpenSpec.ofChange Rows.tableRangesSpec) :=
  OpenClaim.holds_of_wide 7 Tryz.f7 rfl rfl rfl rfl rfl rfl rfl ⟨rfl, rfl, rfl, rfl, rfl⟩ rfl rfl rfl rfl rfl (by kernel_rfl) Tryz.func7 (by kernel_rfl)
    (of_decide_eq_true (by kernel_rfl)) (by unfold Func.isWrapper; first | (rw [if_pos (by decide +kernel)]; kernel_rfl) | (rw [if_neg (by decide +kernel)]; exact ⟨rfl, rfl⟩))
    (fun os started H enc _ => lifted os started H enc)
end tableRanges

theorem tableRanges_holds : Rows.TableRangesCardSaid :=
  Claim7.holds_tied_plain_at .later [] [.data] true (true, "bed779774ca9a8669ba3a3808e85f6e64e664037758741a9a0be2b0565b06e75") true
    tableRanges.over (fun _ h => by cases h) (by kernel_rfl) (fun _ h => by cases h) tableRanges_row_tie rfl ⟨rfl, rfl⟩ (by kernel_rfl) rfl
    (fun f fn hf hfn => by
      obtain rfl : f = 7 := Option.some.inj ((show Tryz.prog.funcNamed "larder/larderlaw08.TableRanges" = some 7 by kernel_rfl).symm.trans hf) |>.symm
      obtain rfl : fn = Tryz.f7 := (Option.some.inj (Tryz.func7.symm.trans hfn)).symm
      exact ⟨by kernel_rfl, fun j t ht => by
        rw [Tryz.params7] at ht
        rcases j with _ | j
        · have h3 : t = 52 := by simpa using ht.symm
          subst h3
          exact (show Tryz.prog.wantsStandIn 52 = false by kernel_rfl)
        · rcases j with _ | j
          · have h3 : t = 3 := by simpa using ht.symm
            subst h3
            exact (show Tryz.prog.wantsStandIn 3 = false by kernel_rfl)
          · simp at ht⟩)
    (by kernel_rfl)
end Go.Proofs.YtmdnknbolgedgaaGreatDoor
