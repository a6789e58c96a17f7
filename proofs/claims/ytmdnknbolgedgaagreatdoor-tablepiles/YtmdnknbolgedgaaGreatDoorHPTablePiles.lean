/-
  The statement on TablePiles out of its walk, and its card.
-/
import Derived.Test.YtmdnknbolgedgaaGreatDoorCards
import Derived.Test.YtmdnknbolgedgaaGreatDoorTie
import Derived.SevenTiedAt
import Derived.WalkKit
import Derived.ShutString
import Derived.ChangeOld
import Derived.Below
import Derived.Carry
import Derived.Lib.SmallJoins
import Derived.SizedLaws
import Derived.Test.YtmdnknbolgedgaaGreatDoorTn15
import Derived.Test.YtmdnknbolgedgaaGreatDoorHWTablePiles
namespace Go.Proofs.YtmdnknbolgedgaaGreatDoor
namespace tablePiles
open Go.ChangeShapes Go.WideShapes Go.ChangeAt Go.WideMaps Go.WideElems Go.RowKit Ly Ct
set_option linter.unusedVariables false

theorem core (a : Option Addr) (len cap : Nat) (S N : Int) (H : Nat) (hH : H < 18446744073709551616) (w : World) (hT : TabAt w) (h5 : len = 5 → Five w a) :
    Calls Tryz.prog 3 #[.agg #[.slice a len cap, .int .i64 S, .int .i64 N, .int .u64 (H : Int)]] w fun e w' => e = .returned (.bool true) ∧ Keeps w w' (fun _ => False) := by
  obtain ⟨l, E, hE, hPar⟩ := parse_in (cap := cap) h5
  unfold Lay.val at hPar
  by_cases h0 : E = 0
  · by_cases h1 : S < 8
    · exact no1 _ S N H hH l E w hPar h0 h1
    · by_cases h2 : 256 < S
      · exact no2 _ S N H hH l E w hPar h0 h1 h2
      · by_cases h3 : bits BinOp.and IntKind.i64 S (S - 1) = 0
        · by_cases h4 : N < 0
          · exact no4 _ S N H hH l E w hPar h0 h1 h2 h3 h4
          · by_cases h5' : 300 < N
            · exact no5 _ S N H hH l E w hPar h0 h1 h2 h3 h4 h5'
            · by_cases h6 : l.k < 2
              · exact no6 _ S N H hH l E w hPar h0 h1 h2 h3 h4 h5' h6
              · exact yes _ S N H hH l E w hPar hT h0 (hE h0) h1 h2 h3 h4 h5' h6
        · exact no3 _ S N H hH l E w hPar h0 h1 h2 h3
  · exact no0 _ S N H hH l E w hPar h0

set_option maxRecDepth 100000 in
theorem lifted (os : Os) (started : os.Started) (H : Type) (enc : TypeId × Value → H) :
    ReturnsInHanded {} Tryz.checked os 3 .any (fun w args => (Rows.tablePilesSpec.pre enc Tryz.prog Tryz.f3 [] false w args ∧ laidMetH Tryz.prog laidO w) ∧ sizedMet enc Tryz.prog Tryz.f3 (OpenSpec.ofChange Rows.tablePilesSpec) false w args)
      (Rows.tablePilesSpec.post enc Tryz.prog Tryz.f3 false true false false) := by
  refine returnsInHanded_of_change_and (C := Tryz.checked) (X := fun w _ => laidMetH Tryz.prog laidO w) (fun _ _ _ hh h => h.of_heap hh) own started (by kernel_rfl) Tryz.func3
    (ChangeSpec.witness_shaped (enc := enc) (C := Tryz.checked) (os := os) (X := fun w _ => laidMetH Tryz.prog laidO w) false (World.doorLaid Tryz.prog 400 os) #[.agg #[.slice none 0 0, .int .i64 0, .int .i64 0, .int .u64 0]] 8 rfl (World.shaped_of_RefB (by kernel_rfl) (by kernel_rfl)) (by kernel_rfl) (by kernel_rfl) (by kernel_rfl) (door_met os _)) ?_
  intro W base args ds gs before hval0 hW _ hsz hL _
  have hval : ∀ (j : Nat) t v, Tryz.f3.params[j]? = some t → args[j]? = some v → Value.okWide Tryz.prog W .any base t v := hval0
  have hW' := hW
  obtain ⟨p, q, hA0, hV, rfl, hfz, hnd⟩ := hW
  have hA : DataW.TrodAll enc Tryz.prog W 0 (fun _ => true) true Tryz.f3.params.toList args.toList ds p := hA0
  rw [Tryz.params3] at hA hval
  obtain ⟨v0, vs0, d0, ds0, p0, q0, hargs, rfl, rfl, h0, r0⟩ := trodAll_cons hA
  obtain ⟨rfl, rfl, rfl⟩ := trodAll_nil r0
  obtain rfl : args = #[v0] := by cases args; simp_all
  obtain ⟨rfl, rfl⟩ := trodVars_none hV
  have k0 := h0
  have lt0 : ∀ x ∈ p0, x.block < W.heap.size := by obtain ⟨m, hm⟩ := k0; exact DataW.trod_lt m _ _ _ hm
  have hO := of_laid hL
  obtain ⟨a, len, cap, S, N, U, rfl, h5, wU⟩ := open_pile (hval 0 25 v0 rfl rfl) h0
  obtain ⟨u, rfl, hu⟩ := Op.u64_nat wU
  clear hA0 hval0 hsz
  refine (core a len cap S N u hu W hO h5).mono fun e W' ⟨he, hkp⟩ => ?_
  subst he
  have bel : Below W.heap.size W W' := hkp.below (Nat.le_refl _) (fun _ _ e => e)
  exact ⟨_, rfl, _, _, _, [], _, [], hW', (trodAll_cons_mk (shut_bool Tryz.underlying4 _) trodAll_mk0), (trodAll_cons_mk (Below.trod laidOut (by kernel_rfl) (of_decide_eq_true (by kernel_rfl)) k0 bel lt0) trodAll_mk0), rfl, bel.frame _, fun h => by cases h⟩

theorem over : Rows.tablePilesRow.holds Tryz.pinned (OpenSpec.ofChange Rows.tablePilesSpec) :=
  OpenClaim.holds_of_wide 3 Tryz.f3 rfl rfl rfl rfl rfl rfl rfl ⟨rfl, rfl, rfl, rfl, rfl⟩ rfl rfl rfl rfl rfl (by kernel_rfl) Tryz.func3 (by kernel_rfl)
    (of_decide_eq_true (by kernel_rfl)) (by unfold Func.isWrapper; first | (rw [if_pos (by decide +kernel)]; kernel_rfl) | (rw [if_neg (by decide +kernel)]; exact ⟨rfl, rfl⟩))
    (fun os started H enc _ => lifted os started H enc)
end tablePiles

theorem tablePiles_holds : Rows.TablePilesCardSaid :=
  Claim7.holds_tied_plain_at .later [] [.data] true (true, "bed779774ca9a8669ba3a3808e85f6e64e664037758741a9a0be2b0565b06e75") true
    tablePiles.over (fun _ h => by cases h) (by kernel_rfl) (fun _ h => by cases h) tablePiles_row_tie rfl ⟨rfl, rfl⟩ (by kernel_rfl) rfl
    (fun f fn hf hfn => by
      obtain rfl : f = 3 := Option.some.inj ((show Tryz.prog.funcNamed "larder/larderlaw08.TablePiles" = some 3 by kernel_rfl).symm.trans hf) |>.symm
      obtain rfl : fn = Tryz.f3 := (Option.some.inj (Tryz.func3.symm.trans hfn)).symm
      exact ⟨by kernel_rfl, fun j t ht => by
        rw [Tryz.params3] at ht
        have h3 : t = 25 := by
          rcases j with _ | j
          · simpa using ht.symm
          · simp at ht
        subst h3
        exact (show Tryz.prog.wantsStandIn 25 = false by kernel_rfl)⟩)
    (by kernel_rfl)
end Go.Proofs.YtmdnknbolgedgaaGreatDoor
