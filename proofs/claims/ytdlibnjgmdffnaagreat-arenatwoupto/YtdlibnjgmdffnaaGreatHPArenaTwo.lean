/-
  The second statement on ArenaTwo out of its walk.
-/
import Derived.Test.YtdlibnjgmdffnaaGreatEn14
namespace Go.Proofs.YtdlibnjgmdffnaaGreat
namespace arenaTwo
open Go.ChangeShapes Go.WideShapes Go.ChangeAt Go.RowKit
open Go.ChangeMaps (open_string shut_string)
set_option linter.unusedVariables false

theorem own : ownKnob Tryz.prog.godebug = none := by kernel_rfl
theorem laidOut : laidOutB Tryz.prog = true := by kernel_rfl

theorem walk (a b : Int) (so : Option Addr) (cap : Nat) (ops : List OpD) (w : World) (hops : OpsIn w so ops) (hlen : ops.length ≤ 134217728) :
    Calls Tryz.prog 4 #[.int .i64 a, .int .i64 b, .slice so ops.length cap] w fun e w' => YesKeeps w e w' := by
  by_cases hl : a < 0 ∨ 2097152 < a
  · by_cases hm : b < 0 ∨ 2097152 < b
    · refine no_any a b _ w hl 20 (fun W _ => (anew_no b W hm).mono ?_) (fun W _ => (r2new_no b W hm).mono ?_)
      · rintro e w' ⟨rfl, rfl⟩
        exact ⟨none, rfl, Keeps.refl _ _⟩
      · rintro e w' ⟨rfl, rfl⟩
        exact ⟨none, rfl, Keeps.refl _ _⟩
    · obtain ⟨m, rfl⟩ : ∃ m : Nat, b = m := ⟨b.toNat, by omega⟩
      refine no_any a m _ w hl 0 (fun W _ => (anew_yes m W (by omega)).mono ?_) (fun W _ => (r2new_yes m W (by omega)).mono ?_)
      · rintro e w' ⟨p, rfl, _, k⟩
        exact ⟨some ⟨p, 0, none⟩, rfl, k⟩
      · rintro e w' ⟨p, rfl, _, k⟩
        exact ⟨some ⟨p, 0, none⟩, rfl, k⟩
  · obtain ⟨n, rfl⟩ : ∃ n : Nat, a = n := ⟨a.toNat, by omega⟩
    by_cases hm : b < 0 ∨ 2097152 < b
    · exact yes_no n b _ w (by omega) hm
    · obtain ⟨m, rfl⟩ : ∃ m : Nat, b = m := ⟨b.toNat, by omega⟩
      exact yes n m so cap ops w (by omega) (by omega) hops hlen

set_option maxRecDepth 100000 in
theorem contract (H : Type) (enc : TypeId × Value → H) (W : World) (base : Nat) (args : Array Value) (ds gs : List (DataW H)) (before : List MemPlace)
    (hval : ∀ (j : Nat) t v, Tryz.f4.params[j]? = some t → args[j]? = some v → Value.okWide Tryz.prog W .any base t v)
    (hW : DataW.Whole enc Tryz.prog Tryz.f4.params.toList Rows.arenaTwoSpec.vars false W args.toList ds gs before) (hk : Rows.uptoSmall H (ds ++ gs) = true) :
    Calls Tryz.prog 4 args W fun e W' => ∃ v, e = .returned v ∧ Rows.arenaTwoSpec.post enc Tryz.prog Tryz.f4 false true false false W args v W' := by
  have hW' := hW
  obtain ⟨p, q, hA0, hV, rfl, hfz, hnd⟩ := hW
  have hA : DataW.TrodAll enc Tryz.prog W 0 (fun _ => true) true Tryz.f4.params.toList args.toList ds p := hA0
  rw [Tryz.params4] at hA hval
  obtain ⟨v0, vs0, d0, ds0, p0, q0, hargs, rfl, rfl, h0, r0⟩ := trodAll_cons hA
  obtain ⟨v1, vs1, d1, ds1, p1, q1, rfl, rfl, rfl, h1, r1⟩ := trodAll_cons r0
  obtain ⟨v2, vs2, d2, ds2, p2, q2, rfl, rfl, rfl, h2, r2⟩ := trodAll_cons r1
  obtain ⟨rfl, rfl, rfl⟩ := trodAll_nil r2
  obtain rfl : args = #[v0, v1, v2] := by cases args; simp_all
  obtain ⟨rfl, rfl⟩ := trodVars_none hV
  obtain ⟨a0, rfl, rfl, rfl, w0⟩ := open_int Tryz.underlying3 (hval 0 3 v0 rfl rfl) h0
  obtain ⟨a1, rfl, rfl, rfl, w1⟩ := open_int Tryz.underlying3 (hval 1 3 v1 rfl rfl) h1
  obtain ⟨a2, len, cap, rfl⟩ := okWide_slice Tryz.underlying22 (hval 2 22 v2 rfl rfl)
  have k2 := h2
  have lt2 : ∀ x ∈ p2, x.block < W.heap.size := by obtain ⟨m, hm⟩ := k2; exact DataW.trod_lt m _ _ _ hm
  simp only [List.append_nil] at hk
  have hbound : Rows.uptoBulkAll [.lit (.int .i64 a0), .lit (.int .i64 a1), d2] ≤ 1048576 := of_decide_eq_true hk
  obtain ⟨ops, rfl, hops, hn⟩ : ∃ ops : List OpD, len = ops.length ∧ OpsIn W a2 ops ∧ ops.length ≤ 1048576 := by
    obtain ⟨fuel, hf⟩ := h2
    refine open_ops2 hf ?_
    have := part_le (l := [.lit (.int .i64 a0), .lit (.int .i64 a1), d2]) (d := d2) (by simp)
    show Rows.uptoBulk d2 ≤ _
    omega
  clear hA0 hbound
  refine (walk a0 a1 a2 cap ops W hops (by omega)).mono fun e W' ⟨he, kk⟩ => ?_
  subst he
  have bel : Below W.heap.size W W' := kk.below (Nat.le_refl _) (fun _ _ e => e)
  exact ⟨_, rfl, _, _, _, [], _, [], hW', (trodAll_cons_mk (shut_bool Tryz.underlying4 _) trodAll_mk0), (trodAll_cons_mk (shut_int Tryz.underlying3 w0) (trodAll_cons_mk (shut_int Tryz.underlying3 w1) (trodAll_cons_mk (Below.trod laidOut (by kernel_rfl) (of_decide_eq_true (by kernel_rfl)) k2 bel lt2) trodAll_mk0))), rfl, bel.frame _, fun h => by cases h⟩

set_option maxRecDepth 100000 in
theorem lifted (os : Os) (started : os.Started) (H : Type) (enc : TypeId × Value → H) (F : Stop.Interp) :
    ReturnsInHanded {} Tryz.checked os 4 .any ((Rows.OpenSpec.upto Rows.arenaTwoSpec).pre6 enc Tryz.prog Tryz.f4 Rows.arenaTwoUptoRow.domain false) (((Rows.OpenSpec.upto Rows.arenaTwoSpec).at F).post enc Tryz.prog Tryz.f4 false true false false) := by
  refine returnsInHanded_of_cond (C := Tryz.checked) (s := Rows.OpenSpec.upto Rows.arenaTwoSpec) (k := Rows.uptoSmall) rfl own started (by kernel_rfl) Tryz.func4
    (OpenSpec.witness (enc := enc) (C := Tryz.checked) (s := Rows.OpenSpec.upto Rows.arenaTwoSpec) (k := Rows.uptoSmall) rfl false ⟨#[], #[.int .i64 0, .int .i64 0, .slice none 0 0], []⟩ 8 (by kernel_rfl) (by kernel_rfl) (by kernel_rfl)
      (x := ([.lit (.int .i64 0), .lit (.int .i64 0), .nil], [], [])) (by kernel_rfl) rfl (by kernel_rfl)) ?_
  intro W base args ds gs before hval hW _ hk _
  exact contract H enc W base args ds gs before hval hW hk

set_option maxRecDepth 100000 in
theorem over : Rows.arenaTwoUptoRow.holds Tryz.pinned (Rows.OpenSpec.upto Rows.arenaTwoSpec) :=
  OpenClaim.holds_of_cond 4 Tryz.f4 rfl rfl rfl rfl rfl rfl rfl ⟨rfl, rfl, rfl, rfl, rfl⟩ rfl rfl rfl rfl rfl (by kernel_rfl) Tryz.func4 (by kernel_rfl)
    (of_decide_eq_true (by kernel_rfl)) (by unfold Func.isWrapper; first | (rw [if_pos (by decide +kernel)]; kernel_rfl) | (rw [if_neg (by decide +kernel)]; exact ⟨rfl, rfl⟩))
    (fun os started H enc _ F => lifted os started H enc F)
end arenaTwo

theorem arenaTwo_upto_holds : Rows.ArenaTwoUptoSaid :=
  arenaTwo.over
end Go.Proofs.YtdlibnjgmdffnaaGreat
