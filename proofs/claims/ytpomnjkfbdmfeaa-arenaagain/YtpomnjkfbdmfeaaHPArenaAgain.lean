/-
  The statement on ArenaAgain out of its walk.
-/
import Derived.Test.YtpomnjkfbdmfeaaAg16
import Derived.Test.YtpomnjkfbdmfeaaHWArenaAgain
namespace Go.Proofs.Ytpomnjkfbdmfeaa
namespace arenaAgain
open Go.ChangeShapes Go.WideShapes Go.ChangeAt Go.WideMaps Go.WideElems Go.RowKit
set_option linter.unusedVariables false

theorem steps_few {H : Type} {enc : TypeId × Value → H} {w : World} {held : Bool} {n : Nat} {a : Option Addr} {len cap : Nat} {y : DataW H × List MemPlace} (hf : DataW.trod enc Try.prog w 0 (fun _ => true) held n 22 [.slice a len cap] = some y) (hw : ∀ n ∈ y.1.weights Try.prog 22, n ≤ reachBytes) : len ≤ 8796093022000 := by
  have h47 : reachBytes = 140737488351232 := by decide
  rcases Go.Deep.open_slice Try.underlying22 hf with ⟨hcs, hx⟩ | ⟨ad, len', cap', m, n', D, Pl, hcs, _, hl, hm, hmm, hx, hc⟩
  · injection hcs with e1 _
    injection e1 with e1 e2 e3
    omega
  · injection hcs with e1 _
    injection e1 with e1 e2 e3
    subst hx
    have hby : Try.prog.bytesOf 30 = 16 := by kernel_rfl
    have := hw (((List.map D (List.range len')).length + (List.map D ((List.range m).drop len')).length) * Try.prog.bytesOf 30) (by simp [DataW.weights, Try.underlying22])
    rw [hby, List.length_map, List.length_range] at this
    have h2 := Nat.le_trans (Nat.mul_le_mul_right 16 (Nat.le_add_right len' _)) this
    omega

theorem walk (n : Int) (a1 a2 : Option Addr) (cap1 cap2 : Nat) (ss tt : List (Int × Int)) (w : World) (hl1 : ss.length ≤ 8796093022000) (hl2 : tt.length ≤ 8796093022000) (hs : StepsIn w a1 ss) (ht : StepsIn w a2 tt) (hfs : ∀ x ∈ ss, fitsI x.1 ∧ fitsI x.2) (hft : ∀ x ∈ tt, fitsI x.1 ∧ fitsI x.2) :
    Calls Try.prog 6 #[.int .i64 n, .slice a1 ss.length cap1, .slice a2 tt.length cap2] w fun e w' => Post w e w' := by
  by_cases h : n < 0 ∨ 2097152 < n
  · exact walk_no n _ _ w h
  · obtain ⟨m, rfl⟩ := Int.eq_ofNat_of_zero_le (show 0 ≤ n by omega)
    exact walk_yes m a1 a2 cap1 cap2 ss tt w (by omega) hl1 hl2 hs ht hfs hft

theorem own : ownKnob Try.prog.godebug = none := by kernel_rfl
theorem laidOut : laidOutB Try.prog = true := by kernel_rfl

set_option maxRecDepth 100000 in
theorem lifted (os : Os) (started : os.Started) (H : Type) (enc : TypeId × Value → H) :
    ReturnsInHanded {} Try.checked os 6 .any (Rows.arenaAgainSpec.pre6 enc Try.prog Try.f6 Rows.arenaAgainRow.domain false) (Rows.arenaAgainSpec.post enc Try.prog Try.f6 false true false false) := by
  refine returnsInHanded_of_change_sized (C := Try.checked) own started (by kernel_rfl) Try.func6
    (ChangeSpec.witness6 (enc := enc) (C := Try.checked) false ⟨#[], #[.int .i64 0, .slice none 0 0, .slice none 0 0], []⟩ 8 (by kernel_rfl) (by kernel_rfl) (by kernel_rfl) (by kernel_rfl)) ?_
  intro W base args ds gs before hval0 hW hcnd hsz _
  have hval : ∀ (j : Nat) t v, Try.f6.params[j]? = some t → args[j]? = some v → Value.okWide Try.prog W .any base t v := hval0
  have hW' := hW
  obtain ⟨p, q, hA0, hV, rfl, hfz, hnd⟩ := hW
  have hA : DataW.TrodAll enc Try.prog W 0 (fun _ => true) true Try.f6.params.toList args.toList ds p := hA0
  rw [Try.params6] at hA hval
  obtain ⟨v0, vs0, d0, ds0, p0, q0, hargs, rfl, rfl, h0, r0⟩ := trodAll_cons hA
  obtain ⟨v1, vs1, d1, ds1, p1, q1, rfl, rfl, rfl, h1, r1⟩ := trodAll_cons r0
  obtain ⟨v2, vs2, d2, ds2, p2, q2, rfl, rfl, rfl, h2, r2⟩ := trodAll_cons r1
  obtain ⟨rfl, rfl, rfl⟩ := trodAll_nil r2
  obtain rfl : args = #[v0, v1, v2] := by cases args; simp_all
  obtain ⟨rfl, rfl⟩ := trodVars_none hV
  obtain ⟨x0, rfl, rfl, rfl, w0⟩ := open_int Try.underlying3 (hval 0 3 v0 rfl rfl) h0
  obtain ⟨a1, len1, cap1, rfl⟩ := okWide_slice Try.underlying22 (hval 1 22 v1 rfl rfl)
  obtain ⟨a2, len2, cap2, rfl⟩ := okWide_slice Try.underlying22 (hval 2 22 v2 rfl rfl)
  have k1 := h1
  have k2 := h2
  have lt1 : ∀ x ∈ p1, x.block < W.heap.size := by obtain ⟨m, hm⟩ := k1; exact DataW.trod_lt m _ _ _ hm
  have lt2 : ∀ x ∈ p2, x.block < W.heap.size := by obtain ⟨m, hm⟩ := k2; exact DataW.trod_lt m _ _ _ hm
  have htn : (Try.f6.params.toList ++ Rows.arenaAgainSpec.plain.varTypes Try.checked.prog) = [3, 22, 22] := by rw [Try.params6]; rfl
  simp only [List.append_nil] at hsz
  rw [htn] at hsz
  obtain ⟨fuel1, hf1⟩ := h1
  obtain ⟨fuel2, hf2⟩ := h2
  have hw1 : ∀ n ∈ d1.weights Try.prog 22, n ≤ reachBytes := fun n hn => by
    have := List.all_eq_true.1 hsz n (DataW.weights_mem_each (j := 1) rfl rfl n hn)
    simpa using this
  have hw2 : ∀ n ∈ d2.weights Try.prog 22, n ≤ reachBytes := fun n hn => by
    have := List.all_eq_true.1 hsz n (DataW.weights_mem_each (j := 2) rfl rfl n hn)
    simpa using this
  have hl1 := steps_few hf1 hw1
  have hl2 := steps_few hf2 hw2
  obtain ⟨a, cp, ss, e1, hrow, hlen, hfit⟩ : ∃ (a : Option Addr) (cap : Nat) (ss : List (Int × Int)), [Value.slice a1 len1 cap1] = [.slice a ss.length cap] ∧ StepsIn W a ss ∧ ss.length ≤ 8796093022208 ∧ ∀ x ∈ ss, fitsI x.1 ∧ fitsI x.2 := open_steps hf1 hw1
  obtain ⟨a', cp', tt, e2, hrow2, hlen2, hfit2⟩ : ∃ (a : Option Addr) (cap : Nat) (ss : List (Int × Int)), [Value.slice a2 len2 cap2] = [.slice a ss.length cap] ∧ StepsIn W a ss ∧ ss.length ≤ 8796093022208 ∧ ∀ x ∈ ss, fitsI x.1 ∧ fitsI x.2 := open_steps hf2 hw2
  injection e1 with e1 _
  injection e1 with e1 e12 e13
  subst e1 e12 e13
  injection e2 with e2 _
  injection e2 with e2 e22 e23
  subst e2 e22 e23
  clear hA0 hval0 hsz
  refine (walk x0 _ _ _ _ ss tt W hl1 hl2 hrow hrow2 hfit hfit2).mono fun e W' ⟨he, bel⟩ => ?_
  subst he
  exact ⟨_, rfl, _, _, _, [], _, [], hW', (trodAll_cons_mk (shut_bool Try.underlying4 _) trodAll_mk0), (trodAll_cons_mk (shut_int Try.underlying3 w0) (trodAll_cons_mk (Below.trod laidOut (by kernel_rfl) (of_decide_eq_true (by kernel_rfl)) k1 bel lt1) (trodAll_cons_mk (Below.trod laidOut (by kernel_rfl) (of_decide_eq_true (by kernel_rfl)) k2 bel lt2) trodAll_mk0))), rfl, bel.frame _, fun h => by cases h⟩

theorem over : Rows.arenaAgainRow.holds Try.pinned (OpenSpec.ofChange Rows.arenaAgainSpec) :=
  OpenClaim.holds_of_wide 6 Try.f6 rfl rfl rfl rfl rfl rfl rfl ⟨rfl, rfl, rfl, rfl, rfl⟩ rfl rfl rfl rfl rfl (by kernel_rfl) Try.func6 (by kernel_rfl)
    (of_decide_eq_true (by kernel_rfl)) (by unfold Func.isWrapper; first | (rw [if_pos (by decide +kernel)]; kernel_rfl) | (rw [if_neg (by decide +kernel)]; exact ⟨rfl, rfl⟩))
    (fun os started H enc _ => lifted os started H enc)

end arenaAgain

theorem arenaAgain_holds : Rows.ArenaAgainSaid :=
  arenaAgain.over
end Go.Proofs.Ytpomnjkfbdmfeaa
