/-
  The statement on OracleOvers out of its walk, and its card.
-/
import Derived.Test.YtflihieaajbihaaDoorCards
import Derived.Test.YtflihieaajbihaaDoorTie
import Derived.SevenTiedAt
import Derived.SizedLaws
import Derived.Deep.SlicePairs
import Derived.WalkKit
import Derived.ShutString
import Derived.ChangeOld
import Derived.Below
import Derived.Carry
import Derived.Lib.SmallJoins
import Derived.Test.YtflihieaajbihaaDoorODoor
import Derived.Test.YtflihieaajbihaaDoorWOracleOvers
namespace Go.Proofs.YtflihieaajbihaaDoor
namespace oracleOvers
open Go.ChangeShapes Go.WideShapes Go.ChangeAt Go.WideMaps Go.WideElems Go.RowKit
open Go.ChangeMaps (open_string shut_string)
set_option linter.unusedVariables false

instance : Inhabited Ovr := ⟨((⟨#[]⟩, 0) : ByteArray × Nat)⟩
theorem open_overs {H : Type} {enc : TypeId × Value → H} {w : World} {held : Bool} {a : Option Addr} {l c : Nat} {d : DataW H} {ps : List MemPlace} (h : DataW.Trod enc Tryd.prog w 0 (fun _ => true) held 27 (.slice a l c) d ps) :
    ∃ (a' : Option Addr) (cap : Nat) (os : List Ovr), Value.slice a l c = .slice a' os.length cap ∧ RowO w (.slice a l c) os ∧ (os = [] ∨ ∃ elems spare, d = .slice elems spare ∧ os.length ≤ elems.length + spare.length) := by
  obtain ⟨fuel, hf⟩ := h
  rcases Go.Deep.open_slice_pairs Tryd.underlying27 Tryd.underlying34 (by kernel_rfl) rfl rfl (by kernel_rfl) (by kernel_rfl) hf with ⟨hcs, hx⟩ | ⟨ad, len, cap, m, n, V0, V1, D0, D1, P0, P1, hcs, _, hl, hm, hmm, hx, hc⟩
  · have hcs' : Value.slice a l c = .slice none 0 0 := by simpa [Value.cells] using hcs
    rw [hcs']
    exact ⟨none, 0, [], rfl, Or.inl ⟨rfl, rfl⟩, Or.inl rfl⟩
  · have hcs' : Value.slice a l c = .slice (some ad) len cap := by simpa [Value.cells] using hcs
    rw [hcs']
    have hmc : m = cap := by simpa using hmm
    subst hmc
    obtain ⟨f, hf⟩ := Go.Deep.choose_lt (α := Ovr) (n := len) (p := fun i q => w.cell? (ad.add (2 * i)) = some (.string q.1) ∧ w.cell? (ad.add (2 * i + 1)) = some (.int .u64 (q.2 : Nat)) ∧ q.1.size ≤ maxLen) (fun i hi => by
      obtain ⟨g1, g2, g3, g4⟩ := hc i (by omega)
      obtain ⟨s, e1, _, hs⟩ := DataW.trod_string Tryd.underlying9 g3
      obtain ⟨k, e2, _, hw⟩ := DataW.trod_int Tryd.underlying22 g4
      simp only [List.cons.injEq, and_true] at e1 e2
      obtain ⟨X, rfl, _⟩ := u64_nat hw
      rw [Nat.mul_comm i 2, e1] at g1
      rw [Nat.mul_comm i 2, e2] at g2
      exact ⟨((s, X) : ByteArray × Nat), g1, g2, hs⟩)
    have hlen : ((List.range len).map f).length = len := by simp
    refine ⟨some ad, m, (List.range len).map f, by rw [hlen], Or.inr ⟨ad, m, by rw [hlen], by rw [hlen]; exact hl, hm, fun j hj => ?_⟩, Or.inr ?_⟩
    · have hj' : j < len := by rw [hlen] at hj; exact hj
      have e : ((List.range len).map f)[j] = f j := by simp
      rw [e]
      exact hf j hj'
    · simp only [Prod.mk.injEq] at hx
      refine ⟨_, _, hx.1, ?_⟩
      rw [hlen]
      simp

set_option maxRecDepth 100000 in
theorem lifted (os : Os) (started : os.Started) (H : Type) (enc : TypeId × Value → H) :
    ReturnsInHanded {} Tryd.checked os 5 .any (fun w args => (Rows.oracleOversSpec.pre enc Tryd.prog Tryd.f5 [] false w args ∧ laidMetH Tryd.prog laidO w) ∧ sizedMet enc Tryd.prog Tryd.f5 (OpenSpec.ofChange Rows.oracleOversSpec) false w args)
      (Rows.oracleOversSpec.post enc Tryd.prog Tryd.f5 false true false false) := by
  refine returnsInHanded_of_change_and (C := Tryd.checked) (X := fun w _ => laidMetH Tryd.prog laidO w) (fun _ _ _ hh h => h.of_heap hh) own started (by kernel_rfl) Tryd.func5
    (ChangeSpec.witness_shaped (enc := enc) (C := Tryd.checked) (os := os) (X := fun w _ => laidMetH Tryd.prog laidO w) false (World.doorLaid Tryd.prog 400 os) #[.slice none 0 0, .int .u64 0, .string ⟨#[]⟩] 8 rfl (World.shaped_of_RefB (by kernel_rfl) (by kernel_rfl)) (by kernel_rfl) (by kernel_rfl) (by kernel_rfl) (door_met os _)) ?_
  intro W base args ds gs before hval0 hW _ hsz hL _
  have hval : ∀ (j : Nat) t v, Tryd.f5.params[j]? = some t → args[j]? = some v → Value.okWide Tryd.prog W .any base t v := hval0
  have hW' := hW
  obtain ⟨p, q, hA0, hV, rfl, hfz, hnd⟩ := hW
  have hA : DataW.TrodAll enc Tryd.prog W 0 (fun _ => true) true Tryd.f5.params.toList args.toList ds p := hA0
  rw [Tryd.params5] at hA hval
  obtain ⟨v0, vs0, d0, ds0, p0, q0, hargs, rfl, rfl, h0, r0⟩ := trodAll_cons hA
  obtain ⟨v1, vs1, d1, ds1, p1, q1, rfl, rfl, rfl, h1, r1⟩ := trodAll_cons r0
  obtain ⟨v2, vs2, d2, ds2, p2, q2, rfl, rfl, rfl, h2, r2⟩ := trodAll_cons r1
  obtain ⟨rfl, rfl, rfl⟩ := trodAll_nil r2
  obtain rfl : args = #[v0, v1, v2] := by cases args; simp_all
  obtain ⟨rfl, rfl⟩ := trodVars_none hV
  have lt0 : ∀ x ∈ p0, x.block < W.heap.size := by obtain ⟨m, hm⟩ := h0; exact DataW.trod_lt m _ _ _ hm
  obtain ⟨a0, l0, c0, rfl⟩ := okWide_slice Tryd.underlying27 (hval 0 27 v0 rfl rfl)
  obtain ⟨b0, cc0, os', e0, rx, sx⟩ := open_overs h0
  injection e0 with e00 e01 e02
  subst e01
  obtain ⟨a1, rfl, rfl, rfl, w1⟩ := open_int Tryd.underlying22 (hval 1 22 v1 rfl rfl) h1
  obtain ⟨a2, rfl, rfl, rfl, w2⟩ := open_string Tryd.underlying9 (hval 2 9 v2 rfl rfl) h2
  have hO := of_laid hL
  simp only [List.append_nil] at hsz
  have htn : (Tryd.f5.params.toList ++ Rows.oracleOversSpec.plain.varTypes Tryd.checked.prog) = [27, 22, 9] := by rw [Tryd.params5]; rfl
  rw [htn] at hsz
  have s2 : a2.size ≤ reachBytes := sized_string hsz (j := 2) rfl rfl
  have hby : Tryd.checked.prog.bytesOf 34 = 24 := by kernel_rfl
  have n0 : os'.length * 24 ≤ 140737488355328 := by
    rcases sx with rfl | ⟨el, sp, rfl, hle⟩
    · simp
    · have := sized_slice hsz (j := 0) rfl rfl Tryd.underlying27
      rw [hby] at this
      have h47 : reachBytes = 140737488351232 := by decide
      omega
  clear hA0 hval0 hsz
  obtain ⟨A1, rfl, l1⟩ := u64_nat w1
  refine (core a0 c0 os' A1 a2 W rx n0 l1 (Nat.lt_of_le_of_lt s2 (by decide)) hO).mono fun e W' ⟨he, bel⟩ => ?_
  subst he
  exact ⟨_, rfl, _, _, _, [], _, [], hW', (trodAll_cons_mk (shut_bool Tryd.underlying4 _) trodAll_mk0), (trodAll_cons_mk (Below.trod laidOut (by kernel_rfl) (of_decide_eq_true (by kernel_rfl)) h0 bel lt0) (trodAll_cons_mk (shut_int Tryd.underlying22 w1) (trodAll_cons_mk (shut_string Tryd.underlying9 w2) trodAll_mk0))), rfl, bel.frame _, fun h => by cases h⟩

theorem over : Rows.oracleOversRow.holds Tryd.pinned (OpenSpec.ofChange Rows.oracleOversSpec) :=
  OpenClaim.holds_of_wide 5 Tryd.f5 rfl rfl rfl rfl rfl rfl rfl ⟨rfl, rfl, rfl, rfl, rfl⟩ rfl rfl rfl rfl rfl (by kernel_rfl) Tryd.func5 (by kernel_rfl)
    (of_decide_eq_true (by kernel_rfl)) (by unfold Func.isWrapper; first | (rw [if_pos (by decide +kernel)]; kernel_rfl) | (rw [if_neg (by decide +kernel)]; exact ⟨rfl, rfl⟩))
    (fun os started H enc _ => lifted os started H enc)
end oracleOvers

theorem oracleOvers_holds : Rows.OracleOversCardSaid :=
  Claim7.holds_tied_plain_at .later [] [.data] true (true, "cadc44cd922b2fd1532bb9f34c36b97c0ac287f760a23489f527e50298cb8c14") false
    oracleOvers.over (fun _ h => by cases h) (by kernel_rfl) (fun _ h => by cases h) oracleOvers_row_tie rfl ⟨rfl, rfl⟩ (by kernel_rfl) rfl
    (fun f fn hf hfn => by
      obtain rfl : f = 5 := Option.some.inj ((show Tryd.prog.funcNamed "larder/larderlaw04.OracleOvers" = some 5 by kernel_rfl).symm.trans hf) |>.symm
      obtain rfl : fn = Tryd.f5 := (Option.some.inj (Tryd.func5.symm.trans hfn)).symm
      exact ⟨by kernel_rfl, fun j t ht => by
        rw [Tryd.params5] at ht
        have h3 : t = 27 ∨ t = 22 ∨ t = 9 := by
          rcases j with _ | _ | _ | j
          · exact Or.inl (by simpa using ht.symm)
          · exact Or.inr (Or.inl (by simpa using ht.symm))
          · exact Or.inr (Or.inr (by simpa using ht.symm))
          · simp at ht
        rcases h3 with rfl | rfl | rfl
        · exact (show Tryd.prog.wantsStandIn 27 = false by kernel_rfl)
        · exact (show Tryd.prog.wantsStandIn 22 = false by kernel_rfl)
        · exact (show Tryd.prog.wantsStandIn 9 = false by kernel_rfl)⟩)
    (by kernel_rfl)
end Go.Proofs.YtflihieaajbihaaDoor
