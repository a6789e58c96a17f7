/-
  The statement on OracleDraws out of its walk.
-/
import Derived.Test.YtflihieaajbihaaRows
import Derived.WalkKit
import Derived.ProofKit
import Derived.OpenShut
import Derived.ShutString
import Derived.ChangeOld
import Derived.Below
import Derived.Carry
import Derived.SizedLaws
import Derived.ChangeSlices
import Derived.Lib.SmallJoins
import Derived.Test.YtflihieaajbihaaWOracleDraws
namespace Go.Proofs.Ytflihieaajbihaa
namespace oracleDraws
open Go.ChangeShapes Go.WideShapes Go.ChangeAt Go.RowKit
set_option linter.unusedVariables false

theorem own : ownKnob Try.prog.godebug = none := by kernel_rfl
theorem laidOut : laidOutB Try.prog = true := by kernel_rfl

theorem nats_of {l : List Int} (h : ∀ n ∈ l, (Lit.int .u64 n).wf = true) : ∃ xs : List Nat, l = xs.map (fun x : Nat => (x : Int)) := by
  induction l with
  | nil => exact ⟨[], rfl⟩
  | cons a t ih =>
    obtain ⟨xs, rfl⟩ := ih (fun n hn => h n (List.mem_cons_of_mem _ hn))
    obtain ⟨m, rfl, _⟩ := u64_nat (h a (List.mem_cons_self ..))
    exact ⟨m :: xs, rfl⟩

open Go.ChangeShapes in
theorem open_u64s {H : Type} {enc : TypeId × Value → H} {w : World} {held : Bool} {v : Value} {d : DataW H} {ps : List MemPlace} (h : DataW.Trod enc Try.prog w 0 (fun _ => true) held 22 v d ps) (hv : v.cells.toList = [v]) :
    ∃ (a : Option Addr) (cap : Nat) (xs : List Nat), v = .slice a xs.length cap ∧ RowU w v xs ∧ (xs = [] ∨ ∃ elems spare, d = .slice elems spare ∧ xs.length ≤ elems.length + spare.length) := by
  obtain ⟨fuel, hf⟩ := h
  rcases open_ints Try.underlying22 Try.underlying24 (by kernel_rfl) hf with ⟨hcs, hx⟩ | ⟨a, len, cap, zs, hcs, _, hl, hm, hz, hx, hcell, hwf⟩
  · rw [hv] at hcs
    simp only [List.cons.injEq, and_true] at hcs
    subst hcs
    exact ⟨none, 0, [], rfl, Or.inl ⟨rfl, rfl⟩, Or.inl rfl⟩
  · rw [hv] at hcs
    simp only [List.cons.injEq, and_true] at hcs
    subst hcs
    have hz' : zs.length = cap := by simpa using hz
    obtain ⟨ns, rfl⟩ := nats_of hwf
    have hlen : (ns.take len).length = len := by simp at hz' ⊢; omega
    refine ⟨some a, cap, ns.take len, by rw [hlen], Or.inr ⟨a, cap, by rw [hlen], by rw [hlen]; exact hl, hm, fun j hj => ?_⟩, Or.inr ?_⟩
    · have hjn : j < ns.length := by simp at hz' hj; omega
      rw [hcell j (by simpa using hjn)]
      simp [List.getD, hjn]
    · simp only [Prod.mk.injEq] at hx
      refine ⟨_, _, hx.1, ?_⟩
      rw [hlen]
      simp [lits] at hz' ⊢
      omega
open Go.ChangeShapes in
theorem open_i64s {H : Type} {enc : TypeId × Value → H} {w : World} {held : Bool} {v : Value} {d : DataW H} {ps : List MemPlace} (h : DataW.Trod enc Try.prog w 0 (fun _ => true) held 23 v d ps) (hv : v.cells.toList = [v]) :
    ∃ (a : Option Addr) (cap : Nat) (xs : List Int), v = .slice a xs.length cap ∧ RowI w v xs := by
  obtain ⟨fuel, hf⟩ := h
  rcases open_ints Try.underlying23 Try.underlying3 (by kernel_rfl) hf with ⟨hcs, hx⟩ | ⟨a, len, cap, zs, hcs, _, hl, hm, hz, hx, hcell, hwf⟩
  · rw [hv] at hcs
    simp only [List.cons.injEq, and_true] at hcs
    subst hcs
    exact ⟨none, 0, [], rfl, Or.inl ⟨rfl, rfl⟩⟩
  · rw [hv] at hcs
    simp only [List.cons.injEq, and_true] at hcs
    subst hcs
    have hz' : zs.length = cap := by simpa using hz
    have hlen : (zs.take len).length = len := by simp; omega
    refine ⟨some a, cap, zs.take len, by rw [hlen], Or.inr ⟨a, cap, by rw [hlen], by rw [hlen]; exact hl, hm, fun j hj => ?_⟩⟩
    have hjn : j < zs.length := by simp at hj; omega
    rw [hcell j hjn]
    simp [List.getD, hjn]

set_option maxRecDepth 100000 in
theorem lifted (os : Os) (started : os.Started) (H : Type) (enc : TypeId × Value → H) :
    ReturnsInHanded {} Try.checked os 3 .any (Rows.oracleDrawsSpec.pre6 enc Try.prog Try.f3 Rows.oracleDrawsRow.domain false) (Rows.oracleDrawsSpec.post enc Try.prog Try.f3 false true false false) := by
  refine returnsInHanded_of_change_sized (C := Try.checked) own started (by kernel_rfl) Try.func3
    (ChangeSpec.witness6 (enc := enc) (C := Try.checked) false ⟨#[], #[.slice none 0 0, .slice none 0 0, .slice none 0 0], []⟩ 8 (by kernel_rfl) (by kernel_rfl) (by kernel_rfl) (by kernel_rfl)) ?_
  intro W base args ds gs before hval0 hW hcnd hsz _
  have hval : ∀ (j : Nat) t v, Try.f3.params[j]? = some t → args[j]? = some v → Value.okWide Try.prog W .any base t v := hval0
  have hW' := hW
  obtain ⟨p, q, hA0, hV, rfl, hfz, hnd⟩ := hW
  have hA : DataW.TrodAll enc Try.prog W 0 (fun _ => true) true Try.f3.params.toList args.toList ds p := hA0
  rw [Try.params3] at hA hval
  obtain ⟨v0, vs0, d0, ds0, p0, q0, hargs, rfl, rfl, h0, r0⟩ := trodAll_cons hA
  obtain ⟨v1, vs1, d1, ds1, p1, q1, rfl, rfl, rfl, h1, r1⟩ := trodAll_cons r0
  obtain ⟨v2, vs2, d2, ds2, p2, q2, rfl, rfl, rfl, h2, r2⟩ := trodAll_cons r1
  obtain ⟨rfl, rfl, rfl⟩ := trodAll_nil r2
  obtain rfl : args = #[v0, v1, v2] := by cases args; simp_all
  obtain ⟨rfl, rfl⟩ := trodVars_none hV
  have lt0 : ∀ x ∈ p0, x.block < W.heap.size := by obtain ⟨m, hm⟩ := h0; exact DataW.trod_lt m _ _ _ hm
  have lt1 : ∀ x ∈ p1, x.block < W.heap.size := by obtain ⟨m, hm⟩ := h1; exact DataW.trod_lt m _ _ _ hm
  have lt2 : ∀ x ∈ p2, x.block < W.heap.size := by obtain ⟨m, hm⟩ := h2; exact DataW.trod_lt m _ _ _ hm
  obtain ⟨a0, l0, c0, rfl⟩ := okWide_slice Try.underlying22 (hval 0 22 v0 rfl rfl)
  obtain ⟨a1, l1, c1, rfl⟩ := okWide_slice Try.underlying22 (hval 1 22 v1 rfl rfl)
  obtain ⟨a2, l2, c2, rfl⟩ := okWide_slice Try.underlying23 (hval 2 23 v2 rfl rfl)
  obtain ⟨b0, cc0, xs, e0, rx, sx⟩ := open_u64s h0 rfl
  obtain ⟨b1, cc1, ys, e1, ry, sy⟩ := open_u64s h1 rfl
  obtain ⟨b2, cc2, zs, e2, rz⟩ := open_i64s h2 rfl
  injection e0 with e00 e01 e02
  injection e1 with e10 e11 e12
  injection e2 with e20 e21 e22
  subst e01 e11 e21
  have htn : (Try.f3.params.toList ++ Rows.oracleDrawsSpec.plain.varTypes Try.checked.prog) = [22, 22, 23] := by rw [Try.params3]; rfl
  simp only [List.append_nil] at hsz
  rw [htn] at hsz
  have hby : Try.checked.prog.bytesOf 24 = 8 := by kernel_rfl
  have n0 : xs.length * 8 + 8 ≤ 140737488355328 := by
    rcases sx with rfl | ⟨el, sp, rfl, hle⟩
    · simp
    · have := sized_slice hsz (j := 0) rfl rfl Try.underlying22
      rw [hby] at this
      have h47 : reachBytes = 140737488351232 := by decide
      omega
  have n1 : ys.length * 8 ≤ 140737488355328 := by
    rcases sy with rfl | ⟨el, sp, rfl, hle⟩
    · simp
    · have := sized_slice hsz (j := 1) rfl rfl Try.underlying22
      rw [hby] at this
      have h47 : reachBytes = 140737488351232 := by decide
      omega
  clear hA0 hval0 hsz
  refine (core a0 a1 a2 c0 c1 c2 xs ys zs W rx ry rz n0 n1).mono fun e W' ⟨he, bel⟩ => ?_
  subst he
  exact ⟨_, rfl, _, _, _, [], _, [], hW', (trodAll_cons_mk (shut_bool Try.underlying4 _) trodAll_mk0), (trodAll_cons_mk (Below.trod laidOut (by kernel_rfl) (of_decide_eq_true (by kernel_rfl)) h0 bel lt0) (trodAll_cons_mk (Below.trod laidOut (by kernel_rfl) (of_decide_eq_true (by kernel_rfl)) h1 bel lt1) (trodAll_cons_mk (Below.trod laidOut (by kernel_rfl) (of_decide_eq_true (by kernel_rfl)) h2 bel lt2) trodAll_mk0))), rfl, bel.frame _, fun h => by cases h⟩

theorem over : Rows.oracleDrawsRow.holds Try.pinned (OpenSpec.ofChange Rows.oracleDrawsSpec) :=
  OpenClaim.holds_of_wide 3 Try.f3 rfl rfl rfl rfl rfl rfl rfl ⟨rfl, rfl, rfl, rfl, rfl⟩ rfl rfl rfl rfl rfl (by kernel_rfl) Try.func3 (by kernel_rfl)
    (of_decide_eq_true (by kernel_rfl)) (by unfold Func.isWrapper; first | (rw [if_pos (by decide +kernel)]; kernel_rfl) | (rw [if_neg (by decide +kernel)]; exact ⟨rfl, rfl⟩))
    (fun os started H enc _ => lifted os started H enc)

end oracleDraws

theorem oracleDraws_holds : Rows.OracleDrawsSaid :=
  oracleDraws.over
end Go.Proofs.Ytflihieaajbihaa
