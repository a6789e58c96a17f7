import Derived.Test.YtgmcpjklgacdpaaRows
import Derived.WalkKit
import Derived.ProofKit
import Derived.OpenShut
import Derived.ShutString
import Derived.ChangeOld
import Derived.Below
import Derived.Carry
import Derived.Lib.SmallJoins
import Derived.Deep.Slices
import Derived.Test.YtgmcpjklgacdpaaIn14
/-
  The statement on ArenaInside out of its walk.
-/
namespace Go.Proofs.Ytgmcpjklgacdpaa
namespace arenaInside
open Go.ChangeShapes Go.WideShapes Go.ChangeAt Go.RowKit
set_option linter.unusedVariables false

theorem own : ownKnob Try.prog.godebug = none := by kernel_rfl
theorem laidOut : laidOutB Try.prog = true := by kernel_rfl

theorem plain_of_cell {w : World} {a : Addr} {v : Value} (h : w.cell? (a.add 0) = some v) : ∃ bb oo, a = ⟨bb, oo, none⟩ ∧ bb < w.heap.size := by
  obtain ⟨bb, oo, sp⟩ := a
  have h' : w.cell? ⟨bb, oo, sp⟩ = some v := h
  have hlt : bb < w.heap.size := by
    rcases Nat.lt_or_ge bb w.heap.size with h1 | h1
    · exact h1
    · simp [World.cell?, Array.getElem?_eq_none h1] at h'
  cases sp with
  | none => exact ⟨bb, oo, rfl, hlt⟩
  | some s =>
    exfalso
    unfold World.cell? at h'
    split at h' <;> simp at h'

/-- A list of ints that came in. -/
theorem open_sizes {H : Type} {enc : TypeId × Value → H} {w : World} {held : Bool} {n : Nat} {cs : List Value} {y : DataW H × List MemPlace} (h : DataW.trod enc Try.prog w 0 (fun _ => true) held n 33 cs = some y) :
    ∃ (a : Option Addr) (cap : Nat) (ss : List Int), cs = [.slice a ss.length cap] ∧ ss.length ≤ 9223372036854775807 ∧ IntsAt w a ss ∧ (0 < ss.length → ∀ b o, a = some ⟨b, o, none⟩ → b < w.heap.size) := by
  rcases Go.Deep.open_slice1 Try.underlying33 (by kernel_rfl) h with ⟨hcs, _⟩ | ⟨a, len, cap, m, n', V, D, Pl, hcs, _, hl, hm, hmm, rfl, hx⟩
  · exact ⟨none, 0, [], hcs, by simp, fun j hj => by simp at hj, fun h0 => by simp at h0⟩
  · have hmc : m = cap := by simpa using hmm
    subst hmc
    have hmx : m ≤ 9223372036854775807 := hm
    by_cases hz : len = 0
    · subst hz
      exact ⟨some a, m, [], hcs, by simp, fun j hj => by simp at hj, fun h0 => by simp at h0⟩
    obtain ⟨f, hf⟩ := Go.Deep.choose_lt (α := Int) (n := len) (p := fun i x => w.cell? (a.add i) = some (.int .i64 x)) (fun i hi => by
      obtain ⟨g1, g2⟩ := hx i (by omega)
      obtain ⟨x, e, _, _⟩ := DataW.trod_int Try.underlying3 g2
      simp at e
      exact ⟨x, by rw [g1, e]⟩)
    obtain ⟨bb, oo, rfl, hlt⟩ := plain_of_cell (w := w) (a := a) (hf 0 (by omega))
    refine ⟨some ⟨bb, oo, none⟩, m, (List.range len).map f, by rw [List.length_map, List.length_range]; exact hcs, by rw [List.length_map, List.length_range]; omega, fun j hj => ?_, fun _ b o e => ?_⟩
    · have hj' : j < len := by simpa using hj
      have := hf j hj'
      refine ⟨bb, oo, rfl, ?_⟩
      have e : (Addr.add ⟨bb, oo, none⟩ j) = ⟨bb, oo + j, none⟩ := by simp [Addr.add]
      rw [e] at this
      rw [this]
      simp
    · injection e with e
      injection e with e1
      subst e1
      exact hlt

set_option maxRecDepth 100000 in
theorem lifted (os : Os) (started : os.Started) (H : Type) (enc : TypeId × Value → H) :
    ReturnsInHanded {} Try.checked os 5 .any (Rows.arenaInsideSpec.pre6 enc Try.prog Try.f5 Rows.arenaInsideRow.domain false) (Rows.arenaInsideSpec.post enc Try.prog Try.f5 false true false false) := by
  refine returnsInHanded_of_change (C := Try.checked) own started (by kernel_rfl) Try.func5
    (ChangeSpec.witness6 (enc := enc) (C := Try.checked) false ⟨#[], #[.agg #[.slice none 0 0, .int .u64 0, .int .i64 0, .int .i64 0]], []⟩ 8 (by kernel_rfl) (by kernel_rfl) (by kernel_rfl) (by kernel_rfl)) ?_
  intro W base args ds gs before hval0 hW hcnd _
  have hval : ∀ (j : Nat) t v, Try.f5.params[j]? = some t → args[j]? = some v → Value.okWide Try.prog W .any base t v := hval0
  have hW' := hW
  obtain ⟨p, q, hA0, hV, rfl, hfz, hnd⟩ := hW
  have hA : DataW.TrodAll enc Try.prog W 0 (fun _ => true) true Try.f5.params.toList args.toList ds p := hA0
  rw [Try.params5] at hA hval
  obtain ⟨v0, vs0, d0, ds0, p0, q0, hargs, rfl, rfl, h0, r0⟩ := trodAll_cons hA
  obtain ⟨rfl, rfl, rfl⟩ := trodAll_nil r0
  obtain rfl : args = #[v0] := by cases args; simp_all
  obtain ⟨rfl, rfl⟩ := trodVars_none hV
  have k0 := h0
  have lt0 : ∀ x ∈ p0, x.block < W.heap.size := by obtain ⟨m, hm⟩ := k0; exact DataW.trod_lt m _ _ _ hm
  obtain ⟨c0, c1, c2, c3, y0, y1, y2, y3, n, rfl, rfl, rfl, t0, t1, t2, t3⟩ := Go.Joins.open_agg4 Try.underlying50 (by kernel_rfl) (by kernel_rfl) (hval 0 50 v0 rfl rfl) h0
  obtain ⟨a0, cp0, ss, e0, hlen, hin, hb⟩ := open_sizes t0
  obtain ⟨x1, e1, rfl, w1⟩ := DataW.trod_int Try.underlying22 t1
  obtain ⟨x2, e2, rfl, w2⟩ := DataW.trod_int Try.underlying3 t2
  obtain ⟨x3, e3, rfl, w3⟩ := DataW.trod_int Try.underlying3 t3
  simp only [List.cons.injEq, and_true] at e0 e1 e2 e3
  subst e0 e1 e2 e3
  clear hA0 hval0
  refine (walk a0 cp0 ss x1 x2 x3 W hlen hin hb w2 w3).mono fun e W' ⟨he, bel⟩ => ?_
  subst he
  exact ⟨_, rfl, _, _, _, [], _, [], hW', (trodAll_cons_mk (shut_bool Try.underlying4 _) trodAll_mk0), (trodAll_cons_mk (Below.trod laidOut (by kernel_rfl) (of_decide_eq_true (by kernel_rfl)) k0 bel lt0) trodAll_mk0), rfl, bel.frame _, fun h => by cases h⟩

theorem over : Rows.arenaInsideRow.holds Try.pinned (OpenSpec.ofChange Rows.arenaInsideSpec) :=
  OpenClaim.holds_of_wide 5 Try.f5 rfl rfl rfl rfl rfl rfl rfl ⟨rfl, rfl, rfl, rfl, rfl⟩ rfl rfl rfl rfl rfl (by kernel_rfl) Try.func5 (by kernel_rfl)
    (of_decide_eq_true (by kernel_rfl)) (by unfold Func.isWrapper; first | (rw [if_pos (by decide +kernel)]; kernel_rfl) | (rw [if_neg (by decide +kernel)]; exact ⟨rfl, rfl⟩))
    (fun os started H enc _ => lifted os started H enc)

end arenaInside

theorem arenaInside_holds : Rows.ArenaInsideSaid :=
  arenaInside.over
end Go.Proofs.Ytgmcpjklgacdpaa
