import Derived.Test.YteokfhccfmeffaaRows
import Derived.WalkKit
import Derived.ProofKit
import Derived.OpenShut
import Derived.ChangeOld
import Derived.Carry
import Derived.Lib.SmallJoins
namespace Go.Proofs.Yteokfhccfmeffaa
open Go.ChangeShapes Go.WideShapes Go.ChangeAt Go.RowKit

theorem array7 {α : Type} {cs : Array α} (h : cs.size = 7) : ∃ c0 c1 c2 c3 c4 c5 c6, cs = #[c0, c1, c2, c3, c4, c5, c6] := by
  obtain ⟨l⟩ := cs
  match l, h with
  | [c0, c1, c2, c3, c4, c5, c6], _ => exact ⟨c0, c1, c2, c3, c4, c5, c6, rfl⟩

section
variable {H : Type} {enc : TypeId × Value → H} {w : World} {base : Nat} {spare : TypeId → Bool} {held : Bool}
theorem raw_fields {fuel : Nat} {v0 v1 v2 v3 v4 v5 v6 : Value} {x : DataW H × List MemPlace} (h : DataW.trod enc Try.prog w base spare held fuel 23 [v0, v1, v2, v3, v4, v5, v6] = some x) :
    ∃ k e a b c p z : Int, v0 = .int .i64 k ∧ v1 = .int .i64 e ∧ v2 = .int .i64 a ∧ v3 = .int .i64 b ∧ v4 = .int .i64 c ∧ v5 = .int .i64 p ∧ v6 = .int .i64 z ∧
      (Lit.int .i64 k).wf = true ∧ (Lit.int .i64 e).wf = true ∧ (Lit.int .i64 a).wf = true ∧ (Lit.int .i64 b).wf = true ∧ (Lit.int .i64 c).wf = true ∧ (Lit.int .i64 p).wf = true ∧ (Lit.int .i64 z).wf = true := by
  obtain ⟨xs, n, _, rfl, hl, hlen, hf⟩ := DataW.trod_struct Try.underlying23 h
  have hlen7 : xs.length = 7 := hlen
  have c3 : Try.prog.cellsOf 3 = 1 := by kernel_rfl
  match xs, hlen7 with
  | [y0, y1, y2, y3, y4, y5, y6], _ =>
    have f0 : DataW.trod enc Try.prog w base spare held n 3 (([v0, v1, v2, v3, v4, v5, v6].drop 0).take (Try.prog.cellsOf 3)) = some y0 := hf 0 _ rfl
    have f1 : DataW.trod enc Try.prog w base spare held n 3 (([v0, v1, v2, v3, v4, v5, v6].drop 1).take (Try.prog.cellsOf 3)) = some y1 := hf 1 _ rfl
    have f2 : DataW.trod enc Try.prog w base spare held n 3 (([v0, v1, v2, v3, v4, v5, v6].drop 2).take (Try.prog.cellsOf 3)) = some y2 := hf 2 _ rfl
    have f3 : DataW.trod enc Try.prog w base spare held n 3 (([v0, v1, v2, v3, v4, v5, v6].drop 3).take (Try.prog.cellsOf 3)) = some y3 := hf 3 _ rfl
    have f4 : DataW.trod enc Try.prog w base spare held n 3 (([v0, v1, v2, v3, v4, v5, v6].drop 4).take (Try.prog.cellsOf 3)) = some y4 := hf 4 _ rfl
    have f5 : DataW.trod enc Try.prog w base spare held n 3 (([v0, v1, v2, v3, v4, v5, v6].drop 5).take (Try.prog.cellsOf 3)) = some y5 := hf 5 _ rfl
    have f6 : DataW.trod enc Try.prog w base spare held n 3 (([v0, v1, v2, v3, v4, v5, v6].drop 6).take (Try.prog.cellsOf 3)) = some y6 := hf 6 _ rfl
    clear hf h
    rw [c3] at f0 f1 f2 f3 f4 f5 f6
    obtain ⟨k0, e0, q0, w0⟩ := DataW.trod_int Try.underlying3 f0
    obtain ⟨k1, e1, q1, w1⟩ := DataW.trod_int Try.underlying3 f1
    obtain ⟨k2, e2, q2, w2⟩ := DataW.trod_int Try.underlying3 f2
    obtain ⟨k3, e3, q3, w3⟩ := DataW.trod_int Try.underlying3 f3
    obtain ⟨k4, e4, q4, w4⟩ := DataW.trod_int Try.underlying3 f4
    obtain ⟨k5, e5, q5, w5⟩ := DataW.trod_int Try.underlying3 f5
    obtain ⟨k6, e6, q6, w6⟩ := DataW.trod_int Try.underlying3 f6
    simp at e0 e1 e2 e3 e4 e5 e6
    exact ⟨k0, k1, k2, k3, k4, k5, k6, e0, e1, e2, e3, e4, e5, e6, w0, w1, w2, w3, w4, w5, w6⟩

theorem open_raw {r : Reach} {b0 : Nat} {v : Value} {d : DataW H} {q : List MemPlace} (hv : Value.okWide Try.prog w r b0 23 v) (h : DataW.Trod enc Try.prog w base spare held 23 v d q) :
    ∃ k e a b c p z : Int, v = .agg #[.int .i64 k, .int .i64 e, .int .i64 a, .int .i64 b, .int .i64 c, .int .i64 p, .int .i64 z] ∧
      (Lit.int .i64 k).wf = true ∧ (Lit.int .i64 e).wf = true ∧ (Lit.int .i64 a).wf = true ∧ (Lit.int .i64 b).wf = true ∧ (Lit.int .i64 c).wf = true ∧ (Lit.int .i64 p).wf = true ∧ (Lit.int .i64 z).wf = true := by
  obtain ⟨cs, rfl, hsz⟩ := okWide_struct Try.underlying23 hv
  obtain ⟨c0, c1, c2, c3, c4, c5, c6, rfl⟩ := array7 (hsz.trans (by kernel_rfl))
  obtain ⟨fuel, hf⟩ := h
  obtain ⟨k, e, a, b, c, p, z, rfl, rfl, rfl, rfl, rfl, rfl, rfl, hw⟩ := raw_fields (by simpa [Value.cells] using hf)
  exact ⟨k, e, a, b, c, p, z, rfl, hw⟩
end
end Go.Proofs.Yteokfhccfmeffaa
