/-
  A struct of four numbers that came in.
-/
import Derived.Test.YtbpgjlengpgnnabDoorRows
import Derived.WalkKit
import Derived.ProofKit
import Derived.OpenShut
import Derived.ChangeOld
import Derived.Carry
import Derived.Lib.SmallJoins
namespace Go.Proofs.YtbpgjlengpgnnabDoor
open Go.ChangeShapes Go.WideShapes Go.ChangeAt Go.RowKit

theorem array4 {α : Type} {cs : Array α} (h : cs.size = 4) : ∃ c0 c1 c2 c3, cs = #[c0, c1, c2, c3] := by
  obtain ⟨l⟩ := cs
  match l, h with
  | [c0, c1, c2, c3], _ => exact ⟨c0, c1, c2, c3, rfl⟩

section
variable {H : Type} {enc : TypeId × Value → H} {w : World} {base : Nat} {spare : TypeId → Bool} {held : Bool}
theorem ask_fields {fuel : Nat} {v0 v1 v2 v3 : Value} {x : DataW H × List MemPlace} (h : DataW.trod enc Tryd.prog w base spare held fuel 24 [v0, v1, v2, v3] = some x) :
    ∃ k e a b : Int, v0 = .int .u64 k ∧ v1 = .int .i64 e ∧ v2 = .int .i64 a ∧ v3 = .int .i64 b ∧
      (Lit.int .u64 k).wf = true ∧ (Lit.int .i64 e).wf = true ∧ (Lit.int .i64 a).wf = true ∧ (Lit.int .i64 b).wf = true := by
  obtain ⟨xs, n, _, rfl, hl, hlen, hf⟩ := DataW.trod_struct Tryd.underlying24 h
  have hlen4 : xs.length = 4 := hlen
  have c3 : Tryd.prog.cellsOf 3 = 1 := by kernel_rfl
  have c2 : Tryd.prog.cellsOf 22 = 1 := by kernel_rfl
  match xs, hlen4 with
  | [y0, y1, y2, y3], _ =>
    have f0 : DataW.trod enc Tryd.prog w base spare held n 22 (([v0, v1, v2, v3].drop 0).take (Tryd.prog.cellsOf 22)) = some y0 := hf 0 _ rfl
    have f1 : DataW.trod enc Tryd.prog w base spare held n 3 (([v0, v1, v2, v3].drop 1).take (Tryd.prog.cellsOf 3)) = some y1 := hf 1 _ rfl
    have f2 : DataW.trod enc Tryd.prog w base spare held n 3 (([v0, v1, v2, v3].drop 2).take (Tryd.prog.cellsOf 3)) = some y2 := hf 2 _ rfl
    have f3 : DataW.trod enc Tryd.prog w base spare held n 3 (([v0, v1, v2, v3].drop 3).take (Tryd.prog.cellsOf 3)) = some y3 := hf 3 _ rfl
    clear hf h
    rw [c3] at f1 f2 f3
    rw [c2] at f0
    obtain ⟨k0, e0, q0, w0⟩ := DataW.trod_int Tryd.underlying22 f0
    obtain ⟨k1, e1, q1, w1⟩ := DataW.trod_int Tryd.underlying3 f1
    obtain ⟨k2, e2, q2, w2⟩ := DataW.trod_int Tryd.underlying3 f2
    obtain ⟨k3, e3, q3, w3⟩ := DataW.trod_int Tryd.underlying3 f3
    simp at e0 e1 e2 e3
    exact ⟨k0, k1, k2, k3, e0, e1, e2, e3, w0, w1, w2, w3⟩

theorem open_ask {r : Reach} {b0 : Nat} {v : Value} {d : DataW H} {q : List MemPlace} (hv : Value.okWide Tryd.prog w r b0 24 v) (h : DataW.Trod enc Tryd.prog w base spare held 24 v d q) :
    ∃ k e a b : Int, v = .agg #[.int .u64 k, .int .i64 e, .int .i64 a, .int .i64 b] ∧
      (Lit.int .u64 k).wf = true ∧ (Lit.int .i64 e).wf = true ∧ (Lit.int .i64 a).wf = true ∧ (Lit.int .i64 b).wf = true := by
  obtain ⟨cs, rfl, hsz⟩ := okWide_struct Tryd.underlying24 hv
  obtain ⟨c0, c1, c2, c3, rfl⟩ := array4 (hsz.trans (by kernel_rfl))
  obtain ⟨fuel, hf⟩ := h
  obtain ⟨k, e, a, b, rfl, rfl, rfl, rfl, hw⟩ := ask_fields (by simpa [Value.cells] using hf)
  exact ⟨k, e, a, b, rfl, hw⟩
end
end Go.Proofs.YtbpgjlengpgnnabDoor
