/-
  typed: a Pair that came in.
-/
import Derived.Test.YtgbeacfiaegehaaYR
import Derived.Test.YtgbeacfiaegehaaYC
namespace Go.Proofs.Ytgbeacfiaegehaa
open Go.ChangeShapes Go.WideShapes Go.ChangeAt Go.RowKit
set_option linter.unusedVariables false
section
variable {H : Type} {enc : TypeId × Value → H} {w : World} {base : Nat} {spare : Nat → Bool} {held : Bool}
theorem pair_fields {fuel : Nat} {v0 v1 v2 v3 v4 v5 v6 v7 v8 v9 : Value} {x : DataW H × List MemPlace} (h : DataW.trod enc Try.prog w base spare held fuel 25 [v0, v1, v2, v3, v4, v5, v6, v7, v8, v9] = some x) :
    ∃ p : PairD, p.Ok ∧ v0 = .int .i64 p.i ∧ v1 = .int .i64 p.j ∧ v2 = .int .u64 (p.u : Int) ∧ v3 = .int .u64 (p.v : Int) ∧ v4 = .float .f64 p.f ∧ v5 = .float .f64 p.g ∧ v6 = .bool p.b ∧ v7 = .bool p.c ∧ v8 = .string p.s ∧ v9 = .string p.t := by
  obtain ⟨xs, n, _, rfl, hl, hlen, hf⟩ := DataW.trod_struct Try.underlying25 h
  have hlen10 : xs.length = 10 := hlen
  have c2 : Try.prog.cellsOf 2 = 1 := by kernel_rfl
  have c22 : Try.prog.cellsOf 22 = 1 := by kernel_rfl
  have c23 : Try.prog.cellsOf 23 = 1 := by kernel_rfl
  have c4 : Try.prog.cellsOf 4 = 1 := by kernel_rfl
  have c9 : Try.prog.cellsOf 9 = 1 := by kernel_rfl
  match xs, hlen10 with
  | [y0, y1, y2, y3, y4, y5, y6, y7, y8, y9], _ =>
    have f0 : DataW.trod enc Try.prog w base spare held n 2 (([v0, v1, v2, v3, v4, v5, v6, v7, v8, v9].drop 0).take (Try.prog.cellsOf 2)) = some y0 := hf 0 _ rfl
    have f1 : DataW.trod enc Try.prog w base spare held n 2 (([v0, v1, v2, v3, v4, v5, v6, v7, v8, v9].drop 1).take (Try.prog.cellsOf 2)) = some y1 := hf 1 _ rfl
    have f2 : DataW.trod enc Try.prog w base spare held n 22 (([v0, v1, v2, v3, v4, v5, v6, v7, v8, v9].drop 2).take (Try.prog.cellsOf 22)) = some y2 := hf 2 _ rfl
    have f3 : DataW.trod enc Try.prog w base spare held n 22 (([v0, v1, v2, v3, v4, v5, v6, v7, v8, v9].drop 3).take (Try.prog.cellsOf 22)) = some y3 := hf 3 _ rfl
    have f4 : DataW.trod enc Try.prog w base spare held n 23 (([v0, v1, v2, v3, v4, v5, v6, v7, v8, v9].drop 4).take (Try.prog.cellsOf 23)) = some y4 := hf 4 _ rfl
    have f5 : DataW.trod enc Try.prog w base spare held n 23 (([v0, v1, v2, v3, v4, v5, v6, v7, v8, v9].drop 5).take (Try.prog.cellsOf 23)) = some y5 := hf 5 _ rfl
    have f6 : DataW.trod enc Try.prog w base spare held n 4 (([v0, v1, v2, v3, v4, v5, v6, v7, v8, v9].drop 6).take (Try.prog.cellsOf 4)) = some y6 := hf 6 _ rfl
    have f7 : DataW.trod enc Try.prog w base spare held n 4 (([v0, v1, v2, v3, v4, v5, v6, v7, v8, v9].drop 7).take (Try.prog.cellsOf 4)) = some y7 := hf 7 _ rfl
    have f8 : DataW.trod enc Try.prog w base spare held n 9 (([v0, v1, v2, v3, v4, v5, v6, v7, v8, v9].drop 8).take (Try.prog.cellsOf 9)) = some y8 := hf 8 _ rfl
    have f9 : DataW.trod enc Try.prog w base spare held n 9 (([v0, v1, v2, v3, v4, v5, v6, v7, v8, v9].drop 9).take (Try.prog.cellsOf 9)) = some y9 := hf 9 _ rfl
    clear hf h
    rw [c2] at f0 f1
    rw [c22] at f2 f3
    rw [c23] at f4 f5
    rw [c4] at f6 f7
    rw [c9] at f8 f9
    obtain ⟨k0, e0, -, w0⟩ := DataW.trod_int Try.underlying2 f0
    obtain ⟨k1, e1, -, w1⟩ := DataW.trod_int Try.underlying2 f1
    obtain ⟨k2, e2, -, w2⟩ := DataW.trod_int Try.underlying22 f2
    obtain ⟨k3, e3, -, w3⟩ := DataW.trod_int Try.underlying22 f3
    obtain ⟨k4, e4, -, w4⟩ := trod_float Try.underlying23 f4
    obtain ⟨k5, e5, -, w5⟩ := trod_float Try.underlying23 f5
    obtain ⟨k6, e6, -⟩ := DataW.trod_bool Try.underlying4 f6
    obtain ⟨k7, e7, -⟩ := DataW.trod_bool Try.underlying4 f7
    obtain ⟨k8, e8, -, w8⟩ := DataW.trod_string Try.underlying9 f8
    obtain ⟨k9, e9, -, w9⟩ := DataW.trod_string Try.underlying9 f9
    simp at e0 e1 e2 e3 e4 e5 e6 e7 e8 e9
    obtain ⟨u, rfl, hu⟩ := u64_of w2
    obtain ⟨v, rfl, hv⟩ := u64_of w3
    exact ⟨⟨k0, k1, u, v, k4, k5, k6, k7, k8, k9⟩, ⟨i64_of w0, i64_of w1, hu, hv, f64_of w4, f64_of w5, w8, w9⟩, e0, e1, e2, e3, e4, e5, e6, e7, e8, e9⟩
set_option maxRecDepth 100000 in
theorem open_pair {r : Reach} {b0 : Nat} {v : Value} {d : DataW H} {q : List MemPlace} (hv : Value.okWide Try.prog w r b0 25 v) (h : DataW.Trod enc Try.prog w base spare held 25 v d q) :
    ∃ p : PairD, p.Ok ∧ v = .agg p.cells := by
  obtain ⟨cs, rfl, hsz⟩ := okWide_struct Try.underlying25 hv
  obtain ⟨c0, c1, c2, c3, c4, c5, c6, c7, c8, c9, rfl⟩ := array10 (hsz.trans (by kernel_rfl))
  obtain ⟨fuel, hf⟩ := h
  obtain ⟨p, hok, rfl, rfl, rfl, rfl, rfl, rfl, rfl, rfl, rfl, rfl⟩ := pair_fields (by simpa [Value.cells] using hf)
  exact ⟨p, hok, rfl⟩
end
end Go.Proofs.Ytgbeacfiaegehaa
