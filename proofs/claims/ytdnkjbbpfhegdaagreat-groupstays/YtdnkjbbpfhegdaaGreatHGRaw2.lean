/-
  What came in for GroupStays: a Last (a Raw and five values more).
-/
import Derived.Test.YtdnkjbbpfhegdaaGreatMg15
namespace Go.Proofs.YtdnkjbbpfhegdaaGreat
open Go.ChangeShapes Go.WideShapes Go.ChangeAt Go.WideMaps Go.WideElems Go.RowKit
set_option linter.unusedVariables false
set_option maxRecDepth 100000

theorem array9 {α : Type} {cs : Array α} (h : cs.size = 9) : ∃ c0 c1 c2 c3 c4 c5 c6 c7 c8, cs = #[c0, c1, c2, c3, c4, c5, c6, c7, c8] := by
  obtain ⟨l⟩ := cs
  match l, h with
  | [c0, c1, c2, c3, c4, c5, c6, c7, c8], _ => exact ⟨c0, c1, c2, c3, c4, c5, c6, c7, c8, rfl⟩
section
variable {H : Type} {enc : TypeId × Value → H} {w : World} {held : Bool}
/-- The four fields of a Raw. -/
theorem raw_fields {n : Nat} {v0 v1 v2 v3 : Value} {x : DataW H × List MemPlace} (h : DataW.trod enc Tryz.prog w 0 (fun _ => true) held n 24 [v0, v1, v2, v3] = some x) (hw : ∀ n ∈ x.1.weights Tryz.prog 24, n ≤ reachBytes) :
    ∃ (K E B : Int) (a : Option Addr) (cap : Nat) (ss : List SD), v0 = .int .i64 K ∧ v1 = .int .i64 E ∧ v2 = .int .i64 B ∧ v3 = .slice a ss.length cap ∧ (Lit.int .i64 K).wf = true ∧ (Lit.int .i64 E).wf = true ∧ (Lit.int .i64 B).wf = true ∧ RowS w a ss ∧ ss.length ≤ 140737488355328 := by
  obtain ⟨xs, m, _, rfl, hl, hlen, hf⟩ := DataW.trod_struct Tryz.underlying24 h
  have hlen4 : xs.length = 4 := hlen
  have c3 : Tryz.prog.cellsOf 3 = 1 := by kernel_rfl
  have cS : Tryz.prog.cellsOf 22 = 1 := by kernel_rfl
  match xs, hlen4 with
  | [y0, y1, y2, y3], _ =>
    have f0 : DataW.trod enc Tryz.prog w 0 (fun _ => true) held m 3 (([v0, v1, v2, v3].drop 0).take (Tryz.prog.cellsOf 3)) = some y0 := hf 0 _ rfl
    have f1 : DataW.trod enc Tryz.prog w 0 (fun _ => true) held m 3 (([v0, v1, v2, v3].drop 1).take (Tryz.prog.cellsOf 3)) = some y1 := hf 1 _ rfl
    have f2 : DataW.trod enc Tryz.prog w 0 (fun _ => true) held m 3 (([v0, v1, v2, v3].drop 2).take (Tryz.prog.cellsOf 3)) = some y2 := hf 2 _ rfl
    have f3 : DataW.trod enc Tryz.prog w 0 (fun _ => true) held m 22 (([v0, v1, v2, v3].drop 3).take (Tryz.prog.cellsOf 22)) = some y3 := hf 3 _ rfl
    rw [c3] at f0 f1 f2
    rw [cS] at f3
    obtain ⟨k0, e0, q0, w0⟩ := DataW.trod_int Tryz.underlying3 f0
    obtain ⟨k1, e1, q1, w1⟩ := DataW.trod_int Tryz.underlying3 f1
    obtain ⟨k2, e2, q2, w2⟩ := DataW.trod_int Tryz.underlying3 f2
    obtain ⟨a, cap, ss, e3, hrow, hlen⟩ := open_steps f3 (fun n hn => hw n (raw_weights hn))
    simp at e0 e1 e2 e3
    exact ⟨k0, k1, k2, a, cap, ss, e0, e1, e2, e3, w0, w1, w2, hrow, hlen⟩

theorem open_last {r : Reach} {b0 : Nat} {v : Value} {d : DataW H} {q : List MemPlace} (hv : Value.okWide Tryz.prog w r b0 26 v) (h : DataW.Trod enc Tryz.prog w 0 (fun _ => true) held 26 v d q) (hw : ∀ n ∈ d.weights Tryz.prog 26, n ≤ reachBytes) :
    ∃ (K E B I T N : Int) (xk xe : ByteArray) (a : Option Addr) (cap : Nat) (ss : List SD), v = .agg #[.int .i64 K, .int .i64 E, .int .i64 B, .slice a ss.length cap, .int .i64 I, .int .i64 T, .int .i64 N, .string xk, .string xe] ∧
      (Lit.int .i64 K).wf = true ∧ (Lit.int .i64 E).wf = true ∧ (Lit.int .i64 B).wf = true ∧ RowS w a ss ∧ ss.length ≤ 140737488355328 ∧ (Lit.int .i64 I).wf = true ∧ (Lit.int .i64 T).wf = true ∧ (Lit.int .i64 N).wf = true ∧ xk.size ≤ 140737488355328 ∧ xe.size ≤ 140737488355328 := by
  obtain ⟨cs, rfl, hsz⟩ := okWide_struct Tryz.underlying26 hv
  obtain ⟨c0, c1, c2, c3, c4, c5, c6, c7, c8, rfl⟩ := array9 (hsz.trans (by kernel_rfl))
  obtain ⟨fuel, hf0⟩ := h
  have hf1 : DataW.trod enc Tryz.prog w 0 (fun _ => true) held fuel 26 [c0, c1, c2, c3, c4, c5, c6, c7, c8] = some (d, q) := by simpa [Value.cells] using hf0
  obtain ⟨xs, m, _, hx, hl, hlen, hf⟩ := DataW.trod_struct Tryz.underlying26 hf1
  have hlen6 : xs.length = 6 := hlen
  have c3' : Tryz.prog.cellsOf 3 = 1 := by kernel_rfl
  have c9' : Tryz.prog.cellsOf 9 = 1 := by kernel_rfl
  have cR : Tryz.prog.cellsOf 24 = 4 := by kernel_rfl
  have h47 : reachBytes = 140737488351232 := by decide
  match xs, hlen6 with
  | [y0, y1, y2, y3, y4, y5], _ =>
    simp only [Prod.mk.injEq] at hx
    have f0 : DataW.trod enc Tryz.prog w 0 (fun _ => true) held m 24 (([c0, c1, c2, c3, c4, c5, c6, c7, c8].drop 0).take (Tryz.prog.cellsOf 24)) = some y0 := hf 0 _ rfl
    have f1 : DataW.trod enc Tryz.prog w 0 (fun _ => true) held m 3 (([c0, c1, c2, c3, c4, c5, c6, c7, c8].drop 4).take (Tryz.prog.cellsOf 3)) = some y1 := hf 1 _ rfl
    have f2 : DataW.trod enc Tryz.prog w 0 (fun _ => true) held m 3 (([c0, c1, c2, c3, c4, c5, c6, c7, c8].drop 5).take (Tryz.prog.cellsOf 3)) = some y2 := hf 2 _ rfl
    have f3 : DataW.trod enc Tryz.prog w 0 (fun _ => true) held m 3 (([c0, c1, c2, c3, c4, c5, c6, c7, c8].drop 6).take (Tryz.prog.cellsOf 3)) = some y3 := hf 3 _ rfl
    have f4 : DataW.trod enc Tryz.prog w 0 (fun _ => true) held m 9 (([c0, c1, c2, c3, c4, c5, c6, c7, c8].drop 7).take (Tryz.prog.cellsOf 9)) = some y4 := hf 4 _ rfl
    have f5 : DataW.trod enc Tryz.prog w 0 (fun _ => true) held m 9 (([c0, c1, c2, c3, c4, c5, c6, c7, c8].drop 8).take (Tryz.prog.cellsOf 9)) = some y5 := hf 5 _ rfl
    rw [c3'] at f1 f2 f3
    rw [c9'] at f4 f5
    rw [cR] at f0
    have hW : ∀ (j : Nat) (t : TypeId) (y : DataW H), [24, 3, 3, 3, 9, 9][j]? = some t → [y0.1, y1.1, y2.1, y3.1, y4.1, y5.1][j]? = some y → ∀ n ∈ y.weights Tryz.prog t, n ≤ reachBytes := fun j t y h1 h2 n hn => by
      refine hw n ?_
      rw [hx.1]
      simp only [DataW.weights, Tryz.underlying26]
      exact DataW.weights_mem_each (j := j) h1 h2 _ hn
    obtain ⟨K, E, B, a, cap, ss, e0, e1, e2, e3, w0, w1, w2, hrow, hlen⟩ := raw_fields f0 (hW 0 _ _ rfl rfl)
    obtain ⟨I, e4, _, w4⟩ := DataW.trod_int Tryz.underlying3 f1
    obtain ⟨T, e5, _, w5⟩ := DataW.trod_int Tryz.underlying3 f2
    obtain ⟨N, e6, _, w6⟩ := DataW.trod_int Tryz.underlying3 f3
    obtain ⟨xk, e7, u7, _⟩ := DataW.trod_string Tryz.underlying9 f4
    obtain ⟨xe, e8, u8, _⟩ := DataW.trod_string Tryz.underlying9 f5
    simp at e4 e5 e6 e7 e8
    subst e0 e1 e2 e3 e4 e5 e6 e7 e8
    have s7 : xk.data.toList.length ≤ reachBytes := hW 4 9 _ rfl rfl _ (by rw [u7]; simp [DataW.weights])
    have s8 : xe.data.toList.length ≤ reachBytes := hW 5 9 _ rfl rfl _ (by rw [u8]; simp [DataW.weights])
    have z7 : xk.data.toList.length = xk.size := rfl
    have z8 : xe.data.toList.length = xe.size := rfl
    exact ⟨K, E, B, I, T, N, xk, xe, a, cap, ss, rfl, w0, w1, w2, hrow, hlen, w4, w5, w6, by omega, by omega⟩
end
end Go.Proofs.YtdnkjbbpfhegdaaGreat
