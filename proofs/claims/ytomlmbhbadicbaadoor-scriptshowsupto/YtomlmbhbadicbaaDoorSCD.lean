/-
  script: what the given condition on the listed variables tells; an answer that came in.
-/
import Derived.Test.YtomlmbhbadicbaaDoorRows
import Derived.ProofKit
import Derived.LaidMore
import Derived.OpenShut
import Derived.Stop.Joined
import Derived.Lib.LaidTab
import Derived.ChangeArms
import Derived.Test.YtomlmbhbadicbaaDoorSC12
namespace Go.Proofs.YtomlmbhbadicbaaDoor
open Go.ChangeShapes Go.WideShapes Go.ChangeAt Go.WideMaps Go.WideElems Go.RowKit
set_option linter.unusedVariables false

theorem own : ownKnob Tryd.prog.godebug = none := by kernel_rfl
theorem laidOut : laidOutB Tryd.prog = true := by kernel_rfl
theorem tPow : (Tryd.prog.globals[2]?).map (·.type) = some 96 := by kernel_rfl
theorem gRows : Tryd.prog.globalNamed "larder/script.rows" = some 0 := by kernel_rfl
theorem tRows : (Tryd.prog.globals[0]?).map (·.type) = some 42 := by kernel_rfl
theorem listedPow : (Rows.laid_internal_strconv_uint64pow10 : DataW Unit) = Lib.tabData .u64 Lib.pow10Tab := rfl
def laidO : List (String × DataW Unit) := [("math/bits.deBruijn32tab", Rows.laid_math_bits_deBruijn32tab), ("math/bits.deBruijn64tab", Rows.laid_math_bits_deBruijn64tab), ("internal/strconv.uint64pow10", Rows.laid_internal_strconv_uint64pow10), ("larder/script.rows", Rows.laid_larder_script_rows)]
set_option maxRecDepth 100000 in
/-- A row of the table as it was read. -/
theorem row_open {W : World} {fuel : Nat} {cs : List Value} {x : DataW Unit × List MemPlace} (h : DataW.trod (fun _ => ()) Tryd.prog W 0 (fun _ => true) false fuel 31 cs = some x) :
    ∃ (a f : ByteArray) (k o : Int), cs = [.string a, .int .i64 k, .int .i64 o, .string f] ∧ x.1 = .agg [.lit (.string a.data.toList), .lit (.int .i64 k), .lit (.int .i64 o), .lit (.string f.data.toList)] := by
  obtain ⟨xs, n, _, rfl, hl, hlen, hf⟩ := DataW.trod_struct Tryd.underlying31 h
  have hl4 : cs.length = 4 := hl.trans (by kernel_rfl)
  have hlen4 : xs.length = 4 := hlen
  match cs, hl4, xs, hlen4 with
  | [v0, v1, v2, v3], _, [y0, y1, y2, y3], _ =>
    have f0 := hf 0 _ rfl
    have f1 := hf 1 _ rfl
    have f2 := hf 2 _ rfl
    have f3 := hf 3 _ rfl
    clear hf h
    simp only [List.getElem?_cons_zero, List.getElem?_cons_succ] at f0 f1 f2 f3
    obtain ⟨a, e0, rfl, -⟩ := DataW.trod_string Tryd.underlying9 f0
    obtain ⟨k, e1, rfl, -⟩ := DataW.trod_int Tryd.underlying3 f1
    obtain ⟨o, e2, rfl, -⟩ := DataW.trod_int Tryd.underlying3 f2
    obtain ⟨f, e3, rfl, -⟩ := DataW.trod_string Tryd.underlying9 f3
    refine ⟨a, f, k, o, ?_, rfl⟩
    have c3 : Tryd.prog.cellsOf 3 = 1 := by kernel_rfl
    have c9 : Tryd.prog.cellsOf 9 = 1 := by kernel_rfl
    simp_all
def rowsL : List (DataW Unit) := match (Rows.laid_larder_script_rows : DataW Unit) with
  | .agg l => l
  | _ => []
theorem rowsL_eq : (Rows.laid_larder_script_rows : DataW Unit) = .agg rowsL := rfl
theorem rowsL_at (i : Nat) (hi : i < 16) : ∃ f, rowsL[i]? = some (.agg [.lit (.string (nmN i).data.toList), .lit (.int .i64 (kN i)), .lit (.int .i64 (oN i)), .lit (.string f)]) := by
  iterate 16 (rcases i with _ | i; exact ⟨_, rfl⟩)
  omega
set_option maxRecDepth 100000 in
theorem rows_of {W : World} {fuel : Nat} {cs : Array Value} {q : List MemPlace} (hv : W.var? Tryd.prog "larder/script.rows" = some cs) (h : DataW.trod (fun _ => ()) Tryd.prog W 0 (fun _ => true) false fuel 42 cs.toList = some (Rows.laid_larder_script_rows, q)) : RowsAt W := by
  obtain ⟨xs, m, -, hx, hlen, hn, hel⟩ := DataW.trod_array Tryd.underlying42 h
  have c31 : Tryd.prog.cellsOf 31 = 4 := by kernel_rfl
  rw [c31] at hel
  rw [rowsL_eq] at hx
  have hx1 : rowsL = xs.map (·.1) := by
    have := congrArg Prod.fst hx
    simpa using this
  intro i hi
  obtain ⟨x, hxi⟩ : ∃ x, xs[i]? = some x := ⟨xs[i]'(by omega), List.getElem?_eq_getElem _⟩
  have h1 := hel i hi
  rw [hxi] at h1
  obtain ⟨a, f, k, o, hcs, hd⟩ := row_open h1
  obtain ⟨f', hf'⟩ := rowsL_at i hi
  have h2 : (xs.map (·.1))[i]? = some x.1 := by rw [List.getElem?_map, hxi]; rfl
  rw [← hx1, hf', hd] at h2
  simp only [Option.some.injEq, DataW.agg.injEq, List.cons.injEq, DataW.lit.injEq, Lit.string.injEq, Lit.int.injEq, true_and, and_true] at h2
  obtain ⟨e1, e2, e3, e4⟩ := h2
  have ea : nmN i = a := ByteArray.ext (Array.toList_inj.1 e1)
  have hc : ∀ j, j < 4 → W.cell? ⟨0, i * 4 + j, none⟩ = [(.string a : Value), .int .i64 k, .int .i64 o, .string f][j]? := fun j hj => by
    have t := World.var?_cell gRows hv (i * 4 + j)
    rw [t, ← hcs, List.getElem?_take, if_pos hj, List.getElem?_drop]
    simp
  rw [ea, e2, e3]
  exact ⟨hc 0 (by omega), hc 1 (by omega), hc 2 (by omega), f, hc 3 (by omega)⟩
theorem of_laid {W : World} (h : laidMetH Tryd.prog laidO W) : TabW W ∧ RowsAt W := by
  rw [MakeChecks.laidMetH_plain _ _ _ (by kernel_rfl)] at h
  obtain ⟨ps, ⟨g0, t0, cs0, f0, p0, q0, hg0, ht0, hv0, hd0, ⟨g1, t1, cs1, f1, p1, q1, hg1, ht1, hv1, hd1, ⟨g2, t2, cs2, f2, p2, q2, hg2, ht2, hv2, hd2, ⟨g3, t3, cs3, f3, p3, q3, hg3, ht3, hv3, hd3, _, _⟩, _⟩, _⟩, _⟩, _, _⟩ := h
  obtain rfl := Option.some.inj (gPow.symm.trans hg2)
  obtain rfl := Option.some.inj (tPow.symm.trans ht2)
  obtain rfl := Option.some.inj (gRows.symm.trans hg3)
  obtain rfl := Option.some.inj (tRows.symm.trans ht3)
  refine ⟨?_, rows_of hv3 hd3⟩
  unfold TabW Lib.TabIs
  rw [listedPow] at hd2
  have := Lib.cells_of_tab Tryd.underlying96 Tryd.underlying82 (by kernel_rfl) (by kernel_rfl) hd2
  rw [hv2, ← this]
set_option maxRecDepth 100000 in
/-- An answer that came in. -/
theorem ans_in {H : Type} {enc : TypeId × Value → H} {w : World} {held : Bool} {fuel : Nat} {cs : List Value} {x : DataW H × List MemPlace} (h : DataW.trod enc Tryd.prog w 0 (fun _ => true) held fuel 24 cs = some x) (hk : Rows.uptoBulk x.1 ≤ 1048576) :
    ∃ (op err n off : Int) (yes : Bool) (key elem : ByteArray), cs = [.int .i64 op, .int .i64 err, .int .i64 n, .int .i64 off, .bool yes, .string key, .string elem] ∧ (-9223372036854775808 ≤ err ∧ err ≤ 9223372036854775807) ∧ (-9223372036854775808 ≤ n ∧ n ≤ 9223372036854775807) ∧ (-9223372036854775808 ≤ off ∧ off ≤ 9223372036854775807) ∧ key.size ≤ 1048576 ∧ elem.size ≤ 1048576 := by
  obtain ⟨xs, m, _, rfl, hl, hlen, hf⟩ := DataW.trod_struct Tryd.underlying24 h
  have hl7 : cs.length = 7 := hl.trans (by kernel_rfl)
  have hlen7 : xs.length = 7 := hlen
  have c3 : Tryd.prog.cellsOf 3 = 1 := by kernel_rfl
  have c4 : Tryd.prog.cellsOf 4 = 1 := by kernel_rfl
  have c9 : Tryd.prog.cellsOf 9 = 1 := by kernel_rfl
  have c22 : Tryd.prog.cellsOf 22 = 1 := by kernel_rfl
  match cs, hl7, xs, hlen7 with
  | [v0, v1, v2, v3, v4, v5, v6], _, [y0, y1, y2, y3, y4, y5, y6], _ =>
    have f0 := hf 0 _ rfl
    have f1 := hf 1 _ rfl
    have f2 := hf 2 _ rfl
    have f3 := hf 3 _ rfl
    have f4 := hf 4 _ rfl
    have f5 := hf 5 _ rfl
    have f6 := hf 6 _ rfl
    clear hf h
    simp only [List.getElem?_cons_zero, List.getElem?_cons_succ] at f0 f1 f2 f3 f4 f5 f6
    obtain ⟨k0, e0, rfl, w0⟩ := DataW.trod_int Tryd.underlying3 f0
    obtain ⟨k1, e1, rfl, w1⟩ := DataW.trod_int Tryd.underlying22 f1
    obtain ⟨k2, e2, rfl, w2⟩ := DataW.trod_int Tryd.underlying3 f2
    obtain ⟨k3, e3, rfl, w3⟩ := DataW.trod_int Tryd.underlying3 f3
    obtain ⟨b4, e4, rfl⟩ := DataW.trod_bool Tryd.underlying4 f4
    obtain ⟨s5, e5, rfl, -⟩ := DataW.trod_string Tryd.underlying9 f5
    obtain ⟨s6, e6, rfl, -⟩ := DataW.trod_string Tryd.underlying9 f6
    have fits : ∀ k : Int, (Lit.int .i64 k).wf = true → -9223372036854775808 ≤ k ∧ k ≤ 9223372036854775807 := fun k hw => by
      have hm : IntKind.i64.min = -9223372036854775808 := by decide
      have hM : IntKind.i64.max = 9223372036854775807 := by decide
      simp only [Lit.wf, decide_eq_true_eq, Bool.and_eq_true] at hw
      rw [hm, hM] at hw
      exact hw
    simp only [List.map_cons, List.map_nil, Rows.uptoBulk, Rows.uptoBulkAll] at hk
    have z5 : s5.data.toList.length = s5.size := rfl
    have z6 : s6.data.toList.length = s6.size := rfl
    refine ⟨k0, k1, k2, k3, b4, s5, s6, ?_, fits k1 w1, fits k2 w2, fits k3 w3, by omega, by omega⟩
    simp_all
end Go.Proofs.YtomlmbhbadicbaaDoor
