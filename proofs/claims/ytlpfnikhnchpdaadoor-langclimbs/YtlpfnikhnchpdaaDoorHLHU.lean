/-
  lang: what the given condition on the eight listed variables tells.
-/
import Derived.Test.YtlpfnikhnchpdaaDoorRows
import Derived.ProofKit
import Derived.LaidMore
import Derived.OpenShut
import Derived.Stop.Joined
import Derived.Lib.LaidTab
import Derived.ChangeArms
import Derived.Deep.Slices
import Derived.Deep.SlicePairs
import Derived.Test.YtlpfnikhnchpdaaDoorLn11
import Derived.Stop.LaidErr
import Derived.Shelf.Vars
namespace Go.Proofs.YtlpfnikhnchpdaaDoor
namespace Lg
open Go.ChangeShapes Go.WideShapes Go.ChangeAt Go.WideMaps Go.WideElems Go.RowKit
set_option linter.unusedVariables false
theorem own : ownKnob Tryd.prog.godebug = none := by kernel_rfl
theorem laidOut : laidOutB Tryd.prog = true := by kernel_rfl
def laidO : List (String × DataW Unit) := [("math/bits.deBruijn32tab", Rows.laid_math_bits_deBruijn32tab), ("math/bits.deBruijn64tab", Rows.laid_math_bits_deBruijn64tab), ("internal/strconv.uint64pow10", Rows.laid_internal_strconv_uint64pow10), ("strconv.ErrRange", Rows.laid_strconv_ErrRange), ("strconv.ErrSyntax", Rows.laid_strconv_ErrSyntax), ("larder/lang.words", Rows.laid_larder_lang_words), ("larder/lang.marks", Rows.laid_larder_lang_marks), ("larder/lang.operators", Rows.laid_larder_lang_operators)]
theorem gWds : Tryd.prog.globalNamed "larder/lang.words" = some 2 := by kernel_rfl
theorem tWds : (Tryd.prog.globals[2]?).map (·.type) = some 150 := by kernel_rfl
theorem gMks : Tryd.prog.globalNamed "larder/lang.marks" = some 3 := by kernel_rfl
theorem tMks : (Tryd.prog.globals[3]?).map (·.type) = some 151 := by kernel_rfl
theorem gOps : Tryd.prog.globalNamed "larder/lang.operators" = some 4 := by kernel_rfl
theorem tOps : (Tryd.prog.globals[4]?).map (·.type) = some 154 := by kernel_rfl
theorem gRng : Tryd.prog.globalNamed "strconv.ErrRange" = some 10 := by kernel_rfl
theorem tRng : (Tryd.prog.globals[10]?).map (·.type) = some 108 := by kernel_rfl
theorem undErr : Tryd.prog.underlying 108 = some (.interface #[("Error", 80)]) := by kernel_rfl
theorem undPes : Tryd.prog.underlying 187 = some (.pointer 189) := by kernel_rfl
theorem undEs : Tryd.prog.underlying 189 = some (.struct #[{ name := "s", type := 9, offset := 0, embedded := false, tag := "", pkgPath := "errors", byteOffset := 0 }]) := by kernel_rfl
theorem starE : "*" ++ "errors.errorString" = "*errors.errorString" := by decide
theorem rowPes (u : TypeId) (h : Tryd.prog.typeName? 3 u = some "*errors.errorString") : u = 187 :=
  typeName_ptr_named (nm := "errors.errorString") (by rw [starE]; kernel_rfl) (by kernel_rfl) (by decide) u (by rw [starE]; exact h)
theorem words_laid : (Rows.laid_larder_lang_words : DataW Unit) = .agg (wordsL.map fun s => .lit (.string s)) := rfl
theorem marks_laid : (Rows.laid_larder_lang_marks : DataW Unit) = .agg (marksL.map fun s => .lit (.string s)) := rfl
theorem opers_laid : (Rows.laid_larder_lang_operators : DataW Unit) = .agg (opsL.map fun x => .agg [.lit (.string x.1), .lit (.int .i64 (x.2 : Int))]) := rfl
theorem sB_eq {a : ByteArray} {s : Bs} (h : s = a.data.toList) : sB s = a := ByteArray.ext (Array.toList_inj.1 h)
set_option maxRecDepth 100000 in
theorem strs_of {W : World} {fuel n gi : Nat} {T : TypeId} {nm : String} {cs : Array Value} {q : List MemPlace} {L : List Bs} (hn0 : L.length = n) (hu : Tryd.prog.underlying T = some (.array n 9)) (hg : Tryd.prog.globalNamed nm = some gi) (hv : W.var? Tryd.prog nm = some cs)
    (h : DataW.trod (fun _ => ()) Tryd.prog W 0 (fun _ => true) false fuel T cs.toList = some (.agg (L.map fun s => .lit (.string s)), q)) : W.rangeAt gi 0 (L.map fun s => .string (sB s)) := by
  obtain ⟨xs, m, -, hx, hlen, hn, hel⟩ := DataW.trod_array hu h
  have c9 : Tryd.prog.cellsOf 9 = 1 := by kernel_rfl
  rw [c9] at hel
  have hx1 : (L.map fun s => (.lit (.string s) : DataW Unit)) = xs.map (·.1) := by
    have := congrArg Prod.fst hx
    simpa using this
  intro j v hj
  have hjl : j < L.length := by
    rcases Nat.lt_or_ge j L.length with h | h
    · exact h
    · rw [List.getElem?_eq_none (by simpa using h)] at hj
      cases hj
  rw [List.getElem?_map, List.getElem?_eq_getElem hjl] at hj
  obtain rfl := Option.some.inj hj
  obtain ⟨x, hxi⟩ : ∃ x, xs[j]? = some x := ⟨xs[j]'(by omega), List.getElem?_eq_getElem _⟩
  have h1 := hel j (by omega)
  rw [hxi] at h1
  obtain ⟨a, e, f, -⟩ := DataW.trod_string Tryd.underlying9 h1
  have h2 : (xs.map (·.1))[j]? = some x.1 := by rw [List.getElem?_map, hxi]; rfl
  rw [← hx1, f, List.getElem?_map, List.getElem?_eq_getElem hjl] at h2
  simp only [Option.map_some, Option.some.injEq, DataW.lit.injEq, Lit.string.injEq] at h2
  show W.cell? _ = some (.string (sB L[j]))
  rw [sB_eq h2]
  have t := World.var?_cell hg hv j
  rw [Nat.zero_add, t]
  have e2 : (List.take 1 (List.drop (j * 1) cs.toList))[0]? = some (.string a) := by rw [e]; rfl
  rw [List.getElem?_take, if_pos (by omega), List.getElem?_drop] at e2
  simpa using e2
set_option maxRecDepth 100000 in
theorem oper_open {W : World} {fuel : Nat} {cs : List Value} {x : DataW Unit × List MemPlace} (h : DataW.trod (fun _ => ()) Tryd.prog W 0 (fun _ => true) false fuel 153 cs = some x) :
    ∃ (a : ByteArray) (k : Int), cs = [.string a, .int .i64 k] ∧ x.1 = .agg [.lit (.string a.data.toList), .lit (.int .i64 k)] := by
  obtain ⟨xs, n, _, rfl, hl, hlen, hf⟩ := DataW.trod_struct Tryd.underlying153 h
  have hl4 : cs.length = 2 := hl.trans (by kernel_rfl)
  have hlen4 : xs.length = 2 := hlen
  match cs, hl4, xs, hlen4 with
  | [v0, v1], _, [y0, y1], _ =>
    have f0 := hf 0 _ rfl
    have f1 := hf 1 _ rfl
    clear hf h
    simp only [List.getElem?_cons_zero, List.getElem?_cons_succ] at f0 f1
    obtain ⟨a, e0, rfl, -⟩ := DataW.trod_string Tryd.underlying9 f0
    obtain ⟨k, e1, rfl, -⟩ := DataW.trod_int Tryd.underlying3 f1
    refine ⟨a, k, ?_, rfl⟩
    have c3 : Tryd.prog.cellsOf 3 = 1 := by kernel_rfl
    have c9 : Tryd.prog.cellsOf 9 = 1 := by kernel_rfl
    simp_all
theorem opsL_flat : ∀ i, i < 13 → ∀ j, j < 2 → (opsL.flatMap fun x => [(.string (sB x.1) : Value), .int .i64 (x.2 : Int)])[i * 2 + j]? = (opsL[i]?).bind fun x => [(.string (sB x.1) : Value), .int .i64 (x.2 : Int)][j]? := by
  intro i hi j hj
  have : j = 0 ∨ j = 1 := by omega
  rcases this with rfl | rfl <;> (iterate 13 (rcases i with _ | i; exact rfl)) <;> omega
set_option maxRecDepth 100000 in
theorem opers_of {W : World} {fuel : Nat} {cs : Array Value} {q : List MemPlace} (hv : W.var? Tryd.prog "larder/lang.operators" = some cs) (h : DataW.trod (fun _ => ()) Tryd.prog W 0 (fun _ => true) false fuel 154 cs.toList = some (Rows.laid_larder_lang_operators, q)) : OpersAt W := by
  obtain ⟨xs, m, -, hx, hlen, hn, hel⟩ := DataW.trod_array Tryd.underlying154 h
  have c31 : Tryd.prog.cellsOf 153 = 2 := by kernel_rfl
  rw [c31] at hel
  rw [opers_laid] at hx
  have hx1 : (opsL.map fun x => (.agg [.lit (.string x.1), .lit (.int .i64 (x.2 : Int))] : DataW Unit)) = xs.map (·.1) := by
    have := congrArg Prod.fst hx
    simpa using this
  intro p v hp
  have hlp : p < 26 := by
    rcases Nat.lt_or_ge p 26 with h | h
    · exact h
    · rw [List.getElem?_eq_none (by exact h)] at hp
      cases hp
  obtain ⟨i, j, hi, hj, rfl⟩ : ∃ i j, i < 13 ∧ j < 2 ∧ p = i * 2 + j := ⟨p / 2, p % 2, by omega, by omega, by omega⟩
  rw [opsL_flat i hi j hj] at hp
  have hil : i < opsL.length := hi
  rw [List.getElem?_eq_getElem hil] at hp
  obtain ⟨x, hxi⟩ : ∃ x, xs[i]? = some x := ⟨xs[i]'(by omega), List.getElem?_eq_getElem _⟩
  have h1 := hel i (by omega)
  rw [hxi] at h1
  obtain ⟨a, k, hcs, hd⟩ := oper_open h1
  have h2 : (xs.map (·.1))[i]? = some x.1 := by rw [List.getElem?_map, hxi]; rfl
  rw [← hx1, hd, List.getElem?_map, List.getElem?_eq_getElem hil] at h2
  simp only [Option.map_some, Option.some.injEq, DataW.agg.injEq, List.cons.injEq, DataW.lit.injEq, Lit.string.injEq, Lit.int.injEq, true_and, and_true] at h2
  obtain ⟨e1, e2⟩ := h2
  rw [Option.bind_some, sB_eq e1, e2] at hp
  have t := World.var?_cell gOps hv (i * 2 + j)
  rw [Nat.zero_add, t, ← hp, ← hcs, List.getElem?_take, if_pos hj, List.getElem?_drop]
  simp
theorem of_laid {W : World} (h : laidMetH Tryd.prog laidO W) : LgAt W ∧ ∃ ev, W.cell? ⟨10, 0, none⟩ = some ev ∧ (ev = .nilIface ∨ ∃ te pe, ev = .iface te pe) := by
  rw [MakeChecks.laidMetH_plain _ _ _ (by kernel_rfl)] at h
  have hE := h.tail.tail.tail
  have hWd := hE.tail.tail
  have hMk := hWd.tail
  have hOp := hMk.tail
  obtain ⟨a1, s1, v1, -⟩ := laid_sentinel hE gRng tRng undErr rowPes undPes undEs rfl rfl Tryd.underlying9 (by kernel_rfl) (by kernel_rfl)
  obtain ⟨ps1, ⟨g1, t1, cs1, f1, p1, q1, hg1, ht1, hv1, hd1, _, _⟩, _, _⟩ := hWd
  obtain ⟨ps2, ⟨g2, t2, cs2, f2, p2, q2, hg2, ht2, hv2, hd2, _, _⟩, _, _⟩ := hMk
  obtain ⟨ps3, ⟨g3, t3, cs3, f3, p3, q3, hg3, ht3, hv3, hd3, _, _⟩, _, _⟩ := hOp
  obtain rfl := Option.some.inj (gWds.symm.trans hg1)
  obtain rfl := Option.some.inj (tWds.symm.trans ht1)
  obtain rfl := Option.some.inj (gMks.symm.trans hg2)
  obtain rfl := Option.some.inj (tMks.symm.trans ht2)
  obtain rfl := Option.some.inj (gOps.symm.trans hg3)
  obtain rfl := Option.some.inj (tOps.symm.trans ht3)
  rw [words_laid] at hd1
  rw [marks_laid] at hd2
  exact ⟨⟨strs_of rfl Tryd.underlying150 gWds hv1 hd1, strs_of rfl Tryd.underlying151 gMks hv2 hd2, opers_of hv3 hd3⟩, ⟨_, by simpa using World.var?_cell gRng v1 0, Or.inr ⟨_, _, rfl⟩⟩⟩
end Lg
end Go.Proofs.YtlpfnikhnchpdaaDoor
