/-
  code: what the given condition on the eight listed variables tells; a code that came in.
-/
import Derived.Test.YtnicbillhlhmmaaDoorRows
import Derived.ProofKit
import Derived.LaidMore
import Derived.OpenShut
import Derived.Stop.Joined
import Derived.Lib.LaidTab
import Derived.ChangeArms
import Derived.Deep.Slices
import Derived.Deep.SlicePairs
import Derived.Test.YtnicbillhlhmmaaDoorCW7
import Derived.Stop.LaidErr
import Derived.Shelf.Vars
namespace Go.Proofs.YtnicbillhlhmmaaDoor
namespace Cw
open Go.ChangeShapes Go.WideShapes Go.ChangeAt Go.WideMaps Go.WideElems Go.RowKit
set_option linter.unusedVariables false
theorem own : ownKnob Tryd.prog.godebug = none := by kernel_rfl
theorem laidOut : laidOutB Tryd.prog = true := by kernel_rfl
def laidO : List (String × DataW Unit) := [("math/bits.deBruijn32tab", Rows.laid_math_bits_deBruijn32tab), ("math/bits.deBruijn64tab", Rows.laid_math_bits_deBruijn64tab), ("internal/strconv.uint64pow10", Rows.laid_internal_strconv_uint64pow10), ("unicode/utf8.acceptRanges", Rows.laid_unicode_utf8_acceptRanges), ("strconv.ErrRange", Rows.laid_strconv_ErrRange), ("strconv.ErrSyntax", Rows.laid_strconv_ErrSyntax), ("larder/code.forms", Rows.laid_larder_code_forms), ("unicode/utf8.first", Rows.laid_unicode_utf8_first)]
theorem tPow : (Tryd.prog.globals[3]?).map (·.type) = some 171 := by kernel_rfl
theorem gFms : Tryd.prog.globalNamed "larder/code.forms" = some 0 := by kernel_rfl
theorem tFms : (Tryd.prog.globals[0]?).map (·.type) = some 79 := by kernel_rfl
theorem listedPow : (Rows.laid_internal_strconv_uint64pow10 : DataW Unit) = Lib.tabData .u64 Lib.pow10Tab := rfl
theorem undErr : Tryd.prog.underlying 71 = some (.interface #[("Error", 43)]) := by kernel_rfl
theorem undPes : Tryd.prog.underlying 211 = some (.pointer 213) := by kernel_rfl
theorem undEs : Tryd.prog.underlying 213 = some (.struct #[{ name := "s", type := 9, offset := 0, embedded := false, tag := "", pkgPath := "errors", byteOffset := 0 }]) := by kernel_rfl
theorem starE : "*" ++ "errors.errorString" = "*errors.errorString" := by decide
theorem rowPes (u : TypeId) (h : Tryd.prog.typeName? 3 u = some "*errors.errorString") : u = 211 :=
  typeName_ptr_named (nm := "errors.errorString") (by rw [starE]; kernel_rfl) (by kernel_rfl) (by decide) u (by rw [starE]; exact h)
theorem gRng : Tryd.prog.globalNamed "strconv.ErrRange" = some 6 := by kernel_rfl
theorem gSyn : Tryd.prog.globalNamed "strconv.ErrSyntax" = some 5 := by kernel_rfl
theorem tRng : (Tryd.prog.globals[6]?).map (·.type) = some 71 := by kernel_rfl
theorem tSyn : (Tryd.prog.globals[5]?).map (·.type) = some 71 := by kernel_rfl
theorem max_of {W : World} (h : W.ShapedOpen Tryd.prog) : ∃ m, W.cell? ⟨4, 0, none⟩ = some (.int .i64 m) :=
  cell_of_shapedOpen_int (t := 3) (zero := #[.int .i64 0]) h (by decide +kernel) (by kernel_rfl) rfl (by kernel_rfl) (by kernel_rfl) Tryd.underlying3
set_option maxRecDepth 100000 in
theorem form_open {W : World} {fuel : Nat} {cs : List Value} {x : DataW Unit × List MemPlace} (h : DataW.trod (fun _ => ()) Tryd.prog W 0 (fun _ => true) false fuel 78 cs = some x) :
    ∃ (a : ByteArray) (k : Int), cs = [.string a, .int .i64 k] ∧ x.1 = .agg [.lit (.string a.data.toList), .lit (.int .i64 k)] := by
  obtain ⟨xs, n, _, rfl, hl, hlen, hf⟩ := DataW.trod_struct Tryd.underlying78 h
  have hl4 : cs.length = 2 := hl.trans (by kernel_rfl)
  have hlen4 : xs.length = 2 := hlen
  match cs, hl4, xs, hlen4 with
  | [v0, v1], _, [y0, y1], _ =>
    have f0 := hf 0 _ rfl
    have f1 := hf 1 _ rfl
    clear hf h
    simp only [List.getElem?_cons_zero, List.getElem?_cons_succ] at f0 f1
    obtain ⟨a, e0, rfl, -⟩ := DataW.trod_string Tryd.underlying9 f0
    obtain ⟨k, e1, rfl, -⟩ := DataW.trod_int Tryd.underlying3 f1
    refine ⟨a, k, ?_, rfl⟩
    have c3 : Tryd.prog.cellsOf 3 = 1 := by kernel_rfl
    have c9 : Tryd.prog.cellsOf 9 = 1 := by kernel_rfl
    simp_all
def formsD : List (DataW Unit) := match (Rows.laid_larder_code_forms : DataW Unit) with
  | .agg l => l
  | _ => []
theorem formsD_eq : (Rows.laid_larder_code_forms : DataW Unit) = .agg formsD := rfl
theorem formsD_at (i : Nat) (hi : i < 30) : formsD[i]? = some (.agg [.lit (.string (nmC i)), .lit (.int .i64 (usC i : Nat))]) := by
  iterate 30 (rcases i with _ | i; exact rfl)
  omega
set_option maxRecDepth 100000 in
theorem forms_of {W : World} {fuel : Nat} {cs : Array Value} {q : List MemPlace} (hv : W.var? Tryd.prog "larder/code.forms" = some cs) (h : DataW.trod (fun _ => ()) Tryd.prog W 0 (fun _ => true) false fuel 79 cs.toList = some (Rows.laid_larder_code_forms, q)) : FormsAt W := by
  obtain ⟨xs, m, -, hx, hlen, hn, hel⟩ := DataW.trod_array Tryd.underlying79 h
  have c31 : Tryd.prog.cellsOf 78 = 2 := by kernel_rfl
  rw [c31] at hel
  rw [formsD_eq] at hx
  have hx1 : formsD = xs.map (·.1) := by
    have := congrArg Prod.fst hx
    simpa using this
  intro i hi
  obtain ⟨x, hxi⟩ : ∃ x, xs[i]? = some x := ⟨xs[i]'(by omega), List.getElem?_eq_getElem _⟩
  have h1 := hel i hi
  rw [hxi] at h1
  obtain ⟨a, k, hcs, hd⟩ := form_open h1
  have h2 : (xs.map (·.1))[i]? = some x.1 := by rw [List.getElem?_map, hxi]; rfl
  rw [← hx1, formsD_at i hi, hd] at h2
  simp only [Option.some.injEq, DataW.agg.injEq, List.cons.injEq, DataW.lit.injEq, Lit.string.injEq, Lit.int.injEq, true_and, and_true] at h2
  obtain ⟨e1, e2⟩ := h2
  have ea : sB (nmC i) = a := ByteArray.ext (Array.toList_inj.1 e1)
  have hc : ∀ j, j < 2 → W.cell? ⟨0, i * 2 + j, none⟩ = [(.string a : Value), .int .i64 k][j]? := fun j hj => by
    have t := World.var?_cell gFms hv (i * 2 + j)
    (try rw [Nat.zero_add] at t)
    rw [t, ← hcs, List.getElem?_take, if_pos hj, List.getElem?_drop]
    simp
  rw [ea, e2]
  exact ⟨hc 0 (by omega), hc 1 (by omega)⟩
theorem of_laid {W : World} (h : laidMetH Tryd.prog laidO W) (hs : W.ShapedOpen Tryd.prog) : TabW W ∧ FormsAt W ∧ ErrW W := by
  rw [MakeChecks.laidMetH_plain _ _ _ (by kernel_rfl)] at h
  have hE := h.tail.tail.tail.tail
  have hS := hE.tail
  obtain ⟨a1, s1, v1, -⟩ := laid_sentinel hE gRng tRng undErr rowPes undPes undEs rfl rfl Tryd.underlying9 (by kernel_rfl) (by kernel_rfl)
  obtain ⟨a2, s2, v2, -⟩ := laid_sentinel hS gSyn tSyn undErr rowPes undPes undEs rfl rfl Tryd.underlying9 (by kernel_rfl) (by kernel_rfl)
  have hP := h.tail.tail
  have hR := hS.tail
  obtain ⟨ps, ⟨g2, t2, cs2, f2, p2, q2, hg2, ht2, hv2, hd2, _, _⟩, _, _⟩ := hP
  obtain ⟨ps3, ⟨g3, t3, cs3, f3, p3, q3, hg3, ht3, hv3, hd3, _, _⟩, _, _⟩ := hR
  obtain rfl := Option.some.inj (gPow.symm.trans hg2)
  obtain rfl := Option.some.inj (tPow.symm.trans ht2)
  obtain rfl := Option.some.inj (gFms.symm.trans hg3)
  obtain rfl := Option.some.inj (tFms.symm.trans ht3)
  refine ⟨?_, forms_of hv3 hd3, ⟨_, by simpa using World.var?_cell gSyn v2 0, Or.inr ⟨_, _, rfl⟩⟩, ⟨_, by simpa using World.var?_cell gRng v1 0, Or.inr ⟨_, _, rfl⟩⟩, max_of hs⟩
  unfold TabW Lib.TabIs
  rw [listedPow] at hd2
  have := Lib.cells_of_tab Tryd.underlying171 Tryd.underlying82 (by kernel_rfl) (by kernel_rfl) hd2
  rw [hv2, ← this]
theorem one_le {H : Type} (d : DataW H) : 1 ≤ Rows.uptoBulk d := by
  cases d with
  | lit l => cases l <;> simp [Rows.uptoBulk]
  | _ => simp [Rows.uptoBulk]
theorem part_le {H : Type} {d : DataW H} {l : List (DataW H)} (h : d ∈ l) : Rows.uptoBulk d ≤ Rows.uptoBulkAll l := by
  induction l with
  | nil => cases h
  | cons x r ih =>
    simp only [Rows.uptoBulkAll]
    cases List.mem_cons.1 h with
    | inl e => subst e; omega
    | inr e => have := ih e; omega
theorem length_le {H : Type} (l : List (DataW H)) : l.length ≤ Rows.uptoBulkAll l := by
  induction l with
  | nil => simp [Rows.uptoBulkAll]
  | cons x r ih => have := one_le x; simp only [Rows.uptoBulkAll, List.length_cons]; omega
theorem fits64 {k : Int} (hw : (Lit.int .i64 k).wf = true) : -9223372036854775808 ≤ k ∧ k ≤ 9223372036854775807 := by
  have hm : IntKind.i64.min = -9223372036854775808 := by decide
  have hM : IntKind.i64.max = 9223372036854775807 := by decide
  simp only [Lit.wf, decide_eq_true_eq, Bool.and_eq_true] at hw
  rw [hm, hM] at hw
  exact hw
theorem plainA {w : World} {a : Addr} {v : Value} (h : w.cell? a = some v) : ∃ b o, a = ⟨b, o, none⟩ := by
  obtain ⟨b, o, sp⟩ := a
  cases sp with
  | none => exact ⟨b, o, rfl⟩
  | some s =>
    simp [World.cell?] at h
    split at h <;> cases h
section
variable {H : Type} {enc : TypeId × Value → H} {w : World} {held : Bool}
set_option maxRecDepth 100000 in
theorem open_insts {fuel : Nat} {v : Value} {x : DataW H × List MemPlace} (h : DataW.trod enc Tryd.prog w 0 (fun _ => true) held fuel 22 [v] = some x) :
    ∃ is : List In, InsV w v is ∧ (∀ y, y ∈ is → y.fit) ∧ is.length ≤ Rows.uptoBulk x.1 := by
  rcases Go.Deep.open_slice Tryd.underlying22 h with ⟨hcs, _⟩ | ⟨a, len, cap, m, n, D, Pl, hcs, _, hl, hm, hmm, rfl, hx⟩
  · injection hcs with e1 _
    exact ⟨[], ⟨none, 0, e1, fun j hj => absurd hj (Nat.not_lt_zero _)⟩, (fun y hy => by cases hy), Nat.zero_le _⟩
  · injection hcs with e1 _
    have c7 : Tryd.prog.cellsOf 36 = 3 := by kernel_rfl
    rw [c7] at hx
    have hmc : m = cap := by simpa using hmm
    have inh : Inhabited In := ⟨⟨0, 0, 0⟩⟩
    obtain ⟨f, hf⟩ := Go.Deep.choose_lt (α := In) (n := len) (p := fun i o => (w.cell? (a.add (i * 3)) = some (.int .i64 o.op) ∧ w.cell? (a.add (i * 3 + 1)) = some (.int .i64 o.a) ∧ w.cell? (a.add (i * 3 + 2)) = some (.int .i64 o.n)) ∧ o.fit) (fun i hi => by
      obtain ⟨cs', g1, g2⟩ := hx i (by omega)
      obtain ⟨xs, n', _, hxy, hl2, hlen, hf⟩ := DataW.trod_struct Tryd.underlying36 g2
      have hl2' : cs'.length = 3 := hl2.trans (by kernel_rfl)
      have hlen2 : xs.length = 3 := hlen
      have c3 : Tryd.prog.cellsOf 3 = 1 := by kernel_rfl
      have c2 : Tryd.prog.cellsOf 2 = 1 := by kernel_rfl
      have q0 := (World.cells?_some g1).2.2 0 (by omega)
      have q1 := (World.cells?_some g1).2.2 1 (by omega)
      have q2 := (World.cells?_some g1).2.2 2 (by omega)
      rw [Go.Deep.add_add] at q0 q1 q2
      match cs', hl2', xs, hlen2 with
      | [v0, v1, v2], _, [y0, y1, y2], _ =>
        have f0 := hf 0 _ rfl
        have f1 := hf 1 _ rfl
        have f2 := hf 2 _ rfl
        clear hf
        simp only [List.getElem?_cons_zero, List.getElem?_cons_succ] at f0 f1 f2
        obtain ⟨k0, e4, rfl, w0⟩ := DataW.trod_int Tryd.underlying3 f0
        obtain ⟨k1, e5, rfl, w1⟩ := DataW.trod_int Tryd.underlying3 f1
        obtain ⟨k2, e6, rfl, w2⟩ := DataW.trod_int Tryd.underlying2 f2
        refine ⟨⟨k0, k1, k2⟩, ⟨?_, ?_, ?_⟩, fits64 w0, fits64 w1, fits64 w2⟩
        · rw [Nat.add_zero] at q0
          rw [q0]
          simp_all
        · rw [q1]
          simp_all
        · rw [q2]
          simp_all)
    have hlen : ((List.range len).map f).length = len := by rw [List.length_map, List.length_range]
    refine ⟨(List.range len).map f, ⟨some a, cap, by rw [hlen]; exact e1, fun j hj => ?_⟩, fun y hy => ?_, ?_⟩
    · rw [hlen] at hj
      obtain ⟨p0, p1, p2⟩ := (hf j hj).1
      obtain ⟨b, o, rfl⟩ : ∃ b o, a = ⟨b, o, none⟩ := by
        have h0 : w.cell? a = some (.int .i64 (f 0).op) := (hf 0 (by omega)).1.1
        exact plainA h0
      have hget : ((List.range len).map f)[j]'(by rw [hlen]; exact hj) = f j := by simp
      rw [hget]
      rw [addr_add] at p0 p1 p2
      rw [← Nat.add_assoc] at p1 p2
      exact ⟨b, o, rfl, p0, p1, p2⟩
    · obtain ⟨i, hi, rfl⟩ := List.mem_map.1 hy
      exact (hf i (List.mem_range.1 hi)).2
    · rw [hlen]
      have := length_le ((List.range len).map D)
      rw [List.length_map, List.length_range] at this
      simp only [Rows.uptoBulk]
      omega
set_option maxRecDepth 100000 in
theorem open_code {fuel : Nat} {cs : List Value} {x : DataW H × List MemPlace} (h : DataW.trod enc Tryd.prog w 0 (fun _ => true) held fuel 24 cs = some x) (hk : Rows.uptoBulk x.1 ≤ 1048576) :
    ∃ (v m : Int) (sl : Value) (is : List In), cs = [.int .i64 v, .int .i64 m, sl] ∧ Fit v ∧ Fit m ∧ InsV w sl is ∧ (∀ y, y ∈ is → y.fit) ∧ is.length ≤ 1048576 := by
  obtain ⟨xs, n, _, rfl, hl, hlen, hf⟩ := DataW.trod_struct Tryd.underlying24 h
  have hl3 : cs.length = 3 := hl.trans (by kernel_rfl)
  have hlen3 : xs.length = 3 := hlen
  have c3 : Tryd.prog.cellsOf 3 = 1 := by kernel_rfl
  have co : Tryd.prog.cellsOf 22 = 1 := by kernel_rfl
  match cs, hl3, xs, hlen3 with
  | [v0, v1, v2], _, [y0, y1, y2], _ =>
    have f0 := hf 0 _ rfl
    have f1 := hf 1 _ rfl
    have f2 := hf 2 _ rfl
    clear hf h
    simp only [List.getElem?_cons_zero, List.getElem?_cons_succ] at f0 f1 f2
    have g2 : DataW.trod enc Tryd.prog w 0 (fun _ => true) held n 22 [v2] = some y2 := by simpa [c3, co] using f2
    obtain ⟨k0, e0, rfl, w0⟩ := DataW.trod_int Tryd.underlying3 f0
    obtain ⟨k1, e1, rfl, w1⟩ := DataW.trod_int Tryd.underlying3 f1
    simp only [List.map_cons, List.map_nil, Rows.uptoBulk, Rows.uptoBulkAll] at hk
    obtain ⟨is, ho, hfit, lo⟩ := open_insts g2
    refine ⟨k0, k1, v2, is, ?_, fits64 w0, fits64 w1, ho, hfit, by omega⟩
    clear hk lo ho hfit f2 g2
    simp_all
end
end Cw
end Go.Proofs.YtnicbillhlhmmaaDoor
