/-
  script: what the listed variables of ScriptLine tell.
-/
import Derived.Test.YteimjilngabebaaDoorSCD
import Derived.Test.YteimjilngabebaaDoorSC15
import Derived.Stop.LaidErr
import Derived.Shelf.Vars
namespace Go.Proofs.YteimjilngabebaaDoor
open Go.ChangeShapes Go.WideShapes Go.ChangeAt Go.WideMaps Go.WideElems Go.RowKit
set_option linter.unusedVariables false

def laidL : List (String × DataW Unit) := [("math/bits.deBruijn32tab", Rows.laid_math_bits_deBruijn32tab), ("math/bits.deBruijn64tab", Rows.laid_math_bits_deBruijn64tab), ("internal/strconv.uint64pow10", Rows.laid_internal_strconv_uint64pow10), ("unicode/utf8.acceptRanges", Rows.laid_unicode_utf8_acceptRanges), ("strconv.ErrRange", Rows.laid_strconv_ErrRange), ("strconv.ErrSyntax", Rows.laid_strconv_ErrSyntax), ("larder/script.rows", Rows.laid_larder_script_rows), ("unicode/utf8.first", Rows.laid_unicode_utf8_first)]
theorem undErr : Tryd.prog.underlying 55 = some (.interface #[("Error", 58)]) := by kernel_rfl
theorem undPes : Tryd.prog.underlying 128 = some (.pointer 130) := by kernel_rfl
theorem undEs : Tryd.prog.underlying 130 = some (.struct #[{ name := "s", type := 9, offset := 0, embedded := false, tag := "", pkgPath := "errors", byteOffset := 0 }]) := by kernel_rfl
theorem starE : "*" ++ "errors.errorString" = "*errors.errorString" := by decide
theorem rowPes (u : TypeId) (h : Tryd.prog.typeName? 3 u = some "*errors.errorString") : u = 128 :=
  typeName_ptr_named (nm := "errors.errorString") (by rw [starE]; kernel_rfl) (by kernel_rfl) (by decide) u (by rw [starE]; exact h)
theorem gRng : Tryd.prog.globalNamed "strconv.ErrRange" = some 6 := by kernel_rfl
theorem gSyn : Tryd.prog.globalNamed "strconv.ErrSyntax" = some 5 := by kernel_rfl
theorem tRng : (Tryd.prog.globals[6]?).map (·.type) = some 55 := by kernel_rfl
theorem tSyn : (Tryd.prog.globals[5]?).map (·.type) = some 55 := by kernel_rfl
theorem max_of {W : World} (h : W.ShapedOpen Tryd.prog) : ∃ m, W.cell? ⟨1, 0, none⟩ = some (.int .i64 m) :=
  cell_of_shapedOpen_int (t := 3) (zero := #[.int .i64 0]) h (by decide +kernel) (by kernel_rfl) rfl (by kernel_rfl) (by kernel_rfl) Tryd.underlying3
theorem of_laidL {W : World} (h : laidMetH Tryd.prog laidL W) (hs : W.ShapedOpen Tryd.prog) : TabW W ∧ RowsAt W ∧ ErrW W := by
  rw [MakeChecks.laidMetH_plain _ _ _ (by kernel_rfl)] at h
  have hE := h.tail.tail.tail.tail
  have hS := hE.tail
  obtain ⟨a1, s1, v1, -⟩ := laid_sentinel hE gRng tRng undErr rowPes undPes undEs rfl rfl Tryd.underlying9 (by kernel_rfl) (by kernel_rfl)
  obtain ⟨a2, s2, v2, -⟩ := laid_sentinel hS gSyn tSyn undErr rowPes undPes undEs rfl rfl Tryd.underlying9 (by kernel_rfl) (by kernel_rfl)
  have hP := h.tail.tail
  have hR := hS.tail
  obtain ⟨ps, ⟨g2, t2, cs2, f2, p2, q2, hg2, ht2, hv2, hd2, _, _⟩, _, _⟩ := hP
  obtain ⟨ps3, ⟨g3, t3, cs3, f3, p3, q3, hg3, ht3, hv3, hd3, _, _⟩, _, _⟩ := hR
  obtain rfl := Option.some.inj (gPow.symm.trans hg2)
  obtain rfl := Option.some.inj (tPow.symm.trans ht2)
  obtain rfl := Option.some.inj (gRows.symm.trans hg3)
  obtain rfl := Option.some.inj (tRows.symm.trans ht3)
  refine ⟨?_, rows_of hv3 hd3, ⟨_, by simpa using World.var?_cell gSyn v2 0, Or.inr ⟨_, _, rfl⟩⟩, ⟨_, by simpa using World.var?_cell gRng v1 0, Or.inr ⟨_, _, rfl⟩⟩, max_of hs⟩
  unfold TabW Lib.TabIs
  rw [listedPow] at hd2
  have := Lib.cells_of_tab Tryd.underlying112 Tryd.underlying84 (by kernel_rfl) (by kernel_rfl) hd2
  rw [hv2, ← this]
end Go.Proofs.YteimjilngabebaaDoor
