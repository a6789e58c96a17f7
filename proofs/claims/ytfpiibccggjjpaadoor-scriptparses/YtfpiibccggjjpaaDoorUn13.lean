import Derived.Test.YtfpiibccggjjpaaDoorRows
import Derived.ProofKit
import Derived.LaidMore
import Derived.OpenShut
import Derived.Stop.Joined
import Derived.Lib.LaidTab
import Derived.ChangeArms
import Derived.Deep.Slices
import Derived.Deep.SlicePairs
import Derived.Stop.LaidErr
import Derived.Shelf.Vars
import Derived.Test.YtfpiibccggjjpaaDoorUn12
/-
  script: what the given condition on the six listed variables tells; a script that came in.
-/
namespace Go.Proofs.YtfpiibccggjjpaaDoor
open Go.ChangeShapes Go.WideShapes Go.ChangeAt Go.WideMaps Go.WideElems Go.RowKit
set_option linter.unusedVariables false

theorem own : ownKnob Tryd.prog.godebug = none := by kernel_rfl
theorem laidOut : laidOutB Tryd.prog = true := by kernel_rfl
theorem gDeb : Tryd.prog.globalNamed "math/bits.deBruijn64tab" = some 6 := by kernel_rfl
theorem tDeb : (Tryd.prog.globals[6]?).map (·.type) = some 165 := by kernel_rfl
theorem tPow : (Tryd.prog.globals[4]?).map (·.type) = some 156 := by kernel_rfl
theorem gRows : Tryd.prog.globalNamed "larder/script.rows" = some 0 := by kernel_rfl
theorem tRows : (Tryd.prog.globals[0]?).map (·.type) = some 90 := by kernel_rfl
theorem listedPow : (Rows.laid_internal_strconv_uint64pow10 : DataW Unit) = Lib.tabData .u64 Lib.pow10Tab := rfl
def laidO : List (String × DataW Unit) := [("math/bits.deBruijn32tab", Rows.laid_math_bits_deBruijn32tab), ("math/bits.deBruijn64tab", Rows.laid_math_bits_deBruijn64tab), ("internal/strconv.uint64pow10", Rows.laid_internal_strconv_uint64pow10), ("strconv.ErrRange", Rows.laid_strconv_ErrRange), ("strconv.ErrSyntax", Rows.laid_strconv_ErrSyntax), ("larder/script.rows", Rows.laid_larder_script_rows)]
set_option maxRecDepth 100000 in
/-- A row of the table as it was read. -/
theorem row_open {W : World} {fuel : Nat} {cs : List Value} {x : DataW Unit × List MemPlace} (h : DataW.trod (fun _ => ()) Tryd.prog W 0 (fun _ => true) false fuel 68 cs = some x) :
    ∃ (a f : ByteArray) (k o : Int), cs = [.string a, .int .i64 k, .int .i64 o, .string f] ∧ x.1 = .agg [.lit (.string a.data.toList), .lit (.int .i64 k), .lit (.int .i64 o), .lit (.string f.data.toList)] := by
  obtain ⟨xs, n, _, rfl, hl, hlen, hf⟩ := DataW.trod_struct Tryd.underlying68 h
  have hl4 : cs.length = 4 := hl.trans (by kernel_rfl)
  have hlen4 : xs.length = 4 := hlen
  match cs, hl4, xs, hlen4 with
  | [v0, v1, v2, v3], _, [y0, y1, y2, y3], _ =>
    have f0 := hf 0 _ rfl
    have f1 := hf 1 _ rfl
    have f2 := hf 2 _ rfl
    have f3 := hf 3 _ rfl
    clear hf h
    simp only [List.getElem?_cons_zero, List.getElem?_cons_succ] at f0 f1 f2 f3
    obtain ⟨a, e0, rfl, -⟩ := DataW.trod_string Tryd.underlying9 f0
    obtain ⟨k, e1, rfl, -⟩ := DataW.trod_int Tryd.underlying3 f1
    obtain ⟨o, e2, rfl, -⟩ := DataW.trod_int Tryd.underlying3 f2
    obtain ⟨f, e3, rfl, -⟩ := DataW.trod_string Tryd.underlying9 f3
    refine ⟨a, f, k, o, ?_, rfl⟩
    have c3 : Tryd.prog.cellsOf 3 = 1 := by kernel_rfl
    have c9 : Tryd.prog.cellsOf 9 = 1 := by kernel_rfl
    simp_all
def rowsL : List (DataW Unit) := match (Rows.laid_larder_script_rows : DataW Unit) with
  | .agg l => l
  | _ => []
theorem rowsL_eq : (Rows.laid_larder_script_rows : DataW Unit) = .agg rowsL := rfl
theorem rowsL_at (i : Nat) (hi : i < 16) : rowsL[i]? = some (.agg [.lit (.string (nmN i).data.toList), .lit (.int .i64 (kN i)), .lit (.int .i64 (oN i)), .lit (.string (fmN i).data.toList)]) := by
  iterate 16 (rcases i with _ | i; exact rfl)
  omega
set_option maxRecDepth 100000 in
theorem rows_of {W : World} {fuel : Nat} {cs : Array Value} {q : List MemPlace} (hv : W.var? Tryd.prog "larder/script.rows" = some cs) (h : DataW.trod (fun _ => ()) Tryd.prog W 0 (fun _ => true) false fuel 90 cs.toList = some (Rows.laid_larder_script_rows, q)) : RowsF W := by
  obtain ⟨xs, m, -, hx, hlen, hn, hel⟩ := DataW.trod_array Tryd.underlying90 h
  have c31 : Tryd.prog.cellsOf 68 = 4 := by kernel_rfl
  rw [c31] at hel
  rw [rowsL_eq] at hx
  have hx1 : rowsL = xs.map (·.1) := by
    have := congrArg Prod.fst hx
    simpa using this
  intro i hi
  obtain ⟨x, hxi⟩ : ∃ x, xs[i]? = some x := ⟨xs[i]'(by omega), List.getElem?_eq_getElem _⟩
  have h1 := hel i hi
  rw [hxi] at h1
  obtain ⟨a, f, k, o, hcs, hd⟩ := row_open h1
  have hf' := rowsL_at i hi
  have h2 : (xs.map (·.1))[i]? = some x.1 := by rw [List.getElem?_map, hxi]; rfl
  rw [← hx1, hf', hd] at h2
  simp only [Option.some.injEq, DataW.agg.injEq, List.cons.injEq, DataW.lit.injEq, Lit.string.injEq, Lit.int.injEq, true_and, and_true] at h2
  obtain ⟨e1, e2, e3, e4⟩ := h2
  have ea : nmN i = a := ByteArray.ext (Array.toList_inj.1 e1)
  have ef : fmN i = f := ByteArray.ext (Array.toList_inj.1 e4)
  have hc : ∀ j, j < 4 → W.cell? ⟨0, i * 4 + j, none⟩ = [(.string a : Value), .int .i64 k, .int .i64 o, .string f][j]? := fun j hj => by
    have t := World.var?_cell gRows hv (i * 4 + j)
    rw [t, ← hcs, List.getElem?_take, if_pos hj, List.getElem?_drop]
    simp
  rw [ea, e2, e3, ef]
  exact ⟨hc 0 (by omega), hc 1 (by omega), hc 2 (by omega), hc 3 (by omega)⟩
def debL : List (DataW Unit) := match (Rows.laid_math_bits_deBruijn64tab : DataW Unit) with
  | .agg l => l
  | _ => []
theorem debL_eq : (Rows.laid_math_bits_deBruijn64tab : DataW Unit) = .agg debL := rfl
set_option maxRecDepth 100000 in
theorem deb_of {W : World} {fuel : Nat} {cs : Array Value} {q : List MemPlace} (hv : W.var? Tryd.prog "math/bits.deBruijn64tab" = some cs) (h : DataW.trod (fun _ => ()) Tryd.prog W 0 (fun _ => true) false fuel 165 cs.toList = some (Rows.laid_math_bits_deBruijn64tab, q)) : Deb W := by
  obtain ⟨xs, m, -, hx, hlen, hn, hel⟩ := DataW.trod_array Tryd.underlying165 h
  have c5 : Tryd.prog.cellsOf 5 = 1 := by kernel_rfl
  rw [c5] at hel
  rw [debL_eq] at hx
  have hx1 : debL = xs.map (·.1) := by
    have := congrArg Prod.fst hx
    simpa using this
  obtain ⟨x, hxi⟩ : ∃ x, xs[15]? = some x := ⟨xs[15]'(by omega), List.getElem?_eq_getElem _⟩
  have h1 := hel 15 (by omega)
  rw [hxi] at h1
  obtain ⟨k, e, f, -⟩ := DataW.trod_int Tryd.underlying5 h1
  have h2 : (xs.map (·.1))[15]? = some x.1 := by rw [List.getElem?_map, hxi]; rfl
  rw [← hx1, f] at h2
  have h3 : (debL[15]? : Option (DataW Unit)) = some (.lit (.int .u8 4)) := rfl
  rw [h3] at h2
  have hk : k = 4 := by
    simp only [Option.some.injEq, DataW.lit.injEq, Lit.int.injEq, true_and] at h2
    exact h2.symm
  have t := World.var?_cell gDeb hv 15
  unfold Deb
  rw [t]
  have e2 : (List.take 1 (List.drop (15 * 1) cs.toList))[0]? = some (.int .u8 k) := by rw [e]; rfl
  rw [List.getElem?_take, if_pos (by omega), List.getElem?_drop] at e2
  rw [hk] at e2
  simpa using e2
theorem undErr : Tryd.prog.underlying 58 = some (.interface #[("Error", 62)]) := by kernel_rfl
theorem undPes : Tryd.prog.underlying 160 = some (.pointer 162) := by kernel_rfl
theorem undEs : Tryd.prog.underlying 162 = some (.struct #[{ name := "s", type := 9, offset := 0, embedded := false, tag := "", pkgPath := "errors", byteOffset := 0 }]) := by kernel_rfl
theorem starE : "*" ++ "errors.errorString" = "*errors.errorString" := by decide
theorem rowPes (u : TypeId) (h : Tryd.prog.typeName? 3 u = some "*errors.errorString") : u = 160 :=
  typeName_ptr_named (nm := "errors.errorString") (by rw [starE]; kernel_rfl) (by kernel_rfl) (by decide) u (by rw [starE]; exact h)
theorem gRng : Tryd.prog.globalNamed "strconv.ErrRange" = some 3 := by kernel_rfl
theorem gSyn : Tryd.prog.globalNamed "strconv.ErrSyntax" = some 2 := by kernel_rfl
theorem tRng : (Tryd.prog.globals[3]?).map (·.type) = some 58 := by kernel_rfl
theorem tSyn : (Tryd.prog.globals[2]?).map (·.type) = some 58 := by kernel_rfl
theorem max_of {W : World} (h : W.ShapedOpen Tryd.prog) : ∃ m, W.cell? ⟨1, 0, none⟩ = some (.int .i64 m) :=
  cell_of_shapedOpen_int (t := 3) (zero := #[.int .i64 0]) h (by decide +kernel) (by kernel_rfl) rfl (by kernel_rfl) (by kernel_rfl) Tryd.underlying3
theorem of_laid {W : World} (h : laidMetH Tryd.prog laidO W) (hs : W.ShapedOpen Tryd.prog) : TabW W ∧ Deb W ∧ RowsF W ∧ ErrW W := by
  rw [MakeChecks.laidMetH_plain _ _ _ (by kernel_rfl)] at h
  have hE := h.tail.tail.tail
  have hS := hE.tail
  obtain ⟨a1, s1, v1, -⟩ := laid_sentinel hE gRng tRng undErr rowPes undPes undEs rfl rfl Tryd.underlying9 (by kernel_rfl) (by kernel_rfl)
  obtain ⟨a2, s2, v2, -⟩ := laid_sentinel hS gSyn tSyn undErr rowPes undPes undEs rfl rfl Tryd.underlying9 (by kernel_rfl) (by kernel_rfl)
  have hB := h.tail
  have hP := h.tail.tail
  have hR := hS.tail
  obtain ⟨ps1, ⟨g1, t1, cs1, f1, p1, q1, hg1, ht1, hv1, hd1, _, _⟩, _, _⟩ := hB
  obtain ⟨ps, ⟨g2, t2, cs2, f2, p2, q2, hg2, ht2, hv2, hd2, _, _⟩, _, _⟩ := hP
  obtain ⟨ps3, ⟨g3, t3, cs3, f3, p3, q3, hg3, ht3, hv3, hd3, _, _⟩, _, _⟩ := hR
  obtain rfl := Option.some.inj (gDeb.symm.trans hg1)
  obtain rfl := Option.some.inj (tDeb.symm.trans ht1)
  obtain rfl := Option.some.inj (gPow.symm.trans hg2)
  obtain rfl := Option.some.inj (tPow.symm.trans ht2)
  obtain rfl := Option.some.inj (gRows.symm.trans hg3)
  obtain rfl := Option.some.inj (tRows.symm.trans ht3)
  refine ⟨?_, deb_of hv1 hd1, rows_of hv3 hd3, ⟨_, by simpa using World.var?_cell gSyn v2 0, Or.inr ⟨_, _, rfl⟩⟩, ⟨_, by simpa using World.var?_cell gRng v1 0, Or.inr ⟨_, _, rfl⟩⟩, max_of hs⟩
  unfold TabW Lib.TabIs
  rw [listedPow] at hd2
  have := Lib.cells_of_tab Tryd.underlying156 Tryd.underlying31 (by kernel_rfl) (by kernel_rfl) hd2
  rw [hv2, ← this]
theorem one_le {H : Type} (d : DataW H) : 1 ≤ Rows.uptoBulk d := by
  cases d with
  | lit l => cases l <;> simp [Rows.uptoBulk]
  | _ => simp [Rows.uptoBulk]
theorem part_le {H : Type} {d : DataW H} {l : List (DataW H)} (h : d ∈ l) : Rows.uptoBulk d ≤ Rows.uptoBulkAll l := by
  induction l with
  | nil => cases h
  | cons x r ih =>
    simp only [Rows.uptoBulkAll]
    cases List.mem_cons.1 h with
    | inl e => subst e; omega
    | inr e => have := ih e; omega
theorem length_le {H : Type} (l : List (DataW H)) : l.length ≤ Rows.uptoBulkAll l := by
  induction l with
  | nil => simp [Rows.uptoBulkAll]
  | cons x r ih => have := one_le x; simp only [Rows.uptoBulkAll, List.length_cons]; omega
theorem sum_le {H α : Type} (f : Nat → α) (c : α → Nat) (D : Nat → DataW H) : ∀ (I : List Nat), (∀ i ∈ I, c (f i) ≤ Rows.uptoBulk (D i)) → ((I.map f).map c).sum ≤ Rows.uptoBulkAll (I.map D)
  | [], _ => by simp
  | i :: r, h => by
    have a := sum_le f c D r (fun j hj => h j (List.mem_cons_of_mem _ hj))
    have b := h i List.mem_cons_self
    simp only [List.map_cons, List.sum_cons, Rows.uptoBulkAll]
    omega
theorem fits64 {k : Int} (hw : (Lit.int .i64 k).wf = true) : -9223372036854775808 ≤ k ∧ k ≤ 9223372036854775807 := by
  have hm : IntKind.i64.min = -9223372036854775808 := by decide
  have hM : IntKind.i64.max = 9223372036854775807 := by decide
  simp only [Lit.wf, decide_eq_true_eq, Bool.and_eq_true] at hw
  rw [hm, hM] at hw
  exact hw
theorem nat64 {k : Int} (hw : (Lit.int .u64 k).wf = true) : ∃ m : Nat, k = (m : Int) ∧ m < 18446744073709551616 := by
  have hm : IntKind.u64.min = 0 := by decide
  have hM : IntKind.u64.max = 18446744073709551615 := by decide
  simp only [Lit.wf, decide_eq_true_eq, Bool.and_eq_true] at hw
  rw [hm, hM] at hw
  exact ⟨k.toNat, by omega, by omega⟩
section
variable {H : Type} {enc : TypeId × Value → H} {w : World} {held : Bool}
set_option maxRecDepth 100000 in
theorem open_nums {n : Nat} {v : Value} {y : DataW H × List MemPlace} (h : DataW.trod enc Tryd.prog w 0 (fun _ => true) held n 30 [v] = some y) :
    ∃ zs : List Int, IntsIn w v zs ∧ zs.length + 1 ≤ Rows.uptoBulk y.1 := by
  rcases Go.Deep.open_slice1 Tryd.underlying30 (by kernel_rfl) h with ⟨hcs, _⟩ | ⟨a, len, cap, m, n', V, D, Pl, hcs, _, hl, hm, hmm, hy, hx⟩
  · injection hcs with e1 _
    exact ⟨[], ⟨Or.inl ⟨e1, rfl⟩, fun n hn => by cases hn⟩, one_le _⟩
  · injection hcs with e1 _
    have hmc : m = cap := by simpa using hmm
    have hn := length_le ((List.range len).map D)
    rw [List.length_map, List.length_range] at hn
    obtain ⟨f, hf⟩ := Go.Deep.choose_lt (α := Int) (n := len) (p := fun i x => w.cell? (a.add i) = some (.int .i64 x) ∧ -9223372036854775808 ≤ x ∧ x ≤ 9223372036854775807) (fun i hi => by
      obtain ⟨g1, g2⟩ := hx i (by omega)
      obtain ⟨x, e, _, hw⟩ := DataW.trod_int Tryd.underlying3 g2
      simp at e
      exact ⟨x, by rw [g1, e], fits64 hw⟩)
    refine ⟨(List.range len).map f, ⟨Or.inr ⟨a, cap, by rw [List.length_map, List.length_range]; exact e1, fun j hj => ?_⟩, fun z hz => ?_⟩, ?_⟩
    · have hj' : j < len := by simpa using hj
      rw [(hf j hj').1]
      simp
    · obtain ⟨i, hi, rfl⟩ := List.mem_map.1 hz
      exact (hf i (List.mem_range.1 hi)).2
    · rw [List.length_map, List.length_range, hy]
      simp only [Rows.uptoBulk]
      omega
set_option maxRecDepth 100000 in
theorem open_cmd {fuel : Nat} {cs : List Value} {x : DataW H × List MemPlace} (h : DataW.trod enc Tryd.prog w 0 (fun _ => true) held fuel 33 cs = some x) (hk : Rows.uptoBulk x.1 ≤ 1048576) :
    ∃ o : CmV, cs = o.cells ∧ CmdIn w o.c o.fs o.hs ∧ costC o.c ≤ Rows.uptoBulk x.1 := by
  obtain ⟨xs, n, _, rfl, hl, hlen, hf⟩ := DataW.trod_struct Tryd.underlying33 h
  have hl9 : cs.length = 9 := hl.trans (by kernel_rfl)
  have hlen9 : xs.length = 9 := hlen
  have c3 : Tryd.prog.cellsOf 3 = 1 := by kernel_rfl
  have c6 : Tryd.prog.cellsOf 31 = 1 := by kernel_rfl
  have ci : Tryd.prog.cellsOf 30 = 1 := by kernel_rfl
  have c9 : Tryd.prog.cellsOf 9 = 1 := by kernel_rfl
  match cs, hl9, xs, hlen9 with
  | [v0, v1, v2, v3, v4, v5, v6, v7, v8], _, [y0, y1, y2, y3, y4, y5, y6, y7, y8], _ =>
    have f0 := hf 0 _ rfl
    have f1 := hf 1 _ rfl
    have f2 := hf 2 _ rfl
    have f3 := hf 3 _ rfl
    have f4 := hf 4 _ rfl
    have f5 := hf 5 _ rfl
    have f6 := hf 6 _ rfl
    have f7 := hf 7 _ rfl
    have f8 := hf 8 _ rfl
    clear hf h
    simp only [List.getElem?_cons_zero, List.getElem?_cons_succ] at f0 f1 f2 f3 f4 f5 f6 f7 f8
    have g2 : DataW.trod enc Tryd.prog w 0 (fun _ => true) held n 30 [v2] = some y2 := by simpa [c3, c6, ci, c9] using f2
    have g3 : DataW.trod enc Tryd.prog w 0 (fun _ => true) held n 30 [v3] = some y3 := by simpa [c3, c6, ci, c9] using f3
    obtain ⟨k0, e0, rfl, w0⟩ := DataW.trod_int Tryd.underlying3 f0
    obtain ⟨k1, e1, rfl, w1⟩ := DataW.trod_int Tryd.underlying3 f1
    obtain ⟨zf, hzf, lzf⟩ := open_nums g2
    obtain ⟨zh, hzh, lzh⟩ := open_nums g3
    obtain ⟨k4, e4, rfl, w4⟩ := DataW.trod_int Tryd.underlying31 f4
    obtain ⟨k5, e5, rfl, w5⟩ := DataW.trod_int Tryd.underlying31 f5
    obtain ⟨k6, e6, rfl, w6⟩ := DataW.trod_int Tryd.underlying3 f6
    obtain ⟨s7, e7, rfl, -⟩ := DataW.trod_string Tryd.underlying9 f7
    obtain ⟨s8, e8, rfl, -⟩ := DataW.trod_string Tryd.underlying9 f8
    obtain ⟨u, rfl, hu⟩ := nat64 w4
    obtain ⟨v, rfl, hv⟩ := nat64 w5
    simp only [List.map_cons, List.map_nil, Rows.uptoBulk, Rows.uptoBulkAll] at hk ⊢
    have z7 : s7.data.toList.length = s7.size := rfl
    have z8 : s8.data.toList.length = s8.size := rfl
    refine ⟨⟨⟨k0, k1, u, v, k6, s7, s8, zf, zh⟩, v2, v3⟩, ?_, ⟨hzf, hzh, by show zf.length ≤ _; omega, by show zh.length ≤ _; omega, fits64 w1, fits64 w6, hu, hv, by show s7.size ≤ _; omega, by show s8.size ≤ _; omega⟩, by show zf.length + zh.length + s7.size + s8.size + 1 ≤ _; omega⟩
    clear hk lzf lzh hzf hzh f2 f3 g2 g3
    simp only [CmV.cells]
    simp_all
def cmv0 : CmV := ⟨limC 0, .slice none 0 0, .slice none 0 0⟩
set_option maxRecDepth 100000 in
theorem open_cmds {fuel : Nat} {v : Value} {x : DataW H × List MemPlace} (h : DataW.trod enc Tryd.prog w 0 (fun _ => true) held fuel 23 [v] = some x) (hk : Rows.uptoBulk x.1 ≤ 1048576) :
    ∃ L : List CmV, CmIn w v L ∧ costs (L.map (·.c)) ≤ Rows.uptoBulk x.1 := by
  haveI : Inhabited CmV := ⟨cmv0⟩
  rcases Go.Deep.open_slice Tryd.underlying23 h with ⟨hcs, _⟩ | ⟨a, len, cap, m, n, D, Pl, hcs, _, hl, hm, hmm, rfl, hx⟩
  · injection hcs with e1 _
    exact ⟨[], ⟨Or.inl ⟨e1, rfl⟩, fun x hx => by cases hx⟩, Nat.zero_le _⟩
  · injection hcs with e1 _
    have c7 : Tryd.prog.cellsOf 33 = 9 := by kernel_rfl
    rw [c7] at hx
    have hmc : m = cap := by simpa using hmm
    simp only [Rows.uptoBulk] at hk ⊢
    obtain ⟨f, hf⟩ := Go.Deep.choose_lt (α := CmV) (n := len) (p := fun i o => (∀ j, j < 9 → w.cell? (a.add (i * 9 + j)) = o.cells[j]?) ∧ CmdIn w o.c o.fs o.hs ∧ costC o.c ≤ Rows.uptoBulk (D i)) (fun i hi => by
      obtain ⟨cs', g1, g2⟩ := hx i (by omega)
      have hD : D i ∈ (List.range len).map D := List.mem_map.2 ⟨i, List.mem_range.2 hi, rfl⟩
      have hp := part_le hD
      obtain ⟨o, ho, hs, hc⟩ := open_cmd g2 (by show Rows.uptoBulk (D i) ≤ _; omega)
      refine ⟨o, fun j hj => ?_, hs, hc⟩
      have g3 := (World.cells?_some g1).2.2 j hj
      rw [Go.Deep.add_add] at g3
      rw [g3, ho])
    have hlen : ((List.range len).map f).length = len := by rw [List.length_map, List.length_range]
    refine ⟨(List.range len).map f, ⟨Or.inr ⟨a, cap, by rw [hlen]; exact e1, fun j u hu => ?_⟩, fun y hy => ?_⟩, ?_⟩
    · have hj : j < len * 9 := by
        have := (List.getElem?_eq_some_iff.1 hu).1
        rw [cmCells_length, hlen] at this
        exact this
      have hj9 : j / 9 < len := by omega
      have e := cmCells_at ((List.range len).map f) (j / 9) (by rw [hlen]; exact hj9) (j % 9) (Nat.mod_lt _ (by omega))
      rw [show j / 9 * 9 + j % 9 = j by omega, hu] at e
      have := (hf (j / 9) hj9).1 (j % 9) (Nat.mod_lt _ (by omega))
      rw [show j / 9 * 9 + j % 9 = j by omega] at this
      rw [this, e]
      simp
    · obtain ⟨i, hi, rfl⟩ := List.mem_map.1 hy
      exact (hf i (List.mem_range.1 hi)).2.1
    · have := sum_le f (fun o => costC o.c) D (List.range len) (fun i hi => (hf i (List.mem_range.1 hi)).2.2)
      unfold costs
      rw [List.map_map]
      have e2 : (costC ∘ fun x : CmV => x.c) = fun o : CmV => costC o.c := rfl
      rw [e2]
      omega
set_option maxRecDepth 100000 in
theorem open_ovs {fuel : Nat} {v : Value} {x : DataW H × List MemPlace} (h : DataW.trod enc Tryd.prog w 0 (fun _ => true) held fuel 22 [v] = some x) (hk : Rows.uptoBulk x.1 ≤ 1048576) :
    ∃ os : List Ovr, OvIn w v os ∧ costO os ≤ Rows.uptoBulk x.1 := by
  rcases Go.Deep.open_slice Tryd.underlying22 h with ⟨hcs, _⟩ | ⟨a, len, cap, m, n, D, Pl, hcs, _, hl, hm, hmm, rfl, hx⟩
  · injection hcs with e1 _
    exact ⟨[], ⟨Or.inl ⟨e1, rfl⟩, fun x hx => by cases hx⟩, Nat.zero_le _⟩
  · injection hcs with e1 _
    have c7 : Tryd.prog.cellsOf 49 = 2 := by kernel_rfl
    rw [c7] at hx
    have hmc : m = cap := by simpa using hmm
    simp only [Rows.uptoBulk] at hk ⊢
    obtain ⟨f, hf⟩ := Go.Deep.choose_lt (α := Ovr) (n := len) (p := fun i o => (w.cell? (a.add (i * 2)) = some (.string o.1) ∧ w.cell? (a.add (i * 2 + 1)) = some (.int .u64 (o.2 : Int))) ∧ (o.1.size ≤ 8388608 ∧ o.2 < 18446744073709551616) ∧ o.1.size + 1 ≤ Rows.uptoBulk (D i)) (fun i hi => by
      obtain ⟨cs', g1, g2⟩ := hx i (by omega)
      have hD : D i ∈ (List.range len).map D := List.mem_map.2 ⟨i, List.mem_range.2 hi, rfl⟩
      have hp := part_le hD
      obtain ⟨xs, n', _, hxy, hl2, hlen, hf⟩ := DataW.trod_struct Tryd.underlying49 g2
      have hl2' : cs'.length = 2 := hl2.trans (by kernel_rfl)
      have hlen2 : xs.length = 2 := hlen
      have c6 : Tryd.prog.cellsOf 31 = 1 := by kernel_rfl
      have c9 : Tryd.prog.cellsOf 9 = 1 := by kernel_rfl
      have q0 := (World.cells?_some g1).2.2 0 (by omega)
      have q1 := (World.cells?_some g1).2.2 1 (by omega)
      rw [Go.Deep.add_add] at q0 q1
      match cs', hl2', xs, hlen2 with
      | [v0, v1], _, [y0, y1], _ =>
        have f0 := hf 0 _ rfl
        have f1 := hf 1 _ rfl
        clear hf
        simp only [List.getElem?_cons_zero, List.getElem?_cons_succ] at f0 f1
        obtain ⟨s0, e0, rfl, -⟩ := DataW.trod_string Tryd.underlying9 f0
        obtain ⟨k1, e4, rfl, w1⟩ := DataW.trod_int Tryd.underlying31 f1
        obtain ⟨u, rfl, hu⟩ := nat64 w1
        simp only [Prod.mk.injEq] at hxy
        have hb : Rows.uptoBulk (D i) = s0.data.toList.length + 1 + 1 + 1 := by
          rw [hxy.1]
          simp [Rows.uptoBulk, Rows.uptoBulkAll]
        have z0 : s0.data.toList.length = s0.size := rfl
        refine ⟨(s0, u), ⟨?_, ?_⟩, ⟨by show s0.size ≤ _; omega, hu⟩, by show s0.size + 1 ≤ _; omega⟩
        · rw [Nat.add_zero] at q0
          rw [q0]
          simp_all
        · rw [q1]
          simp_all)
    have hlen : ((List.range len).map f).length = len := by rw [List.length_map, List.length_range]
    refine ⟨(List.range len).map f, ⟨Or.inr ⟨a, cap, by rw [hlen]; exact e1, fun j u hu => ?_⟩, fun y hy => ?_⟩, ?_⟩
    · have hj : j < len * 2 := by
        have := (List.getElem?_eq_some_iff.1 hu).1
        rw [ovCells_length, hlen] at this
        exact this
      have hj2 : j / 2 < len := by omega
      obtain ⟨e2, e3⟩ := ovCells_at ((List.range len).map f) (j / 2) (by rw [hlen]; exact hj2)
      obtain ⟨p1, p2⟩ := (hf (j / 2) hj2).1
      rcases Nat.mod_two_eq_zero_or_one j with hm | hm
      · rw [show j / 2 * 2 = j by omega] at e2 p1
        rw [e2] at hu
        rw [p1, ← hu]
        simp
      · rw [show j / 2 * 2 + 1 = j by omega] at e3 p2
        rw [e3] at hu
        rw [p2, ← hu]
        simp
    · obtain ⟨i, hi, rfl⟩ := List.mem_map.1 hy
      exact (hf i (List.mem_range.1 hi)).2.1
    · have := sum_le f (fun o => o.1.size + 1) D (List.range len) (fun i hi => (hf i (List.mem_range.1 hi)).2.2)
      unfold costO
      omega
set_option maxRecDepth 100000 in
/-- A script that came in. -/
theorem open_script {fuel : Nat} {cs : List Value} {x : DataW H × List MemPlace} (h : DataW.trod enc Tryd.prog w 0 (fun _ => true) held fuel 25 cs = some x) (hk : Rows.uptoBulk x.1 ≤ 1048576) :
    ∃ (n : Int) (vo vc : Value) (os : List Ovr) (L : List CmV), cs = [.int .i64 n, vo, vc] ∧ (-9223372036854775808 ≤ n ∧ n ≤ 9223372036854775807) ∧ OvIn w vo os ∧ CmIn w vc L ∧ costO os + costs (L.map (·.c)) ≤ 4194304 := by
  obtain ⟨xs, n, _, rfl, hl, hlen, hf⟩ := DataW.trod_struct Tryd.underlying25 h
  have hl3 : cs.length = 3 := hl.trans (by kernel_rfl)
  have hlen3 : xs.length = 3 := hlen
  have c3 : Tryd.prog.cellsOf 3 = 1 := by kernel_rfl
  have co : Tryd.prog.cellsOf 22 = 1 := by kernel_rfl
  have cc : Tryd.prog.cellsOf 23 = 1 := by kernel_rfl
  match cs, hl3, xs, hlen3 with
  | [v0, v1, v2], _, [y0, y1, y2], _ =>
    have f0 := hf 0 _ rfl
    have f1 := hf 1 _ rfl
    have f2 := hf 2 _ rfl
    clear hf h
    simp only [List.getElem?_cons_zero, List.getElem?_cons_succ] at f0 f1 f2
    have g1 : DataW.trod enc Tryd.prog w 0 (fun _ => true) held n 22 [v1] = some y1 := by simpa [c3, co, cc] using f1
    have g2 : DataW.trod enc Tryd.prog w 0 (fun _ => true) held n 23 [v2] = some y2 := by simpa [c3, co, cc] using f2
    obtain ⟨k0, e0, rfl, w0⟩ := DataW.trod_int Tryd.underlying3 f0
    simp only [List.map_cons, List.map_nil, Rows.uptoBulk, Rows.uptoBulkAll] at hk
    obtain ⟨os, ho, lo⟩ := open_ovs g1 (by omega)
    obtain ⟨L, hL, lL⟩ := open_cmds g2 (by omega)
    refine ⟨k0, v1, v2, os, L, ?_, fits64 w0, ho, hL, by omega⟩
    clear hk lo lL ho hL f1 f2 g1 g2
    simp_all
end
end Go.Proofs.YtfpiibccggjjpaaDoor
