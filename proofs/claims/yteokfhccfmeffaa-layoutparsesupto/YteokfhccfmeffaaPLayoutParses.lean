/-
  The second statement on LayoutParses out of its walk.
-/
import Derived.Test.YteokfhccfmeffaaWLayoutParses
import Derived.ProofKit
import Derived.OpenShut
import Derived.ChangeOld
import Derived.JoinedCond
import Derived.Deep.Slices
namespace Go.Proofs.Yteokfhccfmeffaa
namespace layoutParses
open Go.ChangeShapes Go.WideShapes Go.ChangeAt Go.RowKit
set_option linter.unusedVariables false

theorem own : ownKnob Try.prog.godebug = none := by kernel_rfl
theorem laidOut : laidOutB Try.prog = true := by kernel_rfl

theorem plain_of_cell {w : World} {a : Addr} {v : Value} (h : w.cell? (a.add 0) = some v) : ∃ bb oo, a = ⟨bb, oo, none⟩ ∧ bb < w.heap.size := by
  obtain ⟨bb, oo, sp⟩ := a
  have h' : w.cell? ⟨bb, oo, sp⟩ = some v := h
  have hlt : bb < w.heap.size := by
    rcases Nat.lt_or_ge bb w.heap.size with h1 | h1
    · exact h1
    · simp [World.cell?, Array.getElem?_eq_none h1] at h'
  cases sp with
  | none => exact ⟨bb, oo, rfl, hlt⟩
  | some s =>
    exfalso
    unfold World.cell? at h'
    split at h' <;> simp at h'

/-! ### Bulk -/
theorem one_le {H : Type} (d : DataW H) : 1 ≤ Rows.uptoBulk d := by
  cases d with
  | lit l => cases l <;> simp [Rows.uptoBulk]
  | _ => simp [Rows.uptoBulk]
theorem part_le {H : Type} {d : DataW H} {l : List (DataW H)} (h : d ∈ l) : Rows.uptoBulk d ≤ Rows.uptoBulkAll l := by
  induction l with
  | nil => cases h
  | cons x r ih =>
    simp only [Rows.uptoBulkAll]
    cases List.mem_cons.1 h with
    | inl e => subst e; omega
    | inr e => have := ih e; omega
theorem length_le {H : Type} (l : List (DataW H)) : l.length ≤ Rows.uptoBulkAll l := by
  induction l with
  | nil => simp [Rows.uptoBulkAll]
  | cons x r ih => have := one_le x; simp only [Rows.uptoBulkAll, List.length_cons]; omega

section
variable {H : Type} {enc : TypeId × Value → H} {w : World} {held : Bool}

theorem open_ints {n : Nat} {v : Value} {y : DataW H × List MemPlace} (h : DataW.trod enc Try.prog w 0 (fun _ => true) held n 24 [v] = some y) (hk : Rows.uptoBulk y.1 ≤ 1048576) :
    ∃ xs : List Int, InAt w v xs ∧ xs.length ≤ 1048576 := by
  rcases Go.Deep.open_slice1 Try.underlying24 (by kernel_rfl) h with ⟨hcs, _⟩ | ⟨a, len, cap, m, n', V, D, Pl, hcs, _, hl, hm, hmm, rfl, hx⟩
  · injection hcs with e1 _
    exact ⟨[], Or.inl ⟨e1, rfl⟩, by simp⟩
  · injection hcs with e1 _
    have hmc : m = cap := by simpa using hmm
    subst hmc
    by_cases hz : len = 0
    · subst hz
      exact ⟨[], Or.inr (Or.inl ⟨a, m, e1, rfl⟩), by simp⟩
    simp only [Rows.uptoBulk] at hk
    have hn := length_le ((List.range len).map D)
    rw [List.length_map, List.length_range] at hn
    obtain ⟨f, hf⟩ := Go.Deep.choose_lt (α := Int) (n := len) (p := fun i x => w.cell? (a.add i) = some (.int .i64 x)) (fun i hi => by
      obtain ⟨g1, g2⟩ := hx i (by omega)
      obtain ⟨x, e, _, _⟩ := DataW.trod_int Try.underlying3 g2
      simp at e
      exact ⟨x, by rw [g1, e]⟩)
    obtain ⟨bb, oo, rfl, _⟩ := plain_of_cell (w := w) (a := a) (hf 0 (by omega))
    refine ⟨(List.range len).map f, Or.inr (Or.inr ⟨bb, oo, m, by rw [List.length_map, List.length_range]; exact e1, fun j hj => ?_⟩), by rw [List.length_map, List.length_range]; omega⟩
    have hj' : j < len := by simpa using hj
    have := hf j hj'
    rw [addr0] at this
    rw [this]
    simp

theorem open_lists {fuel : Nat} {so : Option Addr} {len cap : Nat} {x : DataW H × List MemPlace} (h : DataW.trod enc Try.prog w 0 (fun _ => true) held fuel 34 [.slice so len cap] = some x) (hk : Rows.uptoBulk x.1 ≤ 1048576) :
    len = 0 ∨ ∃ (b o : Nat) (V : Nat → Value) (X : Nat → List Int), so = some ⟨b, o, none⟩ ∧ len ≤ 1048576 ∧ ∀ i, i < len → w.cell? ⟨b, o + i, none⟩ = some (V i) ∧ InAt w (V i) (X i) ∧ (X i).length ≤ 1048576 := by
  rcases Go.Deep.open_slice1 Try.underlying34 (by kernel_rfl) h with ⟨hcs, _⟩ | ⟨a, l, c, m, n, V, D, Pl, hcs, _, hl, hm, hmm, rfl, hx⟩
  · injection hcs with e1 _
    injection e1 with e1 e2 e3
    exact Or.inl e2
  · injection hcs with e1 _
    injection e1 with e1 e2 e3
    subst e1 e2 e3
    have hmc : m = cap := by simpa using hmm
    subst hmc
    by_cases hz : len = 0
    · exact Or.inl hz
    right
    simp only [Rows.uptoBulk] at hk
    have hn := length_le ((List.range len).map D)
    rw [List.length_map, List.length_range] at hn
    obtain ⟨f, hf⟩ := Go.Deep.choose_lt (α := List Int) (n := len) (p := fun i xs => InAt w (V i) xs ∧ xs.length ≤ 1048576) (fun i hi => by
      obtain ⟨g1, g2⟩ := hx i (by omega)
      have hD : D i ∈ (List.range len).map D := List.mem_map.2 ⟨i, List.mem_range.2 hi, rfl⟩
      have hp := part_le hD
      exact open_ints g2 (by show Rows.uptoBulk (D i) ≤ _; omega))
    obtain ⟨bb, oo, rfl, _⟩ := plain_of_cell (w := w) (a := a) (v := V 0) (by simpa using (hx 0 (by omega)).1)
    refine ⟨bb, oo, V, f, rfl, by omega, fun i hi => ?_⟩
    have := (hx i (by omega)).1
    rw [addr0] at this
    exact ⟨this, hf i hi⟩
end

theorem contract (H : Type) (enc : TypeId × Value → H) (W : World) (base : Nat) (args : Array Value) (ds gs : List (DataW H)) (before : List MemPlace)
    (hval : ∀ (j : Nat) t v, Try.f5.params[j]? = some t → args[j]? = some v → Value.okWide Try.prog W .any base t v)
    (hW : DataW.Whole enc Try.prog Try.f5.params.toList Rows.layoutParsesSpec.vars false W args.toList ds gs before) (hk : Rows.uptoSmall H (ds ++ gs) = true) :
    Calls Try.prog 5 args W fun e W' => ∃ v, e = .returned v ∧ Rows.layoutParsesSpec.post enc Try.prog Try.f5 false true false false W args v W' := by
  have hW' := hW
  obtain ⟨p, q, hA0, hV, rfl, hfz, hnd⟩ := hW
  have hA : DataW.TrodAll enc Try.prog W 0 (fun _ => true) true Try.f5.params.toList args.toList ds p := hA0
  rw [Try.params5] at hA hval
  obtain ⟨v0, vs0, d0, ds0, p0, q0, hargs, rfl, rfl, h0, r0⟩ := trodAll_cons hA
  obtain ⟨rfl, rfl, rfl⟩ := trodAll_nil r0
  obtain rfl : args = #[v0] := by cases args; simp_all
  obtain ⟨rfl, rfl⟩ := trodVars_none hV
  obtain ⟨a1, len1, cap1, rfl⟩ := okWide_slice Try.underlying34 (hval 0 34 v0 rfl rfl)
  have k1 := h0
  have lt1 : ∀ x ∈ p0, x.block < W.heap.size := by obtain ⟨m, hm⟩ := k1; exact DataW.trod_lt m _ _ _ hm
  simp only [List.append_nil] at hk
  have hbound : Rows.uptoBulkAll [d0] ≤ 1048576 := of_decide_eq_true hk
  have hw : Calls Try.prog 5 #[.slice a1 len1 cap1] W fun r w' => Post W r w' := by
    obtain ⟨fuel, hf⟩ := h0
    have hb : Rows.uptoBulk d0 ≤ 1048576 := by
      have := part_le (l := [d0]) (d := d0) (by simp)
      omega
    rcases open_lists (x := (d0, p0)) (by simpa [Value.cells] using hf) hb with rfl | ⟨b, o, V, X, rfl, hl, hA⟩
    · exact walk0 _ _ _
    · exact walk b o len1 cap1 V X W hl hA
  clear hA0 hbound
  refine hw.mono fun e W' ⟨he, bel⟩ => ?_
  subst he
  exact ⟨_, rfl, _, _, _, [], _, [], hW', (trodAll_cons_mk (shut_bool Try.underlying4 _) trodAll_mk0), (trodAll_cons_mk (Below.trod laidOut (by kernel_rfl) (of_decide_eq_true (by kernel_rfl)) k1 bel lt1) trodAll_mk0), rfl, bel.frame _, fun h => by cases h⟩

set_option maxRecDepth 100000 in
theorem lifted (os : Os) (started : os.Started) (H : Type) (enc : TypeId × Value → H) (F : Stop.Interp) :
    ReturnsInHanded {} Try.checked os 5 .any ((Rows.OpenSpec.upto Rows.layoutParsesSpec).pre6 enc Try.prog Try.f5 Rows.layoutParsesUptoRow.domain false) (((Rows.OpenSpec.upto Rows.layoutParsesSpec).at F).post enc Try.prog Try.f5 false true false false) := by
  refine returnsInHanded_of_cond (C := Try.checked) (s := Rows.OpenSpec.upto Rows.layoutParsesSpec) (k := Rows.uptoSmall) rfl own started (by kernel_rfl) Try.func5
    (OpenSpec.witness (enc := enc) (C := Try.checked) (s := Rows.OpenSpec.upto Rows.layoutParsesSpec) (k := Rows.uptoSmall) rfl false ⟨#[], #[.slice none 0 0], []⟩ 8 (by kernel_rfl) (by kernel_rfl) (by kernel_rfl)
      (x := ([.nil], [], [])) (by kernel_rfl) rfl (by kernel_rfl)) ?_
  intro W base args ds gs before hval hW _ hk _
  exact contract H enc W base args ds gs before hval hW hk

theorem over : Rows.layoutParsesUptoRow.holds Try.pinned (Rows.OpenSpec.upto Rows.layoutParsesSpec) :=
  OpenClaim.holds_of_cond 5 Try.f5 rfl rfl rfl rfl rfl rfl rfl ⟨rfl, rfl, rfl, rfl, rfl⟩ rfl rfl rfl rfl rfl (by kernel_rfl) Try.func5 (by kernel_rfl)
    (of_decide_eq_true (by kernel_rfl)) (by unfold Func.isWrapper; first | (rw [if_pos (by decide +kernel)]; kernel_rfl) | (rw [if_neg (by decide +kernel)]; exact ⟨rfl, rfl⟩))
    (fun os started H enc _ F => lifted os started H enc F)
end layoutParses

theorem layoutParses_upto_holds : Rows.LayoutParsesUptoSaid :=
  layoutParses.over
end Go.Proofs.Yteokfhccfmeffaa
