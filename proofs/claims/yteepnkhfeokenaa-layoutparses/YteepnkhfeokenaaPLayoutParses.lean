/-
  The statement on LayoutParses out of its walk.
-/
import Derived.Test.YteepnkhfeokenaaWLayoutParses
import Derived.ProofKit
import Derived.OpenShut
import Derived.ChangeOld
import Derived.JoinedCond
import Derived.Deep.Slices
import Derived.Deep.DeepHandedRow
import Derived.SizedLaws
import Derived.Lib.SmallJoins
import Derived.WalkKit
import Derived.ShutString
import Derived.Below
import Derived.Carry
namespace Go.Proofs.Yteepnkhfeokenaa
namespace layoutParses
open Go.ChangeShapes Go.WideShapes Go.ChangeAt Go.RowKit
set_option linter.unusedVariables false

theorem own : ownKnob Try.prog.godebug = none := by kernel_rfl
theorem laidOut : laidOutB Try.prog = true := by kernel_rfl

theorem plain_of_cell {w : World} {a : Addr} {v : Value} (h : w.cell? (a.add 0) = some v) : ∃ bb oo, a = ⟨bb, oo, none⟩ ∧ bb < w.heap.size := by
  obtain ⟨bb, oo, sp⟩ := a
  have h' : w.cell? ⟨bb, oo, sp⟩ = some v := h
  have hlt : bb < w.heap.size := by
    rcases Nat.lt_or_ge bb w.heap.size with h1 | h1
    · exact h1
    · simp [World.cell?, Array.getElem?_eq_none h1] at h'
  cases sp with
  | none => exact ⟨bb, oo, rfl, hlt⟩
  | some s =>
    exfalso
    unfold World.cell? at h'
    split at h' <;> simp at h'

theorem weightsAll_mem' {H : Type} {P : Program} {e : TypeId} : ∀ {l : List (DataW H)} {d : DataW H}, d ∈ l → ∀ n ∈ d.weights P e, n ∈ DataW.weightsAll P e l
  | d0 :: r, d, h, n, hn => by
    simp only [DataW.weightsAll, List.mem_append]
    rcases List.mem_cons.1 h with rfl | h
    · exact Or.inl hn
    · exact Or.inr (weightsAll_mem' h n hn)

section
variable {H : Type} {enc : TypeId × Value → H} {w : World} {held : Bool}

theorem open_ints {n : Nat} {v : Value} {y : DataW H × List MemPlace} (h : DataW.trod enc Try.prog w 0 (fun _ => true) held n 27 [v] = some y) (hw : ∀ n ∈ y.1.weights Try.prog 27, n ≤ reachBytes) :
    ∃ xs : List Int, InAt w v xs ∧ xs.length ≤ 17592186044000 := by
  rcases Go.Deep.open_slice1 Try.underlying27 (by kernel_rfl) h with ⟨hcs, _⟩ | ⟨a, len, cap, m, n', V, D, Pl, hcs, _, hl, hm, hmm, rfl, hx⟩
  · injection hcs with e1 _
    exact ⟨[], Or.inl ⟨e1, rfl⟩, by simp⟩
  · injection hcs with e1 _
    have hmc : m = cap := by simpa using hmm
    subst hmc
    by_cases hz : len = 0
    · subst hz
      exact ⟨[], Or.inr (Or.inl ⟨a, m, e1, rfl⟩), by simp⟩
    have hlw : len ≤ 17592186044000 := by
      have h47 : reachBytes = 140737488351232 := by decide
      have hby : Try.prog.bytesOf 3 = 8 := by kernel_rfl
      have := hw (((List.map D (List.range len)).length + (List.map D ((List.range m).drop len)).length) * Try.prog.bytesOf 3) (by simp [DataW.weights, Try.underlying27])
      rw [hby, List.length_map, List.length_range] at this
      have h2 := Nat.le_trans (Nat.mul_le_mul_right 8 (Nat.le_add_right len _)) this
      omega
    obtain ⟨f, hf⟩ := Go.Deep.choose_lt (α := Int) (n := len) (p := fun i x => w.cell? (a.add i) = some (.int .i64 x)) (fun i hi => by
      obtain ⟨g1, g2⟩ := hx i (by omega)
      obtain ⟨x, e, _, _⟩ := DataW.trod_int Try.underlying3 g2
      simp at e
      exact ⟨x, by rw [g1, e]⟩)
    obtain ⟨bb, oo, rfl, _⟩ := plain_of_cell (w := w) (a := a) (hf 0 (by omega))
    refine ⟨(List.range len).map f, Or.inr (Or.inr ⟨bb, oo, m, by rw [List.length_map, List.length_range]; exact e1, fun j hj => ?_⟩), by rw [List.length_map, List.length_range]; omega⟩
    have hj' : j < len := by simpa using hj
    have := hf j hj'
    rw [addr0] at this
    rw [this]
    simp

theorem open_lists {fuel : Nat} {so : Option Addr} {len cap : Nat} {x : DataW H × List MemPlace} (h : DataW.trod enc Try.prog w 0 (fun _ => true) held fuel 22 [.slice so len cap] = some x) (hw : ∀ n ∈ x.1.weights Try.prog 22, n ≤ reachBytes) :
    len = 0 ∨ ∃ (b o : Nat) (V : Nat → Value) (X : Nat → List Int), so = some ⟨b, o, none⟩ ∧ len ≤ 17592186044000 ∧ ∀ i, i < len → w.cell? ⟨b, o + i, none⟩ = some (V i) ∧ InAt w (V i) (X i) ∧ (X i).length ≤ 17592186044000 := by
  rcases Go.Deep.open_slice1 Try.underlying22 (by kernel_rfl) h with ⟨hcs, _⟩ | ⟨a, l, c, m, n, V, D, Pl, hcs, _, hl, hm, hmm, rfl, hx⟩
  · injection hcs with e1 _
    injection e1 with e1 e2 e3
    exact Or.inl e2
  · injection hcs with e1 _
    injection e1 with e1 e2 e3
    subst e1 e2 e3
    have hmc : m = cap := by simpa using hmm
    subst hmc
    by_cases hz : len = 0
    · exact Or.inl hz
    right
    have hlw : len ≤ 17592186044000 := by
      have h47 : reachBytes = 140737488351232 := by decide
      have hby : Try.prog.bytesOf 27 = 24 := by kernel_rfl
      have := hw (((List.map D (List.range len)).length + (List.map D ((List.range m).drop len)).length) * Try.prog.bytesOf 27) (by simp [DataW.weights, Try.underlying22])
      rw [hby, List.length_map, List.length_range] at this
      have h2 := Nat.le_trans (Nat.mul_le_mul_right 24 (Nat.le_add_right len _)) this
      omega
    obtain ⟨f, hf⟩ := Go.Deep.choose_lt (α := List Int) (n := len) (p := fun i xs => InAt w (V i) xs ∧ xs.length ≤ 17592186044000) (fun i hi => by
      obtain ⟨g1, g2⟩ := hx i (by omega)
      have hD : D i ∈ (List.range len).map D := List.mem_map.2 ⟨i, List.mem_range.2 hi, rfl⟩
      exact open_ints g2 (fun k hk => hw k (by
        simp only [DataW.weights, Try.underlying22, List.mem_cons, List.mem_append]
        exact Or.inr (Or.inl (weightsAll_mem' hD k hk)))))
    obtain ⟨bb, oo, rfl, _⟩ := plain_of_cell (w := w) (a := a) (v := V 0) (by simpa using (hx 0 (by omega)).1)
    refine ⟨bb, oo, V, f, rfl, by omega, fun i hi => ?_⟩
    have := (hx i (by omega)).1
    rw [addr0] at this
    exact ⟨this, hf i hi⟩
end

set_option maxRecDepth 100000 in
theorem lifted (os : Os) (started : os.Started) (H : Type) (enc : TypeId × Value → H) :
    ReturnsInHanded {} Try.checked os 3 .any (Rows.layoutParsesSpec.pre6 enc Try.prog Try.f3 Rows.layoutParsesRow.domain false) (Rows.layoutParsesSpec.post enc Try.prog Try.f3 false true false false) := by
  refine returnsInHanded_of_change_sized (C := Try.checked) own started (by kernel_rfl) Try.func3
    (ChangeSpec.witness6 (enc := enc) (C := Try.checked) false ⟨#[], #[.slice none 0 0], []⟩ 8 (by kernel_rfl) (by kernel_rfl) (by kernel_rfl) (by kernel_rfl)) ?_
  intro W base args ds gs before hval0 hW hcnd hsz _
  have hval : ∀ (j : Nat) t v, Try.f3.params[j]? = some t → args[j]? = some v → Value.okWide Try.prog W .any base t v := hval0
  have hW' := hW
  obtain ⟨p, q, hA0, hV, rfl, hfz, hnd⟩ := hW
  have hA : DataW.TrodAll enc Try.prog W 0 (fun _ => true) true Try.f3.params.toList args.toList ds p := hA0
  rw [Try.params3] at hA hval
  obtain ⟨v0, vs0, d0, ds0, p0, q0, hargs, rfl, rfl, h0, r0⟩ := trodAll_cons hA
  obtain ⟨rfl, rfl, rfl⟩ := trodAll_nil r0
  obtain rfl : args = #[v0] := by cases args; simp_all
  obtain ⟨rfl, rfl⟩ := trodVars_none hV
  obtain ⟨a1, len1, cap1, rfl⟩ := okWide_slice Try.underlying22 (hval 0 22 v0 rfl rfl)
  have k1 := h0
  have lt1 : ∀ x ∈ p0, x.block < W.heap.size := by obtain ⟨m, hm⟩ := k1; exact DataW.trod_lt m _ _ _ hm
  have htn : (Try.f3.params.toList ++ Rows.layoutParsesSpec.plain.varTypes Try.checked.prog) = [22] := by rw [Try.params3]; rfl
  simp only [List.append_nil] at hsz
  rw [htn] at hsz
  have hw : Calls Try.prog 3 #[.slice a1 len1 cap1] W fun r w' => Post W r w' := by
    obtain ⟨fuel, hf⟩ := h0
    rcases open_lists (x := (d0, p0)) (by simpa [Value.cells] using hf) (fun n hn => by
      have := List.all_eq_true.1 hsz n (DataW.weights_mem_each (j := 0) rfl rfl n hn)
      simpa using this) with rfl | ⟨b, o, V, X, rfl, hl, hA⟩
    · exact walk0 _ _ _
    · exact walk b o len1 cap1 V X W hl hA
  clear hA0 hval0 hsz
  refine hw.mono fun e W' ⟨he, bel⟩ => ?_
  subst he
  exact ⟨_, rfl, _, _, _, [], _, [], hW', (trodAll_cons_mk (shut_bool Try.underlying4 _) trodAll_mk0), (trodAll_cons_mk (Below.trod laidOut (by kernel_rfl) (of_decide_eq_true (by kernel_rfl)) k1 bel lt1) trodAll_mk0), rfl, bel.frame _, fun h => by cases h⟩

theorem over : Rows.layoutParsesRow.holds Try.pinned (OpenSpec.ofChange Rows.layoutParsesSpec) :=
  OpenClaim.holds_of_wide 3 Try.f3 rfl rfl rfl rfl rfl rfl rfl ⟨rfl, rfl, rfl, rfl, rfl⟩ rfl rfl rfl rfl rfl (by kernel_rfl) Try.func3 (by kernel_rfl)
    (of_decide_eq_true (by kernel_rfl)) (by unfold Func.isWrapper; first | (rw [if_pos (by decide +kernel)]; kernel_rfl) | (rw [if_neg (by decide +kernel)]; exact ⟨rfl, rfl⟩))
    (fun os started H enc _ => lifted os started H enc)
end layoutParses

theorem layoutParses_holds : Rows.LayoutParsesSaid :=
  layoutParses.over
end Go.Proofs.Yteepnkhfeokenaa
