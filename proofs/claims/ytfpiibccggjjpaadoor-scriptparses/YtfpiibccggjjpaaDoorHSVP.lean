/-
  script: a list of numbers that came in, whatever its length.
-/
import Derived.Test.YtfpiibccggjjpaaDoorUn13
import Derived.Lib.SmallJoins
import Derived.ChangeOld
namespace Go.Proofs.YtfpiibccggjjpaaDoor
open Go.ChangeShapes Go.WideShapes Go.ChangeAt Go.WideMaps Go.WideElems Go.RowKit
set_option linter.unusedVariables false
set_option maxRecDepth 100000 in
theorem open_ints {H : Type} {enc : TypeId × Value → H} {w : World} {held : Bool} {base : Nat} {v : Value} {d : DataW H} {ps : List MemPlace} (h : DataW.Trod enc Tryd.prog w 0 (fun _ => true) held 30 v d ps) (hv : Value.okWide Tryd.prog w .any base 30 v) :
    ∃ xs : List Int, IntsIn w v xs ∧ ((∀ n ∈ d.weights Tryd.prog 30, n ≤ reachBytes) → xs.length ≤ 17592186044000) := by
  obtain ⟨a0, l0, c0, rfl⟩ := okWide_slice Tryd.underlying30 hv
  obtain ⟨fuel, hf⟩ := h
  rcases Go.Deep.open_slice1 Tryd.underlying30 (by kernel_rfl) hf with ⟨hcs, _⟩ | ⟨a, len, cap, m, n', V, D, Pl, hcs, _, hl, hm, hmm, hy, hx⟩
  · have hcs' : Value.slice a0 l0 c0 = .slice none 0 0 := by simpa [Value.cells] using hcs
    rw [hcs']
    exact ⟨[], ⟨Or.inl ⟨rfl, rfl⟩, fun j hj => by cases hj⟩, fun _ => Nat.zero_le _⟩
  · have hcs' : Value.slice a0 l0 c0 = .slice (some a) len cap := by simpa [Value.cells] using hcs
    rw [hcs']
    have hmc : m = cap := by simpa using hmm
    subst hmc
    simp only [Prod.mk.injEq] at hy
    obtain ⟨rfl, _⟩ := hy
    obtain ⟨f, hf⟩ := Go.Deep.choose_lt (α := Int) (n := len) (p := fun i x => w.cell? (a.add i) = some (.int .i64 x) ∧ -9223372036854775808 ≤ x ∧ x ≤ 9223372036854775807) (fun i hi => by
      obtain ⟨g1, g2⟩ := hx i (by omega)
      obtain ⟨x, e, _, hw⟩ := DataW.trod_int Tryd.underlying3 g2
      simp at e
      exact ⟨x, by rw [g1, e], fits64 hw⟩)
    refine ⟨(List.range len).map f, ⟨Or.inr ⟨a, m, by rw [List.length_map, List.length_range], fun j hj => ?_⟩, fun x hx => ?_⟩, fun hwt => ?_⟩
    · have hj' : j < len := by simpa using hj
      rw [(hf j hj').1]
      simp
    · obtain ⟨j, hj, rfl⟩ := List.mem_map.1 hx
      exact (hf j (by simpa using hj)).2
    · have h47 : reachBytes = 140737488351232 := by decide
      have hby : Tryd.prog.bytesOf 3 = 8 := by kernel_rfl
      have := hwt (((List.map D (List.range len)).length + (List.map D ((List.range m).drop len)).length) * Tryd.prog.bytesOf 3) (by simp [DataW.weights, Tryd.underlying30])
      rw [hby, List.length_map, List.length_range] at this
      have h2 := Nat.le_trans (Nat.mul_le_mul_right 8 (Nat.le_add_right len _)) this
      rw [List.length_map, List.length_range]
      omega
end Go.Proofs.YtfpiibccggjjpaaDoor
