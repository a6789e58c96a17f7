/-
  A list of bytes that came in, opened.
-/
import Derived.Test.YtiaalojfoldnfaaDoorODoor
import Derived.Test.YtiaalojfoldnfaaDoorIS1
import Derived.Deep.Slices
import Derived.Deep.SlicePairs
import Derived.Lib.SmallJoins
import Derived.ChangeOld
namespace Go.Proofs.YtiaalojfoldnfaaDoor
open Go.ChangeShapes Go.WideShapes Go.ChangeAt Go.RowKit
set_option linter.unusedVariables false

theorem plain_of_cell {w : World} {a : Addr} {v : Value} (h : w.cell? (a.add 0) = some v) : ∃ bb oo, a = ⟨bb, oo, none⟩ ∧ bb < w.heap.size := by
  obtain ⟨bb, oo, sp⟩ := a
  have h' : w.cell? ⟨bb, oo, sp⟩ = some v := h
  have hlt : bb < w.heap.size := by
    rcases Nat.lt_or_ge bb w.heap.size with h1 | h1
    · exact h1
    · simp [World.cell?, Array.getElem?_eq_none h1] at h'
  cases sp with
  | none => exact ⟨bb, oo, rfl, hlt⟩
  | some s =>
    exfalso
    unfold World.cell? at h'
    split at h' <;> simp at h'

set_option maxRecDepth 100000 in
theorem open_bytes {H : Type} {enc : TypeId × Value → H} {w : World} {held : Bool} {base : Nat} {v : Value} {d : DataW H} {ps : List MemPlace} (h : DataW.Trod enc Tryd.prog w 0 (fun _ => true) held 22 v d ps) (hv : Value.okWide Tryd.prog w .any base 22 v) :
    ∃ xs : List UInt8, InB w v xs ∧ ((∀ n ∈ d.weights Tryd.prog 22, n ≤ reachBytes) → xs.length ≤ 140737488351232) := by
  obtain ⟨a0, l0, c0, rfl⟩ := okWide_slice Tryd.underlying22 hv
  obtain ⟨fuel, hf⟩ := h
  rcases Go.Deep.open_slice1 Tryd.underlying22 (by kernel_rfl) hf with ⟨hcs, _⟩ | ⟨a, len, cap, m, n', V, D, Pl, hcs, _, hl, hm, hmm, hy, hx⟩
  · have hcs' : Value.slice a0 l0 c0 = .slice none 0 0 := by simpa [Value.cells] using hcs
    rw [hcs']
    exact ⟨[], Or.inl ⟨rfl, rfl⟩, fun _ => Nat.zero_le _⟩
  · have hcs' : Value.slice a0 l0 c0 = .slice (some a) len cap := by simpa [Value.cells] using hcs
    rw [hcs']
    have hmc : m = cap := by simpa using hmm
    subst hmc
    simp only [Prod.mk.injEq] at hy
    obtain ⟨rfl, _⟩ := hy
    obtain ⟨f, hf⟩ := Go.Deep.choose_lt (α := UInt8) (n := len) (p := fun i x => w.cell? (a.add i) = some (.int .u8 (x.toNat : Int))) (fun i hi => by
      obtain ⟨g1, g2⟩ := hx i (by omega)
      obtain ⟨x, e, _, hw⟩ := DataW.trod_int Tryd.underlying5 g2
      obtain ⟨y, rfl⟩ := u8_nat hw
      simp at e
      exact ⟨y, by rw [g1, e]⟩)
    refine ⟨(List.range len).map f, Or.inr ⟨a, m, by rw [List.length_map, List.length_range], fun j hj => ?_, fun h0 => ?_⟩, ?_⟩
    · have hj' : j < len := by simpa using hj
      rw [hf j hj']
      simp
    · rw [List.length_map, List.length_range] at h0
      exact plain_of_cell (w := w) (a := a) (hf 0 h0)
    · intro hw
      have h47 : reachBytes = 140737488351232 := by decide
      have hby : Tryd.prog.bytesOf 5 = 1 := by kernel_rfl
      have := hw (((List.map D (List.range len)).length + (List.map D ((List.range m).drop len)).length) * Tryd.prog.bytesOf 5) (by simp [DataW.weights, Tryd.underlying22])
      rw [hby, List.length_map, List.length_range] at this
      have h2 := Nat.le_trans (Nat.mul_le_mul_right 1 (Nat.le_add_right len _)) this
      rw [List.length_map, List.length_range]
      omega
end Go.Proofs.YtiaalojfoldnfaaDoor
