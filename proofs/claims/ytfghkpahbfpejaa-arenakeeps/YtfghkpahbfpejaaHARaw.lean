/-
  What came in for the statements of stage 2: a row of steps.
-/
import Derived.Test.YtfghkpahbfpejaaRows
import Derived.Test.YtfghkpahbfpejaaKe11
import Derived.SizedLaws
import Derived.Deep.SlicePairs
import Derived.WalkKit
import Derived.ProofKit
import Derived.OpenShut
import Derived.ShutString
import Derived.ChangeOld
import Derived.Below
import Derived.Carry
import Derived.Lib.SmallJoins
import Derived.Deep.Slices
namespace Go.Proofs.Ytfghkpahbfpejaa
open Go.ChangeShapes Go.WideShapes Go.ChangeAt Go.WideMaps Go.WideElems Go.RowKit
set_option linter.unusedVariables false

theorem add_lit (b o i : Nat) : (⟨b, o, none⟩ : Addr).add i = ⟨b, o + i, none⟩ := by simp [Addr.add]
theorem plain_of_cell {w : World} {a : Addr} {v : Value} (h : w.cell? (a.add 0) = some v) : ∃ bb oo, a = ⟨bb, oo, none⟩ ∧ bb < w.heap.size := by
  obtain ⟨bb, oo, sp⟩ := a
  have h' : w.cell? ⟨bb, oo, sp⟩ = some v := h
  have hlt : bb < w.heap.size := by
    rcases Nat.lt_or_ge bb w.heap.size with h1 | h1
    · exact h1
    · simp [World.cell?, Array.getElem?_eq_none h1] at h'
  cases sp with
  | none => exact ⟨bb, oo, rfl, hlt⟩
  | some s =>
    exfalso
    unfold World.cell? at h'
    split at h' <;> simp at h'
/-- A row of the law's steps. -/
def StepsIn (w : World) (a : Option Addr) (ss : List (Int × Int)) : Prop := ss = [] ∨ ∃ b o, a = some ⟨b, o, none⟩ ∧ b < w.heap.size ∧ ∀ i (h : i < ss.length), w.cell? ⟨b, o + i * 2, none⟩ = some (.int .i64 ss[i].1) ∧ w.cell? ⟨b, o + i * 2 + 1, none⟩ = some (.int .i64 ss[i].2)

set_option maxRecDepth 100000 in
theorem open_steps {H : Type} {enc : TypeId × Value → H} {w : World} {held : Bool} {n : Nat} {cs : List Value} {y : DataW H × List MemPlace} (hf : DataW.trod enc Try.prog w 0 (fun _ => true) held n 22 cs = some y) (hw : ∀ n ∈ y.1.weights Try.prog 22, n ≤ reachBytes) :
    ∃ (a : Option Addr) (cap : Nat) (ss : List (Int × Int)), cs = [.slice a ss.length cap] ∧ StepsIn w a ss ∧ ss.length ≤ 8796093022208 ∧ ∀ x ∈ ss, fitsI x.1 ∧ fitsI x.2 := by
  rcases Go.Deep.open_slice Try.underlying22 hf with ⟨hcs, hx⟩ | ⟨ad, len, cap, m, n', D, Pl, hcs, _, hl, hm, hmm, hx, hc⟩
  · exact ⟨none, 0, [], hcs, Or.inl rfl, by simp, fun x hx => by cases hx⟩
  · subst hx
    have ce : Try.prog.cellsOf 30 = 2 := by kernel_rfl
    have hmc : m = cap := by simpa using hmm
    have h47 : reachBytes = 140737488351232 := by decide
    have hby : Try.prog.bytesOf 30 = 16 := by kernel_rfl
    have hlw : len * 16 ≤ reachBytes := by
      have := hw (((List.map D (List.range len)).length + (List.map D ((List.range m).drop len)).length) * Try.prog.bytesOf 30) (by simp [DataW.weights, Try.underlying22])
      rw [hby, List.length_map, List.length_range] at this
      exact Nat.le_trans (Nat.mul_le_mul_right 16 (Nat.le_add_right len _)) this
    obtain ⟨f, hf⟩ := Go.Deep.choose_lt (α := Int × Int) (n := len) (p := fun i q => w.cell? (ad.add (i * 2)) = some (.int .i64 q.1) ∧ w.cell? (ad.add (i * 2 + 1)) = some (.int .i64 q.2) ∧ fitsI q.1 ∧ fitsI q.2) (fun i hi => by
      obtain ⟨cs', h1, h2⟩ := hc i (by omega)
      rw [ce] at h1
      obtain ⟨_, hlen, hcell⟩ := World.cells?_some h1
      obtain ⟨xs, k, hk, hxy, _, hxl, hf⟩ := DataW.trod_struct Try.underlying30 h2
      match xs, hxl, cs', hlen with
      | [y0, y1], _, [v0, v1], _ =>
        have g0 := hf 0 _ rfl
        have g1 := hf 1 _ rfl
        have z3 : Try.prog.cellsOf 3 = 1 := by kernel_rfl
        simp [z3] at g0 g1
        have e0 := hcell 0 (by omega)
        have e1 := hcell 1 (by omega)
        rw [Go.Deep.add_add] at e0 e1
        obtain ⟨X0, u0, _, q0⟩ := DataW.trod_int Try.underlying3 g0
        obtain ⟨X1, u1, _, q1⟩ := DataW.trod_int Try.underlying3 g1
        simp only [List.cons.injEq, and_true] at u0 u1
        subst u0 u1
        exact ⟨(X0, X1), by simpa using e0, by simpa using e1, q0, q1⟩)
    have hlen : ((List.range len).map f).length = len := by simp
    refine ⟨some ad, cap, (List.range len).map f, by rw [hlen]; exact hcs, ?_, by rw [hlen]; omega, fun x hx => ?_⟩
    · by_cases hz : len = 0
      · left
        subst hz
        rfl
      · right
        obtain ⟨b, o, rfl, hb⟩ := plain_of_cell (a := ad) (v := .int .i64 (f 0).1) (by have := (hf 0 (by omega)).1; simpa using this)
        refine ⟨b, o, rfl, hb, fun j hj => ?_⟩
        have hj' : j < len := by rw [hlen] at hj; exact hj
        have e : ((List.range len).map f)[j] = f j := by simp
        rw [e]
        obtain ⟨c0, c1, ok⟩ := hf j hj'
        rw [add_lit] at c0 c1
        exact ⟨c0, by rw [Nat.add_assoc]; exact c1⟩
    · obtain ⟨i, hi, rfl⟩ := List.mem_map.1 hx
      exact (hf i (List.mem_range.1 hi)).2.2
end Go.Proofs.Ytfghkpahbfpejaa
