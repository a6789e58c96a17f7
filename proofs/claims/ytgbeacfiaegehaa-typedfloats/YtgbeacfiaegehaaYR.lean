/-
  typed: a list of Asks that came in.
-/
import Derived.Test.YtgbeacfiaegehaaRows
import Derived.WalkKit
import Derived.ProofKit
import Derived.OpenShut
import Derived.ChangeOld
import Derived.ChangeArms
import Derived.Carry
import Derived.Lib.SmallJoins
import Derived.Deep.Slices
import Derived.Test.YtgbeacfiaegehaaY3
namespace Go.Proofs.Ytgbeacfiaegehaa
open Go.ChangeShapes Go.WideShapes Go.ChangeAt Go.RowKit
set_option linter.unusedVariables false
theorem own : ownKnob Try.prog.godebug = none := by kernel_rfl
theorem laidOut : laidOutB Try.prog = true := by kernel_rfl
theorem plain_of_cell {w : World} {a : Addr} {v : Value} (h : w.cell? (a.add 0) = some v) : ∃ bb oo, a = ⟨bb, oo, none⟩ ∧ bb < w.heap.size := by
  obtain ⟨bb, oo, sp⟩ := a
  have h' : w.cell? ⟨bb, oo, sp⟩ = some v := h
  have hlt : bb < w.heap.size := by
    rcases Nat.lt_or_ge bb w.heap.size with h1 | h1
    · exact h1
    · simp [World.cell?, Array.getElem?_eq_none h1] at h'
  cases sp with
  | none => exact ⟨bb, oo, rfl, hlt⟩
  | some s =>
    exfalso
    unfold World.cell? at h'
    split at h' <;> simp at h'
theorem i64_of {v : Int} (h : (Lit.int .i64 v).wf = true) : I64 v := by
  have e1 : IntKind.i64.min = -9223372036854775808 := rfl
  have e2 : IntKind.i64.max = 9223372036854775807 := rfl
  simp only [Lit.wf, decide_eq_true_eq, Bool.and_eq_true] at h
  rw [e1, e2] at h
  unfold I64
  omega
theorem u64_of {a : Int} (h : (Lit.int .u64 a).wf = true) : ∃ A : Nat, a = (A : Int) ∧ A < 18446744073709551616 := by
  have h2 : 0 ≤ a ∧ a < 18446744073709551616 := by
    have e1 : IntKind.u64.min = 0 := rfl
    have e2 : IntKind.u64.max = 18446744073709551615 := rfl
    simp only [Lit.wf, decide_eq_true_eq, Bool.and_eq_true] at h
    rw [e1, e2] at h
    omega
  exact ⟨a.toNat, by omega, by omega⟩
theorem f64_of {b : Nat} (h : (Lit.float .f64 b).wf = true) : b < 18446744073709551616 := by
  simpa [Lit.wf] using h
theorem list7 {α : Type} {cs : List α} (h : cs.length = 7) : ∃ c0 c1 c2 c3 c4 c5 c6, cs = [c0, c1, c2, c3, c4, c5, c6] := by
  match cs, h with
  | [c0, c1, c2, c3, c4, c5, c6], _ => exact ⟨c0, c1, c2, c3, c4, c5, c6, rfl⟩
theorem array10 {α : Type} {cs : Array α} (h : cs.size = 10) : ∃ c0 c1 c2 c3 c4 c5 c6 c7 c8 c9, cs = #[c0, c1, c2, c3, c4, c5, c6, c7, c8, c9] := by
  obtain ⟨l⟩ := cs
  match l, h with
  | [c0, c1, c2, c3, c4, c5, c6, c7, c8, c9], _ => exact ⟨c0, c1, c2, c3, c4, c5, c6, c7, c8, c9, rfl⟩
theorem trod_float {H : Type} {enc : TypeId × Value → H} {P : Program} {w : World} {base : Nat} {spare : Nat → Bool} {held : Bool} {fuel : Nat} {t : TypeId} {cs : List Value} {x : DataW H × List MemPlace} {k : FloatKind} (ht : P.underlying t = some (.float k)) (h : DataW.trod enc P w base spare held fuel t cs = some x) : ∃ n, cs = [.float k n] ∧ x = (.lit (.float k n), []) ∧ (Lit.float k n).wf = true := by
  cases fuel with
  | zero => simp [DataW.trod] at h
  | succ n =>
    unfold DataW.trod at h
    rw [ht] at h
    split at h <;> simp_all
/-- An Ask in the memory, from a place on. -/
def AskO (w : World) (b o : Nat) (a : AskD) : Prop := w.cell? ⟨b, o, none⟩ = some (.int .i64 a.i) ∧ w.cell? ⟨b, o + 1, none⟩ = some (.int .u64 (a.u : Int)) ∧ w.cell? ⟨b, o + 2, none⟩ = some (.float .f64 a.f) ∧ w.cell? ⟨b, o + 3, none⟩ = some (.bool a.b) ∧ w.cell? ⟨b, o + 4, none⟩ = some (.int .i64 a.m) ∧ w.cell? ⟨b, o + 5, none⟩ = some (.string a.s) ∧ w.cell? ⟨b, o + 6, none⟩ = some (.string a.r)
theorem AskO.keep {w w1 : World} {b o : Nat} {a : AskD} (h : AskO w b o a) (k : Keeps w w1 (fun _ => False)) : AskO w1 b o a :=
  ⟨kcell k h.1, kcell k h.2.1, kcell k h.2.2.1, kcell k h.2.2.2.1, kcell k h.2.2.2.2.1, kcell k h.2.2.2.2.2.1, kcell k h.2.2.2.2.2.2⟩
section
variable {H : Type} {enc : TypeId × Value → H} {w : World} {base : Nat} {spare : Nat → Bool} {held : Bool}
theorem ask_fields {fuel : Nat} {v0 v1 v2 v3 v4 v5 v6 : Value} {x : DataW H × List MemPlace} (h : DataW.trod enc Try.prog w base spare held fuel 43 [v0, v1, v2, v3, v4, v5, v6] = some x) :
    ∃ a : AskD, a.Ok ∧ v0 = .int .i64 a.i ∧ v1 = .int .u64 (a.u : Int) ∧ v2 = .float .f64 a.f ∧ v3 = .bool a.b ∧ v4 = .int .i64 a.m ∧ v5 = .string a.s ∧ v6 = .string a.r := by
  obtain ⟨xs, n, _, rfl, hl, hlen, hf⟩ := DataW.trod_struct Try.underlying43 h
  have hlen7 : xs.length = 7 := hlen
  have c2 : Try.prog.cellsOf 2 = 1 := by kernel_rfl
  have c22 : Try.prog.cellsOf 22 = 1 := by kernel_rfl
  have c23 : Try.prog.cellsOf 23 = 1 := by kernel_rfl
  have c3 : Try.prog.cellsOf 3 = 1 := by kernel_rfl
  have c4 : Try.prog.cellsOf 4 = 1 := by kernel_rfl
  have c9 : Try.prog.cellsOf 9 = 1 := by kernel_rfl
  match xs, hlen7 with
  | [y0, y1, y2, y3, y4, y5, y6], _ =>
    have f0 : DataW.trod enc Try.prog w base spare held n 2 (([v0, v1, v2, v3, v4, v5, v6].drop 0).take (Try.prog.cellsOf 2)) = some y0 := hf 0 _ rfl
    have f1 : DataW.trod enc Try.prog w base spare held n 22 (([v0, v1, v2, v3, v4, v5, v6].drop 1).take (Try.prog.cellsOf 22)) = some y1 := hf 1 _ rfl
    have f2 : DataW.trod enc Try.prog w base spare held n 23 (([v0, v1, v2, v3, v4, v5, v6].drop 2).take (Try.prog.cellsOf 23)) = some y2 := hf 2 _ rfl
    have f3 : DataW.trod enc Try.prog w base spare held n 4 (([v0, v1, v2, v3, v4, v5, v6].drop 3).take (Try.prog.cellsOf 4)) = some y3 := hf 3 _ rfl
    have f4 : DataW.trod enc Try.prog w base spare held n 3 (([v0, v1, v2, v3, v4, v5, v6].drop 4).take (Try.prog.cellsOf 3)) = some y4 := hf 4 _ rfl
    have f5 : DataW.trod enc Try.prog w base spare held n 9 (([v0, v1, v2, v3, v4, v5, v6].drop 5).take (Try.prog.cellsOf 9)) = some y5 := hf 5 _ rfl
    have f6 : DataW.trod enc Try.prog w base spare held n 9 (([v0, v1, v2, v3, v4, v5, v6].drop 6).take (Try.prog.cellsOf 9)) = some y6 := hf 6 _ rfl
    clear hf h
    rw [c2] at f0
    rw [c22] at f1
    rw [c23] at f2
    rw [c4] at f3
    rw [c3] at f4
    rw [c9] at f5 f6
    obtain ⟨k0, e0, q0, w0⟩ := DataW.trod_int Try.underlying2 f0
    obtain ⟨k1, e1, q1, w1⟩ := DataW.trod_int Try.underlying22 f1
    obtain ⟨k2, e2, q2, w2⟩ := trod_float Try.underlying23 f2
    obtain ⟨k3, e3, q3⟩ := DataW.trod_bool Try.underlying4 f3
    obtain ⟨k4, e4, q4, w4⟩ := DataW.trod_int Try.underlying3 f4
    obtain ⟨k5, e5, q5, w5⟩ := DataW.trod_string Try.underlying9 f5
    obtain ⟨k6, e6, q6, w6⟩ := DataW.trod_string Try.underlying9 f6
    simp at e0 e1 e2 e3 e4 e5 e6
    obtain ⟨u, rfl, hu⟩ := u64_of w1
    exact ⟨⟨k0, u, k2, k3, k4, k5, k6⟩, ⟨i64_of w0, hu, f64_of w2, i64_of w4, w5, w6⟩, e0, e1, e2, e3, e4, e5, e6⟩
instance : Inhabited AskD := ⟨⟨0, 0, 0, false, 0, ⟨#[]⟩, ⟨#[]⟩⟩⟩
theorem open_asks {fuel : Nat} {so : Option Addr} {len cap : Nat} {x : DataW H × List MemPlace} (h : DataW.trod enc Try.prog w 0 (fun _ => true) held fuel 40 [.slice so len cap] = some x) :
    len = 0 ∨ ∃ (b o : Nat) (A : Nat → AskD), so = some ⟨b, o, none⟩ ∧ len ≤ 9223372036854775807 ∧ ∀ i, i < len → (A i).Ok ∧ AskO w b (o + i * 7) (A i) := by
  rcases Go.Deep.open_slice Try.underlying40 h with ⟨hcs, _⟩ | ⟨a, l, c, m, n, D, Pl, hcs, _, hl, hm, hmm, rfl, hx⟩
  · injection hcs with e1 _
    injection e1 with e1 e2 e3
    exact Or.inl e2
  · injection hcs with e1 _
    injection e1 with e1 e2 e3
    subst e1 e2 e3
    have hmc : m = cap := by simpa using hmm
    subst hmc
    by_cases hz : len = 0
    · exact Or.inl hz
    right
    have c7 : Try.prog.cellsOf 43 = 7 := by kernel_rfl
    rw [c7] at hx
    obtain ⟨f, hf⟩ := Go.Deep.choose_lt (α := AskD) (n := len) (p := fun i q => q.Ok ∧ ∀ j (hj : j < 7), w.cell? (a.add (i * 7 + j)) = q.cells.toList[j]?) (fun i hi => by
      obtain ⟨cs', g1, g2⟩ := hx i (by omega)
      obtain ⟨_, hlen, hcell⟩ := World.cells?_some g1
      obtain ⟨v0, v1, v2, v3, v4, v5, v6, rfl⟩ := list7 hlen
      obtain ⟨q, hok, rfl, rfl, rfl, rfl, rfl, rfl, rfl⟩ := ask_fields g2
      refine ⟨q, hok, fun j hj => ?_⟩
      have := hcell j hj
      rw [Go.Deep.add_add] at this
      exact this)
    have z := (hf 0 (by omega)).2 0 (by omega)
    obtain ⟨bb, oo, rfl, hbb⟩ := plain_of_cell (w := w) (a := a) (v := .int .i64 (f 0).i) (by simpa [AskD.cells] using z)
    refine ⟨bb, oo, f, rfl, Nat.le_trans (Nat.le_trans hl hm) (by decide), fun i hi => ⟨(hf i hi).1, ?_⟩⟩
    have hc : ∀ j (hj : j < 7), w.cell? ⟨bb, oo + i * 7 + j, none⟩ = (f i).cells.toList[j]? := fun j hj => by
      have := (hf i hi).2 j hj
      rw [addr_add, ← Nat.add_assoc] at this
      exact this
    exact ⟨hc 0 (by omega), hc 1 (by omega), hc 2 (by omega), hc 3 (by omega), hc 4 (by omega), hc 5 (by omega), hc 6 (by omega)⟩
end
end Go.Proofs.Ytgbeacfiaegehaa
