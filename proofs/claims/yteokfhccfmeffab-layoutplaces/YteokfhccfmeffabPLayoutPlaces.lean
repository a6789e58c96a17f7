/-
  The statement on LayoutPlaces out of its walk.
-/
import Derived.Test.YteokfhccfmeffabRows
import Derived.WalkKit
import Derived.ProofKit
import Derived.OpenShut
import Derived.ShutString
import Derived.ChangeOld
import Derived.Below
import Derived.Carry
import Derived.Lib.SmallJoins
import Derived.Deep.Slices
import Derived.Test.YteokfhccfmeffabWLayoutPlaces
namespace Go.Proofs.Yteokfhccfmeffab
namespace layoutPlaces
open Go.ChangeShapes Go.WideShapes Go.ChangeAt Go.RowKit
set_option linter.unusedVariables false

theorem own : ownKnob Try.prog.godebug = none := by kernel_rfl
theorem laidOut : laidOutB Try.prog = true := by kernel_rfl

theorem addr_add0 (h o j : Nat) : (⟨h, o, none⟩ : Addr).add j = ⟨h, o + j, none⟩ := by unfold Addr.add; split <;> simp_all
theorem plain_of_cell {w : World} {a : Addr} {v : Value} (h : w.cell? (a.add 0) = some v) : ∃ bb oo, a = ⟨bb, oo, none⟩ ∧ bb < w.heap.size := by
  obtain ⟨bb, oo, sp⟩ := a
  have h' : w.cell? ⟨bb, oo, sp⟩ = some v := h
  have hlt : bb < w.heap.size := by
    rcases Nat.lt_or_ge bb w.heap.size with h1 | h1
    · exact h1
    · simp [World.cell?, Array.getElem?_eq_none h1] at h'
  cases sp with
  | none => exact ⟨bb, oo, rfl, hlt⟩
  | some s =>
    exfalso
    unfold World.cell? at h'
    split at h' <;> simp at h'

/-! ### Bulk -/
theorem list10 {α : Type} {cs : List α} (h : cs.length = 10) : ∃ c0 c1 c2 c3 c4 c5 c6 c7 c8 c9, cs = [c0, c1, c2, c3, c4, c5, c6, c7, c8, c9] := by
  match cs, h with
  | [c0, c1, c2, c3, c4, c5, c6, c7, c8, c9], _ => exact ⟨c0, c1, c2, c3, c4, c5, c6, c7, c8, c9, rfl⟩

section
variable {H : Type} {enc : TypeId × Value → H} {w : World} {base : Nat} {spare : Nat → Bool} {held : Bool}
theorem lay_fields {fuel : Nat} {v0 v1 v2 v3 v4 v5 v6 v7 v8 : Value} {x : DataW H × List MemPlace} (h : DataW.trod enc Try.prog w base spare held fuel 24 [v0, v1, v2, v3, v4, v5, v6, v7, v8] = some x) :
    ∃ l : Lay, v0 = .int .i64 l.k ∧ v1 = .int .i64 l.e ∧ v2 = .int .i64 l.a ∧ v3 = .int .i64 l.b ∧ v4 = .int .i64 l.c ∧ v5 = .int .i64 l.eo ∧ v6 = .int .i64 l.bo ∧ v7 = .int .i64 l.s ∧ v8 = .int .i64 l.g := by
  obtain ⟨xs, n, _, rfl, hl, hlen, hf⟩ := DataW.trod_struct Try.underlying24 h
  have hlen9 : xs.length = 9 := hlen
  have c3 : Try.prog.cellsOf 3 = 1 := by kernel_rfl
  match xs, hlen9 with
  | [y0, y1, y2, y3, y4, y5, y6, y7, y8], _ =>
    have f0 : DataW.trod enc Try.prog w base spare held n 3 (([v0, v1, v2, v3, v4, v5, v6, v7, v8].drop 0).take (Try.prog.cellsOf 3)) = some y0 := hf 0 _ rfl
    have f1 : DataW.trod enc Try.prog w base spare held n 3 (([v0, v1, v2, v3, v4, v5, v6, v7, v8].drop 1).take (Try.prog.cellsOf 3)) = some y1 := hf 1 _ rfl
    have f2 : DataW.trod enc Try.prog w base spare held n 3 (([v0, v1, v2, v3, v4, v5, v6, v7, v8].drop 2).take (Try.prog.cellsOf 3)) = some y2 := hf 2 _ rfl
    have f3 : DataW.trod enc Try.prog w base spare held n 3 (([v0, v1, v2, v3, v4, v5, v6, v7, v8].drop 3).take (Try.prog.cellsOf 3)) = some y3 := hf 3 _ rfl
    have f4 : DataW.trod enc Try.prog w base spare held n 3 (([v0, v1, v2, v3, v4, v5, v6, v7, v8].drop 4).take (Try.prog.cellsOf 3)) = some y4 := hf 4 _ rfl
    have f5 : DataW.trod enc Try.prog w base spare held n 3 (([v0, v1, v2, v3, v4, v5, v6, v7, v8].drop 5).take (Try.prog.cellsOf 3)) = some y5 := hf 5 _ rfl
    have f6 : DataW.trod enc Try.prog w base spare held n 3 (([v0, v1, v2, v3, v4, v5, v6, v7, v8].drop 6).take (Try.prog.cellsOf 3)) = some y6 := hf 6 _ rfl
    have f7 : DataW.trod enc Try.prog w base spare held n 3 (([v0, v1, v2, v3, v4, v5, v6, v7, v8].drop 7).take (Try.prog.cellsOf 3)) = some y7 := hf 7 _ rfl
    have f8 : DataW.trod enc Try.prog w base spare held n 3 (([v0, v1, v2, v3, v4, v5, v6, v7, v8].drop 8).take (Try.prog.cellsOf 3)) = some y8 := hf 8 _ rfl
    clear hf h
    rw [c3] at f0 f1 f2 f3 f4 f5 f6 f7 f8
    obtain ⟨k0, e0, q0, _⟩ := DataW.trod_int Try.underlying3 f0
    obtain ⟨k1, e1, q1, _⟩ := DataW.trod_int Try.underlying3 f1
    obtain ⟨k2, e2, q2, _⟩ := DataW.trod_int Try.underlying3 f2
    obtain ⟨k3, e3, q3, _⟩ := DataW.trod_int Try.underlying3 f3
    obtain ⟨k4, e4, q4, _⟩ := DataW.trod_int Try.underlying3 f4
    obtain ⟨k5, e5, q5, _⟩ := DataW.trod_int Try.underlying3 f5
    obtain ⟨k6, e6, q6, _⟩ := DataW.trod_int Try.underlying3 f6
    obtain ⟨k7, e7, q7, _⟩ := DataW.trod_int Try.underlying3 f7
    obtain ⟨k8, e8, q8, _⟩ := DataW.trod_int Try.underlying3 f8
    simp at e0 e1 e2 e3 e4 e5 e6 e7 e8
    exact ⟨⟨k0, k1, k2, k3, k4, k5, k6, k7, k8⟩, e0, e1, e2, e3, e4, e5, e6, e7, e8⟩
theorem ask_fields {fuel : Nat} {v0 v1 v2 v3 v4 v5 v6 v7 v8 v9 : Value} {x : DataW H × List MemPlace} (h : DataW.trod enc Try.prog w base spare held fuel 26 [v0, v1, v2, v3, v4, v5, v6, v7, v8, v9] = some x) :
    ∃ (l : Lay) (n : Int), v0 = .int .i64 l.k ∧ v1 = .int .i64 l.e ∧ v2 = .int .i64 l.a ∧ v3 = .int .i64 l.b ∧ v4 = .int .i64 l.c ∧ v5 = .int .i64 l.eo ∧ v6 = .int .i64 l.bo ∧ v7 = .int .i64 l.s ∧ v8 = .int .i64 l.g ∧ v9 = .int .i64 n := by
  obtain ⟨xs, n, _, rfl, hl, hlen, hf⟩ := DataW.trod_struct Try.underlying26 h
  have hlen2 : xs.length = 2 := hlen
  have c3 : Try.prog.cellsOf 3 = 1 := by kernel_rfl
  have c9 : Try.prog.cellsOf 24 = 9 := by kernel_rfl
  match xs, hlen2 with
  | [y0, y1], _ =>
    have f0 : DataW.trod enc Try.prog w base spare held n 24 (([v0, v1, v2, v3, v4, v5, v6, v7, v8, v9].drop 0).take (Try.prog.cellsOf 24)) = some y0 := hf 0 _ rfl
    have f1 : DataW.trod enc Try.prog w base spare held n 3 (([v0, v1, v2, v3, v4, v5, v6, v7, v8, v9].drop 9).take (Try.prog.cellsOf 3)) = some y1 := hf 1 _ rfl
    rw [c9] at f0
    rw [c3] at f1
    obtain ⟨l, hl⟩ := lay_fields f0
    obtain ⟨k, e, q, _⟩ := DataW.trod_int Try.underlying3 f1
    simp at e
    obtain ⟨h0, h1, h2, h3, h4, h5, h6, h7, h8⟩ := hl
    exact ⟨l, k, h0, h1, h2, h3, h4, h5, h6, h7, h8, e⟩

instance : Inhabited Lay := ⟨Lay.zero⟩
theorem open_asks {fuel : Nat} {so : Option Addr} {len cap : Nat} {x : DataW H × List MemPlace} (h : DataW.trod enc Try.prog w 0 (fun _ => true) held fuel 22 [.slice so len cap] = some x) :
    len = 0 ∨ ∃ (b o : Nat) (L : Nat → Lay) (N : Nat → Int), so = some ⟨b, o, none⟩ ∧ len ≤ 9223372036854775807 ∧ ∀ i, i < len → AskAt w b (o + i * 10) (L i) (N i) := by
  rcases Go.Deep.open_slice Try.underlying22 h with ⟨hcs, _⟩ | ⟨a, l, c, m, n, D, Pl, hcs, _, hl, hm, hmm, rfl, hx⟩
  · injection hcs with e1 _
    injection e1 with e1 e2 e3
    exact Or.inl e2
  · injection hcs with e1 _
    injection e1 with e1 e2 e3
    subst e1 e2 e3
    have hmc : m = cap := by simpa using hmm
    subst hmc
    by_cases hz : len = 0
    · exact Or.inl hz
    right
    have c10 : Try.prog.cellsOf 26 = 10 := by kernel_rfl
    rw [c10] at hx
    obtain ⟨f, hf⟩ := Go.Deep.choose_lt (α := Lay × Int) (n := len) (p := fun i q => ∀ j (hj : j < 10), w.cell? (a.add (i * 10 + j)) = [Value.int .i64 q.1.k, .int .i64 q.1.e, .int .i64 q.1.a, .int .i64 q.1.b, .int .i64 q.1.c, .int .i64 q.1.eo, .int .i64 q.1.bo, .int .i64 q.1.s, .int .i64 q.1.g, .int .i64 q.2][j]?) (fun i hi => by
      obtain ⟨cs', g1, g2⟩ := hx i (by omega)
      obtain ⟨_, hlen, hcell⟩ := World.cells?_some g1
      obtain ⟨v0, v1, v2, v3, v4, v5, v6, v7, v8, v9, rfl⟩ := list10 hlen
      obtain ⟨l, k, rfl, rfl, rfl, rfl, rfl, rfl, rfl, rfl, rfl, rfl⟩ := ask_fields g2
      refine ⟨(l, k), fun j hj => ?_⟩
      have := hcell j hj
      rw [Go.Deep.add_add] at this
      exact this)
    have z := hf 0 (by omega) 0 (by omega)
    obtain ⟨bb, oo, rfl, hbb⟩ := plain_of_cell (w := w) (a := a) (v := .int .i64 (f 0).1.k) (by simpa using z)
    refine ⟨bb, oo, fun i => (f i).1, fun i => (f i).2, rfl, Nat.le_trans (Nat.le_trans hl hm) (by decide), fun i hi => ?_⟩
    have hc : ∀ j (hj : j < 10), w.cell? ⟨bb, oo + i * 10 + j, none⟩ = [Value.int .i64 (f i).1.k, .int .i64 (f i).1.e, .int .i64 (f i).1.a, .int .i64 (f i).1.b, .int .i64 (f i).1.c, .int .i64 (f i).1.eo, .int .i64 (f i).1.bo, .int .i64 (f i).1.s, .int .i64 (f i).1.g, .int .i64 (f i).2][j]? := fun j hj => by
      have := hf i hi j hj
      rw [addr_add0, ← Nat.add_assoc] at this
      exact this
    exact ⟨hc 0 (by omega), hc 1 (by omega), hc 2 (by omega), hc 3 (by omega), hc 4 (by omega), hc 5 (by omega), hc 6 (by omega), hc 7 (by omega), hc 8 (by omega), hc 9 (by omega)⟩
end

set_option maxRecDepth 100000 in
theorem lifted (os : Os) (started : os.Started) (H : Type) (enc : TypeId × Value → H) :
    ReturnsInHanded {} Try.checked os 3 .any (Rows.layoutPlacesSpec.pre6 enc Try.prog Try.f3 Rows.layoutPlacesRow.domain false) (Rows.layoutPlacesSpec.post enc Try.prog Try.f3 false true false false) := by
  refine returnsInHanded_of_change (C := Try.checked) own started (by kernel_rfl) Try.func3
    (ChangeSpec.witness6 (enc := enc) (C := Try.checked) false ⟨#[], #[.slice none 0 0], []⟩ 8 (by kernel_rfl) (by kernel_rfl) (by kernel_rfl) (by kernel_rfl)) ?_
  intro W base args ds gs before hval0 hW hcnd _
  have hval : ∀ (j : Nat) t v, Try.f3.params[j]? = some t → args[j]? = some v → Value.okWide Try.prog W .any base t v := hval0
  have hW' := hW
  obtain ⟨p, q, hA0, hV, rfl, hfz, hnd⟩ := hW
  have hA : DataW.TrodAll enc Try.prog W 0 (fun _ => true) true Try.f3.params.toList args.toList ds p := hA0
  rw [Try.params3] at hA hval
  obtain ⟨v0, vs0, d0, ds0, p0, q0, hargs, rfl, rfl, h0, r0⟩ := trodAll_cons hA
  obtain ⟨rfl, rfl, rfl⟩ := trodAll_nil r0
  obtain rfl : args = #[v0] := by cases args; simp_all
  obtain ⟨rfl, rfl⟩ := trodVars_none hV
  have k0 := h0
  have lt0 : ∀ x ∈ p0, x.block < W.heap.size := by obtain ⟨m, hm⟩ := k0; exact DataW.trod_lt m _ _ _ hm
  obtain ⟨a0, len0, cap0, rfl⟩ := okWide_slice Try.underlying22 (hval 0 22 v0 rfl rfl)
  clear hA0 hval0
  have hw : Calls Try.prog 3 #[.slice a0 len0 cap0] W fun r w' => Post W r w' := by
    obtain ⟨fuel, hf⟩ := h0
    rcases open_asks (by simpa [Value.cells] using hf) with rfl | ⟨b, o, L, N, rfl, hl, hA⟩
    · exact walk0 _ _ _
    · exact walk b o len0 cap0 L N W hl hA
  refine hw.mono fun e W' ⟨he, bel⟩ => ?_
  subst he
  exact ⟨_, rfl, _, _, _, [], _, [], hW', (trodAll_cons_mk (shut_bool Try.underlying4 _) trodAll_mk0), (trodAll_cons_mk (Below.trod laidOut (by kernel_rfl) (of_decide_eq_true (by kernel_rfl)) k0 bel lt0) trodAll_mk0), rfl, bel.frame _, fun h => by cases h⟩

theorem over : Rows.layoutPlacesRow.holds Try.pinned (OpenSpec.ofChange Rows.layoutPlacesSpec) :=
  OpenClaim.holds_of_wide 3 Try.f3 rfl rfl rfl rfl rfl rfl rfl ⟨rfl, rfl, rfl, rfl, rfl⟩ rfl rfl rfl rfl rfl (by kernel_rfl) Try.func3 (by kernel_rfl)
    (of_decide_eq_true (by kernel_rfl)) (by unfold Func.isWrapper; first | (rw [if_pos (by decide +kernel)]; kernel_rfl) | (rw [if_neg (by decide +kernel)]; exact ⟨rfl, rfl⟩))
    (fun os started H enc _ => lifted os started H enc)

end layoutPlaces

theorem layoutPlaces_holds : Rows.LayoutPlacesSaid :=
  layoutPlaces.over
end Go.Proofs.Yteokfhccfmeffab
