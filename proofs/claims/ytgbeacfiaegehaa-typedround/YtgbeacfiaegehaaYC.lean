/-
  typed: TypedOrder's own texts and twos.
-/
import Derived.Test.YtgbeacfiaegehaaYB
import Derived.Test.YtgbeacfiaegehaaY6
namespace Go.Proofs.Ytgbeacfiaegehaa
open Go.RowKit
open Fl
set_option linter.unusedVariables false
/-- A Pair. -/
structure PairD where
  i : Int
  j : Int
  u : Nat
  v : Nat
  f : Nat
  g : Nat
  b : Bool
  c : Bool
  s : ByteArray
  t : ByteArray
def PairD.cells (p : PairD) : Array Value := #[.int .i64 p.i, .int .i64 p.j, .int .u64 (p.u : Int), .int .u64 (p.v : Int), .float .f64 p.f, .float .f64 p.g, .bool p.b, .bool p.c, .string p.s, .string p.t]
def PairD.Ok (p : PairD) : Prop := I64 p.i ∧ I64 p.j ∧ p.u < 18446744073709551616 ∧ p.v < 18446744073709551616 ∧ p.f < 18446744073709551616 ∧ p.g < 18446744073709551616 ∧ p.s.size ≤ 9223372036854775807 ∧ p.t.size ≤ 9223372036854775807
def PairAt (w : World) (q : Nat) (p : PairD) : Prop := w.cell? ⟨q, 0, none⟩ = some (.int .i64 p.i) ∧ w.cell? ⟨q, 1, none⟩ = some (.int .i64 p.j) ∧ w.cell? ⟨q, 2, none⟩ = some (.int .u64 (p.u : Int)) ∧ w.cell? ⟨q, 3, none⟩ = some (.int .u64 (p.v : Int)) ∧ w.cell? ⟨q, 4, none⟩ = some (.float .f64 p.f) ∧ w.cell? ⟨q, 5, none⟩ = some (.float .f64 p.g) ∧ w.cell? ⟨q, 6, none⟩ = some (.bool p.b) ∧ w.cell? ⟨q, 7, none⟩ = some (.bool p.c) ∧ w.cell? ⟨q, 8, none⟩ = some (.string p.s) ∧ w.cell? ⟨q, 9, none⟩ = some (.string p.t)
theorem PairAt.keep {w w1 : World} {q : Nat} {p : PairD} (h : PairAt w q p) (k : Keeps w w1 (fun _ => False)) : PairAt w1 q p := by
  obtain ⟨h0, h1, h2, h3, h4, h5, h6, h7, h8, h9⟩ := h
  exact ⟨kcell k h0, kcell k h1, kcell k h2, kcell k h3, kcell k h4, kcell k h5, kcell k h6, kcell k h7, kcell k h8, kcell k h9⟩
theorem pairAt_new (w : World) (p : PairD) : PairAt (w.alloc (.cells p.cells 25)) w.heap.size p := by
  have h := heap_alloc_new w (.cells p.cells 25)
  refine ⟨?_, ?_, ?_, ?_, ?_, ?_, ?_, ?_, ?_, ?_⟩ <;> (simp only [World.cell?, h]; rfl)
theorem strOf_toList (l : List UInt8) : (strOf l).toList = l := by rw [ByteArray.toList_eq, strOf_data]
set_option maxRecDepth 100000 in
set_option maxHeartbeats 4000000 in
theorem texts_any (p : PairD) (hp : p.Ok) (w : World) : Calls Try.prog 14 #[.agg p.cells] w fun e w' => e = .returned (.bool true) ∧ Keeps w w' (fun _ => False) := by
  have S0 := pairAt_new w p
  have hA : p.cells = #[.int .i64 p.i, .int .i64 p.j, .int .u64 (p.u : Int), .int .u64 (p.v : Int), .float .f64 p.f, .float .f64 p.g, .bool p.b, .bool p.c, .string p.s, .string p.t] := rfl
  rw [hA] at S0 ⊢
  clear hA
  have Z0 := S0.keep ((Keeps.refl _ (fun _ => False)).alloc (.cells #[.int .i64 20] 50))
  have d0 := next_cell w (.cells #[.int .i64 p.i, .int .i64 p.j, .int .u64 (p.u : Int), .int .u64 (p.v : Int), .float .f64 p.f, .float .f64 p.g, .bool p.b, .bool p.c, .string p.s, .string p.t] 25) #[.int .i64 20] 50 0 _ rfl
  have K0 : Keeps w ((w.alloc (.cells #[.int .i64 p.i, .int .i64 p.j, .int .u64 (p.u : Int), .int .u64 (p.v : Int), .float .f64 p.f, .float .f64 p.g, .bool p.b, .bool p.c, .string p.s, .string p.t] 25)).alloc (.cells #[.int .i64 20] 50)) (fun _ => False) := ((Keeps.refl _ _).alloc _).alloc _
  clear S0
  have pk : ∀ v : ByteArray, ∃ (X : ByteArray) (y : Bool), (∀ W, Calls Try.prog 22 #[.agg #[.int .i64 20], .string v] W fun e w' => e = .returned (.tuple #[.string X, .bool y]) ∧ Keeps W w' (fun _ => False)) ∧ ((y = true ∧ (v.size : Int) ≤ 20 ∧ X = strOf (txB 20 v.data.toList)) ∨ (y = false ∧ ¬ (v.size : Int) ≤ 20)) := fun v => by
    by_cases h : v.size ≤ 20
    · exact ⟨_, true, fun W => tyt_Pack_yes 20 v (by omega) h W, Or.inl ⟨rfl, by omega, rfl⟩⟩
    · exact ⟨_, false, fun W => tyt_Pack_no 20 v (Or.inr (by omega)) W, Or.inr ⟨rfl, by omega⟩⟩
  obtain ⟨X, x, hX, hx⟩ := pk p.s
  obtain ⟨Y, y, hY, hy⟩ := pk p.t
  clear pk
  go_enter Try.func14, Try.ntmps14
  go_wp2_with fail
  (with_reducible refine (hX _).mono ?_)
  rintro e w1 ⟨rfl, k1⟩
  have Z1 := Z0.keep k1
  have d1 := kcell k1 d0
  have K1 := K0.trans k1 (fun _ _ x => x)
  clear Z0 d0 K0 k1 hX
  obtain ⟨-, -, -, -, -, -, -, -, c8, c9⟩ := id Z1
  go_wp2_with fail
  (with_reducible refine (hY _).mono ?_)
  rintro e w2 ⟨rfl, k2⟩
  have K2 := K1.trans k2 (fun _ _ x => x)
  replace c8 := kcell k2 c8
  replace c9 := kcell k2 c9
  clear Z1 d1 K1 k2 hY
  rcases hx with ⟨rfl, hs, eX⟩ | ⟨rfl, hs⟩
  · rcases hy with ⟨rfl, ht, eY⟩ | ⟨rfl, ht⟩
    · have l1 : X.size = 21 := by rw [eX, strOf_size, txB_length (show p.s.data.toList.length ≤ 20 from by have : p.s.data.toList.length = p.s.size := rfl; omega)]
      have l2 : Op.bytesLess X.toList Y.toList = Op.bytesLess p.s.toList p.t.toList := by
        rw [eX, eY, strOf_toList, strOf_toList, ByteArray.toList_eq, ByteArray.toList_eq]
        exact txB_less (by omega) (show p.s.data.toList.length ≤ 20 from by have : p.s.data.toList.length = p.s.size := rfl; omega) (show p.t.data.toList.length ≤ 20 from by have : p.t.data.toList.length = p.t.size := rfl; omega)
      have l3 : (X.toList == Y.toList) = (p.s.toList == p.t.toList) := by
        rw [eX, eY, strOf_toList, strOf_toList, ByteArray.toList_eq, ByteArray.toList_eq, Bool.eq_iff_iff, beq_iff_eq, beq_iff_eq]
        exact txB_inj (by omega) (show p.s.data.toList.length ≤ 20 from by have : p.s.data.toList.length = p.s.size := rfl; omega) (show p.t.data.toList.length ≤ 20 from by have : p.t.data.toList.length = p.t.size := rfl; omega)
      have l1' : ((X.size : Int) == 21) = true := by rw [l1]; rfl
      clear eX eY l1
      go_wp2_with fail
      go_ret
      exact ⟨by simp, K2⟩
    · go_wp2_with fail
      go_ret
      exact ⟨rfl, K2⟩
  · rcases hy with ⟨rfl, ht, eY⟩ | ⟨rfl, ht⟩
    · go_wp2_with fail
      go_ret
      exact ⟨rfl, K2⟩
    · go_wp2_with fail
      go_ret
      exact ⟨rfl, K2⟩
end Go.Proofs.Ytgbeacfiaegehaa
