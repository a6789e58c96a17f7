/-
  code: the reference's rows.
-/
import Derived.Test.YtnicbillhlhmmaaDoorCW14
namespace Go.Proofs.YtnicbillhlhmmaaDoor
namespace Cw
open Go.RowKit
set_option linter.unusedVariables false
def useL : List Bs := [[], [110], [118], [118], [109], [109], [109], [45], [45], [45], [45], [45], [45], [45], [45], [45], [45], [45], [45], [45], [109], [109], [109], [99], [112], [112], [109], [112], [45], [45]]
def tkL : List Nat := [0, 0, 0, 1, 1, 1, 0, 1, 1, 2, 2, 2, 2, 2, 2, 2, 2, 2, 2, 2, 2, 1, 0, 0, 0, 1, 0, 0, 0, 0]
def lyL : List Nat := [0, 1, 1, 0, 1, 1, 1, 1, 1, 1, 1, 1, 1, 1, 1, 1, 1, 1, 1, 1, 0, 0, 0, 0, 0, 0, 0, 2, 0, 0]
def useB (k : Nat) : Bs := useL.getD k []
def tkC (k : Nat) : Nat := tkL.getD k 0
def lyC (k : Nat) : Nat := lyL.getD k 0
/-- The row of an Op, its five cells. -/
def RowAt (A : Array Value) (k : Nat) : Prop := A[k * 5]? = some (.int .i64 ((k + 1 : Nat) : Int)) ∧ A[k * 5 + 1]? = some (.string (sB (nmC (k + 1)))) ∧ A[k * 5 + 2]? = some (.string (sB (useB (k + 1)))) ∧ A[k * 5 + 3]? = some (.int .i64 (tkC (k + 1) : Nat)) ∧ A[k * 5 + 4]? = some (.int .i64 (lyC (k + 1) : Nat))
set_option maxRecDepth 100000 in
set_option maxHeartbeats 4000000 in
theorem rows_any (w : World) : Calls Tryd.prog 53 #[] w fun e w' => e = .returned (.slice (some ⟨w.heap.size, 0, none⟩) 29 29) ∧ Keeps w w' (fun _ => False) ∧ ∃ A, w'.heap[w.heap.size]? = some (.cells A 84) ∧ ∀ k, k < 29 → RowAt A k := by
  go_enter Tryd.func53, Tryd.ntmps53
  go_wp2_with fail
  go_ret
  refine ⟨rfl, (Keeps.refl _ _).alloc _, _, heap_alloc_new _ _, fun k hk => ?_⟩
  match k, hk with
  | 0, _ => exact ⟨rfl, rfl, rfl, rfl, rfl⟩
  | 1, _ => exact ⟨rfl, rfl, rfl, rfl, rfl⟩
  | 2, _ => exact ⟨rfl, rfl, rfl, rfl, rfl⟩
  | 3, _ => exact ⟨rfl, rfl, rfl, rfl, rfl⟩
  | 4, _ => exact ⟨rfl, rfl, rfl, rfl, rfl⟩
  | 5, _ => exact ⟨rfl, rfl, rfl, rfl, rfl⟩
  | 6, _ => exact ⟨rfl, rfl, rfl, rfl, rfl⟩
  | 7, _ => exact ⟨rfl, rfl, rfl, rfl, rfl⟩
  | 8, _ => exact ⟨rfl, rfl, rfl, rfl, rfl⟩
  | 9, _ => exact ⟨rfl, rfl, rfl, rfl, rfl⟩
  | 10, _ => exact ⟨rfl, rfl, rfl, rfl, rfl⟩
  | 11, _ => exact ⟨rfl, rfl, rfl, rfl, rfl⟩
  | 12, _ => exact ⟨rfl, rfl, rfl, rfl, rfl⟩
  | 13, _ => exact ⟨rfl, rfl, rfl, rfl, rfl⟩
  | 14, _ => exact ⟨rfl, rfl, rfl, rfl, rfl⟩
  | 15, _ => exact ⟨rfl, rfl, rfl, rfl, rfl⟩
  | 16, _ => exact ⟨rfl, rfl, rfl, rfl, rfl⟩
  | 17, _ => exact ⟨rfl, rfl, rfl, rfl, rfl⟩
  | 18, _ => exact ⟨rfl, rfl, rfl, rfl, rfl⟩
  | 19, _ => exact ⟨rfl, rfl, rfl, rfl, rfl⟩
  | 20, _ => exact ⟨rfl, rfl, rfl, rfl, rfl⟩
  | 21, _ => exact ⟨rfl, rfl, rfl, rfl, rfl⟩
  | 22, _ => exact ⟨rfl, rfl, rfl, rfl, rfl⟩
  | 23, _ => exact ⟨rfl, rfl, rfl, rfl, rfl⟩
  | 24, _ => exact ⟨rfl, rfl, rfl, rfl, rfl⟩
  | 25, _ => exact ⟨rfl, rfl, rfl, rfl, rfl⟩
  | 26, _ => exact ⟨rfl, rfl, rfl, rfl, rfl⟩
  | 27, _ => exact ⟨rfl, rfl, rfl, rfl, rfl⟩
  | 28, _ => exact ⟨rfl, rfl, rfl, rfl, rfl⟩
  | (n + 29), h => exact absurd h (by omega)
theorem cells5 {W : World} {b : Nat} {x y z u v : Value} {T : TypeId} {fz : Nat × Nat} (h : W.heap[b]? = some (.cells #[x, y, z, u, v] T fz)) : W.cell? ⟨b, 0, none⟩ = some x ∧ W.cell? ⟨b, 1, none⟩ = some y ∧ W.cell? ⟨b, 2, none⟩ = some z ∧ W.cell? ⟨b, 3, none⟩ = some u ∧ W.cell? ⟨b, 4, none⟩ = some v := by
  simp [World.cell?, h]
def rowV (k : Nat) : Value := .agg #[.int .i64 (k : Int), .string (sB (nmC k)), .string (sB (useB k)), .int .i64 (tkC k : Nat), .int .i64 (lyC k : Nat)]
def rowZ : Value := .agg #[.int .i64 0, .string ⟨#[]⟩, .string ⟨#[]⟩, .int .i64 0, .int .i64 0]
def Rw (w : World) (g : Nat) (a b c d e : Value) : Prop := w.heap[g]? = some (.cells #[a, b, c, d, e] 84)
theorem Rw.cells {w : World} {g : Nat} {a b c d e : Value} (h : Rw w g a b c d e) : (w.cell? ⟨g, 0, none⟩ = some a ∧ w.cell? ⟨g, 1, none⟩ = some b ∧ w.cell? ⟨g, 2, none⟩ = some c ∧ w.cell? ⟨g, 3, none⟩ = some d ∧ w.cell? ⟨g, 4, none⟩ = some e) ∧ w.frozen? ⟨g, 0, none⟩ = false ∧ w.frozen? ⟨g, 1, none⟩ = false ∧ w.frozen? ⟨g, 2, none⟩ = false ∧ w.frozen? ⟨g, 3, none⟩ = false ∧ w.frozen? ⟨g, 4, none⟩ = false := by
  unfold Rw at h
  simp [World.cell?, World.frozen?, h]
theorem rw_set5 {w : World} {g : Nat} {x y z u v a b c d e : Value} {P : World → Prop} (h : Rw w g x y z u v) (hp : ∀ W, Rw W g a b c d e → Keeps w W (fun i => i = g) → P W) :
    P (((((w.setCell ⟨g, 0, none⟩ a).setCell ⟨g, 1, none⟩ b).setCell ⟨g, 2, none⟩ c).setCell ⟨g, 3, none⟩ d).setCell ⟨g, 4, none⟩ e) := by
  have h1 := set_one' h 0 a (by simp)
  have h2 := set_one' h1 1 b (by simp)
  have h3 := set_one' h2 2 c (by simp)
  have h4 := set_one' h3 3 d (by simp)
  exact hp _ (set_one' h4 4 e (by simp)) ((((((Keeps.refl w (fun i => i = g)).setCell _ (fun _ => rfl) _).setCell _ (fun _ => rfl) _).setCell _ (fun _ => rfl) _).setCell _ (fun _ => rfl) _).setCell _ (fun _ => rfl) _)
set_option maxRecDepth 100000 in
set_option maxHeartbeats 2000000 in
theorem row_yes (k : Nat) (hk : k < 29) (w : World) : Calls Tryd.prog 36 #[.int .i64 ((k : Int) + 1)] w fun e w' => e = .returned (.tuple #[rowV (k + 1), .bool true]) ∧ Keeps w w' (fun _ => False) := by
  obtain ⟨W0, hW0⟩ : ∃ W0, W0 = w.alloc (.cells #[.int .i64 0, .string ⟨#[]⟩, .string ⟨#[]⟩, .int .i64 0, .int .i64 0] 84) := ⟨_, rfl⟩
  have k0 : Keeps w W0 (fun _ => False) := by rw [hW0]; exact (Keeps.refl _ _).alloc _
  have hz : Rw W0 w.heap.size (.int .i64 0) (.string ⟨#[]⟩) (.string ⟨#[]⟩) (.int .i64 0) (.int .i64 0) := by rw [hW0]; exact heap_alloc_new _ _
  have hR := rows_any W0
  have hk' : (k : Int) < 29 := by omega
  have h0 := hide (And.intro k0 hz)
  clear k0 hz
  go_enter Tryd.func36, Tryd.ntmps36
  go_wp2_with fail
  rw [← hW0]
  clear hW0
  refine hR.mono ?_
  rintro e w1 ⟨rfl, k1, A, hA, hrow⟩
  obtain ⟨a0, a1, a2, a3, a4⟩ := hrow k hk
  have hz1 : Rw w1 w.heap.size (.int .i64 0) (.string ⟨#[]⟩) (.string ⟨#[]⟩) (.int .i64 0) (.int .i64 0) := (k1.block _ (heap_lt h0.out.2) id).trans h0.out.2
  obtain ⟨⟨z0, z1, z2, z3, z4⟩, f0, f1, f2, f3, f4⟩ := hz1.cells
  have d0 : w1.cell? ⟨W0.heap.size, k * 5, none⟩ = some (.int .i64 ((k + 1 : Nat) : Int)) := by simp [World.cell?, hA, a0]
  have d1 : w1.cell? ⟨W0.heap.size, k * 5 + 1, none⟩ = some (.string (sB (nmC (k + 1)))) := by simp [World.cell?, hA, a1]
  have d2 : w1.cell? ⟨W0.heap.size, k * 5 + 2, none⟩ = some (.string (sB (useB (k + 1)))) := by simp [World.cell?, hA, a2]
  have d3 : w1.cell? ⟨W0.heap.size, k * 5 + 3, none⟩ = some (.int .i64 (tkC (k + 1) : Nat)) := by simp [World.cell?, hA, a3]
  have d4 : w1.cell? ⟨W0.heap.size, k * 5 + 4, none⟩ = some (.int .i64 (lyC (k + 1) : Nat)) := by simp [World.cell?, hA, a4]
  have HV : Hid (rowV (k + 1) = .agg #[.int .i64 ((k + 1 : Nat) : Int), .string (sB (nmC (k + 1))), .string (sB (useB (k + 1))), .int .i64 (tkC (k + 1) : Nat), .int .i64 (lyC (k + 1) : Nat)]) := rfl
  have H1 := hide (And.intro hz1 (h0.out.1.trans k1 (fun _ _ e => e)))
  generalize sB (nmC (k + 1)) = s1 at *
  generalize sB (useB (k + 1)) = s2 at *
  generalize ((tkC (k + 1) : Nat) : Int) = n1 at *
  generalize ((lyC (k + 1) : Nat) : Int) = n2 at *
  clear hR k1 hA hrow a0 a1 a2 a3 a4 hz1
  generalize W0.heap.size = g2 at *
  go_wp2_with fail
  refine rw_set5 (P := fun W => bodyPost _ _ _ _ _ W) H1.out.1 fun W6 h6 k6 => ?_
  obtain ⟨⟨t0, t1, t2, t3, t4⟩, -⟩ := h6.cells
  refine bodyPost_ret (v := .tuple #[.agg #[.int .i64 ((k + 1 : Nat) : Int), .string s1, .string s2, .int .i64 n1, .int .i64 n2], .bool true]) (by simp [results, Tryd.results36, go_sem, t0, t1, t2, t3, t4]) rfl ?_
  exact ⟨by rw [HV.out], H1.out.2.trans k6 (fun q hq e => by omega)⟩
set_option maxRecDepth 100000 in
set_option maxHeartbeats 2000000 in
theorem row_no (op : Int) (h : op < 1 ∨ op > 29) (w : World) : Calls Tryd.prog 36 #[.int .i64 op] w fun e w' => e = .returned (.tuple #[rowZ, .bool false]) ∧ Keeps w w' (fun _ => False) := by
  obtain ⟨W0, hW0⟩ : ∃ W0, W0 = w.alloc (.cells #[.int .i64 0, .string ⟨#[]⟩, .string ⟨#[]⟩, .int .i64 0, .int .i64 0] 84) := ⟨_, rfl⟩
  have k0 : Keeps w W0 (fun _ => False) := by rw [hW0]; exact (Keeps.refl _ _).alloc _
  have hz : Rw W0 w.heap.size (.int .i64 0) (.string ⟨#[]⟩) (.string ⟨#[]⟩) (.int .i64 0) (.int .i64 0) := by rw [hW0]; exact heap_alloc_new _ _
  have hR := rows_any W0
  have h0 := hide (And.intro k0 hz)
  clear k0 hz
  go_enter Tryd.func36, Tryd.ntmps36
  go_wp2_with fail
  rw [← hW0]
  clear hW0
  refine hR.mono ?_
  rintro e w1 ⟨rfl, k1, -⟩
  have hz1 : Rw w1 w.heap.size (.int .i64 0) (.string ⟨#[]⟩) (.string ⟨#[]⟩) (.int .i64 0) (.int .i64 0) := (k1.block _ (heap_lt h0.out.2) id).trans h0.out.2
  obtain ⟨⟨z0, z1, z2, z3, z4⟩, f0, f1, f2, f3, f4⟩ := hz1.cells
  have H1 := hide (And.intro hz1 (h0.out.1.trans k1 (fun _ _ e => e)))
  clear hR k1 hz1
  generalize W0.heap.size = g2 at *
  rcases h with h | h
  · go_wp2_with fail
    refine rw_set5 (P := fun W => bodyPost _ _ _ _ _ W) H1.out.1 fun W6 h6 k6 => ?_
    obtain ⟨⟨t0, t1, t2, t3, t4⟩, -⟩ := h6.cells
    refine bodyPost_ret (v := .tuple #[rowZ, .bool false]) (by simp [results, Tryd.results36, go_sem, t0, t1, t2, t3, t4, rowZ]) rfl ?_
    exact ⟨rfl, H1.out.2.trans k6 (fun q hq e => by omega)⟩
  · have h1 : ¬ op < 1 := by omega
    go_wp2_with fail
    refine rw_set5 (P := fun W => bodyPost _ _ _ _ _ W) H1.out.1 fun W6 h6 k6 => ?_
    obtain ⟨⟨t0, t1, t2, t3, t4⟩, -⟩ := h6.cells
    refine bodyPost_ret (v := .tuple #[rowZ, .bool false]) (by simp [results, Tryd.results36, go_sem, t0, t1, t2, t3, t4, rowZ]) rfl ?_
    exact ⟨rfl, H1.out.2.trans k6 (fun q hq e => by omega)⟩
end Cw
end Go.Proofs.YtnicbillhlhmmaaDoor
