/-
  typed: a Both of texts and whole numbers.
-/
import Derived.Test.YtgbeacfiaegehaaY5
namespace Go.Proofs.Ytgbeacfiaegehaa
open Go.RowKit
set_option linter.unusedVariables false
theorem new_cell (w : World) (cs : Array Value) (t : TypeId) (j : Nat) (v : Value) (h : cs[j]? = some v) : (w.alloc (.cells cs t)).cell? ⟨w.heap.size, j, none⟩ = some v := by
  simp only [World.cell?, heap_alloc_new]
  exact h
theorem old_cell {w : World} (o : Obj) {a : Addr} {v : Value} (h : w.cell? a = some v) : (w.alloc o).cell? a = some v := kcell ((Keeps.refl _ _).alloc _) h
theorem next_cell (w : World) (o : Obj) (cs : Array Value) (t : TypeId) (j : Nat) (v : Value) (h : cs[j]? = some v) : ((w.alloc o).alloc (.cells cs t)).cell? ⟨w.heap.size + 1, j, none⟩ = some v := by
  have := new_cell (w.alloc o) cs t j v h
  rwa [World.size_alloc] at this
set_option maxRecDepth 100000 in
theorem bsu_Pack_no (m : Int) (v : ByteArray) (u : Nat) (h : inR m = false ∨ m < (v.size : Int)) (w : World) : Calls Try.prog 57 #[.agg #[.iface 50 (.agg #[.int .i64 m]), .iface 30 (.agg #[])], .agg #[.string v, .int .u64 (u : Int)]] w fun e w' => e = .returned (.tuple #[.string ⟨#[]⟩, .bool false]) ∧ Keeps w w' (fun _ => False) := by
  have hP := tyt_Pack_no m v h
  have hm : ∀ w : World, (method 222 50 (.agg #[.int .i64 m]) "Pack").run Try.prog w = .ok (22, .agg #[.int .i64 m]) w := fun _ => by kernel_rfl
  go_enter Try.func57, Try.ntmps57
  go_wp2_with fail
  (with_reducible refine (hP _).mono ?_)
  rintro e w1 ⟨rfl, k1⟩
  go_wp2_with fail
  go_ret2
  exact ⟨rfl, (((Keeps.refl _ _).alloc _).alloc _).trans k1 (fun _ _ x => x)⟩
set_option maxRecDepth 100000 in
theorem bsu_Pack_yes (M : Nat) (v : ByteArray) (u : Nat) (hM : M ≤ 127) (hv : v.size ≤ M) (hu : u < 18446744073709551616) (w : World) : Calls Try.prog 57 #[.agg #[.iface 50 (.agg #[.int .i64 (M : Int)]), .iface 30 (.agg #[])], .agg #[.string v, .int .u64 (u : Int)]] w fun e w' => e = .returned (.tuple #[.string (strOf (txB M v.data.toList ++ be 8 u)), .bool true]) ∧ Keeps w w' (fun _ => False) := by
  have hP := tyt_Pack_yes M v hM hv
  have hQ := tyu_Pack u hu
  have hz1 : (strOf (txB M v.data.toList)).size = M + 1 := by rw [strOf_size]; exact txB_length hv
  have hz2 : (strOf (be 8 u)).size = 8 := by rw [strOf_size, be_length]
  have hA := strOf_append (txB M v.data.toList) (be 8 u)
  generalize strOf (txB M v.data.toList) = A at *
  generalize strOf (be 8 u) = B at *
  generalize strOf (txB M v.data.toList ++ be 8 u) = C at *
  have hm : ∀ w : World, (method 222 50 (.agg #[.int .i64 (M : Int)]) "Pack").run Try.prog w = .ok (22, .agg #[.int .i64 (M : Int)]) w := fun _ => by kernel_rfl
  have hn : ∀ w : World, (method 222 30 (.agg #[]) "Pack").run Try.prog w = .ok (9, .agg #[]) w := fun _ => by kernel_rfl
  go_enter Try.func57, Try.ntmps57
  go_wp2_with fail
  (with_reducible refine (hP _).mono ?_)
  rintro e w1 ⟨rfl, k1⟩
  have c1 : w1.cell? ⟨w.heap.size, 1, none⟩ = some (.iface 30 (.agg #[])) := kcell k1 (old_cell _ (new_cell _ _ _ _ _ rfl))
  have c2 : w1.cell? ⟨w.heap.size + 1, 1, none⟩ = some (.int .u64 (u : Int)) := kcell k1 (next_cell _ _ _ _ _ _ rfl)
  go_wp2_with fail
  (with_reducible refine (hQ _).mono ?_)
  rintro e w2 ⟨rfl, k2⟩
  go_wp2_with fail
  go_ret2
  exact ⟨rfl, ((((Keeps.refl _ _).alloc _).alloc _).trans k1 (fun _ _ x => x)).trans k2 (fun _ _ x => x)⟩
set_option maxRecDepth 100000 in
theorem bsu_Align (v1 v2 : Value) (w : World) : Calls Try.prog 59 #[.agg #[v1, v2]] w fun e w' => e = .returned (.int .i64 1) ∧ Keeps w w' (fun _ => False) := by
  go_enter Try.func59, Try.ntmps59
  go_wp2_with fail
  go_ret
  exact ⟨rfl, (Keeps.refl _ _).alloc _⟩
theorem txW_small (m : Int) : 0 ≤ txW m ∧ txW m ≤ 128 := by
  unfold txW
  cases hi : inR m
  · simp
  · obtain ⟨M, rfl, hM⟩ := inR_yes hi
    simp
    omega
set_option maxRecDepth 100000 in
theorem bsu_Width (m : Int) (w : World) : Calls Try.prog 58 #[.agg #[.iface 50 (.agg #[.int .i64 m]), .iface 30 (.agg #[])]] w fun e w' => e = .returned (.int .i64 (txW m + 8)) ∧ Keeps w w' (fun _ => False) := by
  have hW := tyt_Width m
  obtain ⟨h0, h1⟩ := txW_small m
  generalize txW m = W at *
  have hm : ∀ w : World, (method 222 50 (.agg #[.int .i64 m]) "Width").run Try.prog w = .ok (23, .agg #[.int .i64 m]) w := fun _ => by kernel_rfl
  have hn : ∀ w : World, (method 222 30 (.agg #[]) "Width").run Try.prog w = .ok (37, .agg #[]) w := fun _ => by kernel_rfl
  have Z : (w.alloc (.cells #[.iface 50 (.agg #[.int .i64 m]), .iface 30 (.agg #[])] 98)).drew.cell? ⟨w.heap.size, 0, none⟩ = some (.iface 50 (.agg #[.int .i64 m])) ∧ (w.alloc (.cells #[.iface 50 (.agg #[.int .i64 m]), .iface 30 (.agg #[])] 98)).drew.cell? ⟨w.heap.size, 1, none⟩ = some (.iface 30 (.agg #[])) ∧ Keeps w (w.alloc (.cells #[.iface 50 (.agg #[.int .i64 m]), .iface 30 (.agg #[])] 98)).drew (fun _ => False) := ⟨new_cell _ _ _ _ _ rfl, new_cell _ _ _ _ _ rfl, ((Keeps.refl _ _).alloc _).drew⟩
  go_enter Try.func58, Try.ntmps58
  go_wp2_with fail
  go_region_held3 (fun w' => w'.cell? ⟨w.heap.size, 0, none⟩ = some (.iface 50 (.agg #[.int .i64 m])) ∧ w'.cell? ⟨w.heap.size, 1, none⟩ = some (.iface 30 (.agg #[])) ∧ Keeps w w' (fun _ => False)) (first | with_reducible exact Z | with_reducible assumption) (first | (go_at_call 23; (with_reducible refine (hW _).mono ?_); rintro e x1 ⟨rfl, q1⟩; have Z1 : x1.cell? ⟨w.heap.size, 0, none⟩ = some (.iface 50 (.agg #[.int .i64 m])) ∧ x1.cell? ⟨w.heap.size, 1, none⟩ = some (.iface 30 (.agg #[])) ∧ Keeps w x1 (fun _ => False) := ⟨kcell q1 Z.1, kcell q1 Z.2.1, Z.2.2.trans q1 (fun _ _ x => x)⟩) | (go_at_call 37; (with_reducible refine (tyu_Width _).mono ?_); rintro e x2 ⟨rfl, q2⟩; have Z2 : x2.cell? ⟨w.heap.size, 0, none⟩ = some (.iface 50 (.agg #[.int .i64 m])) ∧ x2.cell? ⟨w.heap.size, 1, none⟩ = some (.iface 30 (.agg #[])) ∧ Keeps w x2 (fun _ => False) := ⟨kcell q2 Z1.1, kcell q2 Z1.2.1, Z1.2.2.trans q2 (fun _ _ x => x)⟩))
  have K2 := Z2.2.2
  clear Z Z1 Z2
  have h2 : ¬ (9223372036854775799 : Int) < W := by omega
  go_wp2_with fail
  go_ret
  exact ⟨rfl, K2⟩
end Go.Proofs.Ytgbeacfiaegehaa
