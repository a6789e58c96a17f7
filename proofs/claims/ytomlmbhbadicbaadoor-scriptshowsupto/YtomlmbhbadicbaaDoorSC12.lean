/-
  script: the reference's Show whole; ScriptShows walked (made by gensc12.py).
-/
import Derived.Test.YtomlmbhbadicbaaDoorSCS
namespace Go.Proofs.YtomlmbhbadicbaaDoor
open Go.RowKit
set_option linter.unusedVariables false

set_option maxRecDepth 100000 in
set_option maxHeartbeats 2000000 in
theorem scriptShows_walk (op err n off : Int) (yes : Bool) (key elem : ByteArray) (w : World) (he : -9223372036854775808 ≤ err ∧ err ≤ 9223372036854775807) (hn : -9223372036854775808 ≤ n ∧ n ≤ 9223372036854775807) (ho : -9223372036854775808 ≤ off ∧ off ≤ 9223372036854775807) (hk : key.size ≤ 8388608) (hel : elem.size ≤ 8388608) (ht : TabW w) (hR : RowsAt w) : Calls Tryd.prog 3 #[.agg #[.int .i64 op, .int .i64 err, .int .i64 n, .int .i64 off, .bool yes, .string key, .string elem]] w fun e w' => e = .returned (.bool true) ∧ Keeps w w' (fun _ => False) := by
  have k0 : Keeps w (w.alloc (.cells #[.int .i64 op, .int .i64 err, .int .i64 n, .int .i64 off, .bool yes, .string key, .string elem] 24)).drew (fun _ => False) := ((Keeps.refl _ _).alloc _).drew
  have hb : (w.alloc (.cells #[.int .i64 op, .int .i64 err, .int .i64 n, .int .i64 off, .bool yes, .string key, .string elem] 24)).drew.heap[w.heap.size]? = some (.cells #[.int .i64 op, .int .i64 err, .int .i64 n, .int .i64 off, .bool yes, .string key, .string elem] 24) := heap_alloc_new w _
  have hN1 := show_any op err n off yes key elem _ he hn ho hk hel (ht.keeps k0) (hR.keeps k0)
  have hN2 := fun (W : World) => rshow_any op err n off yes key elem W he hn ho hk hel
  have S0 := ans_cells hb
  have HN1 := hide hN1
  have HN2 := hide hN2
  have K0 := hide k0
  generalize showD op err n off yes key elem = S at *
  have hself : (S.toList == S.toList) = true := by simp
  clear hN1 hN2 k0 hb
  go_enter Tryd.func3, Tryd.ntmps3
  go_wp2_with fail
  go_region_held3 (fun w' => w'.cell? ⟨w.heap.size, 0, none⟩ = some (.int .i64 op) ∧ w'.cell? ⟨w.heap.size, 1, none⟩ = some (.int .i64 err) ∧ w'.cell? ⟨w.heap.size, 2, none⟩ = some (.int .i64 n) ∧ w'.cell? ⟨w.heap.size, 3, none⟩ = some (.int .i64 off) ∧ w'.cell? ⟨w.heap.size, 4, none⟩ = some (.bool yes) ∧ w'.cell? ⟨w.heap.size, 5, none⟩ = some (.string key) ∧ w'.cell? ⟨w.heap.size, 6, none⟩ = some (.string elem)) (first | with_reducible exact S0 | with_reducible exact S1 | with_reducible exact S2 | with_reducible assumption)
    (first | (go_at_call 5; (with_reducible refine HN1.out.mono ?_); rintro e w2 ⟨rfl, k2⟩; have K2 := hide (K0.out.trans k2 (fun _ _ e => e)); have S1 := And.intro (keeps_cell k2 S0.1) (And.intro (keeps_cell k2 S0.2.1) (And.intro (keeps_cell k2 S0.2.2.1) (And.intro (keeps_cell k2 S0.2.2.2.1) (And.intro (keeps_cell k2 S0.2.2.2.2.1) (And.intro (keeps_cell k2 S0.2.2.2.2.2.1) (keeps_cell k2 S0.2.2.2.2.2.2))))))) | (go_at_call 6; (with_reducible refine (HN2.out _).mono ?_); rintro e w3 ⟨rfl, k3⟩; have K3 := hide (K2.out.trans k3 (fun _ _ e => e)); have S2 := And.intro (keeps_cell k3 S1.1) (And.intro (keeps_cell k3 S1.2.1) (And.intro (keeps_cell k3 S1.2.2.1) (And.intro (keeps_cell k3 S1.2.2.2.1) (And.intro (keeps_cell k3 S1.2.2.2.2.1) (And.intro (keeps_cell k3 S1.2.2.2.2.2.1) (keeps_cell k3 S1.2.2.2.2.2.2))))))))
  all_goals (
    go_wp2_with fail
    go_ret
    exact ⟨rfl, K3.out⟩)
end Go.Proofs.YtomlmbhbadicbaaDoor
