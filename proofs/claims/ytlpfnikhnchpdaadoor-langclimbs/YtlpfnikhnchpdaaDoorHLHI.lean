/-
  lang: LangClimbs, whatever its input.
-/
import Derived.Test.YtlpfnikhnchpdaaDoorHLHH
namespace Go.Proofs.YtlpfnikhnchpdaaDoor
namespace Lg
open Go.RowKit
set_option linter.unusedVariables false
set_option maxRecDepth 100000 in
set_option maxHeartbeats 2000000 in
theorem climbs_o1 (i j : Int) (s : Bool) (w : World) (h : i < 0) : Calls Tryd.prog 5 #[.int .i64 i, .int .i64 j, .bool s] w fun e w' => e = .returned (.bool true) ∧ Keeps w w' (fun _ => False) := by
  have h0 := h
  go_enter Tryd.func5, Tryd.ntmps5
  go_upto_region 2 with fail
  refine alloc1 (P := fun W => Code.wp _ _ _ _ W) fun W0 hg hz k0 => ?_
  have HK := hide k0
  clear hg hz k0
  go_wp2_with fail
  go_ret
  exact ⟨rfl, HK.out⟩
set_option maxRecDepth 100000 in
set_option maxHeartbeats 2000000 in
theorem climbs_o2 (i j : Int) (s : Bool) (w : World) (h0 : ¬ i < 0) (h : (13 : Int) ≤ i) : Calls Tryd.prog 5 #[.int .i64 i, .int .i64 j, .bool s] w fun e w' => e = .returned (.bool true) ∧ Keeps w w' (fun _ => False) := by
  have h1 := h
  go_enter Tryd.func5, Tryd.ntmps5
  go_upto_region 2 with fail
  refine alloc1 (P := fun W => Code.wp _ _ _ _ W) fun W0 hg hz k0 => ?_
  have HK := hide k0
  clear hg hz k0
  go_wp2_with fail
  go_ret
  exact ⟨rfl, HK.out⟩
set_option maxRecDepth 100000 in
set_option maxHeartbeats 2000000 in
theorem climbs_o3 (i j : Int) (s : Bool) (w : World) (h0 : ¬ i < 0) (h1 : ¬ (13 : Int) ≤ i) (h : j < 0) : Calls Tryd.prog 5 #[.int .i64 i, .int .i64 j, .bool s] w fun e w' => e = .returned (.bool true) ∧ Keeps w w' (fun _ => False) := by
  have h2 := h
  go_enter Tryd.func5, Tryd.ntmps5
  go_upto_region 2 with fail
  refine alloc1 (P := fun W => Code.wp _ _ _ _ W) fun W0 hg hz k0 => ?_
  have HK := hide k0
  clear hg hz k0
  go_wp2_with fail
  go_ret
  exact ⟨rfl, HK.out⟩
set_option maxRecDepth 100000 in
set_option maxHeartbeats 2000000 in
theorem climbs_o4 (i j : Int) (s : Bool) (w : World) (h0 : ¬ i < 0) (h1 : ¬ (13 : Int) ≤ i) (h2 : ¬ j < 0) (h : (13 : Int) ≤ j) : Calls Tryd.prog 5 #[.int .i64 i, .int .i64 j, .bool s] w fun e w' => e = .returned (.bool true) ∧ Keeps w w' (fun _ => False) := by
  have h3 := h
  go_enter Tryd.func5, Tryd.ntmps5
  go_upto_region 2 with fail
  refine alloc1 (P := fun W => Code.wp _ _ _ _ W) fun W0 hg hz k0 => ?_
  have HK := hide k0
  clear hg hz k0
  go_wp2_with fail
  go_ret
  exact ⟨rfl, HK.out⟩
theorem climbs_any (i j : Int) (s : Bool) (w : World) (hG : LgAt w) (hH : Hi w.heap.size) (hE : ∃ ev, w.cell? ⟨10, 0, none⟩ = some ev ∧ (ev = .nilIface ∨ ∃ te pe, ev = .iface te pe)) :
    Calls Tryd.prog 5 #[.int .i64 i, .int .i64 j, .bool s] w fun e w' => e = .returned (.bool true) ∧ Keeps w w' (fun _ => False) := by
  by_cases h0 : i < 0
  · exact climbs_o1 i j s w h0
  by_cases h1 : (13 : Int) ≤ i
  · exact climbs_o2 i j s w h0 h1
  by_cases h2 : j < 0
  · exact climbs_o3 i j s w h0 h1 h2
  by_cases h3 : (13 : Int) ≤ j
  · exact climbs_o4 i j s w h0 h1 h2 h3
  obtain ⟨a, rfl⟩ : ∃ a : Nat, i = (a : Int) := ⟨i.toNat, by omega⟩
  obtain ⟨b, rfl⟩ : ∃ b : Nat, j = (b : Int) := ⟨j.toNat, by omega⟩
  exact climbs_walk a b s (by omega) (by omega) w hG hH hE
end Lg
end Go.Proofs.YtlpfnikhnchpdaaDoor
