import Derived.Test.YtkjbhhfnhpnifaaPR2
namespace Go.Proofs.Ytkjbhhfnhpnifaa
namespace probeSizes
open Go.RowKit
set_option linter.unusedVariables false

set_option maxHeartbeats 1000000 in
theorem walk (s n : Int) (w0 : (Lit.int .i64 s).wf = true) (w1 : (Lit.int .i64 n).wf = true) (w : World) :
    Calls Try.prog 8 #[.int .i64 s, .int .i64 n] w fun e w' => e = .returned (.bool true) ∧ Below w.heap.size w w' := by
  have hm := most_any s w
  have hr := rmost_any s w
  have hs := slots_any n w
  have ht := rslots_any n w
  have h16 := most_any 16 w
  have e16 : mostN 16 = 14 := by decide
  rw [e16] at h16
  generalize mostN s = M at *
  generalize slotsN n = V at *
  go_enter Try.func8, Try.ntmps8
  go_wp2_with fail
  refine hm.mono ?_
  rintro e w' ⟨rfl, rfl⟩
  go_wp2_with fail
  refine hr.mono ?_
  rintro e w' ⟨rfl, rfl⟩
  go_wp2_with fail
  refine hs.mono ?_
  rintro e w' ⟨rfl, rfl⟩
  go_wp2_with fail
  refine ht.mono ?_
  rintro e w' ⟨rfl, rfl⟩
  go_wp2_with fail
  refine h16.mono ?_
  rintro e w' ⟨rfl, rfl⟩
  go_wp2_with fail
  go_ret
  exact ⟨rfl, Below.refl _ _⟩
end probeSizes
end Go.Proofs.Ytkjbhhfnhpnifaa
