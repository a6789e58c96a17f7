import Derived.Test.YtflihieaajbihabOP2
namespace Go.Proofs.Ytflihieaajbihab
open Go.RowKit
namespace oracleParts

def Post (w : World) (e : Ending) (w' : World) : Prop := e = .returned (.bool true) ∧ Below w.heap.size w w'

set_option maxHeartbeats 2000000 in
theorem core (h : Nat) (d : Int) (w : World) (hh : h < 18446744073709551616) :
    Calls Try.prog 3 #[.int .u64 (h : Int), .int .i64 d] w (Post w) := by
  have t1 := tag_any h hh w
  have t2 := rtag_any h hh w
  have t3 := home_any h hh w
  have t4 := rhome_any h hh w
  have t5 := top_any h d hh w
  have t6 := rtop_any h d hh w
  have t7 := bit_any h d hh w
  have t8 := rbit_any h d hh w
  generalize topN h d = T at *
  generalize bitN h d = B at *
  go_enter Try.func3, Try.ntmps3
  go_wp2_with fail
  refine t1.mono ?_
  rintro e w' ⟨rfl, rfl⟩
  go_wp2_with fail
  refine t2.mono ?_
  rintro e w' ⟨rfl, rfl⟩
  go_wp2_with fail
  refine t3.mono ?_
  rintro e w' ⟨rfl, rfl⟩
  go_wp2_with fail
  refine t4.mono ?_
  rintro e w' ⟨rfl, rfl⟩
  go_wp2_with fail
  refine t5.mono ?_
  rintro e w' ⟨rfl, rfl⟩
  go_wp2_with fail
  refine t6.mono ?_
  rintro e w' ⟨rfl, rfl⟩
  go_wp2_with fail
  refine t7.mono ?_
  rintro e w' ⟨rfl, rfl⟩
  go_wp2_with fail
  refine t8.mono ?_
  rintro e w' ⟨rfl, rfl⟩
  go_wp2_with fail
  go_ret
  exact ⟨rfl, Below.refl _ _⟩

theorem walk (a0 a1 : Int) (w0 : (Lit.int .u64 a0).wf = true) (_ : (Lit.int .i64 a1).wf = true) (W : World) :
    Calls Try.prog 3 #[.int .u64 a0, .int .i64 a1] W fun e w' => e = .returned (.bool true) ∧ Below W.heap.size W w' := by
  obtain ⟨h, rfl, hh⟩ := u64_nat w0
  exact core h a1 W hh
end oracleParts
end Go.Proofs.Ytflihieaajbihab
