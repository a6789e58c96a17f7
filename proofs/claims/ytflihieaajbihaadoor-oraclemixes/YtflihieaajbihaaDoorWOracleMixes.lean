import Derived.Test.YtflihieaajbihaaDoorON6
namespace Go.Proofs.YtflihieaajbihaaDoor
open Go.RowKit
namespace oracleMixes

def Post (w : World) (e : Ending) (w' : World) : Prop := e = .returned (.bool true) ∧ Below w.heap.size w w'

set_option maxHeartbeats 2000000 in
theorem walk (a : Nat) (key : ByteArray) (w : World) (ha : a < 18446744073709551616) (hl : key.size < 9223372036854775807) (ho : OddAt w) :
    Calls Tryd.prog 6 #[.int .u64 (a : Int), .string key] w (Post w) := by
  have q1 := mix_any a key w ha (by omega) ho
  have q2 := fun W => rmix_any a key W ha hl
  generalize mixN a key.data.toList = X at *
  go_enter Tryd.func6, Tryd.ntmps6
  go_wp2_with fail
  refine q1.mono ?_
  rintro r w1 ⟨rfl, k1⟩
  go_wp2_with fail
  refine (q2 _).mono ?_
  rintro r w2 ⟨rfl, k2⟩
  go_wp2_with fail
  go_ret
  exact ⟨rfl, k1.trans k2⟩
end oracleMixes
end Go.Proofs.YtflihieaajbihaaDoor
