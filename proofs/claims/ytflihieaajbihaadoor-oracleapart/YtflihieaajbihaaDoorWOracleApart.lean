import Derived.Test.YtflihieaajbihaaDoorOM2
namespace Go.Proofs.YtflihieaajbihaaDoor
open Go.RowKit
namespace oracleApart

def Post (w : World) (e : Ending) (w' : World) : Prop := e = .returned (.bool true) ∧ Below w.heap.size w w'

set_option maxHeartbeats 2000000 in
theorem walk (a b : Nat) (key : ByteArray) (w : World) (ha : a < 18446744073709551616) (hb : b < 18446744073709551616) (hl : key.size < 9223372036854775808) (ho : OddAt w) :
    Calls Tryd.prog 3 #[.int .u64 (a : Int), .int .u64 (b : Int), .string key] w (Post w) := by
  have q1 : MixIs (a : Int) key ((mixN a key.data.toList : Nat) : Int) := ⟨a, rfl, ha, hl, rfl⟩
  have q2 : MixIs (b : Int) key ((mixN b key.data.toList : Nat) : Int) := ⟨b, rfl, hb, hl, rfl⟩
  have hM : Hid (mixN a key.data.toList = mixN b key.data.toList ↔ a = b) := mixN_seed _ ha hb
  generalize mixN a key.data.toList = X at *
  generalize mixN b key.data.toList = Y at *
  clear ha hb
  go_enter Tryd.func3, Tryd.ntmps3
  go_wp2_with fail
  refine (mix_is q1 _ ho).mono ?_
  rintro r w1 ⟨rfl, k1⟩
  go_wp2_with fail
  refine (mix_is q2 _ (ho.kp k1)).mono ?_
  rintro r w2 ⟨rfl, k2⟩
  go_wp2_with fail
  have e1 : (((X : Int) == (Y : Int)) == ((a : Int) == (b : Int))) = true := by
    have h : (X : Int) = (Y : Int) ↔ (a : Int) = (b : Int) := by rw [Int.ofNat_inj, Int.ofNat_inj]; exact hM
    by_cases hab : (a : Int) = (b : Int)
    · rw [beq_iff_eq.2 (h.2 hab), beq_iff_eq.2 hab]; rfl
    · rw [beq_eq_false_iff_ne.2 (fun e => hab (h.1 e)), beq_eq_false_iff_ne.2 hab]; rfl
  rw [e1]
  go_ret
  exact ⟨rfl, k1.trans k2⟩
end oracleApart
end Go.Proofs.YtflihieaajbihaaDoor
