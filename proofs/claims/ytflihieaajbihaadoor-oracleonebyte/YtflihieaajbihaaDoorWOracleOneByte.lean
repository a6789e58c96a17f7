import Derived.Test.YtflihieaajbihaaDoorOM2
import Derived.Laws.IdiomStrings
namespace Go.Proofs.YtflihieaajbihaaDoor
open Go.RowKit
namespace oracleOneByte

def Post (w : World) (e : Ending) (w' : World) : Prop := e = .returned (.bool true) ∧ Below w.heap.size w w'

theorem cell_one (w : World) (v : Value) (t : TypeId) : (w.alloc (.cells #[v] t)).cell? ⟨w.heap.size, 0, none⟩ = some v := by simp
theorem one_text (w : World) (x : UInt8) : (convert 25 9 (.slice (some ⟨w.heap.size, 0, none⟩) 1 1)).run Tryd.prog (w.alloc (.cells #[.int .u8 (x.toNat : Int)] 5)) = .ok (.string ⟨#[x]⟩) (w.alloc (.cells #[.int .u8 (x.toNat : Int)] 5)) := by
  refine run_convert_bytes_back (P := Tryd.prog) _ 25 9 5 ⟨w.heap.size, 0, none⟩ 1 [x] Tryd.underlying25 Tryd.underlying5 Tryd.underlying9 ?_
  intro j hj
  simp at hj
  subst hj
  exact cell_one w _ 5
theorem joined (a b : ByteArray) (x : UInt8) : (a ++ ⟨#[x]⟩ ++ b).data.toList = a.data.toList ++ [x] ++ b.data.toList := by simp

set_option maxHeartbeats 2000000 in
theorem walk (seed : Nat) (ah be : ByteArray) (x y : UInt8) (w : World) (hs : seed < 18446744073709551616) (h1 : ah.size ≤ 140737488355328) (h2 : be.size ≤ 140737488355328) (ho : OddAt w) :
    Calls Tryd.prog 4 #[.int .u64 (seed : Int), .string ah, .int .u8 (x.toNat : Int), .int .u8 (y.toNat : Int), .string be] w (Post w) := by
  have c1 := one_text w x
  have c2 := fun W => one_text W y
  have hl : ∀ z : UInt8, (ah ++ (⟨#[z]⟩ : ByteArray) ++ be).size < 9223372036854775808 := by
    intro z
    have e : (⟨#[z]⟩ : ByteArray).size = 1 := rfl
    rw [ByteArray.size_append, ByteArray.size_append, e]
    omega
  have q1 : MixIs (seed : Int) (ah ++ (⟨#[x]⟩ : ByteArray) ++ be) ((mixN seed (ah.data.toList ++ [x] ++ be.data.toList) : Nat) : Int) := ⟨seed, rfl, hs, hl x, by rw [joined]⟩
  have q2 : MixIs (seed : Int) (ah ++ (⟨#[y]⟩ : ByteArray) ++ be) ((mixN seed (ah.data.toList ++ [y] ++ be.data.toList) : Nat) : Int) := ⟨seed, rfl, hs, hl y, by rw [joined]⟩
  have hM : Hid (mixN seed (ah.data.toList ++ [x] ++ be.data.toList) = mixN seed (ah.data.toList ++ [y] ++ be.data.toList) ↔ x = y) := mixN_byte hs _ _ x y
  generalize mixN seed (ah.data.toList ++ [x] ++ be.data.toList) = X at *
  generalize mixN seed (ah.data.toList ++ [y] ++ be.data.toList) = Y at *
  clear hl hs
  go_enter Tryd.func4, Tryd.ntmps4
  go_wp2_with fail
  refine (mix_is q1 _ (ho.kp ((Kp.refl _).alloc _))).mono ?_
  rintro r w1 ⟨rfl, k1⟩
  have c3 := c2 w1
  clear c1 c2
  go_wp2_with fail
  refine (mix_is q2 _ ((ho.kp (((Kp.refl _).alloc _).trans k1)).kp ((Kp.refl _).alloc _))).mono ?_
  rintro r w2 ⟨rfl, k2⟩
  go_wp2_with fail
  have e1 : (((X : Int) == (Y : Int)) == ((x.toNat : Int) == (y.toNat : Int))) = true := by
    have h : (X : Int) = (Y : Int) ↔ (x.toNat : Int) = (y.toNat : Int) := by rw [Int.ofNat_inj, Int.ofNat_inj, UInt8.toNat_inj]; exact hM
    by_cases hab : (x.toNat : Int) = (y.toNat : Int)
    · rw [beq_iff_eq.2 (h.2 hab), beq_iff_eq.2 hab]; rfl
    · rw [beq_eq_false_iff_ne.2 (fun e => hab (h.1 e)), beq_eq_false_iff_ne.2 hab]; rfl
  rw [e1]
  go_ret
  exact ⟨rfl, (((Kp.refl _).alloc _).trans k1).trans (((Kp.refl _).alloc _).trans k2)⟩
end oracleOneByte
end Go.Proofs.YtflihieaajbihaaDoor
