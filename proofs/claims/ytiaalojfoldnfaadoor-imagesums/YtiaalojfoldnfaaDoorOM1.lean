/-
  The mixer: folded, Mix.
-/
import Derived.Test.YtiaalojfoldnfaaDoorOD
import Derived.WalkKit
import Derived.Laws.Bits64
import Derived.Laws.BitsAll
import Derived.Deep.QuietTactic
import Derived.BigQuiet
import Derived.Deep.RegionHeld3
namespace Go.Proofs.YtiaalojfoldnfaaDoor
open Go.RowKit

/-- What was there stays; what is new may be anything. -/
def Kp (w w' : World) : Prop := Below w.heap.size w w'
theorem Kp.refl (w : World) : Kp w w := Below.refl _ _
theorem Kp.trans {w w1 w2 : World} (h : Kp w w1) (k : Kp w1 w2) : Kp w w2 := Below.trans h (Below.mono k h.size)
theorem Kp.alloc {w w1 : World} (h : Kp w w1) (o : Obj) : Kp w (w1.alloc o) := Below.alloc h h.size o
theorem Kp.drew {w w1 : World} (h : Kp w w1) : Kp w w1.drew := Below.drew h
theorem Kp.cell {w w1 : World} (h : Kp w w1) {p : Addr} {v : Value} (hp : w.cell? p = some v) : w1.cell? p = some v := by
  have : p.block < w.heap.size := by
    refine Nat.lt_of_not_le fun hn => ?_
    rw [World.cell?, Array.getElem?_eq_none hn] at hp
    cases hp
  exact (Below.cell h this).trans hp

/-- The mixer's two factors, where the program lays them. -/
def OddAt (w : World) : Prop := w.cell? ⟨0, 0, none⟩ = some (.int .u64 13234230157428861123) ∧ w.cell? ⟨0, 1, none⟩ = some (.int .u64 11329751410908088055)

set_option maxHeartbeats 400000 in
theorem folded_any (h s : Nat) (hh : h < 18446744073709551616) (hs : s < 64) (w : World) :
    Calls Tryd.prog 8 #[.int .u64 (h : Int), .int .i64 (s : Int)] w fun e w' => e = .returned (.int .u64 (foldN s h : Nat)) ∧ w' = w := by
  have hx : bits BinOp.xor IntKind.u64 (h : Int) ((h : Int) / 2 ^ s) = ((foldN s h : Nat) : Int) := by
    have := xorShift_u64 h (2 ^ s) hh
    rw [Int.natCast_pow] at this
    exact this
  go_enter Tryd.func8, Tryd.ntmps8
  go_wp2_with fail
  go_ret
  exact ⟨rfl, rfl⟩

theorem mul_odd (f a : Nat) : IntKind.u64.wrap ((a : Int) * (f : Int)) = ((mulN f a : Nat) : Int) := by
  rw [IntKind.wrap_u64]
  unfold mulN
  rw [Int.natCast_emod, Int.natCast_mul]
  rfl

theorem OddAt.kp {w w' : World} (h : OddAt w) (k : Kp w w') : OddAt w' := ⟨k.cell h.1, k.cell h.2⟩

/-- A call of folded by its answer. -/
def FoldIs (h s r : Int) : Prop := ∃ H S : Nat, h = (H : Int) ∧ s = (S : Int) ∧ H < 18446744073709551616 ∧ S < 64 ∧ r = ((foldN S H : Nat) : Int)
theorem fold_is {h s r : Int} (q : FoldIs h s r) (w : World) :
    Calls Tryd.prog 8 #[.int .u64 h, .int .i64 s] w fun e w' => e = .returned (.int .u64 r) ∧ w' = w := by
  obtain ⟨H, S, rfl, rfl, h1, h2, rfl⟩ := q
  exact folded_any H S h1 h2 w

theorem hide {p : Prop} (h : p) : Hid p := h

set_option maxHeartbeats 1000000 in
theorem mix_walk (seed S R : Nat) (key : ByteArray) (cs : List UInt8) (w : World) (hS : S < 18446744073709551616) (hl : key.size < 9223372036854775808) (ho : OddAt w)
    (h1 : IntKind.u64.wrap (13234230157428861123 * (1 + (key.size : Int))) = ((mulN 13234230157428861123 (1 + key.size) : Nat) : Int))
    (h2 : bits BinOp.xor IntKind.u64 (seed : Int) ((mulN 13234230157428861123 (1 + key.size) : Nat) : Int) = ((S : Nat) : Int))
    (hR : Hid (R = endN (bytesN S cs))) (hlen : cs.length = key.size) (hget : ∀ i (hi : i < key.size), key[i] = cs[i]'(by omega)) :
    Calls Tryd.prog 6 #[.int .u64 (seed : Int), .string key] w fun e w' => e = .returned (.int .u64 (R : Nat)) ∧ Kp w w' := by
  obtain ⟨o0, o1⟩ := ho
  go_enter Tryd.func6, Tryd.ntmps6
  go_wp2_with fail
  clear h1 h2
  go_loopw [5, 18] (fun vh vi wr => ∃ i : Nat, vi = .int .i64 (i : Int) ∧ i ≤ key.size ∧ vh = .int .u64 ((bytesN S (cs.take i) : Nat) : Int) ∧ Kp w wr) (fun _ vi _ => key.size - (intOf vi).toNat)
  case atStart => exact ⟨0, rfl, Nat.zero_le _, rfl, Kp.refl _⟩
  case round =>
    obtain ⟨i, rfl, hi, rfl, kr⟩ := hrel
    replace o0 := kr.cell o0
    replace o1 := kr.cell o1
    by_cases hlt : i < key.size
    · have hlt' : (i : Int) < (key.size : Int) := by omega
      have hN : Hid (bytesN S (cs.take (i + 1)) = foldN 31 (mulN 11329751410908088055 (bytesN S (cs.take i) ^^^ cs[i].toNat))) := bytesN_take S cs i (by omega)
      have hH := bytesN_lt (cs.take i) hS
      have hg := hget i hlt
      generalize bytesN S (cs.take i) = H at *
      have x1 : bits BinOp.xor IntKind.u64 (H : Int) ((cs[i].toNat : Nat) : Int) = ((H ^^^ cs[i].toNat : Nat) : Int) := bits_xor_u64_nat _ _ hH (byte_small _)
      have x2 : IntKind.u64.wrap (((H ^^^ cs[i].toNat : Nat) : Int) * 11329751410908088055) = ((mulN 11329751410908088055 (H ^^^ cs[i].toNat) : Nat) : Int) := mul_odd 11329751410908088055 _
      have x3 : IntKind.u64.wrap ((cs[i].toNat : Nat) : Int) = ((cs[i].toNat : Nat) : Int) := by
        rw [IntKind.wrap_u64]
        have := byte_small cs[i]
        omega
      have hF : FoldIs ((mulN 11329751410908088055 (H ^^^ cs[i].toNat) : Nat) : Int) 31 ((foldN 31 (mulN 11329751410908088055 (H ^^^ cs[i].toNat)) : Nat) : Int) := ⟨_, 31, rfl, rfl, mulN_lt _ _, by decide, rfl⟩
      generalize foldN 31 (mulN 11329751410908088055 (H ^^^ cs[i].toNat)) = R1 at *
      generalize mulN 11329751410908088055 (H ^^^ cs[i].toNat) = Z at *
      generalize (H ^^^ cs[i].toNat) = Y at *
      clear hR hget o0
      go_wp2_with fail
      go_region_held3 (fun w' => w'.cell? ⟨0, 1, none⟩ = some (.int .u64 11329751410908088055)) (go_keep) (first | (go_at_call 8; refine (fold_is (by assumption) _).mono ?_; rintro r w5 ⟨rfl, rfl⟩))
      go_wp2_with fail
      exact ⟨⟨i + 1, by simp, by omega, by rw [hN.out], kr.drew⟩, by simp [intOf]; omega⟩
    · have hlt' : ¬ (i : Int) < (key.size : Int) := by omega
      have ht : cs.take i = cs := List.take_of_length_le (by omega)
      rw [ht]
      have hH := bytesN_lt cs hS
      have hR2 : Hid (R = foldN 32 (mulN 13234230157428861123 (foldN 29 (bytesN S cs)))) := hR
      generalize bytesN S cs = H at *
      have hF : FoldIs (H : Int) 29 ((foldN 29 H : Nat) : Int) := ⟨H, 29, rfl, rfl, hH, by decide, rfl⟩
      have x1 : IntKind.u64.wrap (((foldN 29 H : Nat) : Int) * 13234230157428861123) = ((mulN 13234230157428861123 (foldN 29 H) : Nat) : Int) := mul_odd 13234230157428861123 _
      have hF2 : FoldIs ((mulN 13234230157428861123 (foldN 29 H) : Nat) : Int) 32 ((foldN 32 (mulN 13234230157428861123 (foldN 29 H)) : Nat) : Int) := ⟨_, 32, rfl, rfl, mulN_lt _ _, by decide, rfl⟩
      generalize foldN 32 (mulN 13234230157428861123 (foldN 29 H)) = R1 at *
      generalize mulN 13234230157428861123 (foldN 29 H) = Z at *
      generalize foldN 29 H = Y at *
      clear hR hget o1
      go_wp2_with fail
      go_region_held3 (fun w' => w'.cell? ⟨0, 0, none⟩ = some (.int .u64 13234230157428861123)) (go_keep) (first | (go_at_call 8; refine (fold_is (by assumption) _).mono ?_; rintro r w5 ⟨rfl, rfl⟩))
      go_wp2_with fail
      go_ret
      obtain rfl : R = R1 := hR2
      exact ⟨rfl, kr.drew⟩

theorem mix_any (seed : Nat) (key : ByteArray) (w : World) (hs : seed < 18446744073709551616) (hl : key.size < 9223372036854775808) (ho : OddAt w) :
    Calls Tryd.prog 6 #[.int .u64 (seed : Int), .string key] w fun e w' => e = .returned (.int .u64 (mixN seed key.data.toList : Nat)) ∧ Kp w w' := by
  refine mix_walk seed (startN seed key.size) _ key key.data.toList w (startN_lt _ hs) hl ho ?_ (bits_xor_u64_nat _ _ hs (mulN_lt _ _)) (hide rfl) rfl (fun _ _ => rfl)
  rw [Int.mul_comm]
  exact mul_odd 13234230157428861123 (1 + key.size)
end Go.Proofs.YtiaalojfoldnfaaDoor
