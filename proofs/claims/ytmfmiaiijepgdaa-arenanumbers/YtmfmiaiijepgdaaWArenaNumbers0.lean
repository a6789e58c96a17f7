import Derived.Test.YtmfmiaiijepgdaaAW16
namespace Go.Proofs.Ytmfmiaiijepgdaa
open Go.RowKit Go.Shelf
namespace arenaNumbers

def Post (w : World) (e : Ending) (w' : World) : Prop := e = .returned (.bool true) ∧ Below w.heap.size w w'
def d1 : AD := (AD.fresh 1024).took 16
theorem d1_fine : d1.Fine := (AD.fresh_fine (by omega)).took (by omega) (by simp [AD.fresh, zeros_length]) (by simp [AD.fresh])
theorem one_good (bs : List UInt8) (off n : Int) (h1 : 0 ≤ n) (h2 : 16 ≤ off) (h3 : off - 16 ≤ 16 - n) : (d1.bytes bs).goodB off n = true := by
  refine AD.goodB_mk (x := (16, 16)) ?_ ?_ h1 h2 h3
  · simp [AD.bytes, d1, AD.took, AD.entered, AD.added, AD.fresh, zeros_length]
  · simp [AD.bytes, d1, AD.took, AD.entered, AD.added, AD.fresh, zeros_length, upd]
theorem d1_bs : d1.bs = zeros 32 := by
  show zeros 16 ++ zeros 16 = zeros 32
  simp [zeros]
theorem class16 : classN 16 = 16 := by decide

def bs2 (u : UInt8) : List UInt8 := splice (zeros 32) 16 (same 16 u)
theorem bs2_length (u : UInt8) : (bs2 u).length = 32 := by
  unfold bs2
  rw [splice_length (by simp [same_length, zeros_length]), zeros_length]
def bs3 (u : UInt8) (a k v : Nat) : List UInt8 := splice (bs2 u) (16 + a) (leBytes v k)
theorem bs3_length (u : UInt8) (a k v : Nat) (h : a + k ≤ 16) : (bs3 u a k v).length = 32 := by
  unfold bs3
  rw [splice_length (by rw [leBytes_length, bs2_length]; omega), bs2_length]
theorem fine2 (u : UInt8) : (d1.bytes (bs2 u)).Fine := d1_fine.bytes (by rw [bs2_length, d1_bs, zeros_length])
theorem fine3 (u : UInt8) (a k v : Nat) (h : a + k ≤ 16) : (d1.bytes (bs3 u a k v)).Fine := d1_fine.bytes (by rw [bs3_length u a k v h, d1_bs, zeros_length])
theorem fill_eq (u : UInt8) : fillR d1 16 16 u = (0, d1.bytes (bs2 u)) := by
  have hg : d1.goodB 16 16 = true := one_good d1.bs 16 16 (by omega) (by omega) (by omega)
  unfold fillR
  rw [hg, if_pos rfl, d1_bs]
  rfl
theorem store_eq (u : UInt8) (a k v : Nat) (hk : widthB (k : Int) = true) (h : a + k ≤ 16) : storeR (d1.bytes (bs2 u)) (16 + (a : Int)) (k : Int) v = (0, d1.bytes (bs3 u a k v)) := by
  have hg := one_good (bs2 u) (16 + (a : Int)) (k : Int) (by omega) (by omega) (by omega)
  unfold storeR
  rw [hk, hg, if_pos rfl, if_pos rfl]
  have e : (16 + (a : Int)).toNat = 16 + a := by omega
  rw [e, Int.toNat_natCast]
  rfl
def row3 (u : UInt8) (a k v : Nat) : List UInt8 := ((bs3 u a k v).drop 16).take 16
theorem row3_length (u : UInt8) (a k v : Nat) (h : a + k ≤ 16) : (row3 u a k v).length = 16 := by
  simp [row3, bs3_length u a k v h]
theorem read_eq (u : UInt8) (a k v : Nat) : readV (d1.bytes (bs3 u a k v)) 16 16 = (strOf (row3 u a k v), 0) := by
  have hg := one_good (bs3 u a k v) 16 16 (by omega) (by omega) (by omega)
  unfold readV
  rw [hg, if_pos rfl]
  rfl
theorem row3_get (u : UInt8) (a k v : Nat) (h : a + k ≤ 16) (i : Nat) (hi : i < 16) : (row3 u a k v)[i]? = some (if a ≤ i ∧ i < a + k then lowB v (i - a) else u) := by
  have hl : (leBytes v k).length = k := leBytes_length v k
  unfold row3 bs3
  rw [List.getElem?_take, if_pos hi, List.getElem?_drop, splice_get (by rw [hl, bs2_length]; omega), hl]
  by_cases h1 : a ≤ i ∧ i < a + k
  · rw [if_pos h1, if_pos (by omega)]
    have e : 16 + i - (16 + a) = i - a := by omega
    rw [e]
    simp only [leBytes, List.getElem?_map, List.getElem?_range (show i - a < k by omega), Option.map_some]
  · rw [if_neg h1, if_neg (by omega)]
    unfold bs2
    rw [splice_get (by simp [same_length, zeros_length]), same_length, if_pos (by omega)]
    rw [same, List.getElem?_replicate, if_pos (by omega)]
theorem leBytes_part (v k j m : Nat) (h : j + m ≤ k) : ((leBytes v k).drop j).take m = leBytes (v / 256 ^ j) m := by
  apply List.ext_getElem?
  intro i
  rw [List.getElem?_take]
  by_cases hi : i < m
  · rw [if_pos hi, List.getElem?_drop]
    simp only [leBytes, List.getElem?_map, List.getElem?_range (show j + i < k by omega), List.getElem?_range hi, Option.map_some]
    congr 1
    unfold lowB
    rw [Nat.div_div_eq_div_mul, ← Nat.pow_add]
  · rw [if_neg hi, List.getElem?_eq_none (by rw [leBytes_length]; omega)]
theorem splice_part {bs x : List UInt8} {o j m : Nat} (h : o + x.length ≤ bs.length) (hj : j + m ≤ x.length) : ((splice bs o x).drop (o + j)).take m = (x.drop j).take m := by
  apply List.ext_getElem?
  intro i
  rw [List.getElem?_take, List.getElem?_take]
  by_cases hi : i < m
  · rw [if_pos hi, if_pos hi, List.getElem?_drop, List.getElem?_drop, splice_get h, if_pos (by omega)]
    congr 1
    omega
  · rw [if_neg hi, if_neg hi]
theorem load_eq (u : UInt8) (a k v j m : Nat) (hm : widthB (m : Int) = true) (h : a + k ≤ 16) (hj : j + m ≤ k) : loadV (d1.bytes (bs3 u a k v)) (16 + (a : Int) + (j : Int)) (m : Int) = (((v / 256 ^ j % 256 ^ m : Nat) : Int), 0) := by
  have hg := one_good (bs3 u a k v) (16 + (a : Int) + (j : Int)) (m : Int) (by omega) (by omega) (by omega)
  unfold loadV
  rw [hm, hg, if_pos rfl, if_pos rfl]
  have e : (16 + (a : Int) + (j : Int)).toNat = 16 + a + j := by omega
  rw [e, Int.toNat_natCast]
  show ((numOf (((bs3 u a k v).drop (16 + a + j)).take m) : Int), (0 : Int)) = _
  unfold bs3
  rw [splice_part (by rw [leBytes_length, bs2_length]; omega) (by rw [leBytes_length]; exact hj), leBytes_part _ _ _ _ hj, numOf_le]
theorem and_mask (v m : Nat) (hv : v < 2 ^ 64) (hm : m < 64) : bits .and .u64 (v : Int) (((2 ^ m - 1 : Nat)) : Int) = ((v % 2 ^ m : Nat) : Int) := by
  have hp : 2 ^ m < 2 ^ 64 := Nat.pow_lt_pow_right (by omega) hm
  have hp0 : 0 < 2 ^ m := Nat.two_pow_pos m
  have h1 : (BitVec.ofInt 64 (v : Int)).toNat = v := by
    rw [BitVec.ofInt_natCast, BitVec.toNat_ofNat]
    exact Nat.mod_eq_of_lt hv
  have h2 : (BitVec.ofInt 64 ((2 ^ m - 1 : Nat) : Int)).toNat = 2 ^ m - 1 := by
    rw [BitVec.ofInt_natCast, BitVec.toNat_ofNat]
    exact Nat.mod_eq_of_lt (by omega)
  show IntKind.u64.wrap ((BitVec.ofInt 64 (v : Int) &&& BitVec.ofInt 64 ((2 ^ m - 1 : Nat) : Int)).toNat : Int) = _
  rw [BitVec.toNat_and, h1, h2, Nat.and_two_pow_sub_one_eq_mod, IntKind.wrap_u64]
  have : v % 2 ^ m < 2 ^ m := Nat.mod_lt _ hp0
  omega
end arenaNumbers
end Go.Proofs.Ytmfmiaiijepgdaa
