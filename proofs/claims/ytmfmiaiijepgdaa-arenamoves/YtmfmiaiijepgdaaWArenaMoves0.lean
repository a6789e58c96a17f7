import Derived.Test.YtmfmiaiijepgdaaAW18
namespace Go.Proofs.Ytmfmiaiijepgdaa
open Go.RowKit Go.Shelf

theorem strOf_data (s : ByteArray) : strOf s.data.toList = s := by
  apply ByteArray.ext
  simp [strOf]
theorem data_strOf (x : List UInt8) : (strOf x).data.toList = x := by simp [strOf]
theorem extract_list (s : ByteArray) (a b : Nat) : (s.extract a b).data.toList = (s.data.toList.drop a).take (b - a) := Lib.extract_data s a b
theorem splice_part {bs x : List UInt8} {o j m : Nat} (h : o + x.length ≤ bs.length) (hj : j + m ≤ x.length) : ((splice bs o x).drop (o + j)).take m = (x.drop j).take m := by
  apply List.ext_getElem?
  intro i
  rw [List.getElem?_take, List.getElem?_take]
  by_cases hi : i < m
  · rw [if_pos hi, if_pos hi, List.getElem?_drop, List.getElem?_drop, splice_get h, if_pos (by omega)]
    congr 1
    omega
  · rw [if_neg hi, if_neg hi]
/-- A span that the laid bytes don't touch. -/
theorem splice_apart {bs x : List UInt8} {o j m : Nat} (h : o + x.length ≤ bs.length) (hj : j + m ≤ o ∨ o + x.length ≤ j) : ((splice bs o x).drop j).take m = (bs.drop j).take m := by
  apply List.ext_getElem?
  intro i
  rw [List.getElem?_take, List.getElem?_take]
  by_cases hi : i < m
  · rw [if_pos hi, if_pos hi, List.getElem?_drop, List.getElem?_drop, splice_get h, if_neg (by omega)]
  · rw [if_neg hi, if_neg hi]
theorem splice_inner {bs t x : List UInt8} {o j : Nat} (h : o + t.length ≤ bs.length) (hj : j + x.length ≤ t.length) : splice (splice bs o t) (o + j) x = splice bs o (splice t j x) := by
  have hl : (splice bs o t).length = bs.length := splice_length h
  have hl2 : (splice t j x).length = t.length := splice_length hj
  apply List.ext_getElem?
  intro i
  rw [splice_get (by rw [hl]; omega), splice_get h, splice_get (by rw [hl2]; exact h), hl2]
  by_cases h1 : o ≤ i ∧ i < o + t.length
  · rw [if_pos h1, splice_get hj]
    by_cases h2 : o + j ≤ i ∧ i < o + j + x.length
    · have e : i - (o + j) = i - o - j := by omega
      rw [if_pos h2, e]
      rw [if_pos (show j ≤ i - o ∧ i - o < j + x.length by omega), if_pos h1]
    · rw [if_neg h2, if_pos h1, if_neg (by omega)]
  · rw [if_neg (by omega), if_neg h1, if_neg h1]

namespace arenaMoves

def Post (w : World) (e : Ending) (w' : World) : Prop := e = .returned (.bool true) ∧ Below w.heap.size w w'
/-- Three blocks: of 16, of c, of 16 bytes. -/
def d3 (c : Nat) : AD := (((AD.fresh 2097152).took 16).took c).took 16
theorem d3_L (c : Nat) : (d3 c).L = [(16, 16), (32, c), (32 + c, 16)] := by
  simp [d3, AD.took, AD.entered, AD.added, AD.fresh, zeros_length]
  omega
theorem d3_bs (c : Nat) : (d3 c).bs = zeros (48 + c) := by
  show zeros 16 ++ zeros 16 ++ zeros c ++ zeros 16 = _
  simp only [zeros, List.replicate_append_replicate]
  congr 1
  omega
theorem d3_fine {c : Nat} (h0 : 0 < c) (h : c ≤ 1048576) : (d3 c).Fine := by
  have f1 := (AD.fresh_fine (show 2097152 ≤ 2097152 by omega)).took (n := 16) (by omega) (by simp [AD.fresh, zeros_length]) (by simp [AD.fresh])
  have f2 := f1.took (n := c) h0 (by simp [AD.took, AD.entered, AD.added, AD.fresh, zeros_length]; omega) (by simp [AD.took, AD.entered, AD.added, AD.fresh]; omega)
  exact f2.took (n := 16) (by omega) (by simp [AD.took, AD.entered, AD.added, AD.fresh, zeros_length]; omega) (by simp [AD.took, AD.entered, AD.added, AD.fresh]; omega)
theorem d3_small {c : Nat} (h : c ≤ 1048576) (bs : List UInt8) : ((d3 c).bytes bs).small := by
  intro x hx
  have hx' : x ∈ (d3 c).L := hx
  rw [d3_L] at hx'
  simp at hx'
  rcases hx' with rfl | rfl | rfl <;> simp <;> omega
theorem d3_lv (c : Nat) (hc : 0 < c) (x : Nat × Nat) (hx : x ∈ (d3 c).L) : (d3 c).lv x.1 = some (x.2 : Int) := by
  rw [d3_L] at hx
  simp at hx
  have e : (d3 c).lv = upd (upd (upd (fun _ => none) 16 (some 16)) 32 (some (c : Int))) ((32 + c : Nat) : Int) (some 16) := by
    have e0 : (16 : Int) + (16 + (c : Int)) = 32 + (c : Int) := by omega
    simp [d3, AD.took, AD.entered, AD.added, AD.fresh, zeros_length, e0]
  rw [e]
  rcases hx with rfl | rfl | rfl
  · rw [upd_other _ _ _ _ (by simp; omega), upd_other _ _ _ _ (by simp)]
    rfl
  · rw [upd_other _ _ _ _ (by simp; omega)]
    exact upd_same _ _ _
  · exact upd_same _ _ _
theorem good_in {c : Nat} (hc : 0 < c) (bs : List UInt8) (x : Nat × Nat) (hx : x ∈ (d3 c).L) (off n : Int) (h1 : 0 ≤ n) (h2 : (x.1 : Int) ≤ off) (h3 : off - x.1 ≤ (x.2 : Int) - n) : ((d3 c).bytes bs).goodB off n = true :=
  AD.goodB_mk (d := (d3 c).bytes bs) (x := x) hx (d3_lv c hc x hx) h1 h2 h3
/-- The middle block's first bytes are T. -/
def bsT (c : Nat) (T : List UInt8) : List UInt8 := splice (zeros (48 + c)) 32 T
def dT (c : Nat) (T : List UInt8) : AD := (d3 c).bytes (bsT c T)
theorem bsT_length {c : Nat} {T : List UInt8} (h : T.length ≤ c) : (bsT c T).length = 48 + c := by
  unfold bsT
  rw [splice_length (by rw [zeros_length]; omega), zeros_length]
theorem dT_fine {c : Nat} {T : List UInt8} (h0 : 0 < c) (h : c ≤ 1048576) (hT : T.length ≤ c) : (dT c T).Fine := (d3_fine h0 h).bytes (by rw [bsT_length hT, d3_bs, zeros_length])
theorem mid_mem (c : Nat) : (32, c) ∈ (d3 c).L := by rw [d3_L]; simp
theorem zeros_part (m j k : Nat) (h : j + k ≤ m) : ((zeros m).drop j).take k = zeros k := by
  simp only [zeros, List.drop_replicate, List.take_replicate]
  congr 1
  omega
theorem span_mid {c : Nat} {T : List UInt8} (hT : T.length ≤ c) (o k : Nat) (h : o + k ≤ T.length) : (dT c T).span (32 + (o : Int)) (k : Int) = (T.drop o).take k := by
  have e : (32 + (o : Int)).toNat = 32 + o := by omega
  show ((bsT c T).drop (32 + (o : Int)).toNat).take (k : Int).toNat = _
  rw [e, Int.toNat_natCast]
  exact splice_part (by rw [zeros_length]; omega) h
section
variable {c : Nat} (h0 : 0 < c) {T : List UInt8} (hT : T.length ≤ c)
include h0 hT
theorem good_mid (o k : Nat) (h : o + k ≤ T.length) : (dT c T).goodB (32 + (o : Int)) (k : Int) = true := good_in h0 _ (32, c) (mid_mem c) _ _ (by omega) (by simp; omega) (by simp; omega)
theorem equal_eq (x y n : Nat) (hx : x + n ≤ T.length) (hy : y + n ≤ T.length) : equalV (dT c T) (32 + (x : Int)) (32 + (y : Int)) (n : Int) = (eqS (strOf ((T.drop x).take n)) (strOf ((T.drop y).take n)), 0) := by
  unfold equalV
  rw [good_mid h0 hT x n hx, good_mid h0 hT y n hy, span_mid hT x n hx, span_mid hT y n hy]
  rfl
theorem read_eq (n : Nat) (hn : n = T.length) : readV (dT c T) 32 (n : Int) = (strOf T, 0) := by
  have g := good_mid h0 hT 0 n (by omega)
  have s := span_mid hT 0 n (by omega)
  simp only [Int.ofNat_zero, Int.add_zero] at g s
  unfold readV
  rw [g, s, if_pos rfl, List.drop_zero, hn, List.take_length]
theorem copy_eq (x y n : Nat) (hx : x + n ≤ T.length) (hy : y + n ≤ T.length) : copyR (dT c T) (32 + (x : Int)) (32 + (y : Int)) (n : Int) = (0, dT c (splice T x ((T.drop y).take n))) := by
  unfold copyR
  rw [good_mid h0 hT x n hx, good_mid h0 hT y n hy, Bool.and_self, if_pos rfl]
  have e1 : (32 + (x : Int)).toNat = 32 + x := by omega
  have e2 : (32 + (y : Int)).toNat = 32 + y := by omega
  have hb : (dT c T).bs = bsT c T := rfl
  rw [e1, e2, Int.toNat_natCast, hb]
  unfold bsT
  rw [splice_part (by rw [zeros_length]; omega) hy, splice_inner (by rw [zeros_length]; omega) (by simp; omega)]
  rfl
theorem fill_eq (x n : Nat) (u : UInt8) (hx : x + n ≤ T.length) : fillR (dT c T) (32 + (x : Int)) (n : Int) u = (0, dT c (splice T x (same n u))) := by
  unfold fillR
  rw [good_mid h0 hT x n hx, if_pos rfl]
  have e1 : (32 + (x : Int)).toNat = 32 + x := by omega
  have hb : (dT c T).bs = bsT c T := rfl
  rw [e1, Int.toNat_natCast, hb]
  unfold bsT
  rw [splice_inner (by rw [zeros_length]; omega) (by rw [same_length]; exact hx)]
  rfl
theorem read_first : readV (dT c T) 16 16 = (strOf (zeros 16), 0) := by
  have g : (dT c T).goodB 16 16 = true := good_in h0 _ (16, 16) (by rw [d3_L]; simp) _ _ (by omega) (by simp) (by simp)
  unfold readV
  rw [g, if_pos rfl]
  have : (dT c T).span 16 16 = zeros 16 := by
    show ((bsT c T).drop 16).take 16 = _
    unfold bsT
    rw [splice_apart (by rw [zeros_length]; omega) (Or.inl (by omega)), zeros_part _ _ _ (by omega)]
  rw [this]
theorem read_last : readV (dT c T) ((32 + c : Nat) : Int) 16 = (strOf (zeros 16), 0) := by
  have g : (dT c T).goodB ((32 + c : Nat) : Int) 16 = true := good_in h0 _ (32 + c, 16) (by rw [d3_L]; simp) _ _ (by omega) (by simp) (by simp)
  unfold readV
  rw [g, if_pos rfl]
  have : (dT c T).span ((32 + c : Nat) : Int) 16 = zeros 16 := by
    show ((bsT c T).drop ((32 + c : Nat) : Int).toNat).take 16 = _
    rw [Int.toNat_natCast]
    unfold bsT
    rw [splice_apart (by rw [zeros_length]; omega) (Or.inr (by omega)), zeros_part _ _ _ (by omega)]
  rw [this]
end
theorem write_eq {c : Nat} (h0 : 0 < c) (hc : c ≤ 1048576) (ts : List ByteArray) (T : List UInt8) (hj : joined ts = T) (hT : T.length ≤ c) : writeR (d3 c) 32 ts = (0, dT c T) := by
  have hl : lens ts = T.length := by rw [← joined_length, hj]
  have g : (d3 c).goodB 32 (T.length : Nat) = true := by
    have := good_in h0 (d3 c).bs (32, c) (mid_mem c) 32 (T.length : Int) (by omega) (by simp) (by simp; omega)
    exact this
  unfold writeR
  rw [hl, g, decide_eq_true (show T.length ≤ 1048576 by omega), Bool.and_self, if_pos rfl, d3_bs, hj]
  rfl
theorem take_eq (m : Nat) (h1 : 1 ≤ m) (h2 : m ≤ 4096) : takeAll newT (AD.fresh 2097152) [16, (m : Int), 16] = ([16, 32, ((32 + classN m : Nat) : Int)], d3 (classN m)) := by
  have e1 : (classI 16).toNat = 16 := by decide
  have e2 : (classI (m : Int)).toNat = classN m := by unfold classI; rw [if_pos (by omega)]; simp
  simp only [takeAll, e1, e2, newT]
  refine Prod.ext ?_ rfl
  simp [AD.took, AD.entered, AD.added, AD.fresh, zeros_length]
  omega
theorem fits_eq (m : Nat) (h1 : 1 ≤ m) (h2 : m ≤ 4096) : fitsIn (((AD.fresh 2097152).limit : Int) - ((AD.fresh 2097152).used : Int)) [16, (m : Int), 16] = true := by
  have e1 : classI 16 = 16 := by decide
  have e2 : classI (m : Int) = (classN m : Int) := by unfold classI; rw [if_pos (by omega)]; simp
  have hb := class_le m h1 (by omega)
  have el : (AD.fresh 2097152).limit = 2097152 := rfl
  have eu : (AD.fresh 2097152).used = 0 := rfl
  simp only [fitsIn, e1, e2, el, eu]
  rw [if_neg (by omega), if_neg (by omega), if_neg (by omega)]
end arenaMoves
end Go.Proofs.Ytmfmiaiijepgdaa
