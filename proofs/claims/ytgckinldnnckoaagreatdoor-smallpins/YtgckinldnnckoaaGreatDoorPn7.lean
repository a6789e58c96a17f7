import Derived.Test.YtgckinldnnckoaaGreatDoorChecked
import Derived.WalkKit
import Derived.Below
import Derived.ProofKit
import Derived.IntWalk
import Derived.Laws.Bits64
import Derived.Laws.BitsAll
import Derived.Deep.QuietTactic
import Derived.BigQuiet
import Derived.Outline
import Derived.Deep.RegionHeld3
import Derived.Test.YtgckinldnnckoaaGreatDoorPn6
/-
  A group of eight cells when one of them turns.
-/
namespace Go.Proofs.YtgckinldnnckoaaGreatDoor
open Go.RowKit Go.Shelf Ly Ct

/-- The bytes from o to o + n may have turned, nothing else has. -/
structure Touch (d d' : AD) (o n : Nat) : Prop where
  data : d' = d.bytes d'.bs
  len : d'.bs.length = d.bs.length
  out : ∀ j, j < o ∨ o + n ≤ j → d'.bs[j]? = d.bs[j]?
theorem Touch.refl (d : AD) (o n : Nat) : Touch d d o n := ⟨rfl, rfl, fun _ _ => rfl⟩
theorem Touch.trans {d d1 d2 : AD} {o n : Nat} (h : Touch d d1 o n) (k : Touch d1 d2 o n) : Touch d d2 o n :=
  ⟨by rw [k.data, h.data]; rfl, k.len.trans h.len, fun j hj => (k.out j hj).trans (h.out j hj)⟩
theorem Touch.splice (d : AD) {o n a : Nat} {x : List UInt8} (h1 : o ≤ a) (h2 : a + x.length ≤ o + n) (h3 : a + x.length ≤ d.bs.length) : Touch d (d.bytes (splice d.bs a x)) o n :=
  ⟨rfl, splice_length h3, fun j hj => splice_out h3 (by omega)⟩
theorem Touch.fine {d d' : AD} {o n : Nat} (h : Touch d d' o n) (F : d.Fine) : d'.Fine := by
  rw [h.data]
  exact F.bytes h.len
theorem Touch.goodB {d d' : AD} {o n : Nat} (h : Touch d d' o n) (a k : Int) : d'.goodB a k = d.goodB a k := by
  rw [h.data]
  rfl
theorem Touch.small {d d' : AD} {o n : Nat} (h : Touch d d' o n) (F : d.small) : d'.small := by
  rw [h.data]
  exact F
theorem Touch.span {d d' : AD} {o n : Nat} (h : Touch d d' o n) {a k : Nat} (hd : a + k ≤ o ∨ o + n ≤ a) : d'.span (a : Int) (k : Int) = d.span (a : Int) (k : Int) := by
  rw [span_nat, span_nat]
  apply List.ext_getElem?
  intro j
  simp only [List.getElem?_take, List.getElem?_drop]
  split
  · exact h.out _ (by omega)
  · rfl

/-- One cell has turned. -/
def updC (c : Nat → GC) (i : Nat) (x : GC) : Nat → GC := fun j => if j = i then x else c j
theorem mark_lt {l : Lay} {x : GC} (h : x.ok l) : x.mark < 256 := by
  rcases h with rfl | rfl | ⟨h2, h3, h4, _⟩
  · decide
  · decide
  · have : x.mark = x.tag.toNat := if_pos h2
    omega
theorem wordN_put {d : AD} {bs : List UInt8} {off W : Nat} (h : off + 8 ≤ bs.length) (hW : W < 18446744073709551616) : wordN (d.bytes (splice bs off (leBytes W 8))) (off : Int) = W := by
  unfold wordN
  have e : (d.bytes (splice bs off (leBytes W 8))).span (off : Int) 8 = leBytes W 8 := by
    show ((splice bs off (leBytes W 8)).drop ((off : Int)).toNat).take (8 : Int).toNat = _
    exact span_in (by rw [leBytes_length]; exact h) (by rw [leBytes_length]; rfl)
  rw [e, numOf_le]
  exact Nat.mod_eq_of_lt (by omega)
theorem slots_in {i s : Nat} (hi : i < 8) : i * s + s ≤ 8 * s := mul_apart hi

section
variable {d : AD} {l : Lay} {off : Nat} {c : Nat → GC}
theorem laid_pos (hv : validB l = true) (i : Nat) : ((off : Int) + (8 + (i : Int) * l.s + 0)).toNat = off + 8 + i * l.s.toNat := by
  have := valid_more hv
  rw [toNat_at (by omega) (by omega)]
  rfl
theorem laid_touch (hv : validB l = true) (hl : off + l.g.toNat ≤ d.bs.length) {i : Nat} (hi : i < 8) {x : List UInt8} (hx : x.length = l.s.toNat) (W : Nat) : Touch d (laidG d l off i x W) off l.g.toNat := by
  have := valid_more hv
  have := slots_in (s := l.s.toNat) hi
  unfold laidG
  rw [laid_pos hv]
  refine (Touch.splice d (o := off) (n := l.g.toNat) (a := off + 8 + i * l.s.toNat) (x := x) (by omega) (by omega) (by omega)).trans ?_
  refine Touch.splice _ (by simp) (by rw [leBytes_length, Int.toNat_natCast]; omega) ?_
  show _ ≤ (splice d.bs (off + 8 + i * l.s.toNat) x).length
  rw [splice_length (by omega), leBytes_length, Int.toNat_natCast]
  omega
/-- A slot is laid anew. -/
theorem GroupAt.laid (h : GroupAt d l off c) {i : Nat} (hi : i < 8) {x : GC} (hx : x.ok l) {xb : List UInt8} (hxb : xb = x.bytes l) {m : Nat} (hm : m = x.mark) : GroupAt (laidG d l off i xb (setN (wordN d off) i m)) l off (updC c i x) := by
  subst hxb hm
  have hv := valid_more h.valid
  have hl := h.len
  have hxl := GC.bytes_len h.valid hx
  have hT := laid_touch h.valid hl hi hxl (setN (wordN d off) i x.mark)
  have hin := slots_in (s := l.s.toNat) hi
  have hpos := laid_pos (off := off) h.valid i
  have hl1 : (splice d.bs (off + 8 + i * l.s.toNat) (x.bytes l)).length = d.bs.length := splice_length (by omega)
  refine ⟨h.valid, (hT.goodB _ _).trans h.good, by rw [hT.len]; exact hl, fun j hj => ?_, fun j hj => ?_, fun j hj => ?_⟩
  · unfold laidG
    rw [hpos, Int.toNat_natCast, wordN_put (by rw [hl1]; omega) (setN_lt _ _ _ (mark_lt hx)), byN_setN _ _ _ (mark_lt hx) hj]
    unfold updC
    split
    · rfl
    · exact h.word j hj
  · have hjn := slots_in (s := l.s.toNat) hj
    rw [span_nat']
    unfold laidG
    show ((splice (splice d.bs ((off : Int) + (8 + (i : Int) * l.s + 0)).toNat (x.bytes l)) ((off : Int)).toNat (leBytes (setN (wordN d off) i x.mark) 8)).drop _).take _ = _
    rw [hpos, Int.toNat_natCast, span_out (by rw [leBytes_length, hl1]; omega) (Or.inr (by rw [leBytes_length]; omega))]
    unfold updC
    by_cases hji : j = i
    · rw [if_pos hji, hji]
      exact span_in (by omega) hxl.symm
    · rw [if_neg hji]
      have hap : off + 8 + j * l.s.toNat + l.s.toNat ≤ off + 8 + i * l.s.toNat ∨ off + 8 + i * l.s.toNat + l.s.toNat ≤ off + 8 + j * l.s.toNat := by
        rcases Nat.lt_or_gt_of_ne hji with q | q
        · have := mul_apart (s := l.s.toNat) q
          omega
        · have := mul_apart (s := l.s.toNat) q
          omega
      rw [span_out (by omega) (by rw [hxl]; omega), ← span_nat']
      exact h.slot j hj
  · unfold updC
    split
    · exact hx
    · exact h.ok j hj

theorem GC.full_ok {t b : Int} {k e : ByteArray} (h1 : 0 ≤ t) (h2 : t ≤ 127) (hk : (k.size : Int) = l.k) (he : (e.size : Int) = l.e) (h3 : 0 ≤ b) (h4 : b ≤ 9223372036854775807) : (GC.full t k e b).ok l := Or.inr (Or.inr ⟨rfl, h1, h2, hk, he, h3, h4⟩)
/-- Fill of right arguments. -/
theorem GroupAt.fill (h : GroupAt d l off c) {i : Nat} (hi : i < 8) {t b : Int} {k e : ByteArray} (h1 : 0 ≤ t) (h2 : t ≤ 127) (hk : (k.size : Int) = l.k) (he : (e.size : Int) = l.e) (h3 : 0 ≤ b) (h4 : b ≤ 9223372036854775807) :
    (fillG d l off i t k e b).1 = 0 ∧ GroupAt (fillG d l off i t k e b).2 l off (updC c i (GC.full t k e b)) ∧ Touch d (fillG d l off i t k e b).2 off l.g.toNat := by
  have hE : fillErr l i t k.size e.size b = 0 := by
    unfold fillErr
    rw [if_neg (by omega), if_neg (by omega), if_neg (by omega), if_neg (by omega), if_neg (by omega)]
  have ho := GC.full_ok (l := l) h1 h2 hk he h3 h4
  have hG : fillG d l off i t k e b = (0, laidG d l off i ((GC.full t k e b).bytes l) (setN (wordN d off) i (GC.full t k e b).mark)) := by
    unfold fillG
    rw [if_pos hE, if_pos h.there, Int.toNat_natCast]
    rfl
  rw [hG]
  exact ⟨rfl, h.laid hi ho rfl rfl, laid_touch h.valid h.len hi (GC.bytes_len h.valid ho) _⟩
theorem GroupAt.erase (h : GroupAt d l off c) {i : Nat} (hi : i < 8) (t : Bool) :
    (eraseG d l off i t).1 = 0 ∧ GroupAt (eraseG d l off i t).2 l off (updC c i (if t then GC.gone else GC.zero)) ∧ Touch d (eraseG d l off i t).2 off l.g.toNat := by
  have ho : (if t then GC.gone else GC.zero).ok l := by cases t; exact Or.inl rfl; exact Or.inr (Or.inl rfl)
  have hG : eraseG d l off i t = (0, laidG d l off i (zeros l.s.toNat) (setN (wordN d off) i (if t then 254 else 128))) := by
    unfold eraseG
    rw [if_pos (by omega), if_pos h.there, Int.toNat_natCast]
  rw [hG]
  exact ⟨rfl, h.laid hi ho (by cases t <;> rfl) (by cases t <;> rfl), laid_touch h.valid h.len hi (zeros_length _) _⟩

/-- The elem of a full slot's bytes turns. -/
theorem slotB_put {k e e' : List UInt8} {b : Nat} (hv : validB l = true) (hk : (k.length : Int) = l.k) (he : (e.length : Int) = l.e) (he' : (e'.length : Int) = l.e) : splice (slotB l k e b) l.eo.toNat e' = slotB l k e' b := by
  have := valid_more hv
  have h1 : l.eo.toNat = (k ++ zeros (l.eo - l.k).toNat).length := by simp only [List.length_append, zeros_length]; omega
  have h2 : l.eo.toNat + e'.length = (k ++ zeros (l.eo - l.k).toNat ++ e).length := by simp only [List.length_append, zeros_length]; omega
  unfold splice
  rw [h2]
  unfold slotB
  have e1 : (k ++ zeros (l.eo - l.k).toNat ++ e ++ zeros (l.bo - l.eo - l.e).toNat ++ leBytes b 8).take l.eo.toNat = k ++ zeros (l.eo - l.k).toNat := by
    rw [app3, h1, List.take_left]
  have e2 : (k ++ zeros (l.eo - l.k).toNat ++ e ++ zeros (l.bo - l.eo - l.e).toNat ++ leBytes b 8).drop (k ++ zeros (l.eo - l.k).toNat ++ e).length = zeros (l.bo - l.eo - l.e).toNat ++ leBytes b 8 := by
    rw [List.append_assoc (k ++ zeros (l.eo - l.k).toNat ++ e), List.drop_left]
  rw [e1, e2]
  simp
theorem span_mid {bs x : List UInt8} {a j n : Nat} (h : j + x.length ≤ n) (hn : a + n ≤ bs.length) : ((splice bs (a + j) x).drop a).take n = splice ((bs.drop a).take n) j x := by
  have hl : ((bs.drop a).take n).length = n := by simp; omega
  apply List.ext_getElem?
  intro q
  rw [splice_get (by omega)]
  simp only [List.getElem?_take, List.getElem?_drop]
  by_cases hq : q < n
  · rw [if_pos hq, if_pos hq, splice_get (by omega)]
    by_cases hm : j ≤ q ∧ q < j + x.length
    · rw [if_pos (by omega), if_pos hm]
      congr 1
      omega
    · rw [if_neg (by omega), if_neg hm]
  · rw [if_neg hq, if_neg hq, if_neg (by omega)]
theorem GroupAt.setElem (h : GroupAt d l off c) {i : Nat} (hi : i < 8) {e : ByteArray} (he : (e.size : Int) = l.e) (h2 : (c i).kind = 2) :
    (setElemG d l off i e).1 = 0 ∧ GroupAt (setElemG d l off i e).2 l off (updC c i { c i with elem := e }) ∧ Touch d (setElemG d l off i e).2 off l.g.toNat := by
  have hv := valid_more h.valid
  have hl := h.len
  have hin := slots_in (s := l.s.toNat) hi
  have hw := h.word i hi
  have hs := h.slot i hi
  have ho := h.ok i hi
  have hm := (GC.mark_full ho).1.2 h2
  have hpos : ((off : Int) + (8 + (i : Int) * l.s + l.eo)).toNat = off + 8 + i * l.s.toNat + l.eo.toNat := toNat_at (by omega) (by omega)
  have hel : e.data.toList.length = e.size := data_len e
  have hG : setElemG d l off i e = (0, d.bytes (Go.Proofs.YtgckinldnnckoaaGreatDoor.splice d.bs (off + 8 + i * l.s.toNat + l.eo.toNat) e.data.toList)) := by
    unfold setElemG
    rw [if_pos (by omega), if_pos he, if_pos h.there, Int.toNat_natCast, hw, if_pos hm, hpos]
  rw [hG]
  have hT : Touch d (d.bytes (Go.Proofs.YtgckinldnnckoaaGreatDoor.splice d.bs (off + 8 + i * l.s.toNat + l.eo.toNat) e.data.toList)) off l.g.toNat := Touch.splice d (by omega) (by omega) (by omega)
  refine ⟨rfl, ⟨h.valid, h.good, by rw [hT.len]; exact hl, fun j hj => ?_, fun j hj => ?_, fun j hj => ?_⟩, hT⟩
  · have e1 : wordN (d.bytes (Go.Proofs.YtgckinldnnckoaaGreatDoor.splice d.bs (off + 8 + i * l.s.toNat + l.eo.toNat) e.data.toList)) (off : Int) = wordN d (off : Int) := by
      unfold wordN
      have : (8 : Int) = ((8 : Nat) : Int) := rfl
      rw [this, span_nat, span_nat]
      exact congrArg numOf (span_out (by omega) (Or.inl (by omega)))
    rw [e1, h.word j hj]
    unfold updC
    split
    · rename_i q
      subst q
      rfl
    · rfl
  · have hjn := slots_in (s := l.s.toNat) hj
    rw [span_nat']
    show ((Go.Proofs.YtgckinldnnckoaaGreatDoor.splice d.bs (off + 8 + i * l.s.toNat + l.eo.toNat) e.data.toList).drop _).take _ = _
    unfold updC
    by_cases hji : j = i
    · rw [if_pos hji, hji, span_mid (by omega) (by omega), ← span_nat', hs]
      rcases ho with q | q | ⟨_, q1, q2, hk, he0, q3, q4⟩
      · rw [q] at h2
        exact absurd h2 (by decide)
      · rw [q] at h2
        exact absurd h2 (by decide)
      have b1 : (c i).bytes l = slotB l (c i).key.data.toList (c i).elem.data.toList (c i).birth.toNat := if_pos h2
      have b2 : ({ c i with elem := e } : GC).bytes l = slotB l (c i).key.data.toList e.data.toList (c i).birth.toNat := if_pos h2
      rw [b1, b2]
      exact slotB_put h.valid (by rw [data_len]; exact hk) (by rw [data_len]; exact he0) (by rw [data_len]; exact he)
    · rw [if_neg hji]
      have hap : off + 8 + j * l.s.toNat + l.s.toNat ≤ off + 8 + i * l.s.toNat ∨ off + 8 + i * l.s.toNat + l.s.toNat ≤ off + 8 + j * l.s.toNat := by
        rcases Nat.lt_or_gt_of_ne hji with q | q
        · have := mul_apart (s := l.s.toNat) q
          omega
        · have := mul_apart (s := l.s.toNat) q
          omega
      rw [span_out (by omega) (by omega), ← span_nat']
      exact h.slot j hj
  · unfold updC
    split
    · rcases ho with q | q | ⟨_, q1, q2, hk, he0, q3, q4⟩
      · rw [q] at h2
        exact absurd h2 (by decide)
      · rw [q] at h2
        exact absurd h2 (by decide)
      · exact Or.inr (Or.inr ⟨h2, q1, q2, hk, he, q3, q4⟩)
    · exact h.ok j hj
theorem GroupAt.vacant (h : GroupAt d l off c) {i : Nat} (hi : i < 8) {e : ByteArray} (he : (e.size : Int) = l.e) (h2 : (c i).kind ≠ 2) : setElemG d l off i e = (65, d) := by
  have hm := (GC.mark_full (h.ok i hi)).1
  unfold setElemG
  rw [if_pos (by omega), if_pos he, if_pos h.there, Int.toNat_natCast, h.word i hi, if_neg (fun e => h2 (hm.1 e))]

/-- A word alone is laid. -/
theorem word_touch (hv : validB l = true) (hl : off + l.g.toNat ≤ d.bs.length) (W : Nat) : Touch d (wordG d off W) off l.g.toNat := by
  have := valid_more hv
  unfold wordG
  rw [Int.toNat_natCast]
  exact Touch.splice d (by omega) (by rw [leBytes_length]; omega) (by rw [leBytes_length]; omega)
theorem word_slot (hv : validB l = true) (hl : off + l.g.toNat ≤ d.bs.length) (W : Nat) {j : Nat} (hj : j < 8) : (wordG d off W).span ((off + 8 + j * l.s.toNat : Nat) : Int) l.s = d.span ((off + 8 + j * l.s.toNat : Nat) : Int) l.s := by
  have := valid_more hv
  have hjn := slots_in (s := l.s.toNat) hj
  rw [span_nat', span_nat']
  show ((Go.Proofs.YtgckinldnnckoaaGreatDoor.splice d.bs ((off : Int)).toNat (leBytes W 8)).drop _).take _ = _
  rw [Int.toNat_natCast]
  exact span_out (by rw [leBytes_length]; omega) (Or.inr (by rw [leBytes_length]; omega))
def pruC (x : GC) : GC := if x.kind = 1 then GC.zero else x
theorem pru_ok {x : GC} (h : x.ok l) : (pruC x).ok l := by
  unfold pruC
  split
  · exact Or.inl rfl
  · exact h
theorem pru_mark {x : GC} (h : x.ok l) : (pruC x).mark = clB x.mark := by
  rcases h with rfl | rfl | ⟨h2, h3, h4, _⟩
  · decide
  · decide
  · have e : pruC x = x := if_neg (by omega)
    have : x.mark = x.tag.toNat := if_pos h2
    rw [e]
    unfold clB
    rw [if_neg (by omega)]
theorem pru_bytes (x : GC) : (pruC x).bytes l = x.bytes l := by
  unfold pruC
  split
  · rename_i q
    unfold GC.bytes
    rw [if_neg (by decide), if_neg (by omega)]
  · rfl
theorem GroupAt.prune (h : GroupAt d l off c) :
    (pruneG d l off).1.2 = 0 ∧ (pruneG d l off).1.1 = (((List.range 8).countP (fun i => decide ((c i).kind = 1)) : Nat) : Int) ∧ GroupAt (pruneG d l off).2 l off (fun j => pruC (c j)) ∧ Touch d (pruneG d l off).2 off l.g.toNat := by
  have hv := valid_more h.valid
  have hl := h.len
  have hG : pruneG d l off = ((((goneN (wordN d off) : Nat) : Int), 0), wordG d off (clN (wordN d off))) := by
    unfold pruneG
    rw [if_pos h.there]
  have hT := word_touch h.valid hl (clN (wordN d off))
  rw [hG]
  refine ⟨rfl, ?_, ⟨h.valid, h.good, by rw [hT.len]; exact hl, fun j hj => ?_, fun j hj => ?_, fun j hj => pru_ok (h.ok j hj)⟩, hT⟩
  · show ((goneN (wordN d off) : Nat) : Int) = _
    congr 1
    unfold goneN
    refine List.countP_congr fun i hi => ?_
    have hi8 := List.mem_range.1 hi
    rw [h.word i hi8]
    have hm := (GC.mark_full (h.ok i hi8)).2
    have ho := h.ok i hi8
    simp only [beq_iff_eq, decide_eq_true_eq]
    rw [hm]
    constructor
    · intro q
      rw [q]
      rfl
    · intro q
      rcases ho with q1 | q1 | ⟨q1, _⟩
      · rw [q1] at q
        exact absurd q (by decide)
      · exact q1
      · omega
  · unfold wordG
    rw [Int.toNat_natCast, wordN_put (by omega) (clN_lt _), byN_clN _ hj, h.word j hj]
    exact (pru_mark (h.ok j hj)).symm
  · rw [word_slot h.valid hl _ hj, h.slot j hj]
    exact (pru_bytes _).symm
theorem reset_group (hF : d.Fine) (hT : thereB d l off = true) : (resetG d l off).1 = 0 ∧ GroupAt (resetG d l off).2 l off (fun _ => GC.zero) ∧ Touch d (resetG d l off).2 off l.g.toNat := by
  have hG : resetG d l off = (0, wordG (d.bytes (Go.Proofs.YtgckinldnnckoaaGreatDoor.splice d.bs off (zeros l.g.toNat))) off 9259542123273814144) := by
    unfold resetG
    rw [if_pos hT, Int.toNat_natCast]
  unfold thereB at hT
  rw [Bool.and_eq_true] at hT
  obtain ⟨hval, hg⟩ := hT
  have hv := valid_more hval
  obtain ⟨o, n, ho, hn, _, hlen⟩ := hF.span hg
  have hl : off + l.g.toNat ≤ d.bs.length := by omega
  have t1 : Touch d (d.bytes (Go.Proofs.YtgckinldnnckoaaGreatDoor.splice d.bs off (zeros l.g.toNat))) off l.g.toNat := Touch.splice d (by omega) (by rw [zeros_length]; omega) (by rw [zeros_length]; omega)
  have hl1 : off + l.g.toNat ≤ (d.bytes (Go.Proofs.YtgckinldnnckoaaGreatDoor.splice d.bs off (zeros l.g.toNat))).bs.length := by rw [t1.len]; exact hl
  have t2 := word_touch (d := d.bytes (Go.Proofs.YtgckinldnnckoaaGreatDoor.splice d.bs off (zeros l.g.toNat))) hval hl1 9259542123273814144
  rw [hG]
  refine ⟨rfl, ⟨hval, hg, by rw [t2.len]; exact hl1, fun j hj => ?_, fun j hj => ?_, fun j hj => Or.inl rfl⟩, t1.trans t2⟩
  · unfold wordG
    rw [Int.toNat_natCast, wordN_put (by omega) (by decide), highs_by hj]
    rfl
  · have hjn := slots_in (s := l.s.toNat) hj
    rw [word_slot hval hl1 _ hj, span_nat']
    show ((Go.Proofs.YtgckinldnnckoaaGreatDoor.splice d.bs off (zeros l.g.toNat)).drop _).take _ = zeros l.s.toNat
    have : off + 8 + j * l.s.toNat = off + (8 + j * l.s.toNat) := by omega
    rw [this, span_part (n := l.g.toNat) (by omega), span_in (by rw [zeros_length]; omega) (by rw [zeros_length])]
    unfold zeros
    rw [List.drop_replicate, List.take_replicate]
    congr 1
    omega
end
end Go.Proofs.YtgckinldnnckoaaGreatDoor
/-
  The calls of ctrl: what each answers.
-/
namespace Go.Proofs.YtgckinldnnckoaaGreatDoor.Ct
open Go.RowKit
set_option linter.unusedVariables false

theorem u64_nat {n : Int} (h : (Lit.int .u64 n).wf = true) : ∃ m : Nat, n = (m : Int) ∧ m < 18446744073709551616 := by
  have h2 : 0 ≤ n ∧ n < 18446744073709551616 := by
    have e1 : IntKind.u64.min = 0 := rfl
    have e2 : IntKind.u64.max = 18446744073709551615 := rfl
    simp only [Lit.wf, decide_eq_true_eq, Bool.and_eq_true] at h
    rw [e1, e2] at h
    omega
  exact ⟨n.toNat, by omega, by omega⟩

/-- What was there stays; what is new may be anything. -/
def Kp (w w' : World) : Prop := Below w.heap.size w w'
theorem Kp.refl (w : World) : Kp w w := Below.refl _ _
theorem Kp.trans {w w1 w2 : World} (h : Kp w w1) (k : Kp w1 w2) : Kp w w2 := Below.trans h (Below.mono k h.size)
theorem Kp.alloc {w w1 : World} (h : Kp w w1) (o : Obj) : Kp w (w1.alloc o) := Below.alloc h h.size o
theorem Kp.drew {w w1 : World} (h : Kp w w1) : Kp w w1.drew := Below.drew h
theorem Kp.drewN {w w1 : World} (h : Kp w w1) (n : Nat) : Kp w (w1.drewN n) := ⟨h.os, h.tape, h.output, h.size, h.block⟩
theorem Kp.cell {w w1 : World} (h : Kp w w1) {p : Addr} {v : Value} (hp : w.cell? p = some v) : w1.cell? p = some v := by
  have : p.block < w.heap.size := by
    refine Nat.lt_of_not_le fun hn => ?_
    rw [World.cell?, Array.getElem?_eq_none hn] at hp
    cases hp
  exact (Below.cell h this).trans hp
theorem Kp.blk {w w1 : World} (h : Kp w w1) {b : Nat} {x : Obj} (hb : w.heap[b]? = some x) : w1.heap[b]? = some x :=
  (h.block b (Array.getElem?_eq_some_iff.1 hb).1).trans hb
theorem hide {p : Prop} (h : p) : Hid p := h
theorem heap_new (w : World) (o : Obj) : (w.alloc o).heap[w.heap.size]? = some o := by
  show (w.heap.push o)[w.heap.size]? = _
  simp
theorem heap_old {w : World} {b : Nat} {x : Obj} (h : w.heap[b]? = some x) (o : Obj) : (w.alloc o).heap[b]? = some x :=
  (Below.heap_alloc w o b (Array.getElem?_eq_some_iff.1 h).1).trans h
theorem set_one {w : World} {b : Nat} {cs : Array Value} {t : TypeId} (h : w.heap[b]? = some (.cells cs t)) (i : Nat) (v : Value) (hi : i < cs.size) :
    (w.setCell ⟨b, i, none⟩ v).heap[b]? = some (.cells (cs.set i v hi) t) := by
  have hlt := (Array.getElem?_eq_some_iff.1 h).1
  have hv := (Array.getElem?_eq_some_iff.1 h).2
  simp only [World.setCell, Array.getElem?_modify]
  simp [hlt, hv, hi, Array.setIfInBounds]
theorem one_cell {w : World} {b : Nat} {v : Value} {t : TypeId} (h : w.heap[b]? = some (.cells #[v] t)) : w.cell? ⟨b, 0, none⟩ = some v ∧ w.frozen? ⟨b, 0, none⟩ = false := by
  simp [World.cell?, World.frozen?, h]
theorem one_set {w0 w : World} {b : Nat} {u v : Value} {t : TypeId} (h : w.heap[b]? = some (.cells #[u] t)) (k : Kp w0 w) (hb : w0.heap.size ≤ b)
    {P : World → Prop} (hP : ∀ w9, w9.heap[b]? = some (.cells #[v] t) → Kp w0 w9 → P w9) : P (w.setCell ⟨b, 0, none⟩ v) :=
  hP _ (set_one h 0 v (by simp)) (Below.setCell k hb _)

/-- A set of slots as the program hands it on. -/
def setV (m : Nat) : Value := .agg #[.int .u64 ((spread m : Nat) : Int)]

set_option maxHeartbeats 400000 in
theorem isSlot_yes (i : Int) (h0 : 0 ≤ i) (h8 : i < 8) (w : World) :
    Calls Tryz.prog 117 #[.int .i64 i] w fun e w' => e = .returned (.bool true) ∧ w' = w := by
  go_enter Tryz.func117, Tryz.ntmps117
  go_wp2_with fail
  go_ret
  exact ⟨rfl, rfl⟩

set_option maxHeartbeats 400000 in
theorem isSlot_no (i : Int) (h : ¬ (0 ≤ i ∧ i < 8)) (w : World) :
    Calls Tryz.prog 117 #[.int .i64 i] w fun e w' => e = .returned (.bool false) ∧ w' = w := by
  by_cases h0 : 0 ≤ i
  · have h8 : ¬ i < 8 := fun q => h ⟨h0, q⟩
    clear h
    go_enter Tryz.func117, Tryz.ntmps117
    go_wp2_with fail
    go_ret
    exact ⟨rfl, rfl⟩
  · clear h
    go_enter Tryz.func117, Tryz.ntmps117
    go_wp2_with fail
    go_ret
    exact ⟨rfl, rfl⟩

set_option maxHeartbeats 400000 in
theorem empty_any (w : World) :
    Calls Tryz.prog 91 #[] w fun e w' => e = .returned (.int .u64 9259542123273814144) ∧ w' = w := by
  go_enter Tryz.func91, Tryz.ntmps91
  go_wp2_with fail
  go_ret
  exact ⟨rfl, rfl⟩

theorem not_u64 (a : Nat) (ha : a < 18446744073709551616) : bits BinOp.xor IntKind.u64 IntKind.u64.max (a : Int) = ((18446744073709551615 - a : Nat) : Int) := by
  have e : IntKind.u64.max = ((18446744073709551615 : Nat) : Int) := rfl
  rw [e, bits_xor_u64_nat _ _ (by decide) ha]
  congr 1
  have h := Nat.xor_comm 18446744073709551615 a
  have e2 : (18446744073709551615 : Nat) = 2 ^ 64 - 1 := by decide
  refine Nat.eq_of_testBit_eq fun i => ?_
  rw [e2, Nat.sub_sub, Nat.add_comm 1 a, Nat.testBit_two_pow_sub_succ (by exact ha), Nat.testBit_xor, Nat.testBit_two_pow_sub_one]
  by_cases h : i < 64
  · simp [h]
  · have : a.testBit i = false := Nat.testBit_lt_two_pow (Nat.lt_of_lt_of_le ha (Nat.pow_le_pow_right (n := 2) (by decide) (by omega : 64 ≤ i)))
    simp [h, this]

set_option maxHeartbeats 400000 in
theorem equal_any (W c : Nat) (hw : W < 18446744073709551616) (hc : c < 256) (w : World) :
    Calls Tryz.prog 145 #[.int .u64 (W : Int), .int .u64 (c : Int)] w fun e w' => e = .returned (setV (mk (· == c) W)) ∧ Kp w w' := by
  unfold setV
  rw [← eqN_spread hw hc]
  have x1 : bits BinOp.xor IntKind.u64 (W : Int) ((c : Int) * 72340172838076673) = ((xN W c : Nat) : Int) := by
    have := bits_xor_u64_nat W (c * 72340172838076673) hw (by omega)
    rw [Int.natCast_mul] at this
    exact this
  have hx := xN_lt hw hc
  have x2 : bits BinOp.and IntKind.u64 ((xN W c : Nat) : Int) 9187201950435737471 = ((xN W c &&& 9187201950435737471 : Nat) : Int) := u64_and_nat _ 9187201950435737471 hx (by decide)
  have x3 : IntKind.u64.wrap (((xN W c &&& 9187201950435737471 : Nat) : Int) + 9187201950435737471) = (((xN W c &&& 9187201950435737471) + 9187201950435737471 : Nat) : Int) := by
    rw [IntKind.wrap_u64]
    have := sum_lt (xN W c)
    omega
  have x4 : bits BinOp.or IntKind.u64 ((xN W c : Nat) : Int) (((xN W c &&& 9187201950435737471) + 9187201950435737471 : Nat) : Int) = ((difN W c : Nat) : Int) := u64_or_nat _ _ hx (sum_lt _)
  have x5 := not_u64 (difN W c) (difN_lt hw hc)
  have x6 : bits BinOp.and IntKind.u64 ((18446744073709551615 - difN W c : Nat) : Int) 9259542123273814144 = ((eqN W c : Nat) : Int) := u64_and_nat _ 9259542123273814144 (by omega) (by decide)
  generalize (18446744073709551615 - difN W c) = z5 at *
  generalize eqN W c = z6 at *
  generalize difN W c = z4 at *
  generalize ((xN W c &&& 9187201950435737471) + 9187201950435737471) = z3 at *
  generalize (xN W c &&& 9187201950435737471) = z2 at *
  generalize xN W c = z1 at *
  go_enter Tryz.func145, Tryz.ntmps145
  go_wp2_with fail
  refine bodyPost_ret (v := .agg #[.int .u64 (z6 : Int)]) (by simp [results, Tryz.results145, go_sem]) rfl ⟨rfl, (Kp.refl _).alloc _⟩

set_option maxHeartbeats 400000 in
theorem full_any (W : Nat) (hw : W < 18446744073709551616) (w : World) :
    Calls Tryz.prog 93 #[.int .u64 (W : Int)] w fun e w' => e = .returned (setV (mk (fun x => decide (x < 128)) W)) ∧ Kp w w' := by
  unfold setV
  rw [← full_spread hw]
  have x5 := not_u64 W hw
  have x6 : bits BinOp.and IntKind.u64 ((18446744073709551615 - W : Nat) : Int) 9259542123273814144 = (((18446744073709551615 - W) &&& 9259542123273814144 : Nat) : Int) := u64_and_nat _ 9259542123273814144 (by omega) (by decide)
  generalize ((18446744073709551615 - W) &&& 9259542123273814144) = z6 at *
  generalize (18446744073709551615 - W) = z5 at *
  go_enter Tryz.func93, Tryz.ntmps93
  go_wp2_with fail
  refine bodyPost_ret (v := .agg #[.int .u64 (z6 : Int)]) (by simp [results, Tryz.results93, go_sem]) rfl ⟨rfl, (Kp.refl _).alloc _⟩

theorem field_set (n : Int) (w : World) : Sem.run Tryz.prog (Instr.field 168 (.agg #[.int .u64 n]) 0) w = .ok (.int .u64 n) w := by kernel_rfl

set_option maxHeartbeats 400000 in
theorem mempty_any (W : Nat) (hw : W < 18446744073709551616) (w : World) :
    Calls Tryz.prog 151 #[.int .u64 (W : Int)] w fun e w' => e = .returned (setV (mk (· == 128) W)) ∧ Kp w w' := by
  have t1 : ∀ w, Calls Tryz.prog 145 #[.int .u64 (W : Int), .int .u64 128] w fun e w' => e = .returned (setV (mk (· == 128) W)) ∧ Kp w w' := equal_any W 128 hw (by decide)
  unfold setV at *
  generalize spread (mk (· == 128) W) = M at *
  go_enter Tryz.func151, Tryz.ntmps151
  go_wp2_with fail
  refine (t1 _).mono ?_
  rintro e w' ⟨rfl, k1⟩
  have hB := k1.blk (heap_new _ _)
  replace k1 := ((Kp.refl w).alloc _).trans k1
  obtain ⟨b0, b1⟩ := one_cell hB
  go_wp2_with fail
  refine one_set hB k1 (Nat.le_refl _) (P := fun w9 => bodyPost _ _ _ _ _ w9) fun w9 h9 k9 => ?_
  obtain ⟨c0, -⟩ := one_cell h9
  refine bodyPost_ret (v := .agg #[.int .u64 (M : Int)]) (by simp [results, Tryz.results151, go_sem, c0]) rfl ⟨rfl, k9⟩

set_option maxHeartbeats 400000 in
theorem vacant_any (W : Nat) (hw : W < 18446744073709551616) (w : World) :
    Calls Tryz.prog 150 #[.int .u64 (W : Int)] w fun e w' => e = .returned (setV (mk (fun x => x == 128 || x == 254) W)) ∧ Kp w w' := by
  have t1 : ∀ w, Calls Tryz.prog 145 #[.int .u64 (W : Int), .int .u64 128] w fun e w' => e = .returned (setV (mk (· == 128) W)) ∧ Kp w w' := equal_any W 128 hw (by decide)
  have t2 : ∀ w, Calls Tryz.prog 145 #[.int .u64 (W : Int), .int .u64 254] w fun e w' => e = .returned (setV (mk (· == 254) W)) ∧ Kp w w' := equal_any W 254 hw (by decide)
  have x6 : bits BinOp.or IntKind.u64 ((spread (mk (· == 128) W) : Nat) : Int) ((spread (mk (· == 254) W) : Nat) : Int) = ((spread (mk (fun x => x == 128 || x == 254) W) : Nat) : Int) := by
    rw [u64_or_nat _ _ (spread_lt _) (spread_lt _), or_spread]
  have fl := field_set
  unfold setV at *
  generalize spread (mk (· == 128) W) = z1 at *
  generalize spread (mk (· == 254) W) = z2 at *
  generalize spread (mk (fun x => x == 128 || x == 254) W) = z3 at *
  go_enter Tryz.func150, Tryz.ntmps150
  go_wp2_with fail
  refine (t1 _).mono ?_
  rintro e w1 ⟨rfl, k1⟩
  have hB := k1.blk (heap_new _ _)
  replace k1 := ((Kp.refl w).alloc _).trans k1
  go_wp2_with fail
  refine (t2 _).mono ?_
  rintro e w2 ⟨rfl, k2⟩
  replace hB := k2.blk hB
  replace k1 := k1.trans k2
  clear k2
  obtain ⟨b0, b1⟩ := one_cell hB
  go_wp2_with fail
  refine one_set hB k1 (Nat.le_refl _) (P := fun w9 => bodyPost _ _ _ _ _ w9) fun w9 h9 k9 => ?_
  obtain ⟨c0, -⟩ := one_cell h9
  refine bodyPost_ret (v := .agg #[.int .u64 (z3 : Int)]) (by simp [results, Tryz.results150, go_sem, c0]) rfl ⟨rfl, k9⟩

/-- The slots with a tag. -/
def tagB (tag : Int) (x : Nat) : Bool := decide (tag ≤ 127 ∧ (x : Int) = tag)

set_option maxHeartbeats 400000 in
theorem match_any (W : Nat) (tag : Int) (hw : W < 18446744073709551616) (w : World) :
    Calls Tryz.prog 111 #[.int .u64 (W : Int), .int .i64 tag] w fun e w' => e = .returned (setV (mk (tagB tag) W)) ∧ Kp w w' := by
  by_cases h : 0 ≤ tag ∧ tag ≤ 127
  · obtain ⟨h0, h1⟩ := h
    obtain ⟨T, rfl⟩ : ∃ T : Nat, tag = (T : Int) := ⟨tag.toNat, by omega⟩
    have t1 := equal_any W T hw (by omega)
    have e : mk (tagB (T : Int)) W = mk (· == T) W := by
      congr 1
      funext x
      unfold tagB
      by_cases hx : x = T
      · subst hx
        simp
        omega
      · have : ¬ (x : Int) = (T : Int) := by omega
        simp [hx, this]
    rw [e]
    clear e
    unfold setV at *
    generalize spread (mk (· == T) W) = M at *
    have a1 : ¬ (T : Int) < 0 := by omega
    have a2 : ¬ 128 ≤ (T : Int) := by omega
    clear h0
    go_enter Tryz.func111, Tryz.ntmps111
    go_wp2_with fail
    refine (t1 _).mono ?_
    rintro e w' ⟨rfl, k1⟩
    have hB := k1.blk (heap_new _ _)
    replace k1 := ((Kp.refl w).alloc _).trans k1
    obtain ⟨b0, b1⟩ := one_cell hB
    go_wp2_with fail
    refine one_set hB k1 (Nat.le_refl _) (P := fun w9 => bodyPost _ _ _ _ _ w9) fun w9 h9 k9 => ?_
    obtain ⟨c0, -⟩ := one_cell h9
    refine bodyPost_ret (v := .agg #[.int .u64 (M : Int)]) (by simp [results, Tryz.results111, go_sem, c0]) rfl ⟨rfl, k9⟩
  · have e : mk (tagB tag) W = 0 := by
      have e2 : tagB tag = fun _ => false := by
        funext x
        unfold tagB
        rw [decide_eq_false_iff_not]
        omega
      rw [e2]
      rfl
    rw [e]
    clear e
    have e3 : setV 0 = .agg #[.int .u64 0] := rfl
    rw [e3]
    by_cases h0 : tag < 0
    · clear h
      go_enter Tryz.func111, Tryz.ntmps111
      go_wp2_with fail
      refine bodyPost_ret (v := .agg #[.int .u64 0]) (by simp [results, Tryz.results111, go_sem]) rfl ⟨rfl, (Kp.refl _).alloc _⟩
    · have h1 : 128 ≤ tag := by omega
      clear h
      go_enter Tryz.func111, Tryz.ntmps111
      go_wp2_with fail
      refine bodyPost_ret (v := .agg #[.int .u64 0]) (by simp [results, Tryz.results111, go_sem]) rfl ⟨rfl, (Kp.refl _).alloc _⟩

theorem pow_split (i : Nat) : ((2 ^ (8 * i) : Nat) : Int) = (2 : Int) ^ (8 * i) := by rw [Int.natCast_pow]; rfl
theorem and_val (W i : Nat) (hw : W < 18446744073709551616) : bits BinOp.and IntKind.u64 ((W : Int) / 2 ^ (8 * i)) 255 = ((byN W i : Nat) : Int) := by
  have e : (W : Int) / 2 ^ (8 * i) = ((W / 2 ^ (8 * i) : Nat) : Int) := by rw [Int.natCast_ediv, pow_split]
  have hle : W / 2 ^ (8 * i) ≤ W := Nat.div_le_self _ _
  rw [e]
  have e2 := u64_and_nat (W / 2 ^ (8 * i)) 255 (by omega) (by decide)
  rw [show ((255 : Nat) : Int) = 255 from rfl] at e2
  rw [e2, nat_mask8]
  unfold byN
  rw [pow_byte]
theorem get_val (W i : Nat) (hw : W < 18446744073709551616) : wrap64 (bits BinOp.and IntKind.u64 ((W : Int) / 2 ^ (8 * i)) 255) = ((byN W i : Nat) : Int) := by
  rw [and_val W i hw]
  have := byN_lt W i
  unfold wrap64
  omega

set_option maxHeartbeats 400000 in
theorem get_in (W i : Nat) (hw : W < 18446744073709551616) (hi : i < 8) (w : World) :
    Calls Tryz.prog 81 #[.int .u64 (W : Int), .int .i64 (i : Int)] w fun e w' => e = .returned (.int .i64 ((byN W i : Nat) : Int)) ∧ w' = w := by
  have t1 := isSlot_yes (i : Int) (by omega) (by omega) w
  have hi' : (i : Int) < 8 := by omega
  have hx := get_val W i hw
  generalize byN W i = B at *
  go_enter Tryz.func81, Tryz.ntmps81
  go_wp2_with fail
  refine t1.mono ?_
  rintro e w' ⟨rfl, rfl⟩
  go_wp2_with fail
  go_ret
  exact ⟨by rw [← hx]; rfl, rfl⟩

set_option maxHeartbeats 400000 in
theorem get_out (W : Nat) (i : Int) (h : ¬ (0 ≤ i ∧ i < 8)) (w : World) :
    Calls Tryz.prog 81 #[.int .u64 (W : Int), .int .i64 i] w fun e w' => e = .returned (.int .i64 (-1)) ∧ w' = w := by
  have t1 := isSlot_no i h w
  clear h
  go_enter Tryz.func81, Tryz.ntmps81
  go_wp2_with fail
  refine t1.mono ?_
  rintro e w' ⟨rfl, rfl⟩
  go_wp2_with fail
  go_ret
  exact ⟨rfl, rfl⟩

theorem set_val (W i c : Nat) (hw : W < 18446744073709551616) (hi : i < 8) (hc : c < 256) :
    bits BinOp.or IntKind.u64 (bits BinOp.andNot IntKind.u64 (W : Int) (IntKind.u64.wrap (255 * 2 ^ (8 * i)))) (IntKind.u64.wrap ((c : Int) * 2 ^ (8 * i))) = ((setN W i c : Nat) : Int) := by
  have h1 := shl_lt (c := 255) (by decide) hi
  have h2 := shl_lt hc hi
  have e1 : IntKind.u64.wrap (255 * 2 ^ (8 * i)) = ((255 * 2 ^ (8 * i) : Nat) : Int) := by
    rw [IntKind.wrap_u64, Int.natCast_mul, pow_split]
    refine Int.emod_eq_of_lt ?_ ?_ <;> (rw [← pow_split]; omega)
  have e2 : IntKind.u64.wrap ((c : Int) * 2 ^ (8 * i)) = ((c * 2 ^ (8 * i) : Nat) : Int) := by
    rw [IntKind.wrap_u64, Int.natCast_mul, pow_split]
    refine Int.emod_eq_of_lt ?_ ?_ <;> (rw [← pow_split, ← Int.natCast_mul]; omega)
  rw [e1, e2, u64_andNot_nat _ _ hw h1, u64_or_nat _ _ (Nat.lt_of_le_of_lt Nat.and_le_left hw) h2, set_set hw hi hc]

set_option maxHeartbeats 400000 in
theorem set_in (W i c : Nat) (hw : W < 18446744073709551616) (hi : i < 8) (hc : c < 256) (w : World) :
    Calls Tryz.prog 100 #[.int .u64 (W : Int), .int .i64 (i : Int), .int .i64 (c : Int)] w fun e w' => e = .returned (.int .u64 ((setN W i c : Nat) : Int)) ∧ Kp w w' := by
  have t1 := isSlot_yes (i : Int) (by omega) (by omega) w
  have hi' : (i : Int) < 8 := by omega
  have hc0 : ¬ (c : Int) < 0 := by omega
  have hc' : ¬ 255 < (c : Int) := by omega
  have hx := set_val W i c hw hi hc
  go_enter Tryz.func100, Tryz.ntmps100
  go_wp2_with fail
  refine t1.mono ?_
  rintro e w' ⟨rfl, rfl⟩
  go_wp2_with fail
  go_quiet (fail)
  go_wp2_with fail
  go_ret
  exact ⟨by rw [← hx]; rfl, (Kp.refl _).drewN _⟩

set_option maxHeartbeats 400000 in
theorem set_out (W : Nat) (i c : Int) (h : ¬ (0 ≤ i ∧ i < 8 ∧ 0 ≤ c ∧ c ≤ 255)) (w : World) :
    Calls Tryz.prog 100 #[.int .u64 (W : Int), .int .i64 i, .int .i64 c] w fun e w' => e = .returned (.int .u64 (W : Int)) ∧ Kp w w' := by
  by_cases hi : 0 ≤ i ∧ i < 8
  · have t1 := isSlot_yes i hi.1 hi.2 w
    by_cases h0 : c < 0
    · clear h hi
      go_enter Tryz.func100, Tryz.ntmps100
      go_wp2_with fail
      refine t1.mono ?_
      rintro e w' ⟨rfl, rfl⟩
      go_wp2_with fail
      go_ret
      exact ⟨rfl, Kp.refl _⟩
    · have h5 : 255 < c := by omega
      clear h hi
      go_enter Tryz.func100, Tryz.ntmps100
      go_wp2_with fail
      refine t1.mono ?_
      rintro e w' ⟨rfl, rfl⟩
      go_wp2_with fail
      go_ret
      exact ⟨rfl, Kp.refl _⟩
  · have t1 := isSlot_no i hi w
    clear h hi
    go_enter Tryz.func100, Tryz.ntmps100
    go_wp2_with fail
    refine t1.mono ?_
    rintro e w' ⟨rfl, rfl⟩
    go_wp2_with fail
    go_ret
    exact ⟨rfl, Kp.refl _⟩

theorem spread_bit (m : Nat) {i : Nat} (hi : i < 8) : spread m / 2 ^ (8 * i + 7) % 2 = m / 2 ^ i % 2 := by
  have h := byN_spread m hi
  have hb := bit_lt m i
  unfold byN at h
  rw [Nat.pow_add, ← Nat.div_div_eq_div_mul, ← pow_byte]
  generalize spread m / 256 ^ i = X at *
  generalize m / 2 ^ i % 2 = Y at *
  have : (2 : Nat) ^ 7 = 128 := by decide
  rw [this]
  omega
theorem has_val (m i : Nat) (hi : i < 8) : (bits BinOp.and IntKind.u64 (((spread m : Nat) : Int) / 2 ^ (8 * i + 7)) 1 == 1) = hasM m i := by
  have e : ((spread m : Nat) : Int) / 2 ^ (8 * i + 7) = ((spread m / 2 ^ (8 * i + 7) : Nat) : Int) := by rw [Int.natCast_ediv, Int.natCast_pow]; rfl
  have hle : spread m / 2 ^ (8 * i + 7) ≤ spread m := Nat.div_le_self _ _
  have hl := spread_lt m
  have e2 := u64_and_nat (spread m / 2 ^ (8 * i + 7)) 1 (by omega) (by decide)
  rw [show ((1 : Nat) : Int) = 1 from rfl] at e2
  rw [e, e2, nat_mask1, spread_bit m hi]
  unfold hasM
  have := bit_lt m i
  rcases (by omega : m / 2 ^ i % 2 = 0 ∨ m / 2 ^ i % 2 = 1) with h | h <;> rw [h] <;> rfl

set_option maxHeartbeats 400000 in
theorem has_in (m i : Nat) (hi : i < 8) (w : World) :
    Calls Tryz.prog 94 #[setV m, .int .i64 (i : Int)] w fun e w' => e = .returned (.bool (hasM m i)) ∧ Kp w w' := by
  have t1 := isSlot_yes (i : Int) (by omega) (by omega)
  have hi' : (i : Int) < 8 := by omega
  have hx := has_val m i hi
  unfold setV
  go_enter Tryz.func94, Tryz.ntmps94
  go_wp2_with fail
  refine (t1 _).mono ?_
  rintro e w' ⟨rfl, rfl⟩
  go_wp2_with fail
  go_ret
  exact ⟨by rw [← hx]; rfl, (Kp.refl _).alloc _⟩

set_option maxHeartbeats 400000 in
theorem has_out (m : Nat) (i : Int) (h : ¬ (0 ≤ i ∧ i < 8)) (w : World) :
    Calls Tryz.prog 94 #[setV m, .int .i64 i] w fun e w' => e = .returned (.bool false) ∧ Kp w w' := by
  have t1 := isSlot_no i h
  clear h
  unfold setV
  go_enter Tryz.func94, Tryz.ntmps94
  go_wp2_with fail
  refine (t1 _).mono ?_
  rintro e w' ⟨rfl, rfl⟩
  go_wp2_with fail
  go_ret
  exact ⟨rfl, (Kp.refl _).alloc _⟩

/-- How many slots are in it. -/
def cntM (m : Nat) : Nat := m % 2 + m / 2 % 2 + m / 4 % 2 + m / 8 % 2 + m / 16 % 2 + m / 32 % 2 + m / 64 % 2 + m / 128 % 2
def pop1 (x : Int) : Int := IntKind.u64.wrap (bits BinOp.and IntKind.u64 (x / 2) 6148914691236517205 + bits BinOp.and IntKind.u64 x 6148914691236517205)
def pop2 (x : Int) : Int := IntKind.u64.wrap (bits BinOp.and IntKind.u64 (x / 4) 3689348814741910323 + bits BinOp.and IntKind.u64 x 3689348814741910323)
def pop3 (x : Int) : Int := bits BinOp.and IntKind.u64 (IntKind.u64.wrap (x / 16 + x)) 1085102592571150095
def pop4 (x : Int) : Int := IntKind.u64.wrap (x + x / 256)
def pop5 (x : Int) : Int := IntKind.u64.wrap (x + x / 65536)
def pop6 (x : Int) : Int := IntKind.u64.wrap (x + x / 4294967296)
def pop7 (x : Int) : Int := bits BinOp.and IntKind.i64 (wrap64 x) 127
theorem pop_all : ∀ m, m < 256 → pop7 (pop6 (pop5 (pop4 (pop3 (pop2 (pop1 ((spread m : Nat) : Int))))))) = ((cntM m : Nat) : Int) := by decide +kernel

set_option maxHeartbeats 400000 in
theorem ones_walk (X x1 x2 x3 x4 x5 x6 x7 : Int) (h1 : IntKind.u64.wrap (bits BinOp.and IntKind.u64 (X / 2) 6148914691236517205 + bits BinOp.and IntKind.u64 X 6148914691236517205) = x1)
    (h2 : IntKind.u64.wrap (bits BinOp.and IntKind.u64 (x1 / 4) 3689348814741910323 + bits BinOp.and IntKind.u64 x1 3689348814741910323) = x2)
    (h3 : bits BinOp.and IntKind.u64 (IntKind.u64.wrap (x2 / 16 + x2)) 1085102592571150095 = x3)
    (h4 : IntKind.u64.wrap (x3 + x3 / 256) = x4) (h5 : IntKind.u64.wrap (x4 + x4 / 65536) = x5) (h6 : IntKind.u64.wrap (x5 + x5 / 4294967296) = x6)
    (h7 : bits BinOp.and IntKind.i64 (wrap64 x6) 127 = x7) (w : World) :
    Calls Tryz.prog 174 #[.int .u64 X] w fun e w' => e = .returned (.int .i64 x7) ∧ w' = w := by
  go_enter Tryz.func174, Tryz.ntmps174
  go_wp2_with fail
  go_ret
  exact ⟨by rw [← h7]; rfl, rfl⟩

set_option maxHeartbeats 400000 in
theorem count_any (m : Nat) (hm : m < 256) (w : World) :
    Calls Tryz.prog 147 #[setV m] w fun e w' => e = .returned (.int .i64 ((cntM m : Nat) : Int)) ∧ Kp w w' := by
  have t1 := ones_walk ((spread m : Nat) : Int) _ _ _ _ _ _ _ rfl rfl rfl rfl rfl rfl (pop_all m hm)
  unfold setV
  generalize spread m = z at *
  generalize cntM m = C at *
  go_enter Tryz.func147, Tryz.ntmps147
  go_wp2_with fail
  refine (t1 _).mono ?_
  rintro e w' ⟨rfl, rfl⟩
  go_wp2_with fail
  go_ret
  exact ⟨rfl, (Kp.refl _).alloc _⟩
end Go.Proofs.YtgckinldnnckoaaGreatDoor.Ct
/-
  Contracts by their answer; how many slots are in a set.
-/
namespace Go.Proofs.YtgckinldnnckoaaGreatDoor.Ct
open Go.RowKit
set_option linter.unusedVariables false

def CntIs (z C : Int) : Prop := ∃ m, m < 256 ∧ z = ((spread m : Nat) : Int) ∧ C = ((cntM m : Nat) : Int)
theorem count_is {z C : Int} (q : CntIs z C) (w : World) :
    Calls Tryz.prog 147 #[.agg #[.int .u64 z]] w fun e w' => e = .returned (.int .i64 C) ∧ Kp w w' := by
  obtain ⟨m, hm, rfl, rfl⟩ := q
  exact count_any m hm w
def FullIs (W z : Int) : Prop := ∃ V : Nat, V < 18446744073709551616 ∧ W = (V : Int) ∧ z = ((spread (mk (fun x => decide (x < 128)) V) : Nat) : Int)
theorem full_is {W z : Int} (q : FullIs W z) (w : World) :
    Calls Tryz.prog 93 #[.int .u64 W] w fun e w' => e = .returned (.agg #[.int .u64 z]) ∧ Kp w w' := by
  obtain ⟨V, hv, rfl, rfl⟩ := q
  exact full_any V hv w
def EmptyIs (W z : Int) : Prop := ∃ V : Nat, V < 18446744073709551616 ∧ W = (V : Int) ∧ z = ((spread (mk (· == 128) V) : Nat) : Int)
theorem empty_is {W z : Int} (q : EmptyIs W z) (w : World) :
    Calls Tryz.prog 151 #[.int .u64 W] w fun e w' => e = .returned (.agg #[.int .u64 z]) ∧ Kp w w' := by
  obtain ⟨V, hv, rfl, rfl⟩ := q
  exact mempty_any V hv w
def VacantIs (W z : Int) : Prop := ∃ V : Nat, V < 18446744073709551616 ∧ W = (V : Int) ∧ z = ((spread (mk (fun x => x == 128 || x == 254) V) : Nat) : Int)
theorem vacant_is {W z : Int} (q : VacantIs W z) (w : World) :
    Calls Tryz.prog 150 #[.int .u64 W] w fun e w' => e = .returned (.agg #[.int .u64 z]) ∧ Kp w w' := by
  obtain ⟨V, hv, rfl, rfl⟩ := q
  exact vacant_any V hv w
def MatchIs (W tag z : Int) : Prop := ∃ V : Nat, V < 18446744073709551616 ∧ W = (V : Int) ∧ z = ((spread (mk (tagB tag) V) : Nat) : Int)
theorem match_is {W tag z : Int} (q : MatchIs W tag z) (w : World) :
    Calls Tryz.prog 111 #[.int .u64 W, .int .i64 tag] w fun e w' => e = .returned (.agg #[.int .u64 z]) ∧ Kp w w' := by
  obtain ⟨V, hv, rfl, rfl⟩ := q
  exact match_any V tag hv w
def HasIs (z i : Int) (b : Bool) : Prop := (∃ m k : Nat, z = ((spread m : Nat) : Int) ∧ i = (k : Int) ∧ k < 8 ∧ b = hasM m k) ∨ (∃ m : Nat, z = ((spread m : Nat) : Int)) ∧ ¬ (0 ≤ i ∧ i < 8) ∧ b = false
theorem has_is {z i : Int} {b : Bool} (q : HasIs z i b) (w : World) :
    Calls Tryz.prog 94 #[.agg #[.int .u64 z], .int .i64 i] w fun e w' => e = .returned (.bool b) ∧ Kp w w' := by
  rcases q with ⟨m, k, rfl, rfl, hk, rfl⟩ | ⟨⟨m, rfl⟩, hi, rfl⟩
  · exact has_in m k hk w
  · exact has_out m i hi w
/-- The word whose slot i has the byte c, as Set gives it. -/
def putN (W : Nat) (i c : Int) : Nat := if 0 ≤ i ∧ i < 8 ∧ 0 ≤ c ∧ c ≤ 255 then setN W i.toNat c.toNat else W
def getN (W : Nat) (i : Int) : Int := if 0 ≤ i ∧ i < 8 then ((byN W i.toNat : Nat) : Int) else -1
theorem putN_lt {W : Nat} (hw : W < 18446744073709551616) (i c : Int) : putN W i c < 18446744073709551616 := by
  unfold putN
  split
  · exact setN_lt _ _ _ (by omega)
  · exact hw
def SetIs (W i c R : Int) : Prop := ∃ V : Nat, V < 18446744073709551616 ∧ W = (V : Int) ∧ R = ((putN V i c : Nat) : Int)
theorem set_is {W i c R : Int} (q : SetIs W i c R) (w : World) :
    Calls Tryz.prog 100 #[.int .u64 W, .int .i64 i, .int .i64 c] w fun e w' => e = .returned (.int .u64 R) ∧ Kp w w' := by
  obtain ⟨V, hv, rfl, rfl⟩ := q
  by_cases h : 0 ≤ i ∧ i < 8 ∧ 0 ≤ c ∧ c ≤ 255
  · unfold putN
    rw [if_pos h]
    obtain ⟨I, rfl⟩ : ∃ I : Nat, i = (I : Int) := ⟨i.toNat, by omega⟩
    obtain ⟨C, rfl⟩ : ∃ C : Nat, c = (C : Int) := ⟨c.toNat, by omega⟩
    exact set_in V I C hv (by omega) (by omega) w
  · unfold putN
    rw [if_neg h]
    exact set_out V i c h w
def GetIs (W i R : Int) : Prop := ∃ V : Nat, V < 18446744073709551616 ∧ W = (V : Int) ∧ R = getN V i
theorem get_is {W i R : Int} (q : GetIs W i R) (w : World) :
    Calls Tryz.prog 81 #[.int .u64 W, .int .i64 i] w fun e w' => e = .returned (.int .i64 R) ∧ w' = w := by
  obtain ⟨V, hv, rfl, rfl⟩ := q
  by_cases h : 0 ≤ i ∧ i < 8
  · unfold getN
    rw [if_pos h]
    obtain ⟨I, rfl⟩ : ∃ I : Nat, i = (I : Int) := ⟨i.toNat, by omega⟩
    exact get_in V I hv (by omega) w
  · unfold getN
    rw [if_neg h]
    exact get_out V i h w

def sum8 (f : Nat → Nat) : Nat := f 0 + f 1 + f 2 + f 3 + f 4 + f 5 + f 6 + f 7
theorem cntM_mk (p : Nat → Bool) (w : Nat) : cntM (mk p w) = sum8 (fun i => (p (byN w i)).toNat) := by
  have h0 := mk_bit p w (i := 0) (by decide)
  have h1 := mk_bit p w (i := 1) (by decide)
  have h2 := mk_bit p w (i := 2) (by decide)
  have h3 := mk_bit p w (i := 3) (by decide)
  have h4 := mk_bit p w (i := 4) (by decide)
  have h5 := mk_bit p w (i := 5) (by decide)
  have h6 := mk_bit p w (i := 6) (by decide)
  have h7 := mk_bit p w (i := 7) (by decide)
  simp only [Nat.reducePow, Nat.div_one] at h0 h1 h2 h3 h4 h5 h6 h7
  unfold cntM sum8
  rw [h0, h1, h2, h3, h4, h5, h6, h7]
theorem sum8_le {f g : Nat → Nat} (h : ∀ i, i < 8 → f i ≤ g i) : sum8 f ≤ sum8 g := by
  have h0 := h 0 (by decide)
  have h1 := h 1 (by decide)
  have h2 := h 2 (by decide)
  have h3 := h 3 (by decide)
  have h4 := h 4 (by decide)
  have h5 := h 5 (by decide)
  have h6 := h 6 (by decide)
  have h7 := h 7 (by decide)
  unfold sum8
  omega
theorem sum8_add (f g : Nat → Nat) : sum8 f + sum8 g = sum8 (fun i => f i + g i) := by
  unfold sum8
  dsimp only
  omega
theorem cnt_full_vacant (W : Nat) : cntM (mk (fun x => decide (x < 128)) W) + cntM (mk (fun x => x == 128 || x == 254) W) ≤ 8 := by
  rw [cntM_mk, cntM_mk, sum8_add]
  refine Nat.le_trans (sum8_le (g := fun _ => 1) fun i _ => ?_) (by decide)
  generalize byN W i = x
  by_cases h : x < 128
  · have h1 : (x == 128) = false := beq_eq_false_iff_ne.2 (by omega)
    have h2 : (x == 254) = false := beq_eq_false_iff_ne.2 (by omega)
    rw [h1, h2, decide_eq_true h]
    decide
  · simp only [h, decide_false, Bool.toNat_false, Nat.zero_add]
    exact toNat_le _
theorem cnt_empty_vacant (W : Nat) : cntM (mk (· == 128) W) ≤ cntM (mk (fun x => x == 128 || x == 254) W) := by
  rw [cntM_mk, cntM_mk]
  refine sum8_le fun i _ => ?_
  generalize byN W i = x
  cases h : x == 128
  · exact Nat.zero_le _
  · exact Nat.le_refl _

section
variable {w W W1 : World} {a b c : Nat} {u v x : Value}
abbrev S3 (w : World) (a b c : Nat) (u v x : Value) (W : World) : Prop := W.cell? ⟨a, 0, none⟩ = some u ∧ W.cell? ⟨b, 0, none⟩ = some v ∧ W.cell? ⟨c, 0, none⟩ = some x ∧ Kp w W
theorem S3.call (h : W.cell? ⟨a, 0, none⟩ = some u ∧ W.cell? ⟨b, 0, none⟩ = some v ∧ W.cell? ⟨c, 0, none⟩ = some x ∧ Kp w W) (k : Kp W W1) : W1.cell? ⟨a, 0, none⟩ = some u ∧ W1.cell? ⟨b, 0, none⟩ = some v ∧ W1.cell? ⟨c, 0, none⟩ = some x ∧ Kp w W1 :=
  ⟨k.cell h.1, k.cell h.2.1, k.cell h.2.2.1, h.2.2.2.trans k⟩
theorem S3.drew (h : W.cell? ⟨a, 0, none⟩ = some u ∧ W.cell? ⟨b, 0, none⟩ = some v ∧ W.cell? ⟨c, 0, none⟩ = some x ∧ Kp w W) : W.drew.cell? ⟨a, 0, none⟩ = some u ∧ W.drew.cell? ⟨b, 0, none⟩ = some v ∧ W.drew.cell? ⟨c, 0, none⟩ = some x ∧ Kp w W.drew :=
  ⟨h.1, h.2.1, h.2.2.1, h.2.2.2.drew⟩
end
theorem new_cell (w : World) (v : Value) (t : TypeId) : (w.alloc (.cells #[v] t)).cell? ⟨w.heap.size, 0, none⟩ = some v := (one_cell (heap_new w _)).1
theorem new_cell_at {w : World} {b : Nat} (hb : b = w.heap.size) (v : Value) (t : TypeId) : (w.alloc (.cells #[v] t)).cell? ⟨b, 0, none⟩ = some v := by
  subst hb
  exact new_cell w v t
theorem old_cell {w : World} {p : Addr} {v : Value} (h : w.cell? p = some v) (o : Obj) : (w.alloc o).cell? p = some v := ((Kp.refl w).alloc o).cell h
end Go.Proofs.YtgckinldnnckoaaGreatDoor.Ct
/-
  The calls of group: which are of one step.
-/
namespace Go.Proofs.YtgckinldnnckoaaGreatDoor
open Go.RowKit Go.Shelf Ly Ct
set_option linter.unusedVariables false

theorem Keeps.ofKp {w w' : World} (h : Below w.heap.size w w') : Keeps w w' (fun _ => False) := ⟨h.os, h.tape, h.output, h.size, fun k hk _ => h.block k hk⟩
/-- The eleven cells of a group's struct. -/
theorem grp_cells {w : World} {b p : Nat} {l : Lay} {off : Int} {t : TypeId} (h : w.heap[b]? = some (.cells #[.pointer (some ⟨p, 0, none⟩), .int .i64 l.k, .int .i64 l.e, .int .i64 l.a, .int .i64 l.b, .int .i64 l.c, .int .i64 l.eo, .int .i64 l.bo, .int .i64 l.s, .int .i64 l.g, .int .i64 off] t)) :
    w.cell? ⟨b, 0, none⟩ = some (.pointer (some ⟨p, 0, none⟩)) ∧ w.cell? ⟨b, 1, none⟩ = some (.int .i64 l.k) ∧ w.cell? ⟨b, 2, none⟩ = some (.int .i64 l.e) ∧ w.cell? ⟨b, 3, none⟩ = some (.int .i64 l.a) ∧ w.cell? ⟨b, 4, none⟩ = some (.int .i64 l.b) ∧ w.cell? ⟨b, 5, none⟩ = some (.int .i64 l.c) ∧ w.cell? ⟨b, 6, none⟩ = some (.int .i64 l.eo) ∧ w.cell? ⟨b, 7, none⟩ = some (.int .i64 l.bo) ∧ w.cell? ⟨b, 8, none⟩ = some (.int .i64 l.s) ∧ w.cell? ⟨b, 9, none⟩ = some (.int .i64 l.g) ∧ w.cell? ⟨b, 10, none⟩ = some (.int .i64 off) := by
  simp [World.cell?, h]

/-- The struct stands in its block, all that was there stands. -/
abbrev S11 (w : World) (b p : Nat) (l : Lay) (off : Int) (W : World) : Prop := W.cell? ⟨b, 0, none⟩ = some (.pointer (some ⟨p, 0, none⟩)) ∧ W.cell? ⟨b, 1, none⟩ = some (.int .i64 l.k) ∧ W.cell? ⟨b, 2, none⟩ = some (.int .i64 l.e) ∧ W.cell? ⟨b, 3, none⟩ = some (.int .i64 l.a) ∧ W.cell? ⟨b, 4, none⟩ = some (.int .i64 l.b) ∧ W.cell? ⟨b, 5, none⟩ = some (.int .i64 l.c) ∧ W.cell? ⟨b, 6, none⟩ = some (.int .i64 l.eo) ∧ W.cell? ⟨b, 7, none⟩ = some (.int .i64 l.bo) ∧ W.cell? ⟨b, 8, none⟩ = some (.int .i64 l.s) ∧ W.cell? ⟨b, 9, none⟩ = some (.int .i64 l.g) ∧ W.cell? ⟨b, 10, none⟩ = some (.int .i64 off) ∧ Keeps w W (fun _ => False)
theorem s11_of {w W : World} {b p : Nat} {l : Lay} {off : Int} {t : TypeId} (h : W.heap[b]? = some (.cells #[.pointer (some ⟨p, 0, none⟩), .int .i64 l.k, .int .i64 l.e, .int .i64 l.a, .int .i64 l.b, .int .i64 l.c, .int .i64 l.eo, .int .i64 l.bo, .int .i64 l.s, .int .i64 l.g, .int .i64 off] t)) (k : Keeps w W (fun _ => False)) : S11 w b p l off W := by
  obtain ⟨c0, c1, c2, c3, c4, c5, c6, c7, c8, c9, c10⟩ := grp_cells h
  exact ⟨c0, c1, c2, c3, c4, c5, c6, c7, c8, c9, c10, k⟩
theorem s11_call {w W W1 : World} {b p : Nat} {l : Lay} {off : Int} (k : Keeps W W1 (fun _ => False)) (h : S11 w b p l off W) : S11 w b p l off W1 := by
  obtain ⟨c0, c1, c2, c3, c4, c5, c6, c7, c8, c9, c10, K⟩ := h
  have hc : ∀ j v, W.cell? ⟨b, j, none⟩ = some v → W1.cell? ⟨b, j, none⟩ = some v := fun j v q => by
    have : b < W.heap.size := by
      refine Nat.lt_of_not_le fun hn => ?_
      rw [World.cell?, Array.getElem?_eq_none hn] at q
      cases q
    exact (World.cell?_of_block (w := W) (a := ⟨b, j, none⟩) (k.block b this id)).trans q
  exact ⟨hc _ _ c0, hc _ _ c1, hc _ _ c2, hc _ _ c3, hc _ _ c4, hc _ _ c5, hc _ _ c6, hc _ _ c7, hc _ _ c8, hc _ _ c9, hc _ _ c10, K.trans k (fun _ _ e => e)⟩
theorem s11_drew {w W : World} {b p : Nat} {l : Lay} {off : Int} (h : S11 w b p l off W) : S11 w b p l off W.drew := s11_call (Keeps.refl W (fun _ => False)).drew h
theorem s11_alloc {w W : World} {b p : Nat} {l : Lay} {off : Int} (h : S11 w b p l off W) (o : Obj) : S11 w b p l off (W.alloc o) := s11_call ((Keeps.refl W (fun _ => False)).alloc o) h
theorem s11_k {w W : World} {b p : Nat} {l : Lay} {off : Int} (h : S11 w b p l off W) : Keeps w W (fun _ => False) := h.2.2.2.2.2.2.2.2.2.2.2
theorem s11_new {w : World} {p : Nat} {l : Lay} {off : Int} {t : TypeId} : S11 w w.heap.size p l off (w.alloc (.cells #[.pointer (some ⟨p, 0, none⟩), .int .i64 l.k, .int .i64 l.e, .int .i64 l.a, .int .i64 l.b, .int .i64 l.c, .int .i64 l.eo, .int .i64 l.bo, .int .i64 l.s, .int .i64 l.g, .int .i64 off] t)) := s11_of (heap_alloc_new _ _) ((Keeps.refl w (fun _ => False)).alloc _)

theorem alloc1 {w : World} {o1 : Obj} {P : World → Prop} (h : ∀ W0, W0.heap[w.heap.size]? = some o1 → W0.heap.size = w.heap.size + 1 → Keeps w W0 (fun _ => False) → P W0) : P (w.alloc o1) :=
  h _ (heap_alloc_new _ _) (by simp) ((Keeps.refl _ _).alloc _)
theorem alloc2 {w : World} {o1 o2 : Obj} {P : World → Prop} (h : ∀ W0, W0.heap[w.heap.size]? = some o1 → W0.heap[w.heap.size + 1]? = some o2 → W0.heap.size = w.heap.size + 2 → Keeps w W0 (fun _ => False) → P W0) : P ((w.alloc o1).alloc o2) :=
  h _ ((Below.heap_alloc _ _ _ (by simp)).trans (heap_alloc_new _ _)) (by have := heap_alloc_new (w.alloc o1) o2; simpa using this) (by simp) (((Keeps.refl _ _).alloc _).alloc _)
theorem Keeps.blk {w w1 : World} (h : Keeps w w1 (fun _ => False)) {b : Nat} {x : Obj} (hb : w.heap[b]? = some x) : w1.heap[b]? = some x := (h.block b (heap_lt hb) id).trans hb
theorem five_cells {w : World} {b : Nat} {v0 v1 v2 v3 v4 : Value} {t : TypeId} (h : w.heap[b]? = some (.cells #[v0, v1, v2, v3, v4] t)) :
    w.cell? ⟨b, 0, none⟩ = some v0 ∧ w.cell? ⟨b, 1, none⟩ = some v1 ∧ w.cell? ⟨b, 2, none⟩ = some v2 ∧ w.cell? ⟨b, 3, none⟩ = some v3 ∧ w.cell? ⟨b, 4, none⟩ = some v4 ∧
    w.frozen? ⟨b, 0, none⟩ = false ∧ w.frozen? ⟨b, 1, none⟩ = false ∧ w.frozen? ⟨b, 2, none⟩ = false ∧ w.frozen? ⟨b, 3, none⟩ = false ∧ w.frozen? ⟨b, 4, none⟩ = false := by
  simp [World.cell?, World.frozen?, h]
theorem set_one' {w : World} {b : Nat} {cs : Array Value} {t : TypeId} (h : w.heap[b]? = some (.cells cs t)) (i : Nat) (v : Value) (hi : i < cs.size) :
    (w.setCell ⟨b, i, none⟩ v).heap[b]? = some (.cells (cs.set i v hi) t) := by
  have hlt := (Array.getElem?_eq_some_iff.1 h).1
  have hv := (Array.getElem?_eq_some_iff.1 h).2
  simp only [World.setCell, Array.getElem?_modify]
  simp [hlt, hv, hi, Array.setIfInBounds]
theorem five_set {w0 w : World} {b : Nat} {u0 u1 u2 u3 u4 : Value} {t : TypeId} {S : Nat → Prop} (h : w.heap[b]? = some (.cells #[u0, u1, u2, u3, u4] t)) (k : Keeps w0 w S) (hb : b < w0.heap.size → S b)
    {v0 v1 v2 v3 v4 : Value} {P : World → Prop} (hP : ∀ w9, w9.heap[b]? = some (.cells #[v0, v1, v2, v3, v4] t) → Keeps w0 w9 S → Keeps w w9 (fun i => i = b) → P w9) :
    P (((((w.setCell ⟨b, 0, none⟩ v0).setCell ⟨b, 1, none⟩ v1).setCell ⟨b, 2, none⟩ v2).setCell ⟨b, 3, none⟩ v3).setCell ⟨b, 4, none⟩ v4) := by
  refine hP _ ?_ ?_ ?_
  · have h0 := set_one' h 0 v0 (by simp)
    have h1 := set_one' h0 1 v1 (by simp)
    have h2 := set_one' h1 2 v2 (by simp)
    have h3 := set_one' h2 3 v3 (by simp)
    have h4 := set_one' h3 4 v4 (by simp)
    exact h4
  · exact ((((k.setCell _ hb _).setCell _ hb _).setCell _ hb _).setCell _ hb _).setCell _ hb _
  · exact (((((Keeps.refl w (fun i => i = b)).setCell _ (fun _ => rfl) _).setCell _ (fun _ => rfl) _).setCell _ (fun _ => rfl) _).setCell _ (fun _ => rfl) _).setCell _ (fun _ => rfl) _

set_option maxHeartbeats 400000 in
theorem gslot_any (i : Int) (w : World) : Calls Tryz.prog 79 #[.int .i64 i] w fun e w' => e = .returned (.bool (decide (0 ≤ i ∧ i < 8))) ∧ w' = w := by
  by_cases h0 : 0 ≤ i
  · by_cases h8 : i < 8
    · rw [decide_eq_true ⟨h0, h8⟩]
      go_enter Tryz.func79, Tryz.ntmps79
      go_wp2_with fail
      go_ret
      exact ⟨rfl, rfl⟩
    · rw [decide_eq_false (fun q => h8 q.2)]
      go_enter Tryz.func79, Tryz.ntmps79
      go_wp2_with fail
      go_ret
      exact ⟨rfl, rfl⟩
  · rw [decide_eq_false (fun q => h0 q.1)]
    go_enter Tryz.func79, Tryz.ntmps79
    go_wp2_with fail
    go_ret
    exact ⟨rfl, rfl⟩

set_option maxHeartbeats 400000 in
theorem gtag_any (i : Int) (w : World) : Calls Tryz.prog 82 #[.int .i64 i] w fun e w' => e = .returned (.bool (decide (0 ≤ i ∧ i ≤ 127))) ∧ w' = w := by
  by_cases h0 : 0 ≤ i
  · by_cases h8 : i ≤ 127
    · rw [decide_eq_true ⟨h0, h8⟩]
      go_enter Tryz.func82, Tryz.ntmps82
      go_wp2_with fail
      go_ret
      exact ⟨rfl, rfl⟩
    · rw [decide_eq_false (fun q => h8 q.2)]
      go_enter Tryz.func82, Tryz.ntmps82
      go_wp2_with fail
      go_ret
      exact ⟨rfl, rfl⟩
  · rw [decide_eq_false (fun q => h0 q.1)]
    go_enter Tryz.func82, Tryz.ntmps82
    go_wp2_with fail
    go_ret
    exact ⟨rfl, rfl⟩

set_option maxHeartbeats 400000 in
theorem at_any (p : Nat) (l : Lay) (off : Int) (w : World) : Calls Tryz.prog 78 #[.pointer (some ⟨p, 0, none⟩), .agg #[.int .i64 l.k, .int .i64 l.e, .int .i64 l.a, .int .i64 l.b, .int .i64 l.c, .int .i64 l.eo, .int .i64 l.bo, .int .i64 l.s, .int .i64 l.g], .int .i64 off] w fun e w' => e = .returned (.agg #[.pointer (some ⟨p, 0, none⟩), .int .i64 l.k, .int .i64 l.e, .int .i64 l.a, .int .i64 l.b, .int .i64 l.c, .int .i64 l.eo, .int .i64 l.bo, .int .i64 l.s, .int .i64 l.g, .int .i64 off]) ∧ Keeps w w' (fun _ => False) := by
  go_enter Tryz.func78, Tryz.ntmps78
  go_wp2_with fail
  refine bodyPost_ret (v := .agg #[.pointer (some ⟨p, 0, none⟩), .int .i64 l.k, .int .i64 l.e, .int .i64 l.a, .int .i64 l.b, .int .i64 l.c, .int .i64 l.eo, .int .i64 l.bo, .int .i64 l.s, .int .i64 l.g, .int .i64 off]) (by simp [results, Tryz.results78, go_sem]) rfl ⟨rfl, ?_⟩
  exact ((Keeps.refl _ _).alloc _).alloc _

set_option maxHeartbeats 2000000 in
theorem there_any {w : World} {p : Nat} {F : Nat → Prop} {d : AD} (hA : Arena w p F d) (hF : d.Fine) (l : Lay) (off : Int) (ho : fitsI off) (hn : fitsI l.g) :
    Calls Tryz.prog 88 #[.agg #[.pointer (some ⟨p, 0, none⟩), .int .i64 l.k, .int .i64 l.e, .int .i64 l.a, .int .i64 l.b, .int .i64 l.c, .int .i64 l.eo, .int .i64 l.bo, .int .i64 l.s, .int .i64 l.g, .int .i64 off]] w fun e w' => BoolPost w (thereB d l off) e w' := by
  obtain ⟨c, hc, hfo⟩ := hA.at
  have hV := fun W => valid_any l W
  have hE := fun W (k : Keeps w W (fun _ => False)) => aequal_any (hc.keeps k (fun _ _ e => e)) hF off off l.g ho ho hn
  unfold thereB
  cases hv : validB l
  · rw [hv] at hV
    clear hE
    go_enter Tryz.func88, Tryz.ntmps88
    go_wp2_with fail
    refine (hV _).mono ?_
    rintro r w1 ⟨rfl, k1⟩
    have K1 : Keeps w w1 (fun _ => False) := ((Keeps.refl w (fun _ => False)).alloc _).trans (Keeps.ofKp k1) (fun _ _ e => e)
    clear hV k1
    go_wp2_with fail
    go_ret
    exact ⟨rfl, K1⟩
  · rw [hv] at hV
    have hx : equalV d off off l.g = (d.goodB off l.g, if d.goodB off l.g then 0 else 24) := by
      unfold equalV
      cases d.goodB off l.g <;> simp [eqS]
    rw [hx] at hE
    rw [Bool.true_and]
    go_enter Tryz.func88, Tryz.ntmps88
    go_wp2_with fail
    refine (hV _).mono ?_
    rintro r w1 ⟨rfl, k1⟩
    have hb := k1.block w.heap.size (by simp)
    rw [heap_alloc_new] at hb
    obtain ⟨c0, c1, c2, c3, c4, c5, c6, c7, c8, c9, c10⟩ := grp_cells hb
    have K1 : Keeps w w1 (fun _ => False) := ((Keeps.refl w (fun _ => False)).alloc _).trans (Keeps.ofKp k1) (fun _ _ e => e)
    replace hE := hE w1 K1
    clear hV k1 hb c1 c2 c3 c4 c5 c6 c7 c8
    cases hg : d.goodB off l.g
    · rw [hg] at hE
      go_wp2_with fail
      refine hE.mono ?_
      rintro r w2 ⟨rfl, k2⟩
      go_wp2_with fail
      go_ret
      refine ⟨?_, K1.trans k2 (fun _ _ e => e)⟩
      rw [hg]
      rfl
    · rw [hg] at hE
      go_wp2_with fail
      refine hE.mono ?_
      rintro r w2 ⟨rfl, k2⟩
      go_wp2_with fail
      go_ret
      refine ⟨?_, K1.trans k2 (fun _ _ e => e)⟩
      rw [hg]
      rfl
end Go.Proofs.YtgckinldnnckoaaGreatDoor
