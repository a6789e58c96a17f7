/-
  script: the words of a line, and bytes as they are read (as data).
-/
import Derived.Test.YtomlmbhbadicbaaDoorSC20
import Derived.Test.YtomlmbhbadicbaaDoorSCN
import Derived.Test.YtomlmbhbadicbaaDoorSC12
namespace Go.Proofs.YtomlmbhbadicbaaDoor
open Go.RowKit
set_option linter.unusedVariables false

theorem pair_hex (x : UInt8) : pairB (hexC (x.toNat / 16)) (hexC (x.toNat % 16)) = x := by
  have h : ∀ n : Fin 256, pairB (hexC (n.1 / 16)) (hexC (n.1 % 16)) = UInt8.ofNat n.1 := by decide +kernel
  have := h ⟨x.toNat, x.toNat_lt⟩
  rw [this]
  simp
theorem pairs_hex (s : List UInt8) : pairsD (hexL s) = s := by
  induction s with
  | nil => rfl
  | cons x r ih =>
    have : hexL (x :: r) = hexC (x.toNat / 16) :: hexC (x.toNat % 16) :: hexL r := rfl
    rw [this, pairsD, ih, pair_hex]
theorem hexC_fine {v : Nat} (h : v < 16) : digD ((hexC v).toNat : Int) < 16 ∧ (hexC v) ≠ 39 ∧ (hexC v) ≠ 32 := by
  have : ∀ n : Fin 16, digD ((hexC n.1).toNat : Int) < 16 ∧ (hexC n.1) ≠ 39 ∧ (hexC n.1) ≠ 32 := by decide +kernel
  exact this ⟨v, h⟩
theorem hex_mem {s : List UInt8} {y : UInt8} (h : y ∈ hexL s) : ∃ v, v < 16 ∧ y = hexC v := by
  unfold hexL at h
  obtain ⟨x, -, hy⟩ := List.mem_flatMap.1 h
  have := x.toNat_lt
  simp only [hexD, List.mem_cons, List.not_mem_nil, or_false] at hy
  rcases hy with rfl | rfl
  · exact ⟨_, by omega, rfl⟩
  · exact ⟨_, Nat.mod_lt _ (by decide), rfl⟩
theorem bytD_bytesD (s : ByteArray) : bytD (bytesD s) = (s, 0) := by
  unfold bytesD
  split
  · rename_i h
    have : s = ⟨#[]⟩ := ByteArray.ext (Array.toList_inj.1 h)
    rw [this]
    decide
  · rename_i h
    have hd : (strOf (hexL s.data.toList)).data.toList = hexL s.data.toList := strOf_data _
    have hlen : (strOf (hexL s.data.toList)).size = 2 * s.data.toList.length := by
      show (strOf (hexL s.data.toList)).data.toList.length = _
      rw [hd, hexL_length]
    have hpos : 0 < s.data.toList.length := List.length_pos_iff.2 h
    have n1 : ¬ strOf (hexL s.data.toList) = ⟨#[45]⟩ := fun e => by
      have := congrArg ByteArray.size e
      rw [hlen] at this
      have z : (⟨#[45]⟩ : ByteArray).size = 1 := rfl
      omega
    have n2 : ¬ (1 < (strOf (hexL s.data.toList)).size ∧ (strOf (hexL s.data.toList)).data.toList[0]? = some 39) := fun e => by
      rw [hd] at e
      obtain ⟨v, hv, hy⟩ := hex_mem (List.mem_of_getElem? e.2)
      exact (hexC_fine hv).2.1 hy.symm
    have n3 : (strOf (hexL s.data.toList)).size % 2 = 0 ∧ allD 16 (strOf (hexL s.data.toList)).data.toList = true := by
      refine ⟨by rw [hlen]; omega, ?_⟩
      rw [hd]
      refine allD_iff.2 ⟨fun e => ?_, fun y hy => ?_⟩
      · have := congrArg List.length e
        rw [hexL_length] at this
        have z : ([] : List UInt8).length = 0 := rfl
        omega
      · obtain ⟨v, hv, rfl⟩ := hex_mem hy
        exact (hexC_fine hv).1
    unfold bytD
    rw [if_neg n1, if_neg n2, if_pos n3, hd, pairs_hex, strOf_self]
/-- No blank in it. -/
def NB (x : ByteArray) : Prop := (32 : UInt8) ∉ x.data.toList
theorem nb_bytes (s : ByteArray) : NB (bytesD s) := by
  unfold bytesD
  split
  · unfold NB
    decide
  · unfold NB
    rw [strOf_data]
    intro h
    obtain ⟨v, hv, e⟩ := hex_mem h
    exact (hexC_fine hv).2.2 e.symm
theorem nb_dec (u : Nat) : (32 : UInt8) ∉ Lib.decDigits u := fun h => by
  have := dec_dig _ u (Nat.le_refl _) 32 h
  have z : (32 : UInt8).toNat = 32 := rfl
  omega
theorem nb_num (n : Int) : NB (numD n) := by
  unfold NB numD
  rw [strOf_data]
  unfold Lib.itoa
  split
  · intro h
    rcases List.mem_cons.1 h with h | h
    · cases h
    · exact nb_dec _ h
  · exact nb_dec _
theorem nb_name (op : Int) : NB (nameD op) := by
  unfold nameD
  split
  · have : ∀ k : Fin 16, (32 : UInt8) ∉ (nmN k.1).data.toList := by decide +kernel
    exact this ⟨op.toNat + 1, by omega⟩
  · unfold NB
    decide
/-- What the words of an answer may be. -/
theorem words_shape (Q : List ByteArray → Prop) (op n off : Int) (yes : Bool) (key elem : ByteArray) (h1 : Q [numD n]) (h2 : Q [⟨#[121, 101, 115]⟩, bytesD elem]) (h3 : ∀ c : ByteArray, c ∈ [(⟨#[110, 111]⟩ : ByteArray), ⟨#[110, 101, 119]⟩, ⟨#[111, 108, 100]⟩, ⟨#[121, 101, 115]⟩, ⟨#[100, 111, 110, 101]⟩, ⟨#[102, 105, 110, 101]⟩] → Q [c]) (h4 : Q [⟨#[112, 97, 105, 114]⟩, bytesD key, bytesD elem]) (h5 : Q [⟨#[114, 117, 108, 101]⟩, numD n, numD off]) (h0 : Q []) : Q (wordsD op n off yes key elem) := by
  unfold wordsD
  by_cases i1 : op = 1
  · rw [if_pos i1]
    exact h1
  rw [if_neg i1]
  by_cases i7 : op = 7
  · rw [if_pos i7]
    exact h1
  rw [if_neg i7]
  by_cases i8 : op = 8
  · rw [if_pos i8]
    exact h1
  rw [if_neg i8]
  by_cases i5 : op = 5
  · rw [if_pos i5]
    exact h1
  rw [if_neg i5]
  by_cases i11 : op = 11
  · rw [if_pos i11]
    exact h1
  rw [if_neg i11]
  by_cases i12 : op = 12
  · rw [if_pos i12]
    exact h1
  rw [if_neg i12]
  by_cases i13 : op = 13
  · rw [if_pos i13]
    exact h1
  rw [if_neg i13]
  by_cases i2 : op = 2
  · rw [if_pos i2]
    cases yes
    · exact h3 _ (by simp)
    · exact h2
  rw [if_neg i2]
  by_cases i3 : op = 3
  · rw [if_pos i3]
    cases yes
    · exact h3 _ (by simp)
    · exact h3 _ (by simp)
  rw [if_neg i3]
  by_cases i4 : op = 4
  · rw [if_pos i4]
    cases yes
    · exact h3 _ (by simp)
    · exact h3 _ (by simp)
  rw [if_neg i4]
  by_cases i9 : op = 9
  · rw [if_pos i9]
    cases yes
    · exact h3 _ (by simp)
    · exact h4
  rw [if_neg i9]
  by_cases i14 : op = 14
  · rw [if_pos i14]
    by_cases hn : n = 0
    · rw [if_pos hn]
      exact h3 _ (by simp)
    · rw [if_neg hn]
      exact h5
  rw [if_neg i14]
  exact h0
theorem all1 {R : ByteArray → Prop} {y : ByteArray} (h : R y) : ∀ x, x ∈ [y] → R x := fun x hx => by rw [List.mem_singleton.1 hx]; exact h
theorem all2 {R : ByteArray → Prop} {y z : ByteArray} (h : R y) (h2 : R z) : ∀ x, x ∈ [y, z] → R x := fun x hx => by
  rcases List.mem_cons.1 hx with rfl | hx
  · exact h
  · exact all1 h2 x hx
theorem all3 {R : ByteArray → Prop} {y z u : ByteArray} (h : R y) (h2 : R z) (h3 : R u) : ∀ x, x ∈ [y, z, u] → R x := fun x hx => by
  rcases List.mem_cons.1 hx with rfl | hx
  · exact h
  · exact all2 h2 h3 x hx
instance (x : ByteArray) : Decidable (NB x) := by unfold NB; infer_instance
theorem nb_words (op n off : Int) (yes : Bool) (key elem : ByteArray) : ∀ x, x ∈ wordsD op n off yes key elem → NB x :=
  words_shape (fun W => ∀ x, x ∈ W → NB x) op n off yes key elem (all1 (nb_num _)) (all2 (by decide) (nb_bytes _)) (fun c hc => all1 (by
    have : ∀ c, c ∈ [(⟨#[110, 111]⟩ : ByteArray), ⟨#[110, 101, 119]⟩, ⟨#[111, 108, 100]⟩, ⟨#[121, 101, 115]⟩, ⟨#[100, 111, 110, 101]⟩, ⟨#[102, 105, 110, 101]⟩] → NB c := by decide
    exact this c hc)) (all3 (by decide) (nb_bytes _) (nb_bytes _)) (all3 (by decide) (nb_num _) (nb_num _)) (fun x hx => by cases hx)
theorem nb_rest (op err n off : Int) (yes : Bool) (key elem : ByteArray) : ∀ x, x ∈ restD op err n off yes key elem → NB x := by
  intro x hx
  unfold restD at hx
  split at hx
  · exact nb_words _ _ _ _ _ _ x hx
  · rcases List.mem_cons.1 hx with rfl | hx
    · unfold NB
      decide
    · rw [List.mem_singleton.1 hx]
      exact nb_num _
theorem ix_app : ∀ (x r : List UInt8), (32 : UInt8) ∉ x → Lib.indexByte (x ++ 32 :: r) 32 = (x.length : Int)
  | [], r, h => by simp [Lib.indexByte]
  | b :: x, r, h => by
    have hb : ¬ b = 32 := fun e => h (by rw [e]; exact List.mem_cons_self)
    have ih := ix_app x r (fun e => h (List.mem_cons_of_mem _ e))
    have hb2 : (b == 32) = false := by simpa using hb
    rw [List.cons_append, Lib.indexByte, ih]
    simp only [hb2]
    rw [if_neg (by simp), if_neg (by simp)]
    simp
theorem count_tail : ∀ r : List (List UInt8), (∀ x, x ∈ r → (32 : UInt8) ∉ x) → (Lib.joinTail [32] r).count 32 = r.length
  | [], _ => by simp [Lib.joinTail]
  | y :: r, h => by
    have ih := count_tail r (fun x hx => h x (List.mem_cons_of_mem _ hx))
    have hy : y.count 32 = 0 := List.count_eq_zero.2 (h y List.mem_cons_self)
    unfold Lib.joinTail at ih ⊢
    simp only [List.map_cons, List.flatten_cons, List.count_append, ih, hy, List.length_cons]
    simp
    omega
theorem split_tail : ∀ (r : List (List UInt8)) (x : List UInt8), (32 : UInt8) ∉ x → (∀ y, y ∈ r → (32 : UInt8) ∉ y) → Lib.splitK [32] 0 r.length (x ++ Lib.joinTail [32] r) = x :: r
  | [], x, _, _ => by simp [Lib.splitK, Lib.joinTail]
  | y :: r, x, hx, hr => by
    have ih := split_tail r y (hr y List.mem_cons_self) (fun z hz => hr z (List.mem_cons_of_mem _ hz))
    have e : x ++ Lib.joinTail [32] (y :: r) = x ++ 32 :: (y ++ Lib.joinTail [32] r) := by
      simp [Lib.joinTail]
    have hix : Lib.index (x ++ 32 :: (y ++ Lib.joinTail [32] r)) [32] = (x.length : Int) := by
      rw [Lib.index_one]
      exact ix_app x _ hx
    rw [e, List.length_cons, Lib.splitK, hix]
    rw [if_neg (by simp)]
    have d1 : (x ++ 32 :: (y ++ Lib.joinTail [32] r)).take (((x.length : Int)).toNat + 0) = x := by simp
    have d2 : (x ++ 32 :: (y ++ Lib.joinTail [32] r)).drop (((x.length : Int)).toNat + ([32] : List UInt8).length) = y ++ Lib.joinTail [32] r := by
      simp [List.drop_append]
    rw [d1, d2, ih]
theorem words_join (x : ByteArray) (r : List ByteArray) (hx : NB x) (hr : ∀ y, y ∈ r → NB y) : wordsOf (joinD x r) = x :: r := by
  have hl : (joinD x r).data.toList = x.data.toList ++ Lib.joinTail [32] (r.map (·.data.toList)) := by
    unfold joinD
    simp only [List.map_cons]
    rw [Lib.join_cons]
  have hr2 : ∀ y, y ∈ r.map (·.data.toList) → (32 : UInt8) ∉ y := fun y hy => by
    obtain ⟨z, hz, rfl⟩ := List.mem_map.1 hy
    exact hr z hz
  have hc : Lib.countB (joinD x r) blk = r.length := by
    show Lib.count (joinD x r).data.toList [32] = _
    rw [Lib.count_one, hl, List.count_append, count_tail _ hr2, List.count_eq_zero.2 hx]
    simp
  have hs := Lib.splitB_data blk 0 (Lib.countB (joinD x r) blk) (joinD x r)
  rw [hc, hl] at hs
  have h2 := split_tail (r.map (·.data.toList)) x.data.toList hx hr2
  rw [List.length_map] at h2
  have h3 : (wordsOf (joinD x r)).map (·.data.toList) = (x :: r).map (·.data.toList) := by
    unfold wordsOf
    rw [hc, hs]
    exact h2
  refine List.map_inj_right ?_ |>.1 h3
  intro a b e
  exact ByteArray.ext (Array.toList_inj.1 e)
theorem words_show {op : Int} (ho : 1 ≤ op ∧ op ≤ 14) (err n off : Int) (yes : Bool) (key elem : ByteArray) : wordsOf (showD op err n off yes key elem) = nameD op :: restD op err n off yes key elem := by
  unfold showD
  rw [if_pos (by unfold isOp; simpa using ho)]
  exact words_join _ _ (nb_name op) (nb_rest op err n off yes key elem)
end Go.Proofs.YtomlmbhbadicbaaDoor
