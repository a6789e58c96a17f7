/-
  script: what guess makes of the words of an answer's line (as data).
-/
import Derived.Test.YtomlmbhbadicbaaDoorSD1
namespace Go.Proofs.YtomlmbhbadicbaaDoor
open Go.RowKit
set_option linter.unusedVariables false

/-- What of an answer its line tells. -/
def tN (op err n : Int) : Int := if err = 0 ∧ (op = 1 ∨ op = 5 ∨ op = 7 ∨ op = 8 ∨ op = 11 ∨ op = 12 ∨ op = 13 ∨ op = 14) then n else 0
def tOff (op err n off : Int) : Int := if err = 0 ∧ op = 14 ∧ n ≠ 0 then off else 0
def tYes (op err : Int) (yes : Bool) : Bool := if err = 0 ∧ (op = 2 ∨ op = 3 ∨ op = 4 ∨ op = 9) then yes else false
def tKey (op err : Int) (yes : Bool) (key : ByteArray) : ByteArray := if err = 0 ∧ op = 9 ∧ yes = true then key else ⟨#[]⟩
def tElem (op err : Int) (yes : Bool) (elem : ByteArray) : ByteArray := if err = 0 ∧ (op = 2 ∨ op = 9) ∧ yes = true then elem else ⟨#[]⟩
/-- The line is that answer's. -/
def Told (line : ByteArray) (op err n off : Int) (yes : Bool) (key elem : ByteArray) : Prop := (1 ≤ op ∧ op ≤ 14) ∧ Fit err ∧ Fit n ∧ Fit off ∧ line = showD op err n off yes key elem
theorem num_ne_err (n : Int) : numD n ≠ errB := fun e => by
  have h := all_itoa n
  have : Lib.itoa n = errB.data.toList := by
    rw [← e]
    unfold numD
    rw [strOf_data]
  rw [this] at h
  exact absurd h (by decide)
theorem op_cases {op : Int} (h : 1 ≤ op ∧ op ≤ 14) : op = 1 ∨ op = 2 ∨ op = 3 ∨ op = 4 ∨ op = 5 ∨ op = 6 ∨ op = 7 ∨ op = 8 ∨ op = 9 ∨ op = 10 ∨ op = 11 ∨ op = 12 ∨ op = 13 ∨ op = 14 := by omega
theorem numR_self {m n : Int} (hm : Fit m) (h : NumR (numD m) n) : n = m := h.2.1 m hm rfl
theorem numR_empty {n : Int} (h : NumR ⟨#[]⟩ n) : n = 0 := h.2.2 rfl
theorem bytD_empty : (bytD ⟨#[]⟩).1 = ⟨#[]⟩ := by decide
theorem wordsD_num {op n off : Int} {yes : Bool} {key elem : ByteArray} (h : op = 1 ∨ op = 5 ∨ op = 7 ∨ op = 8 ∨ op = 11 ∨ op = 12 ∨ op = 13) : wordsD op n off yes key elem = [numD n] := by
  rcases h with h | h | h | h | h | h | h <;> subst h <;> rfl
theorem three {a b c x0 x1 x2 : ByteArray} {t r : List ByteArray} (h : a :: b :: c :: t = x0 :: x1 :: x2 :: r) : x0 = a ∧ x1 = b ∧ x2 = c := by
  injection h with h1 h
  injection h with h2 h
  injection h with h3 h
  exact ⟨h1.symm, h2.symm, h3.symm⟩
theorem guess_told {op err n off : Int} {yes : Bool} {key elem : ByteArray} (ho : 1 ≤ op ∧ op ≤ 14) (he : Fit err) (hn : Fit n) (hf : Fit off) {x0 x1 x2 : ByteArray} {r : List ByteArray} (hx : restD op err n off yes key elem ++ emp3 = x0 :: x1 :: x2 :: r)
    {err' n' off' : Int} {yes' : Bool} {key' elem' : ByteArray} (hg : GX op x0 x1 x2 err' n' off' yes' key' elem') :
    err' = err ∧ n' = tN op err n ∧ off' = tOff op err n off ∧ yes' = tYes op err yes ∧ key' = tKey op err yes key ∧ elem' = tElem op err yes elem := by
  by_cases h0 : err = 0
  · subst h0
    have hr : restD op 0 n off yes key elem = wordsD op n off yes key elem := rfl
    rw [hr] at hx
    unfold tN tOff tYes tKey tElem
    by_cases hnum : op = 1 ∨ op = 5 ∨ op = 7 ∨ op = 8 ∨ op = 11 ∨ op = 12 ∨ op = 13
    · rw [wordsD_num hnum] at hx
      obtain ⟨rfl, rfl, rfl⟩ := three hx
      unfold GX at hg
      rw [if_neg (num_ne_err n), if_neg (by omega), if_neg (by omega), if_neg (by omega), if_neg (by omega), if_neg (by omega), if_neg (by omega), if_neg (by omega)] at hg
      obtain ⟨g1, g2, g3, g4, g5, g6⟩ := hg
      rw [if_pos ⟨rfl, by omega⟩, if_neg (by omega), if_neg (by omega), if_neg (by omega), if_neg (by omega)]
      exact ⟨g1, numR_self hn g2, g3, g4, g5, g6⟩
    · have h7 : op = 2 ∨ op = 3 ∨ op = 4 ∨ op = 6 ∨ op = 9 ∨ op = 10 ∨ op = 14 := by omega
      rcases h7 with h | h | h | h | h | h | h <;> subst h
      · cases yes
        · obtain ⟨rfl, rfl, rfl⟩ := three (show [(⟨#[110, 111]⟩ : ByteArray)] ++ emp3 = _ from hx)
          unfold GX at hg
          rw [if_neg (by decide), if_pos rfl] at hg
          obtain ⟨g1, g2, g3, g4, g5, g6⟩ := hg
          refine ⟨g1, g2, g3, g4.trans (by simp [ByteArray.toList_eq]), g5, g6.trans bytD_empty⟩
        · obtain ⟨rfl, rfl, rfl⟩ := three (show [(⟨#[121, 101, 115]⟩ : ByteArray), bytesD elem] ++ emp3 = _ from hx)
          unfold GX at hg
          rw [if_neg (by decide), if_pos rfl, bytD_bytesD] at hg
          obtain ⟨g1, g2, g3, g4, g5, g6⟩ := hg
          refine ⟨g1, g2, g3, g4.trans (by simp [ByteArray.toList_eq]), g5, g6⟩
      · cases yes
        · obtain ⟨rfl, rfl, rfl⟩ := three (show [(⟨#[111, 108, 100]⟩ : ByteArray)] ++ emp3 = _ from hx)
          unfold GX at hg
          rw [if_neg (by decide), if_neg (by decide), if_pos rfl] at hg
          obtain ⟨g1, g2, g3, g4, g5, g6⟩ := hg
          refine ⟨g1, g2, g3, g4.trans (by simp [ByteArray.toList_eq]), g5, g6⟩
        · obtain ⟨rfl, rfl, rfl⟩ := three (show [(⟨#[110, 101, 119]⟩ : ByteArray)] ++ emp3 = _ from hx)
          unfold GX at hg
          rw [if_neg (by decide), if_neg (by decide), if_pos rfl] at hg
          obtain ⟨g1, g2, g3, g4, g5, g6⟩ := hg
          refine ⟨g1, g2, g3, g4.trans (by simp [ByteArray.toList_eq]), g5, g6⟩
      · cases yes
        · obtain ⟨rfl, rfl, rfl⟩ := three (show [(⟨#[110, 111]⟩ : ByteArray)] ++ emp3 = _ from hx)
          unfold GX at hg
          rw [if_neg (by decide), if_neg (by decide), if_neg (by decide), if_pos rfl] at hg
          obtain ⟨g1, g2, g3, g4, g5, g6⟩ := hg
          refine ⟨g1, g2, g3, g4.trans (by simp [ByteArray.toList_eq]), g5, g6⟩
        · obtain ⟨rfl, rfl, rfl⟩ := three (show [(⟨#[121, 101, 115]⟩ : ByteArray)] ++ emp3 = _ from hx)
          unfold GX at hg
          rw [if_neg (by decide), if_neg (by decide), if_neg (by decide), if_pos rfl] at hg
          obtain ⟨g1, g2, g3, g4, g5, g6⟩ := hg
          refine ⟨g1, g2, g3, g4.trans (by simp [ByteArray.toList_eq]), g5, g6⟩
      · obtain ⟨rfl, rfl, rfl⟩ := three (show ([] : List ByteArray) ++ emp3 = _ from hx)
        unfold GX at hg
        rw [if_neg (by decide), if_neg (by decide), if_neg (by decide), if_neg (by decide), if_neg (by decide), if_neg (by decide), if_pos rfl] at hg
        exact hg
      · cases yes
        · obtain ⟨rfl, rfl, rfl⟩ := three (show [(⟨#[100, 111, 110, 101]⟩ : ByteArray)] ++ emp3 = _ from hx)
          unfold GX at hg
          rw [if_neg (by decide), if_neg (by decide), if_neg (by decide), if_neg (by decide), if_pos rfl] at hg
          obtain ⟨g1, g2, g3, g4, g5, g6⟩ := hg
          refine ⟨g1, g2, g3, g4.trans (by simp [ByteArray.toList_eq]), g5.trans bytD_empty, g6.trans bytD_empty⟩
        · obtain ⟨rfl, rfl, rfl⟩ := three (show [(⟨#[112, 97, 105, 114]⟩ : ByteArray), bytesD key, bytesD elem] ++ emp3 = _ from hx)
          unfold GX at hg
          rw [if_neg (by decide), if_neg (by decide), if_neg (by decide), if_neg (by decide), if_pos rfl, bytD_bytesD, bytD_bytesD] at hg
          obtain ⟨g1, g2, g3, g4, g5, g6⟩ := hg
          refine ⟨g1, g2, g3, g4.trans (by simp [ByteArray.toList_eq]), g5, g6⟩
      · obtain ⟨rfl, rfl, rfl⟩ := three (show ([] : List ByteArray) ++ emp3 = _ from hx)
        unfold GX at hg
        rw [if_neg (by decide), if_neg (by decide), if_neg (by decide), if_neg (by decide), if_neg (by decide), if_neg (by decide), if_neg (by decide), if_pos rfl] at hg
        exact hg
      · by_cases h14 : n = 0
        · subst h14
          obtain ⟨rfl, rfl, rfl⟩ := three (show [(⟨#[102, 105, 110, 101]⟩ : ByteArray)] ++ emp3 = _ from hx)
          unfold GX at hg
          rw [if_neg (by decide), if_neg (by decide), if_neg (by decide), if_neg (by decide), if_neg (by decide), if_pos rfl] at hg
          obtain ⟨g1, g2, g3, g4, g5, g6⟩ := hg
          refine ⟨g1, (numR_empty g2).trans (by decide), (numR_empty g3).trans (by rw [if_neg (by simp)]), g4, g5, g6⟩
        · have hw : wordsD 14 n off yes key elem = [⟨#[114, 117, 108, 101]⟩, numD n, numD off] := by
            unfold wordsD
            rw [if_neg (by decide), if_neg (by decide), if_neg (by decide), if_neg (by decide), if_neg (by decide), if_neg (by decide), if_neg (by decide), if_neg (by decide), if_neg (by decide), if_neg (by decide), if_neg (by decide), if_pos rfl, if_neg h14]
          rw [hw] at hx
          obtain ⟨rfl, rfl, rfl⟩ := three hx
          unfold GX at hg
          rw [if_neg (by decide), if_neg (by decide), if_neg (by decide), if_neg (by decide), if_neg (by decide), if_pos rfl] at hg
          obtain ⟨g1, g2, g3, g4, g5, g6⟩ := hg
          rw [if_pos ⟨rfl, by decide⟩, if_pos ⟨rfl, rfl, h14⟩, if_neg (by decide), if_neg (by simp), if_neg (by simp)]
          exact ⟨g1, numR_self hn g2, numR_self hf g3, g4, g5, g6⟩
  · have hr : restD op err n off yes key elem = [errB, numD err] := if_neg h0
    rw [hr] at hx
    obtain ⟨rfl, rfl, rfl⟩ := three hx
    unfold GX at hg
    rw [if_pos rfl] at hg
    obtain ⟨g1, g2, g3, g4, g5, g6⟩ := hg
    unfold tN tOff tYes tKey tElem
    rw [if_neg (fun e => h0 e.1), if_neg (fun e => h0 e.1), if_neg (fun e => h0 e.1), if_neg (fun e => h0 e.1), if_neg (fun e => h0 e.1)]
    exact ⟨numR_self he g1, g2, g3, g4, g5, g6⟩
theorem show_told {op err n off : Int} {yes : Bool} {key elem : ByteArray} (ho : 1 ≤ op ∧ op ≤ 14) : showD op err (tN op err n) (tOff op err n off) (tYes op err yes) (tKey op err yes key) (tElem op err yes elem) = showD op err n off yes key elem := by
  unfold showD
  congr 2
  by_cases h0 : err = 0
  · subst h0
    show wordsD _ _ _ _ _ _ = wordsD _ _ _ _ _ _
    rcases op_cases ho with h | h | h | h | h | h | h | h | h | h | h | h | h | h <;> subst h
    · rfl
    · cases yes <;> rfl
    · cases yes <;> rfl
    · cases yes <;> rfl
    · rfl
    · rfl
    · rfl
    · rfl
    · cases yes <;> rfl
    · rfl
    · rfl
    · rfl
    · rfl
    · by_cases hn : n = 0
      · subst hn
        rfl
      · have e1 : tN 14 0 n = n := rfl
        have e2 : tOff 14 0 n off = off := if_pos ⟨rfl, rfl, hn⟩
        rw [e1, e2]
        rfl
  · unfold restD
    rw [if_neg h0, if_neg h0]
theorem name_inj {op : Int} (ho : 1 ≤ op ∧ op ≤ 14) {i : Nat} (hi : i < 16) (h : nmN i = nameD op) : kN i = 3 ∧ oN i = op := by
  unfold nameD at h
  rw [if_pos ho] at h
  have hd : ∀ a b : Fin 16, nmN a.1 = nmN b.1 → a = b := by decide +kernel
  have e := hd ⟨i, hi⟩ ⟨op.toNat + 1, by omega⟩ h
  have e2 : i = op.toNat + 1 := by
    have := congrArg Fin.val e
    simpa using this
  unfold kN oN
  rw [if_neg (by omega), if_neg (by omega), if_neg (by omega)]
  exact ⟨rfl, by omega⟩
theorem name_there {op : Int} (ho : 1 ≤ op ∧ op ≤ 14) : ∃ i, i < 16 ∧ nmN i = nameD op := ⟨op.toNat + 1, by omega, by unfold nameD; rw [if_pos ho]⟩
theorem sz_num {n : Int} (h : Fit n) : (numD n).size ≤ 2097152 := Nat.le_trans (num_size n h.1 h.2) (by decide)
theorem sz_bytes {s : ByteArray} (h : s.size ≤ 1048576) : (bytesD s).size ≤ 2097152 := by
  unfold bytesD
  split
  · decide
  · show (strOf (hexL s.data.toList)).data.toList.length ≤ _
    rw [strOf_data, hexL_length]
    have : s.data.toList.length = s.size := rfl
    omega
theorem sz_words {op n off : Int} {yes : Bool} {key elem : ByteArray} (hn : Fit n) (hf : Fit off) (hk : key.size ≤ 1048576) (hl : elem.size ≤ 1048576) : (wordsD op n off yes key elem).length ≤ 3 ∧ ∀ x, x ∈ wordsD op n off yes key elem → x.size ≤ 2097152 := by
  refine ⟨words_shape (fun W => W.length ≤ 3) op n off yes key elem (by simp) (by simp) (fun c _ => by simp) (by simp) (by simp) (by simp), ?_⟩
  exact words_shape (fun W => ∀ x, x ∈ W → x.size ≤ 2097152) op n off yes key elem (all1 (sz_num hn)) (all2 (by decide) (sz_bytes hl)) (fun c hc => all1 (by
    have : ∀ c, c ∈ [(⟨#[110, 111]⟩ : ByteArray), ⟨#[110, 101, 119]⟩, ⟨#[111, 108, 100]⟩, ⟨#[121, 101, 115]⟩, ⟨#[100, 111, 110, 101]⟩, ⟨#[102, 105, 110, 101]⟩] → c.size ≤ 2097152 := by decide
    exact this c hc)) (all3 (by decide) (sz_bytes hk) (sz_bytes hl)) (all3 (by decide) (sz_num hn) (sz_num hf)) (fun x hx => by cases hx)
/-- The line of an answer is not too long. -/
theorem show_size {op err n off : Int} {yes : Bool} {key elem : ByteArray} (he : Fit err) (hn : Fit n) (hf : Fit off) (hk : key.size ≤ 1048576) (hl : elem.size ≤ 1048576) : (showD op err n off yes key elem).size ≤ 8388608 := by
  have hr : (restD op err n off yes key elem).length ≤ 3 ∧ ∀ x, x ∈ restD op err n off yes key elem → x.size ≤ 2097152 := by
    unfold restD
    split
    · exact sz_words hn hf hk hl
    · refine ⟨by simp, fun x hx => ?_⟩
      rcases List.mem_cons.1 hx with rfl | hx
      · decide
      · rw [List.mem_singleton.1 hx]
        exact sz_num he
  have hnm : (nameD op).size ≤ 16 := by
    unfold nameD
    split
    · have : ∀ k : Fin 16, (nmN k.1).size ≤ 16 := by decide
      exact this ⟨op.toNat + 1, by omega⟩
    · decide
  unfold showD
  split
  · show (Lib.join ((nameD op :: restD op err n off yes key elem).map (·.data.toList)) [32]).length ≤ _
    rw [List.map_cons, Lib.join_cons, List.length_append]
    have h1 := tail_length [32] 2097152 ((restD op err n off yes key elem).map (·.data.toList)) (fun y hy => by
      obtain ⟨z, hz, rfl⟩ := List.mem_map.1 hy
      exact hr.2 z hz)
    rw [List.length_map] at h1
    have h2 : (nameD op).data.toList.length = (nameD op).size := rfl
    have h3 : (restD op err n off yes key elem).length * (2097152 + [(32 : UInt8)].length) ≤ 3 * 2097153 := Nat.mul_le_mul hr.1 (by simp)
    omega
  · decide
end Go.Proofs.YtomlmbhbadicbaaDoor
