/-
  script: the words of an answer (made by gensc8.py).
-/
import Derived.Test.YtomlmbhbadicbaaDoorSC7
namespace Go.Proofs.YtomlmbhbadicbaaDoor
open Go.RowKit
set_option linter.unusedVariables false

def wordsD (op n off : Int) (yes : Bool) (key elem : ByteArray) : List ByteArray :=
  if op = 1 then [numD n] else if op = 7 then [numD n] else if op = 8 then [numD n] else if op = 5 then [numD n] else if op = 11 then [numD n] else if op = 12 then [numD n] else if op = 13 then [numD n]
  else if op = 2 then (if yes then [⟨#[121, 101, 115]⟩, bytesD elem] else [⟨#[110, 111]⟩])
  else if op = 3 then (if yes then [⟨#[110, 101, 119]⟩] else [⟨#[111, 108, 100]⟩])
  else if op = 4 then (if yes then [⟨#[121, 101, 115]⟩] else [⟨#[110, 111]⟩])
  else if op = 9 then (if yes then [⟨#[112, 97, 105, 114]⟩, bytesD key, bytesD elem] else [⟨#[100, 111, 110, 101]⟩])
  else if op = 14 then (if n = 0 then [⟨#[102, 105, 110, 101]⟩] else [⟨#[114, 117, 108, 101]⟩, numD n, numD off])
  else []
theorem aw_any (op err n off : Int) (yes : Bool) (key elem : ByteArray) (w : World) (hn : -9223372036854775808 ≤ n ∧ n ≤ 9223372036854775807) (ho : -9223372036854775808 ≤ off ∧ off ≤ 9223372036854775807) (hk : key.size ≤ 8388608) (he : elem.size ≤ 8388608) (ht : TabW w) : Calls Tryd.prog 10 #[.agg #[.int .i64 op, .int .i64 err, .int .i64 n, .int .i64 off, .bool yes, .string key, .string elem]] w fun e w' => ∃ v, e = .returned v ∧ Words w w' v (wordsD op n off yes key elem) := by
  by_cases h1 : op = 1
  · subst h1
    exact aw_1 err n off yes key elem w hn ho ht
  by_cases h7 : op = 7
  · subst h7
    exact aw_7 err n off yes key elem w hn ho ht
  by_cases h8 : op = 8
  · subst h8
    exact aw_8 err n off yes key elem w hn ho ht
  by_cases h5 : op = 5
  · subst h5
    exact aw_5 err n off yes key elem w hn ho ht
  by_cases h11 : op = 11
  · subst h11
    exact aw_11 err n off yes key elem w hn ho ht
  by_cases h12 : op = 12
  · subst h12
    exact aw_12 err n off yes key elem w hn ho ht
  by_cases h13 : op = 13
  · subst h13
    exact aw_13 err n off yes key elem w hn ho ht
  by_cases h2 : op = 2
  · subst h2
    cases yes with
    | true => exact aw_2y err n off key elem w hk he
    | false => exact aw_2n err n off key elem w
  by_cases h3 : op = 3
  · subst h3
    cases yes with
    | true => exact aw_3y err n off key elem w
    | false => exact aw_3n err n off key elem w
  by_cases h4 : op = 4
  · subst h4
    cases yes with
    | true => exact aw_4y err n off key elem w
    | false => exact aw_4n err n off key elem w
  by_cases h9 : op = 9
  · subst h9
    cases yes with
    | true => exact aw_9y err n off key elem w hk he
    | false => exact aw_9n err n off key elem w
  by_cases h14 : op = 14
  · subst h14
    by_cases h0 : n = 0
    · have := aw_14n err n off yes key elem w h0
      rw [show wordsD 14 n off yes key elem = [⟨#[102, 105, 110, 101]⟩] from if_pos h0]
      exact this
    · have := aw_14y err n off yes key elem w hn ho ht h0
      rw [show wordsD 14 n off yes key elem = [⟨#[114, 117, 108, 101]⟩, numD n, numD off] from if_neg h0]
      exact this
  have e : wordsD op n off yes key elem = [] := by
    unfold wordsD
    rw [if_neg h1, if_neg h7, if_neg h8, if_neg h5, if_neg h11, if_neg h12, if_neg h13, if_neg h2, if_neg h3, if_neg h4, if_neg h9, if_neg h14]
  rw [e]
  exact aw_none op err n off yes key elem w (fun k hk => by
    simp only [List.mem_cons, List.mem_nil_iff, or_false] at hk
    rcases hk with rfl | rfl | rfl | rfl | rfl | rfl | rfl | rfl | rfl | rfl | rfl | rfl <;> assumption)
theorem bytes_size (s : ByteArray) (h : s.size ≤ 8388608) : (bytesD s).size ≤ 16777216 := by
  unfold bytesD
  split
  · decide
  · rw [strOf_size, hexL_length]
    have : s.data.toList.length = s.size := rfl
    omega
def Sml (xs : List ByteArray) : Prop := xs.length ≤ 3 ∧ ∀ x, x ∈ xs → x.size ≤ 16777216
theorem sml0 : Sml [] := ⟨by simp, fun x hx => by cases hx⟩
theorem sml1 {a : ByteArray} (h : a.size ≤ 16777216) : Sml [a] := ⟨by simp, fun x hx => by rw [List.mem_singleton.1 hx]; exact h⟩
theorem sml2 {a c : ByteArray} (h : a.size ≤ 16777216) (h2 : c.size ≤ 16777216) : Sml [a, c] := ⟨by simp, fun x hx => by
  rcases List.mem_cons.1 hx with e | e
  · rw [e]; exact h
  · rw [List.mem_singleton.1 e]; exact h2⟩
theorem sml3 {a c d : ByteArray} (h : a.size ≤ 16777216) (h2 : c.size ≤ 16777216) (h3 : d.size ≤ 16777216) : Sml [a, c, d] := ⟨by simp, fun x hx => by
  rcases List.mem_cons.1 hx with e | e
  · rw [e]; exact h
  · exact (sml2 h2 h3).2 x e⟩
theorem words_small (op n off : Int) (yes : Bool) (key elem : ByteArray) (hn : -9223372036854775808 ≤ n ∧ n ≤ 9223372036854775807) (ho : -9223372036854775808 ≤ off ∧ off ≤ 9223372036854775807) (hk : key.size ≤ 8388608) (he : elem.size ≤ 8388608) : Sml (wordsD op n off yes key elem) := by
  have a1 : (numD n).size ≤ 16777216 := Nat.le_trans (num_size n hn.1 hn.2) (by decide)
  have a2 : (numD off).size ≤ 16777216 := Nat.le_trans (num_size off ho.1 ho.2) (by decide)
  have a3 := bytes_size key hk
  have a4 := bytes_size elem he
  by_cases h1 : op = 1
  · subst h1
    exact sml1 a1
  by_cases h7 : op = 7
  · subst h7
    exact sml1 a1
  by_cases h8 : op = 8
  · subst h8
    exact sml1 a1
  by_cases h5 : op = 5
  · subst h5
    exact sml1 a1
  by_cases h11 : op = 11
  · subst h11
    exact sml1 a1
  by_cases h12 : op = 12
  · subst h12
    exact sml1 a1
  by_cases h13 : op = 13
  · subst h13
    exact sml1 a1
  by_cases h2 : op = 2
  · subst h2
    cases yes with
    | true => exact sml2 (by decide) a4
    | false => exact sml1 (by decide)
  by_cases h3 : op = 3
  · subst h3
    cases yes with
    | true => exact sml1 (by decide)
    | false => exact sml1 (by decide)
  by_cases h4 : op = 4
  · subst h4
    cases yes with
    | true => exact sml1 (by decide)
    | false => exact sml1 (by decide)
  by_cases h9 : op = 9
  · subst h9
    cases yes with
    | true => exact sml3 (by decide) a3 a4
    | false => exact sml1 (by decide)
  by_cases h14 : op = 14
  · subst h14
    by_cases h0 : n = 0
    · rw [show wordsD 14 n off yes key elem = [⟨#[102, 105, 110, 101]⟩] from if_pos h0]
      exact sml1 (by decide)
    · rw [show wordsD 14 n off yes key elem = [⟨#[114, 117, 108, 101]⟩, numD n, numD off] from if_neg h0]
      exact sml3 (by decide) a1 a2
  have e : wordsD op n off yes key elem = [] := by
    unfold wordsD
    rw [if_neg h1, if_neg h7, if_neg h8, if_neg h5, if_neg h11, if_neg h12, if_neg h13, if_neg h2, if_neg h3, if_neg h4, if_neg h9, if_neg h14]
  rw [e]
  exact sml0
theorem tail_length (sep : List UInt8) (M : Nat) : ∀ r : List (List UInt8), (∀ x, x ∈ r → x.length ≤ M) → (Lib.joinTail sep r).length ≤ r.length * (M + sep.length)
  | [], _ => by simp [Lib.joinTail]
  | x :: r, h => by
    have ih := tail_length sep M r (fun y hy => h y (List.mem_cons_of_mem _ hy))
    have hx := h x (List.mem_cons_self ..)
    unfold Lib.joinTail at ih ⊢
    rw [List.map_cons, List.flatten_cons, List.length_append, List.length_append, List.length_cons, Nat.succ_mul]
    omega
/-- A name and some words, joined. -/
def joinD (x : ByteArray) (r : List ByteArray) : ByteArray := ⟨(Lib.join ((x :: r).map (·.data.toList)) [32]).toArray⟩
theorem join_small (x : ByteArray) (r : List ByteArray) (hx : x.size ≤ 16777216) (hl : r.length ≤ 3) (hr : ∀ y, y ∈ r → y.size ≤ 16777216) : (Lib.join ((x :: r).map (·.data.toList)) [32]).length ≤ 140737488355328 := by
  rw [List.map_cons, Lib.join_cons, List.length_append]
  have h1 := tail_length [32] 16777216 (r.map (·.data.toList)) (fun y hy => by
    obtain ⟨z, hz, rfl⟩ := List.mem_map.1 hy
    exact hr z hz)
  rw [List.length_map] at h1
  have h2 : x.data.toList.length = x.size := rfl
  have h3 : r.length * (16777216 + [(32 : UInt8)].length) ≤ 3 * 16777217 := Nat.mul_le_mul hl (by simp)
  omega
end Go.Proofs.YtomlmbhbadicbaaDoor
