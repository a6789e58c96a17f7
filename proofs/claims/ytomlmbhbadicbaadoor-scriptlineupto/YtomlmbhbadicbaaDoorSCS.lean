/-
  script: the reference's Show whole (made by gensc12.py, cut by hand).
-/
import Derived.Test.YtomlmbhbadicbaaDoorSC11
namespace Go.Proofs.YtomlmbhbadicbaaDoor
open Go.RowKit
set_option linter.unusedVariables false

theorem jn0 (a : ByteArray) : joinD a [] = a := by
  apply ByteArray.ext
  simp [joinD, Lib.join_cons, Lib.joinTail]
theorem jn1 (a x : ByteArray) : joinD a [x] = a ++ ⟨#[32]⟩ ++ x := by
  apply ByteArray.ext
  apply Array.toList_inj.1
  simp [joinD, Lib.join_cons, Lib.joinTail]
theorem jn2 (a x y : ByteArray) : joinD a [x, y] = a ++ ⟨#[32]⟩ ++ x ++ ⟨#[32]⟩ ++ y := by
  apply ByteArray.ext
  apply Array.toList_inj.1
  simp [joinD, Lib.join_cons, Lib.joinTail]
theorem jn3 (a x y z : ByteArray) : joinD a [x, y, z] = a ++ ⟨#[32]⟩ ++ x ++ ⟨#[32]⟩ ++ y ++ ⟨#[32]⟩ ++ z := by
  apply ByteArray.ext
  apply Array.toList_inj.1
  simp [joinD, Lib.join_cons, Lib.joinTail]
theorem jc1 (a : ByteArray) (x y : Array UInt8) : a ++ ⟨x⟩ ++ ⟨y⟩ = a ++ (⟨x ++ y⟩ : ByteArray) := by
  apply ByteArray.ext
  simp
theorem jc2 (a : ByteArray) (x y z : Array UInt8) : a ++ ⟨x⟩ ++ ⟨y⟩ ++ ⟨z⟩ = a ++ (⟨x ++ y ++ z⟩ : ByteArray) := by
  apply ByteArray.ext
  simp
set_option maxRecDepth 100000 in
set_option maxHeartbeats 2000000 in
theorem rs_no (op err n off : Int) (yes : Bool) (key elem : ByteArray) (w : World) (h : isOp op = false) : Calls Tryd.prog 6 #[.agg #[.int .i64 op, .int .i64 err, .int .i64 n, .int .i64 off, .bool yes, .string key, .string elem]] w fun e w' => e = .returned (.string ⟨#[]⟩) ∧ Keeps w w' (fun _ => False) := by
  have k0 : Keeps w (w.alloc (.cells #[.int .i64 op, .int .i64 err, .int .i64 n, .int .i64 off, .bool yes, .string key, .string elem] 24)) (fun _ => False) := (Keeps.refl _ _).alloc _
  have hNm := rname_any op (w.alloc (.cells #[.int .i64 op, .int .i64 err, .int .i64 n, .int .i64 off, .bool yes, .string key, .string elem] 24))
  have hN0 : nameD op = ⟨#[]⟩ := by
    unfold nameD
    exact if_neg (of_decide_eq_false h)
  rw [hN0] at hNm
  have K0 := hide k0
  clear k0
  go_enter Tryd.func6, Tryd.ntmps6
  go_wp2_with fail
  (with_reducible refine hNm.mono ?_)
  rintro e w1 ⟨rfl, k1⟩
  go_wp2_with fail
  go_ret
  exact ⟨rfl, K0.out.trans k1 (fun _ _ e => e)⟩
theorem rshow_any (op err n off : Int) (yes : Bool) (key elem : ByteArray) (w : World) (he : -9223372036854775808 ≤ err ∧ err ≤ 9223372036854775807) (hn : -9223372036854775808 ≤ n ∧ n ≤ 9223372036854775807) (ho : -9223372036854775808 ≤ off ∧ off ≤ 9223372036854775807) (hk : key.size ≤ 8388608) (hel : elem.size ≤ 8388608) : Calls Tryd.prog 6 #[.agg #[.int .i64 op, .int .i64 err, .int .i64 n, .int .i64 off, .bool yes, .string key, .string elem]] w fun e w' => e = .returned (.string (showD op err n off yes key elem)) ∧ Keeps w w' (fun _ => False) := by
  by_cases hio : isOp op = true
  · by_cases h0 : err = 0
    · subst h0
      have hu : showD op 0 n off yes key elem = joinD (nameD op) (wordsD op n off yes key elem) := if_pos hio
      rw [hu]
      clear hu
      by_cases h1 : op = 1
      · subst h1
        rw [show wordsD 1 n off yes key elem = [numD n] from rfl, jn1]
        exact rs_1 n off yes key elem w hn ho
      by_cases h7 : op = 7
      · subst h7
        rw [show wordsD 7 n off yes key elem = [numD n] from rfl, jn1]
        exact rs_7 n off yes key elem w hn ho
      by_cases h8 : op = 8
      · subst h8
        rw [show wordsD 8 n off yes key elem = [numD n] from rfl, jn1]
        exact rs_8 n off yes key elem w hn ho
      by_cases h5 : op = 5
      · subst h5
        rw [show wordsD 5 n off yes key elem = [numD n] from rfl, jn1]
        exact rs_5 n off yes key elem w hn ho
      by_cases h11 : op = 11
      · subst h11
        rw [show wordsD 11 n off yes key elem = [numD n] from rfl, jn1]
        exact rs_11 n off yes key elem w hn ho
      by_cases h12 : op = 12
      · subst h12
        rw [show wordsD 12 n off yes key elem = [numD n] from rfl, jn1]
        exact rs_12 n off yes key elem w hn ho
      by_cases h13 : op = 13
      · subst h13
        rw [show wordsD 13 n off yes key elem = [numD n] from rfl, jn1]
        exact rs_13 n off yes key elem w hn ho
      by_cases h2 : op = 2
      · subst h2
        cases yes with
        | true =>
          rw [show wordsD 2 n off true key elem = [⟨#[121, 101, 115]⟩, bytesD elem] from rfl, jn2, jc2 (nameD 2) #[32] #[121, 101, 115] #[32]]
          exact rs_2y n off key elem w hk hel
        | false =>
          rw [show wordsD 2 n off false key elem = [⟨#[110, 111]⟩] from rfl, jn1, jc1]
          exact rs_2n n off key elem w
      by_cases h3 : op = 3
      · subst h3
        cases yes with
        | true =>
          rw [show wordsD 3 n off true key elem = [⟨#[110, 101, 119]⟩] from rfl, jn1, jc1]
          exact rs_3y n off key elem w
        | false =>
          rw [show wordsD 3 n off false key elem = [⟨#[111, 108, 100]⟩] from rfl, jn1, jc1]
          exact rs_3n n off key elem w
      by_cases h4 : op = 4
      · subst h4
        cases yes with
        | true =>
          rw [show wordsD 4 n off true key elem = [⟨#[121, 101, 115]⟩] from rfl, jn1, jc1]
          exact rs_4y n off key elem w
        | false =>
          rw [show wordsD 4 n off false key elem = [⟨#[110, 111]⟩] from rfl, jn1, jc1]
          exact rs_4n n off key elem w
      by_cases h9 : op = 9
      · subst h9
        cases yes with
        | true =>
          rw [show wordsD 9 n off true key elem = [⟨#[112, 97, 105, 114]⟩, bytesD key, bytesD elem] from rfl, jn3, jc2 (nameD 9) #[32] #[112, 97, 105, 114] #[32]]
          exact rs_9y n off key elem w hk hel
        | false =>
          rw [show wordsD 9 n off false key elem = [⟨#[100, 111, 110, 101]⟩] from rfl, jn1, jc1]
          exact rs_9n n off key elem w
      by_cases h6 : op = 6
      · subst h6
        rw [show wordsD 6 n off yes key elem = [] from rfl, jn0]
        exact rs_6 n off yes key elem w
      by_cases h10 : op = 10
      · subst h10
        rw [show wordsD 10 n off yes key elem = [] from rfl, jn0]
        exact rs_10 n off yes key elem w
      by_cases h14 : op = 14
      · subst h14
        by_cases hz : n = 0
        · rw [show wordsD 14 n off yes key elem = [⟨#[102, 105, 110, 101]⟩] from if_pos hz, jn1, jc1]
          exact rs_14n n off yes key elem w hz
        · rw [show wordsD 14 n off yes key elem = [⟨#[114, 117, 108, 101]⟩, numD n, numD off] from if_neg hz, jn3, jc2 (nameD 14) #[32] #[114, 117, 108, 101] #[32]]
          exact rs_14y n off yes key elem w hn ho hz
      exfalso
      have := of_decide_eq_true hio
      omega
    · have hu : showD op err n off yes key elem = joinD (nameD op) [⟨#[101, 114, 114, 111, 114]⟩, numD err] := by
        unfold showD restD
        rw [if_pos hio, if_neg h0]
      rw [hu, jn2, jc2 (nameD op) #[32] #[101, 114, 114, 111, 114] #[32]]
      exact rs_err op err n off yes key elem w hio h0 he
  · have hf : isOp op = false := by
      cases h : isOp op with
      | true => exact absurd h hio
      | false => rfl
    have hu : showD op err n off yes key elem = ⟨#[]⟩ := if_neg hio
    rw [hu]
    exact rs_no op err n off yes key elem w hf
end Go.Proofs.YtomlmbhbadicbaaDoor
