/-
  script: the reference's Word: digits as texts and as numbers; its walk to the base 16.
-/
import Derived.Test.YtfpiibccggjjpaaDoorHSV5
namespace Go.Proofs.YtfpiibccggjjpaaDoor
open Go.RowKit
set_option linter.unusedVariables false
theorem less_dec : ∀ (k l : List UInt8) (a : Nat), k.length = l.length → (∀ x, x ∈ k → digD (x.toNat : Int) < 10) → (∀ x, x ∈ l → digD (x.toNat : Int) < 10) → ((Op.bytesLess k l = true ∧ decF a k < decF a l) ∨ (Op.bytesLess k l = false ∧ k = l) ∨ (Op.bytesLess k l = false ∧ k ≠ l ∧ decF a l < decF a k))
  | [], [], a, _, _, _ => Or.inr (Or.inl ⟨rfl, rfl⟩)
  | [], _ :: _, a, h, _, _ => by simp at h
  | _ :: _, [], a, h, _, _ => by simp at h
  | x :: k, y :: l, a, h, hk, hl => by
    have h' : k.length = l.length := by simpa using h
    have hk' := fun z hz => hk z (List.mem_cons_of_mem x hz)
    have hl' := fun z hz => hl z (List.mem_cons_of_mem y hz)
    obtain ⟨x1, x2, -⟩ := dec_byte (hk x List.mem_cons_self)
    obtain ⟨y1, y2, -⟩ := dec_byte (hl y List.mem_cons_self)
    unfold Op.bytesLess
    by_cases e : x = y
    · subst e
      have e1 : decide (x < x) = false := by simp
      have e2 : (x == x) = true := by simp
      rw [e1, e2, Bool.false_or, Bool.true_and]
      rcases less_dec k l (decS a x) h' hk' hl' with ⟨q1, q2⟩ | ⟨q1, rfl⟩ | ⟨q1, q2, q3⟩
      · exact Or.inl ⟨q1, q2⟩
      · exact Or.inr (Or.inl ⟨q1, rfl⟩)
      · exact Or.inr (Or.inr ⟨q1, fun q => q2 (List.cons.inj q).2, q3⟩)
    · have e2 : (x == y) = false := by simpa using e
      have hne : x.toNat ≠ y.toNat := fun q => e (UInt8.toNat_inj.1 q)
      rw [e2, Bool.false_and, Bool.or_false]
      by_cases hlt : x.toNat < y.toNat
      · have e1 : decide (x < y) = true := by rw [decide_eq_true_iff]; exact UInt8.lt_iff_toNat_lt.2 hlt
        exact Or.inl ⟨e1, dec_lex k l (decS a x) (decS a y) h' hk' hl' (by unfold decS; omega)⟩
      · have e1 : decide (x < y) = false := by rw [decide_eq_false_iff_not]; exact fun q => hlt (UInt8.lt_iff_toNat_lt.1 q)
        exact Or.inr (Or.inr ⟨e1, fun q => e (List.cons.inj q).1, dec_lex l k (decS a y) (decS a x) h'.symm hl' hk' (by unfold decS; omega)⟩)
def most20 : List UInt8 := [49, 56, 52, 52, 54, 55, 52, 52, 48, 55, 51, 55, 48, 57, 53, 53, 49, 54, 49, 53]
theorem most20_val : decF 0 most20 = 18446744073709551615 := by decide
theorem most20_dig : ∀ x, x ∈ most20 → digD (x.toNat : Int) < 10 := by decide
/-- A number of twenty digits: as a text, as a number. -/
theorem gtr_dec {k : List UInt8} (hl : k.length = 20) (hk : ∀ x, x ∈ k → digD (x.toNat : Int) < 10) : (Op.bytesLess k most20 || k == most20) = decide (decF 0 k ≤ 18446744073709551615) := by
  rcases less_dec k most20 0 hl hk most20_dig with ⟨q1, q2⟩ | ⟨q1, rfl⟩ | ⟨q1, q2, q3⟩
  · rw [most20_val] at q2
    rw [q1, decide_eq_true (by omega), Bool.true_or]
  · rw [most20_val]
    decide
  · rw [most20_val] at q3
    have : (k == most20) = false := by simpa using q2
    rw [q1, this, decide_eq_false (by omega)]
    rfl
theorem wrdE_hex {s : List UInt8} (h : s.take 2 = [48, 120]) : wrdE s = if allD 16 (s.drop 2) = true then (if hexV (s.drop 2) < 18446744073709551616 then (hexV (s.drop 2), 0) else (0, 161)) else (0, 160) := by
  unfold wrdE
  rw [if_pos h]
theorem wrdE_dec {s : List UInt8} (h : ¬ s.take 2 = [48, 120]) : wrdE s = if allD 10 s = true then (if decF 0 s ≤ 18446744073709551615 then (decF 0 s, 0) else (0, 161)) else (0, 160) := by
  unfold wrdE
  rw [if_neg h]
  by_cases ha : allD 10 s = true
  · rw [if_pos ha, if_pos ha, parseU_dec ha]
    by_cases h3 : decF 0 s ≤ 18446744073709551615
    · rw [if_pos h3, if_pos h3]
    · rw [if_neg h3, if_neg h3]
  · rw [if_neg ha, if_neg ha]
set_option maxRecDepth 100000 in
set_option maxHeartbeats 2000000 in
theorem rword_hex (s : ByteArray) (hs : s.size ≤ 8388608) (h2 : s.data.toList.take 2 = [48, 120]) (h3 : 2 < s.size) (w : World) : Calls Tryd.prog 56 #[.string s] w fun e w' => e = .returned (.tuple #[.int .u64 ((wrdE s.data.toList).1 : Int), .int .i64 (wrdE s.data.toList).2]) ∧ w' = w := by
  obtain ⟨R, hR⟩ : ∃ R, wrdE s.data.toList = R := ⟨_, rfl⟩
  rw [hR]
  rw [wrdE_hex h2] at hR
  have h3' : (2 : Int) < (s.size : Int) := by omega
  have h3a : (2 : Int) ≤ (s.size : Int) := by omega
  have h3b : (0 : Int) < (s.size : Int) := by omega
  have h3c : (1 : Int) < (s.size : Int) := by omega
  have hg : ∀ i (hi : i < 2) (hi' : i < s.size), s[i] = [48, 120][i]'hi := fun i hi hi' => by
    have e : s.data.toList[i]'hi' = s[i] := rfl
    rw [← e, ← List.getElem_take (j := 2) (h := by rw [List.length_take]; exact Nat.lt_min.2 ⟨hi, hi'⟩)]
    simp only [h2]
  have g0 : s[0] = 48 := hg 0 (by decide) (by omega)
  have g1 : s[1] = 120 := hg 1 (by decide) (by omega)
  have hX : (s.extract 2 s.size).data.toList = s.data.toList.drop 2 := by
    rw [extract_eq, strOf_data, List.take_of_length_le (show s.data.toList.length ≤ s.size from Nat.le_refl _)]
  have hXs : (s.extract 2 s.size).size ≤ 8388608 := by rw [ByteArray.size_extract]; omega
  rw [← hX] at hR
  clear hX h2 hg
  obtain ⟨X, hXe⟩ : ∃ X, s.extract 2 s.size = X := ⟨_, rfl⟩
  rw [hXe] at hR hXs
  have HB := hide (fun W => bare_16 X hXs W)
  have HX := hide hXe
  have HR := hide hR
  have HV := hide (fun (T : ByteArray) (hT : T.size ≤ 8388608) (W : World) => value_16 T hT W)
  have HXs := hide hXs
  clear hXe hR hXs
  go_enter Tryd.func56, Tryd.ntmps56
  go_wp2_with fail
  rw [HX.out]
  (with_reducible refine (HB.out _).mono ?_)
  rintro e w1 ⟨hb, rfl⟩
  rcases hb with ⟨hal, rfl⟩ | ⟨hal, rfl⟩
  rotate_left
  · obtain rfl : (0, 160) = R := by rw [← HR.out, hal]; rfl
    clear hal
    go_wp2_with fail
    refine bodyPost_ret (v := .tuple #[.int .u64 0, .int .i64 160]) (by simp [results, Tryd.results56, go_sem]) rfl ?_
    exact ⟨rfl, rfl⟩
  · obtain ⟨T, hT⟩ : ∃ T, strOf (strip X.data.toList) = T := ⟨_, rfl⟩
    have hTl : T.data.toList = strip X.data.toList := by rw [← hT, strOf_data]
    have hTs : T.size = (strip X.data.toList).length := by rw [← hT, strOf_size]
    rw [hT]
    clear hT
    by_cases h16 : 16 < T.size
    · have h16' : (16 : Int) < (T.size : Int) := by omega
      obtain rfl : (0, 161) = R := by rw [← HR.out, if_pos hal, if_neg (hex_long hal (by omega))]
      clear h16 hTl hTs hal
      go_wp2_with fail
      refine bodyPost_ret (v := .tuple #[.int .u64 0, .int .i64 161]) (by simp [results, Tryd.results56, go_sem]) rfl ?_
      exact ⟨rfl, rfl⟩
    · have h16' : ¬ (16 : Int) < (T.size : Int) := by omega
      obtain ⟨q1, q2⟩ := hex_short hal (by omega)
      obtain rfl : (hexV X.data.toList, 0) = R := by rw [← HR.out, if_pos hal, if_pos q1]
      have hV := HV.out T (by omega)
      rw [hTl, q2] at hV
      clear h16 hTl hTs hal q2 HR q1
      obtain ⟨V, hVV⟩ : ∃ V, hexV X.data.toList = V := ⟨_, rfl⟩
      rw [hVV] at hV
      have HVV := hide hVV
      clear hVV
      go_wp2_with fail
      (with_reducible refine (hV _).mono ?_)
      rintro e w1 ⟨rfl, rfl⟩
      clear hV
      go_wp2_with fail
      refine bodyPost_ret (v := .tuple #[.int .u64 (V : Int), .int .i64 0]) (by simp [results, Tryd.results56, go_sem]) rfl ?_
      exact ⟨by rw [HVV.out], rfl⟩
end Go.Proofs.YtfpiibccggjjpaaDoor
