/-
  script: ScriptAnswers' walk.
-/
import Derived.Test.YteimjilngabebaaDoorSD3
import Derived.Test.YteimjilngabebaaDoorSC22
namespace Go.Proofs.YteimjilngabebaaDoor
open Go.RowKit
set_option linter.unusedVariables false

theorem alloc2 {w : World} {o1 o2 : Obj} {P : World → Prop} (h : ∀ W0, W0.heap[w.heap.size]? = some o1 → W0.heap[w.heap.size + 1]? = some o2 → Keeps w W0 (fun _ => False) → P W0) : P ((w.alloc o1).alloc o2) := by
  have k1 : Keeps (w.alloc o1) ((w.alloc o1).alloc o2) (fun _ => False) := (Keeps.refl _ _).alloc _
  have e1 := heap_alloc_new (w.alloc o1) o2
  simp only [World.size_alloc] at e1
  exact h _ (k1.blk (heap_alloc_new w o1)) e1 (((Keeps.refl _ _).alloc _).alloc _)
/-- An answer's seven fields as tidy leaves them. -/
structure Tid (op err n off : Int) (yes : Bool) (key elem : ByteArray) (p0 p1 p2 p3 : Int) (p4 : Bool) (p5 p6 : ByteArray) (has : Bool) : Prop where
  val : tidV op err n off yes key elem = .tuple #[.agg #[.int .i64 p0, .int .i64 p1, .int .i64 p2, .int .i64 p3, .bool p4, .string p5, .string p6], .bool has]
  yes : has = true → (1 ≤ op ∧ op ≤ 14) ∧ p0 = op ∧ p1 = err ∧ p2 = tN op err n ∧ p3 = tOff op err n off ∧ p4 = tYes op err yes ∧ p5 = tKey op err yes key ∧ p6 = tElem op err yes elem
  no : has = false → ¬ (1 ≤ op ∧ op ≤ 14)
theorem tid_there (op err n off : Int) (yes : Bool) (key elem : ByteArray) : ∃ p0 p1 p2 p3 p4 p5 p6 has, Tid op err n off yes key elem p0 p1 p2 p3 p4 p5 p6 has := by
  by_cases h : 1 ≤ op ∧ op ≤ 14
  · exact ⟨_, _, _, _, _, _, _, true, if_pos h, fun _ => ⟨h, rfl, rfl, rfl, rfl, rfl, rfl, rfl⟩, fun e => (by cases e)⟩
  · exact ⟨_, _, _, _, _, _, _, false, if_neg h, fun e => (by cases e), fun _ => h⟩
theorem Tid.line {op err n off : Int} {yes : Bool} {key elem : ByteArray} {p0 p1 p2 p3 : Int} {p4 : Bool} {p5 p6 : ByteArray} (h : Tid op err n off yes key elem p0 p1 p2 p3 p4 p5 p6 true) : showD p0 p1 p2 p3 p4 p5 p6 = showD op err n off yes key elem := by
  obtain ⟨ho, rfl, rfl, rfl, rfl, rfl, rfl, rfl⟩ := h.yes rfl
  exact show_told ho
theorem Tid.nil {op err n off : Int} {yes : Bool} {key elem : ByteArray} {p0 p1 p2 p3 : Int} {p4 : Bool} {p5 p6 : ByteArray} (h : Tid op err n off yes key elem p0 p1 p2 p3 p4 p5 p6 false) : showD op err n off yes key elem = ⟨#[]⟩ := by
  unfold showD
  rw [if_neg]
  unfold isOp
  simpa using h.no rfl
theorem Tid.told {op err n off : Int} {yes : Bool} {key elem : ByteArray} {p0 p1 p2 p3 : Int} {p4 : Bool} {p5 p6 : ByteArray} (h : Tid op err n off yes key elem p0 p1 p2 p3 p4 p5 p6 true) (he : Fit err) (hn : Fit n) (hf : Fit off) {v : Value} {er : Int} (hr : ReadD (showD op err n off yes key elem) v er) :
    v = .agg #[.int .i64 p0, .int .i64 p1, .int .i64 p2, .int .i64 p3, .bool p4, .string p5, .string p6] ∧ er = 0 := by
  obtain ⟨ho, rfl, rfl, rfl, rfl, rfl, rfl, rfl⟩ := h.yes rfl
  exact hr.2 _ _ _ _ _ _ _ ⟨ho, he, hn, hf, rfl⟩
set_option pp.deepTerms true
set_option pp.maxSteps 400000
set_option maxRecDepth 100000 in
set_option maxHeartbeats 4000000 in
theorem scriptAnswers_walk (op err n off : Int) (yes : Bool) (key elem : ByteArray) (he : Fit err) (hn : Fit n) (hf : Fit off) (hk : key.size ≤ 1048576) (hl : elem.size ≤ 1048576)
    (op' err' n' off' : Int) (yes' : Bool) (key' elem' : ByteArray) (he' : Fit err') (hn' : Fit n') (hf' : Fit off') (hk' : key'.size ≤ 1048576) (hl' : elem'.size ≤ 1048576) (w : World) (ht : TabW w) (hR : RowsAt w) (hE : ErrW w) :
    Calls Tryd.prog 3 #[.agg #[.int .i64 op, .int .i64 err, .int .i64 n, .int .i64 off, .bool yes, .string key, .string elem], .agg #[.int .i64 op', .int .i64 err', .int .i64 n', .int .i64 off', .bool yes', .string key', .string elem']] w fun e w' => e = .returned (.bool true) ∧ Keeps w w' (fun _ => False) := by
  obtain ⟨p0, p1, p2, p3, p4, p5, p6, has, hp⟩ := tid_there op err n off yes key elem
  obtain ⟨q0, q1, q2, q3, q4, q5, q6, also, hq⟩ := tid_there op' err' n' off' yes' key' elem'
  have hT := fun W => tidy_any op err n off yes key elem W
  have hT' := fun W => tidy_any op' err' n' off' yes' key' elem' W
  rw [hp.val] at hT
  rw [hq.val] at hT'
  have hS := fun (W : World) (k : Keeps w W (fun _ => False)) => show_any op err n off yes key elem W he hn hf (Nat.le_trans hk (by decide)) (Nat.le_trans hl (by decide)) (ht.keeps k) (hR.keeps k)
  have hS' := fun (W : World) (k : Keeps w W (fun _ => False)) => show_any op' err' n' off' yes' key' elem' W he' hn' hf' (Nat.le_trans hk' (by decide)) (Nat.le_trans hl' (by decide)) (ht.keeps k) (hR.keeps k)
  have hRd := fun (W : World) (k : Keeps w W (fun _ => False)) => read_any (showD op err n off yes key elem) (show_size he hn hf hk hl) W (ht.keeps k) (hR.keeps k) (hE.keeps k)
  have hnil : has = false → showD op err n off yes key elem = ⟨#[]⟩ := fun e => by subst e; exact hp.nil
  have htold : has = true → ∀ v er, ReadD (showD op err n off yes key elem) v er → v = .agg #[.int .i64 p0, .int .i64 p1, .int .i64 p2, .int .i64 p3, .bool p4, .string p5, .string p6] ∧ er = 0 := fun e v er h => by subst e; exact hp.told he hn hf h
  have hback : has = true → also = true → (p0 = q0 ∧ p1 = q1 ∧ p2 = q2 ∧ p3 = q3 ∧ p4 = q4 ∧ p5 = q5 ∧ p6 = q6) → showD op err n off yes key elem = showD op' err' n' off' yes' key' elem' := fun e1 e2 h => by
    subst e1 e2
    obtain ⟨rfl, rfl, rfl, rfl, rfl, rfl, rfl⟩ := h
    exact hp.line.symm.trans hq.line
  have hfwd : also = true → showD op err n off yes key elem = showD op' err' n' off' yes' key' elem' → ∀ v er, ReadD (showD op err n off yes key elem) v er → v = .agg #[.int .i64 q0, .int .i64 q1, .int .i64 q2, .int .i64 q3, .bool q4, .string q5, .string q6] ∧ er = 0 := fun e1 e2 v er h => by
    subst e1
    rw [e2] at h
    exact hq.told he' hn' hf' h
  generalize showD op err n off yes key elem = S at *
  generalize showD op' err' n' off' yes' key' elem' = T at *
  have HT := hide hT
  have HT' := hide hT'
  have HS := hide hS
  have HS' := hide hS'
  have HRd := hide hRd
  have Hnil := hide hnil
  have Htold := hide htold
  have Hback := hide hback
  have Hfwd := hide hfwd
  clear hT hT' hS hS' hRd hnil htold hback hfwd hp hq he hn hf hk hl he' hn' hf' hk' hl' ht hR hE
  go_enter Tryd.func3, Tryd.ntmps3
  go_wp2_with fail
  refine alloc2 (P := fun W => Calls _ _ _ W _) fun W0 hA hB k0 => ?_
  (with_reducible refine (HT.out _).mono ?_)
  rintro e w1 ⟨rfl, k1⟩
  have kA : Keeps w1 (w1.alloc (.cells #[.int .i64 p0, .int .i64 p1, .int .i64 p2, .int .i64 p3, .bool p4, .string p5, .string p6] 24)) (fun _ => False) := (Keeps.refl _ _).alloc _
  obtain ⟨⟨b0, b1, b2, b3, b4, b5, b6⟩, -⟩ := ans_open (kA.blk (k1.blk hB))
  have HA := hide (k1.blk hA)
  have HB := hide (k1.blk hB)
  have K1 := hide (k0.trans k1 (fun _ _ e => e))
  clear kA hA hB k0 k1
  go_wp2_with fail
  refine alloc1 (P := fun W => Calls _ _ _ W _) fun W1 hX hzX kX => ?_
  (with_reducible refine (HT'.out _).mono ?_)
  rintro e w2 ⟨rfl, k2⟩
  have kB : Keeps w2 (w2.alloc (.cells #[.int .i64 q0, .int .i64 q1, .int .i64 q2, .int .i64 q3, .bool q4, .string q5, .string q6] 24)) (fun _ => False) := (Keeps.refl _ _).alloc _
  have k12 := kX.trans k2 (fun _ _ e => e)
  clear b0 b1 b2 b3 b4 b5 b6
  obtain ⟨⟨b0, b1, b2, b3, b4, b5, b6⟩, -⟩ := ans_open (kB.blk (k12.blk HA.out))
  have HA2 := hide (k12.blk HA.out)
  have HB2 := hide (k12.blk HB.out)
  have HX2 := hide (k2.blk hX)
  have K2 := hide (K1.out.trans k12 (fun _ _ e => e))
  clear kB k12 kX k2 hX hzX HA HB K1
  go_wp2_with fail
  refine alloc1 (P := fun W => Calls _ _ _ W _) fun W2 hY hzY kY => ?_
  have K2y := hide (K2.out.trans kY (fun _ _ e => e))
  (with_reducible refine (HS.out _ K2y.out).mono ?_)
  rintro e w3 ⟨rfl, k3⟩
  have k23 := kY.trans k3 (fun _ _ e => e)
  have K3 := hide (K2y.out.trans k3 (fun _ _ e => e))
  clear b0 b1 b2 b3 b4 b5 b6
  obtain ⟨⟨b0, b1, b2, b3, b4, b5, b6⟩, -⟩ := ans_open (k23.blk HB2.out)
  have HX3 := hide (k23.blk HX2.out)
  have HY3 := hide (k3.blk hY)
  clear k23 k3 kY hY hzY HA2 HB2 HX2 K2 K2y
  go_wp2_with fail
  (with_reducible refine (HS'.out _ K3.out).mono ?_)
  rintro e w4 ⟨rfl, k4⟩
  have K4 := hide (K3.out.trans k4 (fun _ _ e => e))
  have HX4 := hide (k4.blk HX3.out)
  have HY4 := hide (k4.blk HY3.out)
  clear b0 b1 b2 b3 b4 b5 b6 HX3 HY3 K3 k4
  cases has with
  | false =>
    have e0 : S = ⟨#[]⟩ := Hnil.out rfl
    subst e0
    clear Hnil Htold Hback Hfwd HT HT' HS HS' HRd
    go_wp2_with fail
    go_ret
    exact ⟨by simp, K4.out⟩
  | true =>
    go_wp2_with fail
    (with_reducible refine (HRd.out _ K4.out).mono ?_)
    rintro e w5 ⟨⟨v, er, rfl, hv⟩, k5⟩
    obtain ⟨e1, e2⟩ := Htold.out (by trivial) v er hv
    subst e1 e2
    have HF : Hid (also = true → S = T → (p0 = q0 ∧ p1 = q1 ∧ p2 = q2 ∧ p3 = q3 ∧ p4 = q4 ∧ p5 = q5 ∧ p6 = q6)) := fun h1 h2 => by
      have h3 := (Hfwd.out h1 h2 _ _ hv).1
      injection h3 with h3
      simpa using h3
    have HBk : Hid (also = true → (p0 = q0 ∧ p1 = q1 ∧ p2 = q2 ∧ p3 = q3 ∧ p4 = q4 ∧ p5 = q5 ∧ p6 = q6) → S = T) := Hback.out (by trivial)
    have hX4 := k5.blk HX4.out
    have hY4 := k5.blk HY4.out
    have K5' := hide (K4.out.trans k5 (fun _ _ e => e))
    have HX5 := hide hX4
    have HY5 := hide hY4
    clear hX4 hY4 k5 hv Hnil Htold Hback Hfwd HT HT' HS HS' HRd K4 HX4 HY4
    go_upto_region 8 with fail
    refine alloc1 (P := fun W => Code.wp _ _ _ _ W) fun W5 hR5 hz5 kR => ?_
    obtain ⟨⟨a0, a1, a2, a3, a4, a5, a6⟩, -⟩ := ans_open (kR.blk HX5.out)
    obtain ⟨⟨b0, b1, b2, b3, b4, b5, b6⟩, -⟩ := ans_open (kR.blk HY5.out)
    obtain ⟨⟨c0, c1, c2, c3, c4, c5, c6⟩, -⟩ := ans_open hR5
    have K5 := hide (K5'.out.trans kR (fun _ _ e => e))
    clear hR5 hz5 kR HX5 HY5 K5'
    cases also with
    | false =>
      clear HF HBk
      go_wp2_with fail
      go_ret
      exact ⟨rfl, K5.out⟩
    | true =>
      by_cases hST : S = T
      · obtain ⟨rfl, rfl, rfl, rfl, rfl, rfl, rfl⟩ := HF.out (by trivial) hST
        have y := str_yes hST
        clear HF HBk
        go_wp2_with fail
        go_ret
        exact ⟨by simp, K5.out⟩
      · have y := str_no hST
        clear HF
        by_cases n0 : ¬ p0 = q0
        · have y0 : (p0 == q0) = false := by simp [n0]
          clear HBk
          go_wp2_with fail
          go_ret
          exact ⟨by simp, K5.out⟩
        have e0 := Classical.not_not.1 n0
        clear n0
        by_cases n1 : ¬ p1 = q1
        · have y1 : (p1 == q1) = false := by simp [n1]
          clear HBk
          go_wp2_with fail
          go_ret
          exact ⟨by simp, K5.out⟩
        have e1 := Classical.not_not.1 n1
        clear n1
        by_cases n2 : ¬ p2 = q2
        · have y2 : (p2 == q2) = false := by simp [n2]
          clear HBk
          go_wp2_with fail
          go_ret
          exact ⟨by simp, K5.out⟩
        have e2 := Classical.not_not.1 n2
        clear n2
        by_cases n3 : ¬ p3 = q3
        · have y3 : (p3 == q3) = false := by simp [n3]
          clear HBk
          go_wp2_with fail
          go_ret
          exact ⟨by simp, K5.out⟩
        have e3 := Classical.not_not.1 n3
        clear n3
        by_cases n4 : ¬ p4 = q4
        · have y4 : (p4 == q4) = false := by simp [n4]
          clear HBk
          go_wp2_with fail
          go_ret
          exact ⟨by simp, K5.out⟩
        have e4 := Classical.not_not.1 n4
        clear n4
        by_cases n5 : ¬ p5 = q5
        · have y5 := str_no n5
          clear HBk
          go_wp2_with fail
          go_ret
          exact ⟨by simp, K5.out⟩
        have e5 := Classical.not_not.1 n5
        clear n5
        by_cases n6 : ¬ p6 = q6
        · have y6 := str_no n6
          clear HBk
          go_wp2_with fail
          go_ret
          exact ⟨by simp, K5.out⟩
        have e6 := Classical.not_not.1 n6
        clear n6
        exact absurd (HBk.out (by trivial) ⟨e0, e1, e2, e3, e4, e5, e6⟩) hST
end Go.Proofs.YteimjilngabebaaDoor
