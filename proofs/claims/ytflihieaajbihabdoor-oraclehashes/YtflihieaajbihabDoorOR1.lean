/-
  The reference's oracle: Hash, New.
-/
import Derived.Test.YtflihieaajbihabDoorOV4
namespace Go.Proofs.YtflihieaajbihabDoor
open Go.RowKit
set_option linter.unusedVariables false

/-- The reference's oracle at block p. -/
def RefAt (w : World) (p : Nat) (os : List Ovr) : Prop := ∃ a cap, w.heap[p]? = some (.cells #[.slice a os.length cap] 41) ∧ RowO w (.slice a os.length cap) os
theorem RefAt.kp {w w1 : World} {p : Nat} {os : List Ovr} (h : RefAt w p os) (k : Kp w w1) : RefAt w1 p os := by
  obtain ⟨a, cap, h1, h2⟩ := h
  exact ⟨a, cap, k.blk h1, h2.kp k⟩

/-- What the reference answers: the first override with this key. -/
def firstN (os : List Ovr) (k : List UInt8) (d : Nat) : Nat := match os with
  | [] => d
  | o :: t => if o.k = k then o.2 else firstN t k d
theorem firstN_drop (os : List Ovr) (i : Nat) (hi : i < os.length) (k : List UInt8) (d : Nat) : firstN (os.drop i) k d = if os[i].k = k then os[i].2 else firstN (os.drop (i + 1)) k d := by
  rw [List.drop_eq_getElem_cons hi, firstN]

set_option maxHeartbeats 1000000 in
theorem rhash_walk (seed : Int) (key : ByteArray) (X : Nat) {p : Nat} {os : List Ovr} (w : World) (h : RefAt w p os)
    (hM : ∀ W, Kp w W → Calls Tryd.prog 10 #[.int .u64 seed, .string key] W fun e w' => e = .returned (.int .u64 (X : Nat)) ∧ Kp W w') (R : Nat) (hR : R = firstN os key.data.toList X) :
    Calls Tryd.prog 7 #[.pointer (some ⟨p, 0, none⟩), .int .u64 seed, .string key] w fun e w' => e = .returned (.int .u64 (R : Nat)) ∧ Kp w w' := by
  obtain ⟨a, cap, h1, h2⟩ := h
  have c0 : w.cell? ⟨p, 0, none⟩ = some (.slice a os.length cap) := cell_blk h1 rfl
  have hm9 := RowO.max h2
  have HR := hide hR
  clear hR h1
  go_enter Tryd.func7, Tryd.ntmps7
  go_wp2_with fail
  go_loopw [7] (fun vi wr => ∃ i : Nat, vi = .int .i64 (i : Int) ∧ i ≤ os.length ∧ R = firstN (os.drop i) key.data.toList X ∧ Kp w wr) (fun vi _ => os.length - (intOf vi).toNat)
  case atStart => exact ⟨0, rfl, Nat.zero_le _, by rw [List.drop_zero]; exact HR.out, Kp.refl _⟩
  case round =>
    obtain ⟨i, rfl, hi, hF, kr⟩ := hrel
    have HF := hide hF
    have c1 := kr.cell c0
    clear hF
    by_cases hlt : i < os.length
    · have hlt' : (i : Int) < (os.length : Int) := by omega
      obtain ⟨b, o, rfl, hc⟩ := RowO.some h2 (by omega)
      obtain ⟨q1, q2, q3⟩ := hc i hlt
      have q1' : wr.cell? ⟨b, o + i * 2, none⟩ = some (.string os[i].1) := by rw [Nat.mul_comm i 2]; exact kr.cell q1
      have q2' : wr.cell? ⟨b, o + i * 2 + 1, none⟩ = some (.int .u64 (os[i].2 : Nat)) := by rw [Nat.mul_comm i 2, Nat.add_assoc]; exact kr.cell q2
      by_cases he : os[i].k = key.data.toList
      · have e6 : (os[i].1.toList == key.toList) = true := by
          rw [toList_data, toList_data, beq_iff_eq]
          exact he
        have hR2 : Hid (R = os[i].2) := by show _ = _; rw [HF.out, firstN_drop os i hlt, if_pos he]
        generalize os[i].1 = K at *
        generalize os[i].2 = Y at *
        clear hc q1 q2 q3 he h2 hM c0
        go_wp2_with fail
        go_ret
        exact ⟨by rw [hR2.out]; rfl, kr⟩
      · have e6 : (os[i].1.toList == key.toList) = false := by
          rw [toList_data, toList_data, beq_eq_false_iff_ne]
          exact he
        have hR2 : Hid (R = firstN (os.drop (i + 1)) key.data.toList X) := by show _ = _; rw [HF.out, firstN_drop os i hlt, if_neg he]
        generalize os[i].1 = K at *
        clear hc q1 q2 q3 he h2 hM c0 q2'
        go_wp2_with fail
        exact ⟨⟨i + 1, by simp, by omega, hR2.out, kr⟩, by simp [intOf]; omega⟩
    · have hlt' : ¬ (i : Int) < (os.length : Int) := by omega
      have hR2 : Hid (R = X) := by
        show _ = _
        rw [HF.out, List.drop_of_length_le (by omega)]
        rfl
      have hM2 := hM wr kr
      clear h2 hM c0
      go_wp2_with fail
      refine hM2.mono ?_
      rintro r w5 ⟨rfl, k5⟩
      go_wp2_with fail
      go_ret
      exact ⟨by rw [hR2.out]; rfl, kr.trans k5⟩
theorem firstN_map (os : List Ovr) (k : List UInt8) (d : Nat) (hs : scanN os os.length = 0) : firstN os k d = (mapN os os.length k).getD d := by
  cases hm : mapN os os.length k with
  | none =>
    rw [Option.getD_none]
    have hno : ∀ j (hj : j < os.length), os[j].k ≠ k := by
      intro j hj e
      have hsome : (mapN os os.length k).isSome = true := (mapN_some os os.length (Nat.le_refl _) k).2 ⟨j, hj, hj, e⟩
      rw [hm] at hsome
      cases hsome
    have hall : ∀ l : List Ovr, (∀ o ∈ l, o.k ≠ k) → firstN l k d = d := by
      intro l
      induction l with
      | nil => intro _; rfl
      | cons o t ih =>
        intro h
        rw [firstN, if_neg (h o (List.mem_cons_self ..))]
        exact ih (fun o' ho' => h o' (List.mem_cons_of_mem _ ho'))
    exact hall os (fun o ho => by
      obtain ⟨j, hj, rfl⟩ := List.getElem_of_mem ho
      exact hno j hj)
  | some a =>
    rw [Option.getD_some]
    have hsome : (mapN os os.length k).isSome = true := by rw [hm]; rfl
    obtain ⟨j, hj, _, e⟩ := (mapN_some os os.length (Nat.le_refl _) k).1 hsome
    have hfirst : ∀ l : List Ovr, (∀ o ∈ l, o.k = k → o.2 = a) → (∃ o ∈ l, o.k = k) → firstN l k d = a := by
      intro l
      induction l with
      | nil => rintro _ ⟨o, ho, _⟩; cases ho
      | cons o t ih =>
        intro h1 h2
        rw [firstN]
        by_cases eo : o.k = k
        · rw [if_pos eo]
          exact h1 o (List.mem_cons_self ..) eo
        · rw [if_neg eo]
          refine ih (fun o' ho' => h1 o' (List.mem_cons_of_mem _ ho')) ?_
          obtain ⟨o', ho', e'⟩ := h2
          rcases List.mem_cons.1 ho' with rfl | h'
          · exact absurd e' eo
          · exact ⟨o', h', e'⟩
    refine hfirst os (fun o ho eo => ?_) ⟨os[j], List.getElem_mem hj, e⟩
    obtain ⟨l, hl, rfl⟩ := List.getElem_of_mem ho
    have := mapN_holds (Nat.le_refl _) hs l hl hl
    rw [eo, hm] at this
    exact (Option.some.inj this).symm
end Go.Proofs.YtflihieaajbihabDoor
