/-
  code: the law's lent, insts, same, kept.
-/
import Derived.Test.YtnicbillhlhmmaaDoorCW12
namespace Go.Proofs.YtnicbillhlhmmaaDoor
namespace Cw
open Go.RowKit
set_option linter.unusedVariables false
/-- Instructions in a list, in a row of cells from an offset on. -/
theorem own_ins {W : World} {base n : Nat} {v : Value} {is : List In} (h : W.ownsRow base 36 3 v n (flatI is)) : InsV W v is := by
  have hfl : ∀ l : List In, (flatI l).length = l.length * 3 := fun l => by
    induction l with
    | nil => rfl
    | cons x r ih => unfold flatI at ih ⊢; rw [List.flatMap_cons, List.length_append, ih, List.length_cons]; simp; omega
  have hl : is.length = n := by
    have := h.1
    rw [hfl] at this
    omega
  rcases h.2 with ⟨h2, h3⟩ | ⟨g, cap, cur, e1, e2, e3, e4, e5, e6, e7⟩
  · subst h2
    subst h3
    obtain rfl : is = [] := List.length_eq_zero_iff.1 hl
    exact ⟨none, 0, rfl, fun j hj => absurd hj (Nat.not_lt_zero _)⟩
  · subst hl
    have key : ∀ (l : List In) (j : Nat) (hj : j < l.length), (flatI l)[j * 3]? = some (.int .i64 l[j].op) ∧ (flatI l)[j * 3 + 1]? = some (.int .i64 l[j].a) ∧ (flatI l)[j * 3 + 2]? = some (.int .i64 l[j].n) := by
      intro l
      induction l with
      | nil => intro j hj; simp at hj
      | cons x r ih =>
        intro j hj
        have e : flatI (x :: r) = .int .i64 x.op :: .int .i64 x.a :: .int .i64 x.n :: flatI r := rfl
        cases j with
        | zero => rw [e]; exact ⟨rfl, rfl, rfl⟩
        | succ j =>
          have := ih j (by simpa using hj)
          rw [e, show (j + 1) * 3 = j * 3 + 1 + 1 + 1 by omega]
          simpa using this
    refine ⟨_, cap, e1, fun j hj => ⟨g, 0, rfl, ?_⟩⟩
    obtain ⟨q0, q1, q2⟩ := key is j hj
    rw [← e7, List.getElem?_take, if_pos (by omega), Array.getElem?_toList] at q0 q1 q2
    rw [Nat.zero_add]
    simp [World.cell?, e3, q0, q1, q2]
set_option maxRecDepth 100000 in
set_option maxHeartbeats 2000000 in
/-- The law's insts, of what is alike. -/
theorem insts_same (x y : Value) (is : List In) (w : World) (hx : InsV w x is) (hy : InsV w y is) (hl : is.length ≤ 8388608) : Calls Tryd.prog 23 #[x, y] w fun e w' => e = .returned (.bool true) ∧ Keeps w w' (fun _ => False) := by
  obtain ⟨p, c, hxe, hxc⟩ := hx
  obtain ⟨p', c', hye, hyc⟩ := hy
  subst hxe
  subst hye
  have Hx := hide hxc
  have Hy := hide hyc
  have hlk := hl
  clear hxc hyc
  go_enter Tryd.func23, Tryd.ntmps23
  go_wp2_with fail
  go_loopw [5, 13] (fun v5 v13 wr => ∃ i : Nat, v13 = .int .i64 (i : Int) ∧ i ≤ is.length ∧ Hid (Keeps w wr (fun _ => False))) (fun _ v13 _ => is.length - (intOf v13).toNat)
  case atStart => exact ⟨0, rfl, Nat.zero_le _, Keeps.refl _ _⟩
  case round =>
    obtain ⟨i, rfl, hi, HR⟩ := hrel
    have hi' : (i : Int) ≤ (is.length : Int) := by omega
    by_cases hlt : i < is.length
    · have hlt' : (i : Int) < (is.length : Int) := by omega
      have Hm : Hid (is.length - (i + 1) < is.length - i) := sub_down hlt
      have Hle : Hid (i + 1 ≤ is.length) := hlt
      obtain ⟨g, o, rfl, a0, a1, a2⟩ := Hx.out i hlt
      obtain ⟨g', o', rfl, b0, b1, b2⟩ := Hy.out i hlt
      have d0 := keeps_at HR.out a0
      have d1 := keeps_at HR.out a1
      have d2 := keeps_at HR.out a2
      have e0 := keeps_at HR.out b0
      have e1 := keeps_at HR.out b1
      have e2 := keeps_at HR.out b2
      have HK : Hid (Keeps w wr.drew (fun _ => False)) := HR.out.drew
      clear a0 a1 a2 b0 b1 b2 HR
      generalize is[i] = x at *
      obtain ⟨xo, xa, xn⟩ := x
      dsimp only at *
      go_wp2_with fail
      go_region
      all_goals (
        go_wp2_with fail
        go_roundw
        case rel => exact ⟨i + 1, by go_num, Hle.out, HK⟩
        case measure => simp [intOf]; exact Hm.out)
    · obtain rfl : i = is.length := by omega
      go_wp2_with fail
      go_ret
      exact ⟨rfl, HR.out⟩
set_option maxRecDepth 100000 in
set_option maxHeartbeats 2000000 in
/-- The law's same, of what is alike. -/
theorem same_same (v m : Int) (x y : Value) (is : List In) (w : World) (hx : InsV w x is) (hy : InsV w y is) (hl : is.length ≤ 8388608) : Calls Tryd.prog 10 #[cdV v m x, cdV v m y] w fun e w' => e = .returned (.bool true) ∧ Keeps w w' (fun _ => False) := by
  obtain ⟨p, c, rfl, -⟩ := id hx
  obtain ⟨p', c', rfl, -⟩ := id hy
  obtain ⟨W2, hW2⟩ : ∃ W2, W2 = (w.alloc (.cells #[.int .i64 v, .int .i64 m, .slice p is.length c] 24)).alloc (.cells #[.int .i64 v, .int .i64 m, .slice p' is.length c'] 24) := ⟨_, rfl⟩
  have kW2 : Keeps w W2 (fun _ => False) := by rw [hW2]; exact ((Keeps.refl _ _).alloc _).alloc _
  have hI := insts_same _ _ is W2 (hx.keeps kW2) (hy.keeps kW2) hl
  have HK := hide kW2
  clear hx hy kW2 hl
  unfold cdV
  go_enter Tryd.func10, Tryd.ntmps10
  go_wp2_with fail
  rw [← hW2]
  clear hW2
  refine hI.mono ?_
  rintro e w1 ⟨rfl, k1⟩
  have K1 := hide k1
  clear k1 hI
  go_wp2_with fail
  go_ret
  exact ⟨rfl, HK.out.trans K1.out (fun _ _ e => e)⟩
end Cw
end Go.Proofs.YtnicbillhlhmmaaDoor
