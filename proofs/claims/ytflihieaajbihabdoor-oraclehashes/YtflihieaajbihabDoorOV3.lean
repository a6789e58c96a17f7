/-
  The statement's own fault.
-/
import Derived.Test.YtflihieaajbihabDoorOV2
namespace Go.Proofs.YtflihieaajbihabDoor
open Go.RowKit
set_option linter.unusedVariables false

theorem mapN_some (os : List Ovr) (i : Nat) (hi : i ≤ os.length) (k : List UInt8) : (mapN os i k).isSome = true ↔ ∃ j, ∃ hj : j < os.length, j < i ∧ os[j].k = k := by
  induction i with
  | zero =>
    constructor
    · intro h
      rw [mapN] at h
      cases h
    · rintro ⟨j, _, h, _⟩
      omega
  | succ i ih =>
    rw [mapN_succ os i (by omega)]
    by_cases e : k = os[i].k
    · constructor
      · intro _
        exact ⟨i, by omega, by omega, e.symm⟩
      · intro _
        rw [e, updS_same]
        rfl
    · rw [updS_other _ _ _ _ e, ih (by omega)]
      constructor
      · rintro ⟨j, hj, h1, h2⟩
        exact ⟨j, hj, by omega, h2⟩
      · rintro ⟨j, hj, h1, h2⟩
        by_cases ej : j = i
        · subst ej
          exact absurd h2.symm e
        · exact ⟨j, hj, by omega, h2⟩
theorem toList_data (s : ByteArray) : s.toList = s.data.toList := ByteArray.toList_eq s
theorem RowO.max {w : World} {a : Option Addr} {n cap : Nat} {os : List Ovr} (h : RowO w (.slice a n cap) os) : (os.length : Int) ≤ 9223372036854775807 := by
  rcases h with ⟨_, rfl⟩ | ⟨a', c, e, q1, q2, h3⟩
  · simp
  · unfold maxLen at q2
    omega
theorem k_inj {a b : Ovr} (h : a.k = b.k) : a.1 = b.1 := by
  apply ByteArray.ext
  exact Array.toList_inj.1 h
end Go.Proofs.YtflihieaajbihabDoor
