import Derived.Test.YteokfhccfmeffaaL9
namespace Go.Proofs.Yteokfhccfmeffaa
open Go.RowKit

/-- One of five numbers turned. -/
def Turn (n : Nat) (x K E A B C K' E' A' B' C' : Int) : Prop :=
  (n = 0 ∧ K' = x ∧ E' = E ∧ A' = A ∧ B' = B ∧ C' = C) ∨ (n = 1 ∧ K' = K ∧ E' = x ∧ A' = A ∧ B' = B ∧ C' = C) ∨ (n = 2 ∧ K' = K ∧ E' = E ∧ A' = x ∧ B' = B ∧ C' = C) ∨ (n = 3 ∧ K' = K ∧ E' = E ∧ A' = A ∧ B' = x ∧ C' = C) ∨ (n = 4 ∧ K' = K ∧ E' = E ∧ A' = A ∧ B' = B ∧ C' = x)

theorem heap_set_other (w : World) (g i k : Nat) (v : Value) (h : k ≠ g) : (w.setCell ⟨g, i, none⟩ v).heap[k]? = w.heap[k]? := Below.heap_setCell w ⟨g, i, none⟩ v k h

theorem five_set {w0 w : World} {g : Nat} {K E A B C x : Int} {n : Nat} (h : w.heap[g]? = some (.cells #[.int .i64 K, .int .i64 E, .int .i64 A, .int .i64 B, .int .i64 C] 3)) (k : Kp w0 w) (hg : w0.heap.size ≤ g) (hn : n < 5) {P : World → Prop}
    (hP : ∀ W K' E' A' B' C', Turn n x K E A B C K' E' A' B' C' → W.heap[g]? = some (.cells #[.int .i64 K', .int .i64 E', .int .i64 A', .int .i64 B', .int .i64 C'] 3) → Kp w0 W → (∀ b, b ≠ g → W.heap[b]? = w.heap[b]?) → P W) :
    P (w.setCell ⟨g, n, none⟩ (.int .i64 x)) := by
  have hb := set_one h n (.int .i64 x) (by simpa using hn)
  have kk : Kp w0 (w.setCell ⟨g, n, none⟩ (.int .i64 x)) := Below.setCell k hg _
  have ho : ∀ b, b ≠ g → (w.setCell ⟨g, n, none⟩ (.int .i64 x)).heap[b]? = w.heap[b]? := fun b hb => heap_set_other w g n b _ hb
  have : n = 0 ∨ n = 1 ∨ n = 2 ∨ n = 3 ∨ n = 4 := by omega
  rcases this with rfl | rfl | rfl | rfl | rfl
  · exact hP _ x E A B C (Or.inl ⟨rfl, rfl, rfl, rfl, rfl, rfl⟩) hb kk ho
  · exact hP _ K x A B C (Or.inr (Or.inl ⟨rfl, rfl, rfl, rfl, rfl, rfl⟩)) hb kk ho
  · exact hP _ K E x B C (Or.inr (Or.inr (Or.inl ⟨rfl, rfl, rfl, rfl, rfl, rfl⟩))) hb kk ho
  · exact hP _ K E A x C (Or.inr (Or.inr (Or.inr (Or.inl ⟨rfl, rfl, rfl, rfl, rfl, rfl⟩)))) hb kk ho
  · exact hP _ K E A B x (Or.inr (Or.inr (Or.inr (Or.inr ⟨rfl, rfl, rfl, rfl, rfl, rfl⟩)))) hb kk ho

theorem nine_set2 {w0 w : World} {b : Nat} {u0 u1 u2 u3 u4 u5 u6 u7 u8 : Value} {t : TypeId} (h : w.heap[b]? = some (.cells #[u0, u1, u2, u3, u4, u5, u6, u7, u8] t)) (k : Kp w0 w) (hb : w0.heap.size ≤ b)
    {v0 v1 v2 v3 v4 v5 v6 v7 v8 : Value} {P : World → Prop} (hP : ∀ w9, w9.heap[b]? = some (.cells #[v0, v1, v2, v3, v4, v5, v6, v7, v8] t) → Kp w0 w9 → (∀ b', b' ≠ b → w9.heap[b']? = w.heap[b']?) → P w9) :
    P (((((((((w.setCell ⟨b, 0, none⟩ v0).setCell ⟨b, 1, none⟩ v1).setCell ⟨b, 2, none⟩ v2).setCell ⟨b, 3, none⟩ v3).setCell ⟨b, 4, none⟩ v4).setCell ⟨b, 5, none⟩ v5).setCell ⟨b, 6, none⟩ v6).setCell ⟨b, 7, none⟩ v7).setCell ⟨b, 8, none⟩ v8) := by
  refine nine_set h k hb (P := fun w9 => (∀ b', b' ≠ b → w9.heap[b']? = w.heap[b']?) → P w9) (fun w9 h9 k9 ho => hP w9 h9 k9 ho) ?_
  intro b' hb'
  rw [heap_set_other _ _ _ _ _ hb', heap_set_other _ _ _ _ _ hb', heap_set_other _ _ _ _ _ hb', heap_set_other _ _ _ _ _ hb', heap_set_other _ _ _ _ _ hb', heap_set_other _ _ _ _ _ hb', heap_set_other _ _ _ _ _ hb', heap_set_other _ _ _ _ _ hb', heap_set_other _ _ _ _ _ hb']

/-- What a turned number gives: no error, or its own. -/
theorem turn_err {n : Nat} {x K E A B C K' E' A' B' C' : Int} (h : errN K E A B C = 0) (ht : Turn n x K E A B C K' E' A' B' C') : errN K' E' A' B' C' = 0 ∨
    (n = 0 ∧ A' = A ∧ ((errN K' E' A' B' C' = 31 ∧ x < 1) ∨ (errN K' E' A' B' C' = 31 ∧ 128 < x) ∨ (errN K' E' A' B' C' = 33 ∧ 1 ≤ x ∧ x ≤ 128 ∧ ¬ x % A' = 0))) ∨
    (n = 1 ∧ B' = B ∧ ((errN K' E' A' B' C' = 32 ∧ x < 0) ∨ (errN K' E' A' B' C' = 32 ∧ 128 < x) ∨ (errN K' E' A' B' C' = 33 ∧ 0 ≤ x ∧ x ≤ 128 ∧ ¬ x % B' = 0))) ∨
    (n = 2 ∧ errN K' E' A' B' C' = 33) ∨ (n = 3 ∧ errN K' E' A' B' C' = 33) ∨ (n = 4 ∧ errN K' E' A' B' C' = 34) := by
  obtain ⟨h1, h2, h3, h4, h5, h6, h7⟩ := errN_zero h
  obtain ⟨hA, hKA⟩ := al_one h5
  obtain ⟨hB, hEB⟩ := al_one h6
  rcases ht with ⟨rfl, rfl, rfl, rfl, rfl, rfl⟩ | ⟨rfl, rfl, rfl, rfl, rfl, rfl⟩ | ⟨rfl, rfl, rfl, rfl, rfl, rfl⟩ | ⟨rfl, rfl, rfl, rfl, rfl, rfl⟩ | ⟨rfl, rfl, rfl, rfl, rfl, rfl⟩
  · by_cases c1 : K' < 1
    · exact Or.inr (Or.inl ⟨rfl, rfl, Or.inl ⟨by unfold errN; rw [if_pos (Or.inl c1)], c1⟩⟩)
    · by_cases c2 : 128 < K'
      · exact Or.inr (Or.inl ⟨rfl, rfl, Or.inr (Or.inl ⟨by unfold errN; rw [if_pos (Or.inr c2)], c2⟩)⟩)
      · by_cases c3 : K' % A' = 0
        · exact Or.inl (errN_mk (by omega) (by omega) h3 h4 (al_mk hA c3) h6 h7)
        · have : al K' A' = false := by unfold al; rw [pw8.2 hA]; simp [c3]
          exact Or.inr (Or.inl ⟨rfl, rfl, Or.inr (Or.inr ⟨by unfold errN; rw [if_neg (by omega), if_neg (by omega), if_pos (Or.inl this)], by omega, by omega, c3⟩)⟩)
  · by_cases c1 : E' < 0
    · exact Or.inr (Or.inr (Or.inl ⟨rfl, rfl, Or.inl ⟨by unfold errN; rw [if_neg (by omega), if_pos (Or.inl c1)], c1⟩⟩))
    · by_cases c2 : 128 < E'
      · exact Or.inr (Or.inr (Or.inl ⟨rfl, rfl, Or.inr (Or.inl ⟨by unfold errN; rw [if_neg (by omega), if_pos (Or.inr c2)], c2⟩)⟩))
      · by_cases c3 : E' % B' = 0
        · exact Or.inl (errN_mk h1 h2 (by omega) (by omega) h5 (al_mk hB c3) h7)
        · have : al E' B' = false := by unfold al; rw [pw8.2 hB]; simp [c3]
          exact Or.inr (Or.inr (Or.inl ⟨rfl, rfl, Or.inr (Or.inr ⟨by unfold errN; rw [if_neg (by omega), if_neg (by omega), if_pos (Or.inr this)], by omega, by omega, c3⟩)⟩))
  · cases c1 : al K' A'
    · exact Or.inr (Or.inr (Or.inr (Or.inl ⟨rfl, by unfold errN; rw [if_neg (by omega), if_neg (by omega), if_pos (Or.inl c1)]⟩)))
    · exact Or.inl (errN_mk h1 h2 h3 h4 c1 h6 h7)
  · cases c1 : al E' B'
    · exact Or.inr (Or.inr (Or.inr (Or.inr (Or.inl ⟨rfl, by unfold errN; rw [if_neg (by omega), if_neg (by omega), if_pos (Or.inr c1)]⟩))))
    · exact Or.inl (errN_mk h1 h2 h3 h4 h5 c1 h7)
  · cases c1 : pw C' 16 1024
    · exact Or.inr (Or.inr (Or.inr (Or.inr (Or.inr ⟨rfl, by unfold errN; rw [if_neg (by omega), if_neg (by omega), if_neg (by rw [h5, h6]; simp), if_pos c1]⟩))))
    · exact Or.inl (errN_mk h1 h2 h3 h4 h5 h6 c1)
section
variable {w W W1 : World} {b b' : Nat} {v0 v1 v2 v3 v4 v5 v6 v7 v8 u0 u1 u2 u3 u4 : Value}
theorem sv_call (k : Kp W W1) (h : W.cell? ⟨b, 0, none⟩ = some v0 ∧ W.cell? ⟨b, 1, none⟩ = some v1 ∧ W.cell? ⟨b, 2, none⟩ = some v2 ∧ W.cell? ⟨b, 3, none⟩ = some v3 ∧ W.cell? ⟨b, 4, none⟩ = some v4 ∧ W.cell? ⟨b, 5, none⟩ = some v5 ∧ W.cell? ⟨b, 6, none⟩ = some v6 ∧ W.cell? ⟨b, 7, none⟩ = some v7 ∧ W.cell? ⟨b, 8, none⟩ = some v8 ∧ W.cell? ⟨b', 0, none⟩ = some u0 ∧ W.cell? ⟨b', 1, none⟩ = some u1 ∧ W.cell? ⟨b', 2, none⟩ = some u2 ∧ W.cell? ⟨b', 3, none⟩ = some u3 ∧ W.cell? ⟨b', 4, none⟩ = some u4 ∧ Kp w W) : W1.cell? ⟨b, 0, none⟩ = some v0 ∧ W1.cell? ⟨b, 1, none⟩ = some v1 ∧ W1.cell? ⟨b, 2, none⟩ = some v2 ∧ W1.cell? ⟨b, 3, none⟩ = some v3 ∧ W1.cell? ⟨b, 4, none⟩ = some v4 ∧ W1.cell? ⟨b, 5, none⟩ = some v5 ∧ W1.cell? ⟨b, 6, none⟩ = some v6 ∧ W1.cell? ⟨b, 7, none⟩ = some v7 ∧ W1.cell? ⟨b, 8, none⟩ = some v8 ∧ W1.cell? ⟨b', 0, none⟩ = some u0 ∧ W1.cell? ⟨b', 1, none⟩ = some u1 ∧ W1.cell? ⟨b', 2, none⟩ = some u2 ∧ W1.cell? ⟨b', 3, none⟩ = some u3 ∧ W1.cell? ⟨b', 4, none⟩ = some u4 ∧ Kp w W1 := by
  obtain ⟨h0, h1, h2, h3, h4, h5, h6, h7, h8, e0, e1, e2, e3, e4, k0⟩ := h
  exact ⟨k.cell h0, k.cell h1, k.cell h2, k.cell h3, k.cell h4, k.cell h5, k.cell h6, k.cell h7, k.cell h8, k.cell e0, k.cell e1, k.cell e2, k.cell e3, k.cell e4, k0.trans k⟩
theorem sv_drew (h : W.cell? ⟨b, 0, none⟩ = some v0 ∧ W.cell? ⟨b, 1, none⟩ = some v1 ∧ W.cell? ⟨b, 2, none⟩ = some v2 ∧ W.cell? ⟨b, 3, none⟩ = some v3 ∧ W.cell? ⟨b, 4, none⟩ = some v4 ∧ W.cell? ⟨b, 5, none⟩ = some v5 ∧ W.cell? ⟨b, 6, none⟩ = some v6 ∧ W.cell? ⟨b, 7, none⟩ = some v7 ∧ W.cell? ⟨b, 8, none⟩ = some v8 ∧ W.cell? ⟨b', 0, none⟩ = some u0 ∧ W.cell? ⟨b', 1, none⟩ = some u1 ∧ W.cell? ⟨b', 2, none⟩ = some u2 ∧ W.cell? ⟨b', 3, none⟩ = some u3 ∧ W.cell? ⟨b', 4, none⟩ = some u4 ∧ Kp w W) : W.drew.cell? ⟨b, 0, none⟩ = some v0 ∧ W.drew.cell? ⟨b, 1, none⟩ = some v1 ∧ W.drew.cell? ⟨b, 2, none⟩ = some v2 ∧ W.drew.cell? ⟨b, 3, none⟩ = some v3 ∧ W.drew.cell? ⟨b, 4, none⟩ = some v4 ∧ W.drew.cell? ⟨b, 5, none⟩ = some v5 ∧ W.drew.cell? ⟨b, 6, none⟩ = some v6 ∧ W.drew.cell? ⟨b, 7, none⟩ = some v7 ∧ W.drew.cell? ⟨b, 8, none⟩ = some v8 ∧ W.drew.cell? ⟨b', 0, none⟩ = some u0 ∧ W.drew.cell? ⟨b', 1, none⟩ = some u1 ∧ W.drew.cell? ⟨b', 2, none⟩ = some u2 ∧ W.drew.cell? ⟨b', 3, none⟩ = some u3 ∧ W.drew.cell? ⟨b', 4, none⟩ = some u4 ∧ Kp w W.drew := by
  obtain ⟨h0, h1, h2, h3, h4, h5, h6, h7, h8, e0, e1, e2, e3, e4, k0⟩ := h
  exact ⟨h0, h1, h2, h3, h4, h5, h6, h7, h8, e0, e1, e2, e3, e4, k0.drew⟩
end
end Go.Proofs.Yteokfhccfmeffaa
