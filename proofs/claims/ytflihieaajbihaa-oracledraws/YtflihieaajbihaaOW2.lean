/-
  The statement's own rows: append of a whole row, then of one number.
-/
import Derived.Test.YtflihieaajbihaaOW1
namespace Go.Proofs.Ytflihieaajbihaa
open Go.RowKit
set_option linter.unusedVariables false

theorem add_lit (b o j : Nat) : (⟨b, o, none⟩ : Addr).add j = ⟨b, o + j, none⟩ := by simp [Addr.add]
/-- append([]uint64{}, s...) of whatever row. -/
theorem append_row {v : Value} {xs : List Nat} (w : World) (h : RowU w v xs) (hn : xs.length * 8 ≤ 140737488355328) :
    ∃ v1 w2, (Builtin.append_ #[22, 22] 22 #[.slice (some ⟨w.heap.size, 0, none⟩) 0 0, v]).run Try.prog (w.alloc (.cells #[] 24)) = .ok v1 w2 ∧ ¬ v1 = .slice none 0 0 ∧ w2.ownsRow w.heap.size 24 1 v1 xs.length (u64Cells xs) ∧ Kp w w2 := by
  rcases h with ⟨rfl, rfl⟩ | ⟨a, cap, rfl, h1, h2, h3⟩
  · exact ⟨_, _, append_none w, by simp, World.ownsRow_made w #[] 0 (Nat.le_refl _) (by simp only [maxLen]; omega) (by simp), (Kp.refl w).alloc _⟩
  · exact append_all w a cap xs hn h3

/-- The numbers from i on, at block A. -/
def Suf (w : World) (A : Nat) (xs : List Nat) (i : Nat) : Prop :=
  ∃ cur : Array Value, w.heap[A]? = some (.cells cur 24) ∧ xs.length ≤ cur.size ∧ ∀ j (hj : j < xs.length), i ≤ j → cur[j]? = some (.int .u64 (xs[j] : Nat))
theorem Suf.cell {w : World} {A i : Nat} {xs : List Nat} (h : Suf w A xs i) (hi : i < xs.length) : w.cell? ⟨A, i, none⟩ = some (.int .u64 (xs[i] : Nat)) := by
  obtain ⟨cur, h1, _, h3⟩ := h
  exact cell_blk h1 (h3 i hi (Nat.le_refl _))
theorem Suf.frozen {w : World} {A i : Nat} {xs : List Nat} (h : Suf w A xs i) (j : Nat) : w.frozen? ⟨A, j, none⟩ = false := by
  obtain ⟨cur, h1, _⟩ := h
  simp [World.frozen?, h1]
theorem Suf.set {w : World} {A i : Nat} {xs : List Nat} (h : Suf w A xs i) (hi : i < xs.length) (v : Value) : Suf (w.setCell ⟨A, i, none⟩ v) A xs (i + 1) := by
  obtain ⟨cur, h1, h2, h3⟩ := h
  refine ⟨_, set_one h1 i v (by omega), by simpa using h2, fun j hj hij => ?_⟩
  rw [Array.getElem?_set, if_neg (by omega)]
  exact h3 j hj (by omega)
theorem Suf.same {w w1 : World} {A i : Nat} {xs : List Nat} (h : Suf w A xs i) (e : w1.heap[A]? = w.heap[A]?) : Suf w1 A xs i := by
  obtain ⟨cur, h1, h2⟩ := h
  exact ⟨cur, e.trans h1, h2⟩
theorem Suf.lt {w : World} {A i : Nat} {xs : List Nat} (h : Suf w A xs i) : A < w.heap.size := by
  obtain ⟨cur, h1, _⟩ := h
  exact (Array.getElem?_eq_some_iff.1 h1).1
theorem Suf.row {w : World} {A : Nat} {xs : List Nat} (h : Suf w A xs 0) {cap : Nat} (hc : xs.length ≤ cap) (hm : cap ≤ maxLen) : RowU w (.slice (some ⟨A, 0, none⟩) xs.length cap) xs := by
  obtain ⟨cur, h1, h2, h3⟩ := h
  exact Or.inr ⟨⟨A, 0, none⟩, cap, rfl, hc, hm, fun j hj => by rw [add_lit, Nat.zero_add]; exact cell_blk h1 (h3 j hj (Nat.zero_le _))⟩
theorem Suf.of {w : World} {base : Nat} {v : Value} {xs : List Nat} (hv : ¬ v = .slice none 0 0) (h : w.ownsRow base 24 1 v xs.length (u64Cells xs)) : ∃ A cap, v = .slice (some ⟨A, 0, none⟩) xs.length cap ∧ base ≤ A ∧ xs.length ≤ cap ∧ cap ≤ maxLen ∧ Suf w A xs 0 := by
  obtain ⟨_, h | ⟨g, cap, cur, h1, h2, h3, h4, h5, h6, h7⟩⟩ := h
  · exact absurd h.1 hv
  · refine ⟨g, cap, h1, h2, h4, h5, cur, h3, by omega, fun j hj _ => ?_⟩
    rw [Nat.mul_one] at h7
    have e : (cur.toList.take xs.length)[j]? = some (.int .u64 (xs[j] : Nat)) := by
      rw [h7]
      unfold u64Cells
      rw [List.getElem?_map, List.getElem?_eq_getElem hj]
      rfl
    rw [List.getElem?_take_of_lt hj] at e
    simpa using e

/-- full = append(full, 77) -/
theorem append_mark (w w2 : World) (xs : List Nat) (hn : xs.length * 8 + 8 ≤ 140737488355328) (v1 : Value) (hv : ¬ v1 = .slice none 0 0) (own1 : w2.ownsRow w.heap.size 24 1 v1 xs.length (u64Cells xs)) (k2 : Kp w w2) :
    ∃ A cap w4, (Builtin.append_ #[22, 22] 22 #[v1, .slice (some ⟨w2.heap.size, 0, none⟩) 1 1]).run Try.prog (w2.alloc (.cells #[.int .u64 77] 24)) = .ok (.slice (some ⟨A, 0, none⟩) (xs.length + 1) cap) w4 ∧ xs.length + 1 ≤ cap ∧ cap ≤ maxLen ∧ Suf w4 A xs 0 ∧ w4.cell? ⟨A, xs.length, none⟩ = some (.int .u64 77) ∧ w.heap.size ≤ A ∧ Kp w w4 := by
  obtain ⟨i, h1, h2, h3, h4⟩ := info_u64
  have hs2 : w.heap.size ≤ w2.heap.size := k2.size
  have own2 : (w2.alloc (.cells #[.int .u64 77] 24)).ownsRow w.heap.size 24 1 v1 xs.length (u64Cells xs) := own1.alloc _
  have hlen : (xs ++ [77]).length = xs.length + 1 := by simp
  have hcs : u64Cells (xs ++ [77]) = u64Cells xs ++ [.int .u64 77] := by unfold u64Cells; simp
  obtain ⟨v', w4, hr, hown, hgr, hnil⟩ := run_append_own (P := Try.prog) (w2.alloc (.cells #[.int .u64 77] 24)) w.heap.size 22 22 24 i (.int .u64 0) 1 8 Try.underlying22 h1 h2 h3 h4 rfl (by decide) v1 xs.length (u64Cells xs) own2 ⟨w2.heap.size, 0, none⟩ 1 1 [.int .u64 77] rfl
    (fun j u hu => by
      have hj : j = 0 := by
        have := (List.getElem?_eq_some_iff.1 hu).1
        simpa using this
      subst hj
      simp at hu
      subst hu
      exact cell_blk (heap_new w2 _) rfl) (by simp [Value.oneCell']) (by simp only [maxLen]; omega) (by omega) (by simp; omega)
  rw [← hcs] at hown
  have hown2 : w4.ownsRow w.heap.size 24 1 v' (xs ++ [77]).length (u64Cells (xs ++ [77])) := by rw [hlen]; exact hown
  obtain ⟨A, cap, rfl, hA, c1, c2, hS⟩ := Suf.of (fun e => hv (hnil.1 e).1) hown2
  rw [hlen] at c1 hr
  have hK : Kp w w4 := Below.grown (Below.alloc k2 hs2 _) hgr (by simp; omega) (fun k hk => by
    obtain ⟨_, h | ⟨g, cap, cur, q1, q2, _⟩⟩ := own1
    · exact absurd h.1 hv
    · subst q1
      simp [Value.ownBlock] at hk
      omega)
  obtain ⟨cur, s1, s2, s3⟩ := hS
  refine ⟨A, cap, w4, hr, c1, c2, ⟨cur, s1, by simp at s2; omega, fun j hj _ => ?_⟩, ?_, hA, hK⟩
  · have := s3 j (by simp; omega) (Nat.zero_le _)
    rw [List.getElem_append_left hj] at this
    exact this
  · have := s3 xs.length (by simp) (Nat.zero_le _)
    rw [List.getElem_append_right (Nat.le_refl _)] at this
    exact cell_blk s1 (by simpa using this)
end Go.Proofs.Ytflihieaajbihaa
