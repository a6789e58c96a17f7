/-
  code: what Assemble's lines come to.
-/
import Derived.Test.YtnicbillhlhmmaaDoorCW10
namespace Go.Proofs.YtnicbillhlhmmaaDoor
namespace Cw
open Go.RowKit
set_option linter.unusedVariables false
theorem infoS : (Tryd.prog.info? 9).map (fun i => (i.zero, i.size, i.bytes)) = some (some (.string ⟨#[]⟩), 1, 16) := by kernel_rfl
set_option maxRecDepth 100000 in
/-- A row of words: its first, and the others. -/
theorem str_cut {W : World} {v : Value} {x : Bs} {fs : List Bs} (h : StrV W v (x :: fs)) (hc : CapOk v) :
    ∃ g o c fv, v = .slice (some ⟨g, o, none⟩) (fs.length + 1) c ∧ W.cell? ⟨g, o, none⟩ = some (.string (sB x)) ∧ (∀ W', (Instr.slice 46 (.slice (some ⟨g, o, none⟩) (fs.length + 1) c) (some (.int .i64 1)) none none).run Tryd.prog W' = .ok fv W') ∧ StrV W fv fs := by
  obtain ⟨p, c, e, f⟩ := h
  obtain ⟨g, o, e1, e2⟩ := f 0 (by simp)
  have hcc : fs.length + 1 ≤ c := hc _ _ _ e
  subst e1
  have ht' : Tryd.prog.underlying 46 = some (.slice (Tryd.prog.elem 46)) := by simp [Program.elem, Tryd.underlying46]
  have he : Tryd.prog.elem 46 = 9 := by simp [Program.elem, Tryd.underlying46]
  obtain ⟨i, h1, h2, h3, h4⟩ := info_parts infoS
  have hsz : ∀ W, (Go.sizeOf 9).run Tryd.prog W = .ok 1 W := fun W => by simp [Go.sizeOf, typeInfo, h1, h3]
  have e2' : W.cell? ⟨g, o, none⟩ = some (.string (sB x)) := e2
  have rest : ∀ j (hj : j < fs.length), W.cell? ⟨g, o + 1 + j, none⟩ = some (.string (sB fs[j])) := fun j hj => by
    obtain ⟨g', o', q1, q2⟩ := f (j + 1) (by simpa using hj)
    injection q1 with q1
    injection q1 with q3 q4 q5
    subst q3
    subst q4
    have : o + (j + 1) = o + 1 + j := by omega
    rw [this] at q2
    simpa using q2
  by_cases hkc : c = 1
  · have e0 : fs.length = 0 := by omega
    refine ⟨g, o, c, .slice (some ⟨g, o, none⟩) 0 0, e, e2', fun W => ?_, some ⟨g, o, none⟩, 0, by rw [e0], fun j hj => by omega⟩
    rw [run_slice_l W _ _ _ _ ht' .i64 _ (by omega) (by omega), he, hsz]
    simp [Result.andThen, sliced, hkc, e0]
  · refine ⟨g, o, c, .slice (some ⟨g, o + 1, none⟩) fs.length (c - 1), e, e2', fun W => ?_, some ⟨g, o + 1, none⟩, c - 1, rfl, fun j hj => ⟨g, o + 1, rfl, rest j hj⟩⟩
    rw [run_slice_l W _ _ _ _ ht' .i64 _ (by omega) (by omega), he, hsz]
    simp [Result.andThen, sliced, Addr.add, hkc]
theorem own_mono {W : World} {base base' size n : Nat} {e : TypeId} {v : Value} {xs : List Value} (h : W.ownsRow base e size v n xs) (hb : base' ≤ base) : W.ownsRow base' e size v n xs := by
  refine ⟨h.1, ?_⟩
  rcases h.2 with h2 | ⟨g, cap, cur, e1, e2, e3, r⟩
  · exact Or.inl h2
  · exact Or.inr ⟨g, cap, cur, e1, Nat.le_trans hb e2, e3, r⟩
theorem cell_lt {W : World} {g j : Nat} {v : Value} (h : W.cell? ⟨g, j, none⟩ = some v) : g < W.heap.size := World.block_lt_of_cell? W ⟨g, j, none⟩ h
/-- Lines lie in another block than the code that is being read. -/
theorem StrV.keepsX {W W' : World} {v : Value} {ws : List Bs} (h : StrV W v ws) {b base : Nat} {cv cm : Int} {sl : Value} (hb : CdB W b cv cm sl) (hsl : ∃ p n c, sl = .slice p n c) (hbase : W.heap.size ≤ base) (k : Keeps W W' (fun i => i = b ∨ base ≤ i)) : StrV W' v ws := by
  obtain ⟨p, c, e, f⟩ := h
  refine ⟨p, c, e, fun j hj => ?_⟩
  obtain ⟨g, o, e1, e2⟩ := f j hj
  refine ⟨g, o, e1, ?_⟩
  have hlt := cell_lt e2
  have hgb : g ≠ b := fun q => by
    subst q
    unfold CdB at hb
    obtain ⟨p, n, c, rfl⟩ := hsl
    have hx : W.cell? ⟨g, o + j, none⟩ = (#[Value.int .i64 cv, .int .i64 cm, .slice p n c])[o + j]? := by simp [World.cell?, hb]
    rw [e2] at hx
    match ho : o + j with
    | 0 => rw [ho] at hx; simp at hx
    | 1 => rw [ho] at hx; simp at hx
    | 2 => rw [ho] at hx; simp at hx
    | (m + 3) => rw [ho] at hx; simp at hx
  have hbk := k.block g hlt (fun q => by rcases q with q | q; exact hgb q; omega)
  simp only [World.cell?] at e2 ⊢
  rw [hbk]
  exact e2
/-- One line more: what follows. -/
theorem asm_step {L : List Bs} {i : Nat} (h : i < L.length) {bg : Bool} {c : Cd} {R : Sum Cd Nat} (e : R = asmL bg c i (L.drop i)) :
    (wdsD L[i] = [] → R = asmL bg c (i + 1) (L.drop (i + 1))) ∧ ∀ w fs, wdsD L[i] = w :: fs → (rdD bg c w fs = none → R = .inr (i + 1)) ∧ ∀ c', rdD bg c w fs = some c' → R = asmL true c' (i + 1) (L.drop (i + 1)) := by
  rw [List.drop_eq_getElem_cons h, asmL] at e
  refine ⟨fun q => by rw [e, q], fun w fs q => ⟨fun q2 => by rw [e, q]; simp only [q2], fun c' q2 => by rw [e, q]; simp only [q2]⟩⟩
theorem asm_end {L : List Bs} {i : Nat} (h : L.length ≤ i) {bg : Bool} {c : Cd} {R : Sum Cd Nat} (e : R = asmL bg c i (L.drop i)) : R = if bg then .inl c else .inr (i + 1) := by
  rw [List.drop_of_length_le h, asmL] at e
  exact e
theorem rdD_len {bg : Bool} {c c' : Cd} {w : Bs} {fs : List Bs} (h : rdD bg c w fs = some c') : c'.is.length ≤ c.is.length + 1 := by
  unfold rdD at h
  split at h
  · cases h
  · split at h
    · cases hi : instD w _ with
      | none => rw [hi] at h; cases h
      | some x =>
        rw [hi] at h
        injection h with h
        rw [← h]
        simp
    · split at h
      · split at h
        · injection h with h
          rw [← h]
          simp
        · cases h
      · cases h
theorem line_small {t l : Bs} (h : l ∈ linesD t) : l.length ≤ t.length := by
  have key : ∀ (t : Bs) (st : List Bs × Bs) (n : Nat), (∀ x, x ∈ st.1 → x.length ≤ n) → st.2.length ≤ n → (∀ x, x ∈ (t.foldl lnS st).1 → x.length ≤ n + t.length) ∧ (t.foldl lnS st).2.length ≤ n + t.length := by
    intro t
    induction t with
    | nil => intro st n h1 h2; exact ⟨fun x hx => Nat.le_trans (h1 x hx) (Nat.le_add_right _ _), Nat.le_trans h2 (Nat.le_add_right _ _)⟩
    | cons y r ih =>
      intro st n h1 h2
      rw [List.foldl_cons, List.length_cons]
      have := ih (lnS st y) (n + 1) (fun x hx => by
        unfold lnS at hx
        split at hx
        · rcases List.mem_append.1 hx with q | q
          · have := h1 x q; omega
          · rw [List.mem_singleton.1 q]; omega
        · have := h1 x hx; omega) (by
        unfold lnS
        split
        · simp
        · rw [List.length_append, List.length_singleton]; omega)
      rw [show n + (r.length + 1) = n + 1 + r.length by omega]
      exact this
  have h2 := key t ([], []) 0 (fun x hx => by cases hx) (Nat.le_refl _)
  rw [Nat.zero_add] at h2
  unfold linesD lnF at h
  split at h
  · exact h2.1 l h
  · rcases List.mem_append.1 h with q | q
    · exact h2.1 l q
    · rw [List.mem_singleton.1 q]; exact h2.2
theorem word_small {l w : Bs} (h : w ∈ wdsD l) : w.length ≤ l.length := by
  rw [words_fields] at h
  have h1 := (List.takeWhile_prefix _).subset h
  have key : ∀ (t : Bs) (st : List Bs × Bs) (n : Nat), (∀ x, x ∈ st.1 → x.length ≤ n) → st.2.length ≤ n → (∀ x, x ∈ (t.foldl fdS st).1 → x.length ≤ n + t.length) ∧ (t.foldl fdS st).2.length ≤ n + t.length := by
    intro t
    induction t with
    | nil => intro st n h1 h2; exact ⟨fun x hx => Nat.le_trans (h1 x hx) (Nat.le_add_right _ _), Nat.le_trans h2 (Nat.le_add_right _ _)⟩
    | cons y r ih =>
      intro st n h1 h2
      rw [List.foldl_cons, List.length_cons]
      have := ih (fdS st y) (n + 1) (fun x hx => by
        unfold fdS at hx
        split at hx
        · split at hx
          · have := h1 x hx; omega
          · rcases List.mem_append.1 hx with q | q
            · have := h1 x q; omega
            · rw [List.mem_singleton.1 q]; omega
        · have := h1 x hx; omega) (by
        unfold fdS
        split
        · split
          · omega
          · simp
        · show (st.2 ++ [y]).length ≤ n + 1
          rw [List.length_append, List.length_singleton]; omega)
      rw [show n + (r.length + 1) = n + 1 + r.length by omega]
      exact this
  have h2 := key l ([], []) 0 (fun x hx => by cases hx) (Nat.le_refl _)
  rw [Nat.zero_add] at h2
  unfold fieldsD fdE fdF at h1
  split at h1
  · exact h2.1 w h1
  · rcases List.mem_append.1 h1 with q | q
    · exact h2.1 w q
    · rw [List.mem_singleton.1 q]; exact h2.2
end Cw
end Go.Proofs.YtnicbillhlhmmaaDoor
