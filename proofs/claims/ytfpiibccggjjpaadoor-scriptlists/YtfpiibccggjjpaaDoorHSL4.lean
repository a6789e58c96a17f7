/-
  script: ScriptLists' marked, step by step.
-/
import Derived.Test.YtfpiibccggjjpaaDoorHSL3
namespace Go.Proofs.YtfpiibccggjjpaaDoor
open Go.RowKit
set_option linter.unusedVariables false
section
variable {w W : World} {lo bt : Nat} {n : Int} {so sc : Option Addr} {no co nc cc : Nat} {S : Nat → Prop} {os : List Ovr} {L : List CmV} {gc go go2 co2 gc2 cc2 : Nat} {F : Nat → Bool → Nat} {A : Nat → Bool → Bool} {O : Nat → Bool}
theorem MkS.at (h : MkS lo (.slice (some ⟨gc, 0, none⟩) nc cc) L W) (hn : L.length = nc) {i : Nat} (hi : i < L.length) (b : Bool) : W.cell? ⟨gc, i * 9 + (2 + num b), none⟩ = some (lv b L[i]) := by
  subst hn
  have hp : 2 + num b < 9 := by cases b <;> simp [num]
  rw [h.cs.cellAt (i * 9 + (2 + num b)) (by omega), cmCells_at _ i hi _ hp, lv_cells]
theorem numb_step (h : MaS w lo bt n so (some ⟨gc, 0, none⟩) no co nc cc S os L W) (hk : Mk2 F A O L) {i : Nat} (hi : i < nc) (hnc : nc ≤ 4194304) (hF : ∀ j b, F j b ≤ 8388600) (b : Bool) :
    ∃ sf nf cf, W.cell? ⟨gc, i * 9 + (2 + num b), none⟩ = some (.slice sf nf cf) ∧ ∀ t : Int, t = 1000 * (i : Int) + offB b → Calls Tryd.prog 21 #[.slice sf nf cf, .int .i64 t] W fun e w' => e = .returned (.tuple #[]) ∧ ∃ L1, MaS w lo bt n so (some ⟨gc, 0, none⟩) no co nc cc S os L1 w' ∧ Mk2 F (upM A i b) O L1 := by
  have hi' : i < L.length := by rw [h.ll]; exact hi
  have hr := h.rows.each i hi' b
  obtain ⟨sf, cf, ef⟩ := hr.form
  have hlen := ((hk i hi').2 b).1
  have hFi := hF i b
  refine ⟨sf, _, cf, (h.rows.at h.ll hi' b).trans (by rw [ef]), fun t ht => ?_⟩
  subst ht
  rw [← ef]
  have hob : (0 : Int) ≤ offB b ∧ offB b ≤ 500 := by cases b <;> simp [offB]
  refine (numbered_any lo (lv b L[i]) (lst b L[i].c) (1000 * (i : Int) + offB b) (by omega) (by omega) (by omega) W hr).mono fun e w' ⟨he, hn, k⟩ => ?_
  exact ⟨he, _, h.list hi' hn k, hk.list hi' b _⟩
theorem op_step (h : MaS w lo bt n so (some ⟨gc, 0, none⟩) no co nc cc S os L W) (hk : Mk2 F A O L) {i : Nat} (hi : i < nc) :
    (∃ u, W.cell? ⟨gc, i * 9, none⟩ = some u) ∧ W.frozen? ⟨gc, i * 9, none⟩ = false ∧ ∃ L1, MaS w lo bt n so (some ⟨gc, 0, none⟩) no co nc cc S os L1 (W.setCell ⟨gc, i * 9, none⟩ (.int .i64 (-(i : Int)))) ∧ Mk2 F A (fun j => if j = i then true else O j) L1 := by
  have hi' : i < L.length := by rw [h.ll]; exact hi
  have hcs := h.rows.cs
  rw [h.ll] at hcs
  refine ⟨⟨.int .i64 L[i].c.op, ?_⟩, hcs.frozenAt _, _, h.op hi' _, hk.op hi'⟩
  have := cmCells_at L i hi' 0 (by omega)
  rw [hcs.cellAt (i * 9) (by omega)]
  exact this
theorem put_step (h : MaT w lo bt n so (some ⟨gc, 0, none⟩) no co nc cc S os L go2 co2 gc2 cc2 W) (hk : Mk4 F A L) {i : Nat} (hi : i < nc) (hF : ∀ j b, F j b ≤ 8388600) (b : Bool) (hA : A i b = false) :
    ∃ sf nf cf g c W1, W.cell? ⟨gc, i * 9 + (2 + num b), none⟩ = some (.slice sf nf cf) ∧ (∀ ty, (Builtin.append_ #[30, 30] ty #[.slice sf nf cf, .slice (some ⟨W.heap.size, 0, none⟩) 1 1]).run Tryd.prog (W.alloc (.cells #[.int .i64 (1000 * (i : Int) + lastB b)] 3)).drew = .ok (.slice (some ⟨g, 0, none⟩) (nf + 1) c) W1) ∧ W1.cell? ⟨bt, 2, none⟩ = some (.slice (some ⟨gc, 0, none⟩) nc cc) ∧ (∃ u, W1.cell? ⟨gc, i * 9 + (2 + num b), none⟩ = some u) ∧ W1.frozen? ⟨gc, i * 9 + (2 + num b), none⟩ = false ∧ ∃ L1, MaT w lo bt n so (some ⟨gc, 0, none⟩) no co nc cc S os L1 go2 co2 gc2 cc2 (W1.setCell ⟨gc, i * 9 + (2 + num b), none⟩ (.slice (some ⟨g, 0, none⟩) (nf + 1) c)) ∧ Mk4 F (upM A i b) L1 := by
  have hi' : i < L.length := by rw [h.s.ll]; exact hi
  have kA : Keeps W (W.alloc (.cells #[.int .i64 (1000 * (i : Int) + lastB b)] 3)).drew (fun _ => False) := ((Keeps.refl _ _).alloc _).drew
  have hr := (h.s.rows.each i hi' b).keeps kA
  obtain ⟨sf, cf, ef⟩ := hr.form
  have hlen : (lst b L[i].c).length ≤ 8388601 := by
    have := hF i b
    rw [((hk i hi').2 b), hA, List.length_append, numN_length]
    simp
    omega
  have hsz : (W.alloc (.cells #[.int .i64 (1000 * (i : Int) + lastB b)] 3)).drew.heap.size = W.heap.size + 1 := by
    show (W.alloc _).heap.size = _
    rw [World.size_alloc]
  obtain ⟨g, c, W1, h1, h2, h3, h4⟩ := append_one (P := Tryd.prog) 30 3 (.int .i64 0) 8 Tryd.underlying30 Tryd.infoI rfl hr (h := W.heap.size) (u := .int .i64 (1000 * (i : Int) + lastB b)) (heap_alloc_new W _) rfl (by omega) (by simp only [maxLen]; omega) (Nat.le_trans h.s.low kA.size)
  have hl2 : IntsO lo W1 (.slice (some ⟨g, 0, none⟩) ((lst b L[i].c).length + 1) c) (lst b L[i].c ++ [1000 * (i : Int) + lastB b]) := by
    unfold IntsO
    rw [List.length_append, List.map_append]
    exact h2
  have k1 : Keeps W W1 (fun q => (lv b L[i]).ownBlock = some q) := (kA.mono (S1 := fun q => (lv b L[i]).ownBlock = some q) (fun _ _ e => e.elim)).trans h3 (fun _ _ e => e)
  have hloc : (Value.slice (some ⟨g, 0, none⟩) ((lst b L[i].c).length + 1) c).ownBlock = (lv b L[i]).ownBlock ∨ ∃ g', (Value.slice (some ⟨g, 0, none⟩) ((lst b L[i].c).length + 1) c).ownBlock = some g' ∧ W.heap.size ≤ g' := by
    rcases h4 with e | e
    · exact Or.inl e.symm
    · exact Or.inr ⟨g, rfl, by rw [e, hsz]; omega⟩
  have cs1 := ownsRow_keeps h.s.rows.cs k1 (own_two (h.s.rows.each i hi' b) h.s.rows.cs (by decide))
  rw [h.s.ll] at cs1
  have hbx : ¬ (lv b L[i]).ownBlock = some bt := own_box (h.s.rows.each i hi' b) h.s.box (by decide)
  have box1 := (k1.block _ (heap_lt h.s.box) hbx).trans h.s.box
  refine ⟨sf, _, cf, g, c, W1, (h.s.rows.at h.s.ll hi' b).trans (by rw [ef]), fun ty => ?_, (three_cells9 box1).2.2, ⟨lv b L[i], ?_⟩, cs1.frozenAt _, _, h.put hi' hl2 k1 hloc, hk.list hi' b hA _⟩
  · rw [← ef]
    exact h1 ty
  · have hp : 2 + num b < 9 := by cases b <;> simp [num]
    rw [cs1.cellAt (i * 9 + (2 + num b)) (by omega), cmCells_at _ i hi' _ hp, lv_cells]
theorem hold_step (h : MaT w lo bt n so (some ⟨gc, 0, none⟩) no co nc cc S os L go2 co2 gc2 cc2 W) (hk : Mk4 F (fun j _ => decide (j < nc)) L) {i : Nat} (hi : i < nc) (hnc : nc ≤ 4194304) (hF : ∀ j b, F j b ≤ 8388600) :
    W.cell? ⟨gc, i * 9, none⟩ = some (.int .i64 (-(i : Int))) ∧ ∀ b, ∃ sf nf cf, W.cell? ⟨gc, i * 9 + (2 + num b), none⟩ = some (.slice sf nf cf) ∧ ∀ t u : Int, t = 1000 * (i : Int) + offB b → u = 1000 * (i : Int) + lastB b → Calls Tryd.prog 22 #[.slice sf nf cf, .int .i64 t, .int .i64 u] W fun e w' => e = .returned (.bool true) ∧ w' = W := by
  have hi' : i < L.length := by rw [h.s.ll]; exact hi
  have hcs := h.s.rows.cs
  rw [h.s.ll] at hcs
  refine ⟨?_, fun b => ?_⟩
  · have := cmCells_at L i hi' 0 (by omega)
    rw [hcs.cellAt (i * 9) (by omega)]
    refine this.trans ?_
    rw [← (hk i hi').1]
    rfl
  · have hr := h.s.rows.each i hi' b
    obtain ⟨sf, cf, ef⟩ := hr.form
    have hl := (hk i hi').2 b
    rw [if_pos (show (fun j (_ : Bool) => decide (j < nc)) i b = true from decide_eq_true hi)] at hl
    refine ⟨sf, _, cf, (h.s.rows.at h.s.ll hi' b).trans (by rw [ef]), fun t u ht hu => ?_⟩
    subst ht hu
    rw [← ef]
    have hob : (0 : Int) ≤ offB b ∧ offB b ≤ 500 := by cases b <;> simp [offB]
    have := hF i b
    exact holds_any lo (lv b L[i]) (F i b) _ _ (by omega) (by omega) (by omega) W (by rw [hl] at hr; exact hr)
theorem over_at (h : MaS w lo bt n (some ⟨go, 0, none⟩) sc no co nc cc S os L W) (ho : ∀ j, j < no → (os.map (·.2))[j]? = some (j + 2)) {i : Nat} (hi : i < no) : W.cell? ⟨go, i * 2 + 1, none⟩ = some (.int .u64 ((i : Int) + 2)) := by
  have hi' : i < os.length := by rw [h.ol]; exact hi
  rw [h.ov.cellAt (i * 2 + 1) (by omega), (ovCells_at os i hi').2]
  have := ho i hi
  rw [List.getElem?_map, List.getElem?_eq_getElem hi'] at this
  simp only [Option.map_some, Option.some.injEq] at this
  rw [this]
  rfl
theorem over_at2 (h : MaT w lo bt n so sc no co nc cc S os L go2 co2 gc2 cc2 W) (ho : ∀ j, j < no → (os.map (·.2))[j]? = some (j + 2)) {i : Nat} (hi : i < no) : W.cell? ⟨go2, i * 2 + 1, none⟩ = some (.int .u64 ((i : Int) + 2)) := by
  have hi' : i < os.length := by rw [h.s.ol]; exact hi
  rw [h.ov2.cellAt (i * 2 + 1) (by omega), List.getElem?_append_left (by rw [ovCells_length]; omega), (ovCells_at os i hi').2]
  have := ho i hi
  rw [List.getElem?_map, List.getElem?_eq_getElem hi'] at this
  simp only [Option.map_some, Option.some.injEq] at this
  rw [this]
  rfl
theorem ends_at (h : MaT w lo bt n so sc no co nc cc S os L go2 co2 gc2 cc2 W) : W.cell? ⟨go2, no * 2, none⟩ = some (.string ⟨#[109, 111, 114, 101]⟩) ∧ W.cell? ⟨gc2, nc * 9, none⟩ = some (.int .i64 77) := by
  constructor
  · rw [h.ov2.cellAt (no * 2) (by omega), List.getElem?_append_right (by rw [ovCells_length, h.s.ol]; exact Nat.le_refl _), ovCells_length, h.s.ol, Nat.sub_self]
    rfl
  · obtain ⟨xs, hx, hc⟩ := h.cm2
    rw [hc.cellAt (nc * 9) (by omega), List.getElem?_append_right (by rw [hx]; exact Nat.le_refl _), hx, Nat.sub_self]
    rfl
theorem ovs_step {i m : Nat} (hm : m = i + 1) (hi : i < os.length) (ho : ∀ j, j < i → (os.map (·.2))[j]? = some (j + 2)) (s : ByteArray) : m + 1 = i + 1 + 1 ∧ ∀ j, j < i + 1 → ((os.set i (s, m + 1)).map (·.2))[j]? = some (j + 2) := by
  subst hm
  refine ⟨rfl, fun j hj => ?_⟩
  rw [List.map_set, List.getElem?_set]
  by_cases e : i = j
  · subst e
    rw [if_pos rfl, if_pos (by simpa using hi)]
  · rw [if_neg e]
    exact ho j (by omega)
end
end Go.Proofs.YtfpiibccggjjpaaDoor
