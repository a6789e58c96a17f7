import Derived.Laws.OwnMore
import Derived.OneCell
import Derived.Test.YtfghkpahbfpejaaLi12
/-
  Rows of the statement's own: copied, added to; AllocAll told in one way.
-/
namespace Go.Proofs.Ytfghkpahbfpejaa
open Go.RowKit Go.Shelf
set_option linter.unusedVariables false

/-- append([]T{}, v...): a row of its own. -/
theorem copy_row (t e : TypeId) (s bytes : Nat) (z : Value) (ht : Try.prog.underlying t = some (.slice e)) (hi : (Try.prog.info? e).map (fun i => (i.zero, i.size, i.bytes)) = some (some z, s, bytes)) (hzs : z.cells.size = s) (hs : 0 < s) (hby : bytes ≤ 100)
    {W : World} {B : Nat} {v : Value} {n : Nat} {xs : List Value} (h : W.ownsRow B e s v n xs) (h1 : ∀ u ∈ xs, u.oneCell' = true) (hn : n ≤ 134217728) :
    ∃ a c W', (∀ ty, (Builtin.append_ #[t, t] ty #[.slice (some ⟨W.heap.size, 0, none⟩) 0 0, v]).run Try.prog (W.alloc (.cells #[] e)) = .ok (.slice (some ⟨a, 0, none⟩) n c) W') ∧ W'.ownsRow W.heap.size e s (.slice (some ⟨a, 0, none⟩) n c) n xs ∧ W.heap.size ≤ a ∧ Keeps W W' (fun _ => False) := by
  obtain ⟨i, q1, q2, q3, q4⟩ := info_parts hi
  have k0 : Keeps W (W.alloc (.cells #[] e)) (fun _ => False) := (Keeps.refl _ _).alloc _
  have own0 : (W.alloc (.cells #[] e)).ownsRow W.heap.size e s (.slice (some ⟨W.heap.size, 0, none⟩) 0 0) 0 [] := World.ownsRow_made W #[] 0 (Nat.le_refl _) (by simp only [maxLen]; omega) (by simp)
  rcases h.2 with ⟨rfl, rfl⟩ | ⟨g, cap, cur, rfl, hb, hg, _⟩
  · have hx : xs = [] := List.length_eq_zero_iff.1 (by rw [h.1]; simp)
    subst hx
    have r1 := fun ty => run_append_owned_none (P := Try.prog) (w := W.alloc (.cells #[] e)) W.heap.size t ty e i s ht q1 _ 0 [] own0
    exact ⟨_, _, _, r1, own0, Nat.le_refl _, k0⟩
  · obtain ⟨v', w2, hr, hown, hgr, hnil, hloc⟩ := run_append_own_at (P := Try.prog) (W.alloc (.cells #[] e)) W.heap.size t 0 e i z s bytes ht q1 q2 q3 q4 hzs hs _ 0 [] own0 ⟨g, 0, none⟩ n cap xs h.1
      (fun j u hu => k0.cellK (h.cells (g := g) rfl j u hu)) h1 (by simp only [maxLen]; omega) (by
        have := Nat.mul_le_mul (show 0 + n ≤ 134217728 by omega) hby
        omega) (by simp)
    rw [Nat.zero_add, List.nil_append] at hown
    have K : Keeps W w2 (fun _ => False) := k0.trans ((Keeps.ofGrown hgr).mono (fun i hi e => by
      have e' : W.heap.size = i := by simpa [Value.ownBlock] using e
      exact e'.symm)) (fun i hi e => by
        have e' : i = W.heap.size := e
        omega)
    obtain ⟨_, hh | ⟨g', cap', cur', e1, g2, _⟩⟩ := id hown
    · exact absurd (hnil.1 hh.1).1 (by simp)
    · subst e1
      exact ⟨g', cap', w2, fun ty => hr, hown, g2, K⟩
theorem Keeps.rowK {w W : World} (k : Keeps w W (fun _ => False)) {B : Nat} {e : TypeId} {s : Nat} {v : Value} {n : Nat} {xs : List Value} (h : w.ownsRow B e s v n xs) : W.ownsRow B e s v n xs := row_kept h (fun b hb => k.block b (h.lt b hb).2 id)
theorem cellI_one {os : List Int} : ∀ u ∈ os.map cellI, u.oneCell' = true := fun u hu => by
  obtain ⟨z, _, rfl⟩ := List.mem_map.1 hu
  rfl
theorem partC_one {L : List (Nat × Nat)} {lv : Int → Option Int} : ∀ u ∈ partC L lv, u.oneCell' = true := fun u hu => by
  unfold partC at hu
  obtain ⟨l, hl, hu⟩ := List.mem_flatten.1 hu
  obtain ⟨x, _, rfl⟩ := List.mem_map.1 hl
  simp at hu
  rcases hu with rfl | rfl | rfl <;> rfl
theorem copy_ints {W : World} {B : Nat} {v : Value} {os : List Int} (h : W.ownsRow B 3 1 v os.length (os.map cellI)) (hn : os.length ≤ 134217728) :
    ∃ a c W', (∀ ty, (Builtin.append_ #[28, 28] ty #[.slice (some ⟨W.heap.size, 0, none⟩) 0 0, v]).run Try.prog (W.alloc (.cells #[] 3)) = .ok (.slice (some ⟨a, 0, none⟩) os.length c) W') ∧ W'.ownsRow W.heap.size 3 1 (.slice (some ⟨a, 0, none⟩) os.length c) os.length (os.map cellI) ∧ W.heap.size ≤ a ∧ Keeps W W' (fun _ => False) :=
  copy_row 28 3 1 8 (.int .i64 0) Try.underlying28 (by kernel_rfl) rfl (by omega) (by omega) h cellI_one hn
theorem copy_parts {W : World} {B : Nat} {v : Value} {L : List (Nat × Nat)} {lv : Int → Option Int} (h : W.ownsRow B 38 3 v L.length (partC L lv)) (hn : L.length ≤ 134217728) :
    ∃ a c W', (∀ ty, (Builtin.append_ #[32, 32] ty #[.slice (some ⟨W.heap.size, 0, none⟩) 0 0, v]).run Try.prog (W.alloc (.cells #[] 38)) = .ok (.slice (some ⟨a, 0, none⟩) L.length c) W') ∧ W'.ownsRow W.heap.size 38 3 (.slice (some ⟨a, 0, none⟩) L.length c) L.length (partC L lv) ∧ W.heap.size ≤ a ∧ Keeps W W' (fun _ => False) :=
  copy_row 32 38 3 24 _ Try.underlying32 Try.infoPart rfl (by omega) (by omega) h partC_one hn
/-- One more part behind a row. -/
theorem push_part {W : World} {B : Nat} {v : Value} {n : Nat} {xs : List Value} (h : W.ownsRow B 38 3 v n xs) (hB : B ≤ W.heap.size) (hn : n ≤ 134217728) (x y : Int) (t : Bool) :
    ∃ g cap W', (∀ ty, (Builtin.append_ #[32, 32] ty #[v, .slice (some ⟨W.heap.size, 0, none⟩) 1 1]).run Try.prog (W.alloc (.cells #[.int .i64 x, .int .i64 y, .bool t] 38)) = .ok (.slice (some ⟨g, 0, none⟩) (n + 1) cap) W') ∧ W'.ownsRow B 38 3 (.slice (some ⟨g, 0, none⟩) (n + 1) cap) (n + 1) (xs ++ [.int .i64 x, .int .i64 y, .bool t]) ∧ Keeps W W' (fun k => v.ownBlock = some k) ∧ (v.ownBlock = some g ∨ W.heap.size ≤ g) := by
  obtain ⟨i, h1, h2, h3, h4⟩ := info_parts Try.infoPart
  obtain ⟨g, cap, w2, hr, hown, hgr, hloc, hlt⟩ := run_append_lies (P := Try.prog) (W.alloc (.cells #[.int .i64 x, .int .i64 y, .bool t] 38)) 32 0 B 38 i _ 3 24 Try.underlying32 h1 h2 h3 h4 rfl (by decide) v n xs (h.alloc _) ⟨W.heap.size, 0, none⟩ 1 1 [.int .i64 x, .int .i64 y, .bool t] rfl
    (fun j u hu => by
      rw [addr_add]
      simp only [World.cell?, heap_alloc_new]
      match j, hu with
      | 0, hu => simpa using hu
      | 1, hu => simpa using hu
      | 2, hu => simpa using hu
      | j + 3, hu => simp at hu) (by intro u hu; simp at hu; rcases hu with rfl | rfl | rfl <;> rfl) (by omega) (by simp only [maxLen]; omega) (by omega) (by simp; omega) (W.heap.size + 1) (by simp)
  refine ⟨g, cap, w2, fun ty => hr, hown, ((Keeps.refl W _).alloc _).trans (Keeps.ofGrown hgr) (fun _ _ e => e), ?_⟩
  rcases hloc with e | e
  · exact Or.inl e
  · exact Or.inr (by omega)
theorem push_int {W : World} {B : Nat} {v : Value} {n : Nat} {xs : List Value} (h : W.ownsRow B 3 1 v n xs) (hB : B ≤ W.heap.size) (hn : n ≤ 134217728) (z : Int) :
    ∃ g cap W', (∀ ty, (Builtin.append_ #[28, 28] ty #[v, .slice (some ⟨W.heap.size, 0, none⟩) 1 1]).run Try.prog (W.alloc (.cells #[.int .i64 z] 3)) = .ok (.slice (some ⟨g, 0, none⟩) (n + 1) cap) W') ∧ W'.ownsRow B 3 1 (.slice (some ⟨g, 0, none⟩) (n + 1) cap) (n + 1) (xs ++ [.int .i64 z]) ∧ Keeps W W' (fun k => v.ownBlock = some k) ∧ (v.ownBlock = some g ∨ W.heap.size ≤ g) := by
  obtain ⟨g, cap, w2, hr, hown, kk, hloc⟩ := append_one (P := Try.prog) 28 3 (.int .i64 0) 8 Try.underlying28 (by kernel_rfl) rfl (h.alloc (.cells #[.int .i64 z] 3)) (heap_alloc_new W (.cells #[.int .i64 z] 3)) rfl (by omega) (by simp only [maxLen]; omega) (by simp; omega)
  refine ⟨g, cap, w2, hr, hown, ((Keeps.refl W _).alloc _).trans kk (fun _ _ e => e), ?_⟩
  rcases hloc with e | e
  · exact Or.inl e
  · exact Or.inr (by rw [e]; simp)

theorem all_two {d : AD} (hF : d.Fine) (hW : d.Well) {x y : Int} (ha : allOne [x, y]) (hf : fitsIn ((d.limit : Int) - (d.used : Int)) [x, y] = true) : ∃ o1 o2 : Nat, (takeAll listT d [x, y]).1 = [(o1 : Int), (o2 : Int)] ∧ 16 ≤ o1 ∧ 16 ≤ o2 ∧ o1 ≠ o2 := by
  have hx : 1 ≤ x := ha x (by simp)
  have hy : 1 ≤ y := ha y (by simp)
  simp only [fitsIn] at hf
  split at hf
  · cases hf
  rename_i hc
  split at hf
  · cases hf
  rename_i hc2
  have h0 : classI x ≠ 0 := fun e => hc (Or.inl e)
  have h02 : classI y ≠ 0 := fun e => hc2 (Or.inl e)
  have hb : x ≤ 1048576 := Int.not_lt.1 fun hb => h0 (by unfold classI; rw [if_neg (by omega)])
  have hb2 : y ≤ 1048576 := Int.not_lt.1 fun hb => h02 (by unfold classI; rw [if_neg (by omega)])
  obtain ⟨m, rfl⟩ := Int.eq_ofNat_of_zero_le (show 0 ≤ x by omega)
  obtain ⟨q, rfl⟩ := Int.eq_ofNat_of_zero_le (show 0 ≤ y by omega)
  have hcn : classI (m : Int) = (classN m : Int) := by unfold classI; rw [if_pos (by omega)]; simp
  have hcq : classI (q : Int) = (classN q : Int) := by unfold classI; rw [if_pos (by omega)]; simp
  have h1 : ¬ (d.limit : Int) - (d.used : Int) < classI (m : Int) := fun e => hc (Or.inr e)
  have h2 : ¬ (d.limit : Int) - (d.used : Int) - classI (m : Int) < classI (q : Int) := fun e => hc2 (Or.inr e)
  have hB := list_B hF hW (class_in m (by omega) (by omega)) (by omega)
  have hB2 := list_B hB.fine hB.well (class_in q (by omega) (by omega)) (by have := hB.used; have := hB.limit; omega)
  refine ⟨(listT d (classN m)).1, (listT (listT d (classN m)).2 (classN q)).1, ?_, hB.low.1, hB2.low.1, fun e => ?_⟩
  · simp [takeAll, hcn, hcq]
  · have hnd := (hB2.perm.map (·.1)).nodup_iff.1 (lives_nodup hB2.fine)
    rw [List.map_cons, List.nodup_cons] at hnd
    refine hnd.1 (List.mem_map.2 ⟨_, hB.perm.mem_iff.2 (List.mem_cons_self ..), e⟩)

section
variable {w W W' : World} {p : Nat} {Z : Nat → Prop} {v : Value} {ys : List Int} {d d' : AD}
/-- AllocAll: a list of offsets, or none. -/
def AllR (w W : World) (p : Nat) (Z : Nat → Prop) (v : Value) (ys : List Int) (d : AD) (zs : List Int) (e : Ending) (w' : World) : Prop :=
  ∃ (ao : Option Addr) (os : List Int) (x : Int) (d' : AD), e = .returned (.tuple #[.slice ao os.length os.length, .int .i64 x]) ∧ (x == 0) = ((os.length : Int) == (zs.length : Int)) ∧ w'.ownsRow W.heap.size 3 1 (.slice ao os.length os.length) os.length (os.map cellI) ∧ OwnZ w w' p (fun k => Z k ∨ RowX ao k) v ys d' ∧ Grow d d' ∧ (∀ k, Z k → w'.heap[k]? = W.heap[k]?) ∧ os.length ≤ zs.length ∧ (os = [] ∨ fitsIn ((d.limit : Int) - (d.used : Int)) zs = true ∧ os = (takeAll listT d zs).1)
theorem ownz_allR (h : OwnZ w W p Z v ys d) (hF : d.Fine) (hW : d.Well) (zs : List Int) (hz0 : 0 < zs.length) (hz1 : zs.length ≤ 1000) (ha : allOne zs) :
    Calls Try.prog 12 #[.pointer (some ⟨p, 0, none⟩), .slice (some ⟨W.heap.size, 0, none⟩) zs.length zs.length] (W.alloc (.cells (zs.map cellI).toArray 3)) fun e w' => AllR w W p Z v ys d zs e w' := by
  refine (ownz_all h hF hW zs hz0 hz1 ha).mono ?_
  rintro e w' (⟨h0, rfl, hO, hK⟩ | ⟨b, hf, rfl, hb, hblk, hO, hst⟩)
  · refine ⟨none, [], _, d, rfl, ?_, World.ownsRow_nil _ _ _ _, h.add hK (RowX none) (fun q e => by cases e), Grow.refl hF hW, fun k hk => hK.block k (h.zs k hk).2.1 id, by simp, Or.inl rfl⟩
    have e1 : (refE d zs == 0) = false := by simpa using h0
    have e2 : (((([] : List Int).length : Nat) : Int) == (zs.length : Int)) = false := by
      rw [beq_eq_false_iff_ne]
      simp
      omega
    rw [e1, e2]
  · have hlen := takeAll_length listT zs d
    refine ⟨some ⟨b, 0, none⟩, (takeAll listT d zs).1, 0, _, by rw [hlen], by rw [hlen]; simp, ?_, ?_, all_grow hF hW ha hf, hst, by omega, Or.inr ⟨hf, rfl⟩⟩
    · refine ⟨by simp, Or.inr ⟨b, _, _, rfl, hb, hblk, Nat.le_refl _, by rw [hlen]; simp only [maxLen]; omega, by simp, ?_⟩⟩
      rw [List.take_of_length_le (by simp)]
    · have e : (fun k => Z k ∨ RowX (some ⟨b, 0, none⟩) k) = (fun k => Z k ∨ k = b) := by
        funext k
        simp [RowX, eq_comm]
      rw [e]
      exact hO
/-- The statement writes in its own blocks. -/
theorem OwnZ.wrote (h : OwnZ w W p Z v ys d) (k : Keeps W W' Z) : Own w W' p Z d := by
  have h1 : Own w W p Z d := h.own.less (fun _ _ _ e => Or.inl e)
  exact h1.swap k (fun i hi => (h.zs i hi).1) (fun i hi => Or.inl hi)
theorem own_parts (h : Own w W p Z d) (hF : d.Fine) : Calls Try.prog 11 #[.pointer (some ⟨p, 0, none⟩)] W fun e w' =>
    ∃ q, e = .returned (.slice (some ⟨q, 0, none⟩) d.L.length d.L.length) ∧ W.heap.size ≤ q ∧ w'.heap[q]? = some (.cells (partC d.L d.lv).toArray 38) ∧ Keeps W w' (fun _ => False) := by
  obtain ⟨c, hc, _⟩ := h.arena
  refine (parts_any hc hF (lives_len hF)).mono ?_
  rintro e w' ⟨q, cs, rfl, h1, h2, h3, h4⟩
  exact ⟨q, rfl, h1, h3.whole, h4⟩
theorem parts_row {B q : Nat} {L : List (Nat × Nat)} {lv : Int → Option Int} (h : W.heap[q]? = some (.cells (partC L lv).toArray 38)) (hB : B ≤ q) (hl : L.length ≤ 134217728) : W.ownsRow B 38 3 (.slice (some ⟨q, 0, none⟩) L.length L.length) L.length (partC L lv) := by
  refine ⟨partC_length L lv, Or.inr ⟨q, L.length, _, rfl, hB, h, Nat.le_refl _, by simp only [maxLen]; omega, by simp [partC_length], ?_⟩⟩
  rw [List.take_of_length_le (by simp [partC_length])]
end
end Go.Proofs.Ytfghkpahbfpejaa
/-
  Rows that are written over from the front.
-/
namespace Go.Proofs.Ytfghkpahbfpejaa
open Go.RowKit Go.Shelf
set_option linter.unusedVariables false

/-- A row of parts: the first i have the offset u. -/
def Filled (W : World) (q n c i : Nat) (u : Int) : Prop := ∃ xs, W.ownsRow 0 38 3 (.slice (some ⟨q, 0, none⟩) n c) n xs ∧ ∀ j, j < i → xs[j * 3]? = some (.int .i64 u)
section
variable {W W' : World} {q n c i : Nat} {u : Int}
theorem Filled.has (h : Filled W q n c i u) {j : Nat} (hj : j < n * 3) : ∃ v, W.cell? ⟨q, j, none⟩ = some v := by
  obtain ⟨xs, h1, _⟩ := h
  have hl : j < xs.length := by rw [h1.1]; exact hj
  exact ⟨xs[j], (h1.cellAt j hj).trans (List.getElem?_eq_getElem hl)⟩
theorem Filled.frozen (h : Filled W q n c i u) (j : Nat) : W.frozen? ⟨q, j, none⟩ = false := by
  obtain ⟨xs, h1, _⟩ := h
  exact h1.frozenAt j
theorem Filled.other (h : Filled W q n c i u) {b o : Nat} (hb : q ≠ b) (v : Value) : Filled (W.setCell ⟨b, o, none⟩ v) q n c i u := by
  obtain ⟨xs, h1, h2⟩ := h
  exact ⟨xs, ownsRow_setCell_other h1 (by simpa [Value.ownBlock] using hb) v, h2⟩
theorem Filled.kept (h : Filled W q n c i u) (k : W'.heap[q]? = W.heap[q]?) : Filled W' q n c i u := by
  obtain ⟨xs, h1, h2⟩ := h
  exact ⟨xs, row_kept h1 (fun b hb => by simp [Value.ownBlock] at hb; subst hb; exact k), h2⟩
theorem Filled.step (h : Filled W q n c i u) (hi : i < n) (x y : Value) : Filled (((W.setCell ⟨q, i * 3, none⟩ (.int .i64 u)).setCell ⟨q, i * 3 + 1, none⟩ x).setCell ⟨q, i * 3 + 2, none⟩ y) q n c (i + 1) u := by
  obtain ⟨xs, h1, h2⟩ := h
  have s1 := (h1.stored (i * 3) (.int .i64 u)).1
  have s2 := (s1.stored (i * 3 + 1) x).1
  have s3 := (s2.stored (i * 3 + 2) y).1
  refine ⟨_, s3, fun j hj => ?_⟩
  rw [List.getElem?_set_ne (by omega), List.getElem?_set_ne (by omega)]
  by_cases e : j = i
  · subst e
    rw [List.getElem?_set_self (by rw [h1.1]; omega)]
  · rw [List.getElem?_set_ne (by omega)]
    exact h2 j (by omega)
theorem Filled.start {xs : List Value} (h : W.ownsRow 0 38 3 (.slice (some ⟨q, 0, none⟩) n c) n xs) : Filled W q n c 0 u := ⟨xs, h, fun j hj => by omega⟩
/-- Added to at its end. -/
theorem Filled.push (h : Filled W q n c n u) (hn : n ≤ 134217728) (x : Int) :
    ∃ g cap W', (∀ ty, (Builtin.append_ #[32, 32] ty #[.slice (some ⟨q, 0, none⟩) n c, .slice (some ⟨W.heap.size, 0, none⟩) 1 1]).run Try.prog (W.alloc (.cells #[.int .i64 x, .int .i64 0, .bool false] 38)) = .ok (.slice (some ⟨g, 0, none⟩) (n + 1) cap) W') ∧ Keeps W W' (fun k => k = q) ∧ (g = q ∨ W.heap.size ≤ g) ∧ (∀ j, j < n → W'.cell? ⟨g, j * 3, none⟩ = some (.int .i64 u)) ∧ W'.cell? ⟨g, n * 3, none⟩ = some (.int .i64 x) ∧ g < W'.heap.size := by
  obtain ⟨xs, h1, h2⟩ := h
  obtain ⟨g, cap, W', hr, ho, hk, hl⟩ := push_part h1 (Nat.zero_le _) hn x 0 false
  have hlen : xs.length = n * 3 := h1.1
  refine ⟨g, cap, W', hr, hk.mono (fun i _ e => by simpa [Value.ownBlock, eq_comm] using e), ?_, fun j hj => ?_, ?_, (ho.lt g rfl).2⟩
  · rcases hl with e | e
    · left
      simpa [Value.ownBlock, eq_comm] using e
    · exact Or.inr e
  · rw [ho.cellAt _ (by omega), List.getElem?_append_left (by omega)]
    exact h2 j hj
  · rw [ho.cellAt _ (by omega), List.getElem?_append_right (by omega), hlen, Nat.sub_self]
    rfl
end
/-- A row of numbers: the first i are -4. -/
def FilledI (W : World) (v : Value) (n i : Nat) : Prop := ∃ xs, W.ownsRow 0 3 1 v n xs ∧ ∀ j, j < i → xs[j]? = some (.int .i64 (-4))
section
variable {W W' : World} {v : Value} {n i : Nat}
theorem FilledI.kept (h : FilledI W v n i) (k : ∀ b, v.ownBlock = some b → W'.heap[b]? = W.heap[b]?) : FilledI W' v n i := by
  obtain ⟨xs, h1, h2⟩ := h
  exact ⟨xs, row_kept h1 k, h2⟩
theorem FilledI.form (h : FilledI W v n i) (h0 : 0 < n) : ∃ b c, v = .slice (some ⟨b, 0, none⟩) n c := by
  obtain ⟨xs, h1, h2⟩ := h
  obtain ⟨g, cap, e, _⟩ := h1.form h0
  exact ⟨g, cap, e⟩
theorem FilledI.has {b c : Nat} (h : FilledI W (.slice (some ⟨b, 0, none⟩) n c) n i) {j : Nat} (hj : j < n) : (∃ u, W.cell? ⟨b, j, none⟩ = some u) ∧ W.frozen? ⟨b, j, none⟩ = false := by
  obtain ⟨xs, h1, h2⟩ := h
  have hl : j < xs.length := by rw [h1.1]; omega
  exact ⟨⟨xs[j], (h1.cellAt j (by omega)).trans (List.getElem?_eq_getElem hl)⟩, h1.frozenAt j⟩
theorem FilledI.step {b c : Nat} (h : FilledI W (.slice (some ⟨b, 0, none⟩) n c) n i) (hi : i < n) : FilledI (W.setCell ⟨b, i, none⟩ (.int .i64 (-4))) (.slice (some ⟨b, 0, none⟩) n c) n (i + 1) := by
  obtain ⟨xs, h1, h2⟩ := h
  refine ⟨_, (h1.stored i (.int .i64 (-4))).1, fun j hj => ?_⟩
  by_cases e : j = i
  · subst e
    rw [List.getElem?_set_self (by rw [h1.1]; omega)]
  · rw [List.getElem?_set_ne (by omega)]
    exact h2 j (by omega)
theorem FilledI.push (h : FilledI W v n n) (hn : n ≤ 134217728) (z : Int) :
    ∃ g cap W', (∀ ty, (Builtin.append_ #[28, 28] ty #[v, .slice (some ⟨W.heap.size, 0, none⟩) 1 1]).run Try.prog (W.alloc (.cells #[.int .i64 z] 3)) = .ok (.slice (some ⟨g, 0, none⟩) (n + 1) cap) W') ∧ Keeps W W' (fun k => v.ownBlock = some k) ∧ (v.ownBlock = some g ∨ W.heap.size ≤ g) ∧ W'.cell? ⟨g, n, none⟩ = some (.int .i64 z) ∧ g < W'.heap.size := by
  obtain ⟨xs, h1, h2⟩ := h
  obtain ⟨g, cap, W', hr, ho, hk, hl⟩ := push_int h1 (Nat.zero_le _) hn z
  have hlen : xs.length = n := by have := h1.1; omega
  refine ⟨g, cap, W', hr, hk, hl, ?_, (ho.lt g rfl).2⟩
  rw [ho.cellAt _ (by omega), List.getElem?_append_right (by omega), hlen, Nat.sub_self]
  rfl
end
end Go.Proofs.Ytfghkpahbfpejaa
