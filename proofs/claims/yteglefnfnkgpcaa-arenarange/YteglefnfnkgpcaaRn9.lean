import Derived.Test.YteglefnfnkgpcaaRn8
namespace Go.Proofs.Yteglefnfnkgpcaa
open Go.RowKit Go.Shelf

theorem row_kept {w w' : World} {base : Nat} {e : TypeId} {size : Nat} {v : Value} {n : Nat} {xs : List Value} (h : w.ownsRow base e size v n xs) (k : ∀ b, v.ownBlock = some b → w'.heap[b]? = w.heap[b]?) : w'.ownsRow base e size v n xs := by
  refine ⟨h.1, ?_⟩
  rcases h.2 with h2 | ⟨g, cap, cur, e1, h1, h2, h3⟩
  · exact Or.inl h2
  · exact Or.inr ⟨g, cap, cur, e1, h1, (k g (by rw [e1]; rfl)).trans h2, h3⟩

section
variable {w w1 : World} {p : Nat} {X : Nat → Prop} {d : AD}
theorem in_alloc {bl : List (Nat × Nat)} (h : Own w w1 p X d) (hX : ∀ k, X k → k < w1.heap.size) (hA : Al d bl) (s : Nat) (h1 : 1 ≤ s) (h2 : s ≤ 4096) (hl : bl.length < 64) :
    Calls Try.prog 17 #[.pointer (some ⟨p, 0, none⟩), .int .i64 (s : Int)] w1 fun e w' => ∃ o : Nat, e = .returned (.tuple #[.int .i64 (o : Int), .int .i64 0]) ∧ ∃ d', Al d' (bl ++ [(o, classN s)]) ∧ Own w w' p X d' ∧ ∀ k, X k → w'.heap[k]? = w1.heap[k]? := by
  obtain ⟨hr, hm⟩ := hA.more h1 h2 hl
  refine (own_alloc h hA.fine newOK hA.new s h1 (by omega) hr).mono ?_
  rintro e w' ⟨rfl, ht⟩
  exact ⟨_, rfl, _, hm, h.turn ht hX, fun k hk => Own.rest ht (hX k hk) (Or.inl hk)⟩
theorem in_free {bl bk : List (Nat × Nat)} {j : Nat} {x : Nat × Nat} (h : Own w w1 p X d) (hX : ∀ k, X k → k < w1.heap.size) (hF : Fr d bl j bk) (hx : bl[j]? = some x) :
    Calls Try.prog 16 #[.pointer (some ⟨p, 0, none⟩), .slice (some ⟨w1.heap.size, 0, none⟩) 1 1] (w1.alloc (.cells #[.int .i64 (x.1 : Int)] 3)) fun e w' => e = .returned (.int .i64 0) ∧ ∃ d', Fr d' bl (j + 1) bk ∧ Own w w' p X d' ∧ ∀ k, X k → w'.heap[k]? = w1.heap[k]? := by
  refine (own_free1 h hF.fine (x.1 : Int) (x.2 : Int) (hF.rest j x (Nat.le_refl _) hx) hX).mono ?_
  rintro e w' ⟨rfl, d', hG, ho, kk⟩
  exact ⟨rfl, d', hF.free hx hG, ho, fun k hk => kk.block k (hX k hk) (fun e => e.1.2 hk)⟩

/-- The statement's blocks change from X to Y while the arena rests: what is new in Y is new. -/
theorem Own.swap {w2 : World} {Y : Nat → Prop} (h : Own w w1 p X d) (k : Keeps w1 w2 X) (hX : ∀ i, X i → w.heap.size ≤ i) (hY : ∀ i, Y i → X i ∨ w1.heap.size ≤ i) : Own w w2 p Y d := by
  refine ⟨(h.here.keeps k (fun i _ e s => e.1.2 s)).mono (fun i _ e => ⟨e.1.1, fun y => ?_⟩), h.keeps.trans k (fun i hi e => by have := hX i e; omega)⟩
  rcases hY i y with x | x
  · exact e.1.2 x
  · have := e.2
    omega
end

/-- An arena beside a growing row of numbers. -/
structure OwnR (w w1 : World) (p : Nat) (v : Value) (ys : List Int) (d : AD) : Prop where
  own : Own w w1 p (fun k => v.ownBlock = some k) d
  row : w1.ownsRow w.heap.size 3 1 v ys.length (ys.map cellI)
theorem OwnR.lt {w w1 : World} {p : Nat} {v : Value} {ys : List Int} {d : AD} (h : OwnR w w1 p v ys d) : ∀ k, v.ownBlock = some k → k < w1.heap.size := fun k hk => (h.row.lt k hk).2
theorem OwnR.push {w w1 : World} {p : Nat} {v : Value} {ys : List Int} {d : AD} (h : OwnR w w1 p v ys d) (z : Int) (hn : ys.length ≤ 64) :
    ∃ g cap w2, (∀ ty, (Builtin.append_ #[28, 28] ty #[v, .slice (some ⟨w1.heap.size, 0, none⟩) 1 1]).run Try.prog (w1.alloc (.cells #[.int .i64 z] 3)) = .ok (.slice (some ⟨g, 0, none⟩) (ys.length + 1) cap) w2) ∧ OwnR w w2 p (.slice (some ⟨g, 0, none⟩) (ys.length + 1) cap) (ys ++ [z]) d := by
  have hsz := h.own.keeps.size
  obtain ⟨g, cap, w2, hr, hown, kk, hloc⟩ := append_one (P := Try.prog) 28 3 (.int .i64 0) 8 Try.underlying28 (by kernel_rfl) rfl (h.row.alloc (.cells #[.int .i64 z] 3)) (heap_alloc_new w1 (.cells #[.int .i64 z] 3)) rfl (by omega) (by simp only [maxLen]; omega) (by simp; omega)
  refine ⟨g, cap, w2, hr, ?_, by simpa [cellI] using hown⟩
  have k1 : Keeps w1 w2 (fun k => v.ownBlock = some k) := ((Keeps.refl w1 _).alloc _).trans kk (fun _ _ e => e)
  refine h.own.swap k1 (fun i e => (h.row.lt i e).1) (fun i e => ?_)
  have e' : g = i := by simpa [Value.ownBlock] using e
  subst e'
  rcases hloc with e1 | e1
  · exact Or.inl e1
  · exact Or.inr (by rw [e1]; simp)

/-- A row of what is held. -/
def heldCells (bk : List (Nat × Nat)) : List Value := (bk.map (fun x => [Value.int .i64 (x.1 : Int), .int .i64 (x.2 : Int), .int .u8 0])).flatten
theorem heldCells_snoc (bk : List (Nat × Nat)) (x : Nat × Nat) : heldCells (bk ++ [x]) = heldCells bk ++ [.int .i64 (x.1 : Int), .int .i64 (x.2 : Int), .int .u8 0] := by simp [heldCells]
theorem heldCells_length (bk : List (Nat × Nat)) : (heldCells bk).length = bk.length * 3 := by
  induction bk with
  | nil => rfl
  | cons x r ih =>
    have : heldCells (x :: r) = [.int .i64 (x.1 : Int), .int .i64 (x.2 : Int), .int .u8 0] ++ heldCells r := by simp [heldCells]
    rw [this, List.length_append, ih]
    simp
    omega
theorem heldCells_get : ∀ (bk : List (Nat × Nat)) (i : Nat) (x : Nat × Nat), bk[i]? = some x → (heldCells bk)[i * 3]? = some (.int .i64 (x.1 : Int)) ∧ (heldCells bk)[i * 3 + 1]? = some (.int .i64 (x.2 : Int)) ∧ (heldCells bk)[i * 3 + 2]? = some (.int .u8 0)
  | [], i, x, h => by simp at h
  | y :: r, 0, x, h => by
    simp at h
    subst h
    simp [heldCells]
  | y :: r, i + 1, x, h => by
    have ih := heldCells_get r i x (by simpa using h)
    have e : heldCells (y :: r) = [.int .i64 (y.1 : Int), .int .i64 (y.2 : Int), .int .u8 0] ++ heldCells r := by simp [heldCells]
    have e1 : (i + 1) * 3 = 3 + i * 3 := by omega
    rw [e, e1]
    refine ⟨?_, ?_, ?_⟩
    · rw [List.getElem?_append_right (by simp)]
      simpa using ih.1
    · rw [List.getElem?_append_right (by simp; omega)]
      have : 3 + i * 3 + 1 - 3 = i * 3 + 1 := by omega
      simpa [this] using ih.2.1
    · rw [List.getElem?_append_right (by simp; omega)]
      have : 3 + i * 3 + 2 - 3 = i * 3 + 2 := by omega
      simpa [this] using ih.2.2

/-- An arena beside a fixed row of numbers and a growing row of what is held. -/
structure OwnB (w w1 : World) (p : Nat) (so : Option Addr) (ys : List Int) (v : Value) (bk : List (Nat × Nat)) (d : AD) : Prop where
  own : Own w w1 p (fun k => RowX so k ∨ v.ownBlock = some k) d
  all : RowAt w1 so ys
  allX : ∀ k, RowX so k → w.heap.size ≤ k ∧ k < w1.heap.size
  apart : ∀ k, RowX so k → ¬ v.ownBlock = some k
  row : w1.ownsRow w.heap.size 62 3 v bk.length (heldCells bk)
theorem OwnB.lt {w w1 : World} {p : Nat} {so : Option Addr} {ys : List Int} {v : Value} {bk : List (Nat × Nat)} {d : AD} (h : OwnB w w1 p so ys v bk d) : ∀ k, (RowX so k ∨ v.ownBlock = some k) → k < w1.heap.size := fun k hk => by
  rcases hk with hk | hk
  · exact (h.allX k hk).2
  · exact (h.row.lt k hk).2
theorem OwnB.turn {w w1 w2 : World} {p : Nat} {so : Option Addr} {ys : List Int} {v : Value} {bk : List (Nat × Nat)} {d d' : AD} (h : OwnB w w1 p so ys v bk d) (ho : Own w w2 p (fun k => RowX so k ∨ v.ownBlock = some k) d') (k : ∀ b, (RowX so b ∨ v.ownBlock = some b) → w2.heap[b]? = w1.heap[b]?) : OwnB w w2 p so ys v bk d' :=
  ⟨ho, h.all.kept (fun b hb => k b (Or.inl hb)), fun b hb => ⟨(h.allX b hb).1, rowx_lt (fun q hq => (h.allX q hq).2) (fun q hq => k q (Or.inl hq)) b hb⟩, h.apart, row_kept h.row (fun b hb => k b (Or.inr hb))⟩
theorem OwnB.push {w w1 : World} {p : Nat} {so : Option Addr} {ys : List Int} {v : Value} {bk : List (Nat × Nat)} {d : AD} (h : OwnB w w1 p so ys v bk d) (x : Nat × Nat) (hn : bk.length ≤ 64) :
    ∃ g cap w2, (∀ ty, (Builtin.append_ #[58, 58] ty #[v, .slice (some ⟨w1.heap.size, 0, none⟩) 1 1]).run Try.prog (w1.alloc (.cells #[.int .i64 (x.1 : Int), .int .i64 (x.2 : Int), .int .u8 0] 62)) = .ok (.slice (some ⟨g, 0, none⟩) (bk.length + 1) cap) w2) ∧ OwnB w w2 p so ys (.slice (some ⟨g, 0, none⟩) (bk.length + 1) cap) (bk ++ [x]) d := by
  have hsz := h.own.keeps.size
  have hi : (Try.prog.info? 62).map (fun i => (i.zero, i.size, i.bytes)) = some (some (.agg #[.int .i64 0, .int .i64 0, .int .u8 0]), 3, 24) := by kernel_rfl
  obtain ⟨i, h1, h2, h3, h4⟩ := info_parts hi
  obtain ⟨g, cap, w2, hr, hown, hgr, hloc, hlt⟩ := run_append_lies (P := Try.prog) (w1.alloc (.cells #[.int .i64 (x.1 : Int), .int .i64 (x.2 : Int), .int .u8 0] 62)) 58 0 w.heap.size 62 i (.agg #[.int .i64 0, .int .i64 0, .int .u8 0]) 3 24 Try.underlying58 h1 h2 h3 h4 rfl (by decide) v bk.length (heldCells bk) (h.row.alloc _) ⟨w1.heap.size, 0, none⟩ 1 1 [.int .i64 (x.1 : Int), .int .i64 (x.2 : Int), .int .u8 0] rfl
    (fun j u hu => by
      rw [addr_add]
      simp only [World.cell?, heap_alloc_new]
      match j, hu with
      | 0, hu => simpa using hu
      | 1, hu => simpa using hu
      | 2, hu => simpa using hu
      | j + 3, hu => simp at hu) (by intro u hu; simp at hu; rcases hu with rfl | rfl | rfl <;> rfl) (by omega) (by simp only [maxLen]; omega) (by omega) (by simp; omega) (w1.heap.size + 1) (by simp)
  have k1 : Keeps w1 w2 (fun k => v.ownBlock = some k) := ((Keeps.refl w1 _).alloc _).trans (Keeps.ofGrown hgr) (fun _ _ e => e)
  have hold : ∀ k, RowX so k → w2.heap[k]? = w1.heap[k]? := fun k hk => k1.block k (h.allX k hk).2 (h.apart k hk)
  refine ⟨g, cap, w2, fun ty => hr, ?_, h.all.kept hold, fun b hb => ⟨(h.allX b hb).1, Nat.lt_of_lt_of_le (h.allX b hb).2 k1.size⟩, fun k hk e => ?_, ?_⟩
  · refine h.own.swap (k1.mono (fun _ _ e => Or.inr e)) (fun i e => ?_) (fun i e => ?_)
    · rcases e with e | e
      · exact (h.allX i e).1
      · exact (h.row.lt i e).1
    · rcases e with e | e
      · exact Or.inl (Or.inl e)
      · have e' : g = i := by simpa [Value.ownBlock] using e
        subst e'
        rcases hloc with e1 | e1
        · exact Or.inl (Or.inr e1)
        · exact Or.inr (by omega)
  · have e' : g = k := by simpa [Value.ownBlock] using e
    subst e'
    rcases hloc with e1 | e1
    · exact h.apart _ hk e1
    · have := (h.allX _ hk).2
      omega
  · rw [heldCells_snoc]
    simpa using hown
/-- What is held, in a row. -/
def HeldAt (w : World) (so : Option Addr) (bk : List (Nat × Nat)) : Prop := ∀ i x, bk[i]? = some x → ∃ g, so = some ⟨g, 0, none⟩ ∧ g < w.heap.size ∧ w.cell? ⟨g, i * 3, none⟩ = some (.int .i64 (x.1 : Int)) ∧ w.cell? ⟨g, i * 3 + 1, none⟩ = some (.int .i64 (x.2 : Int)) ∧ w.cell? ⟨g, i * 3 + 2, none⟩ = some (.int .u8 0)
theorem held_of_own {w : World} {H : Nat} {v : Value} {bk : List (Nat × Nat)} (h : w.ownsRow H 62 3 v bk.length (heldCells bk)) : ∃ so cap, v = .slice so bk.length cap ∧ HeldAt w so bk := by
  rcases h.2 with ⟨e, e0⟩ | ⟨g, cap, cur, e, hb, hg, _⟩
  · refine ⟨none, 0, by rw [e, e0], fun i x hx => ?_⟩
    have := (List.getElem?_eq_some_iff.1 hx).1
    omega
  · refine ⟨some ⟨g, 0, none⟩, cap, e, fun i x hx => ⟨g, rfl, heap_lt hg, ?_⟩⟩
    obtain ⟨h1, h2, h3⟩ := heldCells_get bk i x hx
    have hc := h.cells (g := g) (by rw [e]; rfl)
    have c1 := hc _ _ h1
    have c2 := hc _ _ h2
    have c3 := hc _ _ h3
    rw [addr_add, Nat.zero_add] at c1 c2 c3
    exact ⟨c1, c2, c3⟩
theorem HeldAt.keeps {w w' : World} {so : Option Addr} {bk : List (Nat × Nat)} (h : HeldAt w so bk) (k : Keeps w w' (fun _ => False)) : HeldAt w' so bk := by
  intro i x hx
  obtain ⟨g, e, hl, c1, c2, c3⟩ := h i x hx
  have hb := k.block g hl id
  exact ⟨g, e, Nat.lt_of_lt_of_le hl k.size, (World.cell?_of_block (a := ⟨g, i * 3, none⟩) hb).trans c1, (World.cell?_of_block (a := ⟨g, i * 3 + 1, none⟩) hb).trans c2, (World.cell?_of_block (a := ⟨g, i * 3 + 2, none⟩) hb).trans c3⟩
theorem spanIn_succ {bk : List (Nat × Nat)} {i : Nat} {x : Nat × Nat} (hx : bk[i]? = some x) (off n : Int) : spanIn (bk.take (i + 1)) off n = (spanIn (bk.take i) off n || decide (0 ≤ n ∧ n ≤ (x.2 : Int) ∧ (x.1 : Int) ≤ off ∧ off - (x.1 : Int) ≤ (x.2 : Int) - n)) := by
  obtain ⟨hi, e⟩ := List.getElem?_eq_some_iff.1 hx
  rw [List.take_succ_eq_append_getElem hi, e]
  simp [spanIn]
def wantOf (t : Bool) : Int := if t then 0 else 24
end Go.Proofs.Yteglefnfnkgpcaa
/-
  act: a step of the statements on the arena, its answer put behind a list.
-/
namespace Go.Proofs.Yteglefnfnkgpcaa
open Go.RowKit Go.Shelf
set_option linter.unusedVariables false

section
variable {w w1 w2 : World} {p : Nat} {v : Value} {ys : List Int} {d d' : AD}
theorem OwnR.more (h : OwnR w w1 p v ys d) (z : Int) (hn : ys.length ≤ 1000000000) :
    ∃ g cap w2, (∀ ty, (Builtin.append_ #[28, 28] ty #[v, .slice (some ⟨w1.heap.size, 0, none⟩) 1 1]).run Try.prog (w1.alloc (.cells #[.int .i64 z] 3)) = .ok (.slice (some ⟨g, 0, none⟩) (ys.length + 1) cap) w2) ∧ OwnR w w2 p (.slice (some ⟨g, 0, none⟩) (ys.length + 1) cap) (ys ++ [z]) d := by
  have hsz := h.own.keeps.size
  obtain ⟨g, cap, w2, hr, hown, kk, hloc⟩ := append_one (P := Try.prog) 28 3 (.int .i64 0) 8 Try.underlying28 (by kernel_rfl) rfl (h.row.alloc (.cells #[.int .i64 z] 3)) (heap_alloc_new w1 (.cells #[.int .i64 z] 3)) rfl (by omega) (by simp only [maxLen]; omega) (by simp; omega)
  refine ⟨g, cap, w2, hr, ?_, by simpa [cellI] using hown⟩
  have k1 : Keeps w1 w2 (fun k => v.ownBlock = some k) := ((Keeps.refl w1 _).alloc _).trans kk (fun _ _ e => e)
  refine h.own.swap k1 (fun i e => (h.row.lt i e).1) (fun i e => ?_)
  have e' : g = i := by simpa [Value.ownBlock] using e
  subst e'
  rcases hloc with e1 | e1
  · exact Or.inl e1
  · exact Or.inr (by rw [e1]; simp)
theorem OwnR.stay (h : OwnR w w1 p v ys d) (k : Keeps w1 w2 (fun _ => False)) : OwnR w w2 p v ys d := ⟨h.own.stay k, row_kept h.row (fun b hb => k.block b (h.lt b hb) id)⟩

/-- The list, and a block of one's own beside it. -/
structure OwnS (w w1 : World) (p b : Nat) (o : Obj) (v : Value) (ys : List Int) (d : AD) : Prop where
  own : Own w w1 p (fun k => v.ownBlock = some k ∨ k = b) d
  row : w1.ownsRow w.heap.size 3 1 v ys.length (ys.map cellI)
  blk : w1.heap[b]? = some o
variable {b : Nat} {o : Obj}
theorem OwnS.lt (h : OwnS w w1 p b o v ys d) : ∀ k, v.ownBlock = some k ∨ k = b → k < w1.heap.size := fun k hk => hk.elim (fun e => (h.row.lt k e).2) (fun e => by rw [e]; exact heap_lt h.blk)
theorem OwnS.of (h : OwnR w w1 p v ys d) (o : Obj) : OwnS w (w1.alloc o) p w1.heap.size o v ys d := by
  have k0 : Keeps w1 (w1.alloc o) (fun _ => False) := (Keeps.refl _ _).alloc _
  have h3 : Own w w1 p (fun k => v.ownBlock = some k ∨ k = w1.heap.size) d := ⟨h.own.arena.mono (fun i hi e => ⟨e.1, fun x => x.elim e.2 (fun e' => by omega)⟩), h.own.keeps⟩
  exact ⟨h3.stay k0, row_kept h.row (fun b hb => k0.block b (h.lt b hb) id), heap_alloc_new _ _⟩
theorem OwnS.back (h : OwnS w w1 p b o v ys d) : OwnR w w1 p v ys d := ⟨h.own.less (fun k _ _ e => Or.inl e), h.row⟩
theorem OwnS.stay (h : OwnS w w1 p b o v ys d) (k : Keeps w1 w2 (fun _ => False)) : OwnS w w2 p b o v ys d :=
  ⟨h.own.stay k, row_kept h.row (fun b hb => k.block b (h.lt b (Or.inl hb)) id), (k.block b (heap_lt h.blk) id).trans h.blk⟩
theorem OwnS.turned (h : OwnS w w1 p b o v ys d) (ho : Own w w2 p (fun k => v.ownBlock = some k ∨ k = b) d') (k : Keeps w1 w2 (fun k => (w.heap.size ≤ k ∧ ¬ (v.ownBlock = some k ∨ k = b)) ∧ k < w1.heap.size)) : OwnS w w2 p b o v ys d' :=
  ⟨ho, row_kept h.row (fun b hb => k.block b (h.lt b (Or.inl hb)) (fun e => e.1.2 (Or.inl hb))), (k.block b (heap_lt h.blk) (fun e => e.1.2 (Or.inr rfl))).trans h.blk⟩
end

/-- What a step does: the arena behind it, and its answer. -/
def ActD (d : AD) (N Fr : Int) (u : UInt8) (ys : List Int) (d' : AD) (z : Int) : Prop :=
  if Fr = 0 then (refE d [N] ≠ 0 ∧ z = -(refE d [N]) ∧ d' = d) ∨ (refE d [N] = 0 ∧ z = ((listT d (classN N.toNat)).1 : Int) ∧ d' = (fillR (listT d (classN N.toNat)).2 ((listT d (classN N.toNat)).1 : Int) (classN N.toNat : Int) u).2)
  else (d.lv (if 0 < Fr ∧ Fr ≤ (ys.length : Int) then at0 ys (Fr - 1).toNat else Fr) = none ∧ z = -23 ∧ d' = d) ∨ (∃ s, d.lv (if 0 < Fr ∧ Fr ≤ (ys.length : Int) then at0 ys (Fr - 1).toNat else Fr) = some s ∧ z = 0 ∧ Gone d (if 0 < Fr ∧ Fr ≤ (ys.length : Int) then at0 ys (Fr - 1).toNat else Fr) d')
def ActPost (w : World) (p : Nat) (d : AD) (N Fr : Int) (u : UInt8) (ys : List Int) (e : Ending) (w' : World) : Prop :=
  ∃ g cap d' z, e = .returned (.slice (some ⟨g, 0, none⟩) (ys.length + 1) cap) ∧ OwnR w w' p (.slice (some ⟨g, 0, none⟩) (ys.length + 1) cap) (ys ++ [z]) d' ∧ ActD d N Fr u ys d' z

theorem two_cells {w : World} {b : Nat} {x y : Value} {t : TypeId} (h : w.heap[b]? = some (.cells #[x, y] t)) : w.cell? ⟨b, 0, none⟩ = some x ∧ w.cell? ⟨b, 1, none⟩ = some y := by
  simp [World.cell?, h]

set_option maxRecDepth 100000 in
set_option maxHeartbeats 4000000 in
theorem act_alloc {w w1 : World} {p : Nat} {v : Value} {ys : List Int} {d : AD} (h : OwnR w w1 p v ys d) (hF : d.Fine) (hW : d.Well) (N : Int) (u : UInt8) (hn : ys.length ≤ 1000000000) :
    Calls Try.prog 10 #[.pointer (some ⟨p, 0, none⟩), .agg #[.int .i64 N, .int .i64 0], v, .int .u8 (u.toNat : Int)] w1 fun e w' => ActPost w p d N 0 u ys e w' := by
  have hS := OwnS.of h (.cells #[.int .i64 N, .int .i64 0] 30)
  have hA := own_alloc_any hS.own hF hW N
  have hnum := fun x W => num_any x W
  obtain ⟨c0, c1⟩ := two_cells hS.blk
  clear h
  go_enter Try.func10, Try.ntmps10
  go_wp2_with fail
  refine hA.mono ?_
  clear hA
  rintro e W2 (⟨h0, rfl, k2⟩ | ⟨h0, n1, n2, n3, rfl, hT⟩)
  · have hS2 := hS.stay k2
    obtain ⟨g, cp, w4, hap, hR2⟩ := hS2.back.more (-(refE d [N])) hn
    have hx1 : (refE d [N] != 0) = true := by simpa using h0
    have hfin : Hid (ActD d N 0 u ys d (-(refE d [N]))) := by
      show ActD d N 0 u ys d (-(refE d [N]))
      unfold ActD
      rw [if_pos rfl]
      exact Or.inl ⟨h0, rfl, rfl⟩
    have hsm : IntKind.i64.wrap (-(refE d [N])) = -(refE d [N]) := by
      have : refE d [N] = 0 ∨ refE d [N] = 21 ∨ refE d [N] = 22 := by
        unfold refE
        by_cases q1 : allOne [N]
        · rw [if_pos q1]
          by_cases q2 : fitsIn ((d.limit : Int) - (d.used : Int)) [N] = true
          · rw [if_pos q2]; exact Or.inl rfl
          · rw [if_neg q2]; exact Or.inr (Or.inr rfl)
        · rw [if_neg q1]; exact Or.inr (Or.inl rfl)
      rcases this with e | e | e <;> rw [e] <;> decide
    generalize refE d [N] = x at *
    clear h0 hS hS2 k2 c0 c1
    go_wp2_with fail
    refine (hnum _ _).mono ?_
    rintro e w5 ⟨rfl, rfl⟩
    go_wp2_with fail
    refine (hnum _ _).mono ?_
    rintro e w5 ⟨rfl, rfl⟩
    go_wp2_with (first | (at_builtin; have _t := hap; refine app_run _ rfl (.tmp 25) (.tmp 29) 28 rfl rfl rfl hap ?_; clear hap))
    go_ret
    exact ⟨g, cp, d, _, rfl, hR2, hfin.out⟩
  · obtain ⟨m, rfl⟩ := Int.eq_ofNat_of_zero_le (show 0 ≤ N by omega)
    have hm : ((m : Int)).toNat = m := by simp
    rw [hm] at hT n3
    have hcl := class_le m (by omega) (by omega)
    have hok := listOK.fine (classN m) hW hF (class_in m (by omega) (by omega)) (by omega) n3
    have hS2 := hS.turned (hS.own.turn hT hS.lt) hT.2
    have hC := fun W => class_yes m W (by omega) (by omega)
    have hFi := own_fill hS2.own hok.1 ((listT d (classN m)).1 : Int) (classN m : Int) u (fitsI_mk (by omega) (by omega)) (fitsI_mk (by omega) (by omega))
    obtain ⟨c2, c3⟩ := two_cells hS2.blk
    have hfin : Hid (ActD d (m : Int) 0 u ys (fillR (listT d (classN m)).2 ((listT d (classN m)).1 : Int) (classN m : Int) u).2 ((listT d (classN m)).1 : Int)) := by
      show ActD _ _ _ _ _ _ _
      unfold ActD
      rw [if_pos rfl, hm]
      exact Or.inr ⟨h0, rfl, rfl⟩
    rw [hm]
    clear hok hcl hT n3 n1 n2 h0 hS c0 c1
    generalize (fillR (listT d (classN m)).2 ((listT d (classN m)).1 : Int) (classN m : Int) u).1 = er at *
    generalize (fillR (listT d (classN m)).2 ((listT d (classN m)).1 : Int) (classN m : Int) u).2 = d3 at *
    generalize (listT d (classN m)).1 = q at *
    generalize (listT d (classN m)).2 = d2 at *
    go_wp2_with fail
    refine (hnum _ _).mono ?_
    rintro e w5 ⟨rfl, rfl⟩
    go_wp2_with fail
    refine (hC _).mono ?_
    rintro e w5 ⟨rfl, rfl⟩
    go_wp2_with fail
    refine hFi.mono ?_
    rintro e W3 ⟨rfl, hT3⟩
    have hS3 := hS2.turned (hS2.own.turn hT3 hS2.lt) hT3.2
    obtain ⟨g, cp, w4, hap, hR2⟩ := hS3.back.more (q : Int) hn
    clear hS2 hS3 hFi hT3 c2 c3 hC
    go_wp2_with (first | (at_builtin; have _t := hap; refine app_run _ rfl (.tmp 38) (.tmp 40) 28 rfl rfl rfl hap ?_; clear hap))
    go_ret
    exact ⟨g, cp, d3, _, rfl, hR2, hfin.out⟩

theorem RowAt.at {w : World} {so : Option Addr} {fs : List Int} (h : RowAt w so fs) {k : Nat} (hk : k < fs.length) : ∃ b, so = some ⟨b, 0, none⟩ ∧ w.cell? ⟨b, k, none⟩ = some (.int .i64 (at0 fs k)) := by
  obtain ⟨b, h1, h2⟩ := h k hk
  refine ⟨b, h1, ?_⟩
  rw [h2]
  simp [at0, hk]
end Go.Proofs.Yteglefnfnkgpcaa
/-
  act beside blocks of the statement's own that stand.
-/
namespace Go.Proofs.Yteglefnfnkgpcaa
open Go.RowKit Go.Shelf
set_option linter.unusedVariables false

section
variable {w w1 w2 : World} {p : Nat} {Z : Nat → Prop} {v : Value} {ys : List Int} {d d' : AD}
/-- A growing list beside blocks Z. -/
structure OwnZ (w w1 : World) (p : Nat) (Z : Nat → Prop) (v : Value) (ys : List Int) (d : AD) : Prop where
  own : Own w w1 p (fun k => Z k ∨ v.ownBlock = some k) d
  row : w1.ownsRow w.heap.size 3 1 v ys.length (ys.map cellI)
  zs : ∀ k, Z k → w.heap.size ≤ k ∧ k < w1.heap.size ∧ v.ownBlock ≠ some k
theorem OwnZ.lt (h : OwnZ w w1 p Z v ys d) : ∀ k, Z k ∨ v.ownBlock = some k → k < w1.heap.size := fun k hk => hk.elim (fun e => (h.zs k e).2.1) (fun e => (h.row.lt k e).2)
theorem OwnZ.more (h : OwnZ w w1 p Z v ys d) (z : Int) (hn : ys.length ≤ 17592186044000) :
    ∃ g cap w2, (∀ ty, (Builtin.append_ #[28, 28] ty #[v, .slice (some ⟨w1.heap.size, 0, none⟩) 1 1]).run Try.prog (w1.alloc (.cells #[.int .i64 z] 3)) = .ok (.slice (some ⟨g, 0, none⟩) (ys.length + 1) cap) w2) ∧ OwnZ w w2 p Z (.slice (some ⟨g, 0, none⟩) (ys.length + 1) cap) (ys ++ [z]) d ∧ ∀ k, Z k → w2.heap[k]? = w1.heap[k]? := by
  have hsz := h.own.keeps.size
  obtain ⟨g, cap, w2, hr, hown, kk, hloc⟩ := append_one (P := Try.prog) 28 3 (.int .i64 0) 8 Try.underlying28 (by kernel_rfl) rfl (h.row.alloc (.cells #[.int .i64 z] 3)) (heap_alloc_new w1 (.cells #[.int .i64 z] 3)) rfl (by omega) (by simp only [maxLen]; omega) (by simp; omega)
  have k1 : Keeps w1 w2 (fun k => v.ownBlock = some k) := ((Keeps.refl w1 _).alloc _).trans kk (fun _ _ e => e)
  have hst : ∀ k, Z k → w2.heap[k]? = w1.heap[k]? := fun k hk => k1.block k (h.zs k hk).2.1 (h.zs k hk).2.2
  have hg : ∀ i, Value.ownBlock (.slice (some ⟨g, 0, none⟩) (ys.length + 1) cap) = some i → v.ownBlock = some i ∨ w1.heap.size ≤ i := fun i e => by
    have e' : g = i := by simpa [Value.ownBlock] using e
    subst e'
    rcases hloc with e1 | e1
    · exact Or.inl e1
    · exact Or.inr (by rw [e1]; simp)
  refine ⟨g, cap, w2, hr, ⟨?_, by simpa [cellI] using hown, fun k hk => ⟨(h.zs k hk).1, Nat.lt_of_lt_of_le (h.zs k hk).2.1 k1.size, fun e => ?_⟩⟩, hst⟩
  · refine h.own.swap (k1.mono (fun _ _ e => Or.inr e)) (fun i e => e.elim (fun e => (h.zs i e).1) (fun e => (h.row.lt i e).1)) (fun i e => ?_)
    rcases e with e | e
    · exact Or.inl (Or.inl e)
    · rcases hg i e with e | e
      · exact Or.inl (Or.inr e)
      · exact Or.inr e
  · rcases hg k e with e | e
    · exact (h.zs k hk).2.2 e
    · have := (h.zs k hk).2.1
      omega
theorem OwnZ.stay (h : OwnZ w w1 p Z v ys d) (k : Keeps w1 w2 (fun _ => False)) : OwnZ w w2 p Z v ys d := ⟨h.own.stay k, row_kept h.row (fun b hb => k.block b (h.lt b (Or.inr hb)) id), fun i hi => ⟨(h.zs i hi).1, Nat.lt_of_lt_of_le (h.zs i hi).2.1 k.size, (h.zs i hi).2.2⟩⟩

/-- The list, the blocks, and a block of one's own beside them. -/
structure OwnY (w w0 w1 : World) (p : Nat) (Z : Nat → Prop) (b : Nat) (o : Obj) (v : Value) (ys : List Int) (d : AD) : Prop where
  own : Own w w1 p (fun k => (Z k ∨ v.ownBlock = some k) ∨ k = b) d
  row : w1.ownsRow w.heap.size 3 1 v ys.length (ys.map cellI)
  zs : ∀ k, Z k → w.heap.size ≤ k ∧ k < w1.heap.size ∧ v.ownBlock ≠ some k
  blk : w1.heap[b]? = some o
  st : ∀ k, Z k → w1.heap[k]? = w0.heap[k]?
variable {b : Nat} {o : Obj} {w0 : World}
theorem OwnY.lt (h : OwnY w w0 w1 p Z b o v ys d) : ∀ k, (Z k ∨ v.ownBlock = some k) ∨ k = b → k < w1.heap.size := fun k hk => hk.elim (fun e => e.elim (fun e => (h.zs k e).2.1) (fun e => (h.row.lt k e).2)) (fun e => by rw [e]; exact heap_lt h.blk)
theorem OwnY.of (h : OwnZ w w1 p Z v ys d) (o : Obj) : OwnY w w1 (w1.alloc o) p Z w1.heap.size o v ys d := by
  have k0 : Keeps w1 (w1.alloc o) (fun _ => False) := (Keeps.refl _ _).alloc _
  have h3 : Own w w1 p (fun k => (Z k ∨ v.ownBlock = some k) ∨ k = w1.heap.size) d := ⟨h.own.arena.mono (fun i hi e => ⟨e.1, fun x => x.elim e.2 (fun e' => by omega)⟩), h.own.keeps⟩
  exact ⟨h3.stay k0, row_kept h.row (fun b hb => k0.block b (h.lt b (Or.inr hb)) id), fun k hk => ⟨(h.zs k hk).1, Nat.lt_of_lt_of_le (h.zs k hk).2.1 k0.size, (h.zs k hk).2.2⟩, heap_alloc_new _ _, fun k hk => k0.block k (h.zs k hk).2.1 id⟩
theorem OwnY.back (h : OwnY w w0 w1 p Z b o v ys d) : OwnZ w w1 p Z v ys d := ⟨h.own.less (fun k _ _ e => Or.inl e), h.row, h.zs⟩
theorem OwnY.stay (h : OwnY w w0 w1 p Z b o v ys d) (k : Keeps w1 w2 (fun _ => False)) : OwnY w w0 w2 p Z b o v ys d :=
  ⟨h.own.stay k, row_kept h.row (fun b hb => k.block b (h.lt b (Or.inl (Or.inr hb))) id), fun i hi => ⟨(h.zs i hi).1, Nat.lt_of_lt_of_le (h.zs i hi).2.1 k.size, (h.zs i hi).2.2⟩, (k.block b (heap_lt h.blk) id).trans h.blk, fun i hi => (k.block i (h.zs i hi).2.1 id).trans (h.st i hi)⟩
theorem OwnY.turned (h : OwnY w w0 w1 p Z b o v ys d) (ho : Own w w2 p (fun k => (Z k ∨ v.ownBlock = some k) ∨ k = b) d') (k : Keeps w1 w2 (fun k => (w.heap.size ≤ k ∧ ¬ ((Z k ∨ v.ownBlock = some k) ∨ k = b)) ∧ k < w1.heap.size)) : OwnY w w0 w2 p Z b o v ys d' :=
  ⟨ho, row_kept h.row (fun b hb => k.block b (h.lt b (Or.inl (Or.inr hb))) (fun e => e.1.2 (Or.inl (Or.inr hb)))), fun i hi => ⟨(h.zs i hi).1, Nat.lt_of_lt_of_le (h.zs i hi).2.1 k.size, (h.zs i hi).2.2⟩, (k.block b (heap_lt h.blk) (fun e => e.1.2 (Or.inr rfl))).trans h.blk, fun i hi => (k.block i (h.zs i hi).2.1 (fun e => e.1.2 (Or.inl (Or.inl hi)))).trans (h.st i hi)⟩
end

def ActPostZ (w w1 : World) (p : Nat) (Z : Nat → Prop) (d : AD) (N Fr : Int) (u : UInt8) (ys : List Int) (e : Ending) (w' : World) : Prop :=
  ∃ g cap d' z, e = .returned (.slice (some ⟨g, 0, none⟩) (ys.length + 1) cap) ∧ OwnZ w w' p Z (.slice (some ⟨g, 0, none⟩) (ys.length + 1) cap) (ys ++ [z]) d' ∧ ActD d N Fr u ys d' z ∧ ∀ k, Z k → w'.heap[k]? = w1.heap[k]?

set_option maxRecDepth 100000 in
set_option maxHeartbeats 4000000 in
theorem actZ_alloc {w w1 : World} {p : Nat} {Z : Nat → Prop} {v : Value} {ys : List Int} {d : AD} (h : OwnZ w w1 p Z v ys d) (hF : d.Fine) (hW : d.Well) (N : Int) (u : UInt8) (hn : ys.length ≤ 17592186044000) :
    Calls Try.prog 10 #[.pointer (some ⟨p, 0, none⟩), .agg #[.int .i64 N, .int .i64 0], v, .int .u8 (u.toNat : Int)] w1 fun e w' => ActPostZ w w1 p Z d N 0 u ys e w' := by
  have hS := OwnY.of h (.cells #[.int .i64 N, .int .i64 0] 30)
  have hA := own_alloc_any hS.own hF hW N
  have hnum := fun x W => num_any x W
  obtain ⟨c0, c1⟩ := two_cells hS.blk
  clear h
  go_enter Try.func10, Try.ntmps10
  go_wp2_with fail
  refine hA.mono ?_
  clear hA
  rintro e W2 (⟨h0, rfl, k2⟩ | ⟨h0, n1, n2, n3, rfl, hT⟩)
  · have hS2 := hS.stay k2
    obtain ⟨g, cp, w4, hap, hR2, hst⟩ := hS2.back.more (-(refE d [N])) hn
    have hST : Hid (∀ k, Z k → w4.heap[k]? = w1.heap[k]?) := fun k hk => (hst k hk).trans (hS2.st k hk)
    clear hst
    have hx1 : (refE d [N] != 0) = true := by simpa using h0
    have hfin : Hid (ActD d N 0 u ys d (-(refE d [N]))) := by
      show ActD d N 0 u ys d (-(refE d [N]))
      unfold ActD
      rw [if_pos rfl]
      exact Or.inl ⟨h0, rfl, rfl⟩
    have hsm : IntKind.i64.wrap (-(refE d [N])) = -(refE d [N]) := by
      have : refE d [N] = 0 ∨ refE d [N] = 21 ∨ refE d [N] = 22 := by
        unfold refE
        by_cases q1 : allOne [N]
        · rw [if_pos q1]
          by_cases q2 : fitsIn ((d.limit : Int) - (d.used : Int)) [N] = true
          · rw [if_pos q2]; exact Or.inl rfl
          · rw [if_neg q2]; exact Or.inr (Or.inr rfl)
        · rw [if_neg q1]; exact Or.inr (Or.inl rfl)
      rcases this with e | e | e <;> rw [e] <;> decide
    generalize refE d [N] = x at *
    clear h0 hS hS2 k2 c0 c1
    go_wp2_with fail
    refine (hnum _ _).mono ?_
    rintro e w5 ⟨rfl, rfl⟩
    go_wp2_with fail
    refine (hnum _ _).mono ?_
    rintro e w5 ⟨rfl, rfl⟩
    go_wp2_with (first | (at_builtin; have _t := hap; refine app_run _ rfl (.tmp 25) (.tmp 29) 28 rfl rfl rfl hap ?_; clear hap))
    go_ret
    exact ⟨g, cp, d, _, rfl, hR2, hfin.out, hST.out⟩
  · obtain ⟨m, rfl⟩ := Int.eq_ofNat_of_zero_le (show 0 ≤ N by omega)
    have hm : ((m : Int)).toNat = m := by simp
    rw [hm] at hT n3
    have hcl := class_le m (by omega) (by omega)
    have hok := listOK.fine (classN m) hW hF (class_in m (by omega) (by omega)) (by omega) n3
    have hS2 := hS.turned (hS.own.turn hT hS.lt) hT.2
    have hC := fun W => class_yes m W (by omega) (by omega)
    have hFi := own_fill hS2.own hok.1 ((listT d (classN m)).1 : Int) (classN m : Int) u (fitsI_mk (by omega) (by omega)) (fitsI_mk (by omega) (by omega))
    obtain ⟨c2, c3⟩ := two_cells hS2.blk
    have hfin : Hid (ActD d (m : Int) 0 u ys (fillR (listT d (classN m)).2 ((listT d (classN m)).1 : Int) (classN m : Int) u).2 ((listT d (classN m)).1 : Int)) := by
      show ActD _ _ _ _ _ _ _
      unfold ActD
      rw [if_pos rfl, hm]
      exact Or.inr ⟨h0, rfl, rfl⟩
    rw [hm]
    clear hok hcl hT n3 n1 n2 h0 hS c0 c1
    generalize (fillR (listT d (classN m)).2 ((listT d (classN m)).1 : Int) (classN m : Int) u).1 = er at *
    generalize (fillR (listT d (classN m)).2 ((listT d (classN m)).1 : Int) (classN m : Int) u).2 = d3 at *
    generalize (listT d (classN m)).1 = q at *
    generalize (listT d (classN m)).2 = d2 at *
    go_wp2_with fail
    refine (hnum _ _).mono ?_
    rintro e w5 ⟨rfl, rfl⟩
    go_wp2_with fail
    refine (hC _).mono ?_
    rintro e w5 ⟨rfl, rfl⟩
    go_wp2_with fail
    refine hFi.mono ?_
    rintro e W3 ⟨rfl, hT3⟩
    have hS3 := hS2.turned (hS2.own.turn hT3 hS2.lt) hT3.2
    obtain ⟨g, cp, w4, hap, hR2, hst⟩ := hS3.back.more (q : Int) hn
    have hST : Hid (∀ k, Z k → w4.heap[k]? = w1.heap[k]?) := fun k hk => (hst k hk).trans (hS3.st k hk)
    clear hst
    clear hS2 hS3 hFi hT3 c2 c3 hC
    go_wp2_with (first | (at_builtin; have _t := hap; refine app_run _ rfl (.tmp 38) (.tmp 40) 28 rfl rfl rfl hap ?_; clear hap))
    go_ret
    exact ⟨g, cp, d3, _, rfl, hR2, hfin.out, hST.out⟩
end Go.Proofs.Yteglefnfnkgpcaa
/-
  act that frees, beside blocks that stand.
-/
namespace Go.Proofs.Yteglefnfnkgpcaa
open Go.RowKit Go.Shelf
set_option linter.unusedVariables false

set_option maxRecDepth 100000 in
set_option maxHeartbeats 4000000 in
theorem actZ_free {w w1 : World} {p : Nat} {Z : Nat → Prop} {v : Value} {ys : List Int} {d : AD} (h : OwnZ w w1 p Z v ys d) (hF : d.Fine) (N Fr : Int) (u : UInt8) (hfr : fitsI Fr) (hfr0 : Fr ≠ 0) (hys : ∀ z ∈ ys, fitsI z) (hn : ys.length ≤ 17592186044000) :
    Calls Try.prog 10 #[.pointer (some ⟨p, 0, none⟩), .agg #[.int .i64 N, .int .i64 Fr], v, .int .u8 (u.toNat : Int)] w1 fun e w' => ActPostZ w w1 p Z d N Fr u ys e w' := by
  have hS := OwnY.of h (.cells #[.int .i64 N, .int .i64 Fr] 30)
  have hnum := fun x W => num_any x W
  obtain ⟨c0, c1⟩ := two_cells hS.blk
  have hb0 : (Fr == 0) = false := by simp [hfr0]
  have hAD : Hid (∀ {d' : AD} {z y : Int}, y = (if 0 < Fr ∧ Fr ≤ (ys.length : Int) then at0 ys (Fr - 1).toNat else Fr) → ((d.lv y = none ∧ z = -23 ∧ d' = d) ∨ (∃ s, d.lv y = some s ∧ z = 0 ∧ Gone d y d')) → ActD d N Fr u ys d' z) := fun hy hz => by
    unfold ActD
    rw [if_neg hfr0, ← hy]
    exact hz
  obtain ⟨so, cap, rfl, hrow, hlt⟩ := row_of_own hS.row
  by_cases hp : 0 < Fr
  · by_cases hle : Fr ≤ (ys.length : Int)
    · obtain ⟨k, hk⟩ : ∃ k : Nat, Fr = (k : Int) + 1 := ⟨(Fr - 1).toNat, by omega⟩
      have hkl : k < ys.length := by omega
      obtain ⟨bb, rfl, hcell⟩ := hrow.at hkl
      have hy : at0 ys k = (if 0 < Fr ∧ Fr ≤ (ys.length : Int) then at0 ys (Fr - 1).toNat else Fr) := by
        rw [if_pos ⟨hp, hle⟩]
        congr 1
        omega
      have hfy : fitsI (at0 ys k) := by
        have e : at0 ys k = ys[k] := by simp [at0, hkl]
        rw [e]
        exact hys _ (List.getElem_mem hkl)
      have hFr := own_free_any hS.own hF (at0 ys k) hfy hS.lt
      obtain ⟨y, hye⟩ : ∃ y, at0 ys k = y := ⟨_, rfl⟩
      rw [hye] at hcell hFr hy hfy
      clear hye
      have hkl' : (k : Int) < (ys.length : Int) := by omega
      have hkl2 : (k : Int) + 1 ≤ (ys.length : Int) := by omega
      subst hk
      replace hy := hide hy
      go_enter Try.func10, Try.ntmps10
      go_wp2_with fail
      rw [show w1.heap.size + 1 = (w1.alloc (.cells #[.int .i64 N, .int .i64 ((k : Int) + 1)] 30)).heap.size by simp]
      (with_reducible refine hFr.mono ?_)
      rintro e W2 (⟨s, d', hl, rfl, hg, ho, hk⟩ | ⟨hl, rfl, ho, hk⟩)
      · have hS2 := hS.turned ho hk
        obtain ⟨g, cp, w4, hap, hR2, hst⟩ := hS2.back.more 0 hn
        have hST : Hid (∀ k, Z k → w4.heap[k]? = w1.heap[k]?) := fun k hk => (hst k hk).trans (hS2.st k hk)
        clear hst
        have hfin : Hid (ActD d N _ u ys d' 0) := hAD.out hy.out (Or.inr ⟨s, hl, rfl, hg⟩)
        clear hS2 hS ho hk hFr hAD hrow hlt
        go_wp2_with fail
        refine (hnum _ _).mono ?_
        rintro e w5 ⟨rfl, rfl⟩
        go_wp2_with (first | (at_builtin; have _t := hap; refine app_run _ rfl (.tmp 60) (.tmp 67) 28 rfl rfl rfl hap ?_; clear hap))
        go_ret
        exact ⟨g, cp, d', _, rfl, hR2, hfin.out, hST.out⟩
      · have hS2 := hS.stay hk
        obtain ⟨g, cp, w4, hap, hR2, hst⟩ := hS2.back.more (-23) hn
        have hST : Hid (∀ k, Z k → w4.heap[k]? = w1.heap[k]?) := fun k hk => (hst k hk).trans (hS2.st k hk)
        clear hst
        have hfin : Hid (ActD d N _ u ys d (-23)) := hAD.out hy.out (Or.inl ⟨hl, rfl, rfl⟩)
        clear hS2 hS ho hk hFr hAD hrow hlt
        go_wp2_with fail
        refine (hnum _ _).mono ?_
        rintro e w5 ⟨rfl, rfl⟩
        go_wp2_with (first | (at_builtin; have _t := hap; refine app_run _ rfl (.tmp 60) (.tmp 67) 28 rfl rfl rfl hap ?_; clear hap))
        go_ret
        exact ⟨g, cp, d, _, rfl, hR2, hfin.out, hST.out⟩
    · have hy : Fr = (if 0 < Fr ∧ Fr ≤ (ys.length : Int) then at0 ys (Fr - 1).toNat else Fr) := by
        rw [if_neg (fun e => hle e.2)]
      have hFr := own_free_any hS.own hF Fr hfr hS.lt
      replace hy := hide hy
      go_enter Try.func10, Try.ntmps10
      go_wp2_with fail
      rw [show w1.heap.size + 1 = (w1.alloc (.cells #[.int .i64 N, .int .i64 Fr] 30)).heap.size by simp]
      (with_reducible refine hFr.mono ?_)
      rintro e W2 (⟨s, d', hl, rfl, hg, ho, hk⟩ | ⟨hl, rfl, ho, hk⟩)
      · have hS2 := hS.turned ho hk
        obtain ⟨g, cp, w4, hap, hR2, hst⟩ := hS2.back.more 0 hn
        have hST : Hid (∀ k, Z k → w4.heap[k]? = w1.heap[k]?) := fun k hk => (hst k hk).trans (hS2.st k hk)
        clear hst
        have hfin : Hid (ActD d N _ u ys d' 0) := hAD.out hy.out (Or.inr ⟨s, hl, rfl, hg⟩)
        clear hS2 hS ho hk hFr hAD hrow hlt
        go_wp2_with fail
        refine (hnum _ _).mono ?_
        rintro e w5 ⟨rfl, rfl⟩
        go_wp2_with (first | (at_builtin; have _t := hap; refine app_run _ rfl (.tmp 60) (.tmp 67) 28 rfl rfl rfl hap ?_; clear hap))
        go_ret
        exact ⟨g, cp, d', _, rfl, hR2, hfin.out, hST.out⟩
      · have hS2 := hS.stay hk
        obtain ⟨g, cp, w4, hap, hR2, hst⟩ := hS2.back.more (-23) hn
        have hST : Hid (∀ k, Z k → w4.heap[k]? = w1.heap[k]?) := fun k hk => (hst k hk).trans (hS2.st k hk)
        clear hst
        have hfin : Hid (ActD d N _ u ys d (-23)) := hAD.out hy.out (Or.inl ⟨hl, rfl, rfl⟩)
        clear hS2 hS ho hk hFr hAD hrow hlt
        go_wp2_with fail
        refine (hnum _ _).mono ?_
        rintro e w5 ⟨rfl, rfl⟩
        go_wp2_with (first | (at_builtin; have _t := hap; refine app_run _ rfl (.tmp 60) (.tmp 67) 28 rfl rfl rfl hap ?_; clear hap))
        go_ret
        exact ⟨g, cp, d, _, rfl, hR2, hfin.out, hST.out⟩
  · have hy : Fr = (if 0 < Fr ∧ Fr ≤ (ys.length : Int) then at0 ys (Fr - 1).toNat else Fr) := by
      rw [if_neg (fun e => hp e.1)]
    have hFr := own_free_any hS.own hF Fr hfr hS.lt
    replace hy := hide hy
    go_enter Try.func10, Try.ntmps10
    go_wp2_with fail
    rw [show w1.heap.size + 1 = (w1.alloc (.cells #[.int .i64 N, .int .i64 Fr] 30)).heap.size by simp]
    (with_reducible refine hFr.mono ?_)
    rintro e W2 (⟨s, d', hl, rfl, hg, ho, hk⟩ | ⟨hl, rfl, ho, hk⟩)
    · have hS2 := hS.turned ho hk
      obtain ⟨g, cp, w4, hap, hR2, hst⟩ := hS2.back.more 0 hn
      have hST : Hid (∀ k, Z k → w4.heap[k]? = w1.heap[k]?) := fun k hk => (hst k hk).trans (hS2.st k hk)
      clear hst
      have hfin : Hid (ActD d N _ u ys d' 0) := hAD.out hy.out (Or.inr ⟨s, hl, rfl, hg⟩)
      clear hS2 hS ho hk hFr hAD hrow hlt
      go_wp2_with fail
      refine (hnum _ _).mono ?_
      rintro e w5 ⟨rfl, rfl⟩
      go_wp2_with (first | (at_builtin; have _t := hap; refine app_run _ rfl (.tmp 60) (.tmp 67) 28 rfl rfl rfl hap ?_; clear hap))
      go_ret
      exact ⟨g, cp, d', _, rfl, hR2, hfin.out, hST.out⟩
    · have hS2 := hS.stay hk
      obtain ⟨g, cp, w4, hap, hR2, hst⟩ := hS2.back.more (-23) hn
      have hST : Hid (∀ k, Z k → w4.heap[k]? = w1.heap[k]?) := fun k hk => (hst k hk).trans (hS2.st k hk)
      clear hst
      have hfin : Hid (ActD d N _ u ys d (-23)) := hAD.out hy.out (Or.inl ⟨hl, rfl, rfl⟩)
      clear hS2 hS ho hk hFr hAD hrow hlt
      go_wp2_with fail
      refine (hnum _ _).mono ?_
      rintro e w5 ⟨rfl, rfl⟩
      go_wp2_with (first | (at_builtin; have _t := hap; refine app_run _ rfl (.tmp 60) (.tmp 67) 28 rfl rfl rfl hap ?_; clear hap))
      go_ret
      exact ⟨g, cp, d, _, rfl, hR2, hfin.out, hST.out⟩
end Go.Proofs.Yteglefnfnkgpcaa
/-
  Free of none; Size.
-/
namespace Go.Proofs.Yteglefnfnkgpcaa
open Go.RowKit Go.Shelf

set_option maxRecDepth 100000 in
set_option maxHeartbeats 4000000 in
theorem free_none {w : World} {p : Nat} (a : Option Addr) (cap : Nat) :
    Calls Try.prog 16 #[.pointer (some ⟨p, 0, none⟩), .slice a 0 cap] w fun e w' => e = .returned (.int .i64 0) ∧ Keeps w w' (fun _ => False) := by
  have hV := values_any a 0 cap w
  have hS : ∀ W, W = w.alloc (.cells #[.slice a 0 cap] 28) → Calls Try.prog 35 #[.func (.func 55) #[] #[.pointer (some ⟨w.heap.size, 0, none⟩)]] W fun e w' => e = .returned (.slice none 0 0) ∧ Keeps W w' (fun _ => False) := fun W hW => by
    subst hW
    refine (sorted_any w.heap.size a cap [] (by simp) _ (by simp) (by simp only [World.cell?, heap_alloc_new]; simp) (Or.inl rfl)).mono ?_
    rintro e w' ⟨v, rfl, _, hv, k⟩
    have := hv.2 (by simp [rising])
    subst this
    exact ⟨rfl, k⟩
  have kA : Keeps w (w.alloc (.cells #[.slice a 0 cap] 28)) (fun _ => False) := (Keeps.refl _ _).alloc _
  go_enter Try.func16, Try.ntmps16
  go_wp2_with fail
  refine hV.mono ?_
  rintro e wv ⟨rfl, hwv⟩
  clear hV
  have hS := hS wv hwv
  rw [← hwv] at kA
  clear hwv
  go_wp2_with fail
  refine hS.mono ?_
  rintro e w1 ⟨rfl, k1⟩
  clear hS
  have kw : Keeps w w1 (fun _ => False) := kA.trans k1 (fun _ _ e => e)
  clear k1 kA
  go_wp2_with fail
  go_loopw [16] (fun vi wr => vi = .int .i64 0 ∧ w1 = wr) (fun vi _ => 0)
  case atStart => exact ⟨rfl, rfl⟩
  case round =>
    obtain ⟨rfl, rfl⟩ := hrel
    go_wp2_with fail
    go_loopw [44] (fun vk wq => vk = .int .i64 0 ∧ w1 = wq) (fun vk _ => 0)
    case atStart => exact ⟨rfl, rfl⟩
    case round =>
      obtain ⟨rfl, rfl⟩ := hrel
      go_wp2_with fail
      go_ret
      exact ⟨rfl, kw⟩
end Go.Proofs.Yteglefnfnkgpcaa
