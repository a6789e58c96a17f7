import Derived.Test.YteglefnfnkgpcaaRn10
/-
  A book beside an arena's data: the same blocks, each with its mark.
-/
namespace Go.Proofs.Yteglefnfnkgpcaa
open Go.RowKit Go.Shelf
set_option linter.unusedVariables false

theorem tiles_rise : ∀ {s : Nat} {L : List (Nat × Nat)} {e : Nat}, Tiles s L e → (∀ x ∈ L, s ≤ x.1) ∧ L.Pairwise (fun x y => x.1 + x.2 ≤ y.1)
  | _, [], _, _ => ⟨fun x h => (by cases h), List.Pairwise.nil⟩
  | s, x :: r, e, h => by
    obtain ⟨h1, h2, h3⟩ := h
    obtain ⟨k1, k2⟩ := tiles_rise h3
    refine ⟨fun y hy => ?_, List.Pairwise.cons (fun y hy => ?_) k2⟩
    · rcases List.mem_cons.1 hy with rfl | hy
      · omega
      · have := k1 y hy
        omega
    · have := k1 y hy
      omega
theorem Tiles.pos : ∀ {s : Nat} {L : List (Nat × Nat)} {e : Nat}, Tiles s L e → ∀ x ∈ L, 0 < x.2
  | _, [], _, _, x, hx => by cases hx
  | s, y :: r, e, h, x, hx => by
    obtain ⟨h1, h2, h3⟩ := h
    rcases List.mem_cons.1 hx with rfl | hx
    · exact h2
    · exact Tiles.pos h3 x hx
theorem lives_rise {d : AD} (hF : d.Fine) : (livesOf d.L d.lv).Pairwise (fun x y => x.1 + x.2 ≤ y.1) := List.Pairwise.sublist List.filter_sublist (tiles_rise hF.tiles).2
theorem lives_next {d : AD} (hF : d.Fine) (i : Nat) (h : i + 1 < (livesOf d.L d.lv).length) : (livesOf d.L d.lv)[i].1 + (livesOf d.L d.lv)[i].2 ≤ (livesOf d.L d.lv)[i + 1].1 :=
  List.pairwise_iff_getElem.1 (lives_rise hF) i (i + 1) (by omega) h (by omega)

theorem flat_cons (x : Nat × Nat) (l : List (Nat × Nat)) : flatOf (x :: l) = (x.1 : Int) :: (x.2 : Int) :: flatOf l := rfl
theorem flat_at : ∀ (l : List (Nat × Nat)) (i : Nat) (h : i < l.length), (flatOf l)[2 * i]? = some ((l[i].1 : Nat) : Int) ∧ (flatOf l)[2 * i + 1]? = some ((l[i].2 : Nat) : Int)
  | [], i, h => by simp at h
  | x :: l, 0, h => ⟨rfl, rfl⟩
  | x :: l, i + 1, h => by
    have e := flat_at l i (by simpa using h)
    rw [flat_cons]
    have e1 : 2 * (i + 1) = 2 * i + 1 + 1 := by omega
    rw [e1]
    simpa using e

theorem liveSum_lives (L : List (Nat × Nat)) (f : Int → Option Int) : liveSum L f = ((livesOf L f).map (·.2)).sum := by
  induction L with
  | nil => rfl
  | cons x r ih =>
    rw [liveSum_cons, ih]
    unfold livesOf
    rw [List.filter_cons]
    cases (f (x.1 : Int)).isSome <;> simp

/-- The book tells the live blocks, and the bytes of each are its mark. -/
structure Book (d : AD) (L : List (Nat × Nat × Nat)) : Prop where
  perm : (L.map fun h => (h.1, h.2.1)).Perm (livesOf d.L d.lv)
  bytes : ∀ h ∈ L, ∀ k, k < h.2.1 → d.bs[h.1 + k]? = some (UInt8.ofNat h.2.2)
  mark : ∀ h ∈ L, h.2.2 < 256
theorem Book.len {d : AD} {L : List (Nat × Nat × Nat)} (h : Book d L) : (livesOf d.L d.lv).length = L.length := by
  rw [← h.perm.length_eq, List.length_map]
theorem Book.used {d : AD} {L : List (Nat × Nat × Nat)} (h : Book d L) (hF : d.Fine) : d.used = sumH L := by
  rw [hF.sum, liveSum_lives, ← (h.perm.map (·.2)).sum_nat, List.map_map]
  rfl
theorem Book.found {d : AD} {L : List (Nat × Nat × Nat)} (h : Book d L) {x : Nat × Nat} (hx : x ∈ livesOf d.L d.lv) : ∃ j, ∃ hj : j < L.length, L[j].1 = x.1 ∧ L[j].2.1 = x.2 := by
  obtain ⟨y, hy, rfl⟩ := List.mem_map.1 (h.perm.mem_iff.2 hx)
  obtain ⟨j, hj, rfl⟩ := List.getElem_of_mem hy
  exact ⟨j, hj, rfl, rfl⟩
theorem Book.live {d : AD} {L : List (Nat × Nat × Nat)} (h : Book d L) (hF : d.Fine) {y : Nat × Nat × Nat} (hy : y ∈ L) : (y.1, y.2.1) ∈ d.L ∧ (d.lv (y.1 : Int)).isSome = true := by
  have := h.perm.mem_iff.1 (List.mem_map.2 ⟨y, hy, rfl⟩)
  exact List.mem_filter.1 this
theorem Book.none {d : AD} (h : livesOf d.L d.lv = []) : Book d [] := ⟨by rw [h]; exact List.Perm.nil, fun _ h => (by cases h), fun _ h => (by cases h)⟩
theorem Book.lv {d : AD} {L : List (Nat × Nat × Nat)} (h : Book d L) (hF : d.Fine) {y : Nat × Nat × Nat} (hy : y ∈ L) : d.lv (y.1 : Int) = some (y.2.1 : Int) := by
  obtain ⟨h1, h2⟩ := h.live hF hy
  obtain ⟨s, hs⟩ := Option.isSome_iff_exists.1 h2
  obtain ⟨o, n, ho, rfl, hm⟩ := hF.live _ _ hs
  have ho' : y.1 = o := by omega
  subst ho'
  have hr := (tiles_rise hF.tiles).2
  have : (y.1, n) = (y.1, y.2.1) := by
    refine Classical.byContradiction fun hne => ?_
    have hp := hF.tiles.pos
    rcases List.Pairwise.forall_of_forall_of_flip (R := fun x z => x ≠ z → x.1 + x.2 ≤ z.1 ∨ z.1 + z.2 ≤ x.1) (fun x hx hx' => absurd rfl hx') (hr.imp (fun h _ => Or.inl h)) (hr.imp (fun h _ => Or.inr h)) hm h1 hne with h | h
    · have := hp _ hm
      simp at h this
      omega
    · have := hp _ h1
      simp at h this
      omega
  rw [hs]
  injection this with _ e
  rw [e]
theorem Book.read {d : AD} {L : List (Nat × Nat × Nat)} (h : Book d L) (hF : d.Fine) {y : Nat × Nat × Nat} (hy : y ∈ L) : readV d (y.1 : Int) (y.2.1 : Int) = (strOf (same y.2.1 (UInt8.ofNat y.2.2)), 0) := by
  have hg : d.goodB (y.1 : Int) (y.2.1 : Int) = true := AD.goodB_mk (h.live hF hy).1 (h.lv hF hy) (by omega) (by simp) (by simp)
  have e : d.span (y.1 : Int) (y.2.1 : Int) = same y.2.1 (UInt8.ofNat y.2.2) := by
    unfold AD.span same
    refine List.ext_getElem? fun k => ?_
    rw [List.getElem?_take, List.getElem?_drop, List.getElem?_replicate]
    by_cases hk : k < y.2.1
    · simp [hk, h.bytes y hy k hk]
    · simp [hk]
  unfold readV
  rw [if_pos hg, e]
end Go.Proofs.Yteglefnfnkgpcaa
/-
  The law's holds: a book that tells the arena's live blocks.
-/
namespace Go.Proofs.Yteglefnfnkgpcaa
open Go.RowKit Go.Shelf
set_option linter.unusedVariables false

theorem row_ints {W : World} {base : Nat} {v : Value} {zs : List Int} (h : W.ownsRow base 3 1 v zs.length (zs.map (Value.int .i64))) : ∃ a cap, v = .slice a zs.length cap ∧ ∀ j (hj : j < zs.length), ∃ g, a = some ⟨g, 0, none⟩ ∧ W.cell? ⟨g, j, none⟩ = some (.int .i64 zs[j]) := by
  rcases h.2 with ⟨rfl, h0⟩ | ⟨g, cap, cur, rfl, hb, hg, h1, h2, h3, h4⟩
  · exact ⟨none, 0, by rw [h0], fun k hk => by omega⟩
  · refine ⟨some ⟨g, 0, none⟩, cap, rfl, fun k hk => ⟨g, rfl, ?_⟩⟩
    have := h.cellAt k (by omega)
    rw [this]
    simp [hk]
theorem HeldsAt.keeps {w w' : World} {a : Option Addr} {L : List (Nat × Nat × Nat)} (h : HeldsAt w a L) (k : Keeps w w' (fun _ => False)) : HeldsAt w' a L := by
  rcases h with h | ⟨b, o, h1, h2⟩
  · exact .inl h
  · exact .inr ⟨b, o, h1, fun i hi => ⟨k.cellK (h2 i hi).1, k.cellK (h2 i hi).2.1, k.cellK (h2 i hi).2.2⟩⟩
theorem tiles_in : ∀ {s : Nat} {L : List (Nat × Nat)} {e : Nat}, Tiles s L e → ∀ x ∈ L, x.1 + x.2 ≤ e
  | _, [], _, _, x, hx => by cases hx
  | s, y :: r, e, h, x, hx => by
    obtain ⟨h1, h2, h3⟩ := h
    rcases List.mem_cons.1 hx with rfl | hx
    · have := tiles_le h3
      omega
    · exact tiles_in h3 x hx
theorem bound_of {d : AD} (hF : d.Fine) {x : Nat × Nat} (hx : x ∈ d.L) : x.1 + x.2 ≤ 134217728 := Nat.le_trans (tiles_in hF.tiles x hx) hF.most
theorem fits_of {n : Nat} (h : n ≤ 134217728) : fitsI (n : Int) := fitsI_mk (by omega) (by omega)
theorem cell_new3 (W : World) (v1 v2 v3 : Value) (t : TypeId) : (W.alloc (.cells #[v1, v2, v3] t)).cell? ⟨W.heap.size, 0, none⟩ = some v1 ∧ (W.alloc (.cells #[v1, v2, v3] t)).cell? ⟨W.heap.size, 1, none⟩ = some v2 ∧ (W.alloc (.cells #[v1, v2, v3] t)).cell? ⟨W.heap.size, 2, none⟩ = some v3 := by
  have h : (W.alloc (.cells #[v1, v2, v3] t)).heap[W.heap.size]? = some (.cells #[v1, v2, v3] t) := World.alloc_heap_new W _
  generalize W.alloc (.cells #[v1, v2, v3] t) = W1 at *
  simp [World.cell?, h]
def eqH (x : Nat × Nat) (h : Nat × Nat × Nat) : Bool := (x.1 == h.1) && (x.2 == h.2.1)
theorem any_take (x : Nat × Nat) (L : List (Nat × Nat × Nat)) (j : Nat) (h : j < L.length) : (L.take (j + 1)).any (eqH x) = ((L.take j).any (eqH x) || eqH x L[j]) := by
  rw [← List.take_append_getElem h, List.any_append]
  simp

set_option maxRecDepth 100000 in
set_option maxHeartbeats 4000000 in
theorem holds_true {p : Nat} {X : Nat → Prop} {d : AD} {L : List (Nat × Nat × Nat)} (a : Option Addr) (ca : Nat) (w : World) (hA : Arena w p X d) (hF : d.Fine) (hlen : d.L.length ≤ 134217728) (hB : Book d L) (h1 : HeldsAt w a L) (hl : L.length ≤ 134217728) :
    Calls Try.prog 28 #[.pointer (some ⟨p, 0, none⟩), .slice a L.length ca] w fun e w' => e = .returned (.bool true) ∧ Keeps w w' (fun _ => False) := by
  have hbl := fun W (k : Arena W p X d) => list_any p L.length W k hF hlen (by rw [hB.len]; exact Nat.le_refl _) hl
  have hlv : ∀ W, Arena W p X d → Calls Try.prog 19 #[.pointer (some ⟨p, 0, none⟩)] W fun e w' => e = .returned (.int .i64 (sumH L : Int)) ∧ w' = W := fun W k => by
    obtain ⟨c, hc, _⟩ := k
    rw [← hB.used hF]
    exact live_any hc
  have hsum : ∀ W, HeldsAt W a L → Calls Try.prog 43 #[.slice a L.length ca] W fun e w' => e = .returned (.int .i64 (sumH L : Int)) ∧ Keeps W w' (fun _ => False) := fun W k => sum_any a ca L W (by omega) (by rw [← hB.used hF]; have := hF.use; have := hF.lim; omega) k
  have hread : ∀ y ∈ L, ∀ W, Arena W p X d → Calls Try.prog 39 #[.pointer (some ⟨p, 0, none⟩), .int .i64 (y.1 : Int), .int .i64 (y.2.1 : Int)] W fun e w' => e = .returned (.tuple #[.string (strOf (same y.2.1 (UInt8.ofNat y.2.2))), .int .i64 0]) ∧ Keeps W w' (fun _ => False) := fun y hy W k => by
    obtain ⟨c, hc, _⟩ := k
    have hr := hB.read hF hy
    have hb := bound_of hF (hB.live hF hy).1
    have := aread_any hc hF (y.1 : Int) (y.2.1 : Int) (fits_of (by omega)) (fits_of (by omega))
    rw [hr] at this
    exact this
  have hrep : ∀ y ∈ L, ∀ W, Calls Try.prog 45 #[.int .u8 (y.2.2 : Int), .int .i64 (y.2.1 : Int)] W fun e w' => e = .returned (.string (strOf (same y.2.1 (UInt8.ofNat y.2.2)))) ∧ Keeps W w' (fun _ => False) := fun y hy W => by
    have hb := bound_of hF (hB.live hF hy).1
    have hm := hB.mark y hy
    have := repeat_any (UInt8.ofNat y.2.2) y.2.1 W (by omega)
    rw [show (UInt8.ofNat y.2.2).toNat = y.2.2 from by simp [UInt8.toNat_ofNat']; omega] at this
    exact this
  have hfl : (flatOf (livesOf d.L d.lv)).length = 2 * L.length := by rw [flatOf_length, hB.len]
  go_enter Try.func28, Try.ntmps28
  go_wp2_with fail
  refine (hbl _ hA).mono ?_
  rintro e W1 ⟨v, rfl, hrow, hb⟩
  have kb : Keeps w W1 (fun _ => False) := Keeps.ofBelow' hb
  obtain ⟨ga, cap, rfl, hz⟩ := row_ints hrow
  rw [hfl] at *
  clear hrow hb hbl
  have hA1 : Arena W1 p X d := hA.keeps kb (fun _ _ _ e => e)
  have h11 : HeldsAt W1 a L := h1.keeps kb
  have hM : ∀ k (h : k < L.length), ∃ g x1 x2 : Nat, ga = some ⟨g, 0, none⟩ ∧ W1.cell? ⟨g, 2 * k, none⟩ = some (.int .i64 (x1 : Int)) ∧ W1.cell? ⟨g, 2 * k + 1, none⟩ = some (.int .i64 (x2 : Int)) ∧ L.any (eqH (x1, x2)) = true ∧ x1 + x2 ≤ 134217728 ∧ (∀ j, j + 1 = k → ∃ y1 y2 : Nat, W1.cell? ⟨g, 2 * j, none⟩ = some (.int .i64 (y1 : Int)) ∧ W1.cell? ⟨g, 2 * j + 1, none⟩ = some (.int .i64 (y2 : Int)) ∧ y1 + y2 ≤ x1) := by
    intro k hk
    have hML := hB.len
    have hkM : k < (livesOf d.L d.lv).length := by omega
    have hFL := flatOf_length (livesOf d.L d.lv)
    have get : ∀ i (hi : i < (livesOf d.L d.lv).length), ∃ g, ga = some ⟨g, 0, none⟩ ∧ W1.cell? ⟨g, 2 * i, none⟩ = some (.int .i64 ((livesOf d.L d.lv)[i].1 : Int)) ∧ W1.cell? ⟨g, 2 * i + 1, none⟩ = some (.int .i64 ((livesOf d.L d.lv)[i].2 : Int)) := by
      intro i hi
      obtain ⟨e1, e2⟩ := flat_at _ i hi
      obtain ⟨g, hg, c1⟩ := hz (2 * i) (by omega)
      obtain ⟨g', hg', c2⟩ := hz (2 * i + 1) (by omega)
      rw [hg] at hg'
      cases hg'
      rw [List.getElem?_eq_getElem (by omega)] at e1 e2
      exact ⟨g, hg, by rw [c1, Option.some.inj e1], by rw [c2, Option.some.inj e2]⟩
    obtain ⟨g, hg, c1, c2⟩ := get k hkM
    have hmem := List.getElem_mem hkM
    obtain ⟨j, hj, j1, j2⟩ := hB.found hmem
    refine ⟨g, (livesOf d.L d.lv)[k].1, (livesOf d.L d.lv)[k].2, hg, c1, c2, ?_, bound_of hF (List.mem_filter.1 hmem).1, fun i hi => ?_⟩
    · exact List.any_eq_true.2 ⟨L[j], List.getElem_mem hj, by simp [eqH, j1, j2]⟩
    · subst hi
      obtain ⟨g', hg', f1, f2⟩ := get i (by omega)
      rw [hg] at hg'
      cases hg'
      exact ⟨_, _, f1, f2, lives_next hF i hkM⟩
  generalize hS : sumH L = S at *
  go_wp2_with fail
  refine (hlv _ hA1).mono ?_
  rintro e w' ⟨rfl, rfl⟩
  go_wp2_with fail
  refine (hsum _ h11).mono ?_
  rintro e W2 ⟨rfl, k2⟩
  have kk : Keeps w W2 (fun _ => False) := kb.trans k2 (fun _ _ e => e)
  have h12 := h11.keeps k2
  have hA2 : Arena W2 p X d := hA1.keeps k2 (fun _ _ _ e => e)
  have hM2 : ∀ k (h : k < L.length), ∃ g x1 x2 : Nat, ga = some ⟨g, 0, none⟩ ∧ W2.cell? ⟨g, 2 * k, none⟩ = some (.int .i64 (x1 : Int)) ∧ W2.cell? ⟨g, 2 * k + 1, none⟩ = some (.int .i64 (x2 : Int)) ∧ L.any (eqH (x1, x2)) = true ∧ x1 + x2 ≤ 134217728 ∧ (∀ j, j + 1 = k → ∃ y1 y2 : Nat, W2.cell? ⟨g, 2 * j, none⟩ = some (.int .i64 (y1 : Int)) ∧ W2.cell? ⟨g, 2 * j + 1, none⟩ = some (.int .i64 (y2 : Int)) ∧ y1 + y2 ≤ x1) := by
    intro k hk
    obtain ⟨g, x1, x2, e1, e2, e3, e4, e5, e6⟩ := hM k hk
    exact ⟨g, x1, x2, e1, k2.cellK e2, k2.cellK e3, e4, e5, fun j hj => by
      obtain ⟨y1, y2, f1, f2, f3⟩ := e6 j hj
      exact ⟨y1, y2, k2.cellK f1, k2.cellK f2, f3⟩⟩
  clear hM hz h11 hA1 k2 kb hsum hlv hA h1
  go_wp2_with fail
  go_loopg [6] L.length (fun g s6 wr => ∃ k : Nat, g = L.length - k ∧ k ≤ L.length ∧ s6 = .int .i64 (2 * (k : Int)) ∧ Keeps W2 wr (fun _ => False))
  case atStart => exact ⟨0, rfl, Nat.zero_le _, rfl, Keeps.refl _ _⟩
  case round =>
    obtain ⟨k, rfl, hk, rfl, kr⟩ := hrel
    by_cases hlt : k < L.length
    · obtain ⟨g, x1, x2, rfl, c1, c2, hfound, hbd, hprev⟩ := hM2 k hlt
      have hlt' : 2 * (k : Int) < 2 * (L.length : Int) := by omega
      go_wp2_with fail
      go_loopg [7, 39] L.length (fun g' s7 s39 wq => ∃ j : Nat, g' = L.length - j ∧ j ≤ L.length ∧ s39 = .int .i64 (j : Int) ∧ s7 = .bool ((L.take j).any (eqH (x1, x2))) ∧ Keeps W2 wq (fun _ => False))
      case atStart => exact ⟨0, rfl, Nat.zero_le _, rfl, rfl, kr⟩
      case round =>
        obtain ⟨j, rfl, hj, rfl, rfl, kq⟩ := hrel
        by_cases hjl : j < L.length
        · rcases h12 with rfl | ⟨b1, o1, rfl, hc⟩
          · simp at hjl
          obtain ⟨y1, y2, y3⟩ := hc j hjl
          replace y1 := kq.cellK y1
          replace y2 := kq.cellK y2
          replace y3 := kq.cellK y3
          have hjl' : (j : Int) < (L.length : Int) := by omega
          have hat : Aside (_ = _) := any_take (x1, x2) L j hjl
          have heq : Aside (eqH (x1, x2) L[j] = ((x1 == L[j].1) && (x2 == L[j].2.1))) := rfl
          clear hc hprev hfound hM2
          generalize eqH (x1, x2) L[j] = qe at *
          generalize L[j].1 = z1 at *
          generalize L[j].2.1 = z2 at *
          generalize L[j].2.2 = z3 at *
          have d1 := (kq.alloc (.cells #[.int .i64 (z1 : Int), .int .i64 (z2 : Int), .int .u8 (z3 : Int)] 62)).cellK c1
          have d2 := (kq.alloc (.cells #[.int .i64 (z1 : Int), .int .i64 (z2 : Int), .int .u8 (z3 : Int)] 62)).cellK c2
          clear c1 c2
          cases hq : (L.take j).any (eqH (x1, x2))
          · rw [hq] at hat
            clear hq
            by_cases g1 : x1 = z1
            · subst g1
              by_cases g2 : x2 = z2
              · subst g2
                go_wp2_with fail
                go_quiet (fail)
                go_wp2_with fail
                go_roundg (L.length - (j + 1))
                case measure => omega
                case rel => exact ⟨j + 1, rfl, by omega, by simp, by rw [hat.out, heq.out]; simp, ⟨kq.os, kq.tape, kq.output, (kq.alloc _).size, (kq.alloc _).block⟩⟩
              · have g2' : ((z2 : Int) == (x2 : Int)) = false := beq_eq_false_iff_ne.2 (by omega)
                go_wp2_with fail
                go_quiet (fail)
                go_wp2_with fail
                go_roundg (L.length - (j + 1))
                case measure => omega
                case rel => exact ⟨j + 1, rfl, by omega, by simp, by rw [hat.out, heq.out]; simp [g2], ⟨kq.os, kq.tape, kq.output, (kq.alloc _).size, (kq.alloc _).block⟩⟩
            · have g1' : ((z1 : Int) == (x1 : Int)) = false := beq_eq_false_iff_ne.2 (by omega)
              go_wp2_with fail
              go_quiet (fail)
              go_wp2_with fail
              go_roundg (L.length - (j + 1))
              case measure => omega
              case rel => exact ⟨j + 1, rfl, by omega, by simp, by rw [hat.out, heq.out]; simp [g1], ⟨kq.os, kq.tape, kq.output, (kq.alloc _).size, (kq.alloc _).block⟩⟩
          · rw [hq] at hat
            clear hq
            go_wp2_with fail
            go_quiet (fail)
            go_wp2_with fail
            go_roundg (L.length - (j + 1))
            case measure => omega
            case rel => exact ⟨j + 1, rfl, by omega, by simp, by rw [hat.out]; simp, ⟨kq.os, kq.tape, kq.output, (kq.alloc _).size, (kq.alloc _).block⟩⟩
        · obtain rfl : j = L.length := by omega
          have hjl' : ¬ (L.length : Int) < (L.length : Int) := by omega
          have ef : (L.take L.length).any (eqH (x1, x2)) = true := by rw [List.take_length]; exact hfound
          rw [ef]
          clear ef hfound
          replace c1 := kq.cellK c1
          replace c2 := kq.cellK c2
          by_cases hk0 : k = 0
          · subst hk0
            clear hprev
            go_wp2_with fail
            go_quiet (fail)
            go_wp2_with fail
            go_roundg (L.length - 1)
            case measure => omega
            case rel => exact ⟨1, rfl, by omega, by simp, ⟨kq.os, kq.tape, kq.output, kq.size, kq.block⟩⟩
          · obtain ⟨j, hkj⟩ : ∃ j, k = j + 1 := ⟨k - 1, by omega⟩
            obtain ⟨y1, y2, f1, f2, f3⟩ := hprev j hkj.symm
            replace f1 := kq.cellK f1
            replace f2 := kq.cellK f2
            have p1 : 2 * (k : Int) - 2 = 2 * (j : Int) := by omega
            have p2 : 2 * (k : Int) - 1 = 2 * (j : Int) + 1 := by omega
            have p3 : (0 : Int) < 2 * (k : Int) := by omega
            have p4 : ¬ (x1 : Int) < (y1 : Int) + (y2 : Int) := by omega
            have p5 : (y1 : Int) + (y2 : Int) ≤ 134217728 := by omega
            have p6 : 2 * (j : Int) < 2 * (L.length : Int) := by omega
            have p7 : 2 * (j : Int) + 1 < 2 * (L.length : Int) := by omega
            have p8 : 2 * (k : Int) + 2 = 2 * ((k + 1 : Nat) : Int) := by omega
            have P8 := hide p8
            clear hprev hk0 hkj p8
            go_wp2_with fail
            go_quiet (fail)
            go_wp2_with fail
            go_roundg (L.length - (k + 1))
            case measure => omega
            case rel => exact ⟨k + 1, rfl, by omega, by rw [P8.out], ⟨kq.os, kq.tape, kq.output, kq.size, kq.block⟩⟩
    · obtain rfl : k = L.length := by omega
      have hlt' : ¬ 2 * (L.length : Int) < 2 * (L.length : Int) := by omega
      replace kk : Keeps w wr (fun _ => False) := kk.trans kr (fun _ _ e => e)
      replace h12 := h12.keeps kr
      replace hA2 : Arena wr p X d := hA2.keeps kr (fun _ _ _ e => e)
      clear hM2 kr
      go_wp2_with fail
      generalize wr = W3 at *
      go_loopg [90] L.length (fun g s90 wq => ∃ j : Nat, g = L.length - j ∧ j ≤ L.length ∧ s90 = .int .i64 (j : Int) ∧ Keeps W3 wq (fun _ => False))
      case atStart => exact ⟨0, rfl, Nat.zero_le _, rfl, Keeps.refl _ _⟩
      case round =>
        obtain ⟨j, rfl, hj, rfl, kq⟩ := hrel
        by_cases hjl : j < L.length
        · have hmem := List.getElem_mem hjl
          have hrd := hread L[j] hmem
          have hrp := hrep L[j] hmem
          rcases h12 with rfl | ⟨b1, o1, rfl, hc⟩
          · simp at hjl
          obtain ⟨y1, y2, y3⟩ := hc j hjl
          replace y1 := kq.cellK y1
          replace y2 := kq.cellK y2
          replace y3 := kq.cellK y3
          have hjl' : (j : Int) < (L.length : Int) := by omega
          clear hc hread hrep hmem
          generalize strOf (same L[j].2.1 (UInt8.ofNat L[j].2.2)) = sy at *
          generalize L[j].1 = z1 at *
          generalize L[j].2.1 = z2 at *
          generalize L[j].2.2 = z3 at *
          have kq2 := kq.alloc (.cells #[.int .i64 (z1 : Int), .int .i64 (z2 : Int), .int .u8 (z3 : Int)] 62)
          have hq : Keeps W3 (wr.alloc (.cells #[.int .i64 (z1 : Int), .int .i64 (z2 : Int), .int .u8 (z3 : Int)] 62)) (fun _ => False) := kq2
          clear kq2
          go_wp2_with fail
          refine (hrd _ (hA2.keeps hq (fun _ _ _ e => e))).mono ?_
          rintro e W4 ⟨rfl, k4⟩
          have n1 := k4.cellK (cell_new3 wr _ _ _ _).1
          have n2 := k4.cellK (cell_new3 wr _ _ _ _).2.1
          have n3 := k4.cellK (cell_new3 wr _ _ _ _).2.2
          have q4 := hq.trans k4 (fun _ _ e => e)
          clear k4 hrd hq y1 y2 y3
          go_wp2_with fail
          refine (num_any _ _).mono ?_
          rintro e w' ⟨rfl, rfl⟩
          go_wp2_with fail
          refine (hrp _).mono ?_
          rintro e W5 ⟨rfl, k5⟩
          replace q4 := q4.trans k5 (fun _ _ e => e)
          clear k5 hrp n1 n2 n3
          go_wp2_with fail
          go_roundg (L.length - (j + 1))
          case measure => omega
          case rel => exact ⟨j + 1, rfl, by omega, by simp, q4⟩
        · obtain rfl : j = L.length := by omega
          have hjl' : ¬ (L.length : Int) < (L.length : Int) := by omega
          go_wp2_with fail
          go_ret
          exact ⟨rfl, kk.trans kq (fun _ _ e => e)⟩
end Go.Proofs.Yteglefnfnkgpcaa
/-
  A book when a block is freed.
-/
namespace Go.Proofs.Yteglefnfnkgpcaa
open Go.RowKit Go.Shelf
set_option linter.unusedVariables false

theorem filter_erase : ∀ (L : List (Nat × Nat × Nat)) (i : Nat) (h : i < L.length), (L.map (·.1)).Nodup → L.filter (fun y => decide (y.1 ≠ L[i].1)) = L.eraseIdx i
  | [], i, h, _ => by simp at h
  | y :: r, 0, h, hn => by
    rw [List.map_cons, List.nodup_cons] at hn
    have e : r.filter (fun x => decide (x.1 ≠ y.1)) = r := List.filter_eq_self.2 fun x hx => decide_eq_true (fun e => hn.1 (List.mem_map.2 ⟨x, hx, e⟩))
    show (y :: r).filter (fun x => decide (x.1 ≠ y.1)) = r
    rw [List.filter_cons_of_neg (by simp), e]
  | y :: r, i + 1, h, hn => by
    rw [List.map_cons, List.nodup_cons] at hn
    have hi : i < r.length := by simpa using h
    have e := filter_erase r i hi hn.2
    have hne : y.1 ≠ r[i].1 := fun e => hn.1 (List.mem_map.2 ⟨r[i], List.getElem_mem hi, e.symm⟩)
    show (y :: r).filter (fun x => decide (x.1 ≠ r[i].1)) = y :: r.eraseIdx i
    rw [List.filter_cons_of_pos (by simpa using hne), e]
theorem lives_nodup {d : AD} (hF : d.Fine) : ((livesOf d.L d.lv).map (·.1)).Nodup := by
  have h := lives_rise hF
  have hp : ∀ x ∈ livesOf d.L d.lv, 0 < x.2 := fun x hx => hF.tiles.pos x (List.mem_filter.1 hx).1
  refine List.pairwise_map.2 (List.Pairwise.imp_of_mem (fun {x y} hx hy hxy e => ?_) h)
  have := hp x hx
  omega
theorem Book.nodup {d : AD} {L : List (Nat × Nat × Nat)} (h : Book d L) (hF : d.Fine) : (L.map (·.1)).Nodup := by
  have := (h.perm.map (·.1)).nodup_iff.2 (lives_nodup hF)
  rw [List.map_map] at this
  exact this
theorem lives_gone {d : AD} (z s : Nat) : livesOf d.L (d.gone (z : Int) s).lv = (livesOf d.L d.lv).filter (fun x => decide (x.1 ≠ z)) := by
  unfold livesOf
  rw [List.filter_filter]
  refine List.filter_congr fun x _ => ?_
  show (upd d.lv (z : Int) none (x.1 : Int)).isSome = _
  unfold upd
  by_cases e : x.1 = z
  · simp [e]
  · have e' : ¬ (x.1 : Int) = (z : Int) := by omega
    rw [if_neg e']
    simp [e]
theorem Book.gone {d : AD} {L : List (Nat × Nat × Nat)} (h : Book d L) (hF : d.Fine) (i s : Nat) (hi : i < L.length) : Book (d.gone (L[i].1 : Int) s) (L.eraseIdx i) := by
  have e := filter_erase L i hi (h.nodup hF)
  have hsub : ∀ y ∈ L.eraseIdx i, y ∈ L := fun y hy => by rw [← e] at hy; exact (List.mem_filter.1 hy).1
  refine ⟨?_, fun y hy k hk => h.bytes y (hsub y hy) k hk, fun y hy => h.mark y (hsub y hy)⟩
  show ((L.eraseIdx i).map fun h => (h.1, h.2.1)).Perm (livesOf d.L (d.gone (L[i].1 : Int) s).lv)
  rw [lives_gone, ← e]
  have := h.perm.filter (fun x => decide (x.1 ≠ L[i].1))
  rw [List.filter_map] at this
  exact this
theorem lives_apart {d : AD} (hF : d.Fine) {x y : Nat × Nat} (hx : x ∈ livesOf d.L d.lv) (hy : y ∈ livesOf d.L d.lv) (hne : x.1 ≠ y.1) : x.1 + x.2 ≤ y.1 ∨ y.1 + y.2 ≤ x.1 := by
  have hr := lives_rise hF
  exact List.Pairwise.forall_of_forall_of_flip (R := fun x z => x.1 ≠ z.1 → x.1 + x.2 ≤ z.1 ∨ z.1 + z.2 ≤ x.1) (fun x hx hx' => absurd rfl hx') (hr.imp (fun h _ => Or.inl h)) (hr.imp (fun h _ => Or.inr h)) hx hy hne
/-- One block more, all of it the mark; all other bytes stand. -/
theorem Book.more {d d' : AD} {L : List (Nat × Nat × Nat)} (h : Book d L) (hF' : d'.Fine) (off c mark : Nat) (hp : (livesOf d'.L d'.lv).Perm ((off, c) :: livesOf d.L d.lv)) (hin : ∀ k, k < c → d'.bs[off + k]? = some (UInt8.ofNat mark)) (hout : ∀ j, j < off ∨ off + c ≤ j → d'.bs[j]? = d.bs[j]?) (hm : mark < 256) : Book d' (L ++ [(off, c, mark)]) := by
  have hmem : ∀ y ∈ L, (y.1, y.2.1) ∈ livesOf d.L d.lv := fun y hy => h.perm.mem_iff.1 (List.mem_map.2 ⟨y, hy, rfl⟩)
  have hnd := (hp.map (·.1)).nodup_iff.1 (lives_nodup hF')
  rw [List.map_cons, List.nodup_cons] at hnd
  refine ⟨?_, fun y hy k hk => ?_, fun y hy => ?_⟩
  · rw [List.map_append]
    exact ((List.perm_append_comm).trans (List.Perm.cons (off, c) h.perm)).trans hp.symm
  · rcases List.mem_append.1 hy with hy | hy
    · have hne : y.1 ≠ off := fun e => hnd.1 (List.mem_map.2 ⟨_, hmem y hy, e⟩)
      have := lives_apart hF' (hp.mem_iff.2 (List.mem_cons_of_mem _ (hmem y hy))) (hp.mem_iff.2 (List.mem_cons_self ..)) hne
      rw [hout (y.1 + k) (by simp at this; omega)]
      exact h.bytes y hy k hk
    · rw [List.mem_singleton] at hy
      subst hy
      exact hin k hk
  · rcases List.mem_append.1 hy with hy | hy
    · exact h.mark y hy
    · rw [List.mem_singleton] at hy
      subst hy
      exact hm
/-- The block that is taken touches none of the book's. -/
theorem Book.apart {d d' : AD} {L : List (Nat × Nat × Nat)} (h : Book d L) (hF' : d'.Fine) (off c : Nat) (hp : (livesOf d'.L d'.lv).Perm ((off, c) :: livesOf d.L d.lv)) : meetsH L (off : Int) (c : Int) = false := by
  have hmem : ∀ y ∈ L, (y.1, y.2.1) ∈ livesOf d.L d.lv := fun y hy => h.perm.mem_iff.1 (List.mem_map.2 ⟨y, hy, rfl⟩)
  have hnd := (hp.map (·.1)).nodup_iff.1 (lives_nodup hF')
  rw [List.map_cons, List.nodup_cons] at hnd
  refine List.any_eq_false.2 fun y hy => ?_
  have hne : y.1 ≠ off := fun e => hnd.1 (List.mem_map.2 ⟨_, hmem y hy, e⟩)
  have := lives_apart hF' (hp.mem_iff.2 (List.mem_cons_of_mem _ (hmem y hy))) (hp.mem_iff.2 (List.mem_cons_self ..)) hne
  simp at this
  unfold oneH
  rw [Bool.and_eq_true, decide_eq_true_iff, decide_eq_true_iff]
  omega
theorem lives_took {d : AD} (hF : d.Fine) (n : Nat) : (livesOf (d.took n).L (d.took n).lv).Perm ((d.bs.length, n) :: livesOf d.L d.lv) := by
  have e : livesOf (d.took n).L (d.took n).lv = livesOf d.L d.lv ++ [(d.bs.length, n)] := by
    rw [AD.took_L, AD.took_lv]
    unfold livesOf
    rw [List.filter_append]
    congr 1
    · refine List.filter_congr fun x hx => ?_
      have h1 := tiles_in hF.tiles x hx
      have h2 := hF.tiles.pos x hx
      unfold upd
      rw [if_neg (by omega)]
    · simp [upd]
  rw [e]
  exact List.perm_append_comm
theorem lives_congr {L : List (Nat × Nat)} {f g : Int → Option Int} (h : ∀ x ∈ L, (f (x.1 : Int)).isSome = (g (x.1 : Int)).isSome) : livesOf L f = livesOf L g := List.filter_congr h
theorem lives_enter {f : Int → Option Int} {z n : Nat} (hz : f (z : Int) = none) : ∀ (L : List (Nat × Nat)), (z, n) ∈ L → (L.map (·.1)).Nodup → (livesOf L (upd f (z : Int) (some (n : Int)))).Perm ((z, n) :: livesOf L f)
  | [], h, _ => by cases h
  | x :: r, h, hn => by
    rw [List.map_cons, List.nodup_cons] at hn
    by_cases e : x = (z, n)
    · subst e
      have e1 : livesOf r (upd f (z : Int) (some (n : Int))) = livesOf r f := lives_congr fun y hy => by
        have hne : y.1 ≠ z := fun e => hn.1 (List.mem_map.2 ⟨y, hy, e⟩)
        unfold upd
        rw [if_neg (by omega)]
      have e2 : livesOf ((z, n) :: r) (upd f (z : Int) (some (n : Int))) = (z, n) :: livesOf r (upd f (z : Int) (some (n : Int))) := List.filter_cons_of_pos (by simp [upd])
      have e3 : livesOf ((z, n) :: r) f = livesOf r f := List.filter_cons_of_neg (by simp [hz])
      rw [e2, e3, e1]
    · have hr : (z, n) ∈ r := by
        rcases List.mem_cons.1 h with h | h
        · exact absurd h.symm e
        · exact h
      have hne : x.1 ≠ z := fun e => hn.1 (List.mem_map.2 ⟨_, hr, e.symm⟩)
      have ih := lives_enter hz r hr hn.2
      have eu : upd f (z : Int) (some (n : Int)) (x.1 : Int) = f (x.1 : Int) := by
        unfold upd
        rw [if_neg (by omega)]
      cases hf : (f (x.1 : Int)).isSome
      · have e2 : livesOf (x :: r) (upd f (z : Int) (some (n : Int))) = livesOf r (upd f (z : Int) (some (n : Int))) := List.filter_cons_of_neg (by rw [eu, hf]; decide)
        have e3 : livesOf (x :: r) f = livesOf r f := List.filter_cons_of_neg (by rw [hf]; decide)
        rw [e2, e3]
        exact ih
      · have e2 : livesOf (x :: r) (upd f (z : Int) (some (n : Int))) = x :: livesOf r (upd f (z : Int) (some (n : Int))) := List.filter_cons_of_pos (by rw [eu, hf])
        have e3 : livesOf (x :: r) f = x :: livesOf r f := List.filter_cons_of_pos hf
        rw [e2, e3]
        exact (List.Perm.cons x ih).trans (List.Perm.swap _ _ _)
end Go.Proofs.Yteglefnfnkgpcaa
/-
  A block that is taken, as data; an arena beside a book and a list of numbers.
-/
namespace Go.Proofs.Yteglefnfnkgpcaa
open Go.RowKit Go.Shelf
set_option linter.unusedVariables false

theorem tiles_16 : ∀ {s : Nat} {L : List (Nat × Nat)} {e : Nat}, Tiles s L e → s % 16 = 0 → (∀ y ∈ L, y.2 % 16 = 0) → (∀ y ∈ L, y.1 % 16 = 0) ∧ e % 16 = 0
  | s, [], e, h, hs, _ => by
    have : s = e := h
    exact ⟨fun _ h => (by cases h), by omega⟩
  | s, y :: r, e, h, hs, hy => by
    obtain ⟨h1, h2, h3⟩ := h
    have h4 := hy y (List.mem_cons_self ..)
    obtain ⟨k1, k2⟩ := tiles_16 h3 (by omega) (fun z hz => hy z (List.mem_cons_of_mem _ hz))
    refine ⟨fun z hz => ?_, k2⟩
    rcases List.mem_cons.1 hz with rfl | hz
    · omega
    · exact k1 z hz
theorem well_16 {d : AD} (hF : d.Fine) (hW : d.Well) : (∀ y ∈ d.L, y.1 % 16 = 0) ∧ d.bs.length % 16 = 0 :=
  tiles_16 hF.tiles (by decide) (fun y hy => (show ∀ c ∈ classList, c % 16 = 0 by decide) _ (hW.sizes y hy))

/-- A block that is taken: it is zero, all other bytes stand. -/
structure TookB (d d' : AD) (off c : Nat) : Prop where
  fine : d'.Fine
  well : d'.Well
  used : d'.used = d.used + c
  limit : d'.limit = d.limit
  perm : (livesOf d'.L d'.lv).Perm ((off, c) :: livesOf d.L d.lv)
  zero : ∀ k, k < c → d'.bs[off + k]? = some 0
  rest : ∀ j, j < off ∨ off + c ≤ j → d'.bs[j]? = d.bs[j]?
  mem : (off, c) ∈ d'.L
  lv : d'.lv (off : Int) = some (c : Int)
  al : off % 16 = 0
theorem TookB.good {d d' : AD} {off c : Nat} (h : TookB d d' off c) : d'.goodB (off : Int) (c : Int) = true := AD.goodB_mk h.mem h.lv (by omega) (by simp) (by simp)
theorem TookB.low {d d' : AD} {off c : Nat} (h : TookB d d' off c) : 16 ≤ off ∧ off + c ≤ d'.bs.length := by
  have := tiles_mem h.fine.tiles h.mem
  exact ⟨this.1, this.2.2⟩
theorem splice_off {bs x : List UInt8} {o j : Nat} (h : o + x.length ≤ bs.length) (hd : j < o ∨ o + x.length ≤ j) : (splice bs o x)[j]? = bs[j]? := by
  rw [splice_get h, if_neg (by omega)]
theorem zeros_at {n k : Nat} (h : k < n) : (zeros n)[k]? = some 0 := by
  unfold zeros
  rw [List.getElem?_replicate, if_pos h]
theorem took_B {d : AD} (hF : d.Fine) (hW : d.Well) {c : Nat} (hc : c ∈ classList) (hf : d.fm (c : Int) = none ∨ d.fm (c : Int) = some []) (h3 : d.used + c ≤ d.limit) : TookB d (d.took c) d.bs.length c := by
  have h16 := (show ∀ c ∈ classList, 16 ≤ c by decide) c hc
  have h1 := hW.room hF
  have h2 := hF.lim
  refine ⟨hF.took (by omega) (by omega) h3, hW.took hF hc hf h3, rfl, rfl, lives_took hF c, fun k hk => ?_, fun j hj => ?_, ?_, ?_, (well_16 hF hW).2⟩
  · rw [AD.took_bs, List.getElem?_append_right (by omega), Nat.add_sub_cancel_left]
    exact zeros_at hk
  · rw [AD.took_bs]
    rcases hj with hj | hj
    · exact List.getElem?_append_left hj
    · rw [List.getElem?_eq_none (by rw [List.length_append, zeros_length]; exact hj), List.getElem?_eq_none (by omega)]
  · rw [AD.took_L]
    exact List.mem_append_right _ (List.mem_singleton.2 rfl)
  · rw [AD.took_lv, upd_same]
theorem retook_B {d : AD} (hF : d.Fine) (hW : d.Well) {c z : Nat} {r : List Int} (hf : d.fm (c : Int) = some ((z : Int) :: r)) (h3 : d.used + c ≤ d.limit) : TookB d (d.retook c z r) z c := by
  obtain ⟨hlz, y, hy, e1, e2⟩ := hF.free.mem _ _ hf (z : Int) (by simp)
  have hyz : y = (z, c) := by
    cases y
    simp at e1 e2 ⊢
    omega
  subst hyz
  have ht := tiles_mem hF.tiles hy
  have hz : z + (zeros c).length ≤ d.bs.length := by rw [zeros_length]; exact ht.2.2
  refine ⟨hF.retook hf h3, hW.retook hf, rfl, rfl, ?_, fun k hk => ?_, fun j hj => ?_, hy, ?_, (well_16 hF hW).1 _ hy⟩
  · rw [AD.retook_L, AD.retook_lv]
    refine lives_enter hlz d.L hy ?_
    exact (tiles_sorted hF.tiles).imp (fun h => Nat.ne_of_lt h)
  · rw [AD.retook_bs, splice_get hz, if_pos (by rw [zeros_length]; omega), Nat.add_sub_cancel_left]
    exact zeros_at hk
  · rw [AD.retook_bs]
    exact splice_off hz (by rw [zeros_length]; exact hj)
  · rw [AD.retook_lv, upd_same]
theorem list_B {d : AD} (hF : d.Fine) (hW : d.Well) {c : Nat} (hc : c ∈ classList) (h3 : d.used + c ≤ d.limit) : TookB d (listT d c).2 (listT d c).1 c := by
  unfold listT
  cases hf : d.fm (c : Int) with
  | none => exact took_B hF hW hc (Or.inl hf) h3
  | some xs =>
    cases xs with
    | nil => exact took_B hF hW hc (Or.inr hf) h3
    | cons z r =>
      obtain ⟨_, y, hy, e1, _⟩ := hF.free.mem _ _ hf z (by simp)
      obtain ⟨z', rfl⟩ : ∃ z' : Nat, z = (z' : Int) := ⟨y.1, e1⟩
      simp only [Int.toNat_natCast]
      exact retook_B hF hW hf h3
/-- Filled with the mark it stands in the book. -/
theorem TookB.book {d d' : AD} {off c : Nat} (h : TookB d d' off c) {L : List (Nat × Nat × Nat)} (hB : Book d L) (u : UInt8) :
    fillR d' (off : Int) (c : Int) u = (0, d'.bytes (splice d'.bs off (same c u))) ∧ (d'.bytes (splice d'.bs off (same c u))).Fine ∧ (d'.bytes (splice d'.bs off (same c u))).Well ∧ Book (d'.bytes (splice d'.bs off (same c u))) (L ++ [(off, c, u.toNat)]) := by
  have hl := h.low
  have hsz : off + (same c u).length ≤ d'.bs.length := by unfold same; rw [List.length_replicate]; exact hl.2
  have hF2 : (d'.bytes (splice d'.bs off (same c u))).Fine := h.fine.bytes (splice_length hsz)
  refine ⟨if_pos h.good, hF2, ⟨h.well.rises, h.well.sizes, h.well.most⟩, ?_⟩
  refine hB.more hF2 off c u.toNat h.perm (fun k hk => ?_) (fun j hj => ?_) u.toNat_lt
  · show (splice d'.bs off (same c u))[off + k]? = _
    rw [splice_get hsz, if_pos (by unfold same; rw [List.length_replicate]; omega), Nat.add_sub_cancel_left]
    unfold same
    rw [List.getElem?_replicate, if_pos hk]
    simp
  · show (splice d'.bs off (same c u))[j]? = _
    rw [splice_off hsz (by unfold same; rw [List.length_replicate]; exact hj)]
    exact h.rest j hj
theorem TookB.read {d d' : AD} {off c : Nat} (h : TookB d d' off c) : readV d' (off : Int) (c : Int) = (strOf (same c 0), 0) := by
  unfold readV
  rw [if_pos h.good]
  congr 2
  unfold AD.span same
  refine List.ext_getElem? fun k => ?_
  rw [List.getElem?_take, List.getElem?_drop, List.getElem?_replicate]
  by_cases hk : k < c
  · have := h.zero k hk
    simp [hk, this]
  · simp [hk]

theorem Book.few {d : AD} {L : List (Nat × Nat × Nat)} (h : Book d L) (hF : d.Fine) : L.length ≤ 134217728 := by
  have h1 : (livesOf d.L d.lv).length ≤ d.L.length := List.length_filter_le _ _
  have h2 := tiles_length hF.tiles
  have h3 := hF.most
  have h4 := h.len
  omega
theorem Book.sum_le {d : AD} {L : List (Nat × Nat × Nat)} (h : Book d L) (hF : d.Fine) : sumH L ≤ 2097152 := by
  have h1 := h.used hF
  have h2 := hF.use
  have h3 := hF.lim
  omega
theorem refE_22 {d : AD} {n : Int} (h : 1 ≤ n) (hc : classI n = 0 ∨ (d.limit : Int) - (d.used : Int) < classI n) : refE d [n] = 22 := by
  have ha : allOne [n] := fun z hz => by simp at hz; omega
  unfold refE
  rw [if_pos ha]
  have hf : fitsIn ((d.limit : Int) - (d.used : Int)) [n] = false := by
    simp only [fitsIn]
    rw [if_pos hc]
  rw [hf]
  rfl
theorem refE_0 {d : AD} {n : Int} (h : 1 ≤ n) (hc : ¬ (classI n = 0 ∨ (d.limit : Int) - (d.used : Int) < classI n)) : refE d [n] = 0 := by
  have ha : allOne [n] := fun z hz => by simp at hz; omega
  unfold refE
  rw [if_pos ha]
  have hf : fitsIn ((d.limit : Int) - (d.used : Int)) [n] = true := by
    simp only [fitsIn]
    rw [if_neg hc]
  rw [hf]
  rfl

def cells3 (L : List (Nat × Nat × Nat)) : List Value := (L.map (fun x => [Value.int .i64 (x.1 : Int), .int .i64 (x.2.1 : Int), .int .u8 (x.2.2 : Int)])).flatten
theorem cells3_append (L M : List (Nat × Nat × Nat)) : cells3 (L ++ M) = cells3 L ++ cells3 M := by simp [cells3]
theorem cells3_one (x : Nat × Nat × Nat) : cells3 [x] = [.int .i64 (x.1 : Int), .int .i64 (x.2.1 : Int), .int .u8 (x.2.2 : Int)] := by simp [cells3]
theorem cells3_cons (x : Nat × Nat × Nat) (L : List (Nat × Nat × Nat)) : cells3 (x :: L) = [.int .i64 (x.1 : Int), .int .i64 (x.2.1 : Int), .int .u8 (x.2.2 : Int)] ++ cells3 L := by simp [cells3]
theorem cells3_length (L : List (Nat × Nat × Nat)) : (cells3 L).length = L.length * 3 := by
  induction L with
  | nil => rfl
  | cons x r ih =>
    rw [cells3_cons, List.length_append, ih]
    simp
    omega
theorem cells3_get : ∀ (L : List (Nat × Nat × Nat)) (i : Nat) (h : i < L.length), (cells3 L)[i * 3]? = some (.int .i64 (L[i].1 : Int)) ∧ (cells3 L)[i * 3 + 1]? = some (.int .i64 (L[i].2.1 : Int)) ∧ (cells3 L)[i * 3 + 2]? = some (.int .u8 (L[i].2.2 : Int))
  | [], i, h => by simp at h
  | y :: r, 0, h => by simp [cells3]
  | y :: r, i + 1, h => by
    have ih := cells3_get r i (by simpa using h)
    have e1 : (i + 1) * 3 = 3 + i * 3 := by omega
    rw [cells3_cons, e1]
    refine ⟨?_, ?_, ?_⟩
    · rw [List.getElem?_append_right (by simp)]
      simpa using ih.1
    · rw [List.getElem?_append_right (by simp; omega)]
      have : 3 + i * 3 + 1 - 3 = i * 3 + 1 := by omega
      simpa [this] using ih.2.1
    · rw [List.getElem?_append_right (by simp; omega)]
      have : 3 + i * 3 + 2 - 3 = i * 3 + 2 := by omega
      simpa [this] using ih.2.2
theorem cells3_one' {L : List (Nat × Nat × Nat)} : ∀ u ∈ cells3 L, u.oneCell' = true := fun u hu => by
  unfold cells3 at hu
  obtain ⟨l, hl, hu⟩ := List.mem_flatten.1 hu
  obtain ⟨x, _, rfl⟩ := List.mem_map.1 hl
  simp at hu
  rcases hu with rfl | rfl | rfl <;> rfl

/-- An arena beside a book and a list of numbers of the statement's own. -/
structure OwnK (w w1 : World) (p : Nat) (vb : Value) (L : List (Nat × Nat × Nat)) (ve : Value) (ys : List Int) (d : AD) : Prop where
  own : Own w w1 p (fun k => vb.ownBlock = some k ∨ ve.ownBlock = some k) d
  book : w1.ownsRow w.heap.size 62 3 vb L.length (cells3 L)
  ever : w1.ownsRow w.heap.size 3 1 ve ys.length (ys.map cellI)
section
variable {w w1 w2 : World} {p : Nat} {vb ve : Value} {L : List (Nat × Nat × Nat)} {ys : List Int} {d d' : AD}
theorem OwnK.lt (h : OwnK w w1 p vb L ve ys d) : ∀ k, vb.ownBlock = some k ∨ ve.ownBlock = some k → k < w1.heap.size := fun k hk => hk.elim (fun e => (h.book.lt k e).2) (fun e => (h.ever.lt k e).2)
theorem OwnK.base (h : OwnK w w1 p vb L ve ys d) : ∀ k, vb.ownBlock = some k ∨ ve.ownBlock = some k → w.heap.size ≤ k := fun k hk => hk.elim (fun e => (h.book.lt k e).1) (fun e => (h.ever.lt k e).1)
theorem OwnK.stay (h : OwnK w w1 p vb L ve ys d) (k : Keeps w1 w2 (fun _ => False)) : OwnK w w2 p vb L ve ys d :=
  ⟨h.own.stay k, row_kept h.book (fun b hb => k.block b (h.lt b (Or.inl hb)) id), row_kept h.ever (fun b hb => k.block b (h.lt b (Or.inr hb)) id)⟩
theorem OwnK.turned (h : OwnK w w1 p vb L ve ys d) (ho : Own w w2 p (fun k => vb.ownBlock = some k ∨ ve.ownBlock = some k) d') (k : Keeps w1 w2 (fun k => (w.heap.size ≤ k ∧ ¬ (vb.ownBlock = some k ∨ ve.ownBlock = some k)) ∧ k < w1.heap.size)) : OwnK w w2 p vb L ve ys d' :=
  ⟨ho, row_kept h.book (fun b hb => k.block b (h.lt b (Or.inl hb)) (fun e => e.1.2 (Or.inl hb))), row_kept h.ever (fun b hb => k.block b (h.lt b (Or.inr hb)) (fun e => e.1.2 (Or.inr hb)))⟩
/-- The two rows lie apart. -/
theorem OwnK.apart (h : OwnK w w1 p vb L ve ys d) {k : Nat} (hb : vb.ownBlock = some k) (he : ve.ownBlock = some k) : False := by
  rcases h.book.2 with ⟨e, _⟩ | ⟨g, cap, cur, e, _, hg, _⟩
  · rw [e] at hb
    cases hb
  · rw [e] at hb
    have e1 : g = k := by simpa [Value.ownBlock] using hb
    subst e1
    rcases h.ever.2 with ⟨e', _⟩ | ⟨g', cap', cur', e', _, hg', _⟩
    · rw [e'] at he
      cases he
    · rw [e'] at he
      have e2 : g' = g := by simpa [Value.ownBlock] using he
      subst e2
      rw [hg] at hg'
      simp at hg'
theorem OwnK.helds (h : OwnK w w1 p vb L ve ys d) : ∃ a cap, vb = .slice a L.length cap ∧ HeldsAt w1 a L := by
  rcases h.book.2 with ⟨e, e0⟩ | ⟨g, cap, cur, e, hb, hg, _⟩
  · refine ⟨none, 0, by rw [e, e0], Or.inl (List.length_eq_zero_iff.1 e0)⟩
  · refine ⟨some ⟨g, 0, none⟩, cap, e, Or.inr ⟨g, 0, rfl, fun i hi => ?_⟩⟩
    obtain ⟨h1, h2, h3⟩ := cells3_get L i hi
    have hc := h.book.cells (g := g) (by rw [e]; rfl)
    have c1 := hc _ _ h1
    have c2 := hc _ _ h2
    have c3 := hc _ _ h3
    rw [addr_add, Nat.zero_add] at c1 c2 c3
    rw [Nat.zero_add]
    exact ⟨c1, c2, c3⟩
/-- One more in the book. -/
theorem OwnK.push (h : OwnK w w1 p vb L ve ys d) (x : Nat × Nat × Nat) (hn : L.length ≤ 1000000000) :
    ∃ g cap w2, (∀ ty, (Builtin.append_ #[58, 58] ty #[vb, .slice (some ⟨w1.heap.size, 0, none⟩) 1 1]).run Try.prog (w1.alloc (.cells #[.int .i64 (x.1 : Int), .int .i64 (x.2.1 : Int), .int .u8 (x.2.2 : Int)] 62)) = .ok (.slice (some ⟨g, 0, none⟩) (L.length + 1) cap) w2) ∧ OwnK w w2 p (.slice (some ⟨g, 0, none⟩) (L.length + 1) cap) (L ++ [x]) ve ys d := by
  have hsz := h.own.keeps.size
  have hi : (Try.prog.info? 62).map (fun i => (i.zero, i.size, i.bytes)) = some (some (.agg #[.int .i64 0, .int .i64 0, .int .u8 0]), 3, 24) := by kernel_rfl
  obtain ⟨i, h1, h2, h3, h4⟩ := info_parts hi
  obtain ⟨g, cap, w2, hr, hown, hgr, hloc, hlt⟩ := run_append_lies (P := Try.prog) (w1.alloc (.cells #[.int .i64 (x.1 : Int), .int .i64 (x.2.1 : Int), .int .u8 (x.2.2 : Int)] 62)) 58 0 w.heap.size 62 i (.agg #[.int .i64 0, .int .i64 0, .int .u8 0]) 3 24 Try.underlying58 h1 h2 h3 h4 rfl (by decide) vb L.length (cells3 L) (h.book.alloc _) ⟨w1.heap.size, 0, none⟩ 1 1 (cells3 [x]) rfl
    (fun j u hu => by
      rw [cells3_one] at hu
      rw [addr_add]
      simp only [World.cell?, heap_alloc_new]
      match j, hu with
      | 0, hu => simpa using hu
      | 1, hu => simpa using hu
      | 2, hu => simpa using hu
      | j + 3, hu => simp at hu) cells3_one' (by omega) (by simp only [maxLen]; omega) (by omega) (by simp; omega) (w1.heap.size + 1) (by simp)
  have k1 : Keeps w1 w2 (fun k => vb.ownBlock = some k) := ((Keeps.refl w1 _).alloc _).trans (Keeps.ofGrown hgr) (fun _ _ e => e)
  refine ⟨g, cap, w2, fun ty => hr, ?_, ?_, row_kept h.ever (fun b hb => k1.block b (h.lt b (Or.inr hb)) (fun e => h.apart e hb))⟩
  · refine h.own.swap (k1.mono (fun _ _ e => Or.inl e)) h.base (fun i e => ?_)
    rcases e with e | e
    · have e' : g = i := by simpa [Value.ownBlock] using e
      subst e'
      rcases hloc with e1 | e1
      · exact Or.inl (Or.inl e1)
      · exact Or.inr (by omega)
    · exact Or.inl (Or.inr e)
  · rw [cells3_append]
    simpa using hown
/-- One more number. -/
theorem OwnK.more (h : OwnK w w1 p vb L ve ys d) (z : Int) (hn : ys.length ≤ 8796093022208) :
    ∃ g cap w2, (∀ ty, (Builtin.append_ #[28, 28] ty #[ve, .slice (some ⟨w1.heap.size, 0, none⟩) 1 1]).run Try.prog (w1.alloc (.cells #[.int .i64 z] 3)) = .ok (.slice (some ⟨g, 0, none⟩) (ys.length + 1) cap) w2) ∧ OwnK w w2 p vb L (.slice (some ⟨g, 0, none⟩) (ys.length + 1) cap) (ys ++ [z]) d := by
  have hsz := h.own.keeps.size
  obtain ⟨g, cap, w2, hr, hown, kk, hloc⟩ := append_one (P := Try.prog) 28 3 (.int .i64 0) 8 Try.underlying28 (by kernel_rfl) rfl (h.ever.alloc (.cells #[.int .i64 z] 3)) (heap_alloc_new w1 (.cells #[.int .i64 z] 3)) rfl (by omega) (by simp only [maxLen]; omega) (by simp; omega)
  have k1 : Keeps w1 w2 (fun k => ve.ownBlock = some k) := ((Keeps.refl w1 _).alloc _).trans kk (fun _ _ e => e)
  refine ⟨g, cap, w2, hr, ?_, row_kept h.book (fun b hb => k1.block b (h.lt b (Or.inl hb)) (fun e => h.apart hb e)), by simpa [cellI] using hown⟩
  refine h.own.swap (k1.mono (fun _ _ e => Or.inr e)) h.base (fun i e => ?_)
  rcases e with e | e
  · exact Or.inl (Or.inl e)
  · have e' : g = i := by simpa [Value.ownBlock] using e
    subst e'
    rcases hloc with e1 | e1
    · exact Or.inl (Or.inr e1)
    · exact Or.inr (by rw [e1]; simp)
end
end Go.Proofs.Yteglefnfnkgpcaa
