import Derived.Test.YtdhphakjkgfngaaGreatDoorGn9
/-
  Run, Pick and Place of dir.
-/
namespace Go.Proofs.YtdhphakjkgfngaaGreatDoor
open Go.RowKit Go.Shelf
set_option linter.unusedVariables false

set_option maxHeartbeats 2000000 in
theorem drun_no (p off D : Nat) (i e : Int) (w1 : World) (hD : D ≤ 6) (h : ¬ (0 ≤ i ∧ i < ((2 ^ D : Nat) : Int)) ∨ e < 0 ∨ (D : Int) < e) :
    Calls Tryz.prog 15 #[.agg #[.pointer (some ⟨p, 0, none⟩), .int .i64 (off : Int), .int .i64 (D : Int)], .int .i64 i, .int .i64 e] w1 fun r w' => r = .returned (.tuple #[.int .i64 0, .int .i64 0, .int .i64 101]) ∧ Keeps w1 w' (fun _ => False) := by
  have hV := fun W => dvalid_any p off D W hD
  have hH := fun W => dhas_any p off D i W hD
  have C0 : Hid (C3 (w1.alloc (.cells #[.pointer (some ⟨p, 0, none⟩), .int .i64 (off : Int), .int .i64 (D : Int)] 26)) w1.heap.size p off D) := c3_of (heap_alloc_new _ _)
  have K0 : Keeps w1 (w1.alloc (.cells #[.pointer (some ⟨p, 0, none⟩), .int .i64 (off : Int), .int .i64 (D : Int)] 26)) (fun _ => False) := (Keeps.refl _ _).alloc _
  generalize 2 ^ D = n at *
  by_cases hi : 0 ≤ i ∧ i < (n : Int)
  · rw [decide_eq_true hi] at hH
    rcases h with h | h
    · exact absurd hi h
    by_cases h0 : e < 0
    · clear h
      go_enter Tryz.func15, Tryz.ntmps15
      go_wp2_with fail
      (with_reducible refine (hV _).mono ?_)
      rintro e w2 ⟨rfl, k2⟩
      obtain ⟨c0, c1, c2⟩ := c3_keeps k2 id C0.out
      clear hV
      go_wp2_with fail
      (with_reducible refine (hH _).mono ?_)
      rintro e w3 ⟨rfl, k3⟩
      have K3 : Hid (Keeps w1 w3 (fun _ => False)) := (K0.trans k2 (fun _ _ e => e)).trans k3 (fun _ _ e => e)
      clear c0 c1 c2 hH k2 k3
      go_wp2_with fail
      go_ret3
      exact ⟨rfl, K3.out⟩
    · have h1 : (D : Int) < e := h.resolve_left h0
      clear h
      go_enter Tryz.func15, Tryz.ntmps15
      go_wp2_with fail
      (with_reducible refine (hV _).mono ?_)
      rintro e w2 ⟨rfl, k2⟩
      obtain ⟨c0, c1, c2⟩ := c3_keeps k2 id C0.out
      clear hV
      go_wp2_with fail
      (with_reducible refine (hH _).mono ?_)
      rintro e w3 ⟨rfl, k3⟩
      have K3 : Hid (Keeps w1 w3 (fun _ => False)) := (K0.trans k2 (fun _ _ e => e)).trans k3 (fun _ _ e => e)
      have D3 := c3_keeps k3 id (show C3 w2 w1.heap.size p off D from ⟨c0, c1, c2⟩)
      clear c0 c1 c2 hH k2 k3
      obtain ⟨c0, c1, c2⟩ := D3
      go_wp2_with fail
      go_ret3
      exact ⟨rfl, K3.out⟩
  · rw [decide_eq_false hi] at hH
    clear h
    go_enter Tryz.func15, Tryz.ntmps15
    go_wp2_with fail
    (with_reducible refine (hV _).mono ?_)
    rintro e w2 ⟨rfl, k2⟩
    obtain ⟨c0, c1, c2⟩ := c3_keeps k2 id C0.out
    clear hV
    go_wp2_with fail
    (with_reducible refine (hH _).mono ?_)
    rintro e w3 ⟨rfl, k3⟩
    have K3 : Hid (Keeps w1 w3 (fun _ => False)) := (K0.trans k2 (fun _ _ e => e)).trans k3 (fun _ _ e => e)
    clear c0 c1 c2 hH k2 k3
    go_wp2_with fail
    go_ret3
    exact ⟨rfl, K3.out⟩

set_option maxHeartbeats 2000000 in
theorem drun_core (p off D e i N Q R : Nat) (w1 : World) (hD : D ≤ 6) (hi : i < 2 ^ D) (he : e ≤ D) (hN : 2 ^ (D - e) = N) (hN1 : 1 ≤ N) (hN2 : N ≤ 64) (hQ : i / N = Q) (hR : Q * N = R) (hR2 : R ≤ 64) :
    Calls Tryz.prog 15 #[.agg #[.pointer (some ⟨p, 0, none⟩), .int .i64 (off : Int), .int .i64 (D : Int)], .int .i64 (i : Int), .int .i64 (e : Int)] w1 fun r w' => r = .returned (.tuple #[.int .i64 (R : Int), .int .i64 (N : Int), .int .i64 0]) ∧ Keeps w1 w' (fun _ => False) := by
  have hV := fun W => dvalid_any p off D W hD
  have hH := fun W => dhas_any p off D i W hD
  have C0 : Hid (C3 (w1.alloc (.cells #[.pointer (some ⟨p, 0, none⟩), .int .i64 (off : Int), .int .i64 (D : Int)] 26)) w1.heap.size p off D) := c3_of (heap_alloc_new _ _)
  have K0 : Keeps w1 (w1.alloc (.cells #[.pointer (some ⟨p, 0, none⟩), .int .i64 (off : Int), .int .i64 (D : Int)] 26)) (fun _ => False) := (Keeps.refl _ _).alloc _
  rw [decide_eq_true (show (0 : Int) ≤ (i : Int) ∧ (i : Int) < ((2 ^ D : Nat) : Int) by omega)] at hH
  clear hi
  have s1 : (D : Int) - (e : Int) = ((D - e : Nat) : Int) := by omega
  have s2 : wrap64 ((D : Int) - (e : Int)) = ((D - e : Nat) : Int) := by unfold wrap64; omega
  have a1 : ¬ (e : Int) < 0 := by omega
  have a2 : ¬ (D : Int) < (e : Int) := by omega
  generalize D - e = S at *
  have p1 : wrap64 ((2 : Int) ^ S) = (N : Int) := by
    have : ((2 : Int) ^ S) = ((2 ^ S : Nat) : Int) := by simp
    rw [this, hN]
    unfold wrap64
    omega
  have p2 : wrap64 ((i : Int) / (N : Int)) = (Q : Int) := by
    rw [← Int.natCast_ediv, hQ]
    have : Q ≤ R := by rw [← hR]; exact Nat.le_mul_of_pos_right _ hN1
    unfold wrap64
    omega
  have p3 : wrap64 ((Q : Int) * (N : Int)) = (R : Int) := by
    rw [← Int.natCast_mul, hR]
    unfold wrap64
    omega
  have p4 : ¬ (N : Int) = 0 := fun e => Nat.one_le_iff_ne_zero.1 hN1 (Int.ofNat.inj e)
  have p5 : ((N : Int) == 0) = false := by simpa using p4
  clear hQ hR hN
  go_enter Tryz.func15, Tryz.ntmps15
  go_wp2_with fail
  (with_reducible refine (hV _).mono ?_)
  rintro e w2 ⟨rfl, k2⟩
  obtain ⟨c0, c1, c2⟩ := c3_keeps k2 id C0.out
  clear hV
  go_wp2_with fail
  (with_reducible refine (hH _).mono ?_)
  rintro e w3 ⟨rfl, k3⟩
  have K3 : Hid (Keeps w1 w3 (fun _ => False)) := (K0.trans k2 (fun _ _ e => e)).trans k3 (fun _ _ e => e)
  have D3 := c3_keeps k3 id (show C3 w2 w1.heap.size p off D from ⟨c0, c1, c2⟩)
  clear c0 c1 c2 hH k2 k3
  obtain ⟨c0, c1, c2⟩ := D3
  go_wp2_with fail
  go_ret3
  exact ⟨by show Ending.returned (.tuple #[.int .i64 (wrap64 ((Q : Int) * (N : Int))), .int .i64 (wrap64 (2 ^ S)), .int .i64 0]) = _; rw [p3, p1], K3.out⟩

/-- The first entry of the run. -/
def runF (D e i : Nat) : Nat := i / 2 ^ (D - e) * 2 ^ (D - e)
theorem runF_le (D e i : Nat) : runF D e i ≤ i := Nat.div_mul_le_self i _
theorem run_in {D e i : Nat} (hi : i < 2 ^ D) (he : e ≤ D) : runF D e i + 2 ^ (D - e) ≤ 2 ^ D := by
  unfold runF
  have e1 : 2 ^ D = 2 ^ e * 2 ^ (D - e) := by rw [← Nat.pow_add]; congr 1; omega
  have h0 : 0 < 2 ^ (D - e) := Nat.two_pow_pos _
  have h2 : i / 2 ^ (D - e) < 2 ^ e := by rw [Nat.div_lt_iff_lt_mul h0, ← e1]; exact hi
  rw [e1, ← Nat.succ_mul]
  exact Nat.mul_le_mul_right _ h2
theorem drun_yes (p off D e i : Nat) (w1 : World) (hD : D ≤ 6) (hi : i < 2 ^ D) (he : e ≤ D) :
    Calls Tryz.prog 15 #[.agg #[.pointer (some ⟨p, 0, none⟩), .int .i64 (off : Int), .int .i64 (D : Int)], .int .i64 (i : Int), .int .i64 (e : Int)] w1 fun r w' => r = .returned (.tuple #[.int .i64 ((runF D e i : Nat) : Int), .int .i64 ((2 ^ (D - e) : Nat) : Int), .int .i64 0]) ∧ Keeps w1 w' (fun _ => False) := by
  have h1 := pow_le6 hD
  have h2 : 2 ^ (D - e) ≤ 64 := pow_le6 (by omega)
  have h3 := runF_le D e i
  exact drun_core p off D e i (2 ^ (D - e)) (i / 2 ^ (D - e)) (runF D e i) w1 hD hi he rfl (pow_pos' _) h2 rfl rfl (by omega)

theorem topN_dir {h D : Nat} (hh : h < 18446744073709551616) (hD : D ≤ 6) : topN h (D : Int) = headN h D := by
  unfold topN headN
  by_cases h1 : 1 ≤ D
  · rw [if_pos ⟨by omega, by omega⟩, Int.toNat_natCast]
  · obtain rfl : D = 0 := by omega
    rw [if_neg (by omega), Nat.sub_zero]
    exact (Nat.div_eq_of_lt hh).symm

set_option maxHeartbeats 2000000 in
theorem dpick_any {w w1 : World} {p : Nat} {X : Nat → Prop} {d : AD} {off D : Nat} {ts : List Int} (h : DirO w w1 p X d off D ts) (hash : Nat) (hh : hash < 18446744073709551616) (hi : headN hash D < ts.length) :
    Calls Tryz.prog 7 #[.agg #[.pointer (some ⟨p, 0, none⟩), .int .i64 (off : Int), .int .i64 (D : Int)], .int .u64 (hash : Int)] w1 fun e w' => e = .returned (.tuple #[.int .i64 ((headN hash D : Nat) : Int), .int .i64 ts[headN hash D], .int .i64 0]) ∧ Keeps w1 w' (fun _ => False) := by
  have hT := fun W => top_any hash (D : Int) hh W
  rw [topN_dir hh h.dep] at hT
  have hE := fun W (k : Keeps w1 W (fun _ => False)) => dentry_any (h.stay k) ((headN hash D : Nat) : Int)
  have ev : entV ts ((headN hash D : Nat) : Int) = (ts[headN hash D], 0) := by
    unfold entV
    rw [if_pos ⟨by omega, by omega⟩, Int.toNat_natCast, List.getD_eq_getElem?_getD, List.getElem?_eq_getElem hi]
    rfl
  rw [ev] at hE
  have C0 : Hid (C3 (w1.alloc (.cells #[.pointer (some ⟨p, 0, none⟩), .int .i64 (off : Int), .int .i64 (D : Int)] 26)) w1.heap.size p off D) := c3_of (heap_alloc_new _ _)
  have K0 : Keeps w1 (w1.alloc (.cells #[.pointer (some ⟨p, 0, none⟩), .int .i64 (off : Int), .int .i64 (D : Int)] 26)) (fun _ => False) := (Keeps.refl _ _).alloc _
  clear ev h
  generalize ts[headN hash D] = t at *
  clear hi
  generalize headN hash D = n at *
  go_enter Tryz.func7, Tryz.ntmps7
  go_wp2_with fail
  (with_reducible refine (hT _).mono ?_)
  rintro e w2 ⟨rfl, rfl⟩
  obtain ⟨c0, c1, c2⟩ := C0.out
  clear hT
  go_wp2_with fail
  (with_reducible refine (hE _ K0).mono ?_)
  rintro e w3 ⟨rfl, k3⟩
  have K3 : Hid (Keeps w1 w3 (fun _ => False)) := K0.trans k3 (fun _ _ e => e)
  clear c0 c1 c2 hE k3
  go_wp2_with fail
  go_ret3
  exact ⟨rfl, K3.out⟩
end Go.Proofs.YtdhphakjkgfngaaGreatDoor
/-
  Place of dir.
-/
namespace Go.Proofs.YtdhphakjkgfngaaGreatDoor
open Go.RowKit Go.Shelf
set_option linter.unusedVariables false

/-- All blocks made since are the call's own. -/
theorem Own.own_more {w w1 W : World} {p : Nat} {X : Nat → Prop} {d : AD} (h : Own w w1 p X d) (k : Keeps w1 W (fun _ => False)) : Own w W p (fun i => X i ∨ (w1.heap.size ≤ i ∧ i < W.heap.size)) d :=
  ⟨(h.here.keeps k (fun _ _ _ e => e)).mono (fun i hi e => ⟨e.1.1, fun q => q.elim e.1.2 (fun q => by omega)⟩), h.keeps.trans k (fun _ _ e => e)⟩
theorem DirO.grow {w w1 W : World} {p : Nat} {X : Nat → Prop} {d : AD} {off D : Nat} {ts : List Int} (h : DirO w w1 p X d off D ts) (k : Keeps w1 W (fun _ => False)) : DirO w W p (fun i => X i ∨ (w1.heap.size ≤ i ∧ i < W.heap.size)) d off D ts :=
  ⟨h.own.own_more k, h.fine, h.well, h.dir, h.len, h.dep, h.fit⟩
theorem DirO.less {w w1 : World} {p : Nat} {X Y : Nat → Prop} {d : AD} {off D : Nat} {ts : List Int} (h : DirO w w1 p X d off D ts) (hY : ∀ k, Y k → X k) : DirO w w1 p Y d off D ts :=
  ⟨h.own.less (fun k _ _ e => hY k e), h.fine, h.well, h.dir, h.len, h.dep, h.fit⟩

/-- Those entries are that table. -/
def putR (ts : List Int) (f n : Nat) (t : Int) : List Int := (List.range ts.length).map fun j => if f ≤ j ∧ j < f + n then t else ts.getD j 0
theorem putR_length (ts : List Int) (f n : Nat) (t : Int) : (putR ts f n t).length = ts.length := by simp [putR]
theorem putR_get {ts : List Int} {f n : Nat} {t : Int} {j : Nat} (h : j < (putR ts f n t).length) : (putR ts f n t)[j] = if f ≤ j ∧ j < f + n then t else ts[j]'(by rw [putR_length] at h; exact h) := by
  have h2 := h
  rw [putR_length] at h2
  simp only [putR, List.getElem_map, List.getElem_range]
  rw [List.getD_eq_getElem?_getD, List.getElem?_eq_getElem h2]
  rfl
theorem putR_zero (ts : List Int) (f : Nat) (t : Int) : putR ts f 0 t = ts := by
  apply List.ext_getElem (putR_length ..)
  intro j h1 h2
  rw [putR_get, if_neg (by omega)]
theorem putR_succ {ts : List Int} {f k : Nat} (t : Int) (h : f + k < ts.length) : (putR ts f k t).set (f + k) t = putR ts f (k + 1) t := by
  apply List.ext_getElem (by rw [List.length_set, putR_length, putR_length])
  intro j h1 h2
  rw [List.getElem_set, putR_get h2]
  by_cases e : f + k = j
  · rw [if_pos e, if_pos (by omega)]
  · rw [if_neg e, putR_get]
    by_cases q : f ≤ j ∧ j < f + k
    · rw [if_pos q, if_pos (by omega)]
    · rw [if_neg q, if_neg (by omega)]

set_option maxHeartbeats 2000000 in
theorem dplace_no (p off D : Nat) (i e t : Int) (w1 : World) (hD : D ≤ 6) (h : ¬ (0 ≤ i ∧ i < ((2 ^ D : Nat) : Int)) ∨ e < 0 ∨ (D : Int) < e) :
    Calls Tryz.prog 16 #[.agg #[.pointer (some ⟨p, 0, none⟩), .int .i64 (off : Int), .int .i64 (D : Int)], .int .i64 i, .int .i64 e, .int .i64 t] w1 fun r w' => r = .returned (.int .i64 101) ∧ Keeps w1 w' (fun _ => False) := by
  have hR := fun W => drun_no p off D i e W hD h
  have K0 : Keeps w1 (w1.alloc (.cells #[.pointer (some ⟨p, 0, none⟩), .int .i64 (off : Int), .int .i64 (D : Int)] 26)) (fun _ => False) := (Keeps.refl _ _).alloc _
  clear h
  go_enter Tryz.func16, Tryz.ntmps16
  go_wp2_with fail
  (with_reducible refine (hR _).mono ?_)
  rintro e w2 ⟨rfl, k2⟩
  have K2 : Hid (Keeps w1 w2 (fun _ => False)) := K0.trans k2 (fun _ _ e => e)
  clear hR k2
  go_wp2_with fail
  go_ret
  exact ⟨rfl, K2.out⟩

abbrev DirB (W : World) (b p off D : Nat) : Prop := W.heap[b]? = some (.cells #[.pointer (some ⟨p, 0, none⟩), .int .i64 (off : Int), .int .i64 (D : Int)] 26)
def PutRel (w w1 : World) (p : Nat) (X : Nat → Prop) (d : AD) (off D : Nat) (ts : List Int) (M b : Nat) (wr : World) : Prop :=
  ∃ d', DirO w wr p (fun i => X i ∨ (w1.heap.size ≤ i ∧ i < M)) d' off D ts ∧ Wr d d' off (8 * ts.length) ∧ DirB wr b p off D ∧ Keeps w1 wr (fun k => (w.heap.size ≤ k ∧ ¬ X k) ∧ k < w1.heap.size) ∧ M ≤ wr.heap.size
theorem PutRel.store {w w1 : World} {p : Nat} {X : Nat → Prop} {d : AD} {off D : Nat} {ts : List Int} {M b : Nat} {wr : World} (h : PutRel w w1 p X d off D ts M b wr) (hX : ∀ k, X k → k < w1.heap.size) (hb : w1.heap.size ≤ b ∧ b < M) (i : Nat) (hi : i < ts.length) (v : Int) (hv : fitsI v) :
    Calls Tryz.prog 27 #[.agg #[.pointer (some ⟨p, 0, none⟩), .int .i64 (off : Int), .int .i64 (D : Int)], .int .i64 (i : Int), .int .i64 v] wr fun e w' => e = .returned (.int .i64 0) ∧ PutRel w w1 p X d off D (ts.set i v) M b w' := by
  obtain ⟨d', hd, hw, hB, k, hM⟩ := h
  refine (dstore_any hd (fun j hj => hj.elim (fun e => by have := hX _ e; have := k.size; omega) (fun e => by omega)) i hi v hv).mono ?_
  rintro e w' ⟨rfl, d2, h2, hw2, k2⟩
  refine ⟨rfl, d2, h2, by rw [List.length_set]; exact hw.trans hw2, (k2.block b (heap_lt hB) (fun e => e.1.2 (Or.inr hb))).trans hB, k.trans k2 (fun i hi e => ⟨⟨e.1.1, fun q => e.1.2 (Or.inl q)⟩, hi⟩), Nat.le_trans hM k2.size⟩
theorem PutRel.out {w w1 : World} {p : Nat} {X : Nat → Prop} {d : AD} {off D : Nat} {ts : List Int} {M b : Nat} {wr : World} (h : PutRel w w1 p X d off D ts M b wr) : ∃ d', DirO w wr p X d' off D ts ∧ Wr d d' off (8 * ts.length) ∧ Keeps w1 wr (fun k => (w.heap.size ≤ k ∧ ¬ X k) ∧ k < w1.heap.size) := by
  obtain ⟨d', hd, hw, hB, k, hM⟩ := h
  exact ⟨d', hd.less (fun k e => Or.inl e), hw, k⟩

set_option maxRecDepth 100000 in
set_option maxHeartbeats 2000000 in
theorem dplace_yes {w w1 : World} {p : Nat} {X : Nat → Prop} {d : AD} {off D : Nat} {ts : List Int} (h : DirO w w1 p X d off D ts) (hX : ∀ k, X k → k < w1.heap.size) (i e : Nat) (hi : i < 2 ^ D) (he : e ≤ D) (t : Int) (ht : fitsI t) :
    Calls Tryz.prog 16 #[.agg #[.pointer (some ⟨p, 0, none⟩), .int .i64 (off : Int), .int .i64 (D : Int)], .int .i64 (i : Int), .int .i64 (e : Int), .int .i64 t] w1 fun r w' => r = .returned (.int .i64 0) ∧ ∃ d', DirO w w' p X d' off D (putR ts (runF D e i) (2 ^ (D - e)) t) ∧ Wr d d' off (8 * ts.length) ∧ Keeps w1 w' (fun k => (w.heap.size ≤ k ∧ ¬ X k) ∧ k < w1.heap.size) := by
  have hR := fun W => drun_yes p off D e i W h.dep hi he
  have hin := run_in hi he
  have hlen := h.len
  obtain ⟨l1, l2, l3⟩ := h.low
  have hL := fun W (k : Keeps w1 W (fun _ => False)) => dlist_any (h.stay k) (runF D e i) (2 ^ (D - e)) (by omega)
  have C0 : Hid (DirB (w1.alloc (.cells #[.pointer (some ⟨p, 0, none⟩), .int .i64 (off : Int), .int .i64 (D : Int)] 26)) w1.heap.size p off D) := heap_alloc_new _ _
  have K0 : Keeps w1 (w1.alloc (.cells #[.pointer (some ⟨p, 0, none⟩), .int .i64 (off : Int), .int .i64 (D : Int)] 26)) (fun _ => False) := (Keeps.refl _ _).alloc _
  generalize runF D e i = f at *
  generalize 2 ^ (D - e) = n at *
  have hfn : f + n ≤ ts.length := by omega
  clear hin hi he hlen
  go_enter Tryz.func16, Tryz.ntmps16
  go_wp2_with fail
  (with_reducible refine (hR _).mono ?_)
  rintro e w2 ⟨rfl, k2⟩
  have B2 := k2.blk C0.out
  have K2 : Keeps w1 w2 (fun _ => False) := K0.trans k2 (fun _ _ e => e)
  clear hR k2 K0 C0
  obtain ⟨⟨c0, c1, c2⟩, -⟩ := three_cells B2
  go_wp2_with fail
  (with_reducible refine (hL _ K2).mono ?_)
  rintro e w3 ⟨v, rfl, -, k3⟩
  have B3 := k3.blk B2
  have K3 : Keeps w1 w3 (fun _ => False) := K2.trans k3 (fun _ _ e => e)
  clear hL k3 B2 c0 c1 c2 K2
  have R0 : Hid (PutRel w w1 p X d off D ts w3.heap.size w1.heap.size w3) := ⟨d, h.grow K3, Wr.refl _ _ _, B3, K3.mono (fun _ _ e => e.elim), Nat.le_refl _⟩
  have hlt0 : w1.heap.size < w3.heap.size := heap_lt B3
  generalize w3.heap.size = M at *
  go_wp2_with fail
  go_loopw [37] (fun vi wr => ∃ k : Nat, vi = .int .i64 (k : Int) ∧ k ≤ n ∧ PutRel w w1 p X d off D (putR ts f k t) M w1.heap.size wr) (fun vi _ => n - (intOf vi).toNat)
  case atStart => exact ⟨0, rfl, Nat.zero_le _, by rw [putR_zero]; exact R0.out⟩
  case round =>
    obtain ⟨k, rfl, hk, hR⟩ := hrel
    clear R0
    by_cases hlt : k < n
    · have hlt' : (k : Int) < (n : Int) := by omega
      have hS := hR.store hX ⟨Nat.le_refl _, hlt0⟩ (f + k) (by rw [putR_length]; omega) t ht
      rw [putR_succ t (by omega)] at hS
      rw [show ((f + k : Nat) : Int) = (f : Int) + (k : Int) by omega] at hS
      obtain ⟨d', -, -, hB, -, -⟩ := hR
      obtain ⟨⟨c0, c1, c2⟩, -⟩ := three_cells hB
      clear hB B3
      go_wp2_with fail
      (with_reducible refine hS.mono ?_)
      rintro e w4 ⟨rfl, R4⟩
      have R4' := hide R4
      clear hS R4 c0 c1 c2
      go_wp2_with fail
      go_roundw
      case rel => exact ⟨k + 1, by go_num, by omega, R4'.out⟩
      case measure => simp [intOf]; omega
    · have hlt' : ¬ (k : Int) < (n : Int) := by omega
      obtain rfl : k = n := by omega
      have hfin := hide hR.out
      clear hR B3
      rw [putR_length] at hfin
      go_wp2_with fail
      go_ret
      exact ⟨rfl, hfin.out⟩
end Go.Proofs.YtdhphakjkgfngaaGreatDoor
/-
  New of dir.
-/
namespace Go.Proofs.YtdhphakjkgfngaaGreatDoor
open Go.RowKit Go.Shelf
set_option linter.unusedVariables false

set_option maxHeartbeats 400000 in
theorem dAt_any (p off D : Nat) (w : World) : Calls Tryz.prog 25 #[.pointer (some ⟨p, 0, none⟩), .int .i64 (off : Int), .int .i64 (D : Int)] w fun e w' => e = .returned (.agg #[.pointer (some ⟨p, 0, none⟩), .int .i64 (off : Int), .int .i64 (D : Int)]) ∧ Keeps w w' (fun _ => False) := by
  go_enter Tryz.func25, Tryz.ntmps25
  go_wp2_with fail
  refine bodyPost_ret (v := .agg #[.pointer (some ⟨p, 0, none⟩), .int .i64 (off : Int), .int .i64 (D : Int)]) (by simp [results, Tryz.results25, go_sem]) rfl ⟨rfl, ?_⟩
  exact ((Keeps.refl _ _).alloc _)

set_option maxHeartbeats 400000 in
theorem dDepth_any (p off D : Nat) (w : World) : Calls Tryz.prog 9 #[.agg #[.pointer (some ⟨p, 0, none⟩), .int .i64 (off : Int), .int .i64 (D : Int)]] w fun e w' => e = .returned (.int .i64 (D : Int)) ∧ Keeps w w' (fun _ => False) := by
  go_enter Tryz.func9, Tryz.ntmps9
  go_wp2_with fail
  go_ret
  exact ⟨rfl, (Keeps.refl _ _).alloc _⟩

set_option maxHeartbeats 1000000 in
theorem dnew_no (a : Value) (n cap : Nat) (x : Option Addr) (w : World) (h : depI n < 0) : Calls Tryz.prog 11 #[a, .slice x n cap] w fun e w' => e = .returned (.tuple #[.agg #[.pointer none, .int .i64 0, .int .i64 0], .int .i64 100]) ∧ Keeps w w' (fun _ => False) := by
  by_cases hb : 64 < n
  · have hb' : (64 : Int) < (n : Int) := by omega
    clear h
    go_enter Tryz.func11, Tryz.ntmps11
    go_wp2_with fail
    refine bodyPost_ret (v := .tuple #[.agg #[.pointer none, .int .i64 0, .int .i64 0], .int .i64 100]) (by simp [results, Tryz.results11, go_sem]) rfl ⟨rfl, ?_⟩
    exact ((Keeps.refl _ _).alloc _)
  · have hb' : ¬ (64 : Int) < (n : Int) := by omega
    have hO := fun W => ones_any n (by omega) W
    have hp := popN_one n (by omega)
    rw [decide_eq_true h] at hp
    clear h
    generalize popN n = q at *
    go_enter Tryz.func11, Tryz.ntmps11
    go_wp2_with fail
    (with_reducible refine (hO _).mono ?_)
    rintro e w2 ⟨rfl, rfl⟩
    clear hO
    go_wp2_with fail
    refine bodyPost_ret (v := .tuple #[.agg #[.pointer none, .int .i64 0, .int .i64 0], .int .i64 100]) (by simp [results, Tryz.results11, go_sem]) rfl ⟨rfl, ?_⟩
    exact ((Keeps.refl _ _).alloc _)

set_option maxHeartbeats 1000000 in
theorem dnew_room {w w1 : World} {p : Nat} {X : Nat → Prop} {d : AD} (h : Own w w1 p X d) (hF : d.Fine) (n cap : Nat) (x : Option Addr) (hn : ¬ depI n < 0) (hr : d.limit < d.used + classN (8 * n)) :
    Calls Tryz.prog 11 #[.pointer (some ⟨p, 0, none⟩), .slice x n cap] w1 fun e w' => e = .returned (.tuple #[.agg #[.pointer none, .int .i64 0, .int .i64 0], .int .i64 22]) ∧ Keeps w1 w' (fun _ => False) := by
  obtain ⟨D, hD, hnD, -, h64, h1⟩ := depI_yes hn
  have hb' : ¬ (64 : Int) < (n : Int) := by omega
  have hO := fun W => ones_any n (by omega) W
  have hp := popN_one n (by omega)
  rw [decide_eq_false hn] at hp
  have K0 : Keeps w1 (w1.alloc (.cells #[.pointer none, .int .i64 0, .int .i64 0] 26)) (fun _ => False) := (Keeps.refl _ _).alloc _
  have hA := fun W (k : Keeps w1 W (fun _ => False)) => alloc_no (h.stay k).arena hF (8 * n) (by omega) (by omega) hr
  rw [show ((8 * n : Nat) : Int) = (n : Int) * 8 by omega] at hA
  clear hn hnD hr
  generalize popN n = q at *
  go_enter Tryz.func11, Tryz.ntmps11
  go_wp2_with fail
  (with_reducible refine (hO _).mono ?_)
  rintro e w2 ⟨rfl, rfl⟩
  clear hO
  go_wp2_with fail
  (with_reducible refine (hA _ K0).mono ?_)
  rintro e w3 ⟨rfl, k3⟩
  have K3 : Keeps w1 w3 (fun _ => False) := K0.trans k3 (fun _ _ e => e)
  have B3 := k3.blk (heap_alloc_new w1 (.cells #[.pointer none, .int .i64 0, .int .i64 0] 26))
  obtain ⟨⟨c0, c1, c2⟩, f0, f1, f2⟩ := three_cells B3
  clear hA k3
  go_wp2_with fail
  refine three_set B3 K3 (fun h => by omega) (P := fun w9 => bodyPost _ _ _ _ _ w9) fun w9 h9 k9 _ _ => ?_
  obtain ⟨⟨d0, d1, d2⟩, -⟩ := three_cells h9
  refine bodyPost_ret (v := .tuple #[.agg #[.pointer none, .int .i64 0, .int .i64 0], .int .i64 22]) (by simp [results, Tryz.results11, go_sem, d0, d1, d2]) rfl ⟨rfl, k9⟩

theorem Own.kept {w W W2 : World} {p : Nat} {X S : Nat → Prop} {d : AD} (h : Own w W p X d) (k : Keeps W W2 S) (hS : ∀ i, S i → X i) (hw : ∀ i, S i → w.heap.size ≤ i) : Own w W2 p X d :=
  ⟨h.arena.keeps k (fun i _ hi e => hi.2 (hS i e)), h.keeps.trans k (fun i hi e => by have := hw i e; omega)⟩
theorem DirO.kept {w W W2 : World} {p : Nat} {X S : Nat → Prop} {d : AD} {off D : Nat} {ts : List Int} (h : DirO w W p X d off D ts) (k : Keeps W W2 S) (hS : ∀ i, S i → X i) (hw : ∀ i, S i → w.heap.size ≤ i) : DirO w W2 p X d off D ts := ⟨h.own.kept k hS hw, h.fine, h.well, h.dir, h.len, h.dep, h.fit⟩
/-- The first k of them, then zeros. -/
def mixL (zs : List Int) (k : Nat) : List Int := zs.take k ++ List.replicate (zs.length - k) 0
theorem mix_length {zs : List Int} {k : Nat} (h : k ≤ zs.length) : (mixL zs k).length = zs.length := by
  simp [mixL]
  omega
theorem mix_zero (zs : List Int) : mixL zs 0 = List.replicate zs.length 0 := by simp [mixL]
theorem mix_full (zs : List Int) : mixL zs zs.length = zs := by simp [mixL]
theorem mix_set {zs : List Int} {k : Nat} (h : k < zs.length) : (mixL zs k).set k zs[k] = mixL zs (k + 1) := by
  unfold mixL
  have hl : (zs.take k).length = k := by rw [List.length_take]; omega
  obtain ⟨m, hm⟩ : ∃ m, zs.length - k = m + 1 := ⟨zs.length - k - 1, by omega⟩
  have hm' : zs.length - (k + 1) = m := by omega
  rw [List.set_append_right _ _ (by omega), hl, Nat.sub_self, hm, hm', List.replicate_succ, List.set_cons_zero, List.take_succ_eq_append_getElem h, List.append_assoc]
  rfl
def DNewPost (w w1 : World) (p : Nat) (X : Nat → Prop) (d : AD) (zs : List Int) (e : Ending) (w' : World) : Prop :=
  ∃ (D off : Nat) (d1 d' : AD), depI zs.length = D ∧ off = (listT d (classN (8 * zs.length))).1 ∧ e = .returned (.tuple #[.agg #[.pointer (some ⟨p, 0, none⟩), .int .i64 (off : Int), .int .i64 (D : Int)], .int .i64 0]) ∧ TookB d d1 off (classN (8 * zs.length)) ∧ DirO w w' p X d' off D zs ∧ Wr d1 d' off (8 * zs.length) ∧ Keeps w1 w' (fun k => (w.heap.size ≤ k ∧ ¬ X k) ∧ k < w1.heap.size)
theorem le_class {n : Nat} (h1 : 1 ≤ n) (h2 : n ≤ 1048576) : n ≤ classN n := (class_le n h1 h2).1

set_option maxRecDepth 100000 in
set_option maxHeartbeats 2000000 in
theorem dnew_yes {w w1 : World} {p : Nat} {X : Nat → Prop} {d : AD} (h : Own w w1 p X d) (hF : d.Fine) (hW : d.Well) (hX : ∀ k, X k → k < w1.heap.size) (hT : TabAt w) (v : Value) (zs : List Int) (hz : InZ w1 v zs) (hzb : ∀ b, v.ownBlock = some b → b < w.heap.size ∨ X b)
    (hfit : ∀ i (h : i < zs.length), fitsI zs[i]) (hn : ¬ depI zs.length < 0) (hr : d.used + classN (8 * zs.length) ≤ d.limit) :
    Calls Tryz.prog 11 #[.pointer (some ⟨p, 0, none⟩), v] w1 fun e w' => DNewPost w w1 p X d zs e w' := by
  obtain ⟨D, hD, hnD, hdD, h64, h1⟩ := depI_yes hn
  obtain ⟨x, cap, rfl, hc⟩ := hz.form
  have hb' : ¬ (64 : Int) < (zs.length : Int) := by omega
  have hO := fun W => ones_any zs.length (by omega) W
  have hp := popN_one zs.length (by omega)
  rw [decide_eq_false hn] at hp
  have hA := fun W (k : Keeps w1 W (fun _ => False)) => own_alloc (h.own_more k) hF listOK hW (8 * zs.length) (by omega) (by omega) hr
  rw [show ((8 * zs.length : Nat) : Int) = (zs.length : Int) * 8 by omega] at hA
  have hB := list_B hF hW (class_in (8 * zs.length) (by omega) (by omega)) hr
  generalize hoff : (listT d (classN (8 * zs.length))).1 = off at *
  have HO := hide hoff.symm
  clear hoff
  generalize (listT d (classN (8 * zs.length))).2 = d1 at *
  generalize popN zs.length = q at *
  have HnD : Hid (zs.length = 2 ^ D) := hnD
  have HdD := hide hdD
  clear hnD hdD
  go_enter Tryz.func11, Tryz.ntmps11
  go_wp2_with fail
  refine alloc1 (P := fun W => Calls _ _ _ W _) fun W1 B1 S1 K0 => ?_
  (with_reducible refine (hO _).mono ?_)
  rintro e w2 ⟨rfl, rfl⟩
  clear hO
  go_wp2_with fail
  (with_reducible refine (hA _ K0).mono ?_)
  rintro e w3 ⟨rfl, T3⟩
  clear hA
  have hX1 : ∀ k, (X k ∨ (w1.heap.size ≤ k ∧ k < w2.heap.size)) → k < w2.heap.size := fun k hk => hk.elim (fun e => by have := hX _ e; omega) (fun e => e.2)
  have h3 := (h.own_more K0).turn T3 hX1
  have B3 := (T3.2.block _ (heap_lt B1) (fun e => e.1.2 (Or.inr ⟨Nat.le_refl _, heap_lt B1⟩))).trans B1
  have K3 := T3.2
  have hZ := tz_pow HnD.out hD (hT.keeps h3.keeps)
  have hAt := fun W => dAt_any p off D W
  go_wp2_with fail
  (with_reducible refine hZ.mono ?_)
  rintro e w4 ⟨rfl, rfl⟩
  clear hZ
  go_wp2_with fail
  (with_reducible refine (hAt _).mono ?_)
  rintro e w5 ⟨rfl, k5⟩
  clear hAt
  have D4 : DirO w w4 p (fun i => X i ∨ (w1.heap.size ≤ i ∧ i < w2.heap.size)) d1 off D (mixL zs 0) := ⟨h3, hB.fine, hB.well, by rw [mix_zero]; exact hB.dir zs.length (le_class (by omega) (by omega)), by rw [mix_length (Nat.zero_le _)]; exact HnD.out, hD, fun i hi => by
    simp only [mix_zero, List.getElem_replicate]
    exact fitsI_mk (by omega) (by omega)⟩
  have R0 : Hid (PutRel w w4 p (fun i => X i ∨ (w1.heap.size ≤ i ∧ i < w2.heap.size)) d1 off D (mixL zs 0) (w5.alloc (.cells #[.pointer (some ⟨p, 0, none⟩), .int .i64 (off : Int), .int .i64 (D : Int)] 26)).heap.size w5.heap.size (w5.alloc (.cells #[.pointer (some ⟨p, 0, none⟩), .int .i64 (off : Int), .int .i64 (D : Int)] 26))) :=
    ⟨d1, D4.grow (k5.alloc _), Wr.refl _ _ _, heap_alloc_new _ _, (k5.alloc _).mono (fun _ _ e => e.elim), Nat.le_refl _⟩
  have hMs : (w5.alloc (.cells #[.pointer (some ⟨p, 0, none⟩), .int .i64 (off : Int), .int .i64 (D : Int)] 26)).heap.size = w5.heap.size + 1 := by simp
  rw [hMs] at R0
  have hs5 := k5.size
  have hs3 := K3.size
  have HB := hide hB
  have hXX : Hid (∀ k, (X k ∨ (w1.heap.size ≤ k ∧ k < w2.heap.size)) → k < w4.heap.size) := fun k hk => by have := hX1 k hk; omega
  clear D4 k5 hMs hB hX1
  go_wp2_with fail
  go_loopw [42] (fun vi wr => ∃ k : Nat, vi = .int .i64 (k : Int) ∧ k ≤ zs.length ∧ PutRel w w4 p (fun i => X i ∨ (w1.heap.size ≤ i ∧ i < w2.heap.size)) d1 off D (mixL zs k) (w5.heap.size + 1) w5.heap.size wr) (fun vi _ => zs.length - (intOf vi).toNat)
  case atStart => exact ⟨0, rfl, Nat.zero_le _, R0.out⟩
  case round =>
    obtain ⟨k, rfl, hk, hR⟩ := hrel
    clear R0
    have KK : Keeps w1 wr (fun i => (w.heap.size ≤ i ∧ ¬ X i) ∧ i < w1.heap.size) := by
      obtain ⟨_, _, _, _, k6, _⟩ := hR
      exact ((K0.mono (fun _ _ e => e.elim)).trans K3 (fun i hi e => ⟨⟨e.1.1, fun q => e.1.2 (Or.inl q)⟩, hi⟩)).trans k6 (fun i hi e => ⟨⟨e.1.1, fun q => e.1.2 (Or.inl q)⟩, hi⟩)
    by_cases hlt : k < zs.length
    · have hlt' : (k : Int) < (zs.length : Int) := by omega
      obtain ⟨b, o, rfl, hcell⟩ := hc k hlt
      have hbl : b < w1.heap.size := by
        refine Nat.lt_of_not_le fun hn => ?_
        rw [World.cell?, Array.getElem?_eq_none hn] at hcell
        cases hcell
      replace hcell := (World.cell?_of_block (w := w1) (a := ⟨b, o + k, none⟩) (KK.block b hbl (fun e => (hzb b (by simp [Value.ownBlock])).elim (fun q => by omega) e.1.2))).trans hcell
      have hS := hR.store hXX.out ⟨hs5, Nat.lt_succ_self _⟩ k (by rw [mix_length hk]; exact hlt) zs[k] (hfit k hlt)
      rw [mix_set hlt] at hS
      obtain ⟨d', -, -, hBB, -, -⟩ := hR
      obtain ⟨⟨c0, c1, c2⟩, -⟩ := three_cells hBB
      clear hBB hc hz hzb hfit
      generalize zs[k] = z at *
      go_wp2_with fail
      (with_reducible refine hS.mono ?_)
      rintro e w7 ⟨rfl, R7⟩
      have R7' := hide R7
      clear hS R7 c0 c1 c2
      go_wp2_with fail
      go_roundw
      case rel => exact ⟨k + 1, by go_num, by omega, R7'.out⟩
      case measure => simp [intOf]; omega
    · have hlt' : ¬ (k : Int) < (zs.length : Int) := by omega
      obtain rfl : k = zs.length := by omega
      obtain ⟨d', hD7, hW7, hB7, k7, hM7⟩ := hR
      rw [mix_full] at hD7 hW7
      have B7 := (k7.block _ (heap_lt B3) (fun e => e.1.2 (Or.inr ⟨Nat.le_refl _, heap_lt B1⟩))).trans B3
      obtain ⟨⟨c0, c1, c2⟩, -⟩ := three_cells hB7
      obtain ⟨⟨e0, e1, e2⟩, f0, f1, f2⟩ := three_cells B7
      have HD7 := hide hD7
      have HW7 := hide hW7
      clear hc hz hzb hfit hD7 hW7 k7
      go_wp2_with fail
      refine three_set B7 (Keeps.refl wr (fun i => i = w1.heap.size)) (fun _ => rfl) (P := fun w9 => bodyPost _ _ _ _ _ w9) fun w9 h9 k9 _ _ => ?_
      obtain ⟨⟨d0, d1', d2⟩, -⟩ := three_cells h9
      refine bodyPost_ret (v := .tuple #[.agg #[.pointer (some ⟨p, 0, none⟩), .int .i64 (off : Int), .int .i64 (D : Int)], .int .i64 0]) (by simp [results, Tryz.results11, go_sem, d0, d1', d2]) rfl ⟨D, off, d1, d', HdD.out, HO.out, rfl, HB.out, ?_, HW7.out, KK.trans k9 (fun i hi e => by omega)⟩
      have hw1 := h.keeps.size
      exact (HD7.out.kept k9 (fun i e => Or.inl (Or.inr (by subst e; exact ⟨Nat.le_refl _, by omega⟩))) (fun i e => by omega)).less (fun i e => Or.inl (Or.inl e))
end Go.Proofs.YtdhphakjkgfngaaGreatDoor
/-
  Free and Widen of dir.
-/
namespace Go.Proofs.YtdhphakjkgfngaaGreatDoor
open Go.RowKit Go.Shelf
set_option linter.unusedVariables false

def DFreePost (w w1 : World) (p : Nat) (X : Nat → Prop) (d : AD) (off : Nat) (e : Ending) (w' : World) : Prop :=
  e = .returned (.int .i64 0) ∧ ∃ d', Gone d (off : Int) d' ∧ Own w w' p X d' ∧ Keeps w1 w' (fun k => (w.heap.size ≤ k ∧ ¬ X k) ∧ k < w1.heap.size)
set_option maxHeartbeats 2000000 in
theorem dfree_any {w w1 : World} {p : Nat} {X : Nat → Prop} {d : AD} (h : Own w w1 p X d) (hF : d.Fine) (off D : Nat) (s : Int) (hz : d.lv (off : Int) = some s) (hX : ∀ k, X k → k < w1.heap.size) :
    Calls Tryz.prog 32 #[.agg #[.pointer (some ⟨p, 0, none⟩), .int .i64 (off : Int), .int .i64 (D : Int)]] w1 fun e w' => DFreePost w w1 p X d off e w' := by
  have K0 : Keeps w1 (w1.alloc (.cells #[.pointer (some ⟨p, 0, none⟩), .int .i64 (off : Int), .int .i64 (D : Int)] 26)) (fun _ => False) := (Keeps.refl _ _).alloc _
  have hA := own_free1 (h.own_more K0) hF (off : Int) s hz (fun k hk => hk.elim (fun e => by have := hX _ e; have := K0.size; omega) (fun e => e.2))
  have hsz : (w1.alloc (.cells #[.pointer (some ⟨p, 0, none⟩), .int .i64 (off : Int), .int .i64 (D : Int)] 26)).heap.size = w1.heap.size + 1 := by simp
  rw [hsz] at hA
  go_enter Tryz.func32, Tryz.ntmps32
  go_wp2_with fail
  (with_reducible refine hA.mono ?_)
  rintro e w2 ⟨rfl, d', hg, ho, k2⟩
  have HP : Hid (DFreePost w w1 p X d off (.returned (.int .i64 0)) w2) := ⟨rfl, d', hg, ho.less (fun k _ _ e => Or.inl e), (K0.mono (fun _ _ e => e.elim)).trans k2 (fun i hi e => ⟨⟨e.1.1, fun q => e.1.2 (Or.inl q)⟩, hi⟩)⟩
  clear hA hg ho k2
  go_wp2_with fail
  go_ret
  exact HP.out

set_option maxHeartbeats 2000000 in
theorem dwiden_six (p off D : Nat) (w1 : World) (hD : D = 6) : Calls Tryz.prog 14 #[.agg #[.pointer (some ⟨p, 0, none⟩), .int .i64 (off : Int), .int .i64 (D : Int)]] w1 fun e w' => e = .returned (.tuple #[.agg #[.pointer none, .int .i64 0, .int .i64 0], .int .i64 81]) ∧ Keeps w1 w' (fun _ => False) := by
  have hV := fun W => dvalid_any p off D W (by omega)
  have h6 : ((D : Int) == 6) = true := by simp; omega
  have h7 : (D : Int) = 6 := by omega
  have H7 := hide h7
  clear hD h7
  go_enter Tryz.func14, Tryz.ntmps14
  go_wp2_with fail
  refine alloc2 (P := fun W => Calls _ _ _ W _) fun W0 hb hr hz K0 => ?_
  (with_reducible refine (hV _).mono ?_)
  rintro e w2 ⟨rfl, k2⟩
  have B2 := k2.blk hb
  have R2 := k2.blk hr
  have K2 : Keeps w1 w2 (fun _ => False) := K0.trans k2 (fun _ _ e => e)
  obtain ⟨⟨c0, c1, c2⟩, -⟩ := three_cells B2
  obtain ⟨⟨e0, e1, e2⟩, f0, f1, f2⟩ := three_cells R2
  clear hV k2 hb hr
  go_wp2_with fail
  refine three_set R2 K2 (fun h => by omega) (P := fun w9 => bodyPost _ _ _ _ _ w9) fun w9 h9 k9 _ _ => ?_
  obtain ⟨⟨d0, d1, d2⟩, -⟩ := three_cells h9
  refine bodyPost_ret (v := .tuple #[.agg #[.pointer none, .int .i64 0, .int .i64 0], .int .i64 81]) (by simp [results, Tryz.results14, go_sem, d0, d1, d2]) rfl ⟨rfl, k9⟩

end Go.Proofs.YtdhphakjkgfngaaGreatDoor
