import Derived.Deep.RegionHeld
import Derived.Test.YtpomnjkfbdmfeaaAg13
/-
  The calls on two arenas beside one another.
-/
namespace Go.Proofs.Ytpomnjkfbdmfeaa
open Go.RowKit Go.Shelf
set_option linter.unusedVariables false

theorem ints_row {W : World} {B g : Nat} {os : List Int} (h : W.heap[g]? = some (.cells (os.map cellI).toArray 3)) (hB : B ≤ g) (hl : os.length ≤ 134217728) : W.ownsRow B 3 1 (.slice (some ⟨g, 0, none⟩) os.length os.length) os.length (os.map cellI) := by
  refine ⟨by simp, Or.inr ⟨g, os.length, _, rfl, hB, h, Nat.le_refl _, by simp only [maxLen]; omega, by simp, ?_⟩⟩
  rw [List.take_of_length_le (by simp)]
theorem row_cells {W : World} {B g cap : Nat} {os : List Int} (h : W.ownsRow B 3 1 (.slice (some ⟨g, 0, none⟩) os.length cap) os.length (os.map cellI)) : ∀ j (hj : j < os.length), W.cell? ⟨g, 0 + j, none⟩ = some (.int .i64 os[j]) := fun j hj => by
  have := h.cells (g := g) rfl j (cellI os[j]) (by rw [List.getElem?_map, List.getElem?_eq_getElem hj]; rfl)
  rw [addr_add] at this
  simpa [cellI] using this
theorem row_below {W : World} {B g cap : Nat} {os : List Int} (h : W.ownsRow B 3 1 (.slice (some ⟨g, 0, none⟩) os.length cap) os.length (os.map cellI)) : IntsBelow W.heap.size W (some ⟨g, 0, none⟩) os :=
  Or.inr ⟨g, 0, rfl, (h.lt g rfl).2, fun j hj => by rw [row_cells h j hj]; simp [hj]⟩

section
variable {w W : World} {p q : Nat} {X Y : Nat → Prop} {d e : AD}
theorem two_all (h : TwoY w W p q X Y d e) (hF : d.Fine) (hW : d.Well) (b cap : Nat) (zs : List Int) (hX : X b) (hz : ∀ j (h : j < zs.length), W.cell? ⟨b, 0 + j, none⟩ = some (.int .i64 zs[j])) (hlen : zs.length ≤ 134217728) :
    Calls Try.prog 12 #[.pointer (some ⟨p, 0, none⟩), .slice (some ⟨b, 0, none⟩) zs.length cap] W fun r w' =>
      (refE d zs ≠ 0 ∧ r = .returned (.tuple #[.slice none 0 0, .int .i64 (refE d zs)]) ∧ Keeps W w' (fun _ => False)) ∨
      (refE d zs = 0 ∧ allOne zs ∧ fitsIn ((d.limit : Int) - (d.used : Int)) zs = true ∧ ∃ g, W.heap.size ≤ g ∧ r = .returned (.tuple #[.slice (some ⟨g, 0, none⟩) zs.length zs.length, .int .i64 0]) ∧ w'.heap[g]? = some (.cells ((takeAll listT d zs).1.map cellI).toArray 3) ∧ TwoY w w' p q (fun k => X k ∨ k = g) Y (takeAll listT d zs).2 e ∧ ∀ k, X k → w'.heap[k]? = W.heap[k]?) := by
  by_cases h0 : refE d zs = 0
  · have ha : allOne zs := by
      refine Classical.byContradiction fun hn => ?_
      unfold refE at h0
      rw [if_neg hn] at h0
      cases h0
    have hf : fitsIn ((d.limit : Int) - (d.used : Int)) zs = true := by
      unfold refE at h0
      rw [if_pos ha] at h0
      cases hq : fitsIn ((d.limit : Int) - (d.used : Int)) zs with
      | true => rfl
      | false => rw [hq] at h0; simp at h0
    have hA := allocAll_yes listOK h.a.here hW hF b 0 cap zs hz (fun x => x.1.2 (Or.inr hX)) (h.xs b hX).2 ha hf
    refine hA.mono ?_
    rintro r w' ⟨g, hg, rfl, hblk, har, hk⟩
    have hlen' := takeAll_length listT zs d
    have hsz := h.a.keeps.size
    refine Or.inr ⟨h0, ha, hf, g, hg, by rw [hlen'], hblk, ⟨⟨har.mono (fun i hi x => ⟨?_, ?_⟩), h.a.keeps.trans hk (fun i hi x => by have := x.1.1; omega)⟩, ?_, fun i y => Nat.lt_of_lt_of_le (h.ys i y) hk.size, fun i x => ?_⟩, fun k hx => hk.block k (h.xs k hx).2 (fun x => x.1.2 (Or.inr hx))⟩
    · rcases x.1 with y | y
      · exact y.1.1
      · omega
    · rintro (y | y | y)
      · rcases x.1 with z | z
        · exact z.1.2 (Or.inl y)
        · have := h.ys i y
          omega
      · rcases x.1 with z | z
        · exact z.1.2 (Or.inr y)
        · have := (h.xs i y).2
          omega
      · exact x.2 y
    · have h1 : Own w W q (fun k => ¬ Y k ∨ (X k ∨ k = g)) e := h.b.less (fun i hi _ x => by
        rcases x with x | x | x
        · exact Or.inl x
        · exact Or.inr x
        · omega)
      exact ⟨h1.arena.keeps hk (fun i _ x y => x.2 (Or.inl (fun hy => y.1.2 (Or.inl hy)))), h.b.keeps.trans hk (fun i hi x => by have := x.1.1; omega)⟩
    · rcases x with x | x
      · exact ⟨(h.xs i x).1, Nat.lt_of_lt_of_le (h.xs i x).2 hk.size⟩
      · subst x
        exact ⟨by omega, heap_lt hblk⟩
  · refine (allocAll_no h.a.arena hF (some ⟨b, 0, none⟩) cap zs (by omega) (fun j hj => ⟨b, 0, rfl, hz j hj⟩) _ rfl h0).mono ?_
    rintro r w' ⟨rfl, k⟩
    exact Or.inl ⟨h0, rfl, k⟩
theorem two_bad (h : TwoY w W p q X Y d e) (hF : d.Fine) (a : Option Addr) (cap : Nat) (zs : List Int) (h0 : 0 < zs.length) (h1 : zs.length ≤ 134217728) (hfit : ∀ z ∈ zs, fitsI z) (hI : IntsBelow W.heap.size W a zs) (hno : ¬ (zs.Nodup ∧ ∀ z ∈ zs, (d.lv z).isSome = true)) :
    Calls Try.prog 16 #[.pointer (some ⟨p, 0, none⟩), .slice a zs.length cap] W fun r w' => r = .returned (.int .i64 23) ∧ Keeps W w' (fun _ => False) := by
  refine (free_any h.a.here (fun k hk => hk.2) hF a cap zs h0 h1 hfit hI).mono ?_
  rintro r w' (⟨hg, _⟩ | ⟨_, rfl, k⟩)
  · exact absurd (good_two hg) hno
  · exact ⟨rfl, k⟩
theorem two_free (h : TwoY w W p q X Y d e) (hF : d.Fine) (a : Option Addr) (cap : Nat) (zs : List Int) (h1 : zs.length ≤ 134217728) (hI : IntsBelow W.heap.size W a zs) (hn : zs.Nodup) (hl : ∀ z ∈ zs, (d.lv z).isSome = true) :
    Calls Try.prog 16 #[.pointer (some ⟨p, 0, none⟩), .slice a zs.length cap] W fun r w' => r = .returned (.int .i64 0) ∧ ∃ d', Gones d zs d' ∧ TwoY w w' p q X Y d' e ∧ ∀ k, X k → w'.heap[k]? = W.heap[k]? := by
  rcases Nat.eq_zero_or_pos zs.length with h0 | h0
  · obtain rfl : zs = [] := List.length_eq_zero_iff.1 h0
    refine (free_none (w := W) (p := p) a cap).mono ?_
    rintro r w' ⟨rfl, k⟩
    exact ⟨rfl, d, rfl, h.keep k (fun _ x => x.elim) (fun i x => ⟨Or.inl x, Nat.lt_of_lt_of_le (h.xs i x).2 k.size⟩), fun i x => k.block i (h.xs i x).2 id⟩
  · refine (free_any h.a.here (fun k hk => hk.2) hF a cap zs h0 h1 (fun z hz => (lv_fits hF (hl z hz)).1) hI).mono ?_
    rintro r w' (⟨_, rfl, d', hg, ht⟩ | ⟨hno, _⟩)
    · obtain ⟨t1, t2⟩ := h.turnA ht
      exact ⟨rfl, d', hg.perm (rising_perm zs), t1, t2⟩
    · exact absurd (two_good hn hl) hno
theorem two_bfree (h : TwoY w W p q X Y d e) (hF : e.Fine) (z : Int) (hl : (e.lv z).isSome = true) :
    Calls Try.prog 16 #[.pointer (some ⟨q, 0, none⟩), .slice (some ⟨W.heap.size, 0, none⟩) 1 1] (W.alloc (.cells #[.int .i64 z] 3)) fun r w' => r = .returned (.int .i64 0) ∧ ∃ e' Y', Gone e z e' ∧ TwoY w w' p q X Y' d e' ∧ ∀ k, X k → w'.heap[k]? = W.heap[k]? := by
  obtain ⟨s, hs⟩ := Option.isSome_iff_exists.1 hl
  refine (own_free1 h.bb hF z s hs h.blt).mono ?_
  rintro r w' ⟨rfl, e', hg, ho, hk⟩
  obtain ⟨t1, t2⟩ := h.turnB' ho hk
  exact ⟨rfl, e', _, hg, t1, t2⟩
theorem two_balloc (h : TwoY w W p q X Y d e) (hF : e.Fine) (hW : e.Well) (n : Nat) (h1 : 1 ≤ n) (h2 : n ≤ 1048576) (h3 : e.used + classN n ≤ e.limit) :
    Calls Try.prog 17 #[.pointer (some ⟨q, 0, none⟩), .int .i64 (n : Int)] W fun r w' => r = .returned (.tuple #[.int .i64 ((listT e (classN n)).1 : Int), .int .i64 0]) ∧ ∃ Y', TwoY w w' p q X Y' d (listT e (classN n)).2 ∧ ∀ k, X k → w'.heap[k]? = W.heap[k]? := by
  refine (own_alloc h.bb hF listOK hW n h1 h2 h3).mono ?_
  rintro r w' ⟨rfl, ht⟩
  obtain ⟨t1, t2⟩ := h.turnB ht
  exact ⟨rfl, _, t1, t2⟩
theorem two_live (h : TwoY w W p q X Y d e) : Calls Try.prog 19 #[.pointer (some ⟨p, 0, none⟩)] W fun r w' => r = .returned (.int .i64 (d.used : Int)) ∧ w' = W := by
  obtain ⟨c, hc, _⟩ := h.a.arena
  exact live_any hc
theorem two_blive (h : TwoY w W p q X Y d e) : Calls Try.prog 19 #[.pointer (some ⟨q, 0, none⟩)] W fun r w' => r = .returned (.int .i64 (e.used : Int)) ∧ w' = W := by
  obtain ⟨c, hc, _⟩ := h.b.arena
  exact live_any hc
theorem two_end (h : TwoY w W p q X Y d e) : Calls Try.prog 20 #[.pointer (some ⟨p, 0, none⟩)] W fun r w' => r = .returned (.int .i64 (d.bs.length : Int)) ∧ w' = W := by
  obtain ⟨c, hc, _⟩ := h.a.arena
  exact end_any hc
theorem two_bend (h : TwoY w W p q X Y d e) : Calls Try.prog 20 #[.pointer (some ⟨q, 0, none⟩)] W fun r w' => r = .returned (.int .i64 (e.bs.length : Int)) ∧ w' = W := by
  obtain ⟨c, hc, _⟩ := h.b.arena
  exact end_any hc
end
end Go.Proofs.Ytpomnjkfbdmfeaa
/-
  Parts that are handed in, as data: possible, liveBytes.
-/
namespace Go.Proofs.Ytpomnjkfbdmfeaa
open Go.RowKit Go.Shelf
set_option linter.unusedVariables false

/-- A row of parts in the memory. -/
def PartsIn (w : World) (a : Option Addr) (ps : List (Int × Int × Bool)) : Prop := ps = [] ∨ ∃ b o, a = some ⟨b, o, none⟩ ∧ ∀ i (h : i < ps.length),
  w.cell? ⟨b, o + i * 3, none⟩ = some (.int .i64 ps[i].1) ∧ w.cell? ⟨b, o + i * 3 + 1, none⟩ = some (.int .i64 ps[i].2.1) ∧ w.cell? ⟨b, o + i * 3 + 2, none⟩ = some (.bool ps[i].2.2)
theorem PartsIn.keeps {w w' : World} {a : Option Addr} {ps : List (Int × Int × Bool)} (h : PartsIn w a ps) (k : Keeps w w' (fun _ => False)) : PartsIn w' a ps := by
  rcases h with h | ⟨b, o, e, hc⟩
  · exact Or.inl h
  · exact Or.inr ⟨b, o, e, fun i hi => ⟨k.cellK (hc i hi).1, k.cellK (hc i hi).2.1, k.cellK (hc i hi).2.2⟩⟩
def sumL : List (Int × Int × Bool) → Int
  | [] => 0
  | x :: r => (if x.2.2 = true then x.2.1 else 0) + sumL r
def sumP : List (Int × Int × Bool) → Int
  | [] => 0
  | x :: r => x.2.1 + sumP r
def clsP (c : Int) : List (Int × Int × Bool) → Int
  | [] => 0
  | x :: r => (if x.2.1 = c then x.2.1 else 0) + clsP c r
theorem sumL_snoc (l : List (Int × Int × Bool)) (x : Int × Int × Bool) : sumL (l ++ [x]) = sumL l + (if x.2.2 = true then x.2.1 else 0) := by
  induction l with
  | nil => simp [sumL]
  | cons y r ih => simp only [List.cons_append, sumL, ih]; omega
theorem sumP_snoc (l : List (Int × Int × Bool)) (x : Int × Int × Bool) : sumP (l ++ [x]) = sumP l + x.2.1 := by
  induction l with
  | nil => simp [sumP]
  | cons y r ih => simp only [List.cons_append, sumP, ih]; omega
theorem clsP_snoc (c : Int) (l : List (Int × Int × Bool)) (x : Int × Int × Bool) : clsP c (l ++ [x]) = clsP c l + (if x.2.1 = c then x.2.1 else 0) := by
  induction l with
  | nil => simp [clsP]
  | cons y r ih => simp only [List.cons_append, clsP, ih]; omega
theorem sumL_bound {m : Int} (hm : 0 ≤ m) : ∀ (l : List (Int × Int × Bool)), (∀ x ∈ l, 0 ≤ x.2.1 ∧ x.2.1 ≤ m) → 0 ≤ sumL l ∧ sumL l ≤ m * l.length
  | [], _ => by simp [sumL]
  | y :: r, h => by
    have ih := sumL_bound hm r (fun x hx => h x (List.mem_cons_of_mem _ hx))
    have hy := h y (List.mem_cons_self ..)
    have e : m * ((y :: r).length : Int) = m * (r.length : Int) + m := by simp [Int.mul_add]
    rw [e]
    simp only [sumL]
    split <;> omega
theorem sumP_bound {m : Int} (hm : 0 ≤ m) : ∀ (l : List (Int × Int × Bool)), (∀ x ∈ l, 0 ≤ x.2.1 ∧ x.2.1 ≤ m) → 0 ≤ sumP l ∧ sumP l ≤ m * l.length
  | [], _ => by simp [sumP]
  | y :: r, h => by
    have ih := sumP_bound hm r (fun x hx => h x (List.mem_cons_of_mem _ hx))
    have hy := h y (List.mem_cons_self ..)
    have e : m * ((y :: r).length : Int) = m * (r.length : Int) + m := by simp [Int.mul_add]
    rw [e]
    simp only [sumP]
    omega
theorem clsP_le (c : Int) : ∀ (l : List (Int × Int × Bool)), (∀ x ∈ l, 0 ≤ x.2.1) → 0 ≤ clsP c l ∧ clsP c l ≤ sumP l
  | [], _ => by simp [clsP, sumP]
  | y :: r, h => by
    have ih := clsP_le c r (fun x hx => h x (List.mem_cons_of_mem _ hx))
    have hy := h y (List.mem_cons_self ..)
    simp only [clsP, sumP]
    split <;> omega

set_option maxRecDepth 100000 in
set_option maxHeartbeats 1000000 in
theorem liveBytes_any (a : Option Addr) (ca : Nat) (ps : List (Int × Int × Bool)) (w : World) (hl : ps.length ≤ 134217728) (hs : ∀ x ∈ ps, 0 ≤ x.2.1 ∧ x.2.1 ≤ 1048576) (h1 : PartsIn w a ps) :
    Calls Try.prog 41 #[.slice a ps.length ca] w fun e w' => e = .returned (.int .i64 (sumL ps)) ∧ Keeps w w' (fun _ => False) := by
  go_enter Try.func41, Try.ntmps41
  go_wp2_with fail
  go_loopg [3, 8] ps.length (fun g s3 s8 wr => ∃ i : Nat, g = ps.length - i ∧ i ≤ ps.length ∧ s3 = .int .i64 (sumL (ps.take i)) ∧ s8 = .int .i64 (i : Int) ∧ Keeps w wr (fun _ => False))
  case atStart => exact ⟨0, rfl, Nat.zero_le _, rfl, rfl, Keeps.refl _ _⟩
  case round =>
    obtain ⟨i, rfl, hi, rfl, rfl, kr⟩ := hrel
    by_cases hlt : i < ps.length
    · rcases h1 with rfl | ⟨b1, o1, rfl, hc⟩
      · simp at hlt
      obtain ⟨x1, x2, x3⟩ := hc i hlt
      replace x1 := kr.cellK x1
      replace x2 := kr.cellK x2
      replace x3 := kr.cellK x3
      have hlt' : (i : Int) < (ps.length : Int) := by omega
      have e1 : sumL (ps.take (i + 1)) = sumL (ps.take i) + (if ps[i].2.2 = true then ps[i].2.1 else 0) := by rw [← List.take_append_getElem hlt]; exact sumL_snoc _ _
      have hsz := hs _ (List.getElem_mem hlt)
      have hbd := sumL_bound (m := 1048576) (by omega) (ps.take i) (fun x hx => hs x (List.mem_of_mem_take hx))
      have hbl : (ps.take i).length ≤ 134217728 := by rw [List.length_take]; omega
      have hb : 0 ≤ sumL (ps.take i) ∧ sumL (ps.take i) ≤ 1048576 * 134217728 := ⟨hbd.1, by have := hbd.2; omega⟩
      clear hc hbd hbl hs
      generalize ps[i].1 = y1 at *
      generalize ps[i].2.1 = y2 at *
      generalize ps[i].2.2 = y3 at *
      generalize sumL (ps.take i) = z at *
      cases y3 with
      | true =>
        rw [if_pos rfl] at e1
        have E1 := hide e1
        clear e1
        go_wp2_with fail
        go_roundg (ps.length - (i + 1))
        case measure => omega
        case rel => exact ⟨i + 1, rfl, by omega, by rw [E1.out], by simp, kr.alloc _⟩
      | false =>
        rw [if_neg (by simp), Int.add_zero] at e1
        have E1 := hide e1
        clear e1
        go_wp2_with fail
        go_roundg (ps.length - (i + 1))
        case measure => omega
        case rel => exact ⟨i + 1, rfl, by omega, by rw [E1.out], by simp, kr.alloc _⟩
    · obtain rfl : i = ps.length := by omega
      have hlt' : ¬ (ps.length : Int) < (ps.length : Int) := by omega
      have e : sumL (ps.take ps.length) = sumL ps := by rw [List.take_length]
      rw [e]
      clear e h1 hs
      go_wp2_with fail
      go_ret
      exact ⟨rfl, kr⟩
end Go.Proofs.Ytpomnjkfbdmfeaa
/-
  possible: can an arena have these parts?
-/
namespace Go.Proofs.Ytpomnjkfbdmfeaa
open Go.RowKit Go.Shelf
set_option linter.unusedVariables false

/-- May this part be there? -/
def okP (limit : Int) (ps : List (Int × Int × Bool)) (k : Nat) : Prop := ∀ (h : k < ps.length), ps[k].1 = 16 + sumP (ps.take k) ∧ classI ps[k].2.1 ≠ 0 ∧ ps[k].2.1 = classI ps[k].2.1 ∧ clsP ps[k].2.1 (ps.take (k + 1)) ≤ limit
theorem okP.size {limit : Int} {ps : List (Int × Int × Bool)} {k : Nat} (h : okP limit ps k) (hk : k < ps.length) : 0 ≤ ps[k].2.1 ∧ ps[k].2.1 ≤ 1048576 := by
  obtain ⟨_, h1, h2, _⟩ := h hk
  have := classI_bounds ps[k].2.1
  omega
theorem okP.sizes {limit : Int} {ps : List (Int × Int × Bool)} {i : Nat} (h : ∀ k, k < i → okP limit ps k) : ∀ x ∈ ps.take i, 0 ≤ x.2.1 ∧ x.2.1 ≤ 1048576 := fun x hx => by
  obtain ⟨j, hj, rfl⟩ := List.getElem_of_mem hx
  rw [List.length_take] at hj
  rw [List.getElem_take]
  exact (h j (by omega)).size (by omega)

def PossPost (limit : Int) (ps : List (Int × Int × Bool)) (w : World) (e : Ending) (w' : World) : Prop := ∃ t : Bool, e = .returned (.bool t) ∧ (t = true ↔ ∀ k, okP limit ps k) ∧ Keeps w w' (fun _ => False)

set_option maxRecDepth 100000 in
set_option maxHeartbeats 4000000 in
theorem possible_any (limit : Nat) (hlim : limit ≤ 2097152) (a : Option Addr) (ca : Nat) (ps : List (Int × Int × Bool)) (w : World) (hl : ps.length ≤ 134217728) (h1 : PartsIn w a ps) :
    Calls Try.prog 40 #[.int .i64 (limit : Int), .slice a ps.length ca] w fun e w' => PossPost limit ps w e w' := by
  have hmm := @run_makeMap Try.prog
  have hm0 := MapTo.made (c := cInt) Try.prog w
  have k0 : Keeps w (w.alloc (.map #[] 0)) (fun _ => False) := (Keeps.refl _ _).alloc _
  go_enter Try.func40, Try.ntmps40
  go_wp2_with fail
  go_loopw [5, 13] (fun ve vi wr => ∃ (i : Nat) (f : Int → Option Int), ve = .int .i64 (16 + sumP (ps.take i)) ∧ vi = .int .i64 (i : Int) ∧ i ≤ ps.length ∧ (∀ k, k < i → okP limit ps k) ∧ MapTo Try.prog cInt wr w.heap.size i f ∧ (∀ c, (f c).getD 0 = clsP c (ps.take i)) ∧ Keeps w wr (fun _ => False)) (fun _ vi _ => ps.length - (intOf vi).toNat)
  case atStart => exact ⟨0, fun _ => none, rfl, rfl, Nat.zero_le _, fun k hk => by omega, hm0, fun c => rfl, k0⟩
  case round =>
    clear hm0 k0 hmm
    obtain ⟨i, f, rfl, rfl, hi, hok, hm, hf, kr⟩ := hrel
    have hsz := okP.sizes hok
    have hbd := sumP_bound (m := 1048576) (by omega) (ps.take i) hsz
    have hbl : (ps.take i).length ≤ 134217728 := by rw [List.length_take]; omega
    have hb : 0 ≤ sumP (ps.take i) ∧ sumP (ps.take i) ≤ 1048576 * 134217728 := ⟨hbd.1, by have := hbd.2; omega⟩
    by_cases hlt : i < ps.length
    · rcases h1 with rfl | ⟨b1, o1, rfl, hc⟩
      · simp at hlt
      obtain ⟨x1, x2, x3⟩ := hc i hlt
      replace x1 := kr.cellK x1
      replace x2 := kr.cellK x2
      replace x3 := kr.cellK x3
      have hlt' : (i : Int) < (ps.length : Int) := by omega
      have e1 : Hid (sumP (ps.take (i + 1)) = sumP (ps.take i) + ps[i].2.1) := by rw [← List.take_append_getElem hlt]; exact sumP_snoc _ _
      have e2 : Hid (∀ c, clsP c (ps.take (i + 1)) = clsP c (ps.take i) + (if ps[i].2.1 = c then ps[i].2.1 else 0)) := fun c => by rw [← List.take_append_getElem hlt]; exact clsP_snoc _ _ _
      have hiff : Hid (okP limit ps i ↔ (ps[i].1 = 16 + sumP (ps.take i) ∧ classI ps[i].2.1 ≠ 0 ∧ ps[i].2.1 = classI ps[i].2.1 ∧ clsP ps[i].2.1 (ps.take (i + 1)) ≤ limit)) := ⟨fun h => h hlt, fun h _ => h⟩
      have hcb := fun c => clsP_le c (ps.take i) (fun x hx => (hsz x hx).1)
      have hno : Hid (¬ okP limit ps i → ((false = true) ↔ ∀ k, okP limit ps k)) := fun h => ⟨fun e => (nomatch e), fun h2 => absurd (h2 i) h⟩
      have hyes : Hid (okP limit ps i → ∀ k, k < i + 1 → okP limit ps k) := fun h k hk => by
        by_cases e : k = i
        · subst e; exact h
        · exact hok k (by omega)
      have hcl := fun W => class_any ps[i].2.1 W
      have hcI := classI_bounds ps[i].2.1
      have k1 : Keeps w (wr.alloc (.cells #[.int .i64 ps[i].1, .int .i64 ps[i].2.1, .bool ps[i].2.2] 38)) (fun _ => False) := kr.alloc _
      have hm1 : MapTo Try.prog cInt (wr.alloc (.cells #[.int .i64 ps[i].1, .int .i64 ps[i].2.1, .bool ps[i].2.2] 38)) w.heap.size i f := hm.keeps ((Keeps.refl wr (fun _ => False)).alloc _) id
      have hlk := look_int (w := (wr.alloc (.cells #[.int .i64 ps[i].1, .int .i64 ps[i].2.1, .bool ps[i].2.2] 38))) Try.underlying3 Try.underlying69 (Try.zeroI _) hm1 (x := classI ps[i].2.1) (fitsI_mk (by omega) (by omega))
      rw [hf] at hlk
      obtain ⟨w2, hst, hm2, k2⟩ := hm1.store (v := .int .i64 (clsP (classI ps[i].2.1) (ps.take i) + classI ps[i].2.1)) (a := clsP (classI ps[i].2.1) (ps.take i) + classI ps[i].2.1) Try.underlying3 Try.underlying69 (by unfold maxLen; omega) (x := classI ps[i].2.1) (fitsI_mk (by omega) (by omega)) (rdr_int _)
      have hlk2 := look_int (w := w2) Try.underlying3 Try.underlying69 (Try.zeroI _) hm2 (x := classI ps[i].2.1) (fitsI_mk (by omega) (by omega))
      rw [upd_same, Option.getD_some] at hlk2
      have K2 : Keeps w w2 (fun _ => False) := k1.trans k2 (fun i hi e => by omega)
      have hcb1 := hcb (classI ps[i].2.1)
      have hnew : Hid (ps[i].2.1 = classI ps[i].2.1 → ∀ c, ((upd f (classI ps[i].2.1) (some (clsP (classI ps[i].2.1) (ps.take i) + classI ps[i].2.1))) c).getD 0 = clsP c (ps.take (i + 1))) := fun h c => by
        rw [e2.out c]
        unfold upd
        by_cases e : c = classI ps[i].2.1
        · rw [if_pos e, if_pos (h.trans e.symm), Option.getD_some, e, ← h]
        · rw [if_neg e, hf, if_neg (fun e' => e (e'.symm.trans h)), Int.add_zero]
      have hcsum : Hid (ps[i].2.1 = classI ps[i].2.1 → clsP ps[i].2.1 (ps.take (i + 1)) = clsP (classI ps[i].2.1) (ps.take i) + classI ps[i].2.1) := fun h => by
        rw [e2.out, if_pos rfl, ← h]
      clear hc hm hf hcb hbd hbl hsz hok e2 hm1 k2
      generalize classI ps[i].2.1 = cz at *
      generalize clsP ps[i].2.1 (ps.take (i + 1)) = C2 at *
      generalize clsP cz (ps.take i) = C at *
      generalize ps[i].1 = y1 at *
      generalize ps[i].2.1 = y2 at *
      generalize ps[i].2.2 = y3 at *
      generalize hE : sumP (ps.take i) = E at *
      by_cases g1 : y1 = 16 + E
      · by_cases g2 : cz = 0
        · have hn := hide (hno.out (fun h => (hiff.out.1 h).2.1 g2))
          clear hno hiff hyes hnew hcsum e1 hlk hlk2 hst hm2 K2
          subst g1
          go_wp2_with fail
          refine (hcl _).mono ?_
          rintro e w3 ⟨rfl, rfl⟩
          go_wp2_with fail
          go_ret
          exact ⟨false, rfl, hn.out, k1⟩
        · by_cases g3 : y2 = cz
          · by_cases g4 : (limit : Int) < C + cz
            · have hn := hide (hno.out (fun h => by have := (hiff.out.1 h).2.2.2; rw [hcsum.out g3] at this; omega))
              clear hno hiff hyes hnew hcsum e1 hm2
              subst g1 g3
              go_wp2_with fail
              refine (hcl _).mono ?_
              rintro e w3 ⟨rfl, rfl⟩
              go_wp2_with fail
              go_ret
              exact ⟨false, rfl, hn.out, K2⟩
            · have hy := hide (hyes.out (hiff.out.2 ⟨g1, g2, g3, by rw [hcsum.out g3]; omega⟩))
              have hnw := hide (hnew.out g3)
              clear hno hiff hyes hnew hcsum
              subst g1 g3
              go_wp2_with fail
              refine (hcl _).mono ?_
              rintro e w3 ⟨rfl, rfl⟩
              go_wp2_with fail
              go_roundw
              case rel => exact ⟨i + 1, _, by rw [e1.out, Int.add_assoc], by go_num, by omega, hy.out, hm2, hnw.out, K2⟩
              case measure => simp [intOf]; omega
          · have hn := hide (hno.out (fun h => g3 (hiff.out.1 h).2.2.1))
            have q1 : (cz == 0) = false := beq_eq_false_iff_ne.2 g2
            have q2 : (y2 != cz) = true := by simpa using g3
            clear hno hiff hyes hnew hcsum e1 hlk hlk2 hst hm2 K2
            subst g1
            go_wp2_with fail
            refine (hcl _).mono ?_
            rintro e w3 ⟨rfl, rfl⟩
            go_wp2_with fail
            go_ret
            exact ⟨false, rfl, hn.out, k1⟩
      · have hn := hide (hno.out (fun h => g1 (hiff.out.1 h).1))
        clear hno hiff hyes hnew hcsum e1 hlk hlk2 hst hm2 K2
        go_wp2_with fail
        refine (hcl _).mono ?_
        rintro e w3 ⟨rfl, rfl⟩
        go_wp2_with fail
        go_ret
        exact ⟨false, rfl, hn.out, k1⟩
    · have hlt' : ¬ (i : Int) < (ps.length : Int) := by omega
      have hall : Hid ((true = true) ↔ ∀ k, okP limit ps k) := ⟨fun _ k => by
        by_cases hk : k < i
        · exact hok k hk
        · exact fun h => absurd h (by omega), fun _ => rfl⟩
      clear h1 hok hm hf hsz hbd
      go_wp2_with fail
      go_ret
      exact ⟨true, rfl, by simpa using hall.out, kr⟩
end Go.Proofs.Ytpomnjkfbdmfeaa
/-
  restore: a part is the arena's next block.
-/
namespace Go.Proofs.Ytpomnjkfbdmfeaa
open Go.RowKit Go.Shelf
set_option linter.unusedVariables false

/-- The next block is free. -/
def AD.putF (d : AD) (n : Nat) : AD := { d with bs := d.bs ++ zeros n, L := d.L ++ [(d.bs.length, n)], fm := upd d.fm (n : Int) (some (rising ((d.fm (n : Int)).getD [] ++ [(d.bs.length : Int)]))) }
/-- The next block is live, with these bytes. -/
def AD.putL (d : AD) (n : Nat) (x : List UInt8) : AD := (d.took n).bytes (splice (d.took n).bs d.bs.length x)

theorem three_cells {w : World} {b : Nat} {x y z : Value} {t : TypeId} (h : w.heap[b]? = some (.cells #[x, y, z] t)) : w.cell? ⟨b, 0, none⟩ = some x ∧ w.cell? ⟨b, 1, none⟩ = some y ∧ w.cell? ⟨b, 2, none⟩ = some z := by
  simp [World.cell?, h]

set_option maxRecDepth 100000 in
set_option maxHeartbeats 4000000 in
theorem restore_free {w : World} {p : Nat} {F : Nat → Prop} {d : AD} (h : Arena w p F d) (hF : d.Fine) (off : Int) (n : Nat) (hn : d.bs.length + n ≤ 134217728) (S : ByteArray) :
    Calls Try.prog 42 #[.pointer (some ⟨p, 0, none⟩), .agg #[.int .i64 off, .int .i64 (n : Int), .bool false], .string S] w fun e w' => e = .returned (.string S) ∧ Turned w w' p F (d.putF n) := by
  obtain ⟨c, h, hfo⟩ := h
  have hL : d.L.length ≤ 134217728 := by have := tiles_length hF.tiles; have := hF.most; omega
  have k0 : Keeps w (w.alloc (.cells #[.int .i64 off, .int .i64 (n : Int), .bool false] 38)) (fun _ => False) := (Keeps.refl _ _).alloc _
  have hb0 : (w.alloc (.cells #[.int .i64 off, .int .i64 (n : Int), .bool false] 38)).heap[w.heap.size]? = some (.cells #[.int .i64 off, .int .i64 (n : Int), .bool false] 38) := heap_alloc_new _ _
  have hadd := add_any (h.keeps k0 (fun _ _ e => e)) n hn hL
  obtain ⟨c0, c1, c2⟩ := three_cells hb0
  have hlt0 : ∀ k, c.foot p k → k < w.heap.size := fun k hk => h.foot_lt hk
  go_enter Try.func42, Try.ntmps42
  go_wp2_with fail
  refine hadd.mono ?_
  rintro e w2 ⟨g, v, sp, rfl, h2, k2, hg, hv⟩
  clear hadd
  have hb2 := (k2.block w.heap.size (heap_lt hb0) (fun e => by have := hlt0 _ e; omega)).trans hb0
  obtain ⟨d0, d1, d2⟩ := three_cells hb2
  have hkeys : ∀ x, ((d.added n).fm x).isSome = true → x ∈ (d.added n).L.map (fun y => (y.2 : Int)) := fun x hx => by
    obtain ⟨xs, hx⟩ := Option.isSome_iff_exists.1 hx
    obtain ⟨y, hy, e⟩ := hF.free.size x xs hx
    exact List.mem_map.2 ⟨y, List.mem_append_left _ hy, e.symm⟩
  have hlen : ∀ xs, (d.added n).fm (n : Int) = some xs → xs.length < 134217728 := fun xs hx => by
    have hnd := hF.free.nodup _ xs hx
    have := length_le_of_subset hnd (l := d.begins) (fun z hz => by
      obtain ⟨_, y, hy, e, _⟩ := hF.free.mem _ xs hx z hz
      exact List.mem_map.2 ⟨y, hy, e.symm⟩)
    rw [AD.begins_length] at this
    have h16 := tiles_length hF.tiles
    have := hF.most
    omega
  have hlv := leave_any h2 (d.bs.length : Int) n (by omega) hlen hkeys (by have h16 := tiles_length hF.tiles; have := hF.most; simp [AD.added]; omega)
  clear c0 c1 c2
  go_wp2_with fail
  refine hlv.mono ?_
  rintro e w3 ⟨rfl, c', hA, k3, hf3⟩
  clear hlv
  have hs2 := k2.size
  have hs0 := k0.size
  have hft2 : ∀ k, ({ c with g := g, v := v, sp := sp } : AR).foot p k → F k ∨ w.heap.size ≤ k := by
    intro k hk
    rcases hk with e | e | e | e | e | e | e
    · exact Or.inl (hfo k (Or.inl e))
    · exact Or.inl (hfo k (Or.inr (Or.inl e)))
    · have e' : k = g := e
      rcases hg with hg | hg
      · exact Or.inl (hfo k (Or.inr (Or.inr (Or.inl (e'.trans hg)))))
      · exact Or.inr (by omega)
    · exact Or.inl (hfo k (Or.inr (Or.inr (Or.inr (Or.inl e)))))
    · exact Or.inl (hfo k (Or.inr (Or.inr (Or.inr (Or.inr (Or.inl e))))))
    · have e' : v.ownBlock = some k := e
      rcases hv with hv | ⟨k', hv, hk'⟩
      · exact Or.inl (hfo k (Or.inr (Or.inr (Or.inr (Or.inr (Or.inr (Or.inl (hv ▸ e'))))))))
      · rw [hv] at e'
        cases e'
        exact Or.inr (by omega)
    · exact Or.inl (hfo k (Or.inr (Or.inr (Or.inr (Or.inr (Or.inr (Or.inr e)))))))
  have K : Keeps w w3 F := ((k0.mono (fun _ _ e => e.elim)).trans k2 (fun i _ e => hfo i e)).trans k3 (fun i hi e => by
    rcases hft2 i e with x | x
    · exact x
    · omega)
  have hfin : Turned w w3 p F (d.putF n) := by
    refine ⟨⟨c', hA _ (rising_perm _), fun k hk => ?_⟩, K⟩
    rcases hf3 k hk with x | x
    · exact hft2 k x
    · exact Or.inr (by omega)
  clear hA k3 hf3 h2 k2 h k0
  go_wp2_with fail
  go_ret
  exact ⟨rfl, hfin⟩
end Go.Proofs.Ytpomnjkfbdmfeaa
/-
  restore: a live part.
-/
namespace Go.Proofs.Ytpomnjkfbdmfeaa
open Go.RowKit Go.Shelf
set_option linter.unusedVariables false

theorem cut_head (s : ByteArray) (n : Nat) (w : World) (h : n ≤ s.size) : (Instr.slice 9 (.string s) none (some (.int .i64 (n : Int))) none).run Try.prog w = .ok (.string (s.extract 0 n)) w := by
  simp [Instr.slice, run_underlying Try.underlying9, Instr.sliceBounds, run_sliceBound, h]
theorem cut_tail (s : ByteArray) (n : Nat) (w : World) (h : n ≤ s.size) : (Instr.slice 9 (.string s) (some (.int .i64 (n : Int))) none none).run Try.prog w = .ok (.string (s.extract n s.size)) w := by
  simp [Instr.slice, run_underlying Try.underlying9, Instr.sliceBounds, run_sliceBound, h]
theorem head_bytes (s : ByteArray) (n : Nat) (h : n ≤ s.size) : (s.extract 0 n).data.toList = s.data.toList.take n ∧ (s.extract 0 n).size = n ∧ (s.data.toList.take n).length = n := by
  have e : (s.extract 0 n).data.toList = s.data.toList.take n := by rw [Lib.extract_data]; simp
  have hz : s.data.toList.length = s.size := by rw [Array.length_toList]; rfl
  refine ⟨e, by rw [ByteArray.size_extract]; omega, by rw [List.length_take, hz]; omega⟩

set_option maxRecDepth 100000 in
set_option maxHeartbeats 4000000 in
theorem restore_live {w : World} {p : Nat} {F : Nat → Prop} {d : AD} (h : Arena w p F d) (hF : d.Fine) (off : Int) (n : Nat) (hn : d.bs.length + n ≤ 134217728) (S : ByteArray) (hS : n ≤ S.size) :
    Calls Try.prog 42 #[.pointer (some ⟨p, 0, none⟩), .agg #[.int .i64 off, .int .i64 (n : Int), .bool true], .string S] w fun e w' => e = .returned (.string (S.extract n S.size)) ∧ Turned w w' p F (d.putL n (S.data.toList.take n)) := by
  obtain ⟨c, h, hfo⟩ := h
  have hL : d.L.length ≤ 134217728 := by have := tiles_length hF.tiles; have := hF.most; omega
  have hu : d.used ≤ 134217728 := by have := hF.use; have := hF.lim; omega
  have k0 : Keeps w (w.alloc (.cells #[.int .i64 off, .int .i64 (n : Int), .bool true] 38)) (fun _ => False) := (Keeps.refl _ _).alloc _
  have hb0 : (w.alloc (.cells #[.int .i64 off, .int .i64 (n : Int), .bool true] 38)).heap[w.heap.size]? = some (.cells #[.int .i64 off, .int .i64 (n : Int), .bool true] 38) := heap_alloc_new _ _
  have hadd := add_any (h.keeps k0 (fun _ _ e => e)) n hn hL
  obtain ⟨c0, c1, c2⟩ := three_cells hb0
  have hlt0 : ∀ k, c.foot p k → k < w.heap.size := fun k hk => h.foot_lt hk
  go_enter Try.func42, Try.ntmps42
  go_wp2_with fail
  refine hadd.mono ?_
  rintro e w2 ⟨g, v, sp, rfl, h2, k2, hg, hv⟩
  clear hadd
  have hb2 := (k2.block w.heap.size (heap_lt hb0) (fun e => by have := hlt0 _ e; omega)).trans hb0
  obtain ⟨d0, d1, d2⟩ := three_cells hb2
  have h2 : ArenaAt w2 p { c with g := g, v := v, sp := sp, nl := d.begins.length } (d.added n) := { h2 with live := h2.live.tight Try.underlying3 d.begins (hF.keys_begins) }
  have hE := enter_any h2 d.bs.length n (by omega) (by omega) (by simpa [AD.added] using hu) (by simp [AD.begins_length]; omega)
  clear c0 c1 c2
  have hs2 := k2.size
  have hs0 := k0.size
  have hB : w.heap.size < w2.heap.size := heap_lt hb2
  go_wp2_with fail
  refine hE.mono ?_
  rintro e w3 ⟨rfl, _, k3, hp3, hl3⟩
  clear hE
  have hft2 : ∀ k, ({ c with g := g, v := v, sp := sp, nl := d.begins.length + 1 } : AR).foot p k → F k ∨ w.heap.size < k := by
    intro k hk
    rcases hk with e | e | e | e | e | e | e
    · exact Or.inl (hfo k (Or.inl e))
    · exact Or.inl (hfo k (Or.inr (Or.inl e)))
    · have e' : k = g := e
      rcases hg with hg | hg
      · exact Or.inl (hfo k (Or.inr (Or.inr (Or.inl (e'.trans hg)))))
      · exact Or.inr (by simp at hg; omega)
    · exact Or.inl (hfo k (Or.inr (Or.inr (Or.inr (Or.inl e)))))
    · exact Or.inl (hfo k (Or.inr (Or.inr (Or.inr (Or.inr (Or.inl e))))))
    · have e' : v.ownBlock = some k := e
      rcases hv with hv | ⟨k', hv, hk'⟩
      · exact Or.inl (hfo k (Or.inr (Or.inr (Or.inr (Or.inr (Or.inr (Or.inl (hv ▸ e'))))))))
      · rw [hv] at e'
        cases e'
        exact Or.inr (by simp at hk'; omega)
    · exact Or.inl (hfo k (Or.inr (Or.inr (Or.inr (Or.inr (Or.inr (Or.inr e)))))))
  have hB3 : w3.heap[w.heap.size]? = some (.cells #[.int .i64 off, .int .i64 (n : Int), .bool true] 38) := (k3.block _ hB (fun e => by
    rcases e with e | e
    · have := hlt0 p (Or.inl rfl); omega
    · have := hlt0 c.bl (Or.inr (Or.inr (Or.inr (Or.inl rfl)))); simp at e; omega)).trans hb2
  have h3 : ArenaAt w3 p { c with g := g, v := v, sp := sp, nl := d.begins.length + 1 } (d.took n) := by
    refine ⟨hp3, ?_, ?_, hl3, ?_, h.hlf, ?_⟩
    · exact h2.mem.keeps k3 (fun e => by rcases e with e | e; exact h2.p_b e.symm; exact h2.bl_b e.symm) (fun e => by rcases e with e | e; exact h2.p_g e.symm; exact h2.bl_g e.symm)
    · exact ownsRow_keeps h2.beg k3 (fun k hk e => by rcases e with e | e; exact h2.p_v hk e.symm; exact h2.bl_v hk e.symm)
    · exact h2.free.keeps k3 (fun e => by rcases e with e | e; exact h2.p_bf e.symm; exact h2.hlf e.symm)
    · exact h2.heaps.keeps k3 (fun i hi e => by rcases e with e | e; exact (h2.heap_ne hi).1 e; exact (h2.heap_ne hi).2.2.2.1 e)
  have K3 : Keeps w w3 F := ((k0.mono (fun _ _ e => e.elim)).trans k2 (fun i _ e => hfo i e)).trans k3 (fun i hi e => by
    rcases e with rfl | rfl
    · exact hfo _ (Or.inl rfl)
    · exact hfo _ (Or.inr (Or.inr (Or.inr (Or.inl rfl)))))
  obtain ⟨q1, q2, q3⟩ := head_bytes S n hS
  have hH := fun W => cut_head S n W hS
  have hTl := fun W => cut_tail S n W hS
  obtain ⟨S1, hS1⟩ : ∃ S1, S.extract 0 n = S1 := ⟨_, rfl⟩
  rw [hS1] at hH q1 q2
  obtain ⟨w4, c4, fz, hconv, k4', hs4, hr4⟩ := bytes_of (P := Try.prog) w3.drew 9 90 5 S1 Try.underlying9 Try.underlying90 Try.underlying5
  rw [show w3.drew.heap.size = w3.heap.size from rfl] at hconv hs4 hr4
  have k3d : Keeps w3 w3.drew (fun _ => False) := (Keeps.refl w3 _).drew
  have k4 : Keeps w3 w4 (fun _ => False) := k3d.trans k4' (fun _ _ e => e)
  have k5 : Keeps w3 (w4.alloc (.cells #[.slice (some ⟨w3.heap.size, 0, none⟩) S1.size c4] 90)) (fun _ => False) := k4.alloc _
  have hg3 := heap_lt h3.mem.hg
  have hwr := write_one_yes (pb := w4.heap.size) (h := w3.heap.size) (n := S1.size) (c := c4) (o := d.bs.length) (x := S1.data.toList) (h3.mem.keeps k4 id id) hr4 (Nat.ne_of_gt hg3) (by rw [q2, q1, q3]) (by rw [q1, q3]; omega) rfl (by rw [q1, q3, AD.took_bs, List.length_append, zeros_length]; omega)
  have hcell : ∀ W, Keeps w3 W (fun _ => False) → W.cell? ⟨p, 2, none⟩ = some (.pointer (some ⟨c.b, 0, none⟩)) ∧ W.cell? ⟨w.heap.size, 1, none⟩ = some (.int .i64 (n : Int)) := fun W kW => ⟨(h3.keeps kW (fun _ _ e => e)).cell2, (three_cells ((kW.block _ (heap_lt hB3) id).trans hB3)).2.1⟩
  have hcell2 : ∀ W, Keeps w3 W (fun i => i = g) → W.cell? ⟨p, 2, none⟩ = some (.pointer (some ⟨c.b, 0, none⟩)) ∧ W.cell? ⟨w.heap.size, 1, none⟩ = some (.int .i64 (n : Int)) := fun W kW => ⟨(World.cell?_of_block (w := w3) (a := ⟨p, 2, none⟩) (kW.block p (heap_lt h3.hp) h3.p_g)).trans h3.cell2, (three_cells ((kW.block _ (heap_lt hB3) (fun e => by
    have e' : w.heap.size = g := e
    rcases hg with x | x
    · have := hlt0 c.g (Or.inr (Or.inr (Or.inl rfl))); omega
    · simp at x; omega)).trans hB3)).2.1⟩
  have hend : ∀ w5 e, WritePost (w4.alloc (.cells #[.slice (some ⟨w3.heap.size, 0, none⟩) S1.size c4] 90)) c.b g (splice (d.took n).bs d.bs.length S1.data.toList) sp e w5 → Turned w w5 p F (d.putL n (S.data.toList.take n)) := fun w5 e hp => by
    have ht := turned_wrote h3 hft2 k5 hp
    rw [q1] at ht
    have hs3 := K3.size
    refine ⟨ht.1.mono (fun i _ x => ?_), K3.trans ht.2 (fun i hi x => ?_)⟩
    · rcases x with (x | x) | x
      · exact Or.inl x
      · exact Or.inr (by omega)
      · exact Or.inr (by omega)
    · rcases x with x | x
      · exact x
      · omega
  have c33 := hcell w3 (Keeps.refl _ _)
  obtain ⟨cA, cB⟩ := c33
  clear h hfo h2 k2 k3 hp3 hl3 hft2 h3 K3 hb0 hb2 d0 d1 d2 hB3 k0 hr4 hs4 k4' q1 q2 q3 hg3 hv
  go_wp2_with fail
  go_region_held (fun w' => w'.cell? ⟨p, 2, none⟩ = some (.pointer (some ⟨c.b, 0, none⟩)) ∧ w'.cell? ⟨w.heap.size, 1, none⟩ = some (.int .i64 (n : Int))) (first | exact hcell _ k3d | exact hcell _ k4 | exact hcell _ k5 | exact hcell2 _ k6)
    (first
      | (go_at_call 58; refine hwr.mono ?_; intro e w5 hp5; have T1 := hide (hend _ _ hp5); have k6 : Keeps w3 w5 (fun i => i = g) := (k5.mono (fun _ _ e => e.elim)).trans hp5.2.2 (fun _ _ e => e); obtain ⟨rfl, _, _⟩ := hp5))
  all_goals have cB6 := (hcell2 _ k6).2
  all_goals go_wp2_with fail
  all_goals go_ret
  all_goals exact ⟨rfl, T1.out⟩
end Go.Proofs.Ytpomnjkfbdmfeaa
/-
  What is restored, as data.
-/
namespace Go.Proofs.Ytpomnjkfbdmfeaa
open Go.RowKit Go.Shelf
set_option linter.unusedVariables false

theorem AD.Fine.lv_end {d : AD} (F : d.Fine) : d.lv (d.bs.length : Int) = none := by
  cases h : d.lv (d.bs.length : Int) with
  | none => rfl
  | some s =>
    obtain ⟨o, n, e, _, hm⟩ := F.live _ _ h
    have := tiles_mem F.tiles hm
    simp at this
    omega
theorem AD.Fine.putF {d : AD} (F : d.Fine) {n : Nat} (h0 : 0 < n) (h1 : d.bs.length + n ≤ 134217728) : (d.putF n).Fine := by
  have hend := F.lv_end
  have hne : ∀ y ∈ d.L, ((y.1 : Nat) : Int) ≠ (d.bs.length : Int) := fun y hy => by
    have := tiles_mem F.tiles hy
    omega
  refine ⟨?_, ?_, ?_, F.lim, F.use, ?_, ?_⟩
  · show Tiles 16 (d.L ++ [(d.bs.length, n)]) (d.bs ++ zeros n).length
    rw [List.length_append, zeros_length]
    exact tiles_snoc F.tiles n h0
  · intro x s hs
    obtain ⟨o, m, e1, e2, hm⟩ := F.live x s hs
    exact ⟨o, m, e1, e2, List.mem_append_left _ hm⟩
  · show (d.bs ++ zeros n).length ≤ _
    rw [List.length_append, zeros_length]
    exact h1
  · show d.used = liveSum (d.L ++ [(d.bs.length, n)]) d.lv
    rw [liveSum_append, liveSum_cons, hend, ← F.sum]
    simp [liveSum]
  · show FreeOK (d.L ++ [(d.bs.length, n)]) d.lv (upd d.fm (n : Int) (some (rising ((d.fm (n : Int)).getD [] ++ [(d.bs.length : Int)]))))
    have hp := rising_perm ((d.fm (n : Int)).getD [] ++ [(d.bs.length : Int)])
    generalize rising ((d.fm (n : Int)).getD [] ++ [(d.bs.length : Int)]) = ys at *
    have hin : ∀ y, y ∈ (d.fm (n : Int)).getD [] → d.lv y = none ∧ ∃ t ∈ d.L, y = (t.1 : Int) ∧ (n : Int) = (t.2 : Int) := fun y hy => by
      cases e : d.fm (n : Int) with
      | none => rw [e] at hy; simp at hy
      | some xs => rw [e] at hy; exact F.free.mem _ xs e y hy
    have hnd : ((d.fm (n : Int)).getD []).Nodup := by
      cases e : d.fm (n : Int) with
      | none => simp
      | some xs => exact F.free.nodup _ xs e
    refine ⟨fun x xs hx => ?_, fun x xs hx => ?_, fun x xs hx y hy => ?_, fun y hy hl => ?_⟩
    · by_cases e : x = (n : Int)
      · subst e
        rw [upd_same] at hx
        cases hx
        refine hp.nodup_iff.2 ?_
        rw [List.nodup_append]
        refine ⟨hnd, by simp, fun a ha b hb e => ?_⟩
        simp at hb
        obtain ⟨_, t, ht, e1, _⟩ := hin a ha
        exact hne t ht (by rw [← e1, e, hb])
      · rw [upd_other _ _ _ _ e] at hx
        exact F.free.nodup x xs hx
    · by_cases e : x = (n : Int)
      · exact ⟨(d.bs.length, n), List.mem_append_right _ (List.mem_singleton.2 rfl), e⟩
      · rw [upd_other _ _ _ _ e] at hx
        obtain ⟨y, hy, e2⟩ := F.free.size x xs hx
        exact ⟨y, List.mem_append_left _ hy, e2⟩
    · by_cases e : x = (n : Int)
      · subst e
        rw [upd_same] at hx
        cases hx
        rcases List.mem_append.1 (hp.mem_iff.1 hy) with h2 | h2
        · obtain ⟨h3, t, ht, h4⟩ := hin y h2
          exact ⟨h3, t, List.mem_append_left _ ht, h4⟩
        · simp at h2
          subst h2
          exact ⟨hend, (d.bs.length, n), List.mem_append_right _ (List.mem_singleton.2 rfl), rfl, rfl⟩
      · rw [upd_other _ _ _ _ e] at hx
        obtain ⟨h2, t, ht, h4⟩ := F.free.mem x xs hx y hy
        exact ⟨h2, t, List.mem_append_left _ ht, h4⟩
    · rcases List.mem_append.1 hy with hy | hy
      · obtain ⟨xs, h2, h3⟩ := F.free.all y hy hl
        by_cases e : ((y.2 : Nat) : Int) = (n : Int)
        · rw [e] at h2 ⊢
          rw [upd_same]
          refine ⟨ys, rfl, hp.mem_iff.2 ?_⟩
          rw [h2]
          simp [h3]
        · rw [upd_other _ _ _ _ e]
          exact ⟨xs, h2, h3⟩
      · rw [List.mem_singleton.1 hy]
        refine ⟨ys, upd_same _ _ _, hp.mem_iff.2 (by simp)⟩
theorem putL_len {d : AD} {n : Nat} {x : List UInt8} (hx : x.length = n) : (splice (d.took n).bs d.bs.length x).length = (d.took n).bs.length := splice_length (by rw [AD.took_bs, List.length_append, zeros_length]; omega)
theorem AD.Fine.putL {d : AD} (F : d.Fine) {n : Nat} (h0 : 0 < n) (h1 : d.bs.length + n ≤ 134217728) (h2 : d.used + n ≤ d.limit) {x : List UInt8} (hx : x.length = n) : (d.putL n x).Fine :=
  (F.took h0 h1 h2).bytes (putL_len hx)
theorem putL_bs {d : AD} {n : Nat} {x : List UInt8} (hx : x.length = n) : (d.putL n x).bs.length = d.bs.length + n := by
  have : (d.putL n x).bs.length = (d.took n).bs.length := putL_len hx
  rw [this, AD.took_bs, List.length_append, zeros_length]

/-- All parts, one behind the other. -/
def restD : AD → List (Int × Int × Bool) → List UInt8 → AD
  | d, [], _ => d
  | d, x :: r, b => if x.2.2 = true then restD (d.putL x.2.1.toNat (b.take x.2.1.toNat)) r (b.drop x.2.1.toNat) else restD (d.putF x.2.1.toNat) r b
theorem restD_snoc : ∀ (l : List (Int × Int × Bool)) (x : Int × Int × Bool) (d : AD) (b : List UInt8), (∀ y ∈ l, 0 ≤ y.2.1) → restD d (l ++ [x]) b = if x.2.2 = true then (restD d l b).putL x.2.1.toNat ((b.drop (sumL l).toNat).take x.2.1.toNat) else (restD d l b).putF x.2.1.toNat
  | [], x, d, b, _ => by simp [restD, sumL]
  | y :: r, x, d, b, h => by
    have hy := h y (List.mem_cons_self ..)
    have hr : ∀ z ∈ r, 0 ≤ z.2.1 := fun z hz => h z (List.mem_cons_of_mem _ hz)
    have hs : 0 ≤ sumL r := by
      clear h hy
      induction r with
      | nil => simp [sumL]
      | cons z q ih =>
        have h1 := ih (fun u hu => hr u (List.mem_cons_of_mem _ hu))
        have h2 := hr z (List.mem_cons_self ..)
        simp only [sumL]
        split <;> omega
    simp only [List.cons_append, restD, sumL]
    by_cases e : y.2.2 = true
    · rw [if_pos e, if_pos e, if_pos e, restD_snoc r x _ _ hr, List.drop_drop]
      have : y.2.1.toNat + (sumL r).toNat = (y.2.1 + sumL r).toNat := by omega
      rw [this]
    · rw [if_neg e, if_neg e, if_neg e, restD_snoc r x _ _ hr, Int.zero_add]

theorem okP.class_le {limit : Nat} {ps : List (Int × Int × Bool)} : ∀ {i : Nat}, i ≤ ps.length → (∀ k, k < i → okP limit ps k) → ∀ c, clsP c (ps.take i) ≤ limit
  | 0, _, _, c => by simp [clsP]
  | i + 1, hi, h, c => by
    have ih := okP.class_le (i := i) (by omega) (fun k hk => h k (by omega)) c
    have h1 := h i (by omega) (by omega)
    by_cases e : ps[i].2.1 = c
    · rw [e] at h1
      exact h1.2.2.2
    · rw [← List.take_append_getElem (by omega : i < ps.length), clsP_snoc, if_neg e]
      omega
def natsP (ps : List (Int × Int × Bool)) : List (Nat × Nat) := ps.map (fun x => (x.1.toNat, x.2.1.toNat))
theorem natsP_sum : ∀ {ps : List (Int × Int × Bool)}, (∀ x ∈ ps, 0 ≤ x.2.1) → sumP ps = (((natsP ps).map Prod.snd).sum : Nat)
  | [], _ => rfl
  | y :: r, h => by
    have ih := natsP_sum (ps := r) (fun x hx => h x (List.mem_cons_of_mem _ hx))
    have hy := h y (List.mem_cons_self ..)
    simp only [sumP, natsP, List.map_cons, List.sum_cons] at ih ⊢
    omega
theorem natsP_class (c : Nat) : ∀ {ps : List (Int × Int × Bool)}, (∀ x ∈ ps, 0 ≤ x.2.1) → clsP (c : Int) ps = (classSum (natsP ps) c : Nat)
  | [], _ => rfl
  | y :: r, h => by
    have ih := natsP_class c (ps := r) (fun x hx => h x (List.mem_cons_of_mem _ hx))
    have hy := h y (List.mem_cons_self ..)
    have e : natsP (y :: r) = (y.1.toNat, y.2.1.toNat) :: natsP r := rfl
    rw [e, classSum_cons]
    simp only [clsP, ih]
    by_cases e1 : y.2.1 = (c : Int)
    · rw [if_pos e1, if_pos (by omega)]
      omega
    · rw [if_neg e1, if_neg (by omega)]
      omega
theorem okP.total {limit : Nat} {ps : List (Int × Int × Bool)} {i : Nat} (hi : i ≤ ps.length) (h : ∀ k, k < i → okP limit ps k) : sumP (ps.take i) ≤ 32 * limit := by
  have hsz := okP.sizes h
  have h1 := natsP_sum (ps := ps.take i) (fun x hx => (hsz x hx).1)
  have h2 : ((natsP (ps.take i)).map Prod.snd).sum ≤ (classList.map (classSum (natsP (ps.take i)))).sum := sizes_le (fun y hy => by
    obtain ⟨x, hx, rfl⟩ := List.mem_map.1 hy
    obtain ⟨j, hj, rfl⟩ := List.getElem_of_mem hx
    rw [List.length_take] at hj
    rw [List.getElem_take]
    obtain ⟨_, a1, a2, _⟩ := h j (by omega) (by omega)
    have hb := classI_bounds ps[j].2.1
    have hz : 1 ≤ ps[j].2.1 ∧ ps[j].2.1 ≤ 1048576 := by
      refine Classical.byContradiction fun hn => a1 ?_
      unfold classI
      rw [if_neg hn]
    have := classI_in ps[j].2.1 hz.1 hz.2
    rw [← a2] at this
    exact this)
  have h3 : (classList.map (classSum (natsP (ps.take i)))).sum ≤ classList.length * limit := sum_le (fun c => by
    have := okP.class_le hi h (c : Int)
    rw [natsP_class c (fun x hx => (hsz x hx).1)] at this
    omega)
  have h4 : classList.length ≤ 32 := by decide
  have h5 := Nat.mul_le_mul_right limit h4
  omega
end Go.Proofs.Ytpomnjkfbdmfeaa
