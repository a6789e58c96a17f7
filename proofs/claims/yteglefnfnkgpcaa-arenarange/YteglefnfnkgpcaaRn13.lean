import Derived.Laws.OwnMore
import Derived.OneCell
import Derived.Test.YteglefnfnkgpcaaRn12
/-
  Several at once is one by one: the data.
-/
namespace Go.Proofs.Yteglefnfnkgpcaa
open Go.RowKit Go.Shelf
set_option linter.unusedVariables false

theorem rising_perm_eq {x y : List Int} (h : x.Perm y) : rising x = rising y :=
  (((rising_perm x).trans h).trans (rising_perm y).symm).eq_of_pairwise (le := (· ≤ ·)) (fun a b _ _ h1 h2 => by omega) (rising_sorted _) (rising_sorted _)
theorem upd_swap {α : Type} (f : Int → Option α) {x y : Int} (a b : Option α) (h : x ≠ y) : upd (upd f x a) y b = upd (upd f y b) x a := by
  funext z
  unfold upd
  by_cases e1 : z = y
  · by_cases e2 : z = x
    · exact absurd (e2.symm.trans e1) h
    · rw [if_pos e1, if_neg e2, if_pos e1]
  · by_cases e2 : z = x
    · rw [if_neg e1, if_pos e2, if_pos e2]
    · rw [if_neg e1, if_neg e2, if_neg e2, if_neg e1]
theorem upd_upd {α : Type} (f : Int → Option α) (x : Int) (a b : Option α) : upd (upd f x a) x b = upd f x b := by
  funext z
  unfold upd
  by_cases e : z = x <;> simp [e]
theorem Gone.swap {d da db : AD} {x y : Int} (h1 : Gone d y da) (h2 : Gone da x db) : ∃ dc, Gone d x dc ∧ Gone dc y db := by
  obtain ⟨s, hs, rfl⟩ := h1
  obtain ⟨t, ht, rfl⟩ := h2
  have ht' : upd d.lv y none x = some (t : Int) := ht
  have hne : x ≠ y := fun e => by
    rw [e, upd_same] at ht'
    cases ht'
  rw [upd_other _ _ _ _ hne] at ht'
  refine ⟨d.gone x t, ⟨t, ht', rfl⟩, s, ?_, ?_⟩
  · show upd d.lv x none y = _
    rw [upd_other _ _ _ _ (fun e => hne e.symm)]
    exact hs
  · show AD.mk _ _ _ _ _ _ = AD.mk _ _ _ _ _ _
    have e1 : d.used - s - t = d.used - t - s := by omega
    have e2 : upd (upd d.lv y none) x none = upd (upd d.lv x none) y none := upd_swap _ _ _ (fun e => hne e.symm)
    have e3 : upd (upd d.fm (s : Int) (some (rising ((d.fm (s : Int)).getD [] ++ [y])))) (t : Int) (some (rising ((upd d.fm (s : Int) (some (rising ((d.fm (s : Int)).getD [] ++ [y]))) (t : Int)).getD [] ++ [x]))) = upd (upd d.fm (t : Int) (some (rising ((d.fm (t : Int)).getD [] ++ [x])))) (s : Int) (some (rising ((upd d.fm (t : Int) (some (rising ((d.fm (t : Int)).getD [] ++ [x]))) (s : Int)).getD [] ++ [y]))) := by
      by_cases e : (s : Int) = (t : Int)
      · rw [e, upd_same, upd_same, upd_upd, upd_upd]
        congr 2
        simp only [Option.getD_some]
        refine rising_perm_eq ?_
        refine (((rising_perm _).append_right _).trans ?_).trans ((rising_perm _).append_right _).symm
        rw [List.append_assoc, List.append_assoc]
        exact List.Perm.append_left _ (List.Perm.swap _ _ _)
      · rw [upd_other _ _ _ _ (fun h => e h.symm), upd_other _ _ _ _ e]
        exact upd_swap _ _ _ e
    have e1' : (d.gone y s).used - t = (d.gone x t).used - s := e1
    exact congr (congr (congr (congr (congr (congrArg AD.mk rfl) e1') rfl) rfl) e2) e3
theorem Gones.perm {l1 l2 : List Int} (h : l1.Perm l2) : ∀ {d d' : AD}, Gones d l1 d' → Gones d l2 d' := by
  induction h with
  | nil => exact fun h => h
  | cons x h ih => exact fun ⟨d1, g, r⟩ => ⟨d1, g, ih r⟩
  | swap x y l =>
    rintro d d' ⟨da, g1, db, g2, r⟩
    obtain ⟨dc, g3, g4⟩ := g1.swap g2
    exact ⟨dc, g3, db, g4, r⟩
  | trans h1 h2 ih1 ih2 => exact fun h => ih2 (ih1 h)
theorem Gone.one {d d1 d2 : AD} {z : Int} (h1 : Gone d z d1) (h2 : Gone d z d2) : d1 = d2 := by
  obtain ⟨s, hs, rfl⟩ := h1
  obtain ⟨t, ht, rfl⟩ := h2
  rw [hs] at ht
  injection ht with e
  have : s = t := by omega
  rw [this]
theorem Gones.one : ∀ {l : List Int} {d d1 d2 : AD}, Gones d l d1 → Gones d l d2 → d1 = d2
  | [], _, _, _, h1, h2 => by cases h1; cases h2; rfl
  | _ :: _, _, _, _, ⟨_, g1, r1⟩, ⟨_, g2, r2⟩ => by
    have := g1.one g2
    subst this
    exact Gones.one r1 r2
theorem AD.Well.gones : ∀ {d : AD} {zs : List Int} {d' : AD}, d.Well → d.Fine → Gones d zs d' → d'.Well
  | _, [], _, W, F, h => by cases h; exact W
  | _, _ :: _, _, W, F, ⟨_, h1, h2⟩ => AD.Well.gones (W.gone F h1) (F.gone h1) h2

/-- The live blocks' offsets. -/
def lvI (d : AD) : List Int := (livesOf d.L d.lv).map (fun x => (x.1 : Int))
theorem lvI_live {d : AD} {z : Int} (h : z ∈ lvI d) : (d.lv z).isSome = true := by
  obtain ⟨x, hx, rfl⟩ := List.mem_map.1 h
  exact (List.mem_filter.1 hx).2
theorem lvI_nodup {d : AD} (hF : d.Fine) : (lvI d).Nodup := by
  have := lives_nodup hF
  unfold lvI
  refine List.pairwise_map.2 ((List.pairwise_map.1 this).imp (fun h e => h (by omega)))
theorem lv_fits {d : AD} (hF : d.Fine) {z : Int} (h : (d.lv z).isSome = true) : fitsI z ∧ 0 ≤ z ∧ z ≤ 134217728 := by
  obtain ⟨s, hs⟩ := Option.isSome_iff_exists.1 h
  obtain ⟨o, n, rfl, _, h1, h2, _⟩ := live_fits hF hs
  exact ⟨fitsI_mk (by omega) (by omega), by omega, by omega⟩
theorem lv_15 {d : AD} (hF : d.Fine) (hW : d.Well) : d.lv 15 = none := by
  cases h : d.lv 15 with
  | none => rfl
  | some s =>
    obtain ⟨o, n, e, _, hm⟩ := hF.live _ _ h
    have := (well_16 hF hW).1 _ hm
    simp at this
    omega

def sumC : List Int → Int
  | [] => 0
  | z :: r => classI z + sumC r
theorem sumC_snoc : ∀ (l : List Int) (z : Int), sumC (l ++ [z]) = sumC l + classI z
  | [], z => by simp [sumC]
  | y :: r, z => by
    have := sumC_snoc r z
    simp only [List.cons_append, sumC]
    omega
theorem sumC_bounds : ∀ (l : List Int), 0 ≤ sumC l ∧ sumC l ≤ 1048576 * (l.length : Int)
  | [] => by simp [sumC]
  | y :: r => by
    have := sumC_bounds r
    have := classI_bounds y
    simp only [sumC, List.length_cons]
    omega
def litB (zs : List Int) : Bool := zs.any (fun z => decide (z < 1))
def greB (zs : List Int) : Bool := zs.any (fun z => decide (1048576 < z))
theorem classI_zero {z : Int} (h : 1 ≤ z) : classI z = 0 ↔ 1048576 < z := by
  unfold classI
  by_cases h2 : z ≤ 1048576
  · rw [if_pos ⟨h, h2⟩]
    have := class_le z.toNat (by omega) (by omega)
    omega
  · rw [if_neg (fun e => h2 e.2)]
    omega
theorem fits_sum : ∀ {zs : List Int} {room : Int}, allOne zs → 0 ≤ room → (fitsIn room zs = true ↔ greB zs = false ∧ sumC zs ≤ room)
  | [], room, _, h => by simp [fitsIn, greB, sumC]; exact h
  | z :: r, room, ha, h => by
    have hz : 1 ≤ z := ha z (List.mem_cons_self ..)
    have hc := classI_zero hz
    have hb := classI_bounds z
    have hs := (sumC_bounds r).1
    unfold fitsIn
    by_cases h1 : classI z = 0 ∨ room < classI z
    · rw [if_pos h1]
      constructor
      · intro e
        cases e
      · rintro ⟨e1, e2⟩
        exfalso
        simp only [greB, List.any_cons, Bool.or_eq_false_iff, decide_eq_false_iff_not] at e1
        simp only [sumC] at e2
        rcases h1 with h1 | h1
        · exact e1.1 (hc.1 h1)
        · omega
    · rw [if_neg h1]
      have h2 : ¬ classI z = 0 := fun e => h1 (Or.inl e)
      have h3 : ¬ room < classI z := fun e => h1 (Or.inr e)
      rw [fits_sum (fun y hy => ha y (List.mem_cons_of_mem _ hy)) (by omega)]
      simp only [greB, List.any_cons, Bool.or_eq_false_iff, decide_eq_false_iff_not, sumC]
      constructor
      · rintro ⟨e1, e2⟩
        exact ⟨⟨fun e => h2 (hc.2 e), e1⟩, by omega⟩
      · rintro ⟨⟨_, e1⟩, e2⟩
        exact ⟨e1, by omega⟩
theorem allOne_lit {zs : List Int} : allOne zs ↔ litB zs = false := by
  unfold litB allOne
  rw [List.any_eq_false]
  constructor
  · intro h z hz e
    have := h z hz
    simp at e
    omega
  · intro h z hz
    have := h z hz
    simp at this
    omega
theorem refE_law (d : AD) (hF : d.Fine) (zs : List Int) : refE d zs = if litB zs = true then 21 else if greB zs = true ∨ (d.limit : Int) < (d.used : Int) + sumC zs then 22 else 0 := by
  have hu := hF.use
  unfold refE
  by_cases h1 : litB zs = true
  · rw [if_pos h1, if_neg (fun ha => by rw [allOne_lit.1 ha] at h1; cases h1)]
  · have ha : allOne zs := allOne_lit.2 (by simpa using h1)
    have hf := fits_sum (zs := zs) (room := (d.limit : Int) - (d.used : Int)) ha (by omega)
    rw [if_neg h1, if_pos ha]
    by_cases h2 : fitsIn ((d.limit : Int) - (d.used : Int)) zs = true
    · obtain ⟨e1, e2⟩ := hf.1 h2
      rw [if_pos h2, if_neg (fun e => by rcases e with e | e; · rw [e1] at e; cases e
                                         · omega)]
    · rw [if_neg h2, if_pos]
      by_cases e1 : greB zs = true
      · exact Or.inl e1
      · exact Or.inr (Int.not_le.1 fun e2 => h2 (hf.2 ⟨by simpa using e1, by omega⟩))

structure AllB (d d' : AD) (os : List Int) (n : Int) : Prop where
  fine : d'.Fine
  well : d'.Well
  limit : d'.limit = d.limit
  used : (d'.used : Int) = (d.used : Int) + n
  perm : (lvI d').Perm (os ++ lvI d)
theorem all_B : ∀ {zs : List Int} {d : AD}, d.Fine → d.Well → allOne zs → fitsIn ((d.limit : Int) - (d.used : Int)) zs = true → AllB d (takeAll listT d zs).2 (takeAll listT d zs).1 (sumC zs)
  | [], d, hF, hW, _, _ => ⟨hF, hW, rfl, by simp [takeAll, sumC], by simp [takeAll]⟩
  | z :: r, d, hF, hW, ha, hf => by
    have hz : 1 ≤ z := ha z (List.mem_cons_self ..)
    unfold fitsIn at hf
    split at hf
    · cases hf
    · rename_i hc
      have h0 : classI z ≠ 0 := fun e => hc (Or.inl e)
      have hb : z ≤ 1048576 := Int.not_lt.1 fun hb => h0 (by unfold classI; rw [if_neg (by omega)])
      obtain ⟨m, rfl⟩ := Int.eq_ofNat_of_zero_le (show 0 ≤ z by omega)
      have hcn : classI (m : Int) = (classN m : Int) := by unfold classI; rw [if_pos (by omega)]; simp
      have hle : ¬ (d.limit : Int) - (d.used : Int) < classI (m : Int) := fun e => hc (Or.inr e)
      have hB := list_B hF hW (class_in m (by omega) (by omega)) (by omega)
      have e : takeAll listT d ((m : Int) :: r) = (((listT d (classN m)).1 : Int) :: (takeAll listT (listT d (classN m)).2 r).1, (takeAll listT (listT d (classN m)).2 r).2) := by
        simp [takeAll, hcn]
      rw [e]
      have ih := all_B (zs := r) hB.fine hB.well (fun y hy => ha y (List.mem_cons_of_mem _ hy)) (by
        rw [hB.limit, hB.used]
        rw [hcn] at hf
        rw [show (d.limit : Int) - ((d.used + classN m : Nat) : Int) = (d.limit : Int) - (d.used : Int) - (classN m : Int) by omega]
        exact hf)
      refine ⟨ih.fine, ih.well, ih.limit.trans hB.limit, ?_, ?_⟩
      · rw [ih.used, hB.used]
        simp only [sumC, hcn]
        omega
      · have p1 : (lvI (listT d (classN m)).2).Perm (((listT d (classN m)).1 : Int) :: lvI d) := by
          have := hB.perm.map (fun x => (x.1 : Int))
          exact this
        refine ih.perm.trans ((List.Perm.append_left _ p1).trans ?_)
        exact List.perm_middle
theorem AllB.live {d d' : AD} {os : List Int} {n : Int} (h : AllB d d' os n) {z : Int} (hz : z ∈ os) : (d'.lv z).isSome = true := lvI_live (h.perm.mem_iff.2 (List.mem_append_left _ hz))
theorem AllB.nodup {d d' : AD} {os : List Int} {n : Int} (h : AllB d d' os n) : os.Nodup := (List.nodup_append.1 (h.perm.nodup_iff.1 (lvI_nodup h.fine))).1

/-- Every second one. -/
def halfL : List Int → List Int
  | [] => []
  | [x] => [x]
  | x :: _ :: r => x :: halfL r
theorem halfL_sub : ∀ (l : List Int), (halfL l).Sublist l
  | [] => List.Sublist.slnil
  | [x] => List.Sublist.refl _
  | x :: y :: r => List.Sublist.cons_cons x (List.Sublist.cons y (halfL_sub r))
theorem half_take : ∀ (l : List Int) (j : Nat) (h : 2 * j < l.length), halfL (l.take (2 * j + 2)) = halfL (l.take (2 * j)) ++ [l[2 * j]]
  | [], j, h => by simp at h
  | [x], j, h => by
    have : j = 0 := by simp at h; omega
    subst this
    simp [halfL]
  | x :: y :: r, 0, h => by simp [halfL]
  | x :: y :: r, j + 1, h => by
    have ih := half_take r j (by simp at h; omega)
    have e1 : 2 * (j + 1) + 2 = (2 * j + 2) + 2 := by omega
    have e2 : 2 * (j + 1) = 2 * j + 2 := by omega
    simp only [e2, List.take_succ_cons, halfL, ih, List.getElem_cons_succ, List.cons_append]

theorem good_two {d : AD} {zs : List Int} (hg : allGood d (rising zs)) : zs.Nodup ∧ ∀ z ∈ zs, (d.lv z).isSome = true := by
  have hs := rising_sorted zs
  have hp := rising_perm zs
  refine ⟨hp.nodup_iff.1 ?_, fun z hz => ?_⟩
  · refine List.pairwise_iff_getElem.2 fun i j hi hj hij e => ?_
    have := strict hs hg hij hj
    simp [at0, hi, hj, e] at this
  · obtain ⟨i, hi, rfl⟩ := List.getElem_of_mem (hp.mem_iff.2 hz)
    have := (hg i hi).1
    simpa [at0, hi] using this
theorem two_good {d : AD} {zs : List Int} (h1 : zs.Nodup) (h2 : ∀ z ∈ zs, (d.lv z).isSome = true) : allGood d (rising zs) := by
  have hp := rising_perm zs
  have hn := hp.nodup_iff.2 h1
  intro i hi
  refine ⟨?_, fun h0 e => ?_⟩
  · have : at0 (rising zs) i = (rising zs)[i] := by simp [at0, hi]
    rw [this]
    exact h2 _ (hp.mem_iff.1 (List.getElem_mem hi))
  · have hi1 : i - 1 < (rising zs).length := by omega
    have := (List.pairwise_iff_getElem.1 hn) (i - 1) i hi1 hi (by omega)
    apply this
    simpa [at0, hi, hi1] using e.symm
end Go.Proofs.Yteglefnfnkgpcaa
/-
  Rows of the statement's own: copied, added to; AllocAll told in one way.
-/
namespace Go.Proofs.Yteglefnfnkgpcaa
open Go.RowKit Go.Shelf
set_option linter.unusedVariables false

/-- append([]T{}, v...): a row of its own. -/
theorem copy_row (t e : TypeId) (s bytes : Nat) (z : Value) (ht : Try.prog.underlying t = some (.slice e)) (hi : (Try.prog.info? e).map (fun i => (i.zero, i.size, i.bytes)) = some (some z, s, bytes)) (hzs : z.cells.size = s) (hs : 0 < s) (hby : bytes ≤ 100)
    {W : World} {B : Nat} {v : Value} {n : Nat} {xs : List Value} (h : W.ownsRow B e s v n xs) (h1 : ∀ u ∈ xs, u.oneCell' = true) (hn : n ≤ 134217728) :
    ∃ a c W', (∀ ty, (Builtin.append_ #[t, t] ty #[.slice (some ⟨W.heap.size, 0, none⟩) 0 0, v]).run Try.prog (W.alloc (.cells #[] e)) = .ok (.slice (some ⟨a, 0, none⟩) n c) W') ∧ W'.ownsRow W.heap.size e s (.slice (some ⟨a, 0, none⟩) n c) n xs ∧ W.heap.size ≤ a ∧ Keeps W W' (fun _ => False) := by
  obtain ⟨i, q1, q2, q3, q4⟩ := info_parts hi
  have k0 : Keeps W (W.alloc (.cells #[] e)) (fun _ => False) := (Keeps.refl _ _).alloc _
  have own0 : (W.alloc (.cells #[] e)).ownsRow W.heap.size e s (.slice (some ⟨W.heap.size, 0, none⟩) 0 0) 0 [] := World.ownsRow_made W #[] 0 (Nat.le_refl _) (by simp only [maxLen]; omega) (by simp)
  rcases h.2 with ⟨rfl, rfl⟩ | ⟨g, cap, cur, rfl, hb, hg, _⟩
  · have hx : xs = [] := List.length_eq_zero_iff.1 (by rw [h.1]; simp)
    subst hx
    have r1 := fun ty => run_append_owned_none (P := Try.prog) (w := W.alloc (.cells #[] e)) W.heap.size t ty e i s ht q1 _ 0 [] own0
    exact ⟨_, _, _, r1, own0, Nat.le_refl _, k0⟩
  · obtain ⟨v', w2, hr, hown, hgr, hnil, hloc⟩ := run_append_own_at (P := Try.prog) (W.alloc (.cells #[] e)) W.heap.size t 0 e i z s bytes ht q1 q2 q3 q4 hzs hs _ 0 [] own0 ⟨g, 0, none⟩ n cap xs h.1
      (fun j u hu => k0.cellK (h.cells (g := g) rfl j u hu)) h1 (by simp only [maxLen]; omega) (by
        have := Nat.mul_le_mul (show 0 + n ≤ 134217728 by omega) hby
        omega) (by simp)
    rw [Nat.zero_add, List.nil_append] at hown
    have K : Keeps W w2 (fun _ => False) := k0.trans ((Keeps.ofGrown hgr).mono (fun i hi e => by
      have e' : W.heap.size = i := by simpa [Value.ownBlock] using e
      exact e'.symm)) (fun i hi e => by
        have e' : i = W.heap.size := e
        omega)
    obtain ⟨_, hh | ⟨g', cap', cur', e1, g2, _⟩⟩ := id hown
    · exact absurd (hnil.1 hh.1).1 (by simp)
    · subst e1
      exact ⟨g', cap', w2, fun ty => hr, hown, g2, K⟩
theorem Keeps.rowK {w W : World} (k : Keeps w W (fun _ => False)) {B : Nat} {e : TypeId} {s : Nat} {v : Value} {n : Nat} {xs : List Value} (h : w.ownsRow B e s v n xs) : W.ownsRow B e s v n xs := row_kept h (fun b hb => k.block b (h.lt b hb).2 id)
theorem cellI_one {os : List Int} : ∀ u ∈ os.map cellI, u.oneCell' = true := fun u hu => by
  obtain ⟨z, _, rfl⟩ := List.mem_map.1 hu
  rfl
theorem partC_one {L : List (Nat × Nat)} {lv : Int → Option Int} : ∀ u ∈ partC L lv, u.oneCell' = true := fun u hu => by
  unfold partC at hu
  obtain ⟨l, hl, hu⟩ := List.mem_flatten.1 hu
  obtain ⟨x, _, rfl⟩ := List.mem_map.1 hl
  simp at hu
  rcases hu with rfl | rfl | rfl <;> rfl
theorem copy_ints {W : World} {B : Nat} {v : Value} {os : List Int} (h : W.ownsRow B 3 1 v os.length (os.map cellI)) (hn : os.length ≤ 134217728) :
    ∃ a c W', (∀ ty, (Builtin.append_ #[28, 28] ty #[.slice (some ⟨W.heap.size, 0, none⟩) 0 0, v]).run Try.prog (W.alloc (.cells #[] 3)) = .ok (.slice (some ⟨a, 0, none⟩) os.length c) W') ∧ W'.ownsRow W.heap.size 3 1 (.slice (some ⟨a, 0, none⟩) os.length c) os.length (os.map cellI) ∧ W.heap.size ≤ a ∧ Keeps W W' (fun _ => False) :=
  copy_row 28 3 1 8 (.int .i64 0) Try.underlying28 (by kernel_rfl) rfl (by omega) (by omega) h cellI_one hn
theorem copy_parts {W : World} {B : Nat} {v : Value} {L : List (Nat × Nat)} {lv : Int → Option Int} (h : W.ownsRow B 38 3 v L.length (partC L lv)) (hn : L.length ≤ 134217728) :
    ∃ a c W', (∀ ty, (Builtin.append_ #[32, 32] ty #[.slice (some ⟨W.heap.size, 0, none⟩) 0 0, v]).run Try.prog (W.alloc (.cells #[] 38)) = .ok (.slice (some ⟨a, 0, none⟩) L.length c) W') ∧ W'.ownsRow W.heap.size 38 3 (.slice (some ⟨a, 0, none⟩) L.length c) L.length (partC L lv) ∧ W.heap.size ≤ a ∧ Keeps W W' (fun _ => False) :=
  copy_row 32 38 3 24 _ Try.underlying32 Try.infoPart rfl (by omega) (by omega) h partC_one hn
/-- One more part behind a row. -/
theorem push_part {W : World} {B : Nat} {v : Value} {n : Nat} {xs : List Value} (h : W.ownsRow B 38 3 v n xs) (hB : B ≤ W.heap.size) (hn : n ≤ 134217728) (x y : Int) (t : Bool) :
    ∃ g cap W', (∀ ty, (Builtin.append_ #[32, 32] ty #[v, .slice (some ⟨W.heap.size, 0, none⟩) 1 1]).run Try.prog (W.alloc (.cells #[.int .i64 x, .int .i64 y, .bool t] 38)) = .ok (.slice (some ⟨g, 0, none⟩) (n + 1) cap) W') ∧ W'.ownsRow B 38 3 (.slice (some ⟨g, 0, none⟩) (n + 1) cap) (n + 1) (xs ++ [.int .i64 x, .int .i64 y, .bool t]) ∧ Keeps W W' (fun k => v.ownBlock = some k) ∧ (v.ownBlock = some g ∨ W.heap.size ≤ g) := by
  obtain ⟨i, h1, h2, h3, h4⟩ := info_parts Try.infoPart
  obtain ⟨g, cap, w2, hr, hown, hgr, hloc, hlt⟩ := run_append_lies (P := Try.prog) (W.alloc (.cells #[.int .i64 x, .int .i64 y, .bool t] 38)) 32 0 B 38 i _ 3 24 Try.underlying32 h1 h2 h3 h4 rfl (by decide) v n xs (h.alloc _) ⟨W.heap.size, 0, none⟩ 1 1 [.int .i64 x, .int .i64 y, .bool t] rfl
    (fun j u hu => by
      rw [addr_add]
      simp only [World.cell?, heap_alloc_new]
      match j, hu with
      | 0, hu => simpa using hu
      | 1, hu => simpa using hu
      | 2, hu => simpa using hu
      | j + 3, hu => simp at hu) (by intro u hu; simp at hu; rcases hu with rfl | rfl | rfl <;> rfl) (by omega) (by simp only [maxLen]; omega) (by omega) (by simp; omega) (W.heap.size + 1) (by simp)
  refine ⟨g, cap, w2, fun ty => hr, hown, ((Keeps.refl W _).alloc _).trans (Keeps.ofGrown hgr) (fun _ _ e => e), ?_⟩
  rcases hloc with e | e
  · exact Or.inl e
  · exact Or.inr (by omega)
theorem push_int {W : World} {B : Nat} {v : Value} {n : Nat} {xs : List Value} (h : W.ownsRow B 3 1 v n xs) (hB : B ≤ W.heap.size) (hn : n ≤ 134217728) (z : Int) :
    ∃ g cap W', (∀ ty, (Builtin.append_ #[28, 28] ty #[v, .slice (some ⟨W.heap.size, 0, none⟩) 1 1]).run Try.prog (W.alloc (.cells #[.int .i64 z] 3)) = .ok (.slice (some ⟨g, 0, none⟩) (n + 1) cap) W') ∧ W'.ownsRow B 3 1 (.slice (some ⟨g, 0, none⟩) (n + 1) cap) (n + 1) (xs ++ [.int .i64 z]) ∧ Keeps W W' (fun k => v.ownBlock = some k) ∧ (v.ownBlock = some g ∨ W.heap.size ≤ g) := by
  obtain ⟨g, cap, w2, hr, hown, kk, hloc⟩ := append_one (P := Try.prog) 28 3 (.int .i64 0) 8 Try.underlying28 (by kernel_rfl) rfl (h.alloc (.cells #[.int .i64 z] 3)) (heap_alloc_new W (.cells #[.int .i64 z] 3)) rfl (by omega) (by simp only [maxLen]; omega) (by simp; omega)
  refine ⟨g, cap, w2, hr, hown, ((Keeps.refl W _).alloc _).trans kk (fun _ _ e => e), ?_⟩
  rcases hloc with e | e
  · exact Or.inl e
  · exact Or.inr (by rw [e]; simp)

theorem all_two {d : AD} (hF : d.Fine) (hW : d.Well) {x y : Int} (ha : allOne [x, y]) (hf : fitsIn ((d.limit : Int) - (d.used : Int)) [x, y] = true) : ∃ o1 o2 : Nat, (takeAll listT d [x, y]).1 = [(o1 : Int), (o2 : Int)] ∧ 16 ≤ o1 ∧ 16 ≤ o2 ∧ o1 ≠ o2 := by
  have hx : 1 ≤ x := ha x (by simp)
  have hy : 1 ≤ y := ha y (by simp)
  simp only [fitsIn] at hf
  split at hf
  · cases hf
  rename_i hc
  split at hf
  · cases hf
  rename_i hc2
  have h0 : classI x ≠ 0 := fun e => hc (Or.inl e)
  have h02 : classI y ≠ 0 := fun e => hc2 (Or.inl e)
  have hb : x ≤ 1048576 := Int.not_lt.1 fun hb => h0 (by unfold classI; rw [if_neg (by omega)])
  have hb2 : y ≤ 1048576 := Int.not_lt.1 fun hb => h02 (by unfold classI; rw [if_neg (by omega)])
  obtain ⟨m, rfl⟩ := Int.eq_ofNat_of_zero_le (show 0 ≤ x by omega)
  obtain ⟨q, rfl⟩ := Int.eq_ofNat_of_zero_le (show 0 ≤ y by omega)
  have hcn : classI (m : Int) = (classN m : Int) := by unfold classI; rw [if_pos (by omega)]; simp
  have hcq : classI (q : Int) = (classN q : Int) := by unfold classI; rw [if_pos (by omega)]; simp
  have h1 : ¬ (d.limit : Int) - (d.used : Int) < classI (m : Int) := fun e => hc (Or.inr e)
  have h2 : ¬ (d.limit : Int) - (d.used : Int) - classI (m : Int) < classI (q : Int) := fun e => hc2 (Or.inr e)
  have hB := list_B hF hW (class_in m (by omega) (by omega)) (by omega)
  have hB2 := list_B hB.fine hB.well (class_in q (by omega) (by omega)) (by have := hB.used; have := hB.limit; omega)
  refine ⟨(listT d (classN m)).1, (listT (listT d (classN m)).2 (classN q)).1, ?_, hB.low.1, hB2.low.1, fun e => ?_⟩
  · simp [takeAll, hcn, hcq]
  · have hnd := (hB2.perm.map (·.1)).nodup_iff.1 (lives_nodup hB2.fine)
    rw [List.map_cons, List.nodup_cons] at hnd
    refine hnd.1 (List.mem_map.2 ⟨_, hB.perm.mem_iff.2 (List.mem_cons_self ..), e⟩)

section
variable {w W W' : World} {p : Nat} {Z : Nat → Prop} {v : Value} {ys : List Int} {d d' : AD}
/-- AllocAll: a list of offsets, or none. -/
def AllR (w W : World) (p : Nat) (Z : Nat → Prop) (v : Value) (ys : List Int) (d : AD) (zs : List Int) (e : Ending) (w' : World) : Prop :=
  ∃ (ao : Option Addr) (os : List Int) (x : Int) (d' : AD), e = .returned (.tuple #[.slice ao os.length os.length, .int .i64 x]) ∧ (x == 0) = ((os.length : Int) == (zs.length : Int)) ∧ w'.ownsRow W.heap.size 3 1 (.slice ao os.length os.length) os.length (os.map cellI) ∧ OwnZ w w' p (fun k => Z k ∨ RowX ao k) v ys d' ∧ Grow d d' ∧ (∀ k, Z k → w'.heap[k]? = W.heap[k]?) ∧ os.length ≤ zs.length ∧ (os = [] ∨ fitsIn ((d.limit : Int) - (d.used : Int)) zs = true ∧ os = (takeAll listT d zs).1)
theorem ownz_allR (h : OwnZ w W p Z v ys d) (hF : d.Fine) (hW : d.Well) (zs : List Int) (hz0 : 0 < zs.length) (hz1 : zs.length ≤ 1000) (ha : allOne zs) :
    Calls Try.prog 12 #[.pointer (some ⟨p, 0, none⟩), .slice (some ⟨W.heap.size, 0, none⟩) zs.length zs.length] (W.alloc (.cells (zs.map cellI).toArray 3)) fun e w' => AllR w W p Z v ys d zs e w' := by
  refine (ownz_all h hF hW zs hz0 hz1 ha).mono ?_
  rintro e w' (⟨h0, rfl, hO, hK⟩ | ⟨b, hf, rfl, hb, hblk, hO, hst⟩)
  · refine ⟨none, [], _, d, rfl, ?_, World.ownsRow_nil _ _ _ _, h.add hK (RowX none) (fun q e => by cases e), Grow.refl hF hW, fun k hk => hK.block k (h.zs k hk).2.1 id, by simp, Or.inl rfl⟩
    have e1 : (refE d zs == 0) = false := by simpa using h0
    have e2 : (((([] : List Int).length : Nat) : Int) == (zs.length : Int)) = false := by
      rw [beq_eq_false_iff_ne]
      simp
      omega
    rw [e1, e2]
  · have hlen := takeAll_length listT zs d
    refine ⟨some ⟨b, 0, none⟩, (takeAll listT d zs).1, 0, _, by rw [hlen], by rw [hlen]; simp, ?_, ?_, all_grow hF hW ha hf, hst, by omega, Or.inr ⟨hf, rfl⟩⟩
    · refine ⟨by simp, Or.inr ⟨b, _, _, rfl, hb, hblk, Nat.le_refl _, by rw [hlen]; simp only [maxLen]; omega, by simp, ?_⟩⟩
      rw [List.take_of_length_le (by simp)]
    · have e : (fun k => Z k ∨ RowX (some ⟨b, 0, none⟩) k) = (fun k => Z k ∨ k = b) := by
        funext k
        simp [RowX, eq_comm]
      rw [e]
      exact hO
/-- The statement writes in its own blocks. -/
theorem OwnZ.wrote (h : OwnZ w W p Z v ys d) (k : Keeps W W' Z) : Own w W' p Z d := by
  have h1 : Own w W p Z d := h.own.less (fun _ _ _ e => Or.inl e)
  exact h1.swap k (fun i hi => (h.zs i hi).1) (fun i hi => Or.inl hi)
theorem own_parts (h : Own w W p Z d) (hF : d.Fine) : Calls Try.prog 11 #[.pointer (some ⟨p, 0, none⟩)] W fun e w' =>
    ∃ q, e = .returned (.slice (some ⟨q, 0, none⟩) d.L.length d.L.length) ∧ W.heap.size ≤ q ∧ w'.heap[q]? = some (.cells (partC d.L d.lv).toArray 38) ∧ Keeps W w' (fun _ => False) := by
  obtain ⟨c, hc, _⟩ := h.arena
  refine (parts_any hc hF (lives_len hF)).mono ?_
  rintro e w' ⟨q, cs, rfl, h1, h2, h3, h4⟩
  exact ⟨q, rfl, h1, h3.whole, h4⟩
theorem parts_row {B q : Nat} {L : List (Nat × Nat)} {lv : Int → Option Int} (h : W.heap[q]? = some (.cells (partC L lv).toArray 38)) (hB : B ≤ q) (hl : L.length ≤ 134217728) : W.ownsRow B 38 3 (.slice (some ⟨q, 0, none⟩) L.length L.length) L.length (partC L lv) := by
  refine ⟨partC_length L lv, Or.inr ⟨q, L.length, _, rfl, hB, h, Nat.le_refl _, by simp only [maxLen]; omega, by simp [partC_length], ?_⟩⟩
  rw [List.take_of_length_le (by simp [partC_length])]
end
end Go.Proofs.Yteglefnfnkgpcaa
/-
  Two arenas beside one another.
-/
namespace Go.Proofs.Yteglefnfnkgpcaa
open Go.RowKit Go.Shelf
set_option linter.unusedVariables false

/-- Two arenas of the statement's own, beside its blocks X; Y are the second one's. -/
structure TwoY (w W : World) (p q : Nat) (X Y : Nat → Prop) (d e : AD) : Prop where
  a : Own w W p (fun k => Y k ∨ X k) d
  b : Own w W q (fun k => ¬ Y k ∨ X k) e
  ys : ∀ k, Y k → k < W.heap.size
  xs : ∀ k, X k → w.heap.size ≤ k ∧ k < W.heap.size
def Two (w W : World) (p q : Nat) (X : Nat → Prop) (d e : AD) : Prop := ∃ Y, TwoY w W p q X Y d e
section
variable {w W W2 : World} {p q : Nat} {X X' Y S : Nat → Prop} {d d' e e' : AD}
theorem TwoY.alt (h : TwoY w W p q X Y d e) : ∀ k, Y k ∨ X k → k < W.heap.size := fun k hk => hk.elim (h.ys k) (fun x => (h.xs k x).2)
theorem TwoY.bb (h : TwoY w W p q X Y d e) : Own w W q (fun k => (k < W.heap.size ∧ ¬ Y k) ∨ X k) e := h.b.less (fun k _ _ x => x.elim (fun x => Or.inl x.2) Or.inr)
theorem TwoY.blt (h : TwoY w W p q X Y d e) : ∀ k, (k < W.heap.size ∧ ¬ Y k) ∨ X k → k < W.heap.size := fun k hk => hk.elim (fun x => x.1) (fun x => (h.xs k x).2)
theorem Own.kept (h : Own w W p X d) (k : Keeps W W2 S) (hS : ∀ i, S i → X i) (hw : ∀ i, S i → w.heap.size ≤ i) : Own w W2 p X d :=
  ⟨h.arena.keeps k (fun i _ e s => e.2 (hS i s)), h.keeps.trans k (fun i hi s => by have := hw i s; omega)⟩
/-- The statement's own blocks are written to, and new ones are its own. -/
theorem TwoY.keep (h : TwoY w W p q X Y d e) (k : Keeps W W2 S) (hS : ∀ i, S i → X i) (hX : ∀ i, X' i → (X i ∨ W.heap.size ≤ i) ∧ i < W2.heap.size) : TwoY w W2 p q X' Y d e := by
  have hw : ∀ i, S i → w.heap.size ≤ i := fun i s => (h.xs i (hS i s)).1
  have hsz := h.a.keeps.size
  refine ⟨?_, ?_, fun i y => Nat.lt_of_lt_of_le (h.ys i y) k.size, fun i x => ⟨?_, (hX i x).2⟩⟩
  · have h1 : Own w W p (fun i => (Y i ∨ X' i) ∨ X i) d := h.a.less (fun i hi _ x => by
      rcases x with (x | x) | x
      · exact Or.inl x
      · rcases (hX i x).1 with x | x
        · exact Or.inr x
        · omega
      · exact Or.inr x)
    exact (h1.kept k (fun i s => Or.inr (hS i s)) hw).less (fun i _ _ x => Or.inl x)
  · have h1 : Own w W q (fun i => (¬ Y i ∨ X' i) ∨ X i) e := h.b.less (fun i hi _ x => by
      rcases x with (x | x) | x
      · exact Or.inl x
      · rcases (hX i x).1 with x | x
        · exact Or.inr x
        · omega
      · exact Or.inr x)
    exact (h1.kept k (fun i s => Or.inr (hS i s)) hw).less (fun i _ _ x => Or.inl x)
  · rcases (hX i x).1 with x | x
    · exact (h.xs i x).1
    · omega
theorem TwoY.turnA (h : TwoY w W p q X Y d e) (ht : Turned W W2 p (fun k => (w.heap.size ≤ k ∧ ¬ (Y k ∨ X k)) ∧ k < W.heap.size) d') : TwoY w W2 p q X Y d' e ∧ ∀ k, X k → W2.heap[k]? = W.heap[k]? := by
  refine ⟨⟨h.a.turn ht h.alt, ⟨h.b.arena.keeps ht.2 (fun i _ x y => x.2 (Or.inl (fun hy => y.1.2 (Or.inl hy)))), h.b.keeps.trans ht.2 (fun i hi x => by have := x.1.1; omega)⟩, fun i y => Nat.lt_of_lt_of_le (h.ys i y) ht.2.size, fun i x => ⟨(h.xs i x).1, Nat.lt_of_lt_of_le (h.xs i x).2 ht.2.size⟩⟩, fun k hk => ht.2.block k (h.xs k hk).2 (fun x => x.1.2 (Or.inr hk))⟩
theorem TwoY.turnB' (h : TwoY w W p q X Y d e) (ho : Own w W2 q (fun k => (k < W.heap.size ∧ ¬ Y k) ∨ X k) e') (kk : Keeps W W2 (fun k => (w.heap.size ≤ k ∧ ¬ ((k < W.heap.size ∧ ¬ Y k) ∨ X k)) ∧ k < W.heap.size)) : TwoY w W2 p q X (fun k => Y k ∨ (W.heap.size ≤ k ∧ k < W2.heap.size)) d e' ∧ ∀ k, X k → W2.heap[k]? = W.heap[k]? := by
  refine ⟨⟨?_, ?_, fun i y => ?_, fun i x => ⟨(h.xs i x).1, Nat.lt_of_lt_of_le (h.xs i x).2 kk.size⟩⟩, fun k hk => kk.block k (h.xs k hk).2 (fun x => x.1.2 (Or.inr hk))⟩
  · have h1 : Own w W p (fun k => (Y k ∨ (W.heap.size ≤ k ∧ k < W2.heap.size)) ∨ X k) d := h.a.less (fun i hi _ x => by
      rcases x with (x | x) | x
      · exact Or.inl x
      · omega
      · exact Or.inr x)
    exact ⟨h1.arena.keeps kk (fun i hi x y => y.1.2 (Or.inl ⟨hi, fun hy => x.2 (Or.inl (Or.inl hy))⟩)), h.a.keeps.trans kk (fun i hi x => by have := x.1.1; omega)⟩
  · refine ho.less (fun i hi _ x => ?_)
    rcases x with x | x
    · refine Or.inl ⟨?_, fun hy => x (Or.inl hy)⟩
      rcases Nat.lt_or_ge i W.heap.size with h1 | h1
      · exact h1
      · exact absurd (Or.inr ⟨h1, hi⟩) x
    · exact Or.inr x
  · rcases y with y | y
    · exact Nat.lt_of_lt_of_le (h.ys i y) kk.size
    · exact y.2
theorem TwoY.turnB (h : TwoY w W p q X Y d e) (ht : Turned W W2 q (fun k => (w.heap.size ≤ k ∧ ¬ ((k < W.heap.size ∧ ¬ Y k) ∨ X k)) ∧ k < W.heap.size) e') : TwoY w W2 p q X (fun k => Y k ∨ (W.heap.size ≤ k ∧ k < W2.heap.size)) d e' ∧ ∀ k, X k → W2.heap[k]? = W.heap[k]? :=
  h.turnB' (h.bb.turn ht h.blt) ht.2
end

/-- The second one is made. -/
theorem two_new {w W W2 : World} {p q : Nat} {d e : AD} (h : Own w W p (fun _ => False) d) (k : Own W W2 q (fun _ => False) e) : TwoY w W2 p q (fun _ => False) (fun k => W.heap.size ≤ k ∧ k < W2.heap.size) d e := by
  have hsz := h.keeps.size
  refine ⟨?_, ?_, fun i y => y.2, fun i x => x.elim⟩
  · exact (h.less (Y := fun i => (W.heap.size ≤ i ∧ i < W2.heap.size) ∨ False) (fun i hi _ x => by
      rcases x with x | x
      · omega
      · exact x)).stay k.keeps
  · refine ⟨k.arena.mono (fun i hi x => ⟨by omega, fun y => ?_⟩), h.keeps.trans k.keeps (fun _ _ e => e)⟩
    rcases y with y | y
    · exact y ⟨x.1, hi⟩
    · exact y

set_option maxRecDepth 100000 in
set_option maxHeartbeats 2000000 in
/-- AllocAll of as many as one likes, none too. -/
theorem allocAll_yes {T : AD → Nat → Nat × AD} {G : AD → Prop} (hT : TakeOK T G) {w : World} {p : Nat} {F : Nat → Prop} {d : AD} (h : Arena w p F d) (hG : G d) (hF : d.Fine) (b o cap : Nat) (zs : List Int) (hz : ∀ j (h : j < zs.length), w.cell? ⟨b, o + j, none⟩ = some (.int .i64 zs[j]))
    (hb : ¬ F b) (hbl : b < w.heap.size) (ha : Hid (allOne zs)) (hf : Hid (fitsIn ((d.limit : Int) - (d.used : Int)) zs = true)) :
    Calls Try.prog 12 #[.pointer (some ⟨p, 0, none⟩), .slice (some ⟨b, o, none⟩) zs.length cap] w fun e w' => AllPost w p F (takeAll T d zs).1 (takeAll T d zs).2 e w' := by
  rcases Nat.eq_zero_or_pos zs.length with h0 | h0
  · obtain rfl : zs = [] := List.length_eq_zero_iff.1 h0
    have hR : Calls Try.prog 32 #[.pointer (some ⟨p, 0, none⟩), .slice (some ⟨b, o, none⟩) 0 cap] w fun e w' => RefPost w 0 e w' := by
      obtain ⟨c, hc, _⟩ := h
      exact refused_nil hc hF _ _
    simp only [List.length_nil]
    clear hz ha hf h0
    go_enter Try.func12, Try.ntmps12
    go_wp2_with fail
    refine hR.mono ?_
    rintro e w1 ⟨rfl, k1⟩
    clear hR
    have hmk := run_make_ints (P := Try.prog) w1 28 Try.underlying28 Try.infoI 0 (by omega)
    rw [show ((0 : Nat) : Int) = 0 from rfl] at hmk
    have hs1 := k1.size
    have hfin : Hid (AllPost w p F (takeAll T d []).1 (takeAll T d []).2 (.returned (.tuple #[.slice (some ⟨w1.heap.size, 0, none⟩) 0 0, .int .i64 0])) (w1.alloc (.cells (offRow 0 []) 3))) := by
      refine ⟨w1.heap.size, hs1, rfl, heap_alloc_new _ _, ?_, (k1.mono (fun _ _ e => e.elim)).alloc _⟩
      have k2 : Keeps w (w1.alloc (.cells (offRow 0 []) 3)) (fun _ => False) := k1.alloc _
      exact (h.mono (G := fun x => (F x ∨ w.heap.size ≤ x) ∧ x ≠ w1.heap.size) (fun i hi hFi => ⟨Or.inl hFi, by omega⟩)).keeps k2 (fun _ _ _ e => e)
    clear h
    go_wp2_with fail
    go_loopw [21] (fun i wr => i = .int .i64 0 ∧ w1.alloc (.cells (offRow 0 []) 3) = wr) (fun i _ => 0)
    case atStart => exact ⟨rfl, rfl⟩
    case round =>
      obtain ⟨rfl, rfl⟩ := hrel
      go_wp2_with fail
      go_ret2
      exact hfin.out
  · exact allocAll_some hT h hG hF b o cap zs hz hb hbl h0 ha hf
end Go.Proofs.Yteglefnfnkgpcaa
/-
  The calls on two arenas beside one another.
-/
namespace Go.Proofs.Yteglefnfnkgpcaa
open Go.RowKit Go.Shelf
set_option linter.unusedVariables false

theorem ints_row {W : World} {B g : Nat} {os : List Int} (h : W.heap[g]? = some (.cells (os.map cellI).toArray 3)) (hB : B ≤ g) (hl : os.length ≤ 134217728) : W.ownsRow B 3 1 (.slice (some ⟨g, 0, none⟩) os.length os.length) os.length (os.map cellI) := by
  refine ⟨by simp, Or.inr ⟨g, os.length, _, rfl, hB, h, Nat.le_refl _, by simp only [maxLen]; omega, by simp, ?_⟩⟩
  rw [List.take_of_length_le (by simp)]
theorem row_cells {W : World} {B g cap : Nat} {os : List Int} (h : W.ownsRow B 3 1 (.slice (some ⟨g, 0, none⟩) os.length cap) os.length (os.map cellI)) : ∀ j (hj : j < os.length), W.cell? ⟨g, 0 + j, none⟩ = some (.int .i64 os[j]) := fun j hj => by
  have := h.cells (g := g) rfl j (cellI os[j]) (by rw [List.getElem?_map, List.getElem?_eq_getElem hj]; rfl)
  rw [addr_add] at this
  simpa [cellI] using this
theorem row_below {W : World} {B g cap : Nat} {os : List Int} (h : W.ownsRow B 3 1 (.slice (some ⟨g, 0, none⟩) os.length cap) os.length (os.map cellI)) : IntsBelow W.heap.size W (some ⟨g, 0, none⟩) os :=
  Or.inr ⟨g, 0, rfl, (h.lt g rfl).2, fun j hj => by rw [row_cells h j hj]; simp [hj]⟩

section
variable {w W : World} {p q : Nat} {X Y : Nat → Prop} {d e : AD}
theorem two_all (h : TwoY w W p q X Y d e) (hF : d.Fine) (hW : d.Well) (b cap : Nat) (zs : List Int) (hX : X b) (hz : ∀ j (h : j < zs.length), W.cell? ⟨b, 0 + j, none⟩ = some (.int .i64 zs[j])) (hlen : zs.length ≤ 134217728) :
    Calls Try.prog 12 #[.pointer (some ⟨p, 0, none⟩), .slice (some ⟨b, 0, none⟩) zs.length cap] W fun r w' =>
      (refE d zs ≠ 0 ∧ r = .returned (.tuple #[.slice none 0 0, .int .i64 (refE d zs)]) ∧ Keeps W w' (fun _ => False)) ∨
      (refE d zs = 0 ∧ allOne zs ∧ fitsIn ((d.limit : Int) - (d.used : Int)) zs = true ∧ ∃ g, W.heap.size ≤ g ∧ r = .returned (.tuple #[.slice (some ⟨g, 0, none⟩) zs.length zs.length, .int .i64 0]) ∧ w'.heap[g]? = some (.cells ((takeAll listT d zs).1.map cellI).toArray 3) ∧ TwoY w w' p q (fun k => X k ∨ k = g) Y (takeAll listT d zs).2 e ∧ ∀ k, X k → w'.heap[k]? = W.heap[k]?) := by
  by_cases h0 : refE d zs = 0
  · have ha : allOne zs := by
      refine Classical.byContradiction fun hn => ?_
      unfold refE at h0
      rw [if_neg hn] at h0
      cases h0
    have hf : fitsIn ((d.limit : Int) - (d.used : Int)) zs = true := by
      unfold refE at h0
      rw [if_pos ha] at h0
      cases hq : fitsIn ((d.limit : Int) - (d.used : Int)) zs with
      | true => rfl
      | false => rw [hq] at h0; simp at h0
    have hA := allocAll_yes listOK h.a.here hW hF b 0 cap zs hz (fun x => x.1.2 (Or.inr hX)) (h.xs b hX).2 ha hf
    refine hA.mono ?_
    rintro r w' ⟨g, hg, rfl, hblk, har, hk⟩
    have hlen' := takeAll_length listT zs d
    have hsz := h.a.keeps.size
    refine Or.inr ⟨h0, ha, hf, g, hg, by rw [hlen'], hblk, ⟨⟨har.mono (fun i hi x => ⟨?_, ?_⟩), h.a.keeps.trans hk (fun i hi x => by have := x.1.1; omega)⟩, ?_, fun i y => Nat.lt_of_lt_of_le (h.ys i y) hk.size, fun i x => ?_⟩, fun k hx => hk.block k (h.xs k hx).2 (fun x => x.1.2 (Or.inr hx))⟩
    · rcases x.1 with y | y
      · exact y.1.1
      · omega
    · rintro (y | y | y)
      · rcases x.1 with z | z
        · exact z.1.2 (Or.inl y)
        · have := h.ys i y
          omega
      · rcases x.1 with z | z
        · exact z.1.2 (Or.inr y)
        · have := (h.xs i y).2
          omega
      · exact x.2 y
    · have h1 : Own w W q (fun k => ¬ Y k ∨ (X k ∨ k = g)) e := h.b.less (fun i hi _ x => by
        rcases x with x | x | x
        · exact Or.inl x
        · exact Or.inr x
        · omega)
      exact ⟨h1.arena.keeps hk (fun i _ x y => x.2 (Or.inl (fun hy => y.1.2 (Or.inl hy)))), h.b.keeps.trans hk (fun i hi x => by have := x.1.1; omega)⟩
    · rcases x with x | x
      · exact ⟨(h.xs i x).1, Nat.lt_of_lt_of_le (h.xs i x).2 hk.size⟩
      · subst x
        exact ⟨by omega, heap_lt hblk⟩
  · refine (allocAll_no h.a.arena hF (some ⟨b, 0, none⟩) cap zs (by omega) (fun j hj => ⟨b, 0, rfl, hz j hj⟩) _ rfl h0).mono ?_
    rintro r w' ⟨rfl, k⟩
    exact Or.inl ⟨h0, rfl, k⟩
theorem two_bad (h : TwoY w W p q X Y d e) (hF : d.Fine) (a : Option Addr) (cap : Nat) (zs : List Int) (h0 : 0 < zs.length) (h1 : zs.length ≤ 134217728) (hfit : ∀ z ∈ zs, fitsI z) (hI : IntsBelow W.heap.size W a zs) (hno : ¬ (zs.Nodup ∧ ∀ z ∈ zs, (d.lv z).isSome = true)) :
    Calls Try.prog 16 #[.pointer (some ⟨p, 0, none⟩), .slice a zs.length cap] W fun r w' => r = .returned (.int .i64 23) ∧ Keeps W w' (fun _ => False) := by
  refine (free_any h.a.here (fun k hk => hk.2) hF a cap zs h0 h1 hfit hI).mono ?_
  rintro r w' (⟨hg, _⟩ | ⟨_, rfl, k⟩)
  · exact absurd (good_two hg) hno
  · exact ⟨rfl, k⟩
theorem two_free (h : TwoY w W p q X Y d e) (hF : d.Fine) (a : Option Addr) (cap : Nat) (zs : List Int) (h1 : zs.length ≤ 134217728) (hI : IntsBelow W.heap.size W a zs) (hn : zs.Nodup) (hl : ∀ z ∈ zs, (d.lv z).isSome = true) :
    Calls Try.prog 16 #[.pointer (some ⟨p, 0, none⟩), .slice a zs.length cap] W fun r w' => r = .returned (.int .i64 0) ∧ ∃ d', Gones d zs d' ∧ TwoY w w' p q X Y d' e ∧ ∀ k, X k → w'.heap[k]? = W.heap[k]? := by
  rcases Nat.eq_zero_or_pos zs.length with h0 | h0
  · obtain rfl : zs = [] := List.length_eq_zero_iff.1 h0
    refine (free_none (w := W) (p := p) a cap).mono ?_
    rintro r w' ⟨rfl, k⟩
    exact ⟨rfl, d, rfl, h.keep k (fun _ x => x.elim) (fun i x => ⟨Or.inl x, Nat.lt_of_lt_of_le (h.xs i x).2 k.size⟩), fun i x => k.block i (h.xs i x).2 id⟩
  · refine (free_any h.a.here (fun k hk => hk.2) hF a cap zs h0 h1 (fun z hz => (lv_fits hF (hl z hz)).1) hI).mono ?_
    rintro r w' (⟨_, rfl, d', hg, ht⟩ | ⟨hno, _⟩)
    · obtain ⟨t1, t2⟩ := h.turnA ht
      exact ⟨rfl, d', hg.perm (rising_perm zs), t1, t2⟩
    · exact absurd (two_good hn hl) hno
theorem two_bfree (h : TwoY w W p q X Y d e) (hF : e.Fine) (z : Int) (hl : (e.lv z).isSome = true) :
    Calls Try.prog 16 #[.pointer (some ⟨q, 0, none⟩), .slice (some ⟨W.heap.size, 0, none⟩) 1 1] (W.alloc (.cells #[.int .i64 z] 3)) fun r w' => r = .returned (.int .i64 0) ∧ ∃ e' Y', Gone e z e' ∧ TwoY w w' p q X Y' d e' ∧ ∀ k, X k → w'.heap[k]? = W.heap[k]? := by
  obtain ⟨s, hs⟩ := Option.isSome_iff_exists.1 hl
  refine (own_free1 h.bb hF z s hs h.blt).mono ?_
  rintro r w' ⟨rfl, e', hg, ho, hk⟩
  obtain ⟨t1, t2⟩ := h.turnB' ho hk
  exact ⟨rfl, e', _, hg, t1, t2⟩
theorem two_balloc (h : TwoY w W p q X Y d e) (hF : e.Fine) (hW : e.Well) (n : Nat) (h1 : 1 ≤ n) (h2 : n ≤ 1048576) (h3 : e.used + classN n ≤ e.limit) :
    Calls Try.prog 17 #[.pointer (some ⟨q, 0, none⟩), .int .i64 (n : Int)] W fun r w' => r = .returned (.tuple #[.int .i64 ((listT e (classN n)).1 : Int), .int .i64 0]) ∧ ∃ Y', TwoY w w' p q X Y' d (listT e (classN n)).2 ∧ ∀ k, X k → w'.heap[k]? = W.heap[k]? := by
  refine (own_alloc h.bb hF listOK hW n h1 h2 h3).mono ?_
  rintro r w' ⟨rfl, ht⟩
  obtain ⟨t1, t2⟩ := h.turnB ht
  exact ⟨rfl, _, t1, t2⟩
theorem two_live (h : TwoY w W p q X Y d e) : Calls Try.prog 19 #[.pointer (some ⟨p, 0, none⟩)] W fun r w' => r = .returned (.int .i64 (d.used : Int)) ∧ w' = W := by
  obtain ⟨c, hc, _⟩ := h.a.arena
  exact live_any hc
theorem two_blive (h : TwoY w W p q X Y d e) : Calls Try.prog 19 #[.pointer (some ⟨q, 0, none⟩)] W fun r w' => r = .returned (.int .i64 (e.used : Int)) ∧ w' = W := by
  obtain ⟨c, hc, _⟩ := h.b.arena
  exact live_any hc
theorem two_end (h : TwoY w W p q X Y d e) : Calls Try.prog 20 #[.pointer (some ⟨p, 0, none⟩)] W fun r w' => r = .returned (.int .i64 (d.bs.length : Int)) ∧ w' = W := by
  obtain ⟨c, hc, _⟩ := h.a.arena
  exact end_any hc
theorem two_bend (h : TwoY w W p q X Y d e) : Calls Try.prog 20 #[.pointer (some ⟨q, 0, none⟩)] W fun r w' => r = .returned (.int .i64 (e.bs.length : Int)) ∧ w' = W := by
  obtain ⟨c, hc, _⟩ := h.b.arena
  exact end_any hc
end
end Go.Proofs.Yteglefnfnkgpcaa
