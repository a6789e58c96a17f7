import Derived.Test.YteglefnfnkgpcaaRn7
/-
  What taking and freeing keep of the data.
-/
namespace Go.Proofs.Yteglefnfnkgpcaa
open Go.RowKit Go.Shelf

theorem lt_of_le_nodup {xs : List Int} (h : xs.Pairwise (· ≤ ·)) (n : xs.Nodup) : xs.Pairwise (· < ·) :=
  (List.Pairwise.and h (List.nodup_iff_pairwise_ne.1 n)).imp (fun {a b} e => by have := e.1; have := e.2; omega)
theorem AD.rises.gone {d d' : AD} (hR : d.rises) (F : d.Fine) {z : Int} (hg : Gone d z d') : d'.rises := by
  have F' := F.gone hg
  obtain ⟨s, hz, rfl⟩ := hg
  intro x xs hx
  have hnd := F'.free.nodup x xs hx
  have hx : upd d.fm (s : Int) (some (rising ((d.fm (s : Int)).getD [] ++ [z]))) x = some xs := hx
  by_cases e : x = (s : Int)
  · subst e
    rw [upd_same] at hx
    cases hx
    exact lt_of_le_nodup (rising_sorted _) hnd
  · rw [upd_other _ _ _ _ e] at hx
    exact hR x xs hx
theorem AD.rises.gones : ∀ {d : AD} {zs : List Int} {d' : AD}, d.rises → d.Fine → Gones d zs d' → d'.rises
  | _, [], _, hR, _, h => by cases h; exact hR
  | _, _ :: _, _, hR, F, ⟨_, h1, h2⟩ => (hR.gone F h1).gones (F.gone h1) h2
theorem AD.rises.took {d : AD} (hR : d.rises) (n : Nat) : (d.took n).rises := hR
theorem AD.retook_fm (d : AD) (n z : Nat) (r : List Int) : (d.retook n z r).fm = upd d.fm (n : Int) (some r) := rfl
theorem AD.retook_lv (d : AD) (n z : Nat) (r : List Int) : (d.retook n z r).lv = upd d.lv (z : Int) (some (n : Int)) := rfl
theorem AD.retook_L (d : AD) (n z : Nat) (r : List Int) : (d.retook n z r).L = d.L := rfl
theorem AD.retook_used (d : AD) (n z : Nat) (r : List Int) : (d.retook n z r).used = d.used + n := rfl
theorem AD.retook_bs (d : AD) (n z : Nat) (r : List Int) : (d.retook n z r).bs = splice d.bs z (zeros n) := rfl
theorem AD.rises.retook {d : AD} (hR : d.rises) {n z : Nat} {r : List Int} (hf : d.fm (n : Int) = some ((z : Int) :: r)) : (d.retook n z r).rises := by
  intro x xs hx
  rw [AD.retook_fm] at hx
  by_cases e : x = (n : Int)
  · subst e
    rw [upd_same] at hx
    cases hx
    exact (List.pairwise_cons.1 (hR _ _ hf)).2
  · rw [upd_other _ _ _ _ e] at hx
    exact hR x xs hx
theorem AD.Fine.retook {d : AD} (F : d.Fine) {n z : Nat} {r : List Int} (hf : d.fm (n : Int) = some ((z : Int) :: r)) (h2 : d.used + n ≤ d.limit) : (d.retook n z r).Fine := by
  obtain ⟨hlz, y, hy, e1, e2⟩ := F.free.mem _ _ hf (z : Int) (by simp)
  have hyz : y = (z, n) := by
    cases y
    simp at e1 e2 ⊢
    omega
  subst hyz
  have ht := tiles_mem F.tiles hy
  have hlen : (splice d.bs z (zeros n)).length = d.bs.length := splice_length (by rw [zeros_length]; exact ht.2.2)
  have hback : ∀ x, upd (upd d.lv (z : Int) (some (n : Int))) (z : Int) none x = d.lv x := fun x => by
    by_cases e : x = (z : Int)
    · rw [e, upd_same, hlz]
    · rw [upd_other _ _ _ _ e, upd_other _ _ _ _ e]
  have hnd := List.nodup_cons.1 (F.free.nodup _ _ hf)
  refine ⟨?_, fun x s hx => ?_, ?_, F.lim, h2, ?_, ?_⟩
  · rw [AD.retook_L, AD.retook_bs, hlen]
    exact F.tiles
  · rw [AD.retook_lv] at hx
    by_cases e : x = (z : Int)
    · subst e
      rw [upd_same] at hx
      cases hx
      exact ⟨z, n, rfl, rfl, hy⟩
    · rw [upd_other _ _ _ _ e] at hx
      exact F.live x s hx
  · rw [AD.retook_bs, hlen]
    exact F.most
  · rw [AD.retook_used, AD.retook_L, AD.retook_lv, liveSum_gone (lv := upd d.lv (z : Int) (some (n : Int))) F.tiles hy (by rw [upd_same]; rfl), F.sum]
    congr 1
    exact liveSum_congr (fun x _ => by rw [hback])
  · rw [AD.retook_L, AD.retook_lv, AD.retook_fm]
    have hother : ∀ x xs, upd d.fm (n : Int) (some r) x = some xs → ∃ ys, d.fm x = some ys ∧ ∀ q ∈ xs, q ∈ ys ∧ q ≠ (z : Int) := fun x xs hx => by
      by_cases e : x = (n : Int)
      · subst e
        rw [upd_same] at hx
        cases hx
        exact ⟨_, hf, fun q hq => ⟨by simp [hq], fun e => hnd.1 (e ▸ hq)⟩⟩
      · rw [upd_other _ _ _ _ e] at hx
        refine ⟨xs, hx, fun q hq => ⟨hq, fun e2 => ?_⟩⟩
        obtain ⟨_, t, ht, g1, g2⟩ := F.free.mem x xs hx q hq
        have := tiles_unique F.tiles ht hy (by simp; omega)
        subst this
        exact e g2
    refine ⟨fun x xs hx => ?_, fun x xs hx => ?_, fun x xs hx q hq => ?_, fun t ht hl => ?_⟩
    · by_cases e : x = (n : Int)
      · subst e
        rw [upd_same] at hx
        cases hx
        exact hnd.2
      · rw [upd_other _ _ _ _ e] at hx
        exact F.free.nodup x xs hx
    · obtain ⟨ys, h1, _⟩ := hother x xs hx
      exact F.free.size x ys h1
    · obtain ⟨ys, h1, h3⟩ := hother x xs hx
      obtain ⟨g1, t, g2⟩ := F.free.mem x ys h1 q (h3 q hq).1
      exact ⟨by rw [upd_other _ _ _ _ (h3 q hq).2]; exact g1, t, g2⟩
    · by_cases e0 : ((t.1 : Nat) : Int) = (z : Int)
      · rw [e0, upd_same] at hl
        cases hl
      · rw [upd_other _ _ _ _ e0] at hl
        obtain ⟨xs, g1, g2⟩ := F.free.all t ht hl
        by_cases e : ((t.2 : Nat) : Int) = (n : Int)
        · rw [e, upd_same]
          rw [e, hf] at g1
          cases g1
          rcases List.mem_cons.1 g2 with g | g
          · exact absurd g e0
          · exact ⟨r, rfl, g⟩
        · rw [upd_other _ _ _ _ e]
          exact ⟨xs, g1, g2⟩
end Go.Proofs.Yteglefnfnkgpcaa
/-
  The memory is never too small.
-/
namespace Go.Proofs.Yteglefnfnkgpcaa
open Go.RowKit Go.Shelf

/-- The bytes of all blocks of the class c. -/
def classSum (L : List (Nat × Nat)) (c : Nat) : Nat := (L.map (fun x => if x.2 = c then x.2 else 0)).sum
theorem classSum_cons (x : Nat × Nat) (L : List (Nat × Nat)) (c : Nat) : classSum (x :: L) c = (if x.2 = c then x.2 else 0) + classSum L c := by simp [classSum]
theorem classSum_append (L M : List (Nat × Nat)) (c : Nat) : classSum (L ++ M) c = classSum L c + classSum M c := by simp [classSum]
theorem tiles_end : ∀ {s : Nat} {L : List (Nat × Nat)} {e : Nat}, Tiles s L e → e = s + (L.map Prod.snd).sum
  | _, [], _, h => by rw [Tiles] at h; simp; omega
  | _, _ :: _, _, h => by have := tiles_end h.2.2; simp; omega
theorem sum_add (l : List Nat) (f g : Nat → Nat) : (l.map (fun c => f c + g c)).sum = (l.map f).sum + (l.map g).sum := by
  induction l with
  | nil => rfl
  | cons a r ih => simp [ih]; omega
theorem le_sum {l : List Nat} {f : Nat → Nat} {c : Nat} (h : c ∈ l) : f c ≤ (l.map f).sum := by
  induction l with
  | nil => cases h
  | cons a r ih =>
    rcases List.mem_cons.1 h with rfl | h
    · simp
    · have := ih h
      simp
      omega
theorem sum_le {l : List Nat} {f : Nat → Nat} {m : Nat} (h : ∀ c, f c ≤ m) : (l.map f).sum ≤ l.length * m := by
  induction l with
  | nil => simp
  | cons a r ih =>
    have := h a
    simp [Nat.succ_mul]
    omega
theorem sizes_le : ∀ {L : List (Nat × Nat)}, (∀ y ∈ L, y.2 ∈ classList) → (L.map Prod.snd).sum ≤ (classList.map (classSum L)).sum
  | [], _ => by simp
  | x :: L, h => by
    have h1 := sizes_le (L := L) (fun y hy => h y (by simp [hy]))
    have h2 : classSum (x :: L) = fun c => (if x.2 = c then x.2 else 0) + classSum L c := by funext c; exact classSum_cons x L c
    rw [h2, sum_add]
    have h3 := le_sum (f := fun c => if x.2 = c then x.2 else 0) (h x (by simp))
    simp only [if_true] at h3
    simp only [List.map_cons, List.sum_cons]
    omega
/-- What taking and freeing keep. -/
structure AD.Well (d : AD) : Prop where
  rises : d.rises
  sizes : ∀ y ∈ d.L, y.2 ∈ classList
  most : ∀ c, classSum d.L c ≤ d.limit
theorem AD.Well.room {d : AD} (h : d.Well) (F : d.Fine) : d.bs.length ≤ 16 + 32 * d.limit := by
  have h1 := tiles_end F.tiles
  have h2 := sizes_le h.sizes
  have h3 := sum_le (l := classList) h.most
  have h4 : classList.length = 32 := by decide
  rw [h4] at h3
  omega
theorem live_class : ∀ {L : List (Nat × Nat)} {lv : Int → Option Int} {c : Nat}, (∀ y ∈ L, y.2 = c → (lv (y.1 : Int)).isSome = true) → classSum L c ≤ liveSum L lv
  | [], _, _, _ => by simp [classSum]
  | x :: L, lv, c, h => by
    have h1 := live_class (L := L) (lv := lv) (c := c) (fun y hy => h y (by simp [hy]))
    rw [classSum_cons, liveSum_cons]
    by_cases e : x.2 = c
    · rw [if_pos e, h x (by simp) e]
      simp
      omega
    · rw [if_neg e]
      omega
theorem AD.Well.took {d : AD} (h : d.Well) (F : d.Fine) {c : Nat} (hc : c ∈ classList) (hf : d.fm (c : Int) = none ∨ d.fm (c : Int) = some []) (h2 : d.used + c ≤ d.limit) : (d.took c).Well := by
  refine ⟨h.rises.took c, fun y hy => ?_, fun k => ?_⟩
  · rw [AD.took_L] at hy
    rcases List.mem_append.1 hy with hy | hy
    · exact h.sizes y hy
    · rw [List.mem_singleton.1 hy]
      exact hc
  · rw [AD.took_L, AD.took_limit, classSum_append, classSum_cons]
    have e0 : classSum [] k = 0 := rfl
    have hm := h.most k
    by_cases e : c = k
    · subst e
      have h3 : classSum d.L c ≤ liveSum d.L d.lv := live_class (fun y hy e => by
        cases hl : d.lv (y.1 : Int) with
        | some s => rfl
        | none =>
          obtain ⟨xs, g1, g2⟩ := F.free.all y hy hl
          rw [e] at g1
          rcases hf with hf | hf
          · rw [hf] at g1; cases g1
          · rw [hf] at g1; cases g1; cases g2)
      rw [← F.sum] at h3
      simp
      omega
    · simp [e]
      omega
theorem AD.Well.retook {d : AD} (h : d.Well) {n z : Nat} {r : List Int} (hf : d.fm (n : Int) = some ((z : Int) :: r)) : (d.retook n z r).Well := ⟨h.rises.retook hf, h.sizes, h.most⟩
theorem AD.Well.gone {d d' : AD} (h : d.Well) (F : d.Fine) {z : Int} (hg : Gone d z d') : d'.Well := by
  refine ⟨h.rises.gone F hg, ?_, ?_⟩
  · rw [hg.L]; exact h.sizes
  · rw [hg.L, hg.limit]; exact h.most
end Go.Proofs.Yteglefnfnkgpcaa
/-
  take, whatever was freed.
-/
namespace Go.Proofs.Yteglefnfnkgpcaa
open Go.RowKit Go.Shelf

theorem listOK : TakeOK listT AD.Well where
  call := fun {w p F d} c hG hF h _ _ h3 => by
    have h1 := hG.room hF
    have h2 := hF.lim
    exact take_list h hF hG.rises c (by omega)
  fine := fun {d} c hG hF hc _ h3 => by
    have h16 := (show ∀ c ∈ classList, 16 ≤ c by decide) c hc
    have h1 := hG.room hF
    have h2 := hF.lim
    have hnew : (d.fm (c : Int) = none ∨ d.fm (c : Int) = some []) → (d.took c).Fine ∧ (d.took c).Well ∧ (d.took c).used = d.used + c ∧ (d.took c).limit = d.limit ∧ d.bs.length ≤ 134217728 := fun hf =>
      ⟨hF.took (by omega) (by omega) h3, hG.took hF hc hf h3, rfl, rfl, by omega⟩
    unfold listT
    cases hf : d.fm (c : Int) with
    | none => exact hnew (Or.inl hf)
    | some xs =>
      cases xs with
      | nil => exact hnew (Or.inr hf)
      | cons z r =>
        obtain ⟨_, y, hy, e1, _⟩ := hF.free.mem _ _ hf z (by simp)
        obtain ⟨z', rfl⟩ : ∃ z' : Nat, z = (z' : Int) := ⟨y.1, e1⟩
        have ht := tiles_mem hF.tiles hy
        simp only [Int.toNat_natCast]
        exact ⟨hF.retook hf h3, hG.retook hf, rfl, rfl, by omega⟩
end Go.Proofs.Yteglefnfnkgpcaa
namespace Go.Proofs.Yteglefnfnkgpcaa
open Go.RowKit Go.Shelf

set_option maxRecDepth 100000 in
set_option maxHeartbeats 1000000 in
theorem allocAll_no {w : World} {p : Nat} {F : Nat → Prop} {d : AD} (h : Arena w p F d) (hF : d.Fine) (a : Option Addr) (cap : Nat) (zs : List Int) (hbig : zs.length ≤ 140737488355328) (hz : IntsAt w a zs) (x : Int) (hx : refE d zs = x) (hx0 : ¬ x = 0) :
    Calls Try.prog 12 #[.pointer (some ⟨p, 0, none⟩), .slice a zs.length cap] w fun e w' => e = .returned (.tuple #[.slice none 0 0, .int .i64 x]) ∧ Keeps w w' (fun _ => False) := by
  have hR : Calls Try.prog 32 #[.pointer (some ⟨p, 0, none⟩), .slice a zs.length cap] w fun e w' => RefPost w x e w' := by
    obtain ⟨c, hc, _⟩ := h
    have := refused_any hc hF a cap zs hbig hz
    rwa [hx] at this
  have hx1 : (x != 0) = true := by simpa using hx0
  clear hx hz
  go_enter Try.func12, Try.ntmps12
  go_wp2_with fail
  refine hR.mono ?_
  rintro e w1 ⟨rfl, k1⟩
  clear hR
  go_wp2_with fail
  go_ret2
  exact ⟨rfl, k1⟩

set_option maxRecDepth 100000 in
set_option maxHeartbeats 1000000 in
theorem alloc_no {w : World} {p : Nat} {F : Nat → Prop} {d : AD} (h : Arena w p F d) (hF : d.Fine) (n : Nat) (h1 : 1 ≤ n) (h2 : n ≤ 1048576) (h3 : d.limit < d.used + classN n) :
    Calls Try.prog 17 #[.pointer (some ⟨p, 0, none⟩), .int .i64 (n : Int)] w fun e w' => e = .returned (.tuple #[.int .i64 0, .int .i64 22]) ∧ Keeps w w' (fun _ => False) := by
  have hcn : classI (n : Int) = (classN n : Int) := by unfold classI; rw [if_pos (by omega)]; simp
  have hu := hF.use
  have hE : refE d [(n : Int)] = 22 := by
    unfold refE
    have ha : allOne [(n : Int)] := fun z hz => by simp at hz; omega
    rw [if_pos ha]
    have hf : fitsIn ((d.limit : Int) - (d.used : Int)) [(n : Int)] = false := by
      simp only [fitsIn]
      rw [if_pos (by rw [hcn]; omega)]
    rw [hf]
    rfl
  have k0 : Keeps w (w.alloc (.cells #[.int .i64 (n : Int)] 3)) (fun _ => False) := (Keeps.refl _ _).alloc _
  have hA := allocAll_no (h.keeps k0 (fun _ _ _ e => e)) hF (some ⟨w.heap.size, 0, none⟩) 1 [(n : Int)] (by simp) (fun j hj => by
    have hj0 : j = 0 := by simpa using hj
    subst hj0
    refine ⟨w.heap.size, 0, rfl, ?_⟩
    simp only [World.cell?, heap_alloc_new]
    simp) 22 hE (by omega)
  simp only [List.length_cons, List.length_nil, Nat.zero_add] at hA
  clear hE h hF
  go_enter Try.func17, Try.ntmps17
  go_wp2_with fail
  refine hA.mono ?_
  rintro e w2 ⟨rfl, k2⟩
  clear hA
  go_wp2_with fail
  go_ret2
  exact ⟨rfl, k0.trans k2 (fun _ _ e => e)⟩
end Go.Proofs.Yteglefnfnkgpcaa
/-
  Alloc of whatever number, Free of whatever one offset, in an arena that a statement made.
-/
namespace Go.Proofs.Yteglefnfnkgpcaa
open Go.RowKit Go.Shelf
set_option linter.unusedVariables false

set_option maxRecDepth 100000 in
set_option maxHeartbeats 1000000 in
theorem alloc_ref {w : World} {p : Nat} {F : Nat → Prop} {d : AD} (h : Arena w p F d) (hF : d.Fine) (n x : Int) (hE : refE d [n] = x) (hx0 : ¬ x = 0) :
    Calls Try.prog 17 #[.pointer (some ⟨p, 0, none⟩), .int .i64 n] w fun e w' => e = .returned (.tuple #[.int .i64 0, .int .i64 x]) ∧ Keeps w w' (fun _ => False) := by
  have k0 : Keeps w (w.alloc (.cells #[.int .i64 n] 3)) (fun _ => False) := (Keeps.refl _ _).alloc _
  have hA := allocAll_no (h.keeps k0 (fun _ _ _ e => e)) hF (some ⟨w.heap.size, 0, none⟩) 1 [n] (by simp) (fun j hj => by
    have hj0 : j = 0 := by simpa using hj
    subst hj0
    refine ⟨w.heap.size, 0, rfl, ?_⟩
    simp only [World.cell?, heap_alloc_new]
    simp) x hE hx0
  simp only [List.length_cons, List.length_nil, Nat.zero_add] at hA
  have hx1 : (x != 0) = true := by simpa using hx0
  clear hE h hF
  go_enter Try.func17, Try.ntmps17
  go_wp2_with fail
  refine hA.mono ?_
  rintro e w2 ⟨rfl, k2⟩
  clear hA
  go_wp2_with fail
  go_ret2
  exact ⟨rfl, k0.trans k2 (fun _ _ e => e)⟩

theorem refE_no {d : AD} {n : Int} (h : n < 1) : refE d [n] = 21 := by
  unfold refE
  rw [if_neg (fun ha => by have := ha n (by simp); omega)]
theorem refE_yes {d : AD} {n : Int} (h : refE d [n] = 0) : 1 ≤ n ∧ n ≤ 1048576 ∧ (d.used : Int) + classI n ≤ d.limit := by
  by_cases h1 : n < 1
  · rw [refE_no h1] at h
    cases h
  · unfold refE at h
    have ha : allOne [n] := fun z hz => by simp at hz; omega
    rw [if_pos ha] at h
    by_cases hc : classI n = 0 ∨ (d.limit : Int) - (d.used : Int) < classI n
    · have hf : fitsIn ((d.limit : Int) - (d.used : Int)) [n] = false := by
        simp only [fitsIn]
        rw [if_pos hc]
      rw [hf] at h
      simp at h
    · have h0 : classI n ≠ 0 := fun e => hc (Or.inl e)
      refine ⟨by omega, ?_, by have : ¬ (d.limit : Int) - (d.used : Int) < classI n := fun e => hc (Or.inr e); omega⟩
      refine Int.not_lt.1 fun hb => h0 ?_
      unfold classI
      rw [if_neg (by omega)]

/-- Alloc of whatever number: refused, or taken. -/
theorem own_alloc_any {w w1 : World} {p : Nat} {X : Nat → Prop} {d : AD} (h : Own w w1 p X d) (hF : d.Fine) (hW : d.Well) (n : Int) :
    Calls Try.prog 17 #[.pointer (some ⟨p, 0, none⟩), .int .i64 n] w1 fun e w' =>
      (refE d [n] ≠ 0 ∧ e = .returned (.tuple #[.int .i64 0, .int .i64 (refE d [n])]) ∧ Keeps w1 w' (fun _ => False)) ∨
      (refE d [n] = 0 ∧ 1 ≤ n ∧ n ≤ 1048576 ∧ d.used + classN n.toNat ≤ d.limit ∧ AllocPost w1 p (fun k => (w.heap.size ≤ k ∧ ¬ X k) ∧ k < w1.heap.size) (listT d (classN n.toNat)).1 (listT d (classN n.toNat)).2 e w') := by
  by_cases h0 : refE d [n] = 0
  · obtain ⟨a1, a2, a3⟩ := refE_yes h0
    obtain ⟨m, rfl⟩ := Int.eq_ofNat_of_zero_le (show 0 ≤ n by omega)
    have hcn : classI (m : Int) = (classN m : Int) := by unfold classI; rw [if_pos (by omega)]; simp
    have a4 : d.used + classN m ≤ d.limit := by omega
    refine (own_alloc h hF listOK hW m (by omega) (by omega) a4).mono fun e w' hp => ?_
    exact Or.inr ⟨h0, a1, a2, by simpa using a4, by simpa using hp⟩
  · exact (alloc_ref h.arena hF n _ rfl h0).mono fun e w' hp => Or.inl ⟨h0, hp.1, hp.2⟩

/-- Free of whatever one offset. -/
theorem own_free_any {w w1 : World} {p : Nat} {X : Nat → Prop} {d : AD} (h : Own w w1 p X d) (hF : d.Fine) (z : Int) (hz : fitsI z) (hX : ∀ k, X k → k < w1.heap.size) :
    Calls Try.prog 16 #[.pointer (some ⟨p, 0, none⟩), .slice (some ⟨w1.heap.size, 0, none⟩) 1 1] (w1.alloc (.cells #[.int .i64 z] 3)) fun e w' =>
      (∃ s d', d.lv z = some s ∧ e = .returned (.int .i64 0) ∧ Gone d z d' ∧ Own w w' p X d' ∧ Keeps w1 w' (fun k => (w.heap.size ≤ k ∧ ¬ X k) ∧ k < w1.heap.size)) ∨
      (d.lv z = none ∧ e = .returned (.int .i64 23) ∧ Own w w' p X d ∧ Keeps w1 w' (fun _ => False)) := by
  cases hl : d.lv z with
  | some s =>
    refine (own_free1 h hF z s hl hX).mono fun e w' hp => ?_
    obtain ⟨he, d', hg, ho, hk⟩ := hp
    exact Or.inl ⟨s, d', rfl, he, hg, ho, hk⟩
  | none =>
    have k0 : Keeps w1 (w1.alloc (.cells #[.int .i64 z] 3)) (fun _ => False) := (Keeps.refl _ _).alloc _
    have hr : rising [z] = [z] := by simp [rising]
    have hf := free_any (w := w1.alloc (.cells #[.int .i64 z] 3)) (h.here.keeps k0 (fun _ _ _ e => e)) (fun k hk => by have := hk.2; simp; omega) hF (some ⟨w1.heap.size, 0, none⟩) 1 [z] (by simp) (by simp) (fun y hy => by
      simp at hy
      subst hy
      exact hz) (Or.inr ⟨w1.heap.size, 0, rfl, by simp, fun j hj => by
        have hj0 : j = 0 := by simpa using hj
        subst hj0
        simp only [World.cell?, heap_alloc_new]
        simp⟩)
    rw [hr] at hf
    refine hf.mono fun e w2 hp => ?_
    rcases hp with ⟨hg, _⟩ | ⟨_, rfl, hk⟩
    · have := (hg 0 (by simp)).1
      simp [at0, hl] at this
    · have k2 := k0.trans hk (fun _ _ e => e)
      exact Or.inr ⟨rfl, rfl, h.stay k2, k2⟩
end Go.Proofs.Yteglefnfnkgpcaa
namespace Go.Proofs.Yteglefnfnkgpcaa
open Go.RowKit Go.Shelf

theorem AD.fresh_well (limit : Nat) : (AD.fresh limit).Well :=
  ⟨fun x xs h => by simp [AD.fresh] at h, fun y hy => by simp [AD.fresh] at hy, fun c => by simp [AD.fresh, classSum]⟩

/-- The i-th block's place where all blocks are of class c. -/
def seatAt (c i : Nat) : Int := 16 + (i : Int) * (c : Int)

/-- g blocks of one class, those of fl free. -/
structure St (d : AD) (c g : Nat) (fl : List Int) : Prop where
  fine : d.Fine
  well : d.Well
  lim : d.limit = 2097152
  len : d.bs.length = 16 + g * c
  use : d.used + fl.length * c = g * c
  lv : ∀ i, i < g → seatAt c i ∉ fl → d.lv (seatAt c i) = some (c : Int)
  fm : d.fm (c : Int) = some fl ∨ (fl = [] ∧ d.fm (c : Int) = none)

theorem St.fresh (c : Nat) : St (AD.fresh 2097152) c 0 [] :=
  ⟨AD.fresh_fine (by omega), AD.fresh_well _, rfl, by simp [AD.fresh, zeros_length], by simp [AD.fresh], fun i hi => by omega, Or.inr ⟨rfl, rfl⟩⟩

theorem seat_inj {c i j : Nat} (hc : 0 < c) (h : seatAt c i = seatAt c j) : i = j := by
  unfold seatAt at h
  have : (i : Int) * (c : Int) = (j : Int) * (c : Int) := by omega
  have h2 := Int.eq_of_mul_eq_mul_right (by omega) this
  omega

/-- A new block. -/
theorem St.more {d : AD} {c g : Nat} (h : St d c g []) (hc : c ∈ classList) (hc2 : c ≤ 1048576) (hr : (g + 1) * c ≤ 2097152) : (listT d c).1 = 16 + g * c ∧ St (listT d c).2 c (g + 1) [] := by
  have h16 := (show ∀ c ∈ classList, 16 ≤ c by decide) c hc
  have hu := h.use
  simp only [List.length_nil, Nat.zero_mul, Nat.add_zero] at hu
  have hstep : (g + 1) * c = g * c + c := by rw [Nat.add_mul, Nat.one_mul]
  have hT : listT d c = (d.bs.length, d.took c) := by
    unfold listT
    rcases h.fm with e | ⟨_, e⟩ <;> rw [e]
  have hok := listOK.fine c h.well h.fine hc hc2 (by rw [h.lim]; omega)
  rw [hT] at hok ⊢
  obtain ⟨f1, f2, f3, f4, f5⟩ := hok
  refine ⟨h.len, f1, f2, f4.trans h.lim, ?_, ?_, ?_, ?_⟩
  · show (d.bs ++ zeros c).length = _
    rw [List.length_append, zeros_length, h.len]
    omega
  · show (d.took c).used + ([] : List Int).length * c = _
    rw [f3]
    simp
    omega
  · intro i hi _
    show upd d.lv (d.bs.length : Int) (some (c : Int)) (seatAt c i) = _
    unfold upd
    by_cases hg : i = g
    · rw [if_pos]
      rw [h.len, hg]
      unfold seatAt
      push_cast
      rfl
    · rw [if_neg]
      · exact h.lv i (by omega) (by simp)
      · intro e
        refine hg (seat_inj (c := c) (by omega) ?_)
        rw [e, h.len]
        unfold seatAt
        push_cast
        rfl
  · rcases h.fm with e | ⟨e0, e⟩
    · exact Or.inl e
    · exact Or.inr ⟨e0, e⟩

/-- The lowest free block again. -/
theorem St.again {d : AD} {c g : Nat} {z : Int} {r : List Int} (h : St d c g (z :: r)) (hc : c ∈ classList) (hc2 : c ≤ 1048576) (hg : g * c ≤ 2097152) : ((listT d c).1 : Int) = z ∧ St (listT d c).2 c g r := by
  have hu := h.use
  have hfm : d.fm (c : Int) = some (z :: r) := by
    rcases h.fm with e | ⟨e0, _⟩
    · exact e
    · cases e0
  have hlen : (z :: r).length * c = r.length * c + c := by rw [List.length_cons, Nat.add_mul, Nat.one_mul]
  have hT : listT d c = (z.toNat, d.retook c z.toNat r) := by
    unfold listT
    rw [hfm]
  have hok := listOK.fine c h.well h.fine hc hc2 (by rw [h.lim]; omega)
  obtain ⟨_, y, hy, e1, _⟩ := h.fine.free.mem _ _ hfm z (by simp)
  have hnd := h.fine.free.nodup _ _ hfm
  have ez : ((z.toNat : Nat) : Int) = z := by omega
  have ht := tiles_mem h.fine.tiles hy
  rw [hT] at hok ⊢
  obtain ⟨f1, f2, f3, f4, f5⟩ := hok
  refine ⟨ez, f1, f2, f4.trans h.lim, ?_, ?_, ?_, ?_⟩
  · have hcl : z.toNat + c ≤ d.bs.length := by
      have := (h.fine.free.mem _ _ hfm z (by simp)).2
      obtain ⟨y', hy', e1', e2'⟩ := this
      have := tiles_mem h.fine.tiles hy'
      simp at *
      omega
    show (splice d.bs z.toNat (zeros c)).length = _
    rw [splice_length (by rw [zeros_length]; exact hcl)]
    exact h.len
  · show (d.retook c z.toNat r).used + _ = _
    rw [f3]
    omega
  · intro i hi hm
    show upd d.lv ((z.toNat : Nat) : Int) (some (c : Int)) (seatAt c i) = _
    rw [ez]
    unfold upd
    by_cases he : seatAt c i = z
    · rw [if_pos he]
    · rw [if_neg he]
      exact h.lv i hi (by simp [he, hm])
  · left
    show upd d.fm (c : Int) (some r) (c : Int) = some r
    simp [upd]

/-- One freed. -/
theorem St.gone {d d' : AD} {c g i : Nat} {fl : List Int} (h : St d c g fl) (hi : i < g) (hm : seatAt c i ∉ fl) (hc : 0 < c) (hG : Gone d (seatAt c i) d') : St d' c g (rising (fl ++ [seatAt c i])) := by
  have hl := h.lv i hi hm
  have hf' := h.fine.gone hG
  have hw' := h.well.gone h.fine hG
  obtain ⟨s, hs, rfl⟩ := hG
  rw [hl] at hs
  have es : s = c := by
    have := Option.some.inj hs
    omega
  subst es
  have hlen : (rising (fl ++ [seatAt s i])).length = fl.length + 1 := by
    rw [(rising_perm _).length_eq]
    simp
  have hu := h.use
  have hfl : (d.fm (s : Int)).getD [] = fl := by
    rcases h.fm with e | ⟨e0, e⟩
    · rw [e]; rfl
    · rw [e, e0]; rfl
  have hpos : s ≤ d.used := by
    obtain ⟨o, n, e1, e2, hmem⟩ := h.fine.live _ _ hl
    have hsum := liveSum_gone (lv := d.lv) h.fine.tiles hmem (by rw [← e1, hl]; rfl)
    have := h.fine.sum
    omega
  refine ⟨hf', hw', h.lim, h.len, ?_, ?_, ?_⟩
  · show d.used - s + _ = _
    rw [hlen, Nat.add_mul, Nat.one_mul]
    omega
  · intro j hj hjm
    show upd d.lv (seatAt s i) none (seatAt s j) = _
    unfold upd
    rw [if_neg]
    · refine h.lv j hj fun e => hjm ?_
      exact (rising_perm _).mem_iff.2 (by simp [e])
    · intro e
      exact hjm ((rising_perm _).mem_iff.2 (by simp [e]))
  · left
    show upd d.fm (s : Int) (some (rising ((d.fm (s : Int)).getD [] ++ [seatAt s i]))) (s : Int) = _
    rw [hfl]
    simp [upd]
end Go.Proofs.Yteglefnfnkgpcaa
namespace Go.Proofs.Yteglefnfnkgpcaa
open Go.RowKit Go.Shelf

theorem Own.fence {w w1 : World} {p : Nat} {d : AD} (h : Own w w1 p (fun _ => False) d) : Own w w1 p (fun k => w1.heap.size ≤ k) d :=
  ⟨h.here.mono (fun i _ e => ⟨e.1.1, by have := e.2; omega⟩), h.keeps⟩
theorem Own.grow {w w1 w2 : World} {p H : Nat} {d : AD} (h : Own w w1 p (fun k => H ≤ k) d) (hH : w.heap.size ≤ H) (k : Keeps w1 w2 (fun k => H ≤ k)) : Own w w2 p (fun k => H ≤ k) d :=
  ⟨h.arena.keeps k (fun _ _ e s => e.2 s), h.keeps.trans k (fun i hi e => by omega)⟩
theorem Own.one {w w1 : World} {p H b : Nat} {d : AD} (h : Own w w1 p (fun k => H ≤ k) d) (hb : H ≤ b) : Own w w1 p (fun k => k = b) d :=
  h.less (fun k _ _ e => by omega)

section
variable {w w1 : World} {p : Nat} {X : Nat → Prop} {d : AD} {c g n : Nat}
theorem lo_more (h : Own w w1 p X d) (hX : ∀ k, X k → k < w1.heap.size) (hS : St d c g []) (hn : classN n = c) (h1 : 1 ≤ n) (h2 : n ≤ 1048576) (hr : (g + 1) * c ≤ 2097152) :
    Calls Try.prog 17 #[.pointer (some ⟨p, 0, none⟩), .int .i64 (n : Int)] w1 fun e w' => e = .returned (.tuple #[.int .i64 (seatAt c g), .int .i64 0]) ∧ ∃ d', St d' c (g + 1) [] ∧ Own w w' p X d' ∧ ∀ k, X k → w'.heap[k]? = w1.heap[k]? := by
  have hcl := class_le n h1 h2
  have hci := class_in n h1 h2
  rw [hn] at hcl hci
  have hm := hS.more hci hcl.2.2.1 hr
  have hu := hS.use
  simp only [List.length_nil, Nat.zero_mul, Nat.add_zero] at hu
  have hstep : (g + 1) * c = g * c + c := by rw [Nat.add_mul, Nat.one_mul]
  refine (own_alloc h hS.fine listOK hS.well n h1 h2 (by rw [hn, hS.lim]; omega)).mono ?_
  rintro e w' ⟨rfl, ht⟩
  rw [hn] at ht ⊢
  rw [hm.1]
  refine ⟨by unfold seatAt; push_cast; rfl, _, hm.2, h.turn ht hX, fun k hk => Own.rest ht (hX k hk) (Or.inl hk)⟩
theorem lo_again {z : Int} {r : List Int} (h : Own w w1 p X d) (hX : ∀ k, X k → k < w1.heap.size) (hS : St d c g (z :: r)) (hn : classN n = c) (h1 : 1 ≤ n) (h2 : n ≤ 1048576) (hg : g * c ≤ 2097152) :
    Calls Try.prog 17 #[.pointer (some ⟨p, 0, none⟩), .int .i64 (n : Int)] w1 fun e w' => e = .returned (.tuple #[.int .i64 z, .int .i64 0]) ∧ ∃ d', St d' c g r ∧ Own w w' p X d' ∧ ∀ k, X k → w'.heap[k]? = w1.heap[k]? := by
  have hcl := class_le n h1 h2
  have hci := class_in n h1 h2
  rw [hn] at hcl hci
  have hm := hS.again hci hcl.2.2.1 hg
  have hu := hS.use
  have hlen : (z :: r).length * c = r.length * c + c := by rw [List.length_cons, Nat.add_mul, Nat.one_mul]
  refine (own_alloc h hS.fine listOK hS.well n h1 h2 (by rw [hn, hS.lim]; omega)).mono ?_
  rintro e w' ⟨rfl, ht⟩
  rw [hn] at ht ⊢
  rw [hm.1]
  exact ⟨rfl, _, hm.2, h.turn ht hX, fun k hk => Own.rest ht (hX k hk) (Or.inl hk)⟩
theorem lo_no (h : Own w w1 p X d) (hS : St d c g []) (hn : classN n = c) (h1 : 1 ≤ n) (h2 : n ≤ 1048576) (hr : 2097152 < (g + 1) * c) :
    Calls Try.prog 17 #[.pointer (some ⟨p, 0, none⟩), .int .i64 (n : Int)] w1 fun e w' => e = .returned (.tuple #[.int .i64 0, .int .i64 22]) ∧ Own w w' p X d ∧ ∀ k, k < w1.heap.size → w'.heap[k]? = w1.heap[k]? := by
  have hu := hS.use
  simp only [List.length_nil, Nat.zero_mul, Nat.add_zero] at hu
  have hstep : (g + 1) * c = g * c + c := by rw [Nat.add_mul, Nat.one_mul]
  refine (alloc_no h.here hS.fine n h1 h2 (by rw [hn, hS.lim]; omega)).mono ?_
  rintro e w' ⟨rfl, k⟩
  exact ⟨rfl, h.stay k, fun i hi => k.block i hi id⟩
theorem lo_free {i : Nat} {fl : List Int} (h : Own w w1 p X d) (hX : ∀ k, X k → k < w1.heap.size) (hS : St d c g fl) (hi : i < g) (hm : seatAt c i ∉ fl) (hc : 0 < c) :
    Calls Try.prog 16 #[.pointer (some ⟨p, 0, none⟩), .slice (some ⟨w1.heap.size, 0, none⟩) 1 1] (w1.alloc (.cells #[.int .i64 (seatAt c i)] 3)) fun e w' => e = .returned (.int .i64 0) ∧ ∃ d', St d' c g (rising (fl ++ [seatAt c i])) ∧ Own w w' p X d' ∧ ∀ k, X k → w'.heap[k]? = w1.heap[k]? := by
  refine (own_free1 h hS.fine (seatAt c i) (c : Int) (hS.lv i hi hm) hX).mono ?_
  rintro e w' ⟨rfl, d', hG, ho, kk⟩
  exact ⟨rfl, d', hS.gone hi hm hc hG, ho, fun k hk => kk.block k (hX k hk) (fun e => e.1.2 hk)⟩
theorem lo_end (h : Own w w1 p X d) : Calls Try.prog 20 #[.pointer (some ⟨p, 0, none⟩)] w1 fun e w' => e = .returned (.int .i64 (d.bs.length : Int)) ∧ w' = w1 := by
  obtain ⟨c, hc, _⟩ := h.arena
  exact end_any hc
theorem lo_live (h : Own w w1 p X d) : Calls Try.prog 19 #[.pointer (some ⟨p, 0, none⟩)] w1 fun e w' => e = .returned (.int .i64 (d.used : Int)) ∧ w' = w1 := by
  obtain ⟨c, hc, _⟩ := h.arena
  exact live_any hc
end

/-- Sorted lists of the same numbers are one. -/
theorem rising_again (l : List Int) (z : Int) : rising (rising l ++ [z]) = rising (l ++ [z]) := by
  have p1 : (rising (rising l ++ [z])).Perm (rising (l ++ [z])) :=
    ((rising_perm _).trans ((rising_perm l).append_right [z])).trans (rising_perm _).symm
  exact p1.eq_of_pairwise (le := (· ≤ ·)) (fun a b _ _ h1 h2 => by omega) (rising_sorted _) (rising_sorted _)
theorem rising_of_perm {l m : List Int} (hp : l.Perm m) (hm : m.Pairwise (· < ·)) : rising l = m :=
  ((rising_perm l).trans hp).eq_of_pairwise (le := (· ≤ ·)) (fun a b _ _ h1 h2 => by omega) (rising_sorted _) (hm.imp (fun h => by omega))
/-- A builtin append whose run is known. -/
theorem app_run {P : Program} (w : World) {ops : Array Oper} {rest : List Oper} {o : Oper} {a : Act} {Q : Exit → Act → World → Prop}
    (hgd : o.guard = none) (s x : Operand) (t : TypeId) (hop : o.op = Op.call { callee := Callee.builtin Builtin.append, args := #[s, x], argTypes := #[t, t] }) {v u v' : Value} {w' : World} (hs : a.eval s = v) (hx : a.eval x = u)
    (hrun : ∀ ty, (Builtin.append_ #[t, t] ty #[v, u]).run P w = .ok v' w') (hK : wpList P ops Q rest (a.put o.dst v') w') : wpList P ops Q (o :: rest) a w := by
  refine wpList_plain hgd fun K hK' => ?_
  unfold Oper.wp
  simp [execOp, hop, resolve, invoke, builtin, hs, hx, hrun, Result.andThen]
  exact hK' _ _ hK

/-- The free ones among the first j blocks, in their order. -/
def FsOK (c j : Nat) (fs : List Int) : Prop := fs.Pairwise (· < ·) ∧ (∀ z ∈ fs, ∃ i, i < j ∧ z = seatAt c i) ∧ fs.length ≤ j
theorem FsOK.skip {c j : Nat} {fs : List Int} (h : FsOK c j fs) : FsOK c (j + 1) fs :=
  ⟨h.1, fun z hz => by obtain ⟨i, hi, e⟩ := h.2.1 z hz; exact ⟨i, by omega, e⟩, by have := h.2.2; omega⟩
theorem seat_lt {c i j : Nat} (hc : 0 < c) (h : i < j) : seatAt c i < seatAt c j := by
  unfold seatAt
  have : (i : Int) * (c : Int) < (j : Int) * (c : Int) := Int.mul_lt_mul_of_pos_right (by omega) (by omega)
  omega
theorem FsOK.snoc {c j : Nat} {fs : List Int} (h : FsOK c j fs) (hc : 0 < c) : FsOK c (j + 1) (fs ++ [seatAt c j]) := by
  refine ⟨List.pairwise_append.2 ⟨h.1, by simp, fun a ha b hb => ?_⟩, fun z hz => ?_, by have := h.2.2; simp; omega⟩
  · obtain ⟨i, hi, rfl⟩ := h.2.1 a ha
    simp at hb
    subst hb
    exact seat_lt hc hi
  · rcases List.mem_append.1 hz with hz | hz
    · obtain ⟨i, hi, e⟩ := h.2.1 z hz
      exact ⟨i, by omega, e⟩
    · simp at hz
      exact ⟨j, by omega, hz⟩

/-- The block of a row. -/
def RowX (so : Option Addr) (k : Nat) : Prop := so = some ⟨k, 0, none⟩
/-- A row of numbers in a block of its own. -/
def RowAt (w : World) (so : Option Addr) (fs : List Int) : Prop := ∀ j (h : j < fs.length), ∃ b, so = some ⟨b, 0, none⟩ ∧ w.cell? ⟨b, j, none⟩ = some (.int .i64 fs[j])
theorem RowAt.kept {w w' : World} {so : Option Addr} {fs : List Int} (h : RowAt w so fs) (k : ∀ b, RowX so b → w'.heap[b]? = w.heap[b]?) : RowAt w' so fs := by
  intro j hj
  obtain ⟨b, e, hc⟩ := h j hj
  exact ⟨b, e, (World.cell?_of_block (k b e)).trans hc⟩
theorem row_of_own {w : World} {H : Nat} {v : Value} {fs : List Int} (h : w.ownsRow H 3 1 v fs.length (fs.map cellI)) :
    ∃ so cap, v = .slice so fs.length cap ∧ RowAt w so fs ∧ (∀ k, RowX so k → H ≤ k ∧ k < w.heap.size) := by
  rcases h.2 with ⟨e, e0⟩ | ⟨g, cap, cur, e, hb, hg, _⟩
  · refine ⟨none, 0, by rw [e, e0], fun j hj => by omega, fun k hk => by cases hk⟩
  · refine ⟨some ⟨g, 0, none⟩, cap, e, fun j hj => ⟨g, rfl, ?_⟩, fun k hk => ?_⟩
    · have := h.cells (g := g) (by rw [e]; rfl) j (.int .i64 fs[j]) (by simp [cellI, hj])
      rw [addr_add] at this
      simpa using this
    · cases hk
      exact ⟨hb, heap_lt hg⟩

/-- The order in which they are freed. -/
def freeOrder (down : Bool) (fs : List Int) : List Int := if down then fs.reverse else fs
theorem freeOrder_perm (down : Bool) (fs : List Int) : (freeOrder down fs).Perm fs := by
  unfold freeOrder
  cases down
  · exact List.Perm.refl _
  · exact List.reverse_perm fs
theorem freeOrder_length (down : Bool) (fs : List Int) : (freeOrder down fs).length = fs.length := (freeOrder_perm down fs).length_eq
theorem free_step_data {down : Bool} {fs : List Int} {k : Nat} (hk : k < (freeOrder down fs).length) (hs : fs.Pairwise (· < ·)) :
    (freeOrder down fs)[k] ∉ rising ((freeOrder down fs).take k) ∧ rising (rising ((freeOrder down fs).take k) ++ [(freeOrder down fs)[k]]) = rising ((freeOrder down fs).take (k + 1)) := by
  have hnd : (freeOrder down fs).Nodup := (freeOrder_perm down fs).nodup_iff.2 (hs.imp (fun h => by omega))
  refine ⟨fun hm => ?_, ?_⟩
  · have hm' := (rising_perm _).mem_iff.1 hm
    obtain ⟨i, hi, e⟩ := List.getElem_of_mem hm'
    have hi' : i < k := by simp at hi; omega
    rw [List.getElem_take] at e
    exact List.pairwise_iff_getElem.1 hnd i k (by omega) hk hi' e
  · rw [rising_again, List.take_succ_eq_append_getElem hk]
theorem rowx_lt {w w' : World} {so : Option Addr} (hX : ∀ b, RowX so b → b < w.heap.size) (k : ∀ b, RowX so b → w'.heap[b]? = w.heap[b]?) : ∀ b, RowX so b → b < w'.heap.size := fun b hb => by
  have h1 := hX b hb
  have h2 := k b hb
  rw [Array.getElem?_eq_getElem h1] at h2
  exact heap_lt h2
theorem row_up {w : World} {b : Nat} {fs : List Int} (h : RowAt w (some ⟨b, 0, none⟩) fs) {k : Nat} (hk : k < (freeOrder false fs).length) : w.cell? ⟨b, k, none⟩ = some (.int .i64 (freeOrder false fs)[k]) := by
  obtain ⟨b', e, hc⟩ := h k (by simpa [freeOrder] using hk)
  cases e
  exact hc
theorem row_order {w : World} {b : Nat} {fs : List Int} (h : RowAt w (some ⟨b, 0, none⟩) fs) {k : Nat} (hk : k < (freeOrder true fs).length) : w.cell? ⟨b, fs.length - 1 - k, none⟩ = some (.int .i64 (freeOrder true fs)[k]) := by
  have hk' : k < fs.length := by simpa [freeOrder] using hk
  obtain ⟨b', e, hc⟩ := h (fs.length - 1 - k) (by omega)
  cases e
  rw [hc]
  congr 2
  exact (List.getElem_reverse (l := fs) (i := k) (by simpa using hk')).symm
end Go.Proofs.Yteglefnfnkgpcaa
namespace Go.Proofs.Yteglefnfnkgpcaa
open Go.RowKit Go.Shelf

theorem pairs_4096 : ∀ x ∈ classPairs, 4096 < x.1 → 4096 ≤ x.2 := by decide +kernel
theorem class_4096 {n : Nat} (h1 : 1 ≤ n) (h2 : n ≤ 4096) : classN n ≤ 4096 := by
  obtain ⟨x, hx, e, h3, h4⟩ := class_spec n h1 (by omega)
  by_cases h : 4096 < x.1
  · have := pairs_4096 x hx h
    omega
  · omega

/-- New blocks alone, all of them live. -/
structure Al (d : AD) (bl : List (Nat × Nat)) : Prop where
  fine : d.Fine
  new : newG d
  lim : d.limit = 2097152
  L : d.L = bl
  lv : ∀ x ∈ bl, d.lv (x.1 : Int) = some (x.2 : Int)
  use : d.used ≤ bl.length * 4096

theorem Al.fresh : Al (AD.fresh 2097152) [] :=
  ⟨AD.fresh_fine (by omega), newG_fresh _, rfl, rfl, fun x hx => (by cases hx), by simp [AD.fresh]⟩
theorem Al.more {d : AD} {bl : List (Nat × Nat)} (h : Al d bl) {s : Nat} (h1 : 1 ≤ s) (h2 : s ≤ 4096) (hl : bl.length < 64) :
    d.used + classN s ≤ d.limit ∧ Al (newT d (classN s)).2 (bl ++ [((newT d (classN s)).1, classN s)]) := by
  have hc := class_4096 h1 h2
  have hu := h.use
  have hlim := h.lim
  have hroom : d.used + classN s ≤ d.limit := by
    have : bl.length * 4096 ≤ 63 * 4096 := Nat.mul_le_mul_right _ (by omega)
    omega
  refine ⟨hroom, ?_⟩
  obtain ⟨f1, f2, f3, f4, f5⟩ := newOK.fine (classN s) h.new h.fine (class_in s h1 (by omega)) (by omega) hroom
  refine ⟨f1, f2, f4.trans hlim, ?_, ?_, ?_⟩
  · show d.L ++ [(d.bs.length, classN s)] = _
    rw [h.L]
    rfl
  · intro x hx
    show upd d.lv (d.bs.length : Int) (some (classN s : Int)) (x.1 : Int) = _
    rcases List.mem_append.1 hx with hx | hx
    · have ht := tiles_mem h.fine.tiles (by rw [h.L]; exact hx)
      unfold upd
      rw [if_neg (by omega)]
      exact h.lv x hx
    · simp at hx
      subst hx
      simp [upd, newT]
  · rw [f3, List.length_append]
    simp
    omega

/-- Behind the first j: those of bk are live, the others of the first j are not, those from j on are. -/
structure Fr (d : AD) (bl : List (Nat × Nat)) (j : Nat) (bk : List (Nat × Nat)) : Prop where
  fine : d.Fine
  L : d.L = bl
  kept : ∀ x ∈ bk, d.lv (x.1 : Int) = some (x.2 : Int) ∧ ∃ k, k < j ∧ bl[k]? = some x
  gone : ∀ k x, k < j → bl[k]? = some x → x ∉ bk → d.lv (x.1 : Int) = none
  rest : ∀ k x, j ≤ k → bl[k]? = some x → d.lv (x.1 : Int) = some (x.2 : Int)

theorem Al.fr {d : AD} {bl : List (Nat × Nat)} (h : Al d bl) : Fr d bl 0 [] :=
  ⟨h.fine, h.L, fun x hx => (by cases hx), fun k x hk => by omega, fun k x _ hx => h.lv x (List.mem_of_getElem? hx)⟩
theorem Fr.keep {d : AD} {bl : List (Nat × Nat)} {j : Nat} {bk : List (Nat × Nat)} (h : Fr d bl j bk) {x : Nat × Nat} (hx : bl[j]? = some x) : Fr d bl (j + 1) (bk ++ [x]) := by
  refine ⟨h.fine, h.L, fun y hy => ?_, fun k y hk hy hn => ?_, fun k y hk hy => h.rest k y (by omega) hy⟩
  · rcases List.mem_append.1 hy with hy | hy
    · obtain ⟨e, k, hk, e2⟩ := h.kept y hy
      exact ⟨e, k, by omega, e2⟩
    · simp at hy
      subst hy
      exact ⟨h.rest j y (Nat.le_refl _) hx, j, by omega, hx⟩
  · by_cases hkj : k = j
    · subst hkj
      rw [hx] at hy
      cases hy
      exact absurd (List.mem_append.2 (Or.inr (by simp))) hn
    · exact h.gone k y (by omega) hy (fun e => hn (List.mem_append.2 (Or.inl e)))
theorem Fr.free {d d' : AD} {bl : List (Nat × Nat)} {j : Nat} {bk : List (Nat × Nat)} (h : Fr d bl j bk) {x : Nat × Nat} (hx : bl[j]? = some x) (hG : Gone d (x.1 : Int) d') : Fr d' bl (j + 1) bk := by
  have hs := tiles_sorted h.fine.tiles
  rw [h.L] at hs
  have hne : ∀ k y, k ≠ j → bl[k]? = some y → ¬ (y.1 : Int) = (x.1 : Int) := by
    intro k y hk hy e
    obtain ⟨hkl, hy'⟩ := List.getElem?_eq_some_iff.1 hy
    obtain ⟨hjl, hx'⟩ := List.getElem?_eq_some_iff.1 hx
    rcases Nat.lt_or_gt_of_ne hk with hlt | hlt
    · have := List.pairwise_iff_getElem.1 hs k j (by simpa using hkl) (by simpa using hjl) hlt
      rw [List.getElem_map, List.getElem_map, hy', hx'] at this
      omega
    · have := List.pairwise_iff_getElem.1 hs j k (by simpa using hjl) (by simpa using hkl) hlt
      rw [List.getElem_map, List.getElem_map, hy', hx'] at this
      omega
  have hlv := hG.lv
  refine ⟨h.fine.gone hG, hG.L.trans h.L, fun y hy => ?_, fun k y hk hy hn => ?_, fun k y hk hy => ?_⟩
  · obtain ⟨e, k, hk, e2⟩ := h.kept y hy
    refine ⟨?_, k, by omega, e2⟩
    rw [hlv]
    unfold upd
    rw [if_neg (hne k y (by omega) e2)]
    exact e
  · rw [hlv]
    unfold upd
    by_cases hkj : k = j
    · subst hkj
      rw [hx] at hy
      cases hy
      rw [if_pos rfl]
    · rw [if_neg (hne k y hkj hy)]
      exact h.gone k y (by omega) hy hn
  · rw [hlv]
    unfold upd
    rw [if_neg (hne k y (by omega) hy)]
    exact h.rest k y (by omega) hy

/-- The span is inside one of them. -/
def spanIn (bk : List (Nat × Nat)) (off n : Int) : Bool := bk.any (fun x => decide (0 ≤ n ∧ n ≤ (x.2 : Int) ∧ (x.1 : Int) ≤ off ∧ off - (x.1 : Int) ≤ (x.2 : Int) - n))
theorem Fr.good {d : AD} {bl bk : List (Nat × Nat)} (h : Fr d bl bl.length bk) (off n : Int) : d.goodB off n = spanIn bk off n := by
  rw [Bool.eq_iff_iff]
  constructor
  · intro hg
    obtain ⟨x, hx, e, h0, h1, h2⟩ := AD.goodB_true hg
    rw [h.L] at hx
    obtain ⟨k, hk, hkx⟩ := List.getElem_of_mem hx
    refine List.any_eq_true.2 ⟨x, ?_, decide_eq_true ⟨h0, by omega, h1, h2⟩⟩
    by_cases hm : x ∈ bk
    · exact hm
    · have := h.gone k x hk (by rw [List.getElem?_eq_getElem hk, hkx]) hm
      rw [this] at e
      cases e
  · intro hs
    obtain ⟨x, hx, e⟩ := List.any_eq_true.1 hs
    obtain ⟨h0, h1, h2, h3⟩ := of_decide_eq_true e
    obtain ⟨e1, k, hk, e2⟩ := h.kept x hx
    exact AD.goodB_mk (by rw [h.L]; exact List.mem_of_getElem? e2) e1 h0 h2 h3
end Go.Proofs.Yteglefnfnkgpcaa
