import Derived.Deep.LoopGhost
import Derived.Laws.OwnMore
import Derived.OneCell
import Derived.Maps.AppendAt
import Derived.Laws.AppendOwnNone
import Derived.Deep.QuietTactic
import Derived.BigQuiet
import Derived.Test.YtdhphakjkgfngaaGreatDoorGn7
/-
  What taking and freeing keep of the data.
-/
namespace Go.Proofs.YtdhphakjkgfngaaGreatDoor
open Go.RowKit Go.Shelf

theorem lt_of_le_nodup {xs : List Int} (h : xs.Pairwise (· ≤ ·)) (n : xs.Nodup) : xs.Pairwise (· < ·) :=
  (List.Pairwise.and h (List.nodup_iff_pairwise_ne.1 n)).imp (fun {a b} e => by have := e.1; have := e.2; omega)
theorem AD.rises.gone {d d' : AD} (hR : d.rises) (F : d.Fine) {z : Int} (hg : Gone d z d') : d'.rises := by
  have F' := F.gone hg
  obtain ⟨s, hz, rfl⟩ := hg
  intro x xs hx
  have hnd := F'.free.nodup x xs hx
  have hx : upd d.fm (s : Int) (some (rising ((d.fm (s : Int)).getD [] ++ [z]))) x = some xs := hx
  by_cases e : x = (s : Int)
  · subst e
    rw [upd_same] at hx
    cases hx
    exact lt_of_le_nodup (rising_sorted _) hnd
  · rw [upd_other _ _ _ _ e] at hx
    exact hR x xs hx
theorem AD.rises.gones : ∀ {d : AD} {zs : List Int} {d' : AD}, d.rises → d.Fine → Gones d zs d' → d'.rises
  | _, [], _, hR, _, h => by cases h; exact hR
  | _, _ :: _, _, hR, F, ⟨_, h1, h2⟩ => (hR.gone F h1).gones (F.gone h1) h2
theorem AD.rises.took {d : AD} (hR : d.rises) (n : Nat) : (d.took n).rises := hR
theorem AD.retook_fm (d : AD) (n z : Nat) (r : List Int) : (d.retook n z r).fm = upd d.fm (n : Int) (some r) := rfl
theorem AD.retook_lv (d : AD) (n z : Nat) (r : List Int) : (d.retook n z r).lv = upd d.lv (z : Int) (some (n : Int)) := rfl
theorem AD.retook_L (d : AD) (n z : Nat) (r : List Int) : (d.retook n z r).L = d.L := rfl
theorem AD.retook_used (d : AD) (n z : Nat) (r : List Int) : (d.retook n z r).used = d.used + n := rfl
theorem AD.retook_bs (d : AD) (n z : Nat) (r : List Int) : (d.retook n z r).bs = splice d.bs z (zeros n) := rfl
theorem AD.rises.retook {d : AD} (hR : d.rises) {n z : Nat} {r : List Int} (hf : d.fm (n : Int) = some ((z : Int) :: r)) : (d.retook n z r).rises := by
  intro x xs hx
  rw [AD.retook_fm] at hx
  by_cases e : x = (n : Int)
  · subst e
    rw [upd_same] at hx
    cases hx
    exact (List.pairwise_cons.1 (hR _ _ hf)).2
  · rw [upd_other _ _ _ _ e] at hx
    exact hR x xs hx
theorem AD.Fine.retook {d : AD} (F : d.Fine) {n z : Nat} {r : List Int} (hf : d.fm (n : Int) = some ((z : Int) :: r)) (h2 : d.used + n ≤ d.limit) : (d.retook n z r).Fine := by
  obtain ⟨hlz, y, hy, e1, e2⟩ := F.free.mem _ _ hf (z : Int) (by simp)
  have hyz : y = (z, n) := by
    cases y
    simp at e1 e2 ⊢
    omega
  subst hyz
  have ht := tiles_mem F.tiles hy
  have hlen : (splice d.bs z (zeros n)).length = d.bs.length := splice_length (by rw [zeros_length]; exact ht.2.2)
  have hback : ∀ x, upd (upd d.lv (z : Int) (some (n : Int))) (z : Int) none x = d.lv x := fun x => by
    by_cases e : x = (z : Int)
    · rw [e, upd_same, hlz]
    · rw [upd_other _ _ _ _ e, upd_other _ _ _ _ e]
  have hnd := List.nodup_cons.1 (F.free.nodup _ _ hf)
  refine ⟨?_, fun x s hx => ?_, ?_, F.lim, h2, ?_, ?_⟩
  · rw [AD.retook_L, AD.retook_bs, hlen]
    exact F.tiles
  · rw [AD.retook_lv] at hx
    by_cases e : x = (z : Int)
    · subst e
      rw [upd_same] at hx
      cases hx
      exact ⟨z, n, rfl, rfl, hy⟩
    · rw [upd_other _ _ _ _ e] at hx
      exact F.live x s hx
  · rw [AD.retook_bs, hlen]
    exact F.most
  · rw [AD.retook_used, AD.retook_L, AD.retook_lv, liveSum_gone (lv := upd d.lv (z : Int) (some (n : Int))) F.tiles hy (by rw [upd_same]; rfl), F.sum]
    congr 1
    exact liveSum_congr (fun x _ => by rw [hback])
  · rw [AD.retook_L, AD.retook_lv, AD.retook_fm]
    have hother : ∀ x xs, upd d.fm (n : Int) (some r) x = some xs → ∃ ys, d.fm x = some ys ∧ ∀ q ∈ xs, q ∈ ys ∧ q ≠ (z : Int) := fun x xs hx => by
      by_cases e : x = (n : Int)
      · subst e
        rw [upd_same] at hx
        cases hx
        exact ⟨_, hf, fun q hq => ⟨by simp [hq], fun e => hnd.1 (e ▸ hq)⟩⟩
      · rw [upd_other _ _ _ _ e] at hx
        refine ⟨xs, hx, fun q hq => ⟨hq, fun e2 => ?_⟩⟩
        obtain ⟨_, t, ht, g1, g2⟩ := F.free.mem x xs hx q hq
        have := tiles_unique F.tiles ht hy (by simp; omega)
        subst this
        exact e g2
    refine ⟨fun x xs hx => ?_, fun x xs hx => ?_, fun x xs hx q hq => ?_, fun t ht hl => ?_⟩
    · by_cases e : x = (n : Int)
      · subst e
        rw [upd_same] at hx
        cases hx
        exact hnd.2
      · rw [upd_other _ _ _ _ e] at hx
        exact F.free.nodup x xs hx
    · obtain ⟨ys, h1, _⟩ := hother x xs hx
      exact F.free.size x ys h1
    · obtain ⟨ys, h1, h3⟩ := hother x xs hx
      obtain ⟨g1, t, g2⟩ := F.free.mem x ys h1 q (h3 q hq).1
      exact ⟨by rw [upd_other _ _ _ _ (h3 q hq).2]; exact g1, t, g2⟩
    · by_cases e0 : ((t.1 : Nat) : Int) = (z : Int)
      · rw [e0, upd_same] at hl
        cases hl
      · rw [upd_other _ _ _ _ e0] at hl
        obtain ⟨xs, g1, g2⟩ := F.free.all t ht hl
        by_cases e : ((t.2 : Nat) : Int) = (n : Int)
        · rw [e, upd_same]
          rw [e, hf] at g1
          cases g1
          rcases List.mem_cons.1 g2 with g | g
          · exact absurd g e0
          · exact ⟨r, rfl, g⟩
        · rw [upd_other _ _ _ _ e]
          exact ⟨xs, g1, g2⟩
end Go.Proofs.YtdhphakjkgfngaaGreatDoor
/-
  The memory is never too small.
-/
namespace Go.Proofs.YtdhphakjkgfngaaGreatDoor
open Go.RowKit Go.Shelf

/-- The bytes of all blocks of the class c. -/
def classSum (L : List (Nat × Nat)) (c : Nat) : Nat := (L.map (fun x => if x.2 = c then x.2 else 0)).sum
theorem classSum_cons (x : Nat × Nat) (L : List (Nat × Nat)) (c : Nat) : classSum (x :: L) c = (if x.2 = c then x.2 else 0) + classSum L c := by simp [classSum]
theorem classSum_append (L M : List (Nat × Nat)) (c : Nat) : classSum (L ++ M) c = classSum L c + classSum M c := by simp [classSum]
theorem tiles_end : ∀ {s : Nat} {L : List (Nat × Nat)} {e : Nat}, Tiles s L e → e = s + (L.map Prod.snd).sum
  | _, [], _, h => by rw [Tiles] at h; simp; omega
  | _, _ :: _, _, h => by have := tiles_end h.2.2; simp; omega
theorem sum_add (l : List Nat) (f g : Nat → Nat) : (l.map (fun c => f c + g c)).sum = (l.map f).sum + (l.map g).sum := by
  induction l with
  | nil => rfl
  | cons a r ih => simp [ih]; omega
theorem le_sum {l : List Nat} {f : Nat → Nat} {c : Nat} (h : c ∈ l) : f c ≤ (l.map f).sum := by
  induction l with
  | nil => cases h
  | cons a r ih =>
    rcases List.mem_cons.1 h with rfl | h
    · simp
    · have := ih h
      simp
      omega
theorem sum_le {l : List Nat} {f : Nat → Nat} {m : Nat} (h : ∀ c, f c ≤ m) : (l.map f).sum ≤ l.length * m := by
  induction l with
  | nil => simp
  | cons a r ih =>
    have := h a
    simp [Nat.succ_mul]
    omega
theorem sizes_le : ∀ {L : List (Nat × Nat)}, (∀ y ∈ L, y.2 ∈ classList) → (L.map Prod.snd).sum ≤ (classList.map (classSum L)).sum
  | [], _ => by simp
  | x :: L, h => by
    have h1 := sizes_le (L := L) (fun y hy => h y (by simp [hy]))
    have h2 : classSum (x :: L) = fun c => (if x.2 = c then x.2 else 0) + classSum L c := by funext c; exact classSum_cons x L c
    rw [h2, sum_add]
    have h3 := le_sum (f := fun c => if x.2 = c then x.2 else 0) (h x (by simp))
    simp only [if_true] at h3
    simp only [List.map_cons, List.sum_cons]
    omega
/-- What taking and freeing keep. -/
structure AD.Well (d : AD) : Prop where
  rises : d.rises
  sizes : ∀ y ∈ d.L, y.2 ∈ classList
  most : ∀ c, classSum d.L c ≤ d.limit
theorem AD.Well.room {d : AD} (h : d.Well) (F : d.Fine) : d.bs.length ≤ 16 + 32 * d.limit := by
  have h1 := tiles_end F.tiles
  have h2 := sizes_le h.sizes
  have h3 := sum_le (l := classList) h.most
  have h4 : classList.length = 32 := by decide
  rw [h4] at h3
  omega
theorem live_class : ∀ {L : List (Nat × Nat)} {lv : Int → Option Int} {c : Nat}, (∀ y ∈ L, y.2 = c → (lv (y.1 : Int)).isSome = true) → classSum L c ≤ liveSum L lv
  | [], _, _, _ => by simp [classSum]
  | x :: L, lv, c, h => by
    have h1 := live_class (L := L) (lv := lv) (c := c) (fun y hy => h y (by simp [hy]))
    rw [classSum_cons, liveSum_cons]
    by_cases e : x.2 = c
    · rw [if_pos e, h x (by simp) e]
      simp
      omega
    · rw [if_neg e]
      omega
theorem AD.Well.took {d : AD} (h : d.Well) (F : d.Fine) {c : Nat} (hc : c ∈ classList) (hf : d.fm (c : Int) = none ∨ d.fm (c : Int) = some []) (h2 : d.used + c ≤ d.limit) : (d.took c).Well := by
  refine ⟨h.rises.took c, fun y hy => ?_, fun k => ?_⟩
  · rw [AD.took_L] at hy
    rcases List.mem_append.1 hy with hy | hy
    · exact h.sizes y hy
    · rw [List.mem_singleton.1 hy]
      exact hc
  · rw [AD.took_L, AD.took_limit, classSum_append, classSum_cons]
    have e0 : classSum [] k = 0 := rfl
    have hm := h.most k
    by_cases e : c = k
    · subst e
      have h3 : classSum d.L c ≤ liveSum d.L d.lv := live_class (fun y hy e => by
        cases hl : d.lv (y.1 : Int) with
        | some s => rfl
        | none =>
          obtain ⟨xs, g1, g2⟩ := F.free.all y hy hl
          rw [e] at g1
          rcases hf with hf | hf
          · rw [hf] at g1; cases g1
          · rw [hf] at g1; cases g1; cases g2)
      rw [← F.sum] at h3
      simp
      omega
    · simp [e]
      omega
theorem AD.Well.retook {d : AD} (h : d.Well) {n z : Nat} {r : List Int} (hf : d.fm (n : Int) = some ((z : Int) :: r)) : (d.retook n z r).Well := ⟨h.rises.retook hf, h.sizes, h.most⟩
theorem AD.Well.gone {d d' : AD} (h : d.Well) (F : d.Fine) {z : Int} (hg : Gone d z d') : d'.Well := by
  refine ⟨h.rises.gone F hg, ?_, ?_⟩
  · rw [hg.L]; exact h.sizes
  · rw [hg.L, hg.limit]; exact h.most
end Go.Proofs.YtdhphakjkgfngaaGreatDoor
/-
  take, whatever was freed.
-/
namespace Go.Proofs.YtdhphakjkgfngaaGreatDoor
open Go.RowKit Go.Shelf

theorem listOK : TakeOK listT AD.Well where
  call := fun {w p F d} c hG hF h _ _ h3 => by
    have h1 := hG.room hF
    have h2 := hF.lim
    exact take_list h hF hG.rises c (by omega)
  fine := fun {d} c hG hF hc _ h3 => by
    have h16 := (show ∀ c ∈ classList, 16 ≤ c by decide) c hc
    have h1 := hG.room hF
    have h2 := hF.lim
    have hnew : (d.fm (c : Int) = none ∨ d.fm (c : Int) = some []) → (d.took c).Fine ∧ (d.took c).Well ∧ (d.took c).used = d.used + c ∧ (d.took c).limit = d.limit ∧ d.bs.length ≤ 134217728 := fun hf =>
      ⟨hF.took (by omega) (by omega) h3, hG.took hF hc hf h3, rfl, rfl, by omega⟩
    unfold listT
    cases hf : d.fm (c : Int) with
    | none => exact hnew (Or.inl hf)
    | some xs =>
      cases xs with
      | nil => exact hnew (Or.inr hf)
      | cons z r =>
        obtain ⟨_, y, hy, e1, _⟩ := hF.free.mem _ _ hf z (by simp)
        obtain ⟨z', rfl⟩ : ∃ z' : Nat, z = (z' : Int) := ⟨y.1, e1⟩
        have ht := tiles_mem hF.tiles hy
        simp only [Int.toNat_natCast]
        exact ⟨hF.retook hf h3, hG.retook hf, rfl, rfl, by omega⟩
end Go.Proofs.YtdhphakjkgfngaaGreatDoor
namespace Go.Proofs.YtdhphakjkgfngaaGreatDoor
open Go.RowKit Go.Shelf

set_option maxRecDepth 100000 in
set_option maxHeartbeats 1000000 in
theorem allocAll_no {w : World} {p : Nat} {F : Nat → Prop} {d : AD} (h : Arena w p F d) (hF : d.Fine) (a : Option Addr) (cap : Nat) (zs : List Int) (hbig : zs.length ≤ 140737488355328) (hz : IntsAt w a zs) (x : Int) (hx : refE d zs = x) (hx0 : ¬ x = 0) :
    Calls Tryz.prog 38 #[.pointer (some ⟨p, 0, none⟩), .slice a zs.length cap] w fun e w' => e = .returned (.tuple #[.slice none 0 0, .int .i64 x]) ∧ Keeps w w' (fun _ => False) := by
  have hR : Calls Tryz.prog 45 #[.pointer (some ⟨p, 0, none⟩), .slice a zs.length cap] w fun e w' => RefPost w x e w' := by
    obtain ⟨c, hc, _⟩ := h
    have := refused_any hc hF a cap zs hbig hz
    rwa [hx] at this
  have hx1 : (x != 0) = true := by simpa using hx0
  clear hx hz
  go_enter Tryz.func38, Tryz.ntmps38
  go_wp2_with fail
  refine hR.mono ?_
  rintro e w1 ⟨rfl, k1⟩
  clear hR
  go_wp2_with fail
  go_ret2
  exact ⟨rfl, k1⟩

set_option maxRecDepth 100000 in
set_option maxHeartbeats 1000000 in
theorem alloc_no {w : World} {p : Nat} {F : Nat → Prop} {d : AD} (h : Arena w p F d) (hF : d.Fine) (n : Nat) (h1 : 1 ≤ n) (h2 : n ≤ 1048576) (h3 : d.limit < d.used + classN n) :
    Calls Tryz.prog 24 #[.pointer (some ⟨p, 0, none⟩), .int .i64 (n : Int)] w fun e w' => e = .returned (.tuple #[.int .i64 0, .int .i64 22]) ∧ Keeps w w' (fun _ => False) := by
  have hcn : classI (n : Int) = (classN n : Int) := by unfold classI; rw [if_pos (by omega)]; simp
  have hu := hF.use
  have hE : refE d [(n : Int)] = 22 := by
    unfold refE
    have ha : allOne [(n : Int)] := fun z hz => by simp at hz; omega
    rw [if_pos ha]
    have hf : fitsIn ((d.limit : Int) - (d.used : Int)) [(n : Int)] = false := by
      simp only [fitsIn]
      rw [if_pos (by rw [hcn]; omega)]
    rw [hf]
    rfl
  have k0 : Keeps w (w.alloc (.cells #[.int .i64 (n : Int)] 3)) (fun _ => False) := (Keeps.refl _ _).alloc _
  have hA := allocAll_no (h.keeps k0 (fun _ _ _ e => e)) hF (some ⟨w.heap.size, 0, none⟩) 1 [(n : Int)] (by simp) (fun j hj => by
    have hj0 : j = 0 := by simpa using hj
    subst hj0
    refine ⟨w.heap.size, 0, rfl, ?_⟩
    simp only [World.cell?, heap_alloc_new]
    simp) 22 hE (by omega)
  simp only [List.length_cons, List.length_nil, Nat.zero_add] at hA
  clear hE h hF
  go_enter Tryz.func24, Tryz.ntmps24
  go_wp2_with fail
  refine hA.mono ?_
  rintro e w2 ⟨rfl, k2⟩
  clear hA
  go_wp2_with fail
  go_ret2
  exact ⟨rfl, k0.trans k2 (fun _ _ e => e)⟩
end Go.Proofs.YtdhphakjkgfngaaGreatDoor
/-
  Alloc of whatever number, Free of whatever one offset, in an arena that a statement made.
-/
namespace Go.Proofs.YtdhphakjkgfngaaGreatDoor
open Go.RowKit Go.Shelf
set_option linter.unusedVariables false

set_option maxRecDepth 100000 in
set_option maxHeartbeats 1000000 in
theorem alloc_ref {w : World} {p : Nat} {F : Nat → Prop} {d : AD} (h : Arena w p F d) (hF : d.Fine) (n x : Int) (hE : refE d [n] = x) (hx0 : ¬ x = 0) :
    Calls Tryz.prog 24 #[.pointer (some ⟨p, 0, none⟩), .int .i64 n] w fun e w' => e = .returned (.tuple #[.int .i64 0, .int .i64 x]) ∧ Keeps w w' (fun _ => False) := by
  have k0 : Keeps w (w.alloc (.cells #[.int .i64 n] 3)) (fun _ => False) := (Keeps.refl _ _).alloc _
  have hA := allocAll_no (h.keeps k0 (fun _ _ _ e => e)) hF (some ⟨w.heap.size, 0, none⟩) 1 [n] (by simp) (fun j hj => by
    have hj0 : j = 0 := by simpa using hj
    subst hj0
    refine ⟨w.heap.size, 0, rfl, ?_⟩
    simp only [World.cell?, heap_alloc_new]
    simp) x hE hx0
  simp only [List.length_cons, List.length_nil, Nat.zero_add] at hA
  have hx1 : (x != 0) = true := by simpa using hx0
  clear hE h hF
  go_enter Tryz.func24, Tryz.ntmps24
  go_wp2_with fail
  refine hA.mono ?_
  rintro e w2 ⟨rfl, k2⟩
  clear hA
  go_wp2_with fail
  go_ret2
  exact ⟨rfl, k0.trans k2 (fun _ _ e => e)⟩

theorem refE_no {d : AD} {n : Int} (h : n < 1) : refE d [n] = 21 := by
  unfold refE
  rw [if_neg (fun ha => by have := ha n (by simp); omega)]
theorem refE_yes {d : AD} {n : Int} (h : refE d [n] = 0) : 1 ≤ n ∧ n ≤ 1048576 ∧ (d.used : Int) + classI n ≤ d.limit := by
  by_cases h1 : n < 1
  · rw [refE_no h1] at h
    cases h
  · unfold refE at h
    have ha : allOne [n] := fun z hz => by simp at hz; omega
    rw [if_pos ha] at h
    by_cases hc : classI n = 0 ∨ (d.limit : Int) - (d.used : Int) < classI n
    · have hf : fitsIn ((d.limit : Int) - (d.used : Int)) [n] = false := by
        simp only [fitsIn]
        rw [if_pos hc]
      rw [hf] at h
      simp at h
    · have h0 : classI n ≠ 0 := fun e => hc (Or.inl e)
      refine ⟨by omega, ?_, by have : ¬ (d.limit : Int) - (d.used : Int) < classI n := fun e => hc (Or.inr e); omega⟩
      refine Int.not_lt.1 fun hb => h0 ?_
      unfold classI
      rw [if_neg (by omega)]

/-- Alloc of whatever number: refused, or taken. -/
theorem own_alloc_any {w w1 : World} {p : Nat} {X : Nat → Prop} {d : AD} (h : Own w w1 p X d) (hF : d.Fine) (hW : d.Well) (n : Int) :
    Calls Tryz.prog 24 #[.pointer (some ⟨p, 0, none⟩), .int .i64 n] w1 fun e w' =>
      (refE d [n] ≠ 0 ∧ e = .returned (.tuple #[.int .i64 0, .int .i64 (refE d [n])]) ∧ Keeps w1 w' (fun _ => False)) ∨
      (refE d [n] = 0 ∧ 1 ≤ n ∧ n ≤ 1048576 ∧ d.used + classN n.toNat ≤ d.limit ∧ AllocPost w1 p (fun k => (w.heap.size ≤ k ∧ ¬ X k) ∧ k < w1.heap.size) (listT d (classN n.toNat)).1 (listT d (classN n.toNat)).2 e w') := by
  by_cases h0 : refE d [n] = 0
  · obtain ⟨a1, a2, a3⟩ := refE_yes h0
    obtain ⟨m, rfl⟩ := Int.eq_ofNat_of_zero_le (show 0 ≤ n by omega)
    have hcn : classI (m : Int) = (classN m : Int) := by unfold classI; rw [if_pos (by omega)]; simp
    have a4 : d.used + classN m ≤ d.limit := by omega
    refine (own_alloc h hF listOK hW m (by omega) (by omega) a4).mono fun e w' hp => ?_
    exact Or.inr ⟨h0, a1, a2, by simpa using a4, by simpa using hp⟩
  · exact (alloc_ref h.arena hF n _ rfl h0).mono fun e w' hp => Or.inl ⟨h0, hp.1, hp.2⟩

/-- Free of whatever one offset. -/
theorem own_free_any {w w1 : World} {p : Nat} {X : Nat → Prop} {d : AD} (h : Own w w1 p X d) (hF : d.Fine) (z : Int) (hz : fitsI z) (hX : ∀ k, X k → k < w1.heap.size) :
    Calls Tryz.prog 42 #[.pointer (some ⟨p, 0, none⟩), .slice (some ⟨w1.heap.size, 0, none⟩) 1 1] (w1.alloc (.cells #[.int .i64 z] 3)) fun e w' =>
      (∃ s d', d.lv z = some s ∧ e = .returned (.int .i64 0) ∧ Gone d z d' ∧ Own w w' p X d' ∧ Keeps w1 w' (fun k => (w.heap.size ≤ k ∧ ¬ X k) ∧ k < w1.heap.size)) ∨
      (d.lv z = none ∧ e = .returned (.int .i64 23) ∧ Own w w' p X d ∧ Keeps w1 w' (fun _ => False)) := by
  cases hl : d.lv z with
  | some s =>
    refine (own_free1 h hF z s hl hX).mono fun e w' hp => ?_
    obtain ⟨he, d', hg, ho, hk⟩ := hp
    exact Or.inl ⟨s, d', rfl, he, hg, ho, hk⟩
  | none =>
    have k0 : Keeps w1 (w1.alloc (.cells #[.int .i64 z] 3)) (fun _ => False) := (Keeps.refl _ _).alloc _
    have hr : rising [z] = [z] := by simp [rising]
    have hf := free_any (w := w1.alloc (.cells #[.int .i64 z] 3)) (h.here.keeps k0 (fun _ _ _ e => e)) (fun k hk => by have := hk.2; simp; omega) hF (some ⟨w1.heap.size, 0, none⟩) 1 [z] (by simp) (by simp) (fun y hy => by
      simp at hy
      subst hy
      exact hz) (Or.inr ⟨w1.heap.size, 0, rfl, by simp, fun j hj => by
        have hj0 : j = 0 := by simpa using hj
        subst hj0
        simp only [World.cell?, heap_alloc_new]
        simp⟩)
    rw [hr] at hf
    refine hf.mono fun e w2 hp => ?_
    rcases hp with ⟨hg, _⟩ | ⟨_, rfl, hk⟩
    · have := (hg 0 (by simp)).1
      simp [at0, hl] at this
    · have k2 := k0.trans hk (fun _ _ e => e)
      exact Or.inr ⟨rfl, rfl, h.stay k2, k2⟩
end Go.Proofs.YtdhphakjkgfngaaGreatDoor
/-
  Blocks that are taken, as data; lists of numbers that came in (for seats that have no book: out of AP2, AP4, BK1 to BK5 and AT5).
-/
namespace Go.Proofs.YtdhphakjkgfngaaGreatDoor
open Go.RowKit Go.Shelf
set_option linter.unusedVariables false

/-- The live blocks of the first k. -/
def livesOf (L : List (Nat × Nat)) (lv : Int → Option Int) : List (Nat × Nat) := L.filter (fun x => (lv (x.1 : Int)).isSome)
theorem Keeps.cellK {w w' : World} (k : Keeps w w' (fun _ => False)) {p : Addr} {v : Value} (h : w.cell? p = some v) : w'.cell? p = some v := by
  have : p.block < w.heap.size := by
    refine Nat.lt_of_not_le fun hn => ?_
    rw [World.cell?, Array.getElem?_eq_none hn] at h
    cases h
  exact (World.cell?_of_block (w := w) (k.block p.block this (fun x => x))).trans h
theorem tiles_in : ∀ {s : Nat} {L : List (Nat × Nat)} {e : Nat}, Tiles s L e → ∀ x ∈ L, x.1 + x.2 ≤ e
  | _, [], _, _, x, hx => by cases hx
  | s, y :: r, e, h, x, hx => by
    obtain ⟨h1, h2, h3⟩ := h
    rcases List.mem_cons.1 hx with rfl | hx
    · have := tiles_le h3
      omega
    · exact tiles_in h3 x hx
theorem tiles_rise : ∀ {s : Nat} {L : List (Nat × Nat)} {e : Nat}, Tiles s L e → (∀ x ∈ L, s ≤ x.1) ∧ L.Pairwise (fun x y => x.1 + x.2 ≤ y.1)
  | _, [], _, _ => ⟨fun x h => (by cases h), List.Pairwise.nil⟩
  | s, x :: r, e, h => by
    obtain ⟨h1, h2, h3⟩ := h
    obtain ⟨k1, k2⟩ := tiles_rise h3
    refine ⟨fun y hy => ?_, List.Pairwise.cons (fun y hy => ?_) k2⟩
    · rcases List.mem_cons.1 hy with rfl | hy
      · omega
      · have := k1 y hy
        omega
    · have := k1 y hy
      omega
theorem Tiles.pos : ∀ {s : Nat} {L : List (Nat × Nat)} {e : Nat}, Tiles s L e → ∀ x ∈ L, 0 < x.2
  | _, [], _, _, x, hx => by cases hx
  | s, y :: r, e, h, x, hx => by
    obtain ⟨h1, h2, h3⟩ := h
    rcases List.mem_cons.1 hx with rfl | hx
    · exact h2
    · exact Tiles.pos h3 x hx
theorem lives_rise {d : AD} (hF : d.Fine) : (livesOf d.L d.lv).Pairwise (fun x y => x.1 + x.2 ≤ y.1) := List.Pairwise.sublist List.filter_sublist (tiles_rise hF.tiles).2
theorem lives_nodup {d : AD} (hF : d.Fine) : ((livesOf d.L d.lv).map (·.1)).Nodup := by
  have h := lives_rise hF
  have hp : ∀ x ∈ livesOf d.L d.lv, 0 < x.2 := fun x hx => hF.tiles.pos x (List.mem_filter.1 hx).1
  refine List.pairwise_map.2 (List.Pairwise.imp_of_mem (fun {x y} hx hy hxy e => ?_) h)
  have := hp x hx
  omega
theorem lives_gone {d : AD} (z s : Nat) : livesOf d.L (d.gone (z : Int) s).lv = (livesOf d.L d.lv).filter (fun x => decide (x.1 ≠ z)) := by
  unfold livesOf
  rw [List.filter_filter]
  refine List.filter_congr fun x _ => ?_
  show (upd d.lv (z : Int) none (x.1 : Int)).isSome = _
  unfold upd
  by_cases e : x.1 = z
  · simp [e]
  · have e' : ¬ (x.1 : Int) = (z : Int) := by omega
    rw [if_neg e']
    simp [e]
theorem lives_apart {d : AD} (hF : d.Fine) {x y : Nat × Nat} (hx : x ∈ livesOf d.L d.lv) (hy : y ∈ livesOf d.L d.lv) (hne : x.1 ≠ y.1) : x.1 + x.2 ≤ y.1 ∨ y.1 + y.2 ≤ x.1 := by
  have hr := lives_rise hF
  exact List.Pairwise.forall_of_forall_of_flip (R := fun x z => x.1 ≠ z.1 → x.1 + x.2 ≤ z.1 ∨ z.1 + z.2 ≤ x.1) (fun x hx hx' => absurd rfl hx') (hr.imp (fun h _ => Or.inl h)) (hr.imp (fun h _ => Or.inr h)) hx hy hne
theorem lives_took {d : AD} (hF : d.Fine) (n : Nat) : (livesOf (d.took n).L (d.took n).lv).Perm ((d.bs.length, n) :: livesOf d.L d.lv) := by
  have e : livesOf (d.took n).L (d.took n).lv = livesOf d.L d.lv ++ [(d.bs.length, n)] := by
    rw [AD.took_L, AD.took_lv]
    unfold livesOf
    rw [List.filter_append]
    congr 1
    · refine List.filter_congr fun x hx => ?_
      have h1 := tiles_in hF.tiles x hx
      have h2 := hF.tiles.pos x hx
      unfold upd
      rw [if_neg (by omega)]
    · simp [upd]
  rw [e]
  exact List.perm_append_comm
theorem lives_congr {L : List (Nat × Nat)} {f g : Int → Option Int} (h : ∀ x ∈ L, (f (x.1 : Int)).isSome = (g (x.1 : Int)).isSome) : livesOf L f = livesOf L g := List.filter_congr h
theorem lives_enter {f : Int → Option Int} {z n : Nat} (hz : f (z : Int) = none) : ∀ (L : List (Nat × Nat)), (z, n) ∈ L → (L.map (·.1)).Nodup → (livesOf L (upd f (z : Int) (some (n : Int)))).Perm ((z, n) :: livesOf L f)
  | [], h, _ => by cases h
  | x :: r, h, hn => by
    rw [List.map_cons, List.nodup_cons] at hn
    by_cases e : x = (z, n)
    · subst e
      have e1 : livesOf r (upd f (z : Int) (some (n : Int))) = livesOf r f := lives_congr fun y hy => by
        have hne : y.1 ≠ z := fun e => hn.1 (List.mem_map.2 ⟨y, hy, e⟩)
        unfold upd
        rw [if_neg (by omega)]
      have e2 : livesOf ((z, n) :: r) (upd f (z : Int) (some (n : Int))) = (z, n) :: livesOf r (upd f (z : Int) (some (n : Int))) := List.filter_cons_of_pos (by simp [upd])
      have e3 : livesOf ((z, n) :: r) f = livesOf r f := List.filter_cons_of_neg (by simp [hz])
      rw [e2, e3, e1]
    · have hr : (z, n) ∈ r := by
        rcases List.mem_cons.1 h with h | h
        · exact absurd h.symm e
        · exact h
      have hne : x.1 ≠ z := fun e => hn.1 (List.mem_map.2 ⟨_, hr, e.symm⟩)
      have ih := lives_enter hz r hr hn.2
      have eu : upd f (z : Int) (some (n : Int)) (x.1 : Int) = f (x.1 : Int) := by
        unfold upd
        rw [if_neg (by omega)]
      cases hf : (f (x.1 : Int)).isSome
      · have e2 : livesOf (x :: r) (upd f (z : Int) (some (n : Int))) = livesOf r (upd f (z : Int) (some (n : Int))) := List.filter_cons_of_neg (by rw [eu, hf]; decide)
        have e3 : livesOf (x :: r) f = livesOf r f := List.filter_cons_of_neg (by rw [hf]; decide)
        rw [e2, e3]
        exact ih
      · have e2 : livesOf (x :: r) (upd f (z : Int) (some (n : Int))) = x :: livesOf r (upd f (z : Int) (some (n : Int))) := List.filter_cons_of_pos (by rw [eu, hf])
        have e3 : livesOf (x :: r) f = x :: livesOf r f := List.filter_cons_of_pos hf
        rw [e2, e3]
        exact (List.Perm.cons x ih).trans (List.Perm.swap _ _ _)
theorem tiles_16 : ∀ {s : Nat} {L : List (Nat × Nat)} {e : Nat}, Tiles s L e → s % 16 = 0 → (∀ y ∈ L, y.2 % 16 = 0) → (∀ y ∈ L, y.1 % 16 = 0) ∧ e % 16 = 0
  | s, [], e, h, hs, _ => by
    have : s = e := h
    exact ⟨fun _ h => (by cases h), by omega⟩
  | s, y :: r, e, h, hs, hy => by
    obtain ⟨h1, h2, h3⟩ := h
    have h4 := hy y (List.mem_cons_self ..)
    obtain ⟨k1, k2⟩ := tiles_16 h3 (by omega) (fun z hz => hy z (List.mem_cons_of_mem _ hz))
    refine ⟨fun z hz => ?_, k2⟩
    rcases List.mem_cons.1 hz with rfl | hz
    · omega
    · exact k1 z hz
theorem well_16 {d : AD} (hF : d.Fine) (hW : d.Well) : (∀ y ∈ d.L, y.1 % 16 = 0) ∧ d.bs.length % 16 = 0 :=
  tiles_16 hF.tiles (by decide) (fun y hy => (show ∀ c ∈ classList, c % 16 = 0 by decide) _ (hW.sizes y hy))
/-- A block that is taken: it is zero, all other bytes stand. -/
structure TookB (d d' : AD) (off c : Nat) : Prop where
  fine : d'.Fine
  well : d'.Well
  used : d'.used = d.used + c
  limit : d'.limit = d.limit
  perm : (livesOf d'.L d'.lv).Perm ((off, c) :: livesOf d.L d.lv)
  zero : ∀ k, k < c → d'.bs[off + k]? = some 0
  rest : ∀ j, j < off ∨ off + c ≤ j → d'.bs[j]? = d.bs[j]?
  mem : (off, c) ∈ d'.L
  lv : d'.lv (off : Int) = some (c : Int)
  al : off % 16 = 0
theorem TookB.good {d d' : AD} {off c : Nat} (h : TookB d d' off c) : d'.goodB (off : Int) (c : Int) = true := AD.goodB_mk h.mem h.lv (by omega) (by simp) (by simp)
theorem TookB.low {d d' : AD} {off c : Nat} (h : TookB d d' off c) : 16 ≤ off ∧ off + c ≤ d'.bs.length := by
  have := tiles_mem h.fine.tiles h.mem
  exact ⟨this.1, this.2.2⟩
theorem splice_off {bs x : List UInt8} {o j : Nat} (h : o + x.length ≤ bs.length) (hd : j < o ∨ o + x.length ≤ j) : (splice bs o x)[j]? = bs[j]? := by
  rw [splice_get h, if_neg (by omega)]
theorem zeros_at {n k : Nat} (h : k < n) : (zeros n)[k]? = some 0 := by
  unfold zeros
  rw [List.getElem?_replicate, if_pos h]
theorem took_B {d : AD} (hF : d.Fine) (hW : d.Well) {c : Nat} (hc : c ∈ classList) (hf : d.fm (c : Int) = none ∨ d.fm (c : Int) = some []) (h3 : d.used + c ≤ d.limit) : TookB d (d.took c) d.bs.length c := by
  have h16 := (show ∀ c ∈ classList, 16 ≤ c by decide) c hc
  have h1 := hW.room hF
  have h2 := hF.lim
  refine ⟨hF.took (by omega) (by omega) h3, hW.took hF hc hf h3, rfl, rfl, lives_took hF c, fun k hk => ?_, fun j hj => ?_, ?_, ?_, (well_16 hF hW).2⟩
  · rw [AD.took_bs, List.getElem?_append_right (by omega), Nat.add_sub_cancel_left]
    exact zeros_at hk
  · rw [AD.took_bs]
    rcases hj with hj | hj
    · exact List.getElem?_append_left hj
    · rw [List.getElem?_eq_none (by rw [List.length_append, zeros_length]; exact hj), List.getElem?_eq_none (by omega)]
  · rw [AD.took_L]
    exact List.mem_append_right _ (List.mem_singleton.2 rfl)
  · rw [AD.took_lv, upd_same]
theorem retook_B {d : AD} (hF : d.Fine) (hW : d.Well) {c z : Nat} {r : List Int} (hf : d.fm (c : Int) = some ((z : Int) :: r)) (h3 : d.used + c ≤ d.limit) : TookB d (d.retook c z r) z c := by
  obtain ⟨hlz, y, hy, e1, e2⟩ := hF.free.mem _ _ hf (z : Int) (by simp)
  have hyz : y = (z, c) := by
    cases y
    simp at e1 e2 ⊢
    omega
  subst hyz
  have ht := tiles_mem hF.tiles hy
  have hz : z + (zeros c).length ≤ d.bs.length := by rw [zeros_length]; exact ht.2.2
  refine ⟨hF.retook hf h3, hW.retook hf, rfl, rfl, ?_, fun k hk => ?_, fun j hj => ?_, hy, ?_, (well_16 hF hW).1 _ hy⟩
  · rw [AD.retook_L, AD.retook_lv]
    refine lives_enter hlz d.L hy ?_
    exact (tiles_sorted hF.tiles).imp (fun h => Nat.ne_of_lt h)
  · rw [AD.retook_bs, splice_get hz, if_pos (by rw [zeros_length]; omega), Nat.add_sub_cancel_left]
    exact zeros_at hk
  · rw [AD.retook_bs]
    exact splice_off hz (by rw [zeros_length]; exact hj)
  · rw [AD.retook_lv, upd_same]
theorem list_B {d : AD} (hF : d.Fine) (hW : d.Well) {c : Nat} (hc : c ∈ classList) (h3 : d.used + c ≤ d.limit) : TookB d (listT d c).2 (listT d c).1 c := by
  unfold listT
  cases hf : d.fm (c : Int) with
  | none => exact took_B hF hW hc (Or.inl hf) h3
  | some xs =>
    cases xs with
    | nil => exact took_B hF hW hc (Or.inr hf) h3
    | cons z r =>
      obtain ⟨_, y, hy, e1, _⟩ := hF.free.mem _ _ hf z (by simp)
      obtain ⟨z', rfl⟩ : ∃ z' : Nat, z = (z' : Int) := ⟨y.1, e1⟩
      simp only [Int.toNat_natCast]
      exact retook_B hF hW hf h3
theorem refE_22 {d : AD} {n : Int} (h : 1 ≤ n) (hc : classI n = 0 ∨ (d.limit : Int) - (d.used : Int) < classI n) : refE d [n] = 22 := by
  have ha : allOne [n] := fun z hz => by simp at hz; omega
  unfold refE
  rw [if_pos ha]
  have hf : fitsIn ((d.limit : Int) - (d.used : Int)) [n] = false := by
    simp only [fitsIn]
    rw [if_pos hc]
  rw [hf]
  rfl
theorem refE_0 {d : AD} {n : Int} (h : 1 ≤ n) (hc : ¬ (classI n = 0 ∨ (d.limit : Int) - (d.used : Int) < classI n)) : refE d [n] = 0 := by
  have ha : allOne [n] := fun z hz => by simp at hz; omega
  unfold refE
  rw [if_pos ha]
  have hf : fitsIn ((d.limit : Int) - (d.used : Int)) [n] = true := by
    simp only [fitsIn]
    rw [if_neg hc]
  rw [hf]
  rfl
/-- A list of numbers that came in. -/
def InZ (w : World) (v : Value) (zs : List Int) : Prop := (v = .slice none 0 0 ∧ zs = []) ∨ ∃ (a : Addr) (cap : Nat), v = .slice (some a) zs.length cap ∧ (∀ j (h : j < zs.length), w.cell? (a.add j) = some (.int .i64 zs[j])) ∧ (0 < zs.length → ∃ b o, a = ⟨b, o, none⟩ ∧ b < w.heap.size)
theorem InZ.keeps {w W : World} {v : Value} {zs : List Int} (h : InZ w v zs) (k : Keeps w W (fun _ => False)) : InZ W v zs := by
  rcases h with h | ⟨a, cap, rfl, hc, hb⟩
  · exact Or.inl h
  · refine Or.inr ⟨a, cap, rfl, fun j hj => ?_, fun h0 => ?_⟩
    · obtain ⟨b, o, rfl, hlt⟩ := hb (by omega)
      have := hc j hj
      rw [addr_add] at this ⊢
      exact (World.cell?_of_block (w := w) (k.block b hlt id)).trans this
    · obtain ⟨b, o, e, hlt⟩ := hb h0
      exact ⟨b, o, e, Nat.lt_of_lt_of_le hlt k.size⟩
theorem InZ.form {w : World} {v : Value} {zs : List Int} (h : InZ w v zs) : ∃ so cap, v = .slice so zs.length cap ∧ ∀ j (hj : j < zs.length), ∃ b o, so = some ⟨b, o, none⟩ ∧ w.cell? ⟨b, o + j, none⟩ = some (.int .i64 zs[j]) := by
  rcases h with ⟨rfl, rfl⟩ | ⟨a, cap, rfl, hc, hb⟩
  · exact ⟨none, 0, rfl, fun j hj => by simp at hj⟩
  · refine ⟨some a, cap, rfl, fun j hj => ?_⟩
    obtain ⟨b, o, rfl, _⟩ := hb (by omega)
    have := hc j hj
    rw [addr_add] at this
    exact ⟨b, o, rfl, this⟩

theorem cellI_one {os : List Int} : ∀ u ∈ os.map cellI, u.oneCell' = true := fun u hu => by
  obtain ⟨z, _, rfl⟩ := List.mem_map.1 hu
  rfl
theorem InZ.copy {W : World} {v : Value} {zs : List Int} (h : InZ W v zs) (hn : zs.length ≤ 134217728) :
    ∃ a c W', (∀ ty, (Builtin.append_ #[29, 29] ty #[.slice (some ⟨W.heap.size, 0, none⟩) 0 0, v]).run Tryz.prog (W.alloc (.cells #[] 3)) = .ok (.slice (some ⟨a, 0, none⟩) zs.length c) W') ∧ W'.ownsRow W.heap.size 3 1 (.slice (some ⟨a, 0, none⟩) zs.length c) zs.length (zs.map cellI) ∧ W.heap.size ≤ a ∧ Keeps W W' (fun _ => False) := by
  have hi : (Tryz.prog.info? 3).map (fun i => (i.zero, i.size, i.bytes)) = some (some (.int .i64 0), 1, 8) := by kernel_rfl
  obtain ⟨i, q1, q2, q3, q4⟩ := info_parts hi
  have k0 : Keeps W (W.alloc (.cells #[] 3)) (fun _ => False) := (Keeps.refl _ _).alloc _
  have own0 : (W.alloc (.cells #[] 3)).ownsRow W.heap.size 3 1 (.slice (some ⟨W.heap.size, 0, none⟩) 0 0) 0 [] := World.ownsRow_made W #[] 0 (Nat.le_refl _) (by simp only [maxLen]; omega) (by simp)
  have h0 := h.keeps k0
  rcases h0 with ⟨rfl, rfl⟩ | ⟨a, cap, rfl, hc, _⟩
  · have r1 := fun ty => run_append_owned_none (P := Tryz.prog) (w := W.alloc (.cells #[] 3)) W.heap.size 29 ty 3 i 1 Tryz.underlying29 q1 _ 0 [] own0
    exact ⟨_, _, _, r1, own0, Nat.le_refl _, k0⟩
  · obtain ⟨v', w2, hr, hown, hgr, hnil, hloc⟩ := run_append_own_at (P := Tryz.prog) (W.alloc (.cells #[] 3)) W.heap.size 29 0 3 i (.int .i64 0) 1 8 Tryz.underlying29 q1 q2 q3 q4 rfl (by omega) _ 0 [] own0 a zs.length cap (zs.map cellI) (by simp)
      (fun j u hu => by
        rw [List.getElem?_map] at hu
        obtain ⟨z, hz, rfl⟩ := Option.map_eq_some_iff.1 hu
        obtain ⟨hj, rfl⟩ := List.getElem?_eq_some_iff.1 hz
        exact hc j hj) cellI_one (by simp only [maxLen]; omega) (by omega) (by simp)
    rw [Nat.zero_add, List.nil_append] at hown
    have K : Keeps W w2 (fun _ => False) := k0.trans ((Keeps.ofGrown hgr).mono (fun i hi e => by
      have e' : W.heap.size = i := by simpa [Value.ownBlock] using e
      exact e'.symm)) (fun i hi e => by
        have e' : i = W.heap.size := e
        omega)
    obtain ⟨_, hh | ⟨g', cap', cur', e1, g2, _⟩⟩ := id hown
    · exact absurd (hnil.1 hh.1).1 (by simp)
    · subst e1
      exact ⟨g', cap', w2, fun ty => hr, hown, g2, K⟩

set_option maxRecDepth 100000 in
set_option maxHeartbeats 1000000 in
theorem size_any {w : World} {p : Nat} {c : AR} {d : AD} (h : ArenaAt w p c d) (off : Int) (ho : fitsI off) :
    Calls Tryz.prog 30 #[.pointer (some ⟨p, 0, none⟩), .int .i64 off] w fun e w' => e = .returned (.tuple #[.int .i64 ((d.lv off).getD 0), .int .i64 (if (d.lv off).isSome then 0 else 23)]) ∧ w' = w := by
  have c4 := h.cell4
  have hlk := look_ok_int (w := w) Tryz.underlying3 Tryz.underlying63 (Tryz.zeroI _) h.live (x := off) ho
  clear h
  cases hl : d.lv off with
  | none =>
    rw [hl] at hlk
    simp only [Option.getD_none, Option.isSome_none] at hlk
    go_enter Tryz.func30, Tryz.ntmps30
    go_wp2_with fail
    go_ret2
    exact ⟨rfl, rfl⟩
  | some s =>
    rw [hl] at hlk
    simp only [Option.getD_some, Option.isSome_some] at hlk
    go_enter Tryz.func30, Tryz.ntmps30
    go_wp2_with fail
    go_ret2
    exact ⟨rfl, rfl⟩
end Go.Proofs.YtdhphakjkgfngaaGreatDoor
/-
  A directory as data: words of eight bytes in one live block.
-/
namespace Go.Proofs.YtdhphakjkgfngaaGreatDoor
open Go.RowKit Go.Shelf
set_option linter.unusedVariables false

theorem wrap_back {v : Int} (h : fitsI v) : IntKind.i64.wrap (v % 18446744073709551616) = v := by
  obtain ⟨h1, h2⟩ := fitsI_bounds h
  rw [IntKind.wrap_i64]
  omega
def u64I (v : Int) : Nat := (v % 18446744073709551616).toNat
theorem u64I_eq (v : Int) : ((u64I v : Nat) : Int) = v % 18446744073709551616 := by
  unfold u64I
  omega
theorem u64I_lt (v : Int) : u64I v < 18446744073709551616 := by
  unfold u64I
  omega
/-- The entries, in the block at off. -/
structure DirD (d : AD) (off : Nat) (ts : List Int) : Prop where
  blk : ∃ c, (off, c) ∈ d.L ∧ d.lv (off : Int) = some (c : Int) ∧ 8 * ts.length ≤ c
  ent : ∀ i (h : i < ts.length), ((numOf ((d.bs.drop (off + 8 * i)).take 8) : Nat) : Int) = ts[i] % 18446744073709551616
theorem DirD.good {d : AD} {off : Nat} {ts : List Int} (h : DirD d off ts) {i : Nat} (hi : i < ts.length) : d.goodB ((off : Int) + 8 * (i : Int)) 8 = true := by
  obtain ⟨c, h1, h2, h3⟩ := h.blk
  exact AD.goodB_mk h1 h2 (by omega) (by simp; omega) (by simp; omega)
theorem DirD.in {d : AD} (hF : d.Fine) {off : Nat} {ts : List Int} (h : DirD d off ts) {i : Nat} (hi : i < ts.length) : off + 8 * i + 8 ≤ d.bs.length := by
  obtain ⟨c, h1, h2, h3⟩ := h.blk
  have := tiles_mem hF.tiles h1
  simp at this
  omega
/-- What a load of the word answers (loadV by its definition: 8 is a width, the span is good). -/
theorem DirD.num {d : AD} {off : Nat} {ts : List Int} (h : DirD d off ts) {i : Nat} (hi : i < ts.length) : ((numOf ((d.bs.drop ((off : Int) + 8 * (i : Int)).toNat).take (8 : Int).toNat) : Nat) : Int) = ts[i] % 18446744073709551616 := by
  have e : ((off : Int) + 8 * (i : Int)).toNat = off + 8 * i := by omega
  rw [e, show (8 : Int).toNat = 8 from rfl, h.ent i hi]
theorem word_put {bs : List UInt8} {o v : Nat} (h : o + 8 ≤ bs.length) (hv : v < 18446744073709551616) : numOf (((splice bs o (leBytes v 8)).drop o).take 8) = v := by
  have hl := leBytes_length v 8
  have e : ((splice bs o (leBytes v 8)).drop o).take 8 = leBytes v 8 := by
    apply List.ext_getElem?
    intro j
    rw [List.getElem?_take, List.getElem?_drop, splice_get (by omega), hl]
    by_cases hj : j < 8
    · rw [if_pos hj, if_pos (by omega), Nat.add_sub_cancel_left]
    · rw [if_neg hj, List.getElem?_eq_none (by omega)]
  rw [e, numOf_le]
  exact Nat.mod_eq_of_lt (by omega)
theorem word_off {bs : List UInt8} {o v q : Nat} (h : o + 8 ≤ bs.length) (hq : q + 8 ≤ o ∨ o + 8 ≤ q) : ((splice bs o (leBytes v 8)).drop q).take 8 = (bs.drop q).take 8 := by
  have hl := leBytes_length v 8
  apply List.ext_getElem?
  intro j
  rw [List.getElem?_take, List.getElem?_take, List.getElem?_drop, List.getElem?_drop]
  by_cases hj : j < 8
  · rw [if_pos hj, if_pos hj, splice_off (by omega) (by omega)]
  · rw [if_neg hj, if_neg hj]
theorem DirD.store {d : AD} (hF : d.Fine) {off : Nat} {ts : List Int} (h : DirD d off ts) {i : Nat} (hi : i < ts.length) (v : Int) :
    storeR d ((off : Int) + 8 * (i : Int)) 8 (u64I v) = (0, d.bytes (splice d.bs (off + 8 * i) (leBytes (u64I v) 8))) ∧ DirD (d.bytes (splice d.bs (off + 8 * i) (leBytes (u64I v) 8))) off (ts.set i v) ∧ (d.bytes (splice d.bs (off + 8 * i) (leBytes (u64I v) 8))).Fine := by
  have hin := h.in hF hi
  have hl := leBytes_length (u64I v) 8
  refine ⟨?_, ⟨?_, fun j hj => ?_⟩, hF.bytes (splice_length (by omega))⟩
  · unfold storeR
    rw [if_pos (by decide), if_pos (h.good hi)]
    have e : ((off : Int) + 8 * (i : Int)).toNat = off + 8 * i := by omega
    rw [e, show (8 : Int).toNat = 8 from rfl]
  · obtain ⟨c, h1, h2, h3⟩ := h.blk
    exact ⟨c, h1, h2, by rw [List.length_set]; exact h3⟩
  · rw [List.length_set] at hj
    show ((numOf (((splice d.bs (off + 8 * i) (leBytes (u64I v) 8)).drop (off + 8 * j)).take 8) : Nat) : Int) = _
    by_cases e : i = j
    · subst e
      rw [word_put (by omega) (u64I_lt v), u64I_eq]
      simp
    · rw [word_off (by omega) (by omega), h.ent j hj, List.getElem_set_ne e]
/-- A new block: all entries 0. -/
theorem TookB.dir {d d' : AD} {off c : Nat} (h : TookB d d' off c) (n : Nat) (hn : 8 * n ≤ c) : DirD d' off (List.replicate n 0) := by
  refine ⟨⟨c, h.mem, h.lv, by simpa using hn⟩, fun i hi => ?_⟩
  rw [List.length_replicate] at hi
  have hlow := h.low
  have e : (d'.bs.drop (off + 8 * i)).take 8 = List.replicate 8 (0 : UInt8) := by
    apply List.ext_getElem?
    intro j
    rw [List.getElem?_take, List.getElem?_drop, List.getElem?_replicate]
    by_cases hj : j < 8
    · rw [if_pos hj, if_pos hj, Nat.add_assoc, h.zero (8 * i + j) (by omega)]
    · rw [if_neg hj, if_neg hj]
  rw [e]
  simp [numOf]
/-- Another block is taken: the directory stands. -/
theorem DirD.took {d d' : AD} {off o c : Nat} {ts : List Int} (h : DirD d off ts) (hF : d.Fine) (hB : TookB d d' o c) : DirD d' off ts ∧ o ≠ off := by
  obtain ⟨cb, h1, h2, h3⟩ := h.blk
  have hold : (off, cb) ∈ livesOf d.L d.lv := List.mem_filter.2 ⟨h1, by simp [h2]⟩
  have hnew : (off, cb) ∈ livesOf d'.L d'.lv := hB.perm.mem_iff.2 (List.mem_cons_of_mem _ hold)
  have hoff : (o, c) ∈ livesOf d'.L d'.lv := hB.perm.mem_iff.2 (List.mem_cons_self ..)
  have hnd := (hB.perm.map (·.1)).nodup_iff.1 (lives_nodup hB.fine)
  rw [List.map_cons, List.nodup_cons] at hnd
  have hne : off ≠ o := fun e => hnd.1 (List.mem_map.2 ⟨_, hold, e⟩)
  have hap := lives_apart hB.fine hnew hoff hne
  simp only at hap
  have hm := (List.mem_filter.1 hnew)
  obtain ⟨s, hs⟩ := Option.isSome_iff_exists.1 hm.2
  obtain ⟨o', n', e1, e2, hm'⟩ := hB.fine.live _ _ hs
  have e3 : (o', n') = (off, cb) := tiles_unique hB.fine.tiles hm' hm.1 (by simp at e1 ⊢; omega)
  cases e3
  refine ⟨⟨⟨cb, hm.1, by rw [← e2]; exact hs, h3⟩, fun i hi => ?_⟩, fun e => hne e.symm⟩
  rw [← h.ent i hi]
  congr 2
  apply List.ext_getElem?
  intro j
  rw [List.getElem?_take, List.getElem?_take, List.getElem?_drop, List.getElem?_drop]
  by_cases hj : j < 8
  · rw [if_pos hj, if_pos hj]
    exact hB.rest _ (by omega)
  · rw [if_neg hj, if_neg hj]
end Go.Proofs.YtdhphakjkgfngaaGreatDoor
