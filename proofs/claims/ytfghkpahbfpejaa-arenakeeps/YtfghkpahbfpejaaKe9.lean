import Derived.Test.YtfghkpahbfpejaaKe8
/-
  A book when a block is freed.
-/
namespace Go.Proofs.Ytfghkpahbfpejaa
open Go.RowKit Go.Shelf
set_option linter.unusedVariables false

theorem filter_erase : ∀ (L : List (Nat × Nat × Nat)) (i : Nat) (h : i < L.length), (L.map (·.1)).Nodup → L.filter (fun y => decide (y.1 ≠ L[i].1)) = L.eraseIdx i
  | [], i, h, _ => by simp at h
  | y :: r, 0, h, hn => by
    rw [List.map_cons, List.nodup_cons] at hn
    have e : r.filter (fun x => decide (x.1 ≠ y.1)) = r := List.filter_eq_self.2 fun x hx => decide_eq_true (fun e => hn.1 (List.mem_map.2 ⟨x, hx, e⟩))
    show (y :: r).filter (fun x => decide (x.1 ≠ y.1)) = r
    rw [List.filter_cons_of_neg (by simp), e]
  | y :: r, i + 1, h, hn => by
    rw [List.map_cons, List.nodup_cons] at hn
    have hi : i < r.length := by simpa using h
    have e := filter_erase r i hi hn.2
    have hne : y.1 ≠ r[i].1 := fun e => hn.1 (List.mem_map.2 ⟨r[i], List.getElem_mem hi, e.symm⟩)
    show (y :: r).filter (fun x => decide (x.1 ≠ r[i].1)) = y :: r.eraseIdx i
    rw [List.filter_cons_of_pos (by simpa using hne), e]
theorem lives_nodup {d : AD} (hF : d.Fine) : ((livesOf d.L d.lv).map (·.1)).Nodup := by
  have h := lives_rise hF
  have hp : ∀ x ∈ livesOf d.L d.lv, 0 < x.2 := fun x hx => hF.tiles.pos x (List.mem_filter.1 hx).1
  refine List.pairwise_map.2 (List.Pairwise.imp_of_mem (fun {x y} hx hy hxy e => ?_) h)
  have := hp x hx
  omega
theorem Book.nodup {d : AD} {L : List (Nat × Nat × Nat)} (h : Book d L) (hF : d.Fine) : (L.map (·.1)).Nodup := by
  have := (h.perm.map (·.1)).nodup_iff.2 (lives_nodup hF)
  rw [List.map_map] at this
  exact this
theorem lives_gone {d : AD} (z s : Nat) : livesOf d.L (d.gone (z : Int) s).lv = (livesOf d.L d.lv).filter (fun x => decide (x.1 ≠ z)) := by
  unfold livesOf
  rw [List.filter_filter]
  refine List.filter_congr fun x _ => ?_
  show (upd d.lv (z : Int) none (x.1 : Int)).isSome = _
  unfold upd
  by_cases e : x.1 = z
  · simp [e]
  · have e' : ¬ (x.1 : Int) = (z : Int) := by omega
    rw [if_neg e']
    simp [e]
theorem Book.gone {d : AD} {L : List (Nat × Nat × Nat)} (h : Book d L) (hF : d.Fine) (i s : Nat) (hi : i < L.length) : Book (d.gone (L[i].1 : Int) s) (L.eraseIdx i) := by
  have e := filter_erase L i hi (h.nodup hF)
  have hsub : ∀ y ∈ L.eraseIdx i, y ∈ L := fun y hy => by rw [← e] at hy; exact (List.mem_filter.1 hy).1
  refine ⟨?_, fun y hy k hk => h.bytes y (hsub y hy) k hk, fun y hy => h.mark y (hsub y hy)⟩
  show ((L.eraseIdx i).map fun h => (h.1, h.2.1)).Perm (livesOf d.L (d.gone (L[i].1 : Int) s).lv)
  rw [lives_gone, ← e]
  have := h.perm.filter (fun x => decide (x.1 ≠ L[i].1))
  rw [List.filter_map] at this
  exact this
theorem lives_apart {d : AD} (hF : d.Fine) {x y : Nat × Nat} (hx : x ∈ livesOf d.L d.lv) (hy : y ∈ livesOf d.L d.lv) (hne : x.1 ≠ y.1) : x.1 + x.2 ≤ y.1 ∨ y.1 + y.2 ≤ x.1 := by
  have hr := lives_rise hF
  exact List.Pairwise.forall_of_forall_of_flip (R := fun x z => x.1 ≠ z.1 → x.1 + x.2 ≤ z.1 ∨ z.1 + z.2 ≤ x.1) (fun x hx hx' => absurd rfl hx') (hr.imp (fun h _ => Or.inl h)) (hr.imp (fun h _ => Or.inr h)) hx hy hne
/-- One block more, all of it the mark; all other bytes stand. -/
theorem Book.more {d d' : AD} {L : List (Nat × Nat × Nat)} (h : Book d L) (hF' : d'.Fine) (off c mark : Nat) (hp : (livesOf d'.L d'.lv).Perm ((off, c) :: livesOf d.L d.lv)) (hin : ∀ k, k < c → d'.bs[off + k]? = some (UInt8.ofNat mark)) (hout : ∀ j, j < off ∨ off + c ≤ j → d'.bs[j]? = d.bs[j]?) (hm : mark < 256) : Book d' (L ++ [(off, c, mark)]) := by
  have hmem : ∀ y ∈ L, (y.1, y.2.1) ∈ livesOf d.L d.lv := fun y hy => h.perm.mem_iff.1 (List.mem_map.2 ⟨y, hy, rfl⟩)
  have hnd := (hp.map (·.1)).nodup_iff.1 (lives_nodup hF')
  rw [List.map_cons, List.nodup_cons] at hnd
  refine ⟨?_, fun y hy k hk => ?_, fun y hy => ?_⟩
  · rw [List.map_append]
    exact ((List.perm_append_comm).trans (List.Perm.cons (off, c) h.perm)).trans hp.symm
  · rcases List.mem_append.1 hy with hy | hy
    · have hne : y.1 ≠ off := fun e => hnd.1 (List.mem_map.2 ⟨_, hmem y hy, e⟩)
      have := lives_apart hF' (hp.mem_iff.2 (List.mem_cons_of_mem _ (hmem y hy))) (hp.mem_iff.2 (List.mem_cons_self ..)) hne
      rw [hout (y.1 + k) (by simp at this; omega)]
      exact h.bytes y hy k hk
    · rw [List.mem_singleton] at hy
      subst hy
      exact hin k hk
  · rcases List.mem_append.1 hy with hy | hy
    · exact h.mark y hy
    · rw [List.mem_singleton] at hy
      subst hy
      exact hm
/-- The block that is taken touches none of the book's. -/
theorem Book.apart {d d' : AD} {L : List (Nat × Nat × Nat)} (h : Book d L) (hF' : d'.Fine) (off c : Nat) (hp : (livesOf d'.L d'.lv).Perm ((off, c) :: livesOf d.L d.lv)) : meetsH L (off : Int) (c : Int) = false := by
  have hmem : ∀ y ∈ L, (y.1, y.2.1) ∈ livesOf d.L d.lv := fun y hy => h.perm.mem_iff.1 (List.mem_map.2 ⟨y, hy, rfl⟩)
  have hnd := (hp.map (·.1)).nodup_iff.1 (lives_nodup hF')
  rw [List.map_cons, List.nodup_cons] at hnd
  refine List.any_eq_false.2 fun y hy => ?_
  have hne : y.1 ≠ off := fun e => hnd.1 (List.mem_map.2 ⟨_, hmem y hy, e⟩)
  have := lives_apart hF' (hp.mem_iff.2 (List.mem_cons_of_mem _ (hmem y hy))) (hp.mem_iff.2 (List.mem_cons_self ..)) hne
  simp at this
  unfold oneH
  rw [Bool.and_eq_true, decide_eq_true_iff, decide_eq_true_iff]
  omega
theorem lives_took {d : AD} (hF : d.Fine) (n : Nat) : (livesOf (d.took n).L (d.took n).lv).Perm ((d.bs.length, n) :: livesOf d.L d.lv) := by
  have e : livesOf (d.took n).L (d.took n).lv = livesOf d.L d.lv ++ [(d.bs.length, n)] := by
    rw [AD.took_L, AD.took_lv]
    unfold livesOf
    rw [List.filter_append]
    congr 1
    · refine List.filter_congr fun x hx => ?_
      have h1 := tiles_in hF.tiles x hx
      have h2 := hF.tiles.pos x hx
      unfold upd
      rw [if_neg (by omega)]
    · simp [upd]
  rw [e]
  exact List.perm_append_comm
theorem lives_congr {L : List (Nat × Nat)} {f g : Int → Option Int} (h : ∀ x ∈ L, (f (x.1 : Int)).isSome = (g (x.1 : Int)).isSome) : livesOf L f = livesOf L g := List.filter_congr h
theorem lives_enter {f : Int → Option Int} {z n : Nat} (hz : f (z : Int) = none) : ∀ (L : List (Nat × Nat)), (z, n) ∈ L → (L.map (·.1)).Nodup → (livesOf L (upd f (z : Int) (some (n : Int)))).Perm ((z, n) :: livesOf L f)
  | [], h, _ => by cases h
  | x :: r, h, hn => by
    rw [List.map_cons, List.nodup_cons] at hn
    by_cases e : x = (z, n)
    · subst e
      have e1 : livesOf r (upd f (z : Int) (some (n : Int))) = livesOf r f := lives_congr fun y hy => by
        have hne : y.1 ≠ z := fun e => hn.1 (List.mem_map.2 ⟨y, hy, e⟩)
        unfold upd
        rw [if_neg (by omega)]
      have e2 : livesOf ((z, n) :: r) (upd f (z : Int) (some (n : Int))) = (z, n) :: livesOf r (upd f (z : Int) (some (n : Int))) := List.filter_cons_of_pos (by simp [upd])
      have e3 : livesOf ((z, n) :: r) f = livesOf r f := List.filter_cons_of_neg (by simp [hz])
      rw [e2, e3, e1]
    · have hr : (z, n) ∈ r := by
        rcases List.mem_cons.1 h with h | h
        · exact absurd h.symm e
        · exact h
      have hne : x.1 ≠ z := fun e => hn.1 (List.mem_map.2 ⟨_, hr, e.symm⟩)
      have ih := lives_enter hz r hr hn.2
      have eu : upd f (z : Int) (some (n : Int)) (x.1 : Int) = f (x.1 : Int) := by
        unfold upd
        rw [if_neg (by omega)]
      cases hf : (f (x.1 : Int)).isSome
      · have e2 : livesOf (x :: r) (upd f (z : Int) (some (n : Int))) = livesOf r (upd f (z : Int) (some (n : Int))) := List.filter_cons_of_neg (by rw [eu, hf]; decide)
        have e3 : livesOf (x :: r) f = livesOf r f := List.filter_cons_of_neg (by rw [hf]; decide)
        rw [e2, e3]
        exact ih
      · have e2 : livesOf (x :: r) (upd f (z : Int) (some (n : Int))) = x :: livesOf r (upd f (z : Int) (some (n : Int))) := List.filter_cons_of_pos (by rw [eu, hf])
        have e3 : livesOf (x :: r) f = x :: livesOf r f := List.filter_cons_of_pos hf
        rw [e2, e3]
        exact (List.Perm.cons x ih).trans (List.Perm.swap _ _ _)
end Go.Proofs.Ytfghkpahbfpejaa
/-
  The law's own classOf.
-/
namespace Go.Proofs.Ytfghkpahbfpejaa
open Go.RowKit Go.Shelf

theorem pairs_one : ∀ x ∈ classPairs, ∀ y ∈ classPairs, x.2 < y.1 → y.2 < x.1 → x.1 = y.1 := by decide +kernel
theorem class_at {n : Nat} (h1 : 1 ≤ n) (h2 : n ≤ 1048576) {x : Nat × Nat} (hx : x ∈ classPairs) (ha : x.2 < n) (hb : n ≤ x.1) : x.1 = classN n := by
  obtain ⟨y, hy, e, h3, h4⟩ := class_spec n h1 h2
  rw [e]
  exact pairs_one x hx y hy (by omega) (by omega)
theorem pairs_next : ∀ x ∈ classPairs, x.1 < 1048576 → (x.1 = 16 ∧ (32, 16) ∈ classPairs) ∨ (x.1 ≠ 16 ∧ bits .and .i64 (x.1 : Int) ((x.1 : Int) - 1) = 0 ∧ (x.1 + x.1 / 2, x.1) ∈ classPairs) ∨ (x.1 ≠ 16 ∧ bits .and .i64 (x.1 : Int) ((x.1 : Int) - 1) ≠ 0 ∧ (x.1 + x.1 / 3, x.1) ∈ classPairs) := by decide +kernel
theorem pairs_le : ∀ x ∈ classPairs, 16 ≤ x.1 ∧ x.1 ≤ 1048576 ∧ x.2 < x.1 := by decide +kernel

set_option maxRecDepth 100000 in
set_option maxHeartbeats 1000000 in
theorem classOf_core (n N : Nat) (w : World) (h1 : 1 ≤ n) (h2 : n ≤ 1048576) (hN : Hid (∀ x ∈ classPairs, x.2 < n → n ≤ x.1 → x.1 = N)) :
    Calls Try.prog 15 #[.int .i64 (n : Int)] w fun e w' => e = .returned (.int .i64 (N : Int)) ∧ w' = w := by
  go_enter Try.func15, Try.ntmps15
  go_wp2
  go_loop [3] (fun v => ∃ c b : Nat, v = .int .i64 (c : Int) ∧ Hid ((c, b) ∈ classPairs ∧ b < n) ∧ 16 ≤ c ∧ c ≤ 1048576) (fun v => 1048577 - (intOf v).toNat)
  case atStart => exact ⟨16, 0, rfl, ⟨by decide +kernel, by omega⟩, by omega, by omega⟩
  case round =>
    obtain ⟨c, b, rfl, hc, hc1, hc2⟩ := hrel
    by_cases hlt : c < n
    · have hlt' : (c : Int) < (n : Int) := by omega
      rcases pairs_next _ hc.out.1 (by simp; omega) with ⟨e1, e2⟩ | ⟨e1, e2, e3⟩ | ⟨e1, e2, e3⟩
      · have e1 : c = 16 := e1
        subst e1
        have HM : Hid ((32, 16) ∈ classPairs) := e2
        clear hN e2 hc
        go_wp2
        go_round
        case rel => exact ⟨32, 16, by go_num, ⟨HM.out, hlt⟩, by omega, by omega⟩
        case measure => simp [intOf]
      · have f1 : ¬ (c : Int) = 16 := by simp at e1; omega
        have f2 : ((c : Int) == 16) = false := by simp at e1; simp; omega
        have hle := pairs_le _ e3
        have HM : Hid ((c + c / 2, c) ∈ classPairs) := e3
        simp only at e2 hle
        clear hN e3 hc e1
        go_wp2
        go_round
        case rel => exact ⟨c + c / 2, c, by go_num, ⟨HM.out, hlt⟩, by omega, by omega⟩
        case measure => simp [intOf]; omega
      · have f1 : ¬ (c : Int) = 16 := by simp at e1; omega
        have f2 : ((c : Int) == 16) = false := by simp at e1; simp; omega
        have hle := pairs_le _ e3
        have HM : Hid ((c + c / 3, c) ∈ classPairs) := e3
        simp only at e2 hle
        clear hN e3 hc e1
        go_wp2
        go_round
        case rel => exact ⟨c + c / 3, c, by go_num, ⟨HM.out, hlt⟩, by omega, by omega⟩
        case measure => simp [intOf]; omega
    · have hE : c = N := hN.out _ hc.out.1 hc.out.2 (by simp; omega)
      have hlt' : ¬ (c : Int) < (n : Int) := by omega
      subst hE
      clear hc hN
      go_wp2
      go_ret
      exact ⟨rfl, rfl⟩
theorem classOf_any (n : Nat) (w : World) (h1 : 1 ≤ n) (h2 : n ≤ 1048576) :
    Calls Try.prog 15 #[.int .i64 (n : Int)] w fun e w' => e = .returned (.int .i64 (classN n : Int)) ∧ w' = w :=
  classOf_core n (classN n) w h1 h2 (fun _ hx ha hb => class_at h1 h2 hx ha hb)

/-- Free of one, by a statement. -/
theorem own_free1 {w w1 : World} {p : Nat} {X : Nat → Prop} {d : AD} (h : Own w w1 p X d) (hF : d.Fine) (z : Int) (s : Int) (hz : d.lv z = some s) (hX : ∀ k, X k → k < w1.heap.size) :
    Calls Try.prog 16 #[.pointer (some ⟨p, 0, none⟩), .slice (some ⟨w1.heap.size, 0, none⟩) 1 1] (w1.alloc (.cells #[.int .i64 z] 3)) fun e w' => e = .returned (.int .i64 0) ∧ ∃ d', Gone d z d' ∧ Own w w' p X d' ∧ Keeps w1 w' (fun k => (w.heap.size ≤ k ∧ ¬ X k) ∧ k < w1.heap.size) := by
  have k0 : Keeps w1 (w1.alloc (.cells #[.int .i64 z] 3)) (fun _ => False) := (Keeps.refl _ _).alloc _
  obtain ⟨o, n, ez, _, _, hm, _⟩ := live_fits hF hz
  have hr : rising [z] = [z] := by simp [rising]
  have hf := free_any (w := w1.alloc (.cells #[.int .i64 z] 3)) (h.here.keeps k0 (fun _ _ _ e => e)) (fun k hk => by have := hk.2; simp; omega) hF (some ⟨w1.heap.size, 0, none⟩) 1 [z] (by simp) (by simp) (fun y hy => by
    simp at hy
    subst hy
    rw [ez]
    exact fitsI_mk (by omega) (by omega)) (Or.inr ⟨w1.heap.size, 0, rfl, by simp, fun j hj => by
      have hj0 : j = 0 := by simpa using hj
      subst hj0
      simp only [World.cell?, heap_alloc_new]
      simp⟩)
  rw [hr] at hf
  have hgood : allGood d [z] := fun i hi => by
    have hi0 : i = 0 := by simpa using hi
    subst hi0
    exact ⟨by simp [at0, hz], fun h => by omega⟩
  refine hf.mono ?_
  intro e w2 hp
  rcases hp with ⟨_, rfl, d', ⟨d1, hg, hd⟩, ht⟩ | ⟨hno, _⟩
  · cases hd
    have ht' : Turned w1 w2 p (fun k => (w.heap.size ≤ k ∧ ¬ X k) ∧ k < w1.heap.size) d' := by
      refine ⟨ht.1.mono (fun i _ hi => ?_), (k0.mono (fun _ _ e => e.elim)).trans ht.2 (fun _ _ e => e)⟩
      rcases hi with hi | hi
      · exact Or.inl hi
      · exact Or.inr (by simp at hi; omega)
    exact ⟨rfl, d', hg, h.turn ht' hX, ht'.2⟩
  · exact absurd hgood hno
end Go.Proofs.Ytfghkpahbfpejaa
namespace Go.Proofs.Ytfghkpahbfpejaa
open Go.RowKit Go.Shelf

def DownRel (w : World) (hb : Nat) (v : Value) (xs : List Int) (n i : Nat) (wr : World) : Prop := ∃ ys : List Int, ys.Perm xs ∧ DownInv n ys i ∧ (∀ k, n ≤ k → at0 ys k = at0 xs k) ∧ HeapAt wr hb v ys ∧ Keeps w wr (fun k => v.ownBlock = some k)
def DownPost (w : World) (hb : Nat) (v : Value) (xs : List Int) (n : Nat) (e : Ending) (w' : World) : Prop := ∃ b, e = .returned (.bool b) ∧ ∃ ys : List Int, ys.Perm xs ∧ Heapy n ys ∧ (∀ k, n ≤ k → at0 ys k = at0 xs k) ∧ HeapAt w' hb v ys ∧ Keeps w w' (fun k => v.ownBlock = some k)

set_option maxRecDepth 100000 in
set_option maxHeartbeats 2000000 in
theorem heap_down {w : World} {hb : Nat} {v : Value} {xs : List Int} {n : Nat} (h : DownRel w hb v xs n 0 w) (hn : n ≤ xs.length) (hl : xs.length ≤ 134217728) :
    Calls Try.prog 74 #[.iface 97 (.pointer (some ⟨hb, 0, none⟩)), .int .i64 0, .int .i64 (n : Int)] w fun e w' => DownPost w hb v xs n e w' := by
  have mL := reach_less hb
  have mS := reach_swap hb
  have eL := ent_less
  have eS := ent_swap
  unfold Enters at eL eS
  have H0 := hide h
  clear h
  go_enter Try.func74, Try.ntmps74
  go_wp2
  go_loopw [7] (fun vi wr => ∃ i : Nat, vi = .int .i64 (i : Int) ∧ i ≤ n ∧ DownRel w hb v xs n i wr) (fun vi _ => n + 1 - (intOf vi).toNat)
  case atStart => exact ⟨0, rfl, Nat.zero_le _, H0.out⟩
  case round =>
    obtain ⟨i, rfl, hin, ys, hperm, hinv, hrest, hat, hk⟩ := hrel
    have hlen := hperm.length_eq
    have P0 := hide hperm
    have I0 := hide hinv
    have R0 := hide hrest
    have hn' : n ≤ 134217728 := by omega
    have hi' : i ≤ 134217728 := by omega
    clear hperm hinv hrest H0
    rcases Nat.lt_or_ge (2 * i + 1) n with h1 | h1
    · have hneg : ¬ 2 * (i : Int) + 1 < 0 := by omega
      have hlt1 : ¬ (n : Int) ≤ 2 * (i : Int) + 1 := by omega
      have last : ∀ j : Nat, 0 < j → j < n → (j - 1) / 2 = i → (∀ k, 0 < k → k < n → (k - 1) / 2 = i → at0 ys j ≤ at0 ys k) → ∀ q0 : Nat,
          (Calls Try.prog 110 #[.pointer (some ⟨hb, 0, none⟩), .int .i64 (j : Int), .int .i64 (i : Int)] (wr.drewN q0) fun e w' => e = .returned (.bool (decide (at0 ys j < at0 ys i))) ∧ ∃ q, w' = wr.drewN (q0 + q)) ∧
          (at0 ys j < at0 ys i → ∀ q, Calls Try.prog 113 #[.pointer (some ⟨hb, 0, none⟩), .int .i64 (i : Int), .int .i64 (j : Int)] (wr.drewN (q0 + q)) fun e w' => e = .returned (.tuple #[]) ∧ DownRel w hb v xs n j w') := fun j h0 hj hp hm q0 => by
        have kq : Keeps wr (wr.drewN q0) (fun _ => False) := (Keeps.refl wr _).drewN q0
        have hat0 := hat.keeps kq id (fun _ _ => id)
        refine ⟨(low_less hat0 j i (by omega) (by omega) (by omega)).mono (fun e w' he => ?_), fun hlt q => ?_⟩
        · obtain ⟨h1, q, h2⟩ := he
          exact ⟨h1, q, by rw [h2, World.drewN_drewN]⟩
        rw [← World.drewN_drewN]
        have kq2 : Keeps (wr.drewN q0) ((wr.drewN q0).drewN q) (fun _ => False) := (Keeps.refl _ _).drewN q
        refine (low_swap (hat0.keeps kq2 id (fun _ _ => id)) i j (by omega) (by omega) (by omega)).mono ?_
        rintro e w' ⟨rfl, h1, h2⟩
        refine ⟨rfl, sw ys i j, (sw_perm (by omega) (by omega)).trans P0.out, I0.out.step (by omega) h0 hj hp hlt hm, fun k hk => ?_, h1, ((hk.trans kq (fun _ _ e => e.elim)).trans kq2 (fun _ _ e => e.elim)).trans h2 (fun _ _ e => e)⟩
        rw [sw_at (by omega) (by omega), if_neg (by omega), if_neg (by omega)]
        exact R0.out k hk
      have fin : ∀ j : Nat, 0 < j → j < n → (j - 1) / 2 = i → (∀ k, 0 < k → k < n → (k - 1) / 2 = i → at0 ys j ≤ at0 ys k) → at0 ys i ≤ at0 ys j → ∀ q b, DownPost w hb v xs n (.returned (.bool b)) (wr.drewN q) := fun j h0 hj hp hm hlt q b => by
        have kq : Keeps wr (wr.drewN q) (fun _ => False) := (Keeps.refl wr _).drewN q
        exact ⟨b, rfl, ys, P0.out, I0.out.stop (fun k hk0 hkn hkp => by have := hm k hk0 hkn hkp; omega), R0.out, hat.keeps kq id (fun _ _ => id), hk.trans kq (fun _ _ e => e.elim)⟩
      have HF := hide fin
      clear fin
      have hL2 := fun (h2 : 2 * i + 2 < n) => low_less hat (2 * i + 2) (2 * i + 1) (by omega) (by omega) (by omega)
      rw [show (((2 * i + 2 : Nat)) : Int) = 2 * (i : Int) + 1 + 1 by omega, show (((2 * i + 1 : Nat)) : Int) = 2 * (i : Int) + 1 by omega] at hL2
      clear hat hk P0 I0 R0 hlen
      rcases Nat.lt_or_ge (2 * i + 2) n with h2 | h2
      · have hlt2 : 2 * (i : Int) + 1 + 1 < (n : Int) := by omega
        have hL2 := hL2 h2
        by_cases hc : at0 ys (2 * i + 2) < at0 ys (2 * i + 1)
        · rw [decide_eq_true hc] at hL2
          have hm : ∀ k, 0 < k → k < n → (k - 1) / 2 = i → at0 ys (2 * i + 2) ≤ at0 ys k := fun k h0 hk hp => by
            rcases (show k = 2 * i + 1 ∨ k = 2 * i + 2 by omega) with rfl | rfl
            · omega
            · exact Int.le_refl _
          clear hc
          go_wp2_with fail
          refine hL2.mono ?_
          rintro e w1 ⟨rfl, q0, rfl⟩
          clear hL2
          have hlast := last (2 * i + 2) (by omega) (by omega) (by omega) hm q0
          rw [show (((2 * i + 2 : Nat)) : Int) = 2 * (i : Int) + 1 + 1 by omega] at hlast
          by_cases hlt : at0 ys (2 * i + 2) < at0 ys i
          · rw [decide_eq_true hlt] at hlast
            obtain ⟨hL, hS⟩ := hlast
            have hS := hide (hS hlt)
            clear hm last hlt HF
            go_wp2_with fail
            refine hL.mono ?_
            rintro e w1 ⟨rfl, q, rfl⟩
            have hS := hS.out q
            clear hL
            go_wp2_with fail
            refine hS.mono ?_
            rintro e w2 ⟨rfl, hr⟩
            have HR := hide hr
            clear hS hr
            go_wp2_with fail
            exact ⟨⟨2 * i + 2, by rw [show (((2 * i + 2 : Nat)) : Int) = 2 * (i : Int) + 1 + 1 by omega], by omega, HR.out⟩, by simp [intOf]; omega⟩
          · rw [decide_eq_false hlt] at hlast
            have hL := hlast.1
            have HF := hide (HF.out (2 * i + 2) (by omega) (by omega) (by omega) hm (by omega))
            clear hlast hm last hlt
            go_wp2_with fail
            refine hL.mono ?_
            rintro e w1 ⟨rfl, q, rfl⟩
            have HF := hide (HF.out (q0 + q))
            clear hL
            go_wp2_with fail
            go_ret
            exact HF.out _
        · rw [decide_eq_false hc] at hL2
          have hm : ∀ k, 0 < k → k < n → (k - 1) / 2 = i → at0 ys (2 * i + 1) ≤ at0 ys k := fun k h0 hk hp => by
            rcases (show k = 2 * i + 1 ∨ k = 2 * i + 2 by omega) with rfl | rfl
            · exact Int.le_refl _
            · omega
          clear hc
          go_wp2_with fail
          refine hL2.mono ?_
          rintro e w1 ⟨rfl, q0, rfl⟩
          clear hL2
          have hlast := last (2 * i + 1) (by omega) (by omega) (by omega) hm q0
          rw [show (((2 * i + 1 : Nat)) : Int) = 2 * (i : Int) + 1 by omega] at hlast
          by_cases hlt : at0 ys (2 * i + 1) < at0 ys i
          · rw [decide_eq_true hlt] at hlast
            obtain ⟨hL, hS⟩ := hlast
            have hS := hide (hS hlt)
            clear hm last hlt HF
            go_wp2_with fail
            refine hL.mono ?_
            rintro e w1 ⟨rfl, q, rfl⟩
            have hS := hS.out q
            clear hL
            go_wp2_with fail
            refine hS.mono ?_
            rintro e w2 ⟨rfl, hr⟩
            have HR := hide hr
            clear hS hr
            go_wp2_with fail
            exact ⟨⟨2 * i + 1, by rw [show (((2 * i + 1 : Nat)) : Int) = 2 * (i : Int) + 1 by omega], by omega, HR.out⟩, by simp [intOf]; omega⟩
          · rw [decide_eq_false hlt] at hlast
            have hL := hlast.1
            have HF := hide (HF.out (2 * i + 1) (by omega) (by omega) (by omega) hm (by omega))
            clear hlast hm last hlt
            go_wp2_with fail
            refine hL.mono ?_
            rintro e w1 ⟨rfl, q, rfl⟩
            have HF := hide (HF.out (q0 + q))
            clear hL
            go_wp2_with fail
            go_ret
            exact HF.out _
      · have hlt2 : ¬ 2 * (i : Int) + 1 + 1 < (n : Int) := by omega
        have hm : ∀ k, 0 < k → k < n → (k - 1) / 2 = i → at0 ys (2 * i + 1) ≤ at0 ys k := fun k h0 hk hp => by
          rcases (show k = 2 * i + 1 by omega) with rfl
          exact Int.le_refl _
        clear hL2
        have hlast := last (2 * i + 1) (by omega) (by omega) (by omega) hm 0
        simp only [World.drewN_zero, Nat.zero_add] at hlast
        rw [show (((2 * i + 1 : Nat)) : Int) = 2 * (i : Int) + 1 by omega] at hlast
        by_cases hlt : at0 ys (2 * i + 1) < at0 ys i
        · rw [decide_eq_true hlt] at hlast
          obtain ⟨hL, hS⟩ := hlast
          have hS := hide (hS hlt)
          clear hm last hlt HF
          go_wp2_with fail
          refine hL.mono ?_
          rintro e w1 ⟨rfl, q, rfl⟩
          have hS := hS.out q
          clear hL
          go_wp2_with fail
          refine hS.mono ?_
          rintro e w2 ⟨rfl, hr⟩
          have HR := hide hr
          clear hS hr
          go_wp2_with fail
          exact ⟨⟨2 * i + 1, by rw [show (((2 * i + 1 : Nat)) : Int) = 2 * (i : Int) + 1 by omega], by omega, HR.out⟩, by simp [intOf]; omega⟩
        · rw [decide_eq_false hlt] at hlast
          have hL := hlast.1
          have HF := hide (HF.out (2 * i + 1) (by omega) (by omega) (by omega) hm (by omega))
          clear hlast hm last hlt
          go_wp2_with fail
          refine hL.mono ?_
          rintro e w1 ⟨rfl, q, rfl⟩
          have HF := hide (HF.out q)
          clear hL
          go_wp2_with fail
          go_ret
          exact HF.out _
    · have hlt1 : (n : Int) ≤ 2 * (i : Int) + 1 := by omega
      have hfin : ∀ b, DownPost w hb v xs n (.returned (.bool b)) wr := fun b => ⟨b, rfl, ys, P0.out, I0.out.stop (fun k h0 hkn hp => by omega), R0.out, hat, hk⟩
      have HF := hide hfin
      clear hfin hat hk hlen I0 P0 R0
      go_wp2_with fail
      go_ret
      exact HF.out _
end Go.Proofs.Ytfghkpahbfpejaa
namespace Go.Proofs.Ytfghkpahbfpejaa
open Go.RowKit Go.Shelf

def PopPost (w : World) (hb : Nat) (v : Value) (xs : List Int) (e : Ending) (w' : World) : Prop := ∃ m, e = .returned (.iface 3 (.int .i64 m)) ∧ (∀ x ∈ xs, m ≤ x) ∧ ∃ ys : List Int, (ys ++ [m]).Perm xs ∧ Heapy ys.length ys ∧ HeapTurned w hb v ys w'

theorem Heapy.mem {xs : List Int} (h : Heapy xs.length xs) : ∀ x ∈ xs, at0 xs 0 ≤ x := fun x hx => by
  obtain ⟨k, hk, rfl⟩ := List.getElem_of_mem hx
  have := h.least k hk
  simpa [at0, hk] using this
theorem list_last {ys : List Int} {n : Nat} (h : ys.length = n + 1) : ys = ys.take n ++ [at0 ys n] := by
  have h1 : ys.drop n = [at0 ys n] := by
    rw [List.drop_eq_getElem_cons (by omega), List.drop_eq_nil_of_le (by omega)]
    simp [at0, h]
  rw [← h1, List.take_append_drop]
theorem at0_take {ys : List Int} {n k : Nat} (h : k < n) : at0 (ys.take n) k = at0 ys k := by
  simp [at0, h]

set_option maxRecDepth 100000 in
set_option maxHeartbeats 2000000 in
theorem heap_pop {w : World} {hb : Nat} {v : Value} {xs : List Int} (h : HeapAt w hb v xs) (hh : Heapy xs.length xs) (h0 : 0 < xs.length) (hl : xs.length ≤ 134217728) :
    Calls Try.prog 65 #[.iface 97 (.pointer (some ⟨hb, 0, none⟩))] w fun e w' => PopPost w hb v xs e w' := by
  have mP := reach_pop hb
  have mL := reach_len hb
  have mS := reach_swap hb
  have eP := ent_pop
  have eL := ent_len
  have eS := ent_swap
  unfold Enters at eP eL eS
  have hL := low_len h
  obtain ⟨n, hn⟩ : ∃ n, xs.length = n + 1 := ⟨xs.length - 1, by omega⟩
  have hn' : n ≤ 134217728 := by omega
  have hlen : ((xs.length : Nat) : Int) = (n : Int) + 1 := by omega
  rw [hlen] at hL
  have hS := low_swap h 0 n (by omega) (by omega) hl
  have hD : Hid (∀ w1, HeapAt w1 hb v (sw xs 0 n) → Calls Try.prog 74 #[.iface 97 (.pointer (some ⟨hb, 0, none⟩)), .int .i64 0, .int .i64 (n : Int)] w1 fun e w' => DownPost w1 hb v (sw xs 0 n) n e w') := fun w1 h1 =>
    heap_down ⟨sw xs 0 n, List.Perm.refl _, DownInv.start (by omega) hh, fun _ _ => rfl, h1, Keeps.refl _ _⟩ (by rw [sw_length]; omega) (by rw [sw_length]; omega)
  have HH := hide hh
  clear hlen h hh
  go_enter Try.func65, Try.ntmps65
  go_wp2_with fail
  refine hL.mono ?_
  rintro e w0 ⟨rfl, rfl⟩
  clear hL
  go_wp2_with fail
  refine hS.mono ?_
  rintro e w1 ⟨rfl, h1, k1⟩
  clear hS
  have hD1 := hD.out w1 h1
  clear hD h1
  go_wp2_with fail
  refine hD1.mono ?_
  rintro e w2 ⟨b, rfl, ys, hp, hy, hr, h2, k2⟩
  clear hD1
  have hyl : ys.length = n + 1 := by rw [hp.length_eq, sw_length]; exact hn
  have hm : at0 ys n = at0 xs 0 := by
    rw [hr n (Nat.le_refl _), sw_at (by omega) (by omega), if_pos rfl]
  have hys := list_last hyl
  rw [hm] at hys
  have h3 := h2
  rw [hys] at h3
  have hP : Calls Try.prog 111 #[.pointer (some ⟨hb, 0, none⟩)] w2 fun e w' => PopPost w0 hb v xs e w' := by
    refine (low_pop h3 (by simp; omega)).mono ?_
    rintro e w3 ⟨rfl, v3, h4, k4, l4⟩
    refine ⟨_, rfl, HH.out.mem, ys.take n, ?_, ?_, v3, h4, ?_, ?_⟩
    · rw [← hys]
      exact hp.trans (sw_perm (by omega) (by omega))
    · intro k hk0 hk
      simp at hk
      rw [at0_take (by omega), at0_take (by omega)]
      exact hy k hk0 (by omega)
    · exact ((k1.mono (S1 := fun k => k = hb ∨ v.ownBlock = some k) (fun _ _ e => Or.inr e)).trans k2 (fun _ _ e => Or.inr e)).trans k4 (fun _ _ e => e)
    · rcases l4 with l | ⟨k, l, hk⟩
      · exact Or.inl l
      · exact Or.inr ⟨k, l, by have := k1.size; have := k2.size; omega⟩
  clear h2 h3 hys hm hyl hr hy hp k1 k2 HH
  go_wp2_with fail
  refine hP.mono ?_
  rintro e w3 ⟨m, rfl, hq⟩
  have HP : Hid (PopPost w0 hb v xs (.returned (.iface 3 (.int .i64 m))) w3) := ⟨m, rfl, hq⟩
  clear hP hq
  go_wp2_with fail
  go_ret
  exact HP.out
end Go.Proofs.Ytfghkpahbfpejaa
/-
  A free block is taken again.
-/
namespace Go.Proofs.Ytfghkpahbfpejaa
open Go.RowKit Go.Shelf

/-- An empty list of free blocks. -/
theorem again_empty {w : World} {p : Nat} {c : AR} {d : AD} (h : ArenaAt w p c d) (n : Nat) (hn : n ≤ 134217728) (hf : d.fm (n : Int) = some []) :
    Calls Try.prog 50 #[.pointer (some ⟨p, 0, none⟩), .int .i64 (n : Int)] w fun e w' => e = .returned (.tuple #[.int .i64 0, .bool false]) ∧ w' = w := by
  obtain ⟨b, ys, hb, hp, ha, _⟩ := h.heaps.block_of hf
  have e := List.Perm.eq_nil hp
  subst e
  have c5 := h.cell5
  have hl := look_ptr (w := w) Try.underlying3 Try.underlying70 (Try.zeroP w) h.free (x := (n : Int)) (fitsI_mk (by omega) (by omega))
  rw [hb] at hl
  simp only [Option.map_some] at hl
  have hL := low_len ha
  simp only [List.length_nil] at hL
  clear h ha
  go_enter Try.func50, Try.ntmps50
  go_wp2_with fail
  refine hL.mono ?_
  rintro e w1 ⟨rfl, rfl⟩
  clear hL
  go_wp2_with fail
  go_ret2
  exact ⟨rfl, rfl⟩

/-- The lowest of a list of free blocks, zeroed. -/
def AD.popped (d : AD) (n : Nat) (z : Nat) (r : List Int) : AD := (d.freed (n : Int) r).bytes (splice d.bs z (zeros n))
def AgainPost (w : World) (p : Nat) (c : AR) (d : AD) (n z : Nat) (r : List Int) (e : Ending) (w' : World) : Prop :=
  e = .returned (.tuple #[.int .i64 (z : Int), .bool true]) ∧ ∃ c', ArenaAt w' p c' (d.popped n z r) ∧ Keeps w w' (c.foot p) ∧ ∀ k, c'.foot p k → c.foot p k ∨ w.heap.size ≤ k

set_option maxRecDepth 100000 in
set_option maxHeartbeats 1000000 in
theorem again_some {w : World} {p : Nat} {c : AR} {d : AD} (h : ArenaAt w p c d) (n z : Nat) (r : List Int) (hn : n ≤ 134217728) (hf : d.fm (n : Int) = some ((z : Int) :: r)) (hs : ((z : Int) :: r).Pairwise (· < ·)) (hl : r.length < 134217728) (hz : z + n ≤ d.bs.length) :
    Calls Try.prog 50 #[.pointer (some ⟨p, 0, none⟩), .int .i64 (n : Int)] w fun e w' => AgainPost w p c d n z r e w' := by
  obtain ⟨b, ys, hb, hp, ha, hh⟩ := h.heaps.block_of hf
  have hyl : ys.length = r.length + 1 := by rw [hp.length_eq]; simp
  have c5 := h.cell5
  have hlk := look_ptr (w := w) Try.underlying3 Try.underlying70 (Try.zeroP w) h.free (x := (n : Int)) (fitsI_mk (by omega) (by omega))
  rw [hb] at hlk
  simp only [Option.map_some] at hlk
  have hL := low_len ha
  have hne : (((ys.length : Nat) : Int) == 0) = false := by simp; intro e; rw [e] at hyl; simp at hyl
  have hlI : ((ys.length : Nat) : Int) ≤ 134217728 := by omega
  have hP : Calls Try.prog 65 #[.iface 97 (.pointer (some ⟨b, 0, none⟩))] w fun e w' => e = .returned (.iface 3 (.int .i64 (z : Int))) ∧ ∃ c', ArenaAt w' p c' (d.freed (n : Int) r) ∧ Keeps w w' (c.foot p) ∧ ∀ k, c'.foot p k → c.foot p k ∨ w.heap.size ≤ k := by
    refine (heap_pop ha hh (by omega) (by omega)).mono ?_
    rintro e w' ⟨m, rfl, hmin, us, hperm, hu, ht⟩
    have hmm : m ∈ (z : Int) :: r := hp.mem_iff.1 (hperm.mem_iff.1 (by simp))
    have hzm := hmin (z : Int) (hp.mem_iff.2 (by simp))
    have hm : m = (z : Int) := by
      rcases List.mem_cons.1 hmm with e | e
      · exact e
      · have := (List.pairwise_cons.1 hs).1 m e
        omega
    subst hm
    obtain ⟨v', h1, h2, h3⟩ := h.heap_turned' hb hu ht
    refine ⟨rfl, _, h1 r ?_, h2, h3⟩
    have h5 : (us ++ [(z : Int)]).Perm ((z : Int) :: r) := hperm.trans hp
    have h6 : ((z : Int) :: us).Perm ((z : Int) :: r) := (List.perm_append_singleton _ _).symm.trans h5
    exact (List.perm_cons _).1 h6
  have hta : ∀ w', Sem.run Try.prog (Instr.typeAssert (.iface 3 (.int .i64 (z : Int))) 20 3 false) w' = .ok (.int .i64 (z : Int)) w' := fun _ => by kernel_rfl
  clear h ha hh hp hs hf
  go_enter Try.func50, Try.ntmps50
  go_wp2_with fail
  refine hL.mono ?_
  rintro e w1 ⟨rfl, rfl⟩
  clear hL
  go_wp2_with fail
  refine hP.mono ?_
  rintro e w2 ⟨rfl, c', h2, k2, f2⟩
  clear hP
  have c2 := h2.cell2
  have hFi := fill_yes w2 c'.b c'.g d.bs c'.sp h2.mem z n hz 0
  go_wp2_with fail
  refine hFi.mono ?_
  intro e w3 hp3
  have hfin : AgainPost w1 p c d n z r (.returned (.tuple #[.int .i64 (z : Int), .bool true])) w3 := by
    refine ⟨rfl, c', ?_, ?_, f2⟩
    · have := h2.wrote hp3.2.1 hp3.2.2
      simpa [AD.popped, AD.bytes, same, zeros] using this
    · refine k2.trans hp3.2.2 (fun i hi e => ?_)
      rcases f2 i (Or.inr (Or.inr (Or.inl e))) with e | e
      · exact e
      · omega
  have he := hp3.1
  subst he
  have HF := hide hfin
  clear hFi hp3 hfin h2 k2 f2 c2
  go_wp2_with fail
  go_ret2
  exact HF.out
end Go.Proofs.Ytfghkpahbfpejaa
namespace Go.Proofs.Ytfghkpahbfpejaa
open Go.RowKit Go.Shelf

/-- The lowest free block of a class is live again. -/
def AD.retook (d : AD) (n z : Nat) (r : List Int) : AD := (d.popped n z r).entered z n

set_option maxHeartbeats 1000000 in
theorem take_again {w : World} {p : Nat} {F : Nat → Prop} {d : AD} (h : Arena w p F d) (hF : d.Fine) (n z : Nat) (r : List Int) (hn : n ≤ 134217728) (hf : d.fm (n : Int) = some ((z : Int) :: r)) (hs : ((z : Int) :: r).Pairwise (· < ·)) (hl : r.length < 134217728) (hz : z + n ≤ d.bs.length) :
    Calls Try.prog 33 #[.pointer (some ⟨p, 0, none⟩), .int .i64 (n : Int)] w fun e w' => TakePost w p F z (d.retook n z r) e w' := by
  obtain ⟨c, h, hfo⟩ := h
  have hu : d.used ≤ 134217728 := by have := hF.use; have := hF.lim; omega
  have hm := hF.most
  have hLl : d.L.length ≤ 134217728 := by have := tiles_length hF.tiles; omega
  have hA := again_some h n z r hn hf hs hl hz
  have hkb := hF.keys_begins
  clear hs hf hF
  go_enter Try.func33, Try.ntmps33
  go_wp2_with fail
  refine hA.mono ?_
  rintro e w2 ⟨rfl, c', h2, k2, f2⟩
  clear hA
  have h2 : ArenaAt w2 p { c' with nl := d.begins.length } (d.popped n z r) := { h2 with live := h2.live.tight Try.underlying3 d.begins hkb }
  have hE := enter_any h2 z n (by omega) hn hu (by simp [AD.begins_length]; omega)
  go_wp2_with fail
  refine hE.mono ?_
  rintro e w3 ⟨rfl, _, k3, hp3, hl3⟩
  clear hE
  have hfin : TakePost w p F z (d.retook n z r) (.returned (.int .i64 (z : Int))) w3 := by
    have hin : ∀ j, j < w.heap.size → ({ c' with nl := d.begins.length } : AR).foot p j → F j := fun j hj e => by
      rcases f2 j e with e | e
      · exact hfo j e
      · omega
    have kF : Keeps w w3 F := (k2.mono (fun i _ e => hfo i e)).trans k3 (fun i hi e => hin i hi (by
      rcases e with e | e
      · exact Or.inl e
      · exact Or.inr (Or.inr (Or.inr (Or.inl e)))))
    refine ⟨rfl, ⟨{ c' with nl := d.begins.length + 1 }, ⟨?_, ?_, ?_, hl3, ?_, h2.hlf, ?_⟩, fun k hk => ?_⟩, kF⟩
    · exact hp3
    · exact h2.mem.keeps k3 (fun e => by rcases e with e | e; exact h2.p_b e.symm; exact h2.bl_b e.symm) (fun e => by rcases e with e | e; exact h2.p_g e.symm; exact h2.bl_g e.symm)
    · exact ownsRow_keeps h2.beg k3 (fun k hk e => by rcases e with e | e; exact h2.p_v hk e.symm; exact h2.bl_v hk e.symm)
    · exact h2.free.keeps k3 (fun e => by rcases e with e | e; exact h2.p_bf e.symm; exact h2.hlf e.symm)
    · exact h2.heaps.keeps k3 (fun i hi e => by rcases e with e | e; exact (h2.heap_ne hi).1 e; exact (h2.heap_ne hi).2.2.2.1 e)
    · rcases f2 k hk with e | e
      · exact Or.inl (hfo k e)
      · exact Or.inr e
  have HF := hide hfin
  clear h h2 k2 f2 k3 hp3 hl3 hfo hfin hkb
  go_wp2_with fail
  go_ret
  exact HF.out

/-- An empty list: a new block. -/
theorem take_empty {w : World} {p : Nat} {c : AR} {d : AD} (h : ArenaAt w p c d) (n : Nat) (hn : n ≤ 134217728) (hf : d.fm (n : Int) = none ∨ d.fm (n : Int) = some []) :
    Calls Try.prog 50 #[.pointer (some ⟨p, 0, none⟩), .int .i64 (n : Int)] w fun e w' => e = .returned (.tuple #[.int .i64 0, .bool false]) ∧ w' = w := by
  rcases hf with hf | hf
  · exact again_none h n hn hf
  · exact again_empty h n hn hf
end Go.Proofs.Ytfghkpahbfpejaa
namespace Go.Proofs.Ytfghkpahbfpejaa
open Go.RowKit Go.Shelf

set_option maxHeartbeats 1000000 in
theorem take_more {w : World} {p : Nat} {F : Nat → Prop} {d : AD} (h : Arena w p F d) (hF : d.Fine) (n : Nat) (hn : d.bs.length + n ≤ 134217728) (hf : d.fm (n : Int) = none ∨ d.fm (n : Int) = some []) :
    Calls Try.prog 33 #[.pointer (some ⟨p, 0, none⟩), .int .i64 (n : Int)] w fun e w' => TakePost w p F d.bs.length (d.took n) e w' := by
  obtain ⟨c, h, hfo⟩ := h
  have hL : d.L.length ≤ 134217728 := by have := tiles_length hF.tiles; have := hF.most; omega
  have hu : d.used ≤ 134217728 := by have := hF.use; have := hF.lim; omega
  have hA := take_empty h n (by omega) hf
  have hadd := add_any h n hn hL
  go_enter Try.func33, Try.ntmps33
  go_wp2_with fail
  refine hA.mono ?_
  rintro e w1 ⟨rfl, rfl⟩
  clear hA
  go_wp2_with fail
  refine hadd.mono ?_
  rintro e w2 ⟨g, v, sp, rfl, h2, k2, hg, hv⟩
  clear hadd
  have h2 : ArenaAt w2 p { c with g := g, v := v, sp := sp, nl := d.begins.length } (d.added n) := { h2 with live := h2.live.tight Try.underlying3 d.begins (hF.keys_begins) }
  have hE := enter_any h2 d.bs.length n (by omega) (by omega) (by simpa [AD.added] using hu) (by simp [AD.begins_length]; omega)
  go_wp2_with fail
  refine hE.mono ?_
  rintro e w3 ⟨rfl, _, k3, hp3, hl3⟩
  clear hE
  have hfin : TakePost w1 p F d.bs.length (d.took n) (.returned (.int .i64 (d.bs.length : Int))) w3 := by
    have kF : Keeps w1 w3 F := (k2.mono (fun i _ e => hfo i e)).trans k3 (fun i hi e => by
      rcases e with rfl | rfl
      · exact hfo _ (Or.inl rfl)
      · exact hfo _ (Or.inr (Or.inr (Or.inr (Or.inl rfl)))))
    refine ⟨rfl, ⟨{ c with g := g, v := v, sp := sp, nl := d.begins.length + 1 }, ⟨?_, ?_, ?_, hl3, ?_, h.hlf, ?_⟩, ?_⟩, kF⟩
    · exact hp3
    · exact h2.mem.keeps k3 (fun e => by rcases e with e | e; exact h2.p_b e.symm; exact h2.bl_b e.symm) (fun e => by rcases e with e | e; exact h2.p_g e.symm; exact h2.bl_g e.symm)
    · exact ownsRow_keeps h2.beg k3 (fun k hk e => by rcases e with e | e; exact h2.p_v hk e.symm; exact h2.bl_v hk e.symm)
    · exact h2.free.keeps k3 (fun e => by rcases e with e | e; exact h2.p_bf e.symm; exact h2.hlf e.symm)
    · exact h2.heaps.keeps k3 (fun i hi e => by rcases e with e | e; exact (h2.heap_ne hi).1 e; exact (h2.heap_ne hi).2.2.2.1 e)
    · intro k hk
      rcases hk with e | e | e | e | e | e | e
      · exact Or.inl (hfo k (Or.inl e))
      · exact Or.inl (hfo k (Or.inr (Or.inl e)))
      · have e' : k = g := e
        rcases hg with hg | hg
        · exact Or.inl (hfo k (Or.inr (Or.inr (Or.inl (e'.trans hg)))))
        · exact Or.inr (by omega)
      · exact Or.inl (hfo k (Or.inr (Or.inr (Or.inr (Or.inl e)))))
      · exact Or.inl (hfo k (Or.inr (Or.inr (Or.inr (Or.inr (Or.inl e))))))
      · have e' : v.ownBlock = some k := e
        rcases hv with hv | ⟨k', hv, hk'⟩
        · exact Or.inl (hfo k (Or.inr (Or.inr (Or.inr (Or.inr (Or.inr (Or.inl (hv ▸ e'))))))))
        · rw [hv] at e'
          cases e'
          exact Or.inr hk'
      · exact Or.inl (hfo k (Or.inr (Or.inr (Or.inr (Or.inr (Or.inr (Or.inr e)))))))
  clear h h2 k2 k3 hp3 hl3 hg hv hfo hF hf
  go_wp2_with fail
  go_ret
  exact hfin

/-- What take does: the lowest free block of the class, or a new one. -/
def listT (d : AD) (c : Nat) : Nat × AD := match d.fm (c : Int) with
  | some (z :: r) => (z.toNat, d.retook c z.toNat r)
  | _ => (d.bs.length, d.took c)
/-- The lists rise. -/
def AD.rises (d : AD) : Prop := ∀ x xs, d.fm x = some xs → xs.Pairwise (· < ·)

theorem take_list {w : World} {p : Nat} {F : Nat → Prop} {d : AD} (h : Arena w p F d) (hF : d.Fine) (hR : d.rises) (c : Nat) (hc : d.bs.length + c ≤ 134217728) :
    Calls Try.prog 33 #[.pointer (some ⟨p, 0, none⟩), .int .i64 (c : Int)] w fun e w' => TakePost w p F (listT d c).1 (listT d c).2 e w' := by
  unfold listT
  cases hf : d.fm (c : Int) with
  | none => exact take_more h hF c hc (Or.inl hf)
  | some xs =>
    cases xs with
    | nil => exact take_more h hF c hc (Or.inr hf)
    | cons z r =>
      have hs := hR _ _ hf
      obtain ⟨_, y, hy, e1, e2⟩ := hF.free.mem _ _ hf z (by simp)
      have ht := tiles_mem hF.tiles hy
      obtain ⟨z', rfl⟩ : ∃ z' : Nat, z = (z' : Int) := ⟨y.1, e1⟩
      have hlen := length_le_of_subset (hF.free.nodup _ _ hf) (l := d.begins) (fun q hq => by
        obtain ⟨_, t, ht, e, _⟩ := hF.free.mem _ _ hf q hq
        exact List.mem_map.2 ⟨t, ht, e.symm⟩)
      rw [AD.begins_length] at hlen
      have hL := tiles_length hF.tiles
      have hm := hF.most
      simp only [Int.toNat_natCast]
      exact take_again h hF c z' r (by omega) hf hs (by simp at hlen; omega) (by omega)
end Go.Proofs.Ytfghkpahbfpejaa
/-
  What taking and freeing keep of the data.
-/
namespace Go.Proofs.Ytfghkpahbfpejaa
open Go.RowKit Go.Shelf

theorem lt_of_le_nodup {xs : List Int} (h : xs.Pairwise (· ≤ ·)) (n : xs.Nodup) : xs.Pairwise (· < ·) :=
  (List.Pairwise.and h (List.nodup_iff_pairwise_ne.1 n)).imp (fun {a b} e => by have := e.1; have := e.2; omega)
theorem AD.rises.gone {d d' : AD} (hR : d.rises) (F : d.Fine) {z : Int} (hg : Gone d z d') : d'.rises := by
  have F' := F.gone hg
  obtain ⟨s, hz, rfl⟩ := hg
  intro x xs hx
  have hnd := F'.free.nodup x xs hx
  have hx : upd d.fm (s : Int) (some (rising ((d.fm (s : Int)).getD [] ++ [z]))) x = some xs := hx
  by_cases e : x = (s : Int)
  · subst e
    rw [upd_same] at hx
    cases hx
    exact lt_of_le_nodup (rising_sorted _) hnd
  · rw [upd_other _ _ _ _ e] at hx
    exact hR x xs hx
theorem AD.rises.gones : ∀ {d : AD} {zs : List Int} {d' : AD}, d.rises → d.Fine → Gones d zs d' → d'.rises
  | _, [], _, hR, _, h => by cases h; exact hR
  | _, _ :: _, _, hR, F, ⟨_, h1, h2⟩ => (hR.gone F h1).gones (F.gone h1) h2
theorem AD.rises.took {d : AD} (hR : d.rises) (n : Nat) : (d.took n).rises := hR
theorem AD.retook_fm (d : AD) (n z : Nat) (r : List Int) : (d.retook n z r).fm = upd d.fm (n : Int) (some r) := rfl
theorem AD.retook_lv (d : AD) (n z : Nat) (r : List Int) : (d.retook n z r).lv = upd d.lv (z : Int) (some (n : Int)) := rfl
theorem AD.retook_L (d : AD) (n z : Nat) (r : List Int) : (d.retook n z r).L = d.L := rfl
theorem AD.retook_used (d : AD) (n z : Nat) (r : List Int) : (d.retook n z r).used = d.used + n := rfl
theorem AD.retook_bs (d : AD) (n z : Nat) (r : List Int) : (d.retook n z r).bs = splice d.bs z (zeros n) := rfl
theorem AD.rises.retook {d : AD} (hR : d.rises) {n z : Nat} {r : List Int} (hf : d.fm (n : Int) = some ((z : Int) :: r)) : (d.retook n z r).rises := by
  intro x xs hx
  rw [AD.retook_fm] at hx
  by_cases e : x = (n : Int)
  · subst e
    rw [upd_same] at hx
    cases hx
    exact (List.pairwise_cons.1 (hR _ _ hf)).2
  · rw [upd_other _ _ _ _ e] at hx
    exact hR x xs hx
theorem AD.Fine.retook {d : AD} (F : d.Fine) {n z : Nat} {r : List Int} (hf : d.fm (n : Int) = some ((z : Int) :: r)) (h2 : d.used + n ≤ d.limit) : (d.retook n z r).Fine := by
  obtain ⟨hlz, y, hy, e1, e2⟩ := F.free.mem _ _ hf (z : Int) (by simp)
  have hyz : y = (z, n) := by
    cases y
    simp at e1 e2 ⊢
    omega
  subst hyz
  have ht := tiles_mem F.tiles hy
  have hlen : (splice d.bs z (zeros n)).length = d.bs.length := splice_length (by rw [zeros_length]; exact ht.2.2)
  have hback : ∀ x, upd (upd d.lv (z : Int) (some (n : Int))) (z : Int) none x = d.lv x := fun x => by
    by_cases e : x = (z : Int)
    · rw [e, upd_same, hlz]
    · rw [upd_other _ _ _ _ e, upd_other _ _ _ _ e]
  have hnd := List.nodup_cons.1 (F.free.nodup _ _ hf)
  refine ⟨?_, fun x s hx => ?_, ?_, F.lim, h2, ?_, ?_⟩
  · rw [AD.retook_L, AD.retook_bs, hlen]
    exact F.tiles
  · rw [AD.retook_lv] at hx
    by_cases e : x = (z : Int)
    · subst e
      rw [upd_same] at hx
      cases hx
      exact ⟨z, n, rfl, rfl, hy⟩
    · rw [upd_other _ _ _ _ e] at hx
      exact F.live x s hx
  · rw [AD.retook_bs, hlen]
    exact F.most
  · rw [AD.retook_used, AD.retook_L, AD.retook_lv, liveSum_gone (lv := upd d.lv (z : Int) (some (n : Int))) F.tiles hy (by rw [upd_same]; rfl), F.sum]
    congr 1
    exact liveSum_congr (fun x _ => by rw [hback])
  · rw [AD.retook_L, AD.retook_lv, AD.retook_fm]
    have hother : ∀ x xs, upd d.fm (n : Int) (some r) x = some xs → ∃ ys, d.fm x = some ys ∧ ∀ q ∈ xs, q ∈ ys ∧ q ≠ (z : Int) := fun x xs hx => by
      by_cases e : x = (n : Int)
      · subst e
        rw [upd_same] at hx
        cases hx
        exact ⟨_, hf, fun q hq => ⟨by simp [hq], fun e => hnd.1 (e ▸ hq)⟩⟩
      · rw [upd_other _ _ _ _ e] at hx
        refine ⟨xs, hx, fun q hq => ⟨hq, fun e2 => ?_⟩⟩
        obtain ⟨_, t, ht, g1, g2⟩ := F.free.mem x xs hx q hq
        have := tiles_unique F.tiles ht hy (by simp; omega)
        subst this
        exact e g2
    refine ⟨fun x xs hx => ?_, fun x xs hx => ?_, fun x xs hx q hq => ?_, fun t ht hl => ?_⟩
    · by_cases e : x = (n : Int)
      · subst e
        rw [upd_same] at hx
        cases hx
        exact hnd.2
      · rw [upd_other _ _ _ _ e] at hx
        exact F.free.nodup x xs hx
    · obtain ⟨ys, h1, _⟩ := hother x xs hx
      exact F.free.size x ys h1
    · obtain ⟨ys, h1, h3⟩ := hother x xs hx
      obtain ⟨g1, t, g2⟩ := F.free.mem x ys h1 q (h3 q hq).1
      exact ⟨by rw [upd_other _ _ _ _ (h3 q hq).2]; exact g1, t, g2⟩
    · by_cases e0 : ((t.1 : Nat) : Int) = (z : Int)
      · rw [e0, upd_same] at hl
        cases hl
      · rw [upd_other _ _ _ _ e0] at hl
        obtain ⟨xs, g1, g2⟩ := F.free.all t ht hl
        by_cases e : ((t.2 : Nat) : Int) = (n : Int)
        · rw [e, upd_same]
          rw [e, hf] at g1
          cases g1
          rcases List.mem_cons.1 g2 with g | g
          · exact absurd g e0
          · exact ⟨r, rfl, g⟩
        · rw [upd_other _ _ _ _ e]
          exact ⟨xs, g1, g2⟩
end Go.Proofs.Ytfghkpahbfpejaa
