import Derived.Test.YtdlibnjgmdffnaaGreatFn6
/-
  A free block is taken again.
-/
namespace Go.Proofs.YtdlibnjgmdffnaaGreat
open Go.RowKit Go.Shelf

/-- An empty list of free blocks. -/
theorem again_empty {w : World} {p : Nat} {c : AR} {d : AD} (h : ArenaAt w p c d) (n : Nat) (hn : n ≤ 134217728) (hf : d.fm (n : Int) = some []) :
    Calls Tryz.prog 96 #[.pointer (some ⟨p, 0, none⟩), .int .i64 (n : Int)] w fun e w' => e = .returned (.tuple #[.int .i64 0, .bool false]) ∧ w' = w := by
  obtain ⟨b, ys, hb, hp, ha, _⟩ := h.heaps.block_of hf
  have e := List.Perm.eq_nil hp
  subst e
  have c5 := h.cell5
  have hl := look_ptr (w := w) Tryz.underlying3 Tryz.underlying53 (Tryz.zeroP w) h.free (x := (n : Int)) (fitsI_mk (by omega) (by omega))
  rw [hb] at hl
  simp only [Option.map_some] at hl
  have hL := low_len ha
  simp only [List.length_nil] at hL
  clear h ha
  go_enter Tryz.func96, Tryz.ntmps96
  go_wp2_with fail
  refine hL.mono ?_
  rintro e w1 ⟨rfl, rfl⟩
  clear hL
  go_wp2_with fail
  go_ret2
  exact ⟨rfl, rfl⟩

/-- The lowest of a list of free blocks, zeroed. -/
def AD.popped (d : AD) (n : Nat) (z : Nat) (r : List Int) : AD := (d.freed (n : Int) r).bytes (splice d.bs z (zeros n))
def AgainPost (w : World) (p : Nat) (c : AR) (d : AD) (n z : Nat) (r : List Int) (e : Ending) (w' : World) : Prop :=
  e = .returned (.tuple #[.int .i64 (z : Int), .bool true]) ∧ ∃ c', ArenaAt w' p c' (d.popped n z r) ∧ Keeps w w' (c.foot p) ∧ ∀ k, c'.foot p k → c.foot p k ∨ w.heap.size ≤ k

set_option maxRecDepth 100000 in
set_option maxHeartbeats 1000000 in
theorem again_some {w : World} {p : Nat} {c : AR} {d : AD} (h : ArenaAt w p c d) (n z : Nat) (r : List Int) (hn : n ≤ 134217728) (hf : d.fm (n : Int) = some ((z : Int) :: r)) (hs : ((z : Int) :: r).Pairwise (· < ·)) (hl : r.length < 134217728) (hz : z + n ≤ d.bs.length) :
    Calls Tryz.prog 96 #[.pointer (some ⟨p, 0, none⟩), .int .i64 (n : Int)] w fun e w' => AgainPost w p c d n z r e w' := by
  obtain ⟨b, ys, hb, hp, ha, hh⟩ := h.heaps.block_of hf
  have hyl : ys.length = r.length + 1 := by rw [hp.length_eq]; simp
  have c5 := h.cell5
  have hlk := look_ptr (w := w) Tryz.underlying3 Tryz.underlying53 (Tryz.zeroP w) h.free (x := (n : Int)) (fitsI_mk (by omega) (by omega))
  rw [hb] at hlk
  simp only [Option.map_some] at hlk
  have hL := low_len ha
  have hne : (((ys.length : Nat) : Int) == 0) = false := by simp; intro e; rw [e] at hyl; simp at hyl
  have hlI : ((ys.length : Nat) : Int) ≤ 134217728 := by omega
  have hP : Calls Tryz.prog 110 #[.iface 130 (.pointer (some ⟨b, 0, none⟩))] w fun e w' => e = .returned (.iface 3 (.int .i64 (z : Int))) ∧ ∃ c', ArenaAt w' p c' (d.freed (n : Int) r) ∧ Keeps w w' (c.foot p) ∧ ∀ k, c'.foot p k → c.foot p k ∨ w.heap.size ≤ k := by
    refine (heap_pop ha hh (by omega) (by omega)).mono ?_
    rintro e w' ⟨m, rfl, hmin, us, hperm, hu, ht⟩
    have hmm : m ∈ (z : Int) :: r := hp.mem_iff.1 (hperm.mem_iff.1 (by simp))
    have hzm := hmin (z : Int) (hp.mem_iff.2 (by simp))
    have hm : m = (z : Int) := by
      rcases List.mem_cons.1 hmm with e | e
      · exact e
      · have := (List.pairwise_cons.1 hs).1 m e
        omega
    subst hm
    obtain ⟨v', h1, h2, h3⟩ := h.heap_turned' hb hu ht
    refine ⟨rfl, _, h1 r ?_, h2, h3⟩
    have h5 : (us ++ [(z : Int)]).Perm ((z : Int) :: r) := hperm.trans hp
    have h6 : ((z : Int) :: us).Perm ((z : Int) :: r) := (List.perm_append_singleton _ _).symm.trans h5
    exact (List.perm_cons _).1 h6
  have hta : ∀ w', Sem.run Tryz.prog (Instr.typeAssert (.iface 3 (.int .i64 (z : Int))) 20 3 false) w' = .ok (.int .i64 (z : Int)) w' := fun _ => by kernel_rfl
  clear h ha hh hp hs hf
  go_enter Tryz.func96, Tryz.ntmps96
  go_wp2_with fail
  refine hL.mono ?_
  rintro e w1 ⟨rfl, rfl⟩
  clear hL
  go_wp2_with fail
  refine hP.mono ?_
  rintro e w2 ⟨rfl, c', h2, k2, f2⟩
  clear hP
  have c2 := h2.cell2
  have hFi := fill_yes w2 c'.b c'.g d.bs c'.sp h2.mem z n hz 0
  go_wp2_with fail
  refine hFi.mono ?_
  intro e w3 hp3
  have hfin : AgainPost w1 p c d n z r (.returned (.tuple #[.int .i64 (z : Int), .bool true])) w3 := by
    refine ⟨rfl, c', ?_, ?_, f2⟩
    · have := h2.wrote hp3.2.1 hp3.2.2
      simpa [AD.popped, AD.bytes, same, zeros] using this
    · refine k2.trans hp3.2.2 (fun i hi e => ?_)
      rcases f2 i (Or.inr (Or.inr (Or.inl e))) with e | e
      · exact e
      · omega
  have he := hp3.1
  subst he
  have HF := hide hfin
  clear hFi hp3 hfin h2 k2 f2 c2
  go_wp2_with fail
  go_ret2
  exact HF.out
end Go.Proofs.YtdlibnjgmdffnaaGreat
namespace Go.Proofs.YtdlibnjgmdffnaaGreat
open Go.RowKit Go.Shelf

/-- The lowest free block of a class is live again. -/
def AD.retook (d : AD) (n z : Nat) (r : List Int) : AD := (d.popped n z r).entered z n

set_option maxHeartbeats 1000000 in
theorem take_again {w : World} {p : Nat} {F : Nat → Prop} {d : AD} (h : Arena w p F d) (hF : d.Fine) (n z : Nat) (r : List Int) (hn : n ≤ 134217728) (hf : d.fm (n : Int) = some ((z : Int) :: r)) (hs : ((z : Int) :: r).Pairwise (· < ·)) (hl : r.length < 134217728) (hz : z + n ≤ d.bs.length) :
    Calls Tryz.prog 74 #[.pointer (some ⟨p, 0, none⟩), .int .i64 (n : Int)] w fun e w' => TakePost w p F z (d.retook n z r) e w' := by
  obtain ⟨c, h, hfo⟩ := h
  have hu : d.used ≤ 134217728 := by have := hF.use; have := hF.lim; omega
  have hm := hF.most
  have hLl : d.L.length ≤ 134217728 := by have := tiles_length hF.tiles; omega
  have hA := again_some h n z r hn hf hs hl hz
  have hkb := hF.keys_begins
  clear hs hf hF
  go_enter Tryz.func74, Tryz.ntmps74
  go_wp2_with fail
  refine hA.mono ?_
  rintro e w2 ⟨rfl, c', h2, k2, f2⟩
  clear hA
  have h2 : ArenaAt w2 p { c' with nl := d.begins.length } (d.popped n z r) := { h2 with live := h2.live.tight Tryz.underlying3 d.begins hkb }
  have hE := enter_any h2 z n (by omega) hn hu (by simp [AD.begins_length]; omega)
  go_wp2_with fail
  refine hE.mono ?_
  rintro e w3 ⟨rfl, _, k3, hp3, hl3⟩
  clear hE
  have hfin : TakePost w p F z (d.retook n z r) (.returned (.int .i64 (z : Int))) w3 := by
    have hin : ∀ j, j < w.heap.size → ({ c' with nl := d.begins.length } : AR).foot p j → F j := fun j hj e => by
      rcases f2 j e with e | e
      · exact hfo j e
      · omega
    have kF : Keeps w w3 F := (k2.mono (fun i _ e => hfo i e)).trans k3 (fun i hi e => hin i hi (by
      rcases e with e | e
      · exact Or.inl e
      · exact Or.inr (Or.inr (Or.inr (Or.inl e)))))
    refine ⟨rfl, ⟨{ c' with nl := d.begins.length + 1 }, ⟨?_, ?_, ?_, hl3, ?_, h2.hlf, ?_⟩, fun k hk => ?_⟩, kF⟩
    · exact hp3
    · exact h2.mem.keeps k3 (fun e => by rcases e with e | e; exact h2.p_b e.symm; exact h2.bl_b e.symm) (fun e => by rcases e with e | e; exact h2.p_g e.symm; exact h2.bl_g e.symm)
    · exact ownsRow_keeps h2.beg k3 (fun k hk e => by rcases e with e | e; exact h2.p_v hk e.symm; exact h2.bl_v hk e.symm)
    · exact h2.free.keeps k3 (fun e => by rcases e with e | e; exact h2.p_bf e.symm; exact h2.hlf e.symm)
    · exact h2.heaps.keeps k3 (fun i hi e => by rcases e with e | e; exact (h2.heap_ne hi).1 e; exact (h2.heap_ne hi).2.2.2.1 e)
    · rcases f2 k hk with e | e
      · exact Or.inl (hfo k e)
      · exact Or.inr e
  have HF := hide hfin
  clear h h2 k2 f2 k3 hp3 hl3 hfo hfin hkb
  go_wp2_with fail
  go_ret
  exact HF.out

/-- An empty list: a new block. -/
theorem take_empty {w : World} {p : Nat} {c : AR} {d : AD} (h : ArenaAt w p c d) (n : Nat) (hn : n ≤ 134217728) (hf : d.fm (n : Int) = none ∨ d.fm (n : Int) = some []) :
    Calls Tryz.prog 96 #[.pointer (some ⟨p, 0, none⟩), .int .i64 (n : Int)] w fun e w' => e = .returned (.tuple #[.int .i64 0, .bool false]) ∧ w' = w := by
  rcases hf with hf | hf
  · exact again_none h n hn hf
  · exact again_empty h n hn hf
end Go.Proofs.YtdlibnjgmdffnaaGreat
namespace Go.Proofs.YtdlibnjgmdffnaaGreat
open Go.RowKit Go.Shelf

set_option maxHeartbeats 1000000 in
theorem take_more {w : World} {p : Nat} {F : Nat → Prop} {d : AD} (h : Arena w p F d) (hF : d.Fine) (n : Nat) (hn : d.bs.length + n ≤ 134217728) (hf : d.fm (n : Int) = none ∨ d.fm (n : Int) = some []) :
    Calls Tryz.prog 74 #[.pointer (some ⟨p, 0, none⟩), .int .i64 (n : Int)] w fun e w' => TakePost w p F d.bs.length (d.took n) e w' := by
  obtain ⟨c, h, hfo⟩ := h
  have hL : d.L.length ≤ 134217728 := by have := tiles_length hF.tiles; have := hF.most; omega
  have hu : d.used ≤ 134217728 := by have := hF.use; have := hF.lim; omega
  have hA := take_empty h n (by omega) hf
  have hadd := add_any h n hn hL
  go_enter Tryz.func74, Tryz.ntmps74
  go_wp2_with fail
  refine hA.mono ?_
  rintro e w1 ⟨rfl, rfl⟩
  clear hA
  go_wp2_with fail
  refine hadd.mono ?_
  rintro e w2 ⟨g, v, sp, rfl, h2, k2, hg, hv⟩
  clear hadd
  have h2 : ArenaAt w2 p { c with g := g, v := v, sp := sp, nl := d.begins.length } (d.added n) := { h2 with live := h2.live.tight Tryz.underlying3 d.begins (hF.keys_begins) }
  have hE := enter_any h2 d.bs.length n (by omega) (by omega) (by simpa [AD.added] using hu) (by simp [AD.begins_length]; omega)
  go_wp2_with fail
  refine hE.mono ?_
  rintro e w3 ⟨rfl, _, k3, hp3, hl3⟩
  clear hE
  have hfin : TakePost w1 p F d.bs.length (d.took n) (.returned (.int .i64 (d.bs.length : Int))) w3 := by
    have kF : Keeps w1 w3 F := (k2.mono (fun i _ e => hfo i e)).trans k3 (fun i hi e => by
      rcases e with rfl | rfl
      · exact hfo _ (Or.inl rfl)
      · exact hfo _ (Or.inr (Or.inr (Or.inr (Or.inl rfl)))))
    refine ⟨rfl, ⟨{ c with g := g, v := v, sp := sp, nl := d.begins.length + 1 }, ⟨?_, ?_, ?_, hl3, ?_, h.hlf, ?_⟩, ?_⟩, kF⟩
    · exact hp3
    · exact h2.mem.keeps k3 (fun e => by rcases e with e | e; exact h2.p_b e.symm; exact h2.bl_b e.symm) (fun e => by rcases e with e | e; exact h2.p_g e.symm; exact h2.bl_g e.symm)
    · exact ownsRow_keeps h2.beg k3 (fun k hk e => by rcases e with e | e; exact h2.p_v hk e.symm; exact h2.bl_v hk e.symm)
    · exact h2.free.keeps k3 (fun e => by rcases e with e | e; exact h2.p_bf e.symm; exact h2.hlf e.symm)
    · exact h2.heaps.keeps k3 (fun i hi e => by rcases e with e | e; exact (h2.heap_ne hi).1 e; exact (h2.heap_ne hi).2.2.2.1 e)
    · intro k hk
      rcases hk with e | e | e | e | e | e | e
      · exact Or.inl (hfo k (Or.inl e))
      · exact Or.inl (hfo k (Or.inr (Or.inl e)))
      · have e' : k = g := e
        rcases hg with hg | hg
        · exact Or.inl (hfo k (Or.inr (Or.inr (Or.inl (e'.trans hg)))))
        · exact Or.inr (by omega)
      · exact Or.inl (hfo k (Or.inr (Or.inr (Or.inr (Or.inl e)))))
      · exact Or.inl (hfo k (Or.inr (Or.inr (Or.inr (Or.inr (Or.inl e))))))
      · have e' : v.ownBlock = some k := e
        rcases hv with hv | ⟨k', hv, hk'⟩
        · exact Or.inl (hfo k (Or.inr (Or.inr (Or.inr (Or.inr (Or.inr (Or.inl (hv ▸ e'))))))))
        · rw [hv] at e'
          cases e'
          exact Or.inr hk'
      · exact Or.inl (hfo k (Or.inr (Or.inr (Or.inr (Or.inr (Or.inr (Or.inr e)))))))
  clear h h2 k2 k3 hp3 hl3 hg hv hfo hF hf
  go_wp2_with fail
  go_ret
  exact hfin

/-- What take does: the lowest free block of the class, or a new one. -/
def listT (d : AD) (c : Nat) : Nat × AD := match d.fm (c : Int) with
  | some (z :: r) => (z.toNat, d.retook c z.toNat r)
  | _ => (d.bs.length, d.took c)
/-- The lists rise. -/
def AD.rises (d : AD) : Prop := ∀ x xs, d.fm x = some xs → xs.Pairwise (· < ·)

theorem take_list {w : World} {p : Nat} {F : Nat → Prop} {d : AD} (h : Arena w p F d) (hF : d.Fine) (hR : d.rises) (c : Nat) (hc : d.bs.length + c ≤ 134217728) :
    Calls Tryz.prog 74 #[.pointer (some ⟨p, 0, none⟩), .int .i64 (c : Int)] w fun e w' => TakePost w p F (listT d c).1 (listT d c).2 e w' := by
  unfold listT
  cases hf : d.fm (c : Int) with
  | none => exact take_more h hF c hc (Or.inl hf)
  | some xs =>
    cases xs with
    | nil => exact take_more h hF c hc (Or.inr hf)
    | cons z r =>
      have hs := hR _ _ hf
      obtain ⟨_, y, hy, e1, e2⟩ := hF.free.mem _ _ hf z (by simp)
      have ht := tiles_mem hF.tiles hy
      obtain ⟨z', rfl⟩ : ∃ z' : Nat, z = (z' : Int) := ⟨y.1, e1⟩
      have hlen := length_le_of_subset (hF.free.nodup _ _ hf) (l := d.begins) (fun q hq => by
        obtain ⟨_, t, ht, e, _⟩ := hF.free.mem _ _ hf q hq
        exact List.mem_map.2 ⟨t, ht, e.symm⟩)
      rw [AD.begins_length] at hlen
      have hL := tiles_length hF.tiles
      have hm := hF.most
      simp only [Int.toNat_natCast]
      exact take_again h hF c z' r (by omega) hf hs (by simp at hlen; omega) (by omega)
end Go.Proofs.YtdlibnjgmdffnaaGreat
/-
  What taking and freeing keep of the data.
-/
namespace Go.Proofs.YtdlibnjgmdffnaaGreat
open Go.RowKit Go.Shelf

theorem lt_of_le_nodup {xs : List Int} (h : xs.Pairwise (· ≤ ·)) (n : xs.Nodup) : xs.Pairwise (· < ·) :=
  (List.Pairwise.and h (List.nodup_iff_pairwise_ne.1 n)).imp (fun {a b} e => by have := e.1; have := e.2; omega)
theorem AD.rises.gone {d d' : AD} (hR : d.rises) (F : d.Fine) {z : Int} (hg : Gone d z d') : d'.rises := by
  have F' := F.gone hg
  obtain ⟨s, hz, rfl⟩ := hg
  intro x xs hx
  have hnd := F'.free.nodup x xs hx
  have hx : upd d.fm (s : Int) (some (rising ((d.fm (s : Int)).getD [] ++ [z]))) x = some xs := hx
  by_cases e : x = (s : Int)
  · subst e
    rw [upd_same] at hx
    cases hx
    exact lt_of_le_nodup (rising_sorted _) hnd
  · rw [upd_other _ _ _ _ e] at hx
    exact hR x xs hx
theorem AD.rises.gones : ∀ {d : AD} {zs : List Int} {d' : AD}, d.rises → d.Fine → Gones d zs d' → d'.rises
  | _, [], _, hR, _, h => by cases h; exact hR
  | _, _ :: _, _, hR, F, ⟨_, h1, h2⟩ => (hR.gone F h1).gones (F.gone h1) h2
theorem AD.rises.took {d : AD} (hR : d.rises) (n : Nat) : (d.took n).rises := hR
theorem AD.retook_fm (d : AD) (n z : Nat) (r : List Int) : (d.retook n z r).fm = upd d.fm (n : Int) (some r) := rfl
theorem AD.retook_lv (d : AD) (n z : Nat) (r : List Int) : (d.retook n z r).lv = upd d.lv (z : Int) (some (n : Int)) := rfl
theorem AD.retook_L (d : AD) (n z : Nat) (r : List Int) : (d.retook n z r).L = d.L := rfl
theorem AD.retook_used (d : AD) (n z : Nat) (r : List Int) : (d.retook n z r).used = d.used + n := rfl
theorem AD.retook_bs (d : AD) (n z : Nat) (r : List Int) : (d.retook n z r).bs = splice d.bs z (zeros n) := rfl
theorem AD.rises.retook {d : AD} (hR : d.rises) {n z : Nat} {r : List Int} (hf : d.fm (n : Int) = some ((z : Int) :: r)) : (d.retook n z r).rises := by
  intro x xs hx
  rw [AD.retook_fm] at hx
  by_cases e : x = (n : Int)
  · subst e
    rw [upd_same] at hx
    cases hx
    exact (List.pairwise_cons.1 (hR _ _ hf)).2
  · rw [upd_other _ _ _ _ e] at hx
    exact hR x xs hx
theorem AD.Fine.retook {d : AD} (F : d.Fine) {n z : Nat} {r : List Int} (hf : d.fm (n : Int) = some ((z : Int) :: r)) (h2 : d.used + n ≤ d.limit) : (d.retook n z r).Fine := by
  obtain ⟨hlz, y, hy, e1, e2⟩ := F.free.mem _ _ hf (z : Int) (by simp)
  have hyz : y = (z, n) := by
    cases y
    simp at e1 e2 ⊢
    omega
  subst hyz
  have ht := tiles_mem F.tiles hy
  have hlen : (splice d.bs z (zeros n)).length = d.bs.length := splice_length (by rw [zeros_length]; exact ht.2.2)
  have hback : ∀ x, upd (upd d.lv (z : Int) (some (n : Int))) (z : Int) none x = d.lv x := fun x => by
    by_cases e : x = (z : Int)
    · rw [e, upd_same, hlz]
    · rw [upd_other _ _ _ _ e, upd_other _ _ _ _ e]
  have hnd := List.nodup_cons.1 (F.free.nodup _ _ hf)
  refine ⟨?_, fun x s hx => ?_, ?_, F.lim, h2, ?_, ?_⟩
  · rw [AD.retook_L, AD.retook_bs, hlen]
    exact F.tiles
  · rw [AD.retook_lv] at hx
    by_cases e : x = (z : Int)
    · subst e
      rw [upd_same] at hx
      cases hx
      exact ⟨z, n, rfl, rfl, hy⟩
    · rw [upd_other _ _ _ _ e] at hx
      exact F.live x s hx
  · rw [AD.retook_bs, hlen]
    exact F.most
  · rw [AD.retook_used, AD.retook_L, AD.retook_lv, liveSum_gone (lv := upd d.lv (z : Int) (some (n : Int))) F.tiles hy (by rw [upd_same]; rfl), F.sum]
    congr 1
    exact liveSum_congr (fun x _ => by rw [hback])
  · rw [AD.retook_L, AD.retook_lv, AD.retook_fm]
    have hother : ∀ x xs, upd d.fm (n : Int) (some r) x = some xs → ∃ ys, d.fm x = some ys ∧ ∀ q ∈ xs, q ∈ ys ∧ q ≠ (z : Int) := fun x xs hx => by
      by_cases e : x = (n : Int)
      · subst e
        rw [upd_same] at hx
        cases hx
        exact ⟨_, hf, fun q hq => ⟨by simp [hq], fun e => hnd.1 (e ▸ hq)⟩⟩
      · rw [upd_other _ _ _ _ e] at hx
        refine ⟨xs, hx, fun q hq => ⟨hq, fun e2 => ?_⟩⟩
        obtain ⟨_, t, ht, g1, g2⟩ := F.free.mem x xs hx q hq
        have := tiles_unique F.tiles ht hy (by simp; omega)
        subst this
        exact e g2
    refine ⟨fun x xs hx => ?_, fun x xs hx => ?_, fun x xs hx q hq => ?_, fun t ht hl => ?_⟩
    · by_cases e : x = (n : Int)
      · subst e
        rw [upd_same] at hx
        cases hx
        exact hnd.2
      · rw [upd_other _ _ _ _ e] at hx
        exact F.free.nodup x xs hx
    · obtain ⟨ys, h1, _⟩ := hother x xs hx
      exact F.free.size x ys h1
    · obtain ⟨ys, h1, h3⟩ := hother x xs hx
      obtain ⟨g1, t, g2⟩ := F.free.mem x ys h1 q (h3 q hq).1
      exact ⟨by rw [upd_other _ _ _ _ (h3 q hq).2]; exact g1, t, g2⟩
    · by_cases e0 : ((t.1 : Nat) : Int) = (z : Int)
      · rw [e0, upd_same] at hl
        cases hl
      · rw [upd_other _ _ _ _ e0] at hl
        obtain ⟨xs, g1, g2⟩ := F.free.all t ht hl
        by_cases e : ((t.2 : Nat) : Int) = (n : Int)
        · rw [e, upd_same]
          rw [e, hf] at g1
          cases g1
          rcases List.mem_cons.1 g2 with g | g
          · exact absurd g e0
          · exact ⟨r, rfl, g⟩
        · rw [upd_other _ _ _ _ e]
          exact ⟨xs, g1, g2⟩
end Go.Proofs.YtdlibnjgmdffnaaGreat
/-
  The memory is never too small.
-/
namespace Go.Proofs.YtdlibnjgmdffnaaGreat
open Go.RowKit Go.Shelf

/-- The bytes of all blocks of the class c. -/
def classSum (L : List (Nat × Nat)) (c : Nat) : Nat := (L.map (fun x => if x.2 = c then x.2 else 0)).sum
theorem classSum_cons (x : Nat × Nat) (L : List (Nat × Nat)) (c : Nat) : classSum (x :: L) c = (if x.2 = c then x.2 else 0) + classSum L c := by simp [classSum]
theorem classSum_append (L M : List (Nat × Nat)) (c : Nat) : classSum (L ++ M) c = classSum L c + classSum M c := by simp [classSum]
theorem tiles_end : ∀ {s : Nat} {L : List (Nat × Nat)} {e : Nat}, Tiles s L e → e = s + (L.map Prod.snd).sum
  | _, [], _, h => by rw [Tiles] at h; simp; omega
  | _, _ :: _, _, h => by have := tiles_end h.2.2; simp; omega
theorem sum_add (l : List Nat) (f g : Nat → Nat) : (l.map (fun c => f c + g c)).sum = (l.map f).sum + (l.map g).sum := by
  induction l with
  | nil => rfl
  | cons a r ih => simp [ih]; omega
theorem le_sum {l : List Nat} {f : Nat → Nat} {c : Nat} (h : c ∈ l) : f c ≤ (l.map f).sum := by
  induction l with
  | nil => cases h
  | cons a r ih =>
    rcases List.mem_cons.1 h with rfl | h
    · simp
    · have := ih h
      simp
      omega
theorem sum_le {l : List Nat} {f : Nat → Nat} {m : Nat} (h : ∀ c, f c ≤ m) : (l.map f).sum ≤ l.length * m := by
  induction l with
  | nil => simp
  | cons a r ih =>
    have := h a
    simp [Nat.succ_mul]
    omega
theorem sizes_le : ∀ {L : List (Nat × Nat)}, (∀ y ∈ L, y.2 ∈ classList) → (L.map Prod.snd).sum ≤ (classList.map (classSum L)).sum
  | [], _ => by simp
  | x :: L, h => by
    have h1 := sizes_le (L := L) (fun y hy => h y (by simp [hy]))
    have h2 : classSum (x :: L) = fun c => (if x.2 = c then x.2 else 0) + classSum L c := by funext c; exact classSum_cons x L c
    rw [h2, sum_add]
    have h3 := le_sum (f := fun c => if x.2 = c then x.2 else 0) (h x (by simp))
    simp only [if_true] at h3
    simp only [List.map_cons, List.sum_cons]
    omega
/-- What taking and freeing keep. -/
structure AD.Well (d : AD) : Prop where
  rises : d.rises
  sizes : ∀ y ∈ d.L, y.2 ∈ classList
  most : ∀ c, classSum d.L c ≤ d.limit
theorem AD.Well.room {d : AD} (h : d.Well) (F : d.Fine) : d.bs.length ≤ 16 + 32 * d.limit := by
  have h1 := tiles_end F.tiles
  have h2 := sizes_le h.sizes
  have h3 := sum_le (l := classList) h.most
  have h4 : classList.length = 32 := by decide
  rw [h4] at h3
  omega
theorem live_class : ∀ {L : List (Nat × Nat)} {lv : Int → Option Int} {c : Nat}, (∀ y ∈ L, y.2 = c → (lv (y.1 : Int)).isSome = true) → classSum L c ≤ liveSum L lv
  | [], _, _, _ => by simp [classSum]
  | x :: L, lv, c, h => by
    have h1 := live_class (L := L) (lv := lv) (c := c) (fun y hy => h y (by simp [hy]))
    rw [classSum_cons, liveSum_cons]
    by_cases e : x.2 = c
    · rw [if_pos e, h x (by simp) e]
      simp
      omega
    · rw [if_neg e]
      omega
theorem AD.Well.took {d : AD} (h : d.Well) (F : d.Fine) {c : Nat} (hc : c ∈ classList) (hf : d.fm (c : Int) = none ∨ d.fm (c : Int) = some []) (h2 : d.used + c ≤ d.limit) : (d.took c).Well := by
  refine ⟨h.rises.took c, fun y hy => ?_, fun k => ?_⟩
  · rw [AD.took_L] at hy
    rcases List.mem_append.1 hy with hy | hy
    · exact h.sizes y hy
    · rw [List.mem_singleton.1 hy]
      exact hc
  · rw [AD.took_L, AD.took_limit, classSum_append, classSum_cons]
    have e0 : classSum [] k = 0 := rfl
    have hm := h.most k
    by_cases e : c = k
    · subst e
      have h3 : classSum d.L c ≤ liveSum d.L d.lv := live_class (fun y hy e => by
        cases hl : d.lv (y.1 : Int) with
        | some s => rfl
        | none =>
          obtain ⟨xs, g1, g2⟩ := F.free.all y hy hl
          rw [e] at g1
          rcases hf with hf | hf
          · rw [hf] at g1; cases g1
          · rw [hf] at g1; cases g1; cases g2)
      rw [← F.sum] at h3
      simp
      omega
    · simp [e]
      omega
theorem AD.Well.retook {d : AD} (h : d.Well) {n z : Nat} {r : List Int} (hf : d.fm (n : Int) = some ((z : Int) :: r)) : (d.retook n z r).Well := ⟨h.rises.retook hf, h.sizes, h.most⟩
theorem AD.Well.gone {d d' : AD} (h : d.Well) (F : d.Fine) {z : Int} (hg : Gone d z d') : d'.Well := by
  refine ⟨h.rises.gone F hg, ?_, ?_⟩
  · rw [hg.L]; exact h.sizes
  · rw [hg.L, hg.limit]; exact h.most
end Go.Proofs.YtdlibnjgmdffnaaGreat
/-
  take, whatever was freed.
-/
namespace Go.Proofs.YtdlibnjgmdffnaaGreat
open Go.RowKit Go.Shelf

theorem listOK : TakeOK listT AD.Well where
  call := fun {w p F d} c hG hF h _ _ h3 => by
    have h1 := hG.room hF
    have h2 := hF.lim
    exact take_list h hF hG.rises c (by omega)
  fine := fun {d} c hG hF hc _ h3 => by
    have h16 := (show ∀ c ∈ classList, 16 ≤ c by decide) c hc
    have h1 := hG.room hF
    have h2 := hF.lim
    have hnew : (d.fm (c : Int) = none ∨ d.fm (c : Int) = some []) → (d.took c).Fine ∧ (d.took c).Well ∧ (d.took c).used = d.used + c ∧ (d.took c).limit = d.limit ∧ d.bs.length ≤ 134217728 := fun hf =>
      ⟨hF.took (by omega) (by omega) h3, hG.took hF hc hf h3, rfl, rfl, by omega⟩
    unfold listT
    cases hf : d.fm (c : Int) with
    | none => exact hnew (Or.inl hf)
    | some xs =>
      cases xs with
      | nil => exact hnew (Or.inr hf)
      | cons z r =>
        obtain ⟨_, y, hy, e1, _⟩ := hF.free.mem _ _ hf z (by simp)
        obtain ⟨z', rfl⟩ : ∃ z' : Nat, z = (z' : Int) := ⟨y.1, e1⟩
        have ht := tiles_mem hF.tiles hy
        simp only [Int.toNat_natCast]
        exact ⟨hF.retook hf h3, hG.retook hf, rfl, rfl, by omega⟩
end Go.Proofs.YtdlibnjgmdffnaaGreat
namespace Go.Proofs.YtdlibnjgmdffnaaGreat
open Go.RowKit Go.Shelf

set_option maxRecDepth 100000 in
set_option maxHeartbeats 1000000 in
theorem allocAll_no {w : World} {p : Nat} {F : Nat → Prop} {d : AD} (h : Arena w p F d) (hF : d.Fine) (a : Option Addr) (cap : Nat) (zs : List Int) (hbig : zs.length ≤ 140737488355328) (hz : IntsAt w a zs) (x : Int) (hx : refE d zs = x) (hx0 : ¬ x = 0) :
    Calls Tryz.prog 42 #[.pointer (some ⟨p, 0, none⟩), .slice a zs.length cap] w fun e w' => e = .returned (.tuple #[.slice none 0 0, .int .i64 x]) ∧ Keeps w w' (fun _ => False) := by
  have hR : Calls Tryz.prog 73 #[.pointer (some ⟨p, 0, none⟩), .slice a zs.length cap] w fun e w' => RefPost w x e w' := by
    obtain ⟨c, hc, _⟩ := h
    have := refused_any hc hF a cap zs hbig hz
    rwa [hx] at this
  have hx1 : (x != 0) = true := by simpa using hx0
  clear hx hz
  go_enter Tryz.func42, Tryz.ntmps42
  go_wp2_with fail
  refine hR.mono ?_
  rintro e w1 ⟨rfl, k1⟩
  clear hR
  go_wp2_with fail
  go_ret2
  exact ⟨rfl, k1⟩

set_option maxRecDepth 100000 in
set_option maxHeartbeats 1000000 in
theorem alloc_no {w : World} {p : Nat} {F : Nat → Prop} {d : AD} (h : Arena w p F d) (hF : d.Fine) (n : Nat) (h1 : 1 ≤ n) (h2 : n ≤ 1048576) (h3 : d.limit < d.used + classN n) :
    Calls Tryz.prog 16 #[.pointer (some ⟨p, 0, none⟩), .int .i64 (n : Int)] w fun e w' => e = .returned (.tuple #[.int .i64 0, .int .i64 22]) ∧ Keeps w w' (fun _ => False) := by
  have hcn : classI (n : Int) = (classN n : Int) := by unfold classI; rw [if_pos (by omega)]; simp
  have hu := hF.use
  have hE : refE d [(n : Int)] = 22 := by
    unfold refE
    have ha : allOne [(n : Int)] := fun z hz => by simp at hz; omega
    rw [if_pos ha]
    have hf : fitsIn ((d.limit : Int) - (d.used : Int)) [(n : Int)] = false := by
      simp only [fitsIn]
      rw [if_pos (by rw [hcn]; omega)]
    rw [hf]
    rfl
  have k0 : Keeps w (w.alloc (.cells #[.int .i64 (n : Int)] 3)) (fun _ => False) := (Keeps.refl _ _).alloc _
  have hA := allocAll_no (h.keeps k0 (fun _ _ _ e => e)) hF (some ⟨w.heap.size, 0, none⟩) 1 [(n : Int)] (by simp) (fun j hj => by
    have hj0 : j = 0 := by simpa using hj
    subst hj0
    refine ⟨w.heap.size, 0, rfl, ?_⟩
    simp only [World.cell?, heap_alloc_new]
    simp) 22 hE (by omega)
  simp only [List.length_cons, List.length_nil, Nat.zero_add] at hA
  clear hE h hF
  go_enter Tryz.func16, Tryz.ntmps16
  go_wp2_with fail
  refine hA.mono ?_
  rintro e w2 ⟨rfl, k2⟩
  clear hA
  go_wp2_with fail
  go_ret2
  exact ⟨rfl, k0.trans k2 (fun _ _ e => e)⟩
end Go.Proofs.YtdlibnjgmdffnaaGreat
/-
  Alloc of whatever number, Free of whatever one offset, in an arena that a statement made.
-/
namespace Go.Proofs.YtdlibnjgmdffnaaGreat
open Go.RowKit Go.Shelf
set_option linter.unusedVariables false

set_option maxRecDepth 100000 in
set_option maxHeartbeats 1000000 in
theorem alloc_ref {w : World} {p : Nat} {F : Nat → Prop} {d : AD} (h : Arena w p F d) (hF : d.Fine) (n x : Int) (hE : refE d [n] = x) (hx0 : ¬ x = 0) :
    Calls Tryz.prog 16 #[.pointer (some ⟨p, 0, none⟩), .int .i64 n] w fun e w' => e = .returned (.tuple #[.int .i64 0, .int .i64 x]) ∧ Keeps w w' (fun _ => False) := by
  have k0 : Keeps w (w.alloc (.cells #[.int .i64 n] 3)) (fun _ => False) := (Keeps.refl _ _).alloc _
  have hA := allocAll_no (h.keeps k0 (fun _ _ _ e => e)) hF (some ⟨w.heap.size, 0, none⟩) 1 [n] (by simp) (fun j hj => by
    have hj0 : j = 0 := by simpa using hj
    subst hj0
    refine ⟨w.heap.size, 0, rfl, ?_⟩
    simp only [World.cell?, heap_alloc_new]
    simp) x hE hx0
  simp only [List.length_cons, List.length_nil, Nat.zero_add] at hA
  have hx1 : (x != 0) = true := by simpa using hx0
  clear hE h hF
  go_enter Tryz.func16, Tryz.ntmps16
  go_wp2_with fail
  refine hA.mono ?_
  rintro e w2 ⟨rfl, k2⟩
  clear hA
  go_wp2_with fail
  go_ret2
  exact ⟨rfl, k0.trans k2 (fun _ _ e => e)⟩

theorem refE_no {d : AD} {n : Int} (h : n < 1) : refE d [n] = 21 := by
  unfold refE
  rw [if_neg (fun ha => by have := ha n (by simp); omega)]
theorem refE_yes {d : AD} {n : Int} (h : refE d [n] = 0) : 1 ≤ n ∧ n ≤ 1048576 ∧ (d.used : Int) + classI n ≤ d.limit := by
  by_cases h1 : n < 1
  · rw [refE_no h1] at h
    cases h
  · unfold refE at h
    have ha : allOne [n] := fun z hz => by simp at hz; omega
    rw [if_pos ha] at h
    by_cases hc : classI n = 0 ∨ (d.limit : Int) - (d.used : Int) < classI n
    · have hf : fitsIn ((d.limit : Int) - (d.used : Int)) [n] = false := by
        simp only [fitsIn]
        rw [if_pos hc]
      rw [hf] at h
      simp at h
    · have h0 : classI n ≠ 0 := fun e => hc (Or.inl e)
      refine ⟨by omega, ?_, by have : ¬ (d.limit : Int) - (d.used : Int) < classI n := fun e => hc (Or.inr e); omega⟩
      refine Int.not_lt.1 fun hb => h0 ?_
      unfold classI
      rw [if_neg (by omega)]

/-- Alloc of whatever number: refused, or taken. -/
theorem own_alloc_any {w w1 : World} {p : Nat} {X : Nat → Prop} {d : AD} (h : Own w w1 p X d) (hF : d.Fine) (hW : d.Well) (n : Int) :
    Calls Tryz.prog 16 #[.pointer (some ⟨p, 0, none⟩), .int .i64 n] w1 fun e w' =>
      (refE d [n] ≠ 0 ∧ e = .returned (.tuple #[.int .i64 0, .int .i64 (refE d [n])]) ∧ Keeps w1 w' (fun _ => False)) ∨
      (refE d [n] = 0 ∧ 1 ≤ n ∧ n ≤ 1048576 ∧ d.used + classN n.toNat ≤ d.limit ∧ AllocPost w1 p (fun k => (w.heap.size ≤ k ∧ ¬ X k) ∧ k < w1.heap.size) (listT d (classN n.toNat)).1 (listT d (classN n.toNat)).2 e w') := by
  by_cases h0 : refE d [n] = 0
  · obtain ⟨a1, a2, a3⟩ := refE_yes h0
    obtain ⟨m, rfl⟩ := Int.eq_ofNat_of_zero_le (show 0 ≤ n by omega)
    have hcn : classI (m : Int) = (classN m : Int) := by unfold classI; rw [if_pos (by omega)]; simp
    have a4 : d.used + classN m ≤ d.limit := by omega
    refine (own_alloc h hF listOK hW m (by omega) (by omega) a4).mono fun e w' hp => ?_
    exact Or.inr ⟨h0, a1, a2, by simpa using a4, by simpa using hp⟩
  · exact (alloc_ref h.arena hF n _ rfl h0).mono fun e w' hp => Or.inl ⟨h0, hp.1, hp.2⟩

/-- Free of whatever one offset. -/
theorem own_free_any {w w1 : World} {p : Nat} {X : Nat → Prop} {d : AD} (h : Own w w1 p X d) (hF : d.Fine) (z : Int) (hz : fitsI z) (hX : ∀ k, X k → k < w1.heap.size) :
    Calls Tryz.prog 46 #[.pointer (some ⟨p, 0, none⟩), .slice (some ⟨w1.heap.size, 0, none⟩) 1 1] (w1.alloc (.cells #[.int .i64 z] 3)) fun e w' =>
      (∃ s d', d.lv z = some s ∧ e = .returned (.int .i64 0) ∧ Gone d z d' ∧ Own w w' p X d' ∧ Keeps w1 w' (fun k => (w.heap.size ≤ k ∧ ¬ X k) ∧ k < w1.heap.size)) ∨
      (d.lv z = none ∧ e = .returned (.int .i64 23) ∧ Own w w' p X d ∧ Keeps w1 w' (fun _ => False)) := by
  cases hl : d.lv z with
  | some s =>
    refine (own_free1 h hF z s hl hX).mono fun e w' hp => ?_
    obtain ⟨he, d', hg, ho, hk⟩ := hp
    exact Or.inl ⟨s, d', rfl, he, hg, ho, hk⟩
  | none =>
    have k0 : Keeps w1 (w1.alloc (.cells #[.int .i64 z] 3)) (fun _ => False) := (Keeps.refl _ _).alloc _
    have hr : rising [z] = [z] := by simp [rising]
    have hf := free_any (w := w1.alloc (.cells #[.int .i64 z] 3)) (h.here.keeps k0 (fun _ _ _ e => e)) (fun k hk => by have := hk.2; simp; omega) hF (some ⟨w1.heap.size, 0, none⟩) 1 [z] (by simp) (by simp) (fun y hy => by
      simp at hy
      subst hy
      exact hz) (Or.inr ⟨w1.heap.size, 0, rfl, by simp, fun j hj => by
        have hj0 : j = 0 := by simpa using hj
        subst hj0
        simp only [World.cell?, heap_alloc_new]
        simp⟩)
    rw [hr] at hf
    refine hf.mono fun e w2 hp => ?_
    rcases hp with ⟨hg, _⟩ | ⟨_, rfl, hk⟩
    · have := (hg 0 (by simp)).1
      simp [at0, hl] at this
    · have k2 := k0.trans hk (fun _ _ e => e)
      exact Or.inr ⟨rfl, rfl, h.stay k2, k2⟩
end Go.Proofs.YtdlibnjgmdffnaaGreat
/-
  Free of none; Size.
-/
namespace Go.Proofs.YtdlibnjgmdffnaaGreat
open Go.RowKit Go.Shelf

set_option maxRecDepth 100000 in
set_option maxHeartbeats 4000000 in
theorem free_none {w : World} {p : Nat} (a : Option Addr) (cap : Nat) :
    Calls Tryz.prog 46 #[.pointer (some ⟨p, 0, none⟩), .slice a 0 cap] w fun e w' => e = .returned (.int .i64 0) ∧ Keeps w w' (fun _ => False) := by
  have hV := values_any a 0 cap w
  have hS : ∀ W, W = w.alloc (.cells #[.slice a 0 cap] 32) → Calls Tryz.prog 76 #[.func (.func 99) #[] #[.pointer (some ⟨w.heap.size, 0, none⟩)]] W fun e w' => e = .returned (.slice none 0 0) ∧ Keeps W w' (fun _ => False) := fun W hW => by
    subst hW
    refine (sorted_any w.heap.size a cap [] (by simp) _ (by simp) (by simp only [World.cell?, heap_alloc_new]; simp) (Or.inl rfl)).mono ?_
    rintro e w' ⟨v, rfl, _, hv, k⟩
    have := hv.2 (by simp [rising])
    subst this
    exact ⟨rfl, k⟩
  have kA : Keeps w (w.alloc (.cells #[.slice a 0 cap] 32)) (fun _ => False) := (Keeps.refl _ _).alloc _
  go_enter Tryz.func46, Tryz.ntmps46
  go_wp2_with fail
  refine hV.mono ?_
  rintro e wv ⟨rfl, hwv⟩
  clear hV
  have hS := hS wv hwv
  rw [← hwv] at kA
  clear hwv
  go_wp2_with fail
  refine hS.mono ?_
  rintro e w1 ⟨rfl, k1⟩
  clear hS
  have kw : Keeps w w1 (fun _ => False) := kA.trans k1 (fun _ _ e => e)
  clear k1 kA
  go_wp2_with fail
  go_loopw [16] (fun vi wr => vi = .int .i64 0 ∧ w1 = wr) (fun vi _ => 0)
  case atStart => exact ⟨rfl, rfl⟩
  case round =>
    obtain ⟨rfl, rfl⟩ := hrel
    go_wp2_with fail
    go_loopw [44] (fun vk wq => vk = .int .i64 0 ∧ w1 = wq) (fun vk _ => 0)
    case atStart => exact ⟨rfl, rfl⟩
    case round =>
      obtain ⟨rfl, rfl⟩ := hrel
      go_wp2_with fail
      go_ret
      exact ⟨rfl, kw⟩
end Go.Proofs.YtdlibnjgmdffnaaGreat
/-
  Parts: all blocks that ever were, as a list of its own.
-/
namespace Go.Proofs.YtdlibnjgmdffnaaGreat
open Go.RowKit Go.Shelf

theorem Tryz.infoPart : (Tryz.prog.info? 44).map (fun i => (i.zero, i.size, i.bytes)) = some (some (.agg #[.int .i64 0, .int .i64 0, .bool false]), 3, 24) := by kernel_rfl

/-- A row of N parts in the block q: the first k of them are told by L and lv. -/
structure PartRow (w : World) (q N k : Nat) (L : List (Nat × Nat)) (lv : Int → Option Int) (cs : Array Value) : Prop where
  hq : w.heap[q]? = some (.cells cs 44)
  size : cs.size = N * 3
  done : ∀ j (h : j < L.length), j < k → cs[j * 3]? = some (.int .i64 (L[j].1 : Int)) ∧ cs[j * 3 + 1]? = some (.int .i64 (L[j].2 : Int)) ∧ cs[j * 3 + 2]? = some (.bool (lv (L[j].1 : Int)).isSome)

theorem PartRow.has {w : World} {q N k : Nat} {L : List (Nat × Nat)} {lv : Int → Option Int} {cs : Array Value} (h : PartRow w q N k L lv cs) {i : Nat} (hi : i < N * 3) : ∃ v, w.cell? ⟨q, i, none⟩ = some v := by
  have : i < cs.size := by rw [h.size]; exact hi
  exact ⟨cs[i], by simp [World.cell?, h.hq, this]⟩
theorem PartRow.frozen {w : World} {q N k : Nat} {L : List (Nat × Nat)} {lv : Int → Option Int} {cs : Array Value} (h : PartRow w q N k L lv cs) (i : Nat) : w.frozen? ⟨q, i, none⟩ = false := by
  simp [World.frozen?, h.hq]

theorem set_cell_row {w : World} {q : Nat} {cs : Array Value} {t : TypeId} (h : w.heap[q]? = some (.cells cs t)) (i : Nat) (v : Value) : (w.setCell ⟨q, i, none⟩ v).heap[q]? = some (.cells (cs.setIfInBounds i v) t) := by
  have hlt := heap_lt h
  have hv := (Array.getElem?_eq_some_iff.1 h).2
  simp only [World.setCell, Array.getElem?_modify]
  simp [hlt, hv]
theorem PartRow.step {w : World} {q N k : Nat} {L : List (Nat × Nat)} {lv : Int → Option Int} {cs : Array Value} (h : PartRow w q N k L lv cs) (hk : k < L.length) (hN : k < N) (z : Int) (hz : z = (L[k].2 : Int)) :
    PartRow (((w.setCell ⟨q, k * 3, none⟩ (.int .i64 (L[k].1 : Int))).setCell ⟨q, k * 3 + 1, none⟩ (.int .i64 z)).setCell ⟨q, k * 3 + 2, none⟩ (.bool (lv (L[k].1 : Int)).isSome)) q N (k + 1) L lv
      (((cs.setIfInBounds (k * 3) (.int .i64 (L[k].1 : Int))).setIfInBounds (k * 3 + 1) (.int .i64 z)).setIfInBounds (k * 3 + 2) (.bool (lv (L[k].1 : Int)).isSome)) := by
  subst hz
  have hs := h.size
  refine ⟨set_cell_row (set_cell_row (set_cell_row h.hq _ _) _ _) _ _, by simp [hs], fun j hj hjk => ?_⟩
  rcases Nat.lt_or_ge j k with hlt | hge
  · obtain ⟨d0, d1, d2⟩ := h.done j hj hlt
    refine ⟨?_, ?_, ?_⟩
    · rw [Array.getElem?_setIfInBounds_ne (by omega), Array.getElem?_setIfInBounds_ne (by omega), Array.getElem?_setIfInBounds_ne (by omega)]
      exact d0
    · rw [Array.getElem?_setIfInBounds_ne (by omega), Array.getElem?_setIfInBounds_ne (by omega), Array.getElem?_setIfInBounds_ne (by omega)]
      exact d1
    · rw [Array.getElem?_setIfInBounds_ne (by omega), Array.getElem?_setIfInBounds_ne (by omega), Array.getElem?_setIfInBounds_ne (by omega)]
      exact d2
  · obtain rfl : j = k := by omega
    refine ⟨?_, ?_, ?_⟩
    · rw [Array.getElem?_setIfInBounds_ne (by omega), Array.getElem?_setIfInBounds_ne (by omega), Array.getElem?_setIfInBounds_self_of_lt (by rw [hs]; omega)]
    · rw [Array.getElem?_setIfInBounds_ne (by omega), Array.getElem?_setIfInBounds_self_of_lt (by simp [hs]; omega)]
    · rw [Array.getElem?_setIfInBounds_self_of_lt (by simp [hs]; omega)]

theorem run_make_parts (w : World) (n : Nat) (hn : n ≤ 134217728) :
    ∃ cs, (Instr.makeSlice 40 (.int .i64 (n : Int)) (.int .i64 (n : Int))).run Tryz.prog w = .ok (.slice (some ⟨w.heap.size, 0, none⟩) n n) (w.alloc (.cells cs 44)) ∧ cs.size = n * 3 := by
  obtain ⟨i, h1, h2, h3, h4⟩ := info_parts Tryz.infoPart
  have h := run_make (P := Tryz.prog) w 40 44 i _ Tryz.underlying40 h1 h2 .i64 .i64 (n : Int) (n : Int) (by omega) (by omega) (by rw [h4]; omega) (by omega)
  refine ⟨_, h, ?_⟩
  rw [h3]
  simp [madeCells]

/-- A block's bytes, by where the next one begins. -/
theorem tiles_next : ∀ {s : Nat} {L : List (Nat × Nat)} {e : Nat}, Tiles s L e → ∀ k (hk : k < L.length), (∀ h : k + 1 < L.length, L[k + 1].1 = L[k].1 + L[k].2) ∧ (k + 1 = L.length → e = L[k].1 + L[k].2)
  | _, [], _, _, k, hk => by simp at hk
  | s, [x], e, h, k, hk => by
    have hk0 : k = 0 := by simpa using hk
    subst hk0
    obtain ⟨h1, h2, h3⟩ := h
    rw [Tiles] at h3
    refine ⟨fun h => by simp at h, fun _ => by simp; omega⟩
  | s, x :: y :: r, e, h, 0, hk => by
    obtain ⟨h1, h2, h3, h4, h5⟩ := h
    exact ⟨fun _ => by simp; omega, fun h => by simp at h⟩
  | s, x :: y :: r, e, h, k + 1, hk => by
    obtain ⟨h1, h2, h3⟩ := h
    have := tiles_next h3 k (by simpa using hk)
    exact ⟨fun h => this.1 (by simpa using h), fun h => this.2 (by simpa using h)⟩

def PartsPost (w : World) (d : AD) (e : Ending) (w' : World) : Prop := ∃ q cs, e = .returned (.slice (some ⟨q, 0, none⟩) d.L.length d.L.length) ∧ w.heap.size ≤ q ∧ q < w'.heap.size ∧ PartRow w' q d.L.length d.L.length d.L d.lv cs ∧ Keeps w w' (fun _ => False)

set_option maxRecDepth 100000 in
set_option maxHeartbeats 4000000 in
theorem parts_some {w : World} {p : Nat} {c : AR} {d : AD} (h : ArenaAt w p c d) (hF : d.Fine) (hl : d.L.length ≤ 134217728) (g cap : Nat) (hv : c.v = .slice (some ⟨g, 0, none⟩) d.L.length cap) :
    Calls Tryz.prog 36 #[.pointer (some ⟨p, 0, none⟩)] w fun e w' => PartsPost w d e w' := by
  have c3 := h.cell3
  rw [hv] at c3
  obtain ⟨cs0, hmk, hcs0⟩ := run_make_parts w d.L.length hl
  have k1 : Keeps w (w.alloc (.cells cs0 44)) (fun _ => False) := (Keeps.refl _ _).alloc _
  have hq1 : (w.alloc (.cells cs0 44)).heap[w.heap.size]? = some (.cells cs0 44) := heap_alloc_new _ _
  have c31 := (h.keeps k1 (fun _ _ e => e)).cell3
  rw [hv] at c31
  have hE := end_any (h.keeps k1 (fun _ _ e => e))
  go_enter Tryz.func36, Tryz.ntmps36
  go_wp2_with fail
  refine hE.mono ?_
  rintro e w1 ⟨rfl, rfl⟩
  clear hE
  have hR0 : ∃ cs, PartRow (w.alloc (.cells cs0 44)) w.heap.size d.L.length 0 d.L d.lv cs := ⟨cs0, hq1, hcs0, fun j _ hj => by omega⟩
  have hs1 : (w.alloc (.cells cs0 44)).heap.size = w.heap.size + 1 := by simp
  generalize (w.alloc (.cells cs0 44)) = w1 at *
  generalize hq : w.heap.size = q at *
  clear hmk hcs0 hq1
  go_wp2_with fail
  go_loopw [23] (fun vi wr => ∃ i : Nat, vi = .int .i64 (i : Int) ∧ i ≤ d.L.length ∧ (∃ cs, PartRow wr q d.L.length i d.L d.lv cs) ∧ Keeps w wr (fun _ => False)) (fun vi _ => d.L.length - (intOf vi).toNat)
  case atStart => exact ⟨0, rfl, Nat.zero_le _, hR0, k1⟩
  case round =>
    clear c31 k1 hR0
    obtain ⟨i, rfl, hi, ⟨cs, hR⟩, kr⟩ := hrel
    have hqr := heap_lt hR.hq
    by_cases hlt : i < d.L.length
    · have hr := h.keeps kr (fun _ _ e => e)
      have c3r := hr.cell3
      rw [hv] at c3r
      have c4r := hr.cell4
      have hcr : ∀ j (hj : j < d.L.length), wr.cell? ⟨g, j, none⟩ = some (.int .i64 (d.L[j].1 : Int)) := by
        rcases hr.begs with ⟨_, e⟩ | ⟨g', cap', hv', hc'⟩
        · rw [e] at hlt
          simp at hlt
        · rw [hv] at hv'
          injection hv' with e1 _ _
          injection e1 with e1
          injection e1 with e1
          subst e1
          exact hc'
      have hck := hcr i hlt
      have hlk := look_ok_int (w := wr) Tryz.underlying3 Tryz.underlying52 (Tryz.zeroI _) hr.live (x := (d.L[i].1 : Int)) (fitsI_mk (by omega) (by have := tiles_mem hF.tiles (List.getElem_mem hlt); have := hF.most; omega))
      obtain ⟨v0, x0⟩ := hR.has (i := i * 3) (by omega)
      obtain ⟨v1, x1⟩ := hR.has (i := i * 3 + 1) (by omega)
      obtain ⟨v2, x2⟩ := hR.has (i := i * 3 + 2) (by omega)
      have f0 := hR.frozen (i * 3)
      have f1 := hR.frozen (i * 3 + 1)
      have f2 := hR.frozen (i * 3 + 2)
      have hlt' : (i : Int) < (d.L.length : Int) := by omega
      have hnx := tiles_next hF.tiles i hlt
      have hmm := tiles_mem hF.tiles (List.getElem_mem hlt)
      have hmost := hF.most
      have hstep := fun z hz => hide (hR.step hlt hlt z hz)
      have hkeep : ∀ a b e, Hid (Keeps w (((wr.setCell ⟨q, i * 3, none⟩ a).setCell ⟨q, i * 3 + 1, none⟩ b).setCell ⟨q, i * 3 + 2, none⟩ e) (fun _ => False)) := fun a b e => by
        have k2 : Keeps wr (((wr.setCell ⟨q, i * 3, none⟩ a).setCell ⟨q, i * 3 + 1, none⟩ b).setCell ⟨q, i * 3 + 2, none⟩ e) (fun x => x = q) := (((Keeps.refl wr (fun x => x = q)).setCell _ (fun _ => rfl) _).setCell _ (fun _ => rfl) _).setCell _ (fun _ => rfl) _
        exact kr.trans k2 (fun x hx e => by omega)
      by_cases hlast : i + 1 < d.L.length
      · have hck2 := hcr (i + 1) hlast
        have hlast' : (i : Int) + 1 < (d.L.length : Int) := by omega
        have hn := hnx.1 hlast
        have hw : wrap64 ((d.L[i + 1].1 : Int) - (d.L[i].1 : Int)) = (d.L[i].2 : Int) := by
          rw [show (d.L[i + 1].1 : Int) - (d.L[i].1 : Int) = (d.L[i].2 : Int) by omega]
          unfold wrap64
          omega
        clear hR kr hcr hnx hn
        go_wp2_with fail
        exact ⟨⟨i + 1, by simp, by omega, ⟨_, (hstep _ rfl).out⟩, (hkeep _ _ _).out⟩, by simp [intOf]; omega⟩
      · have hlast' : ¬ (i : Int) + 1 < (d.L.length : Int) := by omega
        have hn := hnx.2 (by omega)
        have Hn := hide hn
        clear hR kr hcr hnx hn
        go_wp2_with fail
        exact ⟨⟨i + 1, by simp, by omega, ⟨_, (hstep _ (by have := Hn.out; omega)).out⟩, (hkeep _ _ _).out⟩, by simp [intOf]; omega⟩
    · have hlt' : ¬ (i : Int) < (d.L.length : Int) := by omega
      obtain rfl : i = d.L.length := by omega
      have hfin : PartsPost w d (.returned (.slice (some ⟨q, 0, none⟩) d.L.length d.L.length)) wr := ⟨q, cs, rfl, by omega, hqr, hR, kr⟩
      have HF := hide hfin
      clear hR kr hfin
      go_wp2_with fail
      go_ret
      exact HF.out

set_option maxRecDepth 100000 in
set_option maxHeartbeats 4000000 in
theorem parts_none {w : World} {p : Nat} {c : AR} {d : AD} (h : ArenaAt w p c d) (hL : d.L = []) (hv : c.v = .slice none 0 0) :
    Calls Tryz.prog 36 #[.pointer (some ⟨p, 0, none⟩)] w fun e w' => PartsPost w d e w' := by
  have c3 := h.cell3
  rw [hv] at c3
  obtain ⟨cs0, hmk0, hcs0⟩ := run_make_parts w 0 (by omega)
  have hmk : (Instr.makeSlice 40 (.int .i64 0) (.int .i64 0)).run Tryz.prog w = .ok (.slice (some ⟨w.heap.size, 0, none⟩) 0 0) (w.alloc (.cells cs0 44)) := hmk0
  clear hmk0
  have k1 : Keeps w (w.alloc (.cells cs0 44)) (fun _ => False) := (Keeps.refl _ _).alloc _
  have hq1 : (w.alloc (.cells cs0 44)).heap[w.heap.size]? = some (.cells cs0 44) := heap_alloc_new _ _
  have c31 := (h.keeps k1 (fun _ _ e => e)).cell3
  rw [hv] at c31
  have hE := end_any (h.keeps k1 (fun _ _ e => e))
  have hfin : Hid (PartsPost w d (.returned (.slice (some ⟨w.heap.size, 0, none⟩) 0 0)) (w.alloc (.cells cs0 44))) := by
    refine ⟨w.heap.size, cs0, by rw [hL]; rfl, Nat.le_refl _, heap_lt hq1, ⟨hq1, by rw [hL]; exact hcs0, fun j hj => by rw [hL] at hj; simp at hj⟩, k1⟩
  clear hL hv h hcs0 hq1 k1
  go_enter Tryz.func36, Tryz.ntmps36
  go_wp2_with fail
  refine hE.mono ?_
  rintro e w1 ⟨rfl, rfl⟩
  clear hE hmk
  generalize (w.alloc (.cells cs0 44)) = w1 at *
  generalize w.heap.size = q at *
  go_wp2_with fail
  go_loopw [23] (fun vi wr => vi = .int .i64 0 ∧ w1 = wr) (fun vi _ => 0)
  case atStart => exact ⟨rfl, rfl⟩
  case round =>
    obtain ⟨rfl, rfl⟩ := hrel
    go_wp2_with fail
    go_ret
    exact hfin.out

/-- Parts: the list of all blocks, in a block of its own. -/
theorem parts_any {w : World} {p : Nat} {c : AR} {d : AD} (h : ArenaAt w p c d) (hF : d.Fine) (hl : d.L.length ≤ 134217728) :
    Calls Tryz.prog 36 #[.pointer (some ⟨p, 0, none⟩)] w fun e w' => PartsPost w d e w' := by
  rcases h.begs with ⟨hv, hL⟩ | ⟨g, cap, hv, _⟩
  · exact parts_none h hL hv
  · exact parts_some h hF hl g cap hv
end Go.Proofs.YtdlibnjgmdffnaaGreat
/-
  Blocks, and a range over it.
-/
namespace Go.Proofs.YtdlibnjgmdffnaaGreat
open Go.RowKit Go.Shelf

attribute [local go_sem] Oper.semAt_some

/-- Lists of parts stay as they are. -/
def PartsStay (W W' : World) : Prop := ∀ (q : Nat) (cs : Array Value), W.heap[q]? = some (Obj.cells cs 44) → W'.heap[q]? = some (Obj.cells cs 44)
theorem PartsStay.refl (W : World) : PartsStay W W := fun _ _ h => h
theorem PartsStay.trans {A B C : World} (h : PartsStay A B) (k : PartsStay B C) : PartsStay A C := fun q cs e => k q cs (h q cs e)

/-- The live blocks of the first k. -/
def livesOf (L : List (Nat × Nat)) (lv : Int → Option Int) : List (Nat × Nat) := L.filter (fun x => (lv (x.1 : Int)).isSome)
theorem livesOf_succ {L : List (Nat × Nat)} {lv : Int → Option Int} {k : Nat} (h : k < L.length) : livesOf (L.take (k + 1)) lv = livesOf (L.take k) lv ++ (if (lv (L[k].1 : Int)).isSome then [L[k]] else []) := by
  rw [List.take_succ_eq_append_getElem h]
  unfold livesOf
  rw [List.filter_append]
  congr 1
  by_cases hl : (lv (L[k].1 : Int)).isSome <;> simp [hl]
theorem livesOf_prefix (L : List (Nat × Nat)) (lv : Int → Option Int) (k : Nat) : livesOf (L.take k) lv <+: livesOf L lv := by
  unfold livesOf
  exact (List.take_prefix k L).filter _

theorem PartRow.stay {w w' : World} {q N k : Nat} {L : List (Nat × Nat)} {lv : Int → Option Int} {cs : Array Value} (h : PartRow w q N k L lv cs) (hs : PartsStay w w') : PartRow w' q N k L lv cs := ⟨hs _ _ h.hq, h.size, h.done⟩
theorem PartsStay.alloc (w : World) (o : Obj) : PartsStay w (w.alloc o) := fun _ _ h => (Below.heap_alloc _ _ _ (heap_lt h)).trans h
theorem abides_alloc {β : Type} {B : Nat} {J : β → World → Prop} (h : AbidesFrom B J) {s : β} {W : World} (hJ : J s W) (o : Obj) : J s (W.alloc o) :=
  h s W _ none hJ ⟨rfl, rfl, rfl, by simp, fun k hk _ => Below.heap_alloc _ _ _ hk⟩ (fun r e => by cases e)

set_option maxHeartbeats 1000000 in
theorem blocks_call (w : World) (p : Nat) :
    Calls Tryz.prog 67 #[.pointer (some ⟨p, 0, none⟩)] w fun e w' => e = .returned (.func (.func 91) #[] #[.pointer (some ⟨w.heap.size, 0, none⟩)]) ∧ w' = w.alloc (.cells #[.pointer (some ⟨p, 0, none⟩)] 23) := by
  go_enter Tryz.func67, Tryz.ntmps67
  go_wp2
  go_ret
  exact ⟨rfl, rfl⟩

set_option maxRecDepth 100000 in
set_option maxHeartbeats 4000000 in
theorem blocks_each (n : Nat) (hn : 1 ≤ n) (l Bs p B : Nat) (d : AD) (hlen : d.L.length ≤ 134217728) (J Jx : List (Nat × Nat) → World → Prop) (hAb : AbidesFrom B J)
    (hY : ∀ pre (x : Nat × Nat) W, J pre W → pre.length < (livesOf d.L d.lv).length → YieldAt Fence.wide (n - 1) Tryz.prog l #[.int .i64 (x.1 : Int), .int .i64 (x.2 : Int)] W fun e W' =>
      (e = .returned (.bool true) ∧ J (pre ++ [x]) W' ∧ PartsStay W W') ∨ (e = .returned (.bool false) ∧ Jx (pre ++ [x]) W'))
    (W : World) (hBs : W.cell? ⟨Bs, 0, none⟩ = some (.pointer (some ⟨p, 0, none⟩))) (hP : Calls Tryz.prog 36 #[.pointer (some ⟨p, 0, none⟩)] W fun e w' => PartsPost W d e w' ∧ J [] w') :
    CallsIn Fence.wide n Tryz.prog 91 #[.func (.yield l) #[] #[], .pointer (some ⟨Bs, 0, none⟩)] W fun e W' => (∃ v, e = .returned v) ∧
      ((∃ ys, ys = livesOf d.L d.lv ∧ J ys W') ∨ (∃ pre, pre <+: livesOf d.L d.lv ∧ Jx pre W')) := by
  have hro : Fence.wide.round = none := rfl
  have hPI : ∀ m, CallsIn Fence.wide m Tryz.prog 36 #[.pointer (some ⟨p, 0, none⟩)] W fun e w' => PartsPost W d e w' ∧ J [] w' := fun m => callsIn_wide.2 hP
  refine callsIn_of_wp Tryz.func91 rfl trivial ?_ hro
  simp only [Tryz.ntmps91, List.size_toArray, List.length_cons, List.length_nil, Nat.reduceAdd, Nat.reduceSub, Array.replicate_succ, Array.replicate_zero, List.push_toArray, List.append_toArray, List.nil_append, List.cons_append]
  gi_wp2_with fail
  refine ⟨trivial, (hPI _).mono ?_⟩
  rintro e W1 ⟨⟨q, cs, rfl, -, -, hR, -⟩, hJ0⟩
  clear hPI hP hBs
  gi_wp2_with fail
  gi_loopw [8] (fun vi wr => ∃ k : Nat, k ≤ d.L.length ∧ vi = .int .i64 (k : Int) ∧ J (livesOf (d.L.take k) d.lv) wr ∧ PartRow wr q d.L.length d.L.length d.L d.lv cs) (fun vi _ => d.L.length - (intOf vi).toNat)
  case atStart => exact ⟨0, Nat.zero_le _, rfl, by simpa [livesOf] using hJ0, hR⟩
  case round =>
    clear hR hJ0
    obtain ⟨k, hk, rfl, hJ, hR⟩ := hrel
    by_cases hlt : k < d.L.length
    · obtain ⟨d0, d1, d2⟩ := hR.done k hlt hlt
      have x0 : wr.cell? ⟨q, k * 3, none⟩ = some (.int .i64 (d.L[k].1 : Int)) := by simp only [World.cell?, hR.hq]; simpa using d0
      have x1 : wr.cell? ⟨q, k * 3 + 1, none⟩ = some (.int .i64 (d.L[k].2 : Int)) := by simp only [World.cell?, hR.hq]; simpa using d1
      have x2 : wr.cell? ⟨q, k * 3 + 2, none⟩ = some (.bool (d.lv (d.L[k].1 : Int)).isSome) := by simp only [World.cell?, hR.hq]; simpa using d2
      have hlt' : (k : Int) < (d.L.length : Int) := by omega
      have hsucc := livesOf_succ (lv := d.lv) hlt
      have hpre := livesOf_prefix d.L d.lv (k + 1)
      by_cases hl : (d.lv (d.L[k].1 : Int)).isSome = true
      · rw [if_pos hl] at hsucc
        have hJa := abides_alloc hAb hJ (.cells #[.int .i64 (d.L[k].1 : Int), .int .i64 (d.L[k].2 : Int), .bool true] 44)
        have hRa := hR.stay (PartsStay.alloc wr (.cells #[.int .i64 (d.L[k].1 : Int), .int .i64 (d.L[k].2 : Int), .bool true] 44))
        obtain ⟨fn, tmps, assign, body, hy, hRd⟩ := hY _ d.L[k] _ hJa (by
          have := hpre.length_le
          rw [hsucc] at this
          simp at this
          omega)
        rw [hl] at x2
        have HS := hide hsucc
        have HR := hide hRa
        have HP := hide hpre
        clear hsucc hR hRa hpre d0 d1 d2 hJ hJa
        gi_wp2
        refine hRd.mono ?_
        rintro e W3 (⟨rfl, hJ3, hk3⟩ | ⟨rfl, hJx3⟩)
        · have HJ : Hid (J (livesOf (d.L.take (k + 1)) d.lv) W3) := by rw [HS.out]; exact hJ3
          have HR3 := hide (HR.out.stay hk3)
          clear HS HR hk3 hJ3 hRd hy x0 x1 x2
          gi_wp2
          go_roundw
          case rel => exact ⟨k + 1, by omega, by simp, HJ.out, HR3.out⟩
          case measure => simp [intOf]; omega
        · have HJ : Hid (∃ pre, pre <+: livesOf d.L d.lv ∧ Jx pre W3) := ⟨_, by rw [← HS.out]; exact HP.out, hJx3⟩
          clear HS HR hJx3 hRd hy x0 x1 x2
          gi_wp2
          refine bodyPost_ret (results_none rfl _ _ _) rfl ?_
          exact ⟨⟨_, rfl⟩, .inr HJ.out⟩
      · rw [if_neg hl, List.append_nil] at hsucc
        have hl' : (d.lv (d.L[k].1 : Int)).isSome = false := by simpa using hl
        rw [hl'] at x2
        have hJa := abides_alloc hAb hJ (.cells #[.int .i64 (d.L[k].1 : Int), .int .i64 (d.L[k].2 : Int), .bool false] 44)
        have HR := hide (hR.stay (PartsStay.alloc wr (.cells #[.int .i64 (d.L[k].1 : Int), .int .i64 (d.L[k].2 : Int), .bool false] 44)))
        have HJ : Hid (J (livesOf (d.L.take (k + 1)) d.lv) (wr.alloc (.cells #[.int .i64 (d.L[k].1 : Int), .int .i64 (d.L[k].2 : Int), .bool false] 44))) := by rw [hsucc]; exact hJa
        clear hsucc hR hpre d0 d1 d2 hJ hJa hl hl'
        gi_wp2
        refine ⟨(fun _ e => by cases e), ?_⟩
        gi_wp2
        go_roundw
        case rel => exact ⟨k + 1, by omega, by simp, HJ.out, HR.out⟩
        case measure => simp [intOf]; omega
    · obtain rfl : k = d.L.length := by omega
      rw [List.take_length] at hJ
      have HJ := hide hJ
      clear hJ hR
      gi_wp2
      go_end0
      exact ⟨⟨_, rfl⟩, .inl ⟨_, rfl, HJ.out⟩⟩

/-- A range over Blocks gives the live blocks in their order, or stops behind some of them. -/
theorem blocks_stops (n : Nat) (hn : 1 ≤ n) (Bs p : Nat) {X : Nat → Prop} {d : AD} (w : World) (hA : Arena w p X d) (hF : d.Fine) (hlen : d.L.length ≤ 134217728) (hBs : Bs < w.heap.size) (hc : w.cell? ⟨Bs, 0, none⟩ = some (.pointer (some ⟨p, 0, none⟩))) :
    SeqStopsK Fence.wide n Tryz.prog 91 #[.pointer (some ⟨Bs, 0, none⟩)] (fun x : Nat × Nat => #[Value.int .i64 (x.1 : Int), Value.int .i64 (x.2 : Int)]) PartsStay (fun ys => ys = livesOf d.L d.lv) (fun pre => pre <+: livesOf d.L d.lv) (livesOf d.L d.lv).length w := fun l J Jx W hW hAb _ hY h0 => by
  have kW : Keeps w W (fun _ => False) := ⟨hW.os, hW.tape, hW.output, hW.size, fun k hk _ => hW.block k hk⟩
  have hc' := (hW.cell (p := ⟨Bs, 0, none⟩) hBs).trans hc
  obtain ⟨c, hC, _⟩ := hA.keeps kW (fun _ _ _ e => e)
  have hP : Calls Tryz.prog 36 #[.pointer (some ⟨p, 0, none⟩)] W fun e w' => PartsPost W d e w' ∧ J [] w' := (parts_any hC hF hlen).mono fun e w' h => ⟨h, by
    obtain ⟨_, _, _, _, _, _, k⟩ := h
    exact hAb [] W w' none h0 ⟨k.os, k.tape, k.output, k.size, fun i hi _ => k.block i hi id⟩ (fun r e => by cases e)⟩
  exact blocks_each n hn l Bs p W.heap.size d hlen J Jx hAb hY W hc' hP
end Go.Proofs.YtdlibnjgmdffnaaGreat
