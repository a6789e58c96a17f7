import Derived.Test.YtgmcpjklgacdpaaIn10
namespace Go.Proofs.Ytgmcpjklgacdpaa
open Go.RowKit Go.Shelf

def PopPost (w : World) (hb : Nat) (v : Value) (xs : List Int) (e : Ending) (w' : World) : Prop := ∃ m, e = .returned (.iface 3 (.int .i64 m)) ∧ (∀ x ∈ xs, m ≤ x) ∧ ∃ ys : List Int, (ys ++ [m]).Perm xs ∧ Heapy ys.length ys ∧ HeapTurned w hb v ys w'

theorem Heapy.mem {xs : List Int} (h : Heapy xs.length xs) : ∀ x ∈ xs, at0 xs 0 ≤ x := fun x hx => by
  obtain ⟨k, hk, rfl⟩ := List.getElem_of_mem hx
  have := h.least k hk
  simpa [at0, hk] using this
theorem list_last {ys : List Int} {n : Nat} (h : ys.length = n + 1) : ys = ys.take n ++ [at0 ys n] := by
  have h1 : ys.drop n = [at0 ys n] := by
    rw [List.drop_eq_getElem_cons (by omega), List.drop_eq_nil_of_le (by omega)]
    simp [at0, h]
  rw [← h1, List.take_append_drop]
theorem at0_take {ys : List Int} {n k : Nat} (h : k < n) : at0 (ys.take n) k = at0 ys k := by
  simp [at0, h]

set_option maxRecDepth 100000 in
set_option maxHeartbeats 2000000 in
theorem heap_pop {w : World} {hb : Nat} {v : Value} {xs : List Int} (h : HeapAt w hb v xs) (hh : Heapy xs.length xs) (h0 : 0 < xs.length) (hl : xs.length ≤ 134217728) :
    Calls Try.prog 83 #[.iface 109 (.pointer (some ⟨hb, 0, none⟩))] w fun e w' => PopPost w hb v xs e w' := by
  have mP := reach_pop hb
  have mL := reach_len hb
  have mS := reach_swap hb
  have eP := ent_pop
  have eL := ent_len
  have eS := ent_swap
  unfold Enters at eP eL eS
  have hL := low_len h
  obtain ⟨n, hn⟩ : ∃ n, xs.length = n + 1 := ⟨xs.length - 1, by omega⟩
  have hn' : n ≤ 134217728 := by omega
  have hlen : ((xs.length : Nat) : Int) = (n : Int) + 1 := by omega
  rw [hlen] at hL
  have hS := low_swap h 0 n (by omega) (by omega) hl
  have hD : Hid (∀ w1, HeapAt w1 hb v (sw xs 0 n) → Calls Try.prog 99 #[.iface 109 (.pointer (some ⟨hb, 0, none⟩)), .int .i64 0, .int .i64 (n : Int)] w1 fun e w' => DownPost w1 hb v (sw xs 0 n) n e w') := fun w1 h1 =>
    heap_down ⟨sw xs 0 n, List.Perm.refl _, DownInv.start (by omega) hh, fun _ _ => rfl, h1, Keeps.refl _ _⟩ (by rw [sw_length]; omega) (by rw [sw_length]; omega)
  have HH := hide hh
  clear hlen h hh
  go_enter Try.func83, Try.ntmps83
  go_wp2_with fail
  refine hL.mono ?_
  rintro e w0 ⟨rfl, rfl⟩
  clear hL
  go_wp2_with fail
  refine hS.mono ?_
  rintro e w1 ⟨rfl, h1, k1⟩
  clear hS
  have hD1 := hD.out w1 h1
  clear hD h1
  go_wp2_with fail
  refine hD1.mono ?_
  rintro e w2 ⟨b, rfl, ys, hp, hy, hr, h2, k2⟩
  clear hD1
  have hyl : ys.length = n + 1 := by rw [hp.length_eq, sw_length]; exact hn
  have hm : at0 ys n = at0 xs 0 := by
    rw [hr n (Nat.le_refl _), sw_at (by omega) (by omega), if_pos rfl]
  have hys := list_last hyl
  rw [hm] at hys
  have h3 := h2
  rw [hys] at h3
  have hP : Calls Try.prog 128 #[.pointer (some ⟨hb, 0, none⟩)] w2 fun e w' => PopPost w0 hb v xs e w' := by
    refine (low_pop h3 (by simp; omega)).mono ?_
    rintro e w3 ⟨rfl, v3, h4, k4, l4⟩
    refine ⟨_, rfl, HH.out.mem, ys.take n, ?_, ?_, v3, h4, ?_, ?_⟩
    · rw [← hys]
      exact hp.trans (sw_perm (by omega) (by omega))
    · intro k hk0 hk
      simp at hk
      rw [at0_take (by omega), at0_take (by omega)]
      exact hy k hk0 (by omega)
    · exact ((k1.mono (S1 := fun k => k = hb ∨ v.ownBlock = some k) (fun _ _ e => Or.inr e)).trans k2 (fun _ _ e => Or.inr e)).trans k4 (fun _ _ e => e)
    · rcases l4 with l | ⟨k, l, hk⟩
      · exact Or.inl l
      · exact Or.inr ⟨k, l, by have := k1.size; have := k2.size; omega⟩
  clear h2 h3 hys hm hyl hr hy hp k1 k2 HH
  go_wp2_with fail
  refine hP.mono ?_
  rintro e w3 ⟨m, rfl, hq⟩
  have HP : Hid (PopPost w0 hb v xs (.returned (.iface 3 (.int .i64 m))) w3) := ⟨m, rfl, hq⟩
  clear hP hq
  go_wp2_with fail
  go_ret
  exact HP.out
end Go.Proofs.Ytgmcpjklgacdpaa
/-
  A free block is taken again.
-/
namespace Go.Proofs.Ytgmcpjklgacdpaa
open Go.RowKit Go.Shelf

/-- An empty list of free blocks. -/
theorem again_empty {w : World} {p : Nat} {c : AR} {d : AD} (h : ArenaAt w p c d) (n : Nat) (hn : n ≤ 134217728) (hf : d.fm (n : Int) = some []) :
    Calls Try.prog 64 #[.pointer (some ⟨p, 0, none⟩), .int .i64 (n : Int)] w fun e w' => e = .returned (.tuple #[.int .i64 0, .bool false]) ∧ w' = w := by
  obtain ⟨b, ys, hb, hp, ha, _⟩ := h.heaps.block_of hf
  have e := List.Perm.eq_nil hp
  subst e
  have c5 := h.cell5
  have hl := look_ptr (w := w) Try.underlying3 Try.underlying83 (Try.zeroP w) h.free (x := (n : Int)) (fitsI_mk (by omega) (by omega))
  rw [hb] at hl
  simp only [Option.map_some] at hl
  have hL := low_len ha
  simp only [List.length_nil] at hL
  clear h ha
  go_enter Try.func64, Try.ntmps64
  go_wp2_with fail
  refine hL.mono ?_
  rintro e w1 ⟨rfl, rfl⟩
  clear hL
  go_wp2_with fail
  go_ret2
  exact ⟨rfl, rfl⟩

/-- The lowest of a list of free blocks, zeroed. -/
def AD.popped (d : AD) (n : Nat) (z : Nat) (r : List Int) : AD := (d.freed (n : Int) r).bytes (splice d.bs z (zeros n))
def AgainPost (w : World) (p : Nat) (c : AR) (d : AD) (n z : Nat) (r : List Int) (e : Ending) (w' : World) : Prop :=
  e = .returned (.tuple #[.int .i64 (z : Int), .bool true]) ∧ ∃ c', ArenaAt w' p c' (d.popped n z r) ∧ Keeps w w' (c.foot p) ∧ ∀ k, c'.foot p k → c.foot p k ∨ w.heap.size ≤ k

set_option maxRecDepth 100000 in
set_option maxHeartbeats 1000000 in
theorem again_some {w : World} {p : Nat} {c : AR} {d : AD} (h : ArenaAt w p c d) (n z : Nat) (r : List Int) (hn : n ≤ 134217728) (hf : d.fm (n : Int) = some ((z : Int) :: r)) (hs : ((z : Int) :: r).Pairwise (· < ·)) (hl : r.length < 134217728) (hz : z + n ≤ d.bs.length) :
    Calls Try.prog 64 #[.pointer (some ⟨p, 0, none⟩), .int .i64 (n : Int)] w fun e w' => AgainPost w p c d n z r e w' := by
  obtain ⟨b, ys, hb, hp, ha, hh⟩ := h.heaps.block_of hf
  have hyl : ys.length = r.length + 1 := by rw [hp.length_eq]; simp
  have c5 := h.cell5
  have hlk := look_ptr (w := w) Try.underlying3 Try.underlying83 (Try.zeroP w) h.free (x := (n : Int)) (fitsI_mk (by omega) (by omega))
  rw [hb] at hlk
  simp only [Option.map_some] at hlk
  have hL := low_len ha
  have hne : (((ys.length : Nat) : Int) == 0) = false := by simp; intro e; rw [e] at hyl; simp at hyl
  have hlI : ((ys.length : Nat) : Int) ≤ 134217728 := by omega
  have hP : Calls Try.prog 83 #[.iface 109 (.pointer (some ⟨b, 0, none⟩))] w fun e w' => e = .returned (.iface 3 (.int .i64 (z : Int))) ∧ ∃ c', ArenaAt w' p c' (d.freed (n : Int) r) ∧ Keeps w w' (c.foot p) ∧ ∀ k, c'.foot p k → c.foot p k ∨ w.heap.size ≤ k := by
    refine (heap_pop ha hh (by omega) (by omega)).mono ?_
    rintro e w' ⟨m, rfl, hmin, us, hperm, hu, ht⟩
    have hmm : m ∈ (z : Int) :: r := hp.mem_iff.1 (hperm.mem_iff.1 (by simp))
    have hzm := hmin (z : Int) (hp.mem_iff.2 (by simp))
    have hm : m = (z : Int) := by
      rcases List.mem_cons.1 hmm with e | e
      · exact e
      · have := (List.pairwise_cons.1 hs).1 m e
        omega
    subst hm
    obtain ⟨v', h1, h2, h3⟩ := h.heap_turned' hb hu ht
    refine ⟨rfl, _, h1 r ?_, h2, h3⟩
    have h5 : (us ++ [(z : Int)]).Perm ((z : Int) :: r) := hperm.trans hp
    have h6 : ((z : Int) :: us).Perm ((z : Int) :: r) := (List.perm_append_singleton _ _).symm.trans h5
    exact (List.perm_cons _).1 h6
  have hta : ∀ w', Sem.run Try.prog (Instr.typeAssert (.iface 3 (.int .i64 (z : Int))) 20 3 false) w' = .ok (.int .i64 (z : Int)) w' := fun _ => by kernel_rfl
  clear h ha hh hp hs hf
  go_enter Try.func64, Try.ntmps64
  go_wp2_with fail
  refine hL.mono ?_
  rintro e w1 ⟨rfl, rfl⟩
  clear hL
  go_wp2_with fail
  refine hP.mono ?_
  rintro e w2 ⟨rfl, c', h2, k2, f2⟩
  clear hP
  have c2 := h2.cell2
  have hFi := fill_yes w2 c'.b c'.g d.bs c'.sp h2.mem z n hz 0
  go_wp2_with fail
  refine hFi.mono ?_
  intro e w3 hp3
  have hfin : AgainPost w1 p c d n z r (.returned (.tuple #[.int .i64 (z : Int), .bool true])) w3 := by
    refine ⟨rfl, c', ?_, ?_, f2⟩
    · have := h2.wrote hp3.2.1 hp3.2.2
      simpa [AD.popped, AD.bytes, same, zeros] using this
    · refine k2.trans hp3.2.2 (fun i hi e => ?_)
      rcases f2 i (Or.inr (Or.inr (Or.inl e))) with e | e
      · exact e
      · omega
  have he := hp3.1
  subst he
  have HF := hide hfin
  clear hFi hp3 hfin h2 k2 f2 c2
  go_wp2_with fail
  go_ret2
  exact HF.out
end Go.Proofs.Ytgmcpjklgacdpaa
namespace Go.Proofs.Ytgmcpjklgacdpaa
open Go.RowKit Go.Shelf

/-- The lowest free block of a class is live again. -/
def AD.retook (d : AD) (n z : Nat) (r : List Int) : AD := (d.popped n z r).entered z n

set_option maxHeartbeats 1000000 in
theorem take_again {w : World} {p : Nat} {F : Nat → Prop} {d : AD} (h : Arena w p F d) (hF : d.Fine) (n z : Nat) (r : List Int) (hn : n ≤ 134217728) (hf : d.fm (n : Int) = some ((z : Int) :: r)) (hs : ((z : Int) :: r).Pairwise (· < ·)) (hl : r.length < 134217728) (hz : z + n ≤ d.bs.length) :
    Calls Try.prog 42 #[.pointer (some ⟨p, 0, none⟩), .int .i64 (n : Int)] w fun e w' => TakePost w p F z (d.retook n z r) e w' := by
  obtain ⟨c, h, hfo⟩ := h
  have hu : d.used ≤ 134217728 := by have := hF.use; have := hF.lim; omega
  have hm := hF.most
  have hLl : d.L.length ≤ 134217728 := by have := tiles_length hF.tiles; omega
  have hA := again_some h n z r hn hf hs hl hz
  have hkb := hF.keys_begins
  clear hs hf hF
  go_enter Try.func42, Try.ntmps42
  go_wp2_with fail
  refine hA.mono ?_
  rintro e w2 ⟨rfl, c', h2, k2, f2⟩
  clear hA
  have h2 : ArenaAt w2 p { c' with nl := d.begins.length } (d.popped n z r) := { h2 with live := h2.live.tight Try.underlying3 d.begins hkb }
  have hE := enter_any h2 z n (by omega) hn hu (by simp [AD.begins_length]; omega)
  go_wp2_with fail
  refine hE.mono ?_
  rintro e w3 ⟨rfl, _, k3, hp3, hl3⟩
  clear hE
  have hfin : TakePost w p F z (d.retook n z r) (.returned (.int .i64 (z : Int))) w3 := by
    have hin : ∀ j, j < w.heap.size → ({ c' with nl := d.begins.length } : AR).foot p j → F j := fun j hj e => by
      rcases f2 j e with e | e
      · exact hfo j e
      · omega
    have kF : Keeps w w3 F := (k2.mono (fun i _ e => hfo i e)).trans k3 (fun i hi e => hin i hi (by
      rcases e with e | e
      · exact Or.inl e
      · exact Or.inr (Or.inr (Or.inr (Or.inl e)))))
    refine ⟨rfl, ⟨{ c' with nl := d.begins.length + 1 }, ⟨?_, ?_, ?_, hl3, ?_, h2.hlf, ?_⟩, fun k hk => ?_⟩, kF⟩
    · exact hp3
    · exact h2.mem.keeps k3 (fun e => by rcases e with e | e; exact h2.p_b e.symm; exact h2.bl_b e.symm) (fun e => by rcases e with e | e; exact h2.p_g e.symm; exact h2.bl_g e.symm)
    · exact ownsRow_keeps h2.beg k3 (fun k hk e => by rcases e with e | e; exact h2.p_v hk e.symm; exact h2.bl_v hk e.symm)
    · exact h2.free.keeps k3 (fun e => by rcases e with e | e; exact h2.p_bf e.symm; exact h2.hlf e.symm)
    · exact h2.heaps.keeps k3 (fun i hi e => by rcases e with e | e; exact (h2.heap_ne hi).1 e; exact (h2.heap_ne hi).2.2.2.1 e)
    · rcases f2 k hk with e | e
      · exact Or.inl (hfo k e)
      · exact Or.inr e
  have HF := hide hfin
  clear h h2 k2 f2 k3 hp3 hl3 hfo hfin hkb
  go_wp2_with fail
  go_ret
  exact HF.out

/-- An empty list: a new block. -/
theorem take_empty {w : World} {p : Nat} {c : AR} {d : AD} (h : ArenaAt w p c d) (n : Nat) (hn : n ≤ 134217728) (hf : d.fm (n : Int) = none ∨ d.fm (n : Int) = some []) :
    Calls Try.prog 64 #[.pointer (some ⟨p, 0, none⟩), .int .i64 (n : Int)] w fun e w' => e = .returned (.tuple #[.int .i64 0, .bool false]) ∧ w' = w := by
  rcases hf with hf | hf
  · exact again_none h n hn hf
  · exact again_empty h n hn hf
end Go.Proofs.Ytgmcpjklgacdpaa
namespace Go.Proofs.Ytgmcpjklgacdpaa
open Go.RowKit Go.Shelf

set_option maxHeartbeats 1000000 in
theorem take_more {w : World} {p : Nat} {F : Nat → Prop} {d : AD} (h : Arena w p F d) (hF : d.Fine) (n : Nat) (hn : d.bs.length + n ≤ 134217728) (hf : d.fm (n : Int) = none ∨ d.fm (n : Int) = some []) :
    Calls Try.prog 42 #[.pointer (some ⟨p, 0, none⟩), .int .i64 (n : Int)] w fun e w' => TakePost w p F d.bs.length (d.took n) e w' := by
  obtain ⟨c, h, hfo⟩ := h
  have hL : d.L.length ≤ 134217728 := by have := tiles_length hF.tiles; have := hF.most; omega
  have hu : d.used ≤ 134217728 := by have := hF.use; have := hF.lim; omega
  have hA := take_empty h n (by omega) hf
  have hadd := add_any h n hn hL
  go_enter Try.func42, Try.ntmps42
  go_wp2_with fail
  refine hA.mono ?_
  rintro e w1 ⟨rfl, rfl⟩
  clear hA
  go_wp2_with fail
  refine hadd.mono ?_
  rintro e w2 ⟨g, v, sp, rfl, h2, k2, hg, hv⟩
  clear hadd
  have h2 : ArenaAt w2 p { c with g := g, v := v, sp := sp, nl := d.begins.length } (d.added n) := { h2 with live := h2.live.tight Try.underlying3 d.begins (hF.keys_begins) }
  have hE := enter_any h2 d.bs.length n (by omega) (by omega) (by simpa [AD.added] using hu) (by simp [AD.begins_length]; omega)
  go_wp2_with fail
  refine hE.mono ?_
  rintro e w3 ⟨rfl, _, k3, hp3, hl3⟩
  clear hE
  have hfin : TakePost w1 p F d.bs.length (d.took n) (.returned (.int .i64 (d.bs.length : Int))) w3 := by
    have kF : Keeps w1 w3 F := (k2.mono (fun i _ e => hfo i e)).trans k3 (fun i hi e => by
      rcases e with rfl | rfl
      · exact hfo _ (Or.inl rfl)
      · exact hfo _ (Or.inr (Or.inr (Or.inr (Or.inl rfl)))))
    refine ⟨rfl, ⟨{ c with g := g, v := v, sp := sp, nl := d.begins.length + 1 }, ⟨?_, ?_, ?_, hl3, ?_, h.hlf, ?_⟩, ?_⟩, kF⟩
    · exact hp3
    · exact h2.mem.keeps k3 (fun e => by rcases e with e | e; exact h2.p_b e.symm; exact h2.bl_b e.symm) (fun e => by rcases e with e | e; exact h2.p_g e.symm; exact h2.bl_g e.symm)
    · exact ownsRow_keeps h2.beg k3 (fun k hk e => by rcases e with e | e; exact h2.p_v hk e.symm; exact h2.bl_v hk e.symm)
    · exact h2.free.keeps k3 (fun e => by rcases e with e | e; exact h2.p_bf e.symm; exact h2.hlf e.symm)
    · exact h2.heaps.keeps k3 (fun i hi e => by rcases e with e | e; exact (h2.heap_ne hi).1 e; exact (h2.heap_ne hi).2.2.2.1 e)
    · intro k hk
      rcases hk with e | e | e | e | e | e | e
      · exact Or.inl (hfo k (Or.inl e))
      · exact Or.inl (hfo k (Or.inr (Or.inl e)))
      · have e' : k = g := e
        rcases hg with hg | hg
        · exact Or.inl (hfo k (Or.inr (Or.inr (Or.inl (e'.trans hg)))))
        · exact Or.inr (by omega)
      · exact Or.inl (hfo k (Or.inr (Or.inr (Or.inr (Or.inl e)))))
      · exact Or.inl (hfo k (Or.inr (Or.inr (Or.inr (Or.inr (Or.inl e))))))
      · have e' : v.ownBlock = some k := e
        rcases hv with hv | ⟨k', hv, hk'⟩
        · exact Or.inl (hfo k (Or.inr (Or.inr (Or.inr (Or.inr (Or.inr (Or.inl (hv ▸ e'))))))))
        · rw [hv] at e'
          cases e'
          exact Or.inr hk'
      · exact Or.inl (hfo k (Or.inr (Or.inr (Or.inr (Or.inr (Or.inr (Or.inr e)))))))
  clear h h2 k2 k3 hp3 hl3 hg hv hfo hF hf
  go_wp2_with fail
  go_ret
  exact hfin

/-- What take does: the lowest free block of the class, or a new one. -/
def listT (d : AD) (c : Nat) : Nat × AD := match d.fm (c : Int) with
  | some (z :: r) => (z.toNat, d.retook c z.toNat r)
  | _ => (d.bs.length, d.took c)
/-- The lists rise. -/
def AD.rises (d : AD) : Prop := ∀ x xs, d.fm x = some xs → xs.Pairwise (· < ·)

theorem take_list {w : World} {p : Nat} {F : Nat → Prop} {d : AD} (h : Arena w p F d) (hF : d.Fine) (hR : d.rises) (c : Nat) (hc : d.bs.length + c ≤ 134217728) :
    Calls Try.prog 42 #[.pointer (some ⟨p, 0, none⟩), .int .i64 (c : Int)] w fun e w' => TakePost w p F (listT d c).1 (listT d c).2 e w' := by
  unfold listT
  cases hf : d.fm (c : Int) with
  | none => exact take_more h hF c hc (Or.inl hf)
  | some xs =>
    cases xs with
    | nil => exact take_more h hF c hc (Or.inr hf)
    | cons z r =>
      have hs := hR _ _ hf
      obtain ⟨_, y, hy, e1, e2⟩ := hF.free.mem _ _ hf z (by simp)
      have ht := tiles_mem hF.tiles hy
      obtain ⟨z', rfl⟩ : ∃ z' : Nat, z = (z' : Int) := ⟨y.1, e1⟩
      have hlen := length_le_of_subset (hF.free.nodup _ _ hf) (l := d.begins) (fun q hq => by
        obtain ⟨_, t, ht, e, _⟩ := hF.free.mem _ _ hf q hq
        exact List.mem_map.2 ⟨t, ht, e.symm⟩)
      rw [AD.begins_length] at hlen
      have hL := tiles_length hF.tiles
      have hm := hF.most
      simp only [Int.toNat_natCast]
      exact take_again h hF c z' r (by omega) hf hs (by simp at hlen; omega) (by omega)
end Go.Proofs.Ytgmcpjklgacdpaa
/-
  What taking and freeing keep of the data.
-/
namespace Go.Proofs.Ytgmcpjklgacdpaa
open Go.RowKit Go.Shelf

theorem lt_of_le_nodup {xs : List Int} (h : xs.Pairwise (· ≤ ·)) (n : xs.Nodup) : xs.Pairwise (· < ·) :=
  (List.Pairwise.and h (List.nodup_iff_pairwise_ne.1 n)).imp (fun {a b} e => by have := e.1; have := e.2; omega)
theorem AD.rises.gone {d d' : AD} (hR : d.rises) (F : d.Fine) {z : Int} (hg : Gone d z d') : d'.rises := by
  have F' := F.gone hg
  obtain ⟨s, hz, rfl⟩ := hg
  intro x xs hx
  have hnd := F'.free.nodup x xs hx
  have hx : upd d.fm (s : Int) (some (rising ((d.fm (s : Int)).getD [] ++ [z]))) x = some xs := hx
  by_cases e : x = (s : Int)
  · subst e
    rw [upd_same] at hx
    cases hx
    exact lt_of_le_nodup (rising_sorted _) hnd
  · rw [upd_other _ _ _ _ e] at hx
    exact hR x xs hx
theorem AD.rises.gones : ∀ {d : AD} {zs : List Int} {d' : AD}, d.rises → d.Fine → Gones d zs d' → d'.rises
  | _, [], _, hR, _, h => by cases h; exact hR
  | _, _ :: _, _, hR, F, ⟨_, h1, h2⟩ => (hR.gone F h1).gones (F.gone h1) h2
theorem AD.rises.took {d : AD} (hR : d.rises) (n : Nat) : (d.took n).rises := hR
theorem AD.retook_fm (d : AD) (n z : Nat) (r : List Int) : (d.retook n z r).fm = upd d.fm (n : Int) (some r) := rfl
theorem AD.retook_lv (d : AD) (n z : Nat) (r : List Int) : (d.retook n z r).lv = upd d.lv (z : Int) (some (n : Int)) := rfl
theorem AD.retook_L (d : AD) (n z : Nat) (r : List Int) : (d.retook n z r).L = d.L := rfl
theorem AD.retook_used (d : AD) (n z : Nat) (r : List Int) : (d.retook n z r).used = d.used + n := rfl
theorem AD.retook_bs (d : AD) (n z : Nat) (r : List Int) : (d.retook n z r).bs = splice d.bs z (zeros n) := rfl
theorem AD.rises.retook {d : AD} (hR : d.rises) {n z : Nat} {r : List Int} (hf : d.fm (n : Int) = some ((z : Int) :: r)) : (d.retook n z r).rises := by
  intro x xs hx
  rw [AD.retook_fm] at hx
  by_cases e : x = (n : Int)
  · subst e
    rw [upd_same] at hx
    cases hx
    exact (List.pairwise_cons.1 (hR _ _ hf)).2
  · rw [upd_other _ _ _ _ e] at hx
    exact hR x xs hx
theorem AD.Fine.retook {d : AD} (F : d.Fine) {n z : Nat} {r : List Int} (hf : d.fm (n : Int) = some ((z : Int) :: r)) (h2 : d.used + n ≤ d.limit) : (d.retook n z r).Fine := by
  obtain ⟨hlz, y, hy, e1, e2⟩ := F.free.mem _ _ hf (z : Int) (by simp)
  have hyz : y = (z, n) := by
    cases y
    simp at e1 e2 ⊢
    omega
  subst hyz
  have ht := tiles_mem F.tiles hy
  have hlen : (splice d.bs z (zeros n)).length = d.bs.length := splice_length (by rw [zeros_length]; exact ht.2.2)
  have hback : ∀ x, upd (upd d.lv (z : Int) (some (n : Int))) (z : Int) none x = d.lv x := fun x => by
    by_cases e : x = (z : Int)
    · rw [e, upd_same, hlz]
    · rw [upd_other _ _ _ _ e, upd_other _ _ _ _ e]
  have hnd := List.nodup_cons.1 (F.free.nodup _ _ hf)
  refine ⟨?_, fun x s hx => ?_, ?_, F.lim, h2, ?_, ?_⟩
  · rw [AD.retook_L, AD.retook_bs, hlen]
    exact F.tiles
  · rw [AD.retook_lv] at hx
    by_cases e : x = (z : Int)
    · subst e
      rw [upd_same] at hx
      cases hx
      exact ⟨z, n, rfl, rfl, hy⟩
    · rw [upd_other _ _ _ _ e] at hx
      exact F.live x s hx
  · rw [AD.retook_bs, hlen]
    exact F.most
  · rw [AD.retook_used, AD.retook_L, AD.retook_lv, liveSum_gone (lv := upd d.lv (z : Int) (some (n : Int))) F.tiles hy (by rw [upd_same]; rfl), F.sum]
    congr 1
    exact liveSum_congr (fun x _ => by rw [hback])
  · rw [AD.retook_L, AD.retook_lv, AD.retook_fm]
    have hother : ∀ x xs, upd d.fm (n : Int) (some r) x = some xs → ∃ ys, d.fm x = some ys ∧ ∀ q ∈ xs, q ∈ ys ∧ q ≠ (z : Int) := fun x xs hx => by
      by_cases e : x = (n : Int)
      · subst e
        rw [upd_same] at hx
        cases hx
        exact ⟨_, hf, fun q hq => ⟨by simp [hq], fun e => hnd.1 (e ▸ hq)⟩⟩
      · rw [upd_other _ _ _ _ e] at hx
        refine ⟨xs, hx, fun q hq => ⟨hq, fun e2 => ?_⟩⟩
        obtain ⟨_, t, ht, g1, g2⟩ := F.free.mem x xs hx q hq
        have := tiles_unique F.tiles ht hy (by simp; omega)
        subst this
        exact e g2
    refine ⟨fun x xs hx => ?_, fun x xs hx => ?_, fun x xs hx q hq => ?_, fun t ht hl => ?_⟩
    · by_cases e : x = (n : Int)
      · subst e
        rw [upd_same] at hx
        cases hx
        exact hnd.2
      · rw [upd_other _ _ _ _ e] at hx
        exact F.free.nodup x xs hx
    · obtain ⟨ys, h1, _⟩ := hother x xs hx
      exact F.free.size x ys h1
    · obtain ⟨ys, h1, h3⟩ := hother x xs hx
      obtain ⟨g1, t, g2⟩ := F.free.mem x ys h1 q (h3 q hq).1
      exact ⟨by rw [upd_other _ _ _ _ (h3 q hq).2]; exact g1, t, g2⟩
    · by_cases e0 : ((t.1 : Nat) : Int) = (z : Int)
      · rw [e0, upd_same] at hl
        cases hl
      · rw [upd_other _ _ _ _ e0] at hl
        obtain ⟨xs, g1, g2⟩ := F.free.all t ht hl
        by_cases e : ((t.2 : Nat) : Int) = (n : Int)
        · rw [e, upd_same]
          rw [e, hf] at g1
          cases g1
          rcases List.mem_cons.1 g2 with g | g
          · exact absurd g e0
          · exact ⟨r, rfl, g⟩
        · rw [upd_other _ _ _ _ e]
          exact ⟨xs, g1, g2⟩
end Go.Proofs.Ytgmcpjklgacdpaa
/-
  The memory is never too small.
-/
namespace Go.Proofs.Ytgmcpjklgacdpaa
open Go.RowKit Go.Shelf

/-- The bytes of all blocks of the class c. -/
def classSum (L : List (Nat × Nat)) (c : Nat) : Nat := (L.map (fun x => if x.2 = c then x.2 else 0)).sum
theorem classSum_cons (x : Nat × Nat) (L : List (Nat × Nat)) (c : Nat) : classSum (x :: L) c = (if x.2 = c then x.2 else 0) + classSum L c := by simp [classSum]
theorem classSum_append (L M : List (Nat × Nat)) (c : Nat) : classSum (L ++ M) c = classSum L c + classSum M c := by simp [classSum]
theorem tiles_end : ∀ {s : Nat} {L : List (Nat × Nat)} {e : Nat}, Tiles s L e → e = s + (L.map Prod.snd).sum
  | _, [], _, h => by rw [Tiles] at h; simp; omega
  | _, _ :: _, _, h => by have := tiles_end h.2.2; simp; omega
theorem sum_add (l : List Nat) (f g : Nat → Nat) : (l.map (fun c => f c + g c)).sum = (l.map f).sum + (l.map g).sum := by
  induction l with
  | nil => rfl
  | cons a r ih => simp [ih]; omega
theorem le_sum {l : List Nat} {f : Nat → Nat} {c : Nat} (h : c ∈ l) : f c ≤ (l.map f).sum := by
  induction l with
  | nil => cases h
  | cons a r ih =>
    rcases List.mem_cons.1 h with rfl | h
    · simp
    · have := ih h
      simp
      omega
theorem sum_le {l : List Nat} {f : Nat → Nat} {m : Nat} (h : ∀ c, f c ≤ m) : (l.map f).sum ≤ l.length * m := by
  induction l with
  | nil => simp
  | cons a r ih =>
    have := h a
    simp [Nat.succ_mul]
    omega
theorem sizes_le : ∀ {L : List (Nat × Nat)}, (∀ y ∈ L, y.2 ∈ classList) → (L.map Prod.snd).sum ≤ (classList.map (classSum L)).sum
  | [], _ => by simp
  | x :: L, h => by
    have h1 := sizes_le (L := L) (fun y hy => h y (by simp [hy]))
    have h2 : classSum (x :: L) = fun c => (if x.2 = c then x.2 else 0) + classSum L c := by funext c; exact classSum_cons x L c
    rw [h2, sum_add]
    have h3 := le_sum (f := fun c => if x.2 = c then x.2 else 0) (h x (by simp))
    simp only [if_true] at h3
    simp only [List.map_cons, List.sum_cons]
    omega
/-- What taking and freeing keep. -/
structure AD.Well (d : AD) : Prop where
  rises : d.rises
  sizes : ∀ y ∈ d.L, y.2 ∈ classList
  most : ∀ c, classSum d.L c ≤ d.limit
theorem AD.Well.room {d : AD} (h : d.Well) (F : d.Fine) : d.bs.length ≤ 16 + 32 * d.limit := by
  have h1 := tiles_end F.tiles
  have h2 := sizes_le h.sizes
  have h3 := sum_le (l := classList) h.most
  have h4 : classList.length = 32 := by decide
  rw [h4] at h3
  omega
theorem live_class : ∀ {L : List (Nat × Nat)} {lv : Int → Option Int} {c : Nat}, (∀ y ∈ L, y.2 = c → (lv (y.1 : Int)).isSome = true) → classSum L c ≤ liveSum L lv
  | [], _, _, _ => by simp [classSum]
  | x :: L, lv, c, h => by
    have h1 := live_class (L := L) (lv := lv) (c := c) (fun y hy => h y (by simp [hy]))
    rw [classSum_cons, liveSum_cons]
    by_cases e : x.2 = c
    · rw [if_pos e, h x (by simp) e]
      simp
      omega
    · rw [if_neg e]
      omega
theorem AD.Well.took {d : AD} (h : d.Well) (F : d.Fine) {c : Nat} (hc : c ∈ classList) (hf : d.fm (c : Int) = none ∨ d.fm (c : Int) = some []) (h2 : d.used + c ≤ d.limit) : (d.took c).Well := by
  refine ⟨h.rises.took c, fun y hy => ?_, fun k => ?_⟩
  · rw [AD.took_L] at hy
    rcases List.mem_append.1 hy with hy | hy
    · exact h.sizes y hy
    · rw [List.mem_singleton.1 hy]
      exact hc
  · rw [AD.took_L, AD.took_limit, classSum_append, classSum_cons]
    have e0 : classSum [] k = 0 := rfl
    have hm := h.most k
    by_cases e : c = k
    · subst e
      have h3 : classSum d.L c ≤ liveSum d.L d.lv := live_class (fun y hy e => by
        cases hl : d.lv (y.1 : Int) with
        | some s => rfl
        | none =>
          obtain ⟨xs, g1, g2⟩ := F.free.all y hy hl
          rw [e] at g1
          rcases hf with hf | hf
          · rw [hf] at g1; cases g1
          · rw [hf] at g1; cases g1; cases g2)
      rw [← F.sum] at h3
      simp
      omega
    · simp [e]
      omega
theorem AD.Well.retook {d : AD} (h : d.Well) {n z : Nat} {r : List Int} (hf : d.fm (n : Int) = some ((z : Int) :: r)) : (d.retook n z r).Well := ⟨h.rises.retook hf, h.sizes, h.most⟩
theorem AD.Well.gone {d d' : AD} (h : d.Well) (F : d.Fine) {z : Int} (hg : Gone d z d') : d'.Well := by
  refine ⟨h.rises.gone F hg, ?_, ?_⟩
  · rw [hg.L]; exact h.sizes
  · rw [hg.L, hg.limit]; exact h.most
end Go.Proofs.Ytgmcpjklgacdpaa
/-
  take, whatever was freed.
-/
namespace Go.Proofs.Ytgmcpjklgacdpaa
open Go.RowKit Go.Shelf

theorem listOK : TakeOK listT AD.Well where
  call := fun {w p F d} c hG hF h _ _ h3 => by
    have h1 := hG.room hF
    have h2 := hF.lim
    exact take_list h hF hG.rises c (by omega)
  fine := fun {d} c hG hF hc _ h3 => by
    have h16 := (show ∀ c ∈ classList, 16 ≤ c by decide) c hc
    have h1 := hG.room hF
    have h2 := hF.lim
    have hnew : (d.fm (c : Int) = none ∨ d.fm (c : Int) = some []) → (d.took c).Fine ∧ (d.took c).Well ∧ (d.took c).used = d.used + c ∧ (d.took c).limit = d.limit ∧ d.bs.length ≤ 134217728 := fun hf =>
      ⟨hF.took (by omega) (by omega) h3, hG.took hF hc hf h3, rfl, rfl, by omega⟩
    unfold listT
    cases hf : d.fm (c : Int) with
    | none => exact hnew (Or.inl hf)
    | some xs =>
      cases xs with
      | nil => exact hnew (Or.inr hf)
      | cons z r =>
        obtain ⟨_, y, hy, e1, _⟩ := hF.free.mem _ _ hf z (by simp)
        obtain ⟨z', rfl⟩ : ∃ z' : Nat, z = (z' : Int) := ⟨y.1, e1⟩
        have ht := tiles_mem hF.tiles hy
        simp only [Int.toNat_natCast]
        exact ⟨hF.retook hf h3, hG.retook hf, rfl, rfl, by omega⟩
end Go.Proofs.Ytgmcpjklgacdpaa
namespace Go.Proofs.Ytgmcpjklgacdpaa
open Go.RowKit Go.Shelf

set_option maxRecDepth 100000 in
set_option maxHeartbeats 1000000 in
theorem allocAll_no {w : World} {p : Nat} {F : Nat → Prop} {d : AD} (h : Arena w p F d) (hF : d.Fine) (a : Option Addr) (cap : Nat) (zs : List Int) (hbig : zs.length ≤ 140737488355328) (hz : IntsAt w a zs) (x : Int) (hx : refE d zs = x) (hx0 : ¬ x = 0) :
    Calls Try.prog 18 #[.pointer (some ⟨p, 0, none⟩), .slice a zs.length cap] w fun e w' => e = .returned (.tuple #[.slice none 0 0, .int .i64 x]) ∧ Keeps w w' (fun _ => False) := by
  have hR : Calls Try.prog 41 #[.pointer (some ⟨p, 0, none⟩), .slice a zs.length cap] w fun e w' => RefPost w x e w' := by
    obtain ⟨c, hc, _⟩ := h
    have := refused_any hc hF a cap zs hbig hz
    rwa [hx] at this
  have hx1 : (x != 0) = true := by simpa using hx0
  clear hx hz
  go_enter Try.func18, Try.ntmps18
  go_wp2_with fail
  refine hR.mono ?_
  rintro e w1 ⟨rfl, k1⟩
  clear hR
  go_wp2_with fail
  go_ret2
  exact ⟨rfl, k1⟩

set_option maxRecDepth 100000 in
set_option maxHeartbeats 1000000 in
theorem alloc_no {w : World} {p : Nat} {F : Nat → Prop} {d : AD} (h : Arena w p F d) (hF : d.Fine) (n : Nat) (h1 : 1 ≤ n) (h2 : n ≤ 1048576) (h3 : d.limit < d.used + classN n) :
    Calls Try.prog 12 #[.pointer (some ⟨p, 0, none⟩), .int .i64 (n : Int)] w fun e w' => e = .returned (.tuple #[.int .i64 0, .int .i64 22]) ∧ Keeps w w' (fun _ => False) := by
  have hcn : classI (n : Int) = (classN n : Int) := by unfold classI; rw [if_pos (by omega)]; simp
  have hu := hF.use
  have hE : refE d [(n : Int)] = 22 := by
    unfold refE
    have ha : allOne [(n : Int)] := fun z hz => by simp at hz; omega
    rw [if_pos ha]
    have hf : fitsIn ((d.limit : Int) - (d.used : Int)) [(n : Int)] = false := by
      simp only [fitsIn]
      rw [if_pos (by rw [hcn]; omega)]
    rw [hf]
    rfl
  have k0 : Keeps w (w.alloc (.cells #[.int .i64 (n : Int)] 3)) (fun _ => False) := (Keeps.refl _ _).alloc _
  have hA := allocAll_no (h.keeps k0 (fun _ _ _ e => e)) hF (some ⟨w.heap.size, 0, none⟩) 1 [(n : Int)] (by simp) (fun j hj => by
    have hj0 : j = 0 := by simpa using hj
    subst hj0
    refine ⟨w.heap.size, 0, rfl, ?_⟩
    simp only [World.cell?, heap_alloc_new]
    simp) 22 hE (by omega)
  simp only [List.length_cons, List.length_nil, Nat.zero_add] at hA
  clear hE h hF
  go_enter Try.func12, Try.ntmps12
  go_wp2_with fail
  refine hA.mono ?_
  rintro e w2 ⟨rfl, k2⟩
  clear hA
  go_wp2_with fail
  go_ret2
  exact ⟨rfl, k0.trans k2 (fun _ _ e => e)⟩
end Go.Proofs.Ytgmcpjklgacdpaa
