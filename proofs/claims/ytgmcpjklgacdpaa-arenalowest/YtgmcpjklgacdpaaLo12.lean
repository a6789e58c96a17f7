import Derived.Test.YtgmcpjklgacdpaaLo11
namespace Go.Proofs.Ytgmcpjklgacdpaa
open Go.RowKit Go.Shelf

theorem AD.fresh_well (limit : Nat) : (AD.fresh limit).Well :=
  ⟨fun x xs h => by simp [AD.fresh] at h, fun y hy => by simp [AD.fresh] at hy, fun c => by simp [AD.fresh, classSum]⟩

/-- The i-th block's place where all blocks are of class c. -/
def seatAt (c i : Nat) : Int := 16 + (i : Int) * (c : Int)

/-- g blocks of one class, those of fl free. -/
structure St (d : AD) (c g : Nat) (fl : List Int) : Prop where
  fine : d.Fine
  well : d.Well
  lim : d.limit = 2097152
  len : d.bs.length = 16 + g * c
  use : d.used + fl.length * c = g * c
  lv : ∀ i, i < g → seatAt c i ∉ fl → d.lv (seatAt c i) = some (c : Int)
  fm : d.fm (c : Int) = some fl ∨ (fl = [] ∧ d.fm (c : Int) = none)

theorem St.fresh (c : Nat) : St (AD.fresh 2097152) c 0 [] :=
  ⟨AD.fresh_fine (by omega), AD.fresh_well _, rfl, by simp [AD.fresh, zeros_length], by simp [AD.fresh], fun i hi => by omega, Or.inr ⟨rfl, rfl⟩⟩

theorem seat_inj {c i j : Nat} (hc : 0 < c) (h : seatAt c i = seatAt c j) : i = j := by
  unfold seatAt at h
  have : (i : Int) * (c : Int) = (j : Int) * (c : Int) := by omega
  have h2 := Int.eq_of_mul_eq_mul_right (by omega) this
  omega

/-- A new block. -/
theorem St.more {d : AD} {c g : Nat} (h : St d c g []) (hc : c ∈ classList) (hc2 : c ≤ 1048576) (hr : (g + 1) * c ≤ 2097152) : (listT d c).1 = 16 + g * c ∧ St (listT d c).2 c (g + 1) [] := by
  have h16 := (show ∀ c ∈ classList, 16 ≤ c by decide) c hc
  have hu := h.use
  simp only [List.length_nil, Nat.zero_mul, Nat.add_zero] at hu
  have hstep : (g + 1) * c = g * c + c := by rw [Nat.add_mul, Nat.one_mul]
  have hT : listT d c = (d.bs.length, d.took c) := by
    unfold listT
    rcases h.fm with e | ⟨_, e⟩ <;> rw [e]
  have hok := listOK.fine c h.well h.fine hc hc2 (by rw [h.lim]; omega)
  rw [hT] at hok ⊢
  obtain ⟨f1, f2, f3, f4, f5⟩ := hok
  refine ⟨h.len, f1, f2, f4.trans h.lim, ?_, ?_, ?_, ?_⟩
  · show (d.bs ++ zeros c).length = _
    rw [List.length_append, zeros_length, h.len]
    omega
  · show (d.took c).used + ([] : List Int).length * c = _
    rw [f3]
    simp
    omega
  · intro i hi _
    show upd d.lv (d.bs.length : Int) (some (c : Int)) (seatAt c i) = _
    unfold upd
    by_cases hg : i = g
    · rw [if_pos]
      rw [h.len, hg]
      unfold seatAt
      push_cast
      rfl
    · rw [if_neg]
      · exact h.lv i (by omega) (by simp)
      · intro e
        refine hg (seat_inj (c := c) (by omega) ?_)
        rw [e, h.len]
        unfold seatAt
        push_cast
        rfl
  · rcases h.fm with e | ⟨e0, e⟩
    · exact Or.inl e
    · exact Or.inr ⟨e0, e⟩

/-- The lowest free block again. -/
theorem St.again {d : AD} {c g : Nat} {z : Int} {r : List Int} (h : St d c g (z :: r)) (hc : c ∈ classList) (hc2 : c ≤ 1048576) (hg : g * c ≤ 2097152) : ((listT d c).1 : Int) = z ∧ St (listT d c).2 c g r := by
  have hu := h.use
  have hfm : d.fm (c : Int) = some (z :: r) := by
    rcases h.fm with e | ⟨e0, _⟩
    · exact e
    · cases e0
  have hlen : (z :: r).length * c = r.length * c + c := by rw [List.length_cons, Nat.add_mul, Nat.one_mul]
  have hT : listT d c = (z.toNat, d.retook c z.toNat r) := by
    unfold listT
    rw [hfm]
  have hok := listOK.fine c h.well h.fine hc hc2 (by rw [h.lim]; omega)
  obtain ⟨_, y, hy, e1, _⟩ := h.fine.free.mem _ _ hfm z (by simp)
  have hnd := h.fine.free.nodup _ _ hfm
  have ez : ((z.toNat : Nat) : Int) = z := by omega
  have ht := tiles_mem h.fine.tiles hy
  rw [hT] at hok ⊢
  obtain ⟨f1, f2, f3, f4, f5⟩ := hok
  refine ⟨ez, f1, f2, f4.trans h.lim, ?_, ?_, ?_, ?_⟩
  · have hcl : z.toNat + c ≤ d.bs.length := by
      have := (h.fine.free.mem _ _ hfm z (by simp)).2
      obtain ⟨y', hy', e1', e2'⟩ := this
      have := tiles_mem h.fine.tiles hy'
      simp at *
      omega
    show (splice d.bs z.toNat (zeros c)).length = _
    rw [splice_length (by rw [zeros_length]; exact hcl)]
    exact h.len
  · show (d.retook c z.toNat r).used + _ = _
    rw [f3]
    omega
  · intro i hi hm
    show upd d.lv ((z.toNat : Nat) : Int) (some (c : Int)) (seatAt c i) = _
    rw [ez]
    unfold upd
    by_cases he : seatAt c i = z
    · rw [if_pos he]
    · rw [if_neg he]
      exact h.lv i hi (by simp [he, hm])
  · left
    show upd d.fm (c : Int) (some r) (c : Int) = some r
    simp [upd]

/-- One freed. -/
theorem St.gone {d d' : AD} {c g i : Nat} {fl : List Int} (h : St d c g fl) (hi : i < g) (hm : seatAt c i ∉ fl) (hc : 0 < c) (hG : Gone d (seatAt c i) d') : St d' c g (rising (fl ++ [seatAt c i])) := by
  have hl := h.lv i hi hm
  have hf' := h.fine.gone hG
  have hw' := h.well.gone h.fine hG
  obtain ⟨s, hs, rfl⟩ := hG
  rw [hl] at hs
  have es : s = c := by
    have := Option.some.inj hs
    omega
  subst es
  have hlen : (rising (fl ++ [seatAt s i])).length = fl.length + 1 := by
    rw [(rising_perm _).length_eq]
    simp
  have hu := h.use
  have hfl : (d.fm (s : Int)).getD [] = fl := by
    rcases h.fm with e | ⟨e0, e⟩
    · rw [e]; rfl
    · rw [e, e0]; rfl
  have hpos : s ≤ d.used := by
    obtain ⟨o, n, e1, e2, hmem⟩ := h.fine.live _ _ hl
    have hsum := liveSum_gone (lv := d.lv) h.fine.tiles hmem (by rw [← e1, hl]; rfl)
    have := h.fine.sum
    omega
  refine ⟨hf', hw', h.lim, h.len, ?_, ?_, ?_⟩
  · show d.used - s + _ = _
    rw [hlen, Nat.add_mul, Nat.one_mul]
    omega
  · intro j hj hjm
    show upd d.lv (seatAt s i) none (seatAt s j) = _
    unfold upd
    rw [if_neg]
    · refine h.lv j hj fun e => hjm ?_
      exact (rising_perm _).mem_iff.2 (by simp [e])
    · intro e
      exact hjm ((rising_perm _).mem_iff.2 (by simp [e]))
  · left
    show upd d.fm (s : Int) (some (rising ((d.fm (s : Int)).getD [] ++ [seatAt s i]))) (s : Int) = _
    rw [hfl]
    simp [upd]
end Go.Proofs.Ytgmcpjklgacdpaa
namespace Go.Proofs.Ytgmcpjklgacdpaa
open Go.RowKit Go.Shelf

theorem Own.fence {w w1 : World} {p : Nat} {d : AD} (h : Own w w1 p (fun _ => False) d) : Own w w1 p (fun k => w1.heap.size ≤ k) d :=
  ⟨h.here.mono (fun i _ e => ⟨e.1.1, by have := e.2; omega⟩), h.keeps⟩
theorem Own.grow {w w1 w2 : World} {p H : Nat} {d : AD} (h : Own w w1 p (fun k => H ≤ k) d) (hH : w.heap.size ≤ H) (k : Keeps w1 w2 (fun k => H ≤ k)) : Own w w2 p (fun k => H ≤ k) d :=
  ⟨h.arena.keeps k (fun _ _ e s => e.2 s), h.keeps.trans k (fun i hi e => by omega)⟩
theorem Own.one {w w1 : World} {p H b : Nat} {d : AD} (h : Own w w1 p (fun k => H ≤ k) d) (hb : H ≤ b) : Own w w1 p (fun k => k = b) d :=
  h.less (fun k _ _ e => by omega)

section
variable {w w1 : World} {p : Nat} {X : Nat → Prop} {d : AD} {c g n : Nat}
theorem lo_more (h : Own w w1 p X d) (hX : ∀ k, X k → k < w1.heap.size) (hS : St d c g []) (hn : classN n = c) (h1 : 1 ≤ n) (h2 : n ≤ 1048576) (hr : (g + 1) * c ≤ 2097152) :
    Calls Try.prog 12 #[.pointer (some ⟨p, 0, none⟩), .int .i64 (n : Int)] w1 fun e w' => e = .returned (.tuple #[.int .i64 (seatAt c g), .int .i64 0]) ∧ ∃ d', St d' c (g + 1) [] ∧ Own w w' p X d' ∧ ∀ k, X k → w'.heap[k]? = w1.heap[k]? := by
  have hcl := class_le n h1 h2
  have hci := class_in n h1 h2
  rw [hn] at hcl hci
  have hm := hS.more hci hcl.2.2.1 hr
  have hu := hS.use
  simp only [List.length_nil, Nat.zero_mul, Nat.add_zero] at hu
  have hstep : (g + 1) * c = g * c + c := by rw [Nat.add_mul, Nat.one_mul]
  refine (own_alloc h hS.fine listOK hS.well n h1 h2 (by rw [hn, hS.lim]; omega)).mono ?_
  rintro e w' ⟨rfl, ht⟩
  rw [hn] at ht ⊢
  rw [hm.1]
  refine ⟨by unfold seatAt; push_cast; rfl, _, hm.2, h.turn ht hX, fun k hk => Own.rest ht (hX k hk) (Or.inl hk)⟩
theorem lo_again {z : Int} {r : List Int} (h : Own w w1 p X d) (hX : ∀ k, X k → k < w1.heap.size) (hS : St d c g (z :: r)) (hn : classN n = c) (h1 : 1 ≤ n) (h2 : n ≤ 1048576) (hg : g * c ≤ 2097152) :
    Calls Try.prog 12 #[.pointer (some ⟨p, 0, none⟩), .int .i64 (n : Int)] w1 fun e w' => e = .returned (.tuple #[.int .i64 z, .int .i64 0]) ∧ ∃ d', St d' c g r ∧ Own w w' p X d' ∧ ∀ k, X k → w'.heap[k]? = w1.heap[k]? := by
  have hcl := class_le n h1 h2
  have hci := class_in n h1 h2
  rw [hn] at hcl hci
  have hm := hS.again hci hcl.2.2.1 hg
  have hu := hS.use
  have hlen : (z :: r).length * c = r.length * c + c := by rw [List.length_cons, Nat.add_mul, Nat.one_mul]
  refine (own_alloc h hS.fine listOK hS.well n h1 h2 (by rw [hn, hS.lim]; omega)).mono ?_
  rintro e w' ⟨rfl, ht⟩
  rw [hn] at ht ⊢
  rw [hm.1]
  exact ⟨rfl, _, hm.2, h.turn ht hX, fun k hk => Own.rest ht (hX k hk) (Or.inl hk)⟩
theorem lo_no (h : Own w w1 p X d) (hS : St d c g []) (hn : classN n = c) (h1 : 1 ≤ n) (h2 : n ≤ 1048576) (hr : 2097152 < (g + 1) * c) :
    Calls Try.prog 12 #[.pointer (some ⟨p, 0, none⟩), .int .i64 (n : Int)] w1 fun e w' => e = .returned (.tuple #[.int .i64 0, .int .i64 22]) ∧ Own w w' p X d ∧ ∀ k, k < w1.heap.size → w'.heap[k]? = w1.heap[k]? := by
  have hu := hS.use
  simp only [List.length_nil, Nat.zero_mul, Nat.add_zero] at hu
  have hstep : (g + 1) * c = g * c + c := by rw [Nat.add_mul, Nat.one_mul]
  refine (alloc_no h.here hS.fine n h1 h2 (by rw [hn, hS.lim]; omega)).mono ?_
  rintro e w' ⟨rfl, k⟩
  exact ⟨rfl, h.stay k, fun i hi => k.block i hi id⟩
theorem lo_free {i : Nat} {fl : List Int} (h : Own w w1 p X d) (hX : ∀ k, X k → k < w1.heap.size) (hS : St d c g fl) (hi : i < g) (hm : seatAt c i ∉ fl) (hc : 0 < c) :
    Calls Try.prog 13 #[.pointer (some ⟨p, 0, none⟩), .slice (some ⟨w1.heap.size, 0, none⟩) 1 1] (w1.alloc (.cells #[.int .i64 (seatAt c i)] 3)) fun e w' => e = .returned (.int .i64 0) ∧ ∃ d', St d' c g (rising (fl ++ [seatAt c i])) ∧ Own w w' p X d' ∧ ∀ k, X k → w'.heap[k]? = w1.heap[k]? := by
  refine (own_free1 h hS.fine (seatAt c i) (c : Int) (hS.lv i hi hm) hX).mono ?_
  rintro e w' ⟨rfl, d', hG, ho, kk⟩
  exact ⟨rfl, d', hS.gone hi hm hc hG, ho, fun k hk => kk.block k (hX k hk) (fun e => e.1.2 hk)⟩
theorem lo_end (h : Own w w1 p X d) : Calls Try.prog 14 #[.pointer (some ⟨p, 0, none⟩)] w1 fun e w' => e = .returned (.int .i64 (d.bs.length : Int)) ∧ w' = w1 := by
  obtain ⟨c, hc, _⟩ := h.arena
  exact end_any hc
theorem lo_live (h : Own w w1 p X d) : Calls Try.prog 15 #[.pointer (some ⟨p, 0, none⟩)] w1 fun e w' => e = .returned (.int .i64 (d.used : Int)) ∧ w' = w1 := by
  obtain ⟨c, hc, _⟩ := h.arena
  exact live_any hc
end

/-- Sorted lists of the same numbers are one. -/
theorem rising_again (l : List Int) (z : Int) : rising (rising l ++ [z]) = rising (l ++ [z]) := by
  have p1 : (rising (rising l ++ [z])).Perm (rising (l ++ [z])) :=
    ((rising_perm _).trans ((rising_perm l).append_right [z])).trans (rising_perm _).symm
  exact p1.eq_of_pairwise (le := (· ≤ ·)) (fun a b _ _ h1 h2 => by omega) (rising_sorted _) (rising_sorted _)
theorem rising_of_perm {l m : List Int} (hp : l.Perm m) (hm : m.Pairwise (· < ·)) : rising l = m :=
  ((rising_perm l).trans hp).eq_of_pairwise (le := (· ≤ ·)) (fun a b _ _ h1 h2 => by omega) (rising_sorted _) (hm.imp (fun h => by omega))
/-- A builtin append whose run is known. -/
theorem app_run {P : Program} (w : World) {ops : Array Oper} {rest : List Oper} {o : Oper} {a : Act} {Q : Exit → Act → World → Prop}
    (hgd : o.guard = none) (s x : Operand) (t : TypeId) (hop : o.op = Op.call { callee := Callee.builtin Builtin.append, args := #[s, x], argTypes := #[t, t] }) {v u v' : Value} {w' : World} (hs : a.eval s = v) (hx : a.eval x = u)
    (hrun : ∀ ty, (Builtin.append_ #[t, t] ty #[v, u]).run P w = .ok v' w') (hK : wpList P ops Q rest (a.put o.dst v') w') : wpList P ops Q (o :: rest) a w := by
  refine wpList_plain hgd fun K hK' => ?_
  unfold Oper.wp
  simp [execOp, hop, resolve, invoke, builtin, hs, hx, hrun, Result.andThen]
  exact hK' _ _ hK

/-- The free ones among the first j blocks, in their order. -/
def FsOK (c j : Nat) (fs : List Int) : Prop := fs.Pairwise (· < ·) ∧ (∀ z ∈ fs, ∃ i, i < j ∧ z = seatAt c i) ∧ fs.length ≤ j
theorem FsOK.skip {c j : Nat} {fs : List Int} (h : FsOK c j fs) : FsOK c (j + 1) fs :=
  ⟨h.1, fun z hz => by obtain ⟨i, hi, e⟩ := h.2.1 z hz; exact ⟨i, by omega, e⟩, by have := h.2.2; omega⟩
theorem seat_lt {c i j : Nat} (hc : 0 < c) (h : i < j) : seatAt c i < seatAt c j := by
  unfold seatAt
  have : (i : Int) * (c : Int) < (j : Int) * (c : Int) := Int.mul_lt_mul_of_pos_right (by omega) (by omega)
  omega
theorem FsOK.snoc {c j : Nat} {fs : List Int} (h : FsOK c j fs) (hc : 0 < c) : FsOK c (j + 1) (fs ++ [seatAt c j]) := by
  refine ⟨List.pairwise_append.2 ⟨h.1, by simp, fun a ha b hb => ?_⟩, fun z hz => ?_, by have := h.2.2; simp; omega⟩
  · obtain ⟨i, hi, rfl⟩ := h.2.1 a ha
    simp at hb
    subst hb
    exact seat_lt hc hi
  · rcases List.mem_append.1 hz with hz | hz
    · obtain ⟨i, hi, e⟩ := h.2.1 z hz
      exact ⟨i, by omega, e⟩
    · simp at hz
      exact ⟨j, by omega, hz⟩

/-- The block of a row. -/
def RowX (so : Option Addr) (k : Nat) : Prop := so = some ⟨k, 0, none⟩
/-- A row of numbers in a block of its own. -/
def RowAt (w : World) (so : Option Addr) (fs : List Int) : Prop := ∀ j (h : j < fs.length), ∃ b, so = some ⟨b, 0, none⟩ ∧ w.cell? ⟨b, j, none⟩ = some (.int .i64 fs[j])
theorem RowAt.kept {w w' : World} {so : Option Addr} {fs : List Int} (h : RowAt w so fs) (k : ∀ b, RowX so b → w'.heap[b]? = w.heap[b]?) : RowAt w' so fs := by
  intro j hj
  obtain ⟨b, e, hc⟩ := h j hj
  exact ⟨b, e, (World.cell?_of_block (k b e)).trans hc⟩
theorem row_of_own {w : World} {H : Nat} {v : Value} {fs : List Int} (h : w.ownsRow H 3 1 v fs.length (fs.map cellI)) :
    ∃ so cap, v = .slice so fs.length cap ∧ RowAt w so fs ∧ (∀ k, RowX so k → H ≤ k ∧ k < w.heap.size) := by
  rcases h.2 with ⟨e, e0⟩ | ⟨g, cap, cur, e, hb, hg, _⟩
  · refine ⟨none, 0, by rw [e, e0], fun j hj => by omega, fun k hk => by cases hk⟩
  · refine ⟨some ⟨g, 0, none⟩, cap, e, fun j hj => ⟨g, rfl, ?_⟩, fun k hk => ?_⟩
    · have := h.cells (g := g) (by rw [e]; rfl) j (.int .i64 fs[j]) (by simp [cellI, hj])
      rw [addr_add] at this
      simpa using this
    · cases hk
      exact ⟨hb, heap_lt hg⟩

/-- The order in which they are freed. -/
def freeOrder (down : Bool) (fs : List Int) : List Int := if down then fs.reverse else fs
theorem freeOrder_perm (down : Bool) (fs : List Int) : (freeOrder down fs).Perm fs := by
  unfold freeOrder
  cases down
  · exact List.Perm.refl _
  · exact List.reverse_perm fs
theorem freeOrder_length (down : Bool) (fs : List Int) : (freeOrder down fs).length = fs.length := (freeOrder_perm down fs).length_eq
theorem free_step_data {down : Bool} {fs : List Int} {k : Nat} (hk : k < (freeOrder down fs).length) (hs : fs.Pairwise (· < ·)) :
    (freeOrder down fs)[k] ∉ rising ((freeOrder down fs).take k) ∧ rising (rising ((freeOrder down fs).take k) ++ [(freeOrder down fs)[k]]) = rising ((freeOrder down fs).take (k + 1)) := by
  have hnd : (freeOrder down fs).Nodup := (freeOrder_perm down fs).nodup_iff.2 (hs.imp (fun h => by omega))
  refine ⟨fun hm => ?_, ?_⟩
  · have hm' := (rising_perm _).mem_iff.1 hm
    obtain ⟨i, hi, e⟩ := List.getElem_of_mem hm'
    have hi' : i < k := by simp at hi; omega
    rw [List.getElem_take] at e
    exact List.pairwise_iff_getElem.1 hnd i k (by omega) hk hi' e
  · rw [rising_again, List.take_succ_eq_append_getElem hk]
theorem rowx_lt {w w' : World} {so : Option Addr} (hX : ∀ b, RowX so b → b < w.heap.size) (k : ∀ b, RowX so b → w'.heap[b]? = w.heap[b]?) : ∀ b, RowX so b → b < w'.heap.size := fun b hb => by
  have h1 := hX b hb
  have h2 := k b hb
  rw [Array.getElem?_eq_getElem h1] at h2
  exact heap_lt h2
theorem row_up {w : World} {b : Nat} {fs : List Int} (h : RowAt w (some ⟨b, 0, none⟩) fs) {k : Nat} (hk : k < (freeOrder false fs).length) : w.cell? ⟨b, k, none⟩ = some (.int .i64 (freeOrder false fs)[k]) := by
  obtain ⟨b', e, hc⟩ := h k (by simpa [freeOrder] using hk)
  cases e
  exact hc
theorem row_order {w : World} {b : Nat} {fs : List Int} (h : RowAt w (some ⟨b, 0, none⟩) fs) {k : Nat} (hk : k < (freeOrder true fs).length) : w.cell? ⟨b, fs.length - 1 - k, none⟩ = some (.int .i64 (freeOrder true fs)[k]) := by
  have hk' : k < fs.length := by simpa [freeOrder] using hk
  obtain ⟨b', e, hc⟩ := h (fs.length - 1 - k) (by omega)
  cases e
  rw [hc]
  congr 2
  exact (List.getElem_reverse (l := fs) (i := k) (by simpa using hk')).symm
end Go.Proofs.Ytgmcpjklgacdpaa
