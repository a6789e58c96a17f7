import Derived.Sort.OwnSortedInts
import Derived.Below
import Derived.Test.YtdlibnjgmdffnaaGreatFn5
namespace Go.Proofs.YtdlibnjgmdffnaaGreat
open Go.RowKit Go.Shelf

theorem Keeps.ofBelow' {w w' : World} (h : Below w.heap.size w w') : Keeps w w' (fun _ => False) := ⟨h.os, h.tape, h.output, h.size, fun k hk _ => h.block k hk⟩
theorem values_any (a : Option Addr) (len cap : Nat) (w : World) :
    Calls Tryz.prog 77 #[.slice a len cap] w fun e w' => e = .returned (.func (.func 99) #[] #[.pointer (some ⟨w.heap.size, 0, none⟩)]) ∧ w' = w.alloc (.cells #[.slice a len cap] 32) :=
  callsIn_wide.1 (values_in Fence.wide 1 trivial rfl a len cap w)
def ListPost (w : World) (zs : List Int) (e : Ending) (w' : World) : Prop := ∃ v, e = .returned v ∧ w'.ownsRow w.heap.size 3 1 v zs.length (zs.map (Value.int .i64)) ∧ (v = .slice none 0 0 ↔ zs = []) ∧ Keeps w w' (fun _ => False)

set_option maxHeartbeats 400000 in
theorem collect_any (Bv : Nat) (a : Option Addr) (cap : Nat) (zs : List Int) (hbytes : zs.length * 8 ≤ 140737488351232) (w : World) (hBv : Bv < w.heap.size)
    (hc : w.cell? ⟨Bv, 0, none⟩ = some (.slice a zs.length cap)) (hI : IntsBelow w.heap.size w a zs) :
    Calls Tryz.prog 97 #[.func (.func 99) #[] #[.pointer (some ⟨Bv, 0, none⟩)]] w fun e w' => ListPost w zs e w' := by
  have hA := callsIn_wide.1 (appendSeq_in Fence.wide 3 trivial trivial rfl (Nat.le_refl _) Bv a cap zs hbytes w hBv hc hI)
  clear hc hI
  go_enter Tryz.func97, Tryz.ntmps97
  go_wp2_with fail
  refine hA.mono ?_
  rintro e w1 ⟨v, rfl, h1, h2, h3⟩
  have hf : Hid (ListPost w zs (.returned v) w1) := ⟨v, rfl, h1, h2, Keeps.ofBelow' h3⟩
  clear hA h1 h2 h3
  go_wp2_with fail
  go_ret
  exact hf.out

/-- In rising order. -/
def rising (zs : List Int) : List Int := zs.mergeSort fun x y => decide (x ≤ y)
theorem rising_length (zs : List Int) : (rising zs).length = zs.length := List.length_mergeSort _

set_option maxHeartbeats 400000 in
theorem sorted_any (Bv : Nat) (a : Option Addr) (cap : Nat) (zs : List Int) (hbytes : zs.length * 8 ≤ 140737488351232) (w : World) (hBv : Bv < w.heap.size)
    (hc : w.cell? ⟨Bv, 0, none⟩ = some (.slice a zs.length cap)) (hI : IntsBelow w.heap.size w a zs) :
    Calls Tryz.prog 76 #[.func (.func 99) #[] #[.pointer (some ⟨Bv, 0, none⟩)]] w fun e w' => ListPost w (rising zs) e w' := by
  have hC := collect_any Bv a cap zs hbytes w hBv hc hI
  clear hc hI
  go_enter Tryz.func76, Tryz.ntmps76
  go_wp2_with fail
  refine hC.mono ?_
  rintro e w1 ⟨v, rfl, h1, h2, h3⟩
  clear hC
  have hS : Calls Tryz.prog 98 #[v] w1 fun e w' => e = .returned (.tuple #[]) ∧ ListPost w (rising zs) (.returned v) w' := by
    rcases h1.2 with ⟨rfl, hn⟩ | ⟨g, cap', cur, rfl, hb, hg, hcap, hml, hsz, ht⟩
    · have hz : zs = [] := List.eq_nil_of_length_eq_zero hn
      subst hz
      refine (Tryz.slices_Sort_int_none none 0 w1).mono ?_
      rintro e w2 ⟨rfl, rfl⟩
      exact ⟨rfl, _, rfl, by simpa [rising] using h1, by simp [rising], h3⟩
    · rw [Nat.mul_one] at ht
      refine (Tryz.slices_Sort_int g 0 cap' zs w1 (Go.holds_of_blockI hg ht) (heap_lt hg) (by omega)).mono ?_
      rintro e w2 ⟨rfl, n, os, rfl⟩
      refine ⟨rfl, _, rfl, ?_, ?_, h3.trans (Keeps.ofGrown (Go.grownBy_sortedI _)) (fun i hi e => by cases e; omega)⟩
      · have := Go.ownsRow_sortedI (n := n) (os := os) (ts := rising zs) (ss := zs) (rising_length zs) hb hg hcap hml (by simpa using hsz)
        rw [rising_length]
        exact this
      · rw [h2]
        constructor
        · intro e
          subst e
          simp [rising]
        · intro e
          have := rising_length zs
          rw [e] at this
          exact List.eq_nil_of_length_eq_zero this.symm
  clear h1 h2 h3
  go_wp2_with fail
  refine hS.mono ?_
  rintro e w2 ⟨rfl, hp⟩
  have hf := hp
  clear hS hp
  have HF : Hid (ListPost w (rising zs) (.returned v) w2) := hf
  clear hf
  go_wp2_with fail
  go_ret
  exact HF.out
end Go.Proofs.YtdlibnjgmdffnaaGreat
/-
  Blocks are freed: the data.
-/
namespace Go.Proofs.YtdlibnjgmdffnaaGreat
open Go.RowKit Go.Shelf

/-- The block z of s bytes is freed. -/
def AD.gone (d : AD) (z : Int) (s : Nat) : AD := { d with used := d.used - s, lv := upd d.lv z none, fm := upd d.fm (s : Int) (some (rising ((d.fm (s : Int)).getD [] ++ [z]))) }
def Gone (d : AD) (z : Int) (d' : AD) : Prop := ∃ s : Nat, d.lv z = some (s : Int) ∧ d' = d.gone z s
theorem rising_perm (zs : List Int) : (rising zs).Perm zs := List.mergeSort_perm zs _
def Gones : AD → List Int → AD → Prop
  | d, [], d' => d' = d
  | d, z :: r, d' => ∃ d1, Gone d z d1 ∧ Gones d1 r d'
theorem Gones.snoc : ∀ {d : AD} {zs : List Int} {d1 : AD} {z : Int} {d2 : AD}, Gones d zs d1 → Gone d1 z d2 → Gones d (zs ++ [z]) d2
  | _, [], _, _, _, h, g => by cases h; exact ⟨_, g, rfl⟩
  | _, _ :: _, _, _, _, ⟨dm, h1, h2⟩, g => ⟨dm, h1, h2.snoc g⟩
theorem Gone.lv {d d' : AD} {z : Int} (h : Gone d z d') : d'.lv = upd d.lv z none := by
  obtain ⟨s, _, rfl⟩ := h
  rfl
theorem Gone.L {d d' : AD} {z : Int} (h : Gone d z d') : d'.L = d.L := by
  obtain ⟨s, _, rfl⟩ := h
  rfl
theorem Gone.bs {d d' : AD} {z : Int} (h : Gone d z d') : d'.bs = d.bs := by
  obtain ⟨s, _, rfl⟩ := h
  rfl
theorem Gone.limit {d d' : AD} {z : Int} (h : Gone d z d') : d'.limit = d.limit := by
  obtain ⟨s, _, rfl⟩ := h
  rfl
theorem Gones.L : ∀ {d : AD} {zs : List Int} {d' : AD}, Gones d zs d' → d'.L = d.L
  | _, [], _, h => by cases h; rfl
  | _, _ :: _, _, ⟨_, h1, h2⟩ => h2.L.trans h1.L
theorem Gones.bs : ∀ {d : AD} {zs : List Int} {d' : AD}, Gones d zs d' → d'.bs = d.bs
  | _, [], _, h => by cases h; rfl
  | _, _ :: _, _, ⟨_, h1, h2⟩ => h2.bs.trans h1.bs
theorem Gones.limit : ∀ {d : AD} {zs : List Int} {d' : AD}, Gones d zs d' → d'.limit = d.limit
  | _, [], _, h => by cases h; rfl
  | _, _ :: _, _, ⟨_, h1, h2⟩ => h2.limit.trans h1.limit
theorem Gones.lv : ∀ {d : AD} {zs : List Int} {d' : AD}, Gones d zs d' → ∀ y, d'.lv y = if y ∈ zs then none else d.lv y
  | _, [], _, h, y => by cases h; simp
  | _, z :: r, _, ⟨_, h1, h2⟩, y => by
    rw [h2.lv y, h1.lv]
    by_cases e1 : y ∈ r
    · simp [e1]
    · by_cases e2 : y = z
      · subst e2
        simp [e1, upd]
      · simp [e1, e2, upd]

theorem liveSum_gone : ∀ {s : Nat} {L : List (Nat × Nat)} {e : Nat} {lv : Int → Option Int} {o n : Nat}, Tiles s L e → (o, n) ∈ L → (lv (o : Int)).isSome = true → liveSum L lv = liveSum L (upd lv (o : Int) none) + n
  | _, [], _, _, _, _, _, hm, _ => by cases hm
  | s, y :: r, e, lv, o, n, h, hm, hs => by
    rw [liveSum_cons, liveSum_cons]
    rcases List.mem_cons.1 hm with e1 | hm'
    · subst e1
      rw [upd_same, hs]
      have e2 : liveSum r (upd lv ((o : Nat) : Int) none) = liveSum r lv := liveSum_congr (fun x hx => by
        have h1 := tiles_mem h.2.2 hx
        have h2 := h.1
        have h3 := h.2.1
        rw [upd_other _ _ _ _ (by simp at h2 h3; omega)])
      rw [e2]
      simp
      omega
    · have h1 := tiles_mem h.2.2 hm'
      have h2 := h.1
      have h3 := h.2.1
      rw [upd_other _ _ _ _ (by simp at h1; omega), liveSum_gone h.2.2 hm' hs]
      omega

theorem AD.Fine.gone {d d' : AD} (F : d.Fine) {z : Int} (h : Gone d z d') : d'.Fine := by
  obtain ⟨s, hz, rfl⟩ := h
  obtain ⟨o, n, rfl, e2, hm⟩ := F.live z s hz
  have e3 : n = s := by omega
  subst e3
  have hsum := liveSum_gone (lv := d.lv) F.tiles hm (by rw [hz]; rfl)
  have hsm : d.used = liveSum d.L (upd d.lv (o : Int) none) + n := F.sum.trans hsum
  refine ⟨F.tiles, fun x t hx => ?_, F.most, F.lim, ?_, ?_, ?_⟩
  · have hx : upd d.lv (o : Int) none x = some t := hx
    by_cases e : x = (o : Int)
    · subst e
      rw [upd_same] at hx
      cases hx
    · rw [upd_other _ _ _ _ e] at hx
      exact F.live x t hx
  · show d.used - n ≤ d.limit
    have := F.use
    omega
  · show d.used - n = liveSum d.L (upd d.lv (o : Int) none)
    omega
  · show FreeOK d.L (upd d.lv (o : Int) none) (upd d.fm (n : Int) (some (rising ((d.fm (n : Int)).getD [] ++ [(o : Int)]))))
    have hp := rising_perm ((d.fm (n : Int)).getD [] ++ [(o : Int)])
    generalize rising ((d.fm (n : Int)).getD [] ++ [(o : Int)]) = ys at *
    have hold : ∀ y, d.lv y = none → upd d.lv (o : Int) none y = none := fun y hy => by
      by_cases e : y = (o : Int)
      · rw [e, upd_same]
      · rw [upd_other _ _ _ _ e]
        exact hy
    have hin : ∀ y, y ∈ (d.fm (n : Int)).getD [] → d.lv y = none ∧ ∃ t ∈ d.L, y = (t.1 : Int) ∧ (n : Int) = (t.2 : Int) := fun y hy => by
      cases e : d.fm (n : Int) with
      | none => rw [e] at hy; simp at hy
      | some xs => rw [e] at hy; exact F.free.mem _ xs e y hy
    have hnd : ((d.fm (n : Int)).getD []).Nodup := by
      cases e : d.fm (n : Int) with
      | none => simp
      | some xs => exact F.free.nodup _ xs e
    refine ⟨fun x xs hx => ?_, fun x xs hx => ?_, fun x xs hx y hy => ?_, fun y hy hl => ?_⟩
    · by_cases e : x = (n : Int)
      · subst e
        rw [upd_same] at hx
        cases hx
        refine hp.nodup_iff.2 ?_
        rw [List.nodup_append]
        refine ⟨hnd, by simp, fun a ha b hb e => ?_⟩
        simp at hb
        have := (hin a ha).1
        rw [e, hb, hz] at this
        cases this
      · rw [upd_other _ _ _ _ e] at hx
        exact F.free.nodup x xs hx
    · by_cases e : x = (n : Int)
      · exact ⟨(o, n), hm, e⟩
      · rw [upd_other _ _ _ _ e] at hx
        exact F.free.size x xs hx
    · by_cases e : x = (n : Int)
      · subst e
        rw [upd_same] at hx
        cases hx
        rcases List.mem_append.1 (hp.mem_iff.1 hy) with h1 | h1
        · obtain ⟨h2, t, h3, h4, h5⟩ := hin y h1
          exact ⟨hold y h2, t, h3, h4, h5⟩
        · simp at h1
          subst h1
          exact ⟨upd_same _ _ _, (o, n), hm, rfl, rfl⟩
      · rw [upd_other _ _ _ _ e] at hx
        obtain ⟨h2, t, h3⟩ := F.free.mem x xs hx y hy
        exact ⟨hold y h2, t, h3⟩
    · by_cases e0 : ((y.1 : Nat) : Int) = (o : Int)
      · have : y = (o, n) := tiles_unique F.tiles hy hm (by simp; omega)
        subst this
        refine ⟨ys, upd_same _ _ _, hp.mem_iff.2 (by simp)⟩
      · rw [upd_other _ _ _ _ e0] at hl
        obtain ⟨xs, h1, h2⟩ := F.free.all y hy hl
        by_cases e : ((y.2 : Nat) : Int) = (n : Int)
        · rw [e, upd_same]
          rw [e] at h1
          refine ⟨ys, rfl, hp.mem_iff.2 ?_⟩
          rw [h1]
          simp [h2]
        · rw [upd_other _ _ _ _ e]
          exact ⟨xs, h1, h2⟩
theorem AD.Fine.gones : ∀ {d : AD} {zs : List Int} {d' : AD}, d.Fine → Gones d zs d' → d'.Fine
  | _, [], _, F, h => by cases h; exact F
  | _, _ :: _, _, F, ⟨_, h1, h2⟩ => (F.gone h1).gones h2
end Go.Proofs.YtdlibnjgmdffnaaGreat
namespace Go.Proofs.YtdlibnjgmdffnaaGreat
open Go.RowKit Go.Shelf

/-- Struck from the live ones, not yet among the free ones. -/
def AD.struck (d : AD) (z : Int) (s : Nat) : AD := { d with used := d.used - s, lv := upd d.lv z none }
theorem AD.struck_freed (d : AD) (z : Int) (s : Nat) : (d.struck z s).freed (s : Int) (rising ((d.fm (s : Int)).getD [] ++ [z])) = d.gone z s := rfl

theorem ArenaAt.struck {w w1 : World} {p : Nat} {c : AR} {d : AD} (h : ArenaAt w p c d) {z : Int} {s : Nat} (hs : s ≤ d.used) {nl : Nat} (k1 : Keeps w w1 (fun i => i = c.bl)) (hl : MapTo Tryz.prog cInt w1 c.bl nl (upd d.lv z none)) :
    ArenaAt (w1.setCell ⟨p, 1, none⟩ (.int .i64 ((d.used : Int) - (s : Int)))) p { c with nl := nl } (d.struck z s) ∧ Keeps w (w1.setCell ⟨p, 1, none⟩ (.int .i64 ((d.used : Int) - (s : Int)))) (c.foot p) ∧
      w1.cell? ⟨p, 1, none⟩ = some (.int .i64 (d.used : Int)) ∧ w1.frozen? ⟨p, 1, none⟩ = false := by
  have hp1 := (k1.block p (heap_lt h.hp) h.p_bl).trans h.hp
  have kS : Keeps w1 (w1.setCell ⟨p, 1, none⟩ (.int .i64 ((d.used : Int) - (s : Int)))) (fun k => k = p) := (Keeps.refl w1 (fun k => k = p)).setCell ⟨p, 1, none⟩ (fun _ => rfl) _
  refine ⟨⟨?_, ?_, ?_, ?_, ?_, h.hlf, ?_⟩, ?_, by simp [World.cell?, hp1], by simp [World.frozen?, hp1]⟩
  · have hlt := heap_lt hp1
    have hv := (Array.getElem?_eq_some_iff.1 hp1).2
    have e : ((d.used : Int) - (s : Int)) = ((d.used - s : Nat) : Int) := by omega
    simp only [World.setCell, Array.getElem?_modify]
    simp [hlt, hv, AD.struck, e]
  · exact (h.mem.keeps k1 (fun e => h.bl_b e.symm) (fun e => h.bl_g e.symm)).keeps kS h.p_b.symm h.p_g.symm
  · exact ownsRow_keeps (ownsRow_keeps h.beg k1 (fun k hk e => h.bl_v hk e.symm)) kS (fun k hk e => h.p_v hk e.symm)
  · exact hl.keeps kS h.p_bl.symm
  · exact (h.free.keeps k1 h.hlf.symm).keeps kS h.p_bf.symm
  · exact (h.heaps.keeps k1 (fun i hi e => (h.heap_ne hi).2.2.2.1 e)).keeps kS (fun i hi e => (h.heap_ne hi).1 e)
  · exact (k1.mono (S1 := c.foot p) (fun i _ e => Or.inr (Or.inr (Or.inr (Or.inl e))))).trans kS (fun i _ e => Or.inl e)

/-- leave, at what was just struck. -/
theorem leave_any {w : World} {p : Nat} {c : AR} {d : AD} (h : ArenaAt w p c d) (off : Int) (n : Nat) (hn : n ≤ 134217728) (hl : ∀ xs, d.fm (n : Int) = some xs → xs.length < 134217728) (hk : ∀ x, (d.fm x).isSome = true → x ∈ d.L.map (fun y => (y.2 : Int))) (hL : d.L.length ≤ 134217728) :
    Calls Tryz.prog 61 #[.pointer (some ⟨p, 0, none⟩), .int .i64 off, .int .i64 (n : Int)] w fun e w' => LeavePost w p c d off (n : Int) e w' := by
  have hf : fitsI (n : Int) := fitsI_mk (by omega) (by omega)
  cases hx : d.fm (n : Int) with
  | some xs => exact leave_old h off _ hf hx (hl xs hx)
  | none =>
    have ht := h.free.tight Tryz.underlying3 (d.L.map (fun y => (y.2 : Int))) (fun x _ e => hk x (by rw [← h.heaps.dom]; exact e))
    have h' : ArenaAt w p { c with nf := (d.L.map (fun y => (y.2 : Int))).length } d := { h with free := ht }
    exact (leave_new h' off _ hf hx (by simp; omega))

/-- Sorted, and none beside its like. -/
def goodAt (d : AD) (rs : List Int) (i : Nat) : Prop := (d.lv (at0 rs i)).isSome = true ∧ (0 < i → at0 rs i ≠ at0 rs (i - 1))
def allGood (d : AD) (rs : List Int) : Prop := ∀ i, i < rs.length → goodAt d rs i
theorem strict {d : AD} {rs : List Int} (hs : rs.Pairwise (· ≤ ·)) (hg : allGood d rs) {i j : Nat} (hij : i < j) (hj : j < rs.length) : at0 rs i < at0 rs j := by
  have hsl : ∀ a b, a < b → b < rs.length → at0 rs a ≤ at0 rs b := fun a b hab hb => by
    have := (List.pairwise_iff_getElem.1 hs) a b (by omega) hb hab
    simpa [at0, hb, show a < rs.length by omega] using this
  have h1 : at0 rs (j - 1) < at0 rs j := by
    have := hsl (j - 1) j (by omega) hj
    have := (hg j hj).2 (by omega)
    omega
  rcases Nat.lt_or_ge i (j - 1) with h | h
  · have := hsl i (j - 1) h (by omega)
    omega
  · rw [show i = j - 1 by omega]
    exact h1
theorem not_taken {d : AD} {rs : List Int} (hs : rs.Pairwise (· ≤ ·)) (hg : allGood d rs) {i : Nat} (hi : i < rs.length) : at0 rs i ∉ rs.take i := fun h => by
  obtain ⟨k, hk, e⟩ := List.getElem_of_mem h
  have hk' : k < i := by simp at hk; omega
  have h1 := strict hs hg hk' hi
  rw [List.getElem_take] at e
  have : at0 rs k = rs[k]'(by omega) := by simp [at0, show k < rs.length by omega]
  omega
end Go.Proofs.YtdlibnjgmdffnaaGreat
namespace Go.Proofs.YtdlibnjgmdffnaaGreat
open Go.RowKit Go.Shelf

theorem rising_sorted (zs : List Int) : (rising zs).Pairwise (· ≤ ·) := by
  have := List.pairwise_mergeSort (le := fun x y : Int => decide (x ≤ y)) (fun a b c h1 h2 => by simp at *; omega) (fun a b => by simp; omega) zs
  exact this.imp (fun h => by simpa using h)

def FreeRel (w1 : World) (p : Nat) (F : Nat → Prop) (d : AD) (rs : List Int) (i : Nat) (wr : World) : Prop :=
  ∃ d', Gones d (rs.take i) d' ∧ Arena wr p (fun k => F k ∨ w1.heap.size ≤ k) d' ∧ Keeps w1 wr F

theorem live_fits {d : AD} (F : d.Fine) {z : Int} {s : Int} (h : d.lv z = some s) : ∃ o n : Nat, z = o ∧ s = n ∧ 0 < n ∧ o + n ≤ 134217728 ∧ (o, n) ∈ d.L := by
  obtain ⟨o, n, e1, e2, hm⟩ := F.live z s h
  have := tiles_mem F.tiles hm
  have := F.most
  exact ⟨o, n, e1, e2, by simp at *; omega, by simp at *; omega, hm⟩

theorem free_step {w1 wr : World} {p : Nat} {F : Nat → Prop} {d : AD} {rs : List Int} {i : Nat} (hR : FreeRel w1 p F d rs i wr) (hF : d.Fine) (hi : i < rs.length) (hs : rs.Pairwise (· ≤ ·)) (hg : allGood d rs) :
    ∃ bl s u w2, wr.cell? ⟨p, 4, none⟩ = some (.map (some bl)) ∧ (Instr.lookup 52 (.map (some bl)) (.int .i64 (at0 rs i)) false).run Tryz.prog wr = .ok (.int .i64 ((s : Nat) : Int)) wr ∧
      (∀ ty, (Builtin.delete_ #[52, 3] ty #[.map (some bl), .int .i64 (at0 rs i)]).run Tryz.prog wr = .ok (.tuple #[]) w2) ∧ w2.cell? ⟨p, 1, none⟩ = some (.int .i64 ((u : Nat) : Int)) ∧ w2.frozen? ⟨p, 1, none⟩ = false ∧ s ≤ u ∧ u ≤ 134217728 ∧
      Calls Tryz.prog 61 #[.pointer (some ⟨p, 0, none⟩), .int .i64 (at0 rs i), .int .i64 (s : Int)] (w2.setCell ⟨p, 1, none⟩ (.int .i64 ((u : Int) - (s : Int)))) fun e w' => e = .returned (.tuple #[]) ∧ FreeRel w1 p F d rs (i + 1) w' := by
  obtain ⟨d', hG, ⟨c, h, hfo⟩, k0⟩ := hR
  have hF' := hF.gones hG
  obtain ⟨s0, hs0⟩ := Option.isSome_iff_exists.1 (hg i hi).1
  have hlv : d'.lv (at0 rs i) = some s0 := by
    rw [hG.lv, if_neg (not_taken hs hg hi)]
    exact hs0
  obtain ⟨o, s, ez, es, hpos, hmax, hm⟩ := live_fits hF' hlv
  rw [ez] at hlv ⊢
  subst es
  have hfit : fitsI (o : Int) := fitsI_mk (by omega) (by omega)
  have hlk := look_int (w := wr) Tryz.underlying3 Tryz.underlying52 (Tryz.zeroI wr) h.live hfit
  rw [hlv] at hlk
  obtain ⟨w2, hdel, hl2, k2⟩ := h.live.strike Tryz.underlying3 Tryz.underlying52 hfit
  have hsum := liveSum_gone (lv := d'.lv) hF'.tiles hm (by rw [hlv]; rfl)
  have hsu : s ≤ d'.used := by have := hF'.sum; omega
  have hu : d'.used ≤ 134217728 := by have := hF'.use; have := hF'.lim; omega
  obtain ⟨h3, k3, c1, f1⟩ := h.struck hsu k2 hl2
  have hL : d'.L.length ≤ 134217728 := by have := tiles_length hF'.tiles; have := hF'.most; omega
  refine ⟨c.bl, s, d'.used, w2, h.cell4, hlk, hdel, c1, f1, hsu, hu, ?_⟩
  refine (leave_any h3 (o : Int) s (by omega) (fun xs hx => ?_) (fun x hx => ?_) hL).mono ?_
  · have hx : d'.fm (s : Int) = some xs := hx
    have hnd := hF'.free.nodup _ xs hx
    have := length_le_of_subset hnd (l := d'.begins) (fun z hz => by
      obtain ⟨_, y, hy, e, _⟩ := hF'.free.mem _ xs hx z hz
      exact List.mem_map.2 ⟨y, hy, e.symm⟩)
    rw [AD.begins_length] at this
    have h16 := tiles_length hF'.tiles
    have := hF'.most
    omega
  · obtain ⟨xs, hx⟩ := Option.isSome_iff_exists.1 hx
    obtain ⟨y, hy, e⟩ := hF'.free.size x xs hx
    exact List.mem_map.2 ⟨y, hy, e.symm⟩
  · rintro e w' ⟨rfl, c', h4, k4, f4⟩
    have hg1 : Gone d' (at0 rs i) (d'.gone (o : Int) s) := by
      rw [ez]
      exact ⟨s, hlv, rfl⟩
    have hsz := k0.size
    have hsz2 := k3.size
    refine ⟨rfl, d'.gone (o : Int) s, ?_, ⟨c', h4 _ (rising_perm _), fun k hk => ?_⟩, ?_⟩
    · rw [List.take_succ_eq_append_getElem hi]
      have e1 : rs[i] = at0 rs i := by simp [at0, hi]
      rw [e1]
      exact hG.snoc hg1
    · rcases f4 k hk with e | e
      · exact hfo k e
      · exact Or.inr (by omega)
    · have hin : ∀ j, j < w1.heap.size → c.foot p j → F j := fun j hj e => by
        rcases hfo j e with e | e
        · exact e
        · omega
      exact (k0.trans k3 (fun j hj e => hin j hj e)).trans k4 (fun j hj e => hin j hj e)
end Go.Proofs.YtdlibnjgmdffnaaGreat
namespace Go.Proofs.YtdlibnjgmdffnaaGreat
open Go.RowKit Go.Shelf

def FreePost (w : World) (p : Nat) (F : Nat → Prop) (d : AD) (rs : List Int) (e : Ending) (w' : World) : Prop :=
  (allGood d rs ∧ e = .returned (.int .i64 0) ∧ ∃ d', Gones d rs d' ∧ Turned w w' p F d') ∨ (¬ allGood d rs ∧ e = .returned (.int .i64 23) ∧ Keeps w w' (fun _ => False))

/-- Behind Sorted: the list, in its own block. -/
structure SortedAt (w w1 : World) (g cap : Nat) (rs : List Int) : Prop where
  keeps : Keeps w w1 (fun _ => False)
  new : w.heap.size ≤ g
  lt : g < w1.heap.size
  cell : ∀ i, i < rs.length → w1.cell? ⟨g, i, none⟩ = some (.int .i64 (at0 rs i))
  hcap : rs.length ≤ cap
  hmost : cap ≤ maxLen

theorem rising_nil {zs : List Int} (h : rising zs = []) : zs = [] := by
  have := rising_length zs
  rw [h] at this
  exact List.eq_nil_of_length_eq_zero this.symm
theorem sorted_form {w w1 : World} {rs : List Int} {v : Value} (h : ListPost w rs (.returned v) w1) (h0 : 0 < rs.length) : ∃ g cap, v = .slice (some ⟨g, 0, none⟩) rs.length cap ∧ SortedAt w w1 g cap rs := by
  obtain ⟨v', e, h1, _, k⟩ := h
  cases e
  rcases h1.2 with ⟨_, hn⟩ | ⟨g, cap, cur, hv, hg, hh, hn, hm, hs, ht⟩
  · omega
  · refine ⟨g, cap, hv, k, hg, heap_lt hh, fun i hi => ?_, hn, hm⟩
    have e1 : (cur.toList.take (rs.length * 1))[i]? = (rs.map (Value.int .i64))[i]? := by rw [ht]
    rw [List.getElem?_take, if_pos (by omega), List.getElem?_map, at0_of_lt hi] at e1
    simp [World.cell?, hh]
    simpa using e1

set_option maxRecDepth 100000 in
set_option maxHeartbeats 4000000 in
theorem free_any {w : World} {p : Nat} {F : Nat → Prop} {d : AD} (h : Arena w p F d) (hFl : ∀ k, F k → k < w.heap.size) (hF : d.Fine) (a : Option Addr) (cap : Nat) (zs : List Int) (hz0 : 0 < zs.length) (hz1 : zs.length ≤ 134217728) (hfit : ∀ z ∈ zs, fitsI z) (hI : IntsBelow w.heap.size w a zs) :
    Calls Tryz.prog 46 #[.pointer (some ⟨p, 0, none⟩), .slice a zs.length cap] w fun e w' => FreePost w p F d (rising zs) e w' := by
  have hV := values_any a zs.length cap w
  have hrl := rising_length zs
  have hsort := rising_sorted zs
  have hfit' : ∀ i, i < (rising zs).length → fitsI (at0 (rising zs) i) := fun i hi => by
    have hm : at0 (rising zs) i ∈ rising zs := by
      rw [show at0 (rising zs) i = (rising zs)[i] by simp [at0, hi]]
      exact List.getElem_mem hi
    exact hfit _ ((List.mergeSort_perm zs _).mem_iff.1 hm)
  have hS : ∀ W, W = w.alloc (.cells #[.slice a zs.length cap] 32) → Calls Tryz.prog 76 #[.func (.func 99) #[] #[.pointer (some ⟨w.heap.size, 0, none⟩)]] W fun e w' => ListPost W (rising zs) e w' := fun W hW => by
    subst hW
    have k0 : Keeps w (w.alloc (.cells #[.slice a zs.length cap] 32)) (fun _ => False) := (Keeps.refl _ _).alloc _
    refine sorted_any w.heap.size a cap zs (by omega) _ (by simp) (by simp only [World.cell?, heap_alloc_new]; simp) ?_
    rcases hI with e | ⟨b, off, e, hb, hc⟩
    · exact Or.inl e
    · refine Or.inr ⟨b, off, e, by simp; omega, fun j hj => ?_⟩
      exact (World.cell?_of_block (k0.block b hb id)).trans (hc j hj)
  generalize rising zs = rs at *
  have kA : Keeps w (w.alloc (.cells #[.slice a zs.length cap] 32)) (fun _ => False) := (Keeps.refl _ _).alloc _
  have hsA : w.heap.size ≤ (w.alloc (.cells #[.slice a zs.length cap] 32)).heap.size := by simp
  clear hI
  go_enter Tryz.func46, Tryz.ntmps46
  go_wp2_with fail
  refine hV.mono ?_
  rintro e wv ⟨rfl, hwv⟩
  clear hV
  have hS := hS wv hwv
  rw [← hwv] at kA hsA
  clear hwv
  go_wp2_with fail
  refine hS.mono ?_
  intro e w1 hL
  obtain ⟨v, he, _⟩ := id hL
  subst he
  obtain ⟨g, cap', rfl, hso⟩ := sorted_form hL (by omega)
  clear hS hL
  have kw : Keeps w w1 (fun _ => False) := kA.trans hso.keeps (fun _ _ e => e)
  have hA1 : Arena w1 p F d := h.keeps kw (fun _ _ _ e => e)
  have hgF : ¬ F g := fun e => by have := hFl g e; have := hso.new; omega
  have hcell := hso.cell
  have hlen : rs.length ≤ 134217728 := by omega
  have hcap := hso.hcap
  have hcm := hso.hmost
  unfold maxLen at hcm
  obtain ⟨c, hc, hfo⟩ := hA1
  have c4 := hc.cell4
  have hlook : ∀ i, i < rs.length → (Instr.lookup 52 (.map (some c.bl)) (.int .i64 (at0 rs i)) false).run Tryz.prog w1 = .ok (.int .i64 ((d.lv (at0 rs i)).getD 0)) w1 := fun i hi => look_int (w := w1) Tryz.underlying3 Tryz.underlying52 (Tryz.zeroI w1) hc.live (hfit' i hi)
  have hlive0 : ∀ i, (d.lv (at0 rs i)).isSome = true → (d.lv (at0 rs i)).getD 0 ≠ 0 := fun i hi => by
    obtain ⟨s, hs⟩ := Option.isSome_iff_exists.1 hi
    obtain ⟨o, n, _, e, hp, _⟩ := live_fits hF hs
    rw [hs, e]
    simp
    omega
  have H := hide (show Arena w1 p F d from ⟨c, hc, hfo⟩)
  have HSO := hide hso
  have HH := hide h
  clear hc hfo h hso kA hsA
  go_wp2_with fail
  go_loopw [16] (fun vi wr => ∃ i : Nat, vi = .int .i64 (i : Int) ∧ i ≤ rs.length ∧ w1 = wr ∧ ∀ j, j < i → goodAt d rs j) (fun vi _ => rs.length - (intOf vi).toNat)
  case atStart => exact ⟨0, rfl, Nat.zero_le _, rfl, fun j hj => by omega⟩
  case round =>
    obtain ⟨i, rfl, hi, rfl, hgd⟩ := hrel
    have HG := hide hgd
    clear hgd
    rcases Nat.lt_or_ge i rs.length with hlt | hge
    · have hci := hcell i hlt
      have hlk := hlook i hlt
      have hltI : (i : Int) < (rs.length : Int) := by omega
      cases hlv : d.lv (at0 rs i) with
      | none =>
        rw [hlv] at hlk
        simp only [Option.getD_none] at hlk
        have hno : Hid (¬ allGood d rs) := fun hall => by have := (hall i hlt).1; rw [hlv] at this; cases this
        clear hlook hcell hlive0
        go_wp2_with fail
        go_ret
        exact Or.inr ⟨hno.out, rfl, kw⟩
      | some s =>
        have hs0 := hlive0 i (by rw [hlv]; rfl)
        rw [hlv] at hlk hs0
        simp only [Option.getD_some] at hlk hs0
        have hs1 : (s == 0) = false := by simpa using hs0
        rcases Nat.eq_zero_or_pos i with hz | hpos
        · subst hz
          have hgood : Hid (goodAt d rs 0) := ⟨by rw [hlv]; rfl, fun h => by omega⟩
          clear hlook hcell hlive0
          go_wp2_with fail
          exact ⟨⟨1, rfl, by omega, trivial, fun j hj => by rw [show j = 0 by omega]; exact hgood.out⟩, by simp [intOf]; omega⟩
        · obtain ⟨m, rfl⟩ : ∃ m, i = m + 1 := ⟨i - 1, by omega⟩
          have hcm1 := hcell m (by omega)
          by_cases heq : at0 rs (m + 1) = at0 rs m
          · have hno : Hid (¬ allGood d rs) := fun hall => (hall (m + 1) hlt).2 (by omega) heq
            have hb : (at0 rs (m + 1) == at0 rs m) = true := by simpa using heq
            clear hlook hcell hlive0 heq
            go_wp2_with fail
            go_ret
            exact Or.inr ⟨hno.out, rfl, kw⟩
          · have hgood : Hid (goodAt d rs (m + 1)) := ⟨by rw [hlv]; rfl, fun _ => heq⟩
            have hb : (at0 rs (m + 1) == at0 rs m) = false := by simpa using heq
            clear hlook hcell hlive0 heq
            go_wp2_with fail
            refine ⟨⟨m + 2, by go_num, by omega, trivial, fun j hj => ?_⟩, by simp [intOf]; omega⟩
            rcases Nat.lt_or_ge j (m + 1) with h | h
            · exact HG.out j h
            · rw [show j = m + 1 by omega]
              exact hgood.out
    · have hall : Hid (allGood d rs) := fun j hj => HG.out j (by omega)
      have hgeI : ¬ (i : Int) < (rs.length : Int) := by omega
      have HC := hide hcell
      clear hlook hcell hlive0 HG
      go_wp2_with fail
      go_loopw [44] (fun vk wq => ∃ k : Nat, vk = .int .i64 (k : Int) ∧ k ≤ rs.length ∧ FreeRel w1 p F d rs k wq) (fun vk _ => rs.length - (intOf vk).toNat)
      case atStart => exact ⟨0, rfl, Nat.zero_le _, d, rfl, H.out.mono (fun _ _ e => Or.inl e), Keeps.refl _ _⟩
      case round =>
        obtain ⟨k, rfl, hk, hR⟩ := hrel
        rcases Nat.lt_or_ge k rs.length with hklt | hkge
        · obtain ⟨bl, s, u, w2, c4', hlk', hdel, c1', f1', hsu, hu, hLv⟩ := free_step hR hF hklt hsort hall.out
          have hck : wr.cell? ⟨g, k, none⟩ = some (.int .i64 (at0 rs k)) := by
            obtain ⟨_, _, _, kk⟩ := hR
            exact (World.cell?_of_block (kk.block g HSO.out.lt hgF)).trans (HC.out k hklt)
          have hltI : (k : Int) < (rs.length : Int) := by omega
          have hsI : (s : Int) ≤ (u : Int) := by omega
          have huI : (u : Int) ≤ 134217728 := by omega
          clear hR
          go_wp2_with fail
          refine hLv.mono ?_
          rintro e w4 ⟨rfl, hr⟩
          have HR := hide hr
          clear hLv hr hdel hlk'
          go_wp2_with fail
          exact ⟨⟨k + 1, by go_num, by omega, HR.out⟩, by simp [intOf]; omega⟩
        · have hfin : FreePost w p F d rs (.returned (.int .i64 0)) wr := by
            obtain ⟨d', hG, hA, kk⟩ := hR
            rw [List.take_of_length_le hkge] at hG
            have hsz := kw.size
            refine Or.inl ⟨hall.out, rfl, d', hG, hA.mono (fun j _ e => ?_), (kw.mono (fun _ _ e => e.elim)).trans kk (fun _ _ e => e)⟩
            rcases e with e | e
            · exact Or.inl e
            · exact Or.inr (by omega)
          have HF := hide hfin
          have hgeI : ¬ (k : Int) < (rs.length : Int) := by omega
          clear hfin hR
          go_wp2_with fail
          go_ret
          exact HF.out
end Go.Proofs.YtdlibnjgmdffnaaGreat
namespace Go.Proofs.YtdlibnjgmdffnaaGreat
open Go.RowKit Go.Shelf

/-- The bytes of a span. -/
def AD.span (d : AD) (off n : Int) : List UInt8 := (d.bs.drop off.toNat).take n.toNat
def readV (d : AD) (off n : Int) : ByteArray × Int := if d.goodB off n then (strOf (d.span off n), 0) else (ByteArray.empty, 24)
def ReadAPost (w : World) (s : ByteArray) (x : Int) (e : Ending) (w' : World) : Prop := e = .returned (.tuple #[.string s, .int .i64 x]) ∧ Keeps w w' (fun _ => False)
set_option maxHeartbeats 1000000 in
theorem aread_any {w : World} {p : Nat} {c : AR} {d : AD} (h : ArenaAt w p c d) (hF : d.Fine) (off n : Int) (ho : fitsI off) (hn : fitsI n) :
    Calls Tryz.prog 22 #[.pointer (some ⟨p, 0, none⟩), .int .i64 off, .int .i64 n] w fun e w' => ReadAPost w (readV d off n).1 (readV d off n).2 e w' := by
  have hN := good_any h hF off n ho hn
  unfold readV
  cases hg : d.goodB off n
  · rw [hg] at hN
    simp only [Bool.false_eq_true, if_false]
    clear h hF
    go_enter Tryz.func22, Tryz.ntmps22
    go_wp2_with fail
    refine hN.mono ?_
    rintro e w1 ⟨rfl, k1⟩
    have K1 := hide k1
    clear hN k1
    go_wp2_with fail
    go_ret2
    exact ⟨rfl, K1.out⟩
  · rw [hg] at hN
    obtain ⟨o, k, rfl, rfl, ho16, hok⟩ := hF.span hg
    simp only [if_true]
    have hsp : d.span (o : Int) (k : Int) = (d.bs.drop o).take k := by simp [AD.span]
    rw [hsp]
    have hrd := fun W (kW : Keeps w W (fun _ => False)) => read_yes W c.b c.g d.bs c.sp (h.mem.keeps kW id id) o k hok
    have hc2 := fun W (kW : Keeps w W (fun _ => False)) => (h.keeps kW (fun _ _ e => e)).cell2
    have hlen : ((d.bs.drop o).take k).length = k := by simp; omega
    obtain ⟨x, hx⟩ : ∃ x, (d.bs.drop o).take k = x := ⟨_, rfl⟩
    rw [hx] at hlen ⊢
    obtain ⟨s, hs⟩ : ∃ s, strOf x = s := ⟨_, rfl⟩
    rw [hs]
    clear h hF hg hsp
    go_enter Tryz.func22, Tryz.ntmps22
    go_wp2_with fail
    refine hN.mono ?_
    rintro e w1 ⟨rfl, k1⟩
    replace hrd := hrd w1 k1
    replace hc2 := hc2 w1 k1
    clear hN
    go_wp2_with fail
    refine hrd.mono ?_
    rintro e w2 ⟨hh, _, rfl, hr, k2⟩
    rw [hx] at hr
    have K2 := hide (k1.trans k2 (fun _ _ e => e))
    have htx := run_text w2 ⟨hh, 0, none⟩ k k x hlen (fun j hj => by
      have := rowOf_get x j hj
      rw [addr_add, Nat.zero_add]
      simp only [World.cell?, hr]
      simpa using this)
    rw [hs] at htx
    clear hrd hr k1 k2 hc2 hx hs
    go_wp2_with fail
    go_ret2
    exact ⟨rfl, K2.out⟩

def equalV (d : AD) (x y n : Int) : Bool × Int := if d.goodB x n && d.goodB y n then (eqS (strOf (d.span x n)) (strOf (d.span y n)), 0) else (false, 24)
def EqAPost (w : World) (t : Bool) (x : Int) (e : Ending) (w' : World) : Prop := e = .returned (.tuple #[.bool t, .int .i64 x]) ∧ Keeps w w' (fun _ => False)
set_option maxHeartbeats 1000000 in
theorem aequal_any {w : World} {p : Nat} {c : AR} {d : AD} (h : ArenaAt w p c d) (hF : d.Fine) (x y n : Int) (hx : fitsI x) (hy : fitsI y) (hn : fitsI n) :
    Calls Tryz.prog 40 #[.pointer (some ⟨p, 0, none⟩), .int .i64 x, .int .i64 y, .int .i64 n] w fun e w' => EqAPost w (equalV d x y n).1 (equalV d x y n).2 e w' := by
  have hN := good_any h hF x n hx hn
  have hM := fun W (kW : Keeps w W (fun _ => False)) => good_any (h.keeps kW (fun _ _ e => e)) hF y n hy hn
  unfold equalV
  cases hg : d.goodB x n
  · rw [hg] at hN
    simp only [Bool.false_and, Bool.false_eq_true, if_false]
    clear h hF hM
    go_enter Tryz.func40, Tryz.ntmps40
    go_wp2_with fail
    refine hN.mono ?_
    rintro e w1 ⟨rfl, k1⟩
    have K1 := hide k1
    clear hN k1
    go_wp2_with fail
    go_ret2
    exact ⟨rfl, K1.out⟩
  · rw [hg] at hN
    cases hg2 : d.goodB y n
    · rw [hg2] at hM
      simp only [Bool.and_false, Bool.false_eq_true, if_false]
      clear h hF
      go_enter Tryz.func40, Tryz.ntmps40
      go_wp2_with fail
      refine hN.mono ?_
      rintro e w1 ⟨rfl, k1⟩
      replace hM := hM w1 k1
      clear hN
      go_wp2_with fail
      refine hM.mono ?_
      rintro e w2 ⟨rfl, k2⟩
      have K1 := hide (k1.trans k2 (fun _ _ e => e))
      clear hM k1 k2
      go_wp2_with fail
      go_ret2
      exact ⟨rfl, K1.out⟩
    · rw [hg2] at hM
      obtain ⟨o, k, rfl, rfl, ho16, hok⟩ := hF.span hg
      obtain ⟨o2, k', rfl, hkk, _, hok2⟩ := hF.span hg2
      obtain rfl : k = k' := by omega
      simp only [Bool.and_self, if_true, AD.span, Int.toNat_natCast]
      have hst := fun W (kW : Keeps w W (fun _ => False)) => equal_yes W c.b c.g d.bs c.sp (h.mem.keeps kW id id) o o2 k hok hok2
      have hc2 := fun W (kW : Keeps w W (fun _ => False)) => (h.keeps kW (fun _ _ e => e)).cell2
      clear hF hg hg2 hkk h
      generalize eqS (strOf ((d.bs.drop o).take k)) (strOf ((d.bs.drop o2).take k)) = t at *
      go_enter Tryz.func40, Tryz.ntmps40
      go_wp2_with fail
      refine hN.mono ?_
      rintro e w1 ⟨rfl, k1⟩
      replace hM := hM w1 k1
      clear hN
      go_wp2_with fail
      refine hM.mono ?_
      rintro e w2 ⟨rfl, k2⟩
      replace k1 := k1.trans k2 (fun _ _ e => e)
      replace hst := hst w2 k1
      replace hc2 := hc2 w2 k1
      have K1 := hide k1
      clear hM k2 k1
      go_wp2_with fail
      refine hst.mono ?_
      rintro e w3 ⟨rfl, rfl⟩
      clear hst
      go_wp2_with fail
      go_ret2
      exact ⟨rfl, K1.out⟩
end Go.Proofs.YtdlibnjgmdffnaaGreat
namespace Go.Proofs.YtdlibnjgmdffnaaGreat
open Go.RowKit Go.Shelf

theorem num_any (x : Int) (w : World) : Calls Tryz.prog 8 #[.int .i64 x] w fun e w' => e = .returned (.int .i64 x) ∧ w' = w := by
  go_enter Tryz.func8, Tryz.ntmps8
  go_wp2
  go_ret
  exact ⟨rfl, rfl⟩

/-- An arena that a statement has made itself, since the world w; it has none of the blocks X. -/
structure Own (w w1 : World) (p : Nat) (X : Nat → Prop) (d : AD) : Prop where
  arena : Arena w1 p (fun k => w.heap.size ≤ k ∧ ¬ X k) d
  keeps : Keeps w w1 (fun _ => False)
theorem Own.here {w w1 : World} {p : Nat} {X : Nat → Prop} {d : AD} (h : Own w w1 p X d) : Arena w1 p (fun k => (w.heap.size ≤ k ∧ ¬ X k) ∧ k < w1.heap.size) d := h.arena.mono (fun _ a b => ⟨b, a⟩)
theorem Own.turn {w w1 w2 : World} {p : Nat} {X : Nat → Prop} {d d' : AD} (h : Own w w1 p X d) (ht : Turned w1 w2 p (fun k => (w.heap.size ≤ k ∧ ¬ X k) ∧ k < w1.heap.size) d') (hX : ∀ k, X k → k < w1.heap.size) : Own w w2 p X d' := by
  refine ⟨ht.1.mono (fun i _ hi => ?_), h.keeps.trans ht.2 (fun i hi e => by omega)⟩
  rcases hi with hi | hi
  · exact hi.1
  · exact ⟨by have := h.keeps.size; omega, fun e => by have := hX i e; omega⟩
theorem Own.stay {w w1 w2 : World} {p : Nat} {X : Nat → Prop} {d : AD} (h : Own w w1 p X d) (k : Keeps w1 w2 (fun _ => False)) : Own w w2 p X d :=
  ⟨h.arena.keeps k (fun _ _ _ e => e), h.keeps.trans k (fun _ _ e => e)⟩
theorem Own.less {w w1 : World} {p : Nat} {X Y : Nat → Prop} {d : AD} (h : Own w w1 p X d) (hY : ∀ k, k < w1.heap.size → w.heap.size ≤ k → Y k → X k) : Own w w1 p Y d :=
  ⟨h.arena.mono (fun i hi e => ⟨e.1, fun y => e.2 (hY i hi e.1 y)⟩), h.keeps⟩
/-- What others keep in blocks of X, and what lay ahead, stays. -/
theorem Own.rest {w w1 w2 : World} {p : Nat} {X : Nat → Prop} {d : AD} (ht : Turned w1 w2 p (fun k => (w.heap.size ≤ k ∧ ¬ X k) ∧ k < w1.heap.size) d) {k : Nat} (hk : k < w1.heap.size) (hx : X k ∨ k < w.heap.size) : w2.heap[k]? = w1.heap[k]? :=
  ht.2.block k hk (fun e => by
    rcases hx with hx | hx
    · exact e.1.2 hx
    · omega)
theorem Own.below {w w1 : World} {p : Nat} {X : Nat → Prop} {d : AD} (h : Own w w1 p X d) {w0 : World} (k : Keeps w0 w (fun _ => False)) : Below w0.heap.size w0 w1 := (k.trans h.keeps (fun _ _ e => e)).below (Nat.le_refl _) (fun _ _ e => e)

theorem own_new {w : World} (n : Nat) (h : n ≤ 2097152) : Calls Tryz.prog 6 #[.int .i64 (n : Int)] w fun e w' => ∃ p, e = .returned (.tuple #[.pointer (some ⟨p, 0, none⟩), .int .i64 0]) ∧ Own w w' p (fun _ => False) (AD.fresh n) := by
  refine (anew_yes n w h).mono ?_
  rintro e w1 ⟨p, rfl, hA, k⟩
  exact ⟨p, rfl, hA.mono (fun _ _ e => ⟨e, id⟩), k⟩

section
variable {w w1 : World} {p : Nat} {X : Nat → Prop} {d : AD} (h : Own w w1 p X d) (hF : d.Fine)
include h hF
theorem own_alloc {T : AD → Nat → Nat × AD} {G : AD → Prop} (hT : TakeOK T G) (hG : G d) (n : Nat) (h1 : 1 ≤ n) (h2 : n ≤ 1048576) (h3 : d.used + classN n ≤ d.limit) :
    Calls Tryz.prog 16 #[.pointer (some ⟨p, 0, none⟩), .int .i64 (n : Int)] w1 fun e w' => AllocPost w1 p (fun k => (w.heap.size ≤ k ∧ ¬ X k) ∧ k < w1.heap.size) (T d (classN n)).1 (T d (classN n)).2 e w' :=
  alloc_yes hT h.here (fun _ hk => hk.2) hG hF n h1 h2 h3
end

section
variable {w w1 : World} {p : Nat} {X : Nat → Prop} {d : AD} (h : Own w w1 p X d) (hF : d.Fine)
include h hF
theorem own_store (off n : Int) (v : Nat) (ho : fitsI off) (hn : fitsI n) :
    Calls Tryz.prog 48 #[.pointer (some ⟨p, 0, none⟩), .int .i64 off, .int .i64 n, .int .u64 (v : Int)] w1 fun e w' => ErrPost w1 p (fun k => (w.heap.size ≤ k ∧ ¬ X k) ∧ k < w1.heap.size) (storeR d off n v).1 (storeR d off n v).2 e w' :=
  astore_any h.here hF off n v ho hn
end

section
variable {w w1 : World} {p : Nat} {X : Nat → Prop} {d : AD} (h : Own w w1 p X d) (hF : d.Fine)
include h hF
theorem own_fill (off n : Int) (u : UInt8) (ho : fitsI off) (hn : fitsI n) :
    Calls Tryz.prog 50 #[.pointer (some ⟨p, 0, none⟩), .int .i64 off, .int .i64 n, .int .u8 (u.toNat : Int)] w1 fun e w' => ErrPost w1 p (fun k => (w.heap.size ≤ k ∧ ¬ X k) ∧ k < w1.heap.size) (fillR d off n u).1 (fillR d off n u).2 e w' :=
  afill_any h.here hF off n u ho hn
end

section
variable {w w1 : World} {p : Nat} {X : Nat → Prop} {d : AD} (h : Own w w1 p X d) (hF : d.Fine)
include h hF
theorem own_copy (x y n : Int) (hx : fitsI x) (hy : fitsI y) (hn : fitsI n) :
    Calls Tryz.prog 52 #[.pointer (some ⟨p, 0, none⟩), .int .i64 x, .int .i64 y, .int .i64 n] w1 fun e w' => ErrPost w1 p (fun k => (w.heap.size ≤ k ∧ ¬ X k) ∧ k < w1.heap.size) (copyR d x y n).1 (copyR d x y n).2 e w' :=
  acopy_any h.here hF x y n hx hy hn
end

section
variable {w w1 : World} {p : Nat} {X : Nat → Prop} {d : AD} (h : Own w w1 p X d) (hF : d.Fine)
include h hF
theorem own_load (off n : Int) (ho : fitsI off) (hn : fitsI n) : Calls Tryz.prog 38 #[.pointer (some ⟨p, 0, none⟩), .int .i64 off, .int .i64 n] w1 fun e w' => LoadPost w1 (loadV d off n).1 (loadV d off n).2 e w' := by
  obtain ⟨c, hc, _⟩ := h.arena
  exact aload_any hc hF off n ho hn
end

section
variable {w w1 : World} {p : Nat} {X : Nat → Prop} {d : AD} (h : Own w w1 p X d) (hF : d.Fine)
include h hF
theorem own_read (off n : Int) (ho : fitsI off) (hn : fitsI n) : Calls Tryz.prog 22 #[.pointer (some ⟨p, 0, none⟩), .int .i64 off, .int .i64 n] w1 fun e w' => ReadAPost w1 (readV d off n).1 (readV d off n).2 e w' := by
  obtain ⟨c, hc, _⟩ := h.arena
  exact aread_any hc hF off n ho hn
end

section
variable {w w1 : World} {p : Nat} {X : Nat → Prop} {d : AD} (h : Own w w1 p X d) (hF : d.Fine)
include h hF
theorem own_equal (x y n : Int) (hx : fitsI x) (hy : fitsI y) (hn : fitsI n) : Calls Tryz.prog 40 #[.pointer (some ⟨p, 0, none⟩), .int .i64 x, .int .i64 y, .int .i64 n] w1 fun e w' => EqAPost w1 (equalV d x y n).1 (equalV d x y n).2 e w' := by
  obtain ⟨c, hc, _⟩ := h.arena
  exact aequal_any hc hF x y n hx hy hn
end

end Go.Proofs.YtdlibnjgmdffnaaGreat
/-
  The law's own classOf.
-/
namespace Go.Proofs.YtdlibnjgmdffnaaGreat
open Go.RowKit Go.Shelf

theorem pairs_one : ∀ x ∈ classPairs, ∀ y ∈ classPairs, x.2 < y.1 → y.2 < x.1 → x.1 = y.1 := by decide +kernel
theorem class_at {n : Nat} (h1 : 1 ≤ n) (h2 : n ≤ 1048576) {x : Nat × Nat} (hx : x ∈ classPairs) (ha : x.2 < n) (hb : n ≤ x.1) : x.1 = classN n := by
  obtain ⟨y, hy, e, h3, h4⟩ := class_spec n h1 h2
  rw [e]
  exact pairs_one x hx y hy (by omega) (by omega)
theorem pairs_next : ∀ x ∈ classPairs, x.1 < 1048576 → (x.1 = 16 ∧ (32, 16) ∈ classPairs) ∨ (x.1 ≠ 16 ∧ bits .and .i64 (x.1 : Int) ((x.1 : Int) - 1) = 0 ∧ (x.1 + x.1 / 2, x.1) ∈ classPairs) ∨ (x.1 ≠ 16 ∧ bits .and .i64 (x.1 : Int) ((x.1 : Int) - 1) ≠ 0 ∧ (x.1 + x.1 / 3, x.1) ∈ classPairs) := by decide +kernel
theorem pairs_le : ∀ x ∈ classPairs, 16 ≤ x.1 ∧ x.1 ≤ 1048576 ∧ x.2 < x.1 := by decide +kernel

/-- Free of one, by a statement. -/
theorem own_free1 {w w1 : World} {p : Nat} {X : Nat → Prop} {d : AD} (h : Own w w1 p X d) (hF : d.Fine) (z : Int) (s : Int) (hz : d.lv z = some s) (hX : ∀ k, X k → k < w1.heap.size) :
    Calls Tryz.prog 46 #[.pointer (some ⟨p, 0, none⟩), .slice (some ⟨w1.heap.size, 0, none⟩) 1 1] (w1.alloc (.cells #[.int .i64 z] 3)) fun e w' => e = .returned (.int .i64 0) ∧ ∃ d', Gone d z d' ∧ Own w w' p X d' ∧ Keeps w1 w' (fun k => (w.heap.size ≤ k ∧ ¬ X k) ∧ k < w1.heap.size) := by
  have k0 : Keeps w1 (w1.alloc (.cells #[.int .i64 z] 3)) (fun _ => False) := (Keeps.refl _ _).alloc _
  obtain ⟨o, n, ez, _, _, hm, _⟩ := live_fits hF hz
  have hr : rising [z] = [z] := by simp [rising]
  have hf := free_any (w := w1.alloc (.cells #[.int .i64 z] 3)) (h.here.keeps k0 (fun _ _ _ e => e)) (fun k hk => by have := hk.2; simp; omega) hF (some ⟨w1.heap.size, 0, none⟩) 1 [z] (by simp) (by simp) (fun y hy => by
    simp at hy
    subst hy
    rw [ez]
    exact fitsI_mk (by omega) (by omega)) (Or.inr ⟨w1.heap.size, 0, rfl, by simp, fun j hj => by
      have hj0 : j = 0 := by simpa using hj
      subst hj0
      simp only [World.cell?, heap_alloc_new]
      simp⟩)
  rw [hr] at hf
  have hgood : allGood d [z] := fun i hi => by
    have hi0 : i = 0 := by simpa using hi
    subst hi0
    exact ⟨by simp [at0, hz], fun h => by omega⟩
  refine hf.mono ?_
  intro e w2 hp
  rcases hp with ⟨_, rfl, d', ⟨d1, hg, hd⟩, ht⟩ | ⟨hno, _⟩
  · cases hd
    have ht' : Turned w1 w2 p (fun k => (w.heap.size ≤ k ∧ ¬ X k) ∧ k < w1.heap.size) d' := by
      refine ⟨ht.1.mono (fun i _ hi => ?_), (k0.mono (fun _ _ e => e.elim)).trans ht.2 (fun _ _ e => e)⟩
      rcases hi with hi | hi
      · exact Or.inl hi
      · exact Or.inr (by simp at hi; omega)
    exact ⟨rfl, d', hg, h.turn ht' hX, ht'.2⟩
  · exact absurd hgood hno
end Go.Proofs.YtdlibnjgmdffnaaGreat
namespace Go.Proofs.YtdlibnjgmdffnaaGreat
open Go.RowKit Go.Shelf

def DownRel (w : World) (hb : Nat) (v : Value) (xs : List Int) (n i : Nat) (wr : World) : Prop := ∃ ys : List Int, ys.Perm xs ∧ DownInv n ys i ∧ (∀ k, n ≤ k → at0 ys k = at0 xs k) ∧ HeapAt wr hb v ys ∧ Keeps w wr (fun k => v.ownBlock = some k)
def DownPost (w : World) (hb : Nat) (v : Value) (xs : List Int) (n : Nat) (e : Ending) (w' : World) : Prop := ∃ b, e = .returned (.bool b) ∧ ∃ ys : List Int, ys.Perm xs ∧ Heapy n ys ∧ (∀ k, n ≤ k → at0 ys k = at0 xs k) ∧ HeapAt w' hb v ys ∧ Keeps w w' (fun k => v.ownBlock = some k)

set_option maxRecDepth 100000 in
set_option maxHeartbeats 2000000 in
theorem heap_down {w : World} {hb : Nat} {v : Value} {xs : List Int} {n : Nat} (h : DownRel w hb v xs n 0 w) (hn : n ≤ xs.length) (hl : xs.length ≤ 134217728) :
    Calls Tryz.prog 117 #[.iface 130 (.pointer (some ⟨hb, 0, none⟩)), .int .i64 0, .int .i64 (n : Int)] w fun e w' => DownPost w hb v xs n e w' := by
  have mL := reach_less hb
  have mS := reach_swap hb
  have eL := ent_less
  have eS := ent_swap
  unfold Enters at eL eS
  have H0 := hide h
  clear h
  go_enter Tryz.func117, Tryz.ntmps117
  go_wp2
  go_loopw [7] (fun vi wr => ∃ i : Nat, vi = .int .i64 (i : Int) ∧ i ≤ n ∧ DownRel w hb v xs n i wr) (fun vi _ => n + 1 - (intOf vi).toNat)
  case atStart => exact ⟨0, rfl, Nat.zero_le _, H0.out⟩
  case round =>
    obtain ⟨i, rfl, hin, ys, hperm, hinv, hrest, hat, hk⟩ := hrel
    have hlen := hperm.length_eq
    have P0 := hide hperm
    have I0 := hide hinv
    have R0 := hide hrest
    have hn' : n ≤ 134217728 := by omega
    have hi' : i ≤ 134217728 := by omega
    clear hperm hinv hrest H0
    rcases Nat.lt_or_ge (2 * i + 1) n with h1 | h1
    · have hneg : ¬ 2 * (i : Int) + 1 < 0 := by omega
      have hlt1 : ¬ (n : Int) ≤ 2 * (i : Int) + 1 := by omega
      have last : ∀ j : Nat, 0 < j → j < n → (j - 1) / 2 = i → (∀ k, 0 < k → k < n → (k - 1) / 2 = i → at0 ys j ≤ at0 ys k) → ∀ q0 : Nat,
          (Calls Tryz.prog 153 #[.pointer (some ⟨hb, 0, none⟩), .int .i64 (j : Int), .int .i64 (i : Int)] (wr.drewN q0) fun e w' => e = .returned (.bool (decide (at0 ys j < at0 ys i))) ∧ ∃ q, w' = wr.drewN (q0 + q)) ∧
          (at0 ys j < at0 ys i → ∀ q, Calls Tryz.prog 156 #[.pointer (some ⟨hb, 0, none⟩), .int .i64 (i : Int), .int .i64 (j : Int)] (wr.drewN (q0 + q)) fun e w' => e = .returned (.tuple #[]) ∧ DownRel w hb v xs n j w') := fun j h0 hj hp hm q0 => by
        have kq : Keeps wr (wr.drewN q0) (fun _ => False) := (Keeps.refl wr _).drewN q0
        have hat0 := hat.keeps kq id (fun _ _ => id)
        refine ⟨(low_less hat0 j i (by omega) (by omega) (by omega)).mono (fun e w' he => ?_), fun hlt q => ?_⟩
        · obtain ⟨h1, q, h2⟩ := he
          exact ⟨h1, q, by rw [h2, World.drewN_drewN]⟩
        rw [← World.drewN_drewN]
        have kq2 : Keeps (wr.drewN q0) ((wr.drewN q0).drewN q) (fun _ => False) := (Keeps.refl _ _).drewN q
        refine (low_swap (hat0.keeps kq2 id (fun _ _ => id)) i j (by omega) (by omega) (by omega)).mono ?_
        rintro e w' ⟨rfl, h1, h2⟩
        refine ⟨rfl, sw ys i j, (sw_perm (by omega) (by omega)).trans P0.out, I0.out.step (by omega) h0 hj hp hlt hm, fun k hk => ?_, h1, ((hk.trans kq (fun _ _ e => e.elim)).trans kq2 (fun _ _ e => e.elim)).trans h2 (fun _ _ e => e)⟩
        rw [sw_at (by omega) (by omega), if_neg (by omega), if_neg (by omega)]
        exact R0.out k hk
      have fin : ∀ j : Nat, 0 < j → j < n → (j - 1) / 2 = i → (∀ k, 0 < k → k < n → (k - 1) / 2 = i → at0 ys j ≤ at0 ys k) → at0 ys i ≤ at0 ys j → ∀ q b, DownPost w hb v xs n (.returned (.bool b)) (wr.drewN q) := fun j h0 hj hp hm hlt q b => by
        have kq : Keeps wr (wr.drewN q) (fun _ => False) := (Keeps.refl wr _).drewN q
        exact ⟨b, rfl, ys, P0.out, I0.out.stop (fun k hk0 hkn hkp => by have := hm k hk0 hkn hkp; omega), R0.out, hat.keeps kq id (fun _ _ => id), hk.trans kq (fun _ _ e => e.elim)⟩
      have HF := hide fin
      clear fin
      have hL2 := fun (h2 : 2 * i + 2 < n) => low_less hat (2 * i + 2) (2 * i + 1) (by omega) (by omega) (by omega)
      rw [show (((2 * i + 2 : Nat)) : Int) = 2 * (i : Int) + 1 + 1 by omega, show (((2 * i + 1 : Nat)) : Int) = 2 * (i : Int) + 1 by omega] at hL2
      clear hat hk P0 I0 R0 hlen
      rcases Nat.lt_or_ge (2 * i + 2) n with h2 | h2
      · have hlt2 : 2 * (i : Int) + 1 + 1 < (n : Int) := by omega
        have hL2 := hL2 h2
        by_cases hc : at0 ys (2 * i + 2) < at0 ys (2 * i + 1)
        · rw [decide_eq_true hc] at hL2
          have hm : ∀ k, 0 < k → k < n → (k - 1) / 2 = i → at0 ys (2 * i + 2) ≤ at0 ys k := fun k h0 hk hp => by
            rcases (show k = 2 * i + 1 ∨ k = 2 * i + 2 by omega) with rfl | rfl
            · omega
            · exact Int.le_refl _
          clear hc
          go_wp2_with fail
          refine hL2.mono ?_
          rintro e w1 ⟨rfl, q0, rfl⟩
          clear hL2
          have hlast := last (2 * i + 2) (by omega) (by omega) (by omega) hm q0
          rw [show (((2 * i + 2 : Nat)) : Int) = 2 * (i : Int) + 1 + 1 by omega] at hlast
          by_cases hlt : at0 ys (2 * i + 2) < at0 ys i
          · rw [decide_eq_true hlt] at hlast
            obtain ⟨hL, hS⟩ := hlast
            have hS := hide (hS hlt)
            clear hm last hlt HF
            go_wp2_with fail
            refine hL.mono ?_
            rintro e w1 ⟨rfl, q, rfl⟩
            have hS := hS.out q
            clear hL
            go_wp2_with fail
            refine hS.mono ?_
            rintro e w2 ⟨rfl, hr⟩
            have HR := hide hr
            clear hS hr
            go_wp2_with fail
            exact ⟨⟨2 * i + 2, by rw [show (((2 * i + 2 : Nat)) : Int) = 2 * (i : Int) + 1 + 1 by omega], by omega, HR.out⟩, by simp [intOf]; omega⟩
          · rw [decide_eq_false hlt] at hlast
            have hL := hlast.1
            have HF := hide (HF.out (2 * i + 2) (by omega) (by omega) (by omega) hm (by omega))
            clear hlast hm last hlt
            go_wp2_with fail
            refine hL.mono ?_
            rintro e w1 ⟨rfl, q, rfl⟩
            have HF := hide (HF.out (q0 + q))
            clear hL
            go_wp2_with fail
            go_ret
            exact HF.out _
        · rw [decide_eq_false hc] at hL2
          have hm : ∀ k, 0 < k → k < n → (k - 1) / 2 = i → at0 ys (2 * i + 1) ≤ at0 ys k := fun k h0 hk hp => by
            rcases (show k = 2 * i + 1 ∨ k = 2 * i + 2 by omega) with rfl | rfl
            · exact Int.le_refl _
            · omega
          clear hc
          go_wp2_with fail
          refine hL2.mono ?_
          rintro e w1 ⟨rfl, q0, rfl⟩
          clear hL2
          have hlast := last (2 * i + 1) (by omega) (by omega) (by omega) hm q0
          rw [show (((2 * i + 1 : Nat)) : Int) = 2 * (i : Int) + 1 by omega] at hlast
          by_cases hlt : at0 ys (2 * i + 1) < at0 ys i
          · rw [decide_eq_true hlt] at hlast
            obtain ⟨hL, hS⟩ := hlast
            have hS := hide (hS hlt)
            clear hm last hlt HF
            go_wp2_with fail
            refine hL.mono ?_
            rintro e w1 ⟨rfl, q, rfl⟩
            have hS := hS.out q
            clear hL
            go_wp2_with fail
            refine hS.mono ?_
            rintro e w2 ⟨rfl, hr⟩
            have HR := hide hr
            clear hS hr
            go_wp2_with fail
            exact ⟨⟨2 * i + 1, by rw [show (((2 * i + 1 : Nat)) : Int) = 2 * (i : Int) + 1 by omega], by omega, HR.out⟩, by simp [intOf]; omega⟩
          · rw [decide_eq_false hlt] at hlast
            have hL := hlast.1
            have HF := hide (HF.out (2 * i + 1) (by omega) (by omega) (by omega) hm (by omega))
            clear hlast hm last hlt
            go_wp2_with fail
            refine hL.mono ?_
            rintro e w1 ⟨rfl, q, rfl⟩
            have HF := hide (HF.out (q0 + q))
            clear hL
            go_wp2_with fail
            go_ret
            exact HF.out _
      · have hlt2 : ¬ 2 * (i : Int) + 1 + 1 < (n : Int) := by omega
        have hm : ∀ k, 0 < k → k < n → (k - 1) / 2 = i → at0 ys (2 * i + 1) ≤ at0 ys k := fun k h0 hk hp => by
          rcases (show k = 2 * i + 1 by omega) with rfl
          exact Int.le_refl _
        clear hL2
        have hlast := last (2 * i + 1) (by omega) (by omega) (by omega) hm 0
        simp only [World.drewN_zero, Nat.zero_add] at hlast
        rw [show (((2 * i + 1 : Nat)) : Int) = 2 * (i : Int) + 1 by omega] at hlast
        by_cases hlt : at0 ys (2 * i + 1) < at0 ys i
        · rw [decide_eq_true hlt] at hlast
          obtain ⟨hL, hS⟩ := hlast
          have hS := hide (hS hlt)
          clear hm last hlt HF
          go_wp2_with fail
          refine hL.mono ?_
          rintro e w1 ⟨rfl, q, rfl⟩
          have hS := hS.out q
          clear hL
          go_wp2_with fail
          refine hS.mono ?_
          rintro e w2 ⟨rfl, hr⟩
          have HR := hide hr
          clear hS hr
          go_wp2_with fail
          exact ⟨⟨2 * i + 1, by rw [show (((2 * i + 1 : Nat)) : Int) = 2 * (i : Int) + 1 by omega], by omega, HR.out⟩, by simp [intOf]; omega⟩
        · rw [decide_eq_false hlt] at hlast
          have hL := hlast.1
          have HF := hide (HF.out (2 * i + 1) (by omega) (by omega) (by omega) hm (by omega))
          clear hlast hm last hlt
          go_wp2_with fail
          refine hL.mono ?_
          rintro e w1 ⟨rfl, q, rfl⟩
          have HF := hide (HF.out q)
          clear hL
          go_wp2_with fail
          go_ret
          exact HF.out _
    · have hlt1 : (n : Int) ≤ 2 * (i : Int) + 1 := by omega
      have hfin : ∀ b, DownPost w hb v xs n (.returned (.bool b)) wr := fun b => ⟨b, rfl, ys, P0.out, I0.out.stop (fun k h0 hkn hp => by omega), R0.out, hat, hk⟩
      have HF := hide hfin
      clear hfin hat hk hlen I0 P0 R0
      go_wp2_with fail
      go_ret
      exact HF.out _
end Go.Proofs.YtdlibnjgmdffnaaGreat
namespace Go.Proofs.YtdlibnjgmdffnaaGreat
open Go.RowKit Go.Shelf

def PopPost (w : World) (hb : Nat) (v : Value) (xs : List Int) (e : Ending) (w' : World) : Prop := ∃ m, e = .returned (.iface 3 (.int .i64 m)) ∧ (∀ x ∈ xs, m ≤ x) ∧ ∃ ys : List Int, (ys ++ [m]).Perm xs ∧ Heapy ys.length ys ∧ HeapTurned w hb v ys w'

theorem Heapy.mem {xs : List Int} (h : Heapy xs.length xs) : ∀ x ∈ xs, at0 xs 0 ≤ x := fun x hx => by
  obtain ⟨k, hk, rfl⟩ := List.getElem_of_mem hx
  have := h.least k hk
  simpa [at0, hk] using this
theorem list_last {ys : List Int} {n : Nat} (h : ys.length = n + 1) : ys = ys.take n ++ [at0 ys n] := by
  have h1 : ys.drop n = [at0 ys n] := by
    rw [List.drop_eq_getElem_cons (by omega), List.drop_eq_nil_of_le (by omega)]
    simp [at0, h]
  rw [← h1, List.take_append_drop]
theorem at0_take {ys : List Int} {n k : Nat} (h : k < n) : at0 (ys.take n) k = at0 ys k := by
  simp [at0, h]

set_option maxRecDepth 100000 in
set_option maxHeartbeats 2000000 in
theorem heap_pop {w : World} {hb : Nat} {v : Value} {xs : List Int} (h : HeapAt w hb v xs) (hh : Heapy xs.length xs) (h0 : 0 < xs.length) (hl : xs.length ≤ 134217728) :
    Calls Tryz.prog 110 #[.iface 130 (.pointer (some ⟨hb, 0, none⟩))] w fun e w' => PopPost w hb v xs e w' := by
  have mP := reach_pop hb
  have mL := reach_len hb
  have mS := reach_swap hb
  have eP := ent_pop
  have eL := ent_len
  have eS := ent_swap
  unfold Enters at eP eL eS
  have hL := low_len h
  obtain ⟨n, hn⟩ : ∃ n, xs.length = n + 1 := ⟨xs.length - 1, by omega⟩
  have hn' : n ≤ 134217728 := by omega
  have hlen : ((xs.length : Nat) : Int) = (n : Int) + 1 := by omega
  rw [hlen] at hL
  have hS := low_swap h 0 n (by omega) (by omega) hl
  have hD : Hid (∀ w1, HeapAt w1 hb v (sw xs 0 n) → Calls Tryz.prog 117 #[.iface 130 (.pointer (some ⟨hb, 0, none⟩)), .int .i64 0, .int .i64 (n : Int)] w1 fun e w' => DownPost w1 hb v (sw xs 0 n) n e w') := fun w1 h1 =>
    heap_down ⟨sw xs 0 n, List.Perm.refl _, DownInv.start (by omega) hh, fun _ _ => rfl, h1, Keeps.refl _ _⟩ (by rw [sw_length]; omega) (by rw [sw_length]; omega)
  have HH := hide hh
  clear hlen h hh
  go_enter Tryz.func110, Tryz.ntmps110
  go_wp2_with fail
  refine hL.mono ?_
  rintro e w0 ⟨rfl, rfl⟩
  clear hL
  go_wp2_with fail
  refine hS.mono ?_
  rintro e w1 ⟨rfl, h1, k1⟩
  clear hS
  have hD1 := hD.out w1 h1
  clear hD h1
  go_wp2_with fail
  refine hD1.mono ?_
  rintro e w2 ⟨b, rfl, ys, hp, hy, hr, h2, k2⟩
  clear hD1
  have hyl : ys.length = n + 1 := by rw [hp.length_eq, sw_length]; exact hn
  have hm : at0 ys n = at0 xs 0 := by
    rw [hr n (Nat.le_refl _), sw_at (by omega) (by omega), if_pos rfl]
  have hys := list_last hyl
  rw [hm] at hys
  have h3 := h2
  rw [hys] at h3
  have hP : Calls Tryz.prog 154 #[.pointer (some ⟨hb, 0, none⟩)] w2 fun e w' => PopPost w0 hb v xs e w' := by
    refine (low_pop h3 (by simp; omega)).mono ?_
    rintro e w3 ⟨rfl, v3, h4, k4, l4⟩
    refine ⟨_, rfl, HH.out.mem, ys.take n, ?_, ?_, v3, h4, ?_, ?_⟩
    · rw [← hys]
      exact hp.trans (sw_perm (by omega) (by omega))
    · intro k hk0 hk
      simp at hk
      rw [at0_take (by omega), at0_take (by omega)]
      exact hy k hk0 (by omega)
    · exact ((k1.mono (S1 := fun k => k = hb ∨ v.ownBlock = some k) (fun _ _ e => Or.inr e)).trans k2 (fun _ _ e => Or.inr e)).trans k4 (fun _ _ e => e)
    · rcases l4 with l | ⟨k, l, hk⟩
      · exact Or.inl l
      · exact Or.inr ⟨k, l, by have := k1.size; have := k2.size; omega⟩
  clear h2 h3 hys hm hyl hr hy hp k1 k2 HH
  go_wp2_with fail
  refine hP.mono ?_
  rintro e w3 ⟨m, rfl, hq⟩
  have HP : Hid (PopPost w0 hb v xs (.returned (.iface 3 (.int .i64 m))) w3) := ⟨m, rfl, hq⟩
  clear hP hq
  go_wp2_with fail
  go_ret
  exact HP.out
end Go.Proofs.YtdlibnjgmdffnaaGreat
