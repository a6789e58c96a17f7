import Derived.RangeFuncNested
import Derived.Deep.QuietTactic
import Derived.BigQuiet
import Derived.Deep.LoopGhost
import Derived.Test.YteglefnfnkgpcaaRn9
/-
  Parts: all blocks that ever were, as a list of its own.
-/
namespace Go.Proofs.Yteglefnfnkgpcaa
open Go.RowKit Go.Shelf

theorem Try.infoPart : (Try.prog.info? 38).map (fun i => (i.zero, i.size, i.bytes)) = some (some (.agg #[.int .i64 0, .int .i64 0, .bool false]), 3, 24) := by kernel_rfl

/-- A row of N parts in the block q: the first k of them are told by L and lv. -/
structure PartRow (w : World) (q N k : Nat) (L : List (Nat × Nat)) (lv : Int → Option Int) (cs : Array Value) : Prop where
  hq : w.heap[q]? = some (.cells cs 38)
  size : cs.size = N * 3
  done : ∀ j (h : j < L.length), j < k → cs[j * 3]? = some (.int .i64 (L[j].1 : Int)) ∧ cs[j * 3 + 1]? = some (.int .i64 (L[j].2 : Int)) ∧ cs[j * 3 + 2]? = some (.bool (lv (L[j].1 : Int)).isSome)

theorem PartRow.has {w : World} {q N k : Nat} {L : List (Nat × Nat)} {lv : Int → Option Int} {cs : Array Value} (h : PartRow w q N k L lv cs) {i : Nat} (hi : i < N * 3) : ∃ v, w.cell? ⟨q, i, none⟩ = some v := by
  have : i < cs.size := by rw [h.size]; exact hi
  exact ⟨cs[i], by simp [World.cell?, h.hq, this]⟩
theorem PartRow.frozen {w : World} {q N k : Nat} {L : List (Nat × Nat)} {lv : Int → Option Int} {cs : Array Value} (h : PartRow w q N k L lv cs) (i : Nat) : w.frozen? ⟨q, i, none⟩ = false := by
  simp [World.frozen?, h.hq]

theorem set_cell_row {w : World} {q : Nat} {cs : Array Value} {t : TypeId} (h : w.heap[q]? = some (.cells cs t)) (i : Nat) (v : Value) : (w.setCell ⟨q, i, none⟩ v).heap[q]? = some (.cells (cs.setIfInBounds i v) t) := by
  have hlt := heap_lt h
  have hv := (Array.getElem?_eq_some_iff.1 h).2
  simp only [World.setCell, Array.getElem?_modify]
  simp [hlt, hv]
theorem PartRow.step {w : World} {q N k : Nat} {L : List (Nat × Nat)} {lv : Int → Option Int} {cs : Array Value} (h : PartRow w q N k L lv cs) (hk : k < L.length) (hN : k < N) (z : Int) (hz : z = (L[k].2 : Int)) :
    PartRow (((w.setCell ⟨q, k * 3, none⟩ (.int .i64 (L[k].1 : Int))).setCell ⟨q, k * 3 + 1, none⟩ (.int .i64 z)).setCell ⟨q, k * 3 + 2, none⟩ (.bool (lv (L[k].1 : Int)).isSome)) q N (k + 1) L lv
      (((cs.setIfInBounds (k * 3) (.int .i64 (L[k].1 : Int))).setIfInBounds (k * 3 + 1) (.int .i64 z)).setIfInBounds (k * 3 + 2) (.bool (lv (L[k].1 : Int)).isSome)) := by
  subst hz
  have hs := h.size
  refine ⟨set_cell_row (set_cell_row (set_cell_row h.hq _ _) _ _) _ _, by simp [hs], fun j hj hjk => ?_⟩
  rcases Nat.lt_or_ge j k with hlt | hge
  · obtain ⟨d0, d1, d2⟩ := h.done j hj hlt
    refine ⟨?_, ?_, ?_⟩
    · rw [Array.getElem?_setIfInBounds_ne (by omega), Array.getElem?_setIfInBounds_ne (by omega), Array.getElem?_setIfInBounds_ne (by omega)]
      exact d0
    · rw [Array.getElem?_setIfInBounds_ne (by omega), Array.getElem?_setIfInBounds_ne (by omega), Array.getElem?_setIfInBounds_ne (by omega)]
      exact d1
    · rw [Array.getElem?_setIfInBounds_ne (by omega), Array.getElem?_setIfInBounds_ne (by omega), Array.getElem?_setIfInBounds_ne (by omega)]
      exact d2
  · obtain rfl : j = k := by omega
    refine ⟨?_, ?_, ?_⟩
    · rw [Array.getElem?_setIfInBounds_ne (by omega), Array.getElem?_setIfInBounds_ne (by omega), Array.getElem?_setIfInBounds_self_of_lt (by rw [hs]; omega)]
    · rw [Array.getElem?_setIfInBounds_ne (by omega), Array.getElem?_setIfInBounds_self_of_lt (by simp [hs]; omega)]
    · rw [Array.getElem?_setIfInBounds_self_of_lt (by simp [hs]; omega)]

theorem run_make_parts (w : World) (n : Nat) (hn : n ≤ 134217728) :
    ∃ cs, (Instr.makeSlice 32 (.int .i64 (n : Int)) (.int .i64 (n : Int))).run Try.prog w = .ok (.slice (some ⟨w.heap.size, 0, none⟩) n n) (w.alloc (.cells cs 38)) ∧ cs.size = n * 3 := by
  obtain ⟨i, h1, h2, h3, h4⟩ := info_parts Try.infoPart
  have h := run_make (P := Try.prog) w 32 38 i _ Try.underlying32 h1 h2 .i64 .i64 (n : Int) (n : Int) (by omega) (by omega) (by rw [h4]; omega) (by omega)
  refine ⟨_, h, ?_⟩
  rw [h3]
  simp [madeCells]

/-- A block's bytes, by where the next one begins. -/
theorem tiles_next : ∀ {s : Nat} {L : List (Nat × Nat)} {e : Nat}, Tiles s L e → ∀ k (hk : k < L.length), (∀ h : k + 1 < L.length, L[k + 1].1 = L[k].1 + L[k].2) ∧ (k + 1 = L.length → e = L[k].1 + L[k].2)
  | _, [], _, _, k, hk => by simp at hk
  | s, [x], e, h, k, hk => by
    have hk0 : k = 0 := by simpa using hk
    subst hk0
    obtain ⟨h1, h2, h3⟩ := h
    rw [Tiles] at h3
    refine ⟨fun h => by simp at h, fun _ => by simp; omega⟩
  | s, x :: y :: r, e, h, 0, hk => by
    obtain ⟨h1, h2, h3, h4, h5⟩ := h
    exact ⟨fun _ => by simp; omega, fun h => by simp at h⟩
  | s, x :: y :: r, e, h, k + 1, hk => by
    obtain ⟨h1, h2, h3⟩ := h
    have := tiles_next h3 k (by simpa using hk)
    exact ⟨fun h => this.1 (by simpa using h), fun h => this.2 (by simpa using h)⟩

def PartsPost (w : World) (d : AD) (e : Ending) (w' : World) : Prop := ∃ q cs, e = .returned (.slice (some ⟨q, 0, none⟩) d.L.length d.L.length) ∧ w.heap.size ≤ q ∧ q < w'.heap.size ∧ PartRow w' q d.L.length d.L.length d.L d.lv cs ∧ Keeps w w' (fun _ => False)

set_option maxRecDepth 100000 in
set_option maxHeartbeats 4000000 in
theorem parts_some {w : World} {p : Nat} {c : AR} {d : AD} (h : ArenaAt w p c d) (hF : d.Fine) (hl : d.L.length ≤ 134217728) (g cap : Nat) (hv : c.v = .slice (some ⟨g, 0, none⟩) d.L.length cap) :
    Calls Try.prog 11 #[.pointer (some ⟨p, 0, none⟩)] w fun e w' => PartsPost w d e w' := by
  have c3 := h.cell3
  rw [hv] at c3
  obtain ⟨cs0, hmk, hcs0⟩ := run_make_parts w d.L.length hl
  have k1 : Keeps w (w.alloc (.cells cs0 38)) (fun _ => False) := (Keeps.refl _ _).alloc _
  have hq1 : (w.alloc (.cells cs0 38)).heap[w.heap.size]? = some (.cells cs0 38) := heap_alloc_new _ _
  have c31 := (h.keeps k1 (fun _ _ e => e)).cell3
  rw [hv] at c31
  have hE := end_any (h.keeps k1 (fun _ _ e => e))
  go_enter Try.func11, Try.ntmps11
  go_wp2_with fail
  refine hE.mono ?_
  rintro e w1 ⟨rfl, rfl⟩
  clear hE
  have hR0 : ∃ cs, PartRow (w.alloc (.cells cs0 38)) w.heap.size d.L.length 0 d.L d.lv cs := ⟨cs0, hq1, hcs0, fun j _ hj => by omega⟩
  have hs1 : (w.alloc (.cells cs0 38)).heap.size = w.heap.size + 1 := by simp
  generalize (w.alloc (.cells cs0 38)) = w1 at *
  generalize hq : w.heap.size = q at *
  clear hmk hcs0 hq1
  go_wp2_with fail
  go_loopw [23] (fun vi wr => ∃ i : Nat, vi = .int .i64 (i : Int) ∧ i ≤ d.L.length ∧ (∃ cs, PartRow wr q d.L.length i d.L d.lv cs) ∧ Keeps w wr (fun _ => False)) (fun vi _ => d.L.length - (intOf vi).toNat)
  case atStart => exact ⟨0, rfl, Nat.zero_le _, hR0, k1⟩
  case round =>
    clear c31 k1 hR0
    obtain ⟨i, rfl, hi, ⟨cs, hR⟩, kr⟩ := hrel
    have hqr := heap_lt hR.hq
    by_cases hlt : i < d.L.length
    · have hr := h.keeps kr (fun _ _ e => e)
      have c3r := hr.cell3
      rw [hv] at c3r
      have c4r := hr.cell4
      have hcr : ∀ j (hj : j < d.L.length), wr.cell? ⟨g, j, none⟩ = some (.int .i64 (d.L[j].1 : Int)) := by
        rcases hr.begs with ⟨_, e⟩ | ⟨g', cap', hv', hc'⟩
        · rw [e] at hlt
          simp at hlt
        · rw [hv] at hv'
          injection hv' with e1 _ _
          injection e1 with e1
          injection e1 with e1
          subst e1
          exact hc'
      have hck := hcr i hlt
      have hlk := look_ok_int (w := wr) Try.underlying3 Try.underlying69 (Try.zeroI _) hr.live (x := (d.L[i].1 : Int)) (fitsI_mk (by omega) (by have := tiles_mem hF.tiles (List.getElem_mem hlt); have := hF.most; omega))
      obtain ⟨v0, x0⟩ := hR.has (i := i * 3) (by omega)
      obtain ⟨v1, x1⟩ := hR.has (i := i * 3 + 1) (by omega)
      obtain ⟨v2, x2⟩ := hR.has (i := i * 3 + 2) (by omega)
      have f0 := hR.frozen (i * 3)
      have f1 := hR.frozen (i * 3 + 1)
      have f2 := hR.frozen (i * 3 + 2)
      have hlt' : (i : Int) < (d.L.length : Int) := by omega
      have hnx := tiles_next hF.tiles i hlt
      have hmm := tiles_mem hF.tiles (List.getElem_mem hlt)
      have hmost := hF.most
      have hstep := fun z hz => hide (hR.step hlt hlt z hz)
      have hkeep : ∀ a b e, Hid (Keeps w (((wr.setCell ⟨q, i * 3, none⟩ a).setCell ⟨q, i * 3 + 1, none⟩ b).setCell ⟨q, i * 3 + 2, none⟩ e) (fun _ => False)) := fun a b e => by
        have k2 : Keeps wr (((wr.setCell ⟨q, i * 3, none⟩ a).setCell ⟨q, i * 3 + 1, none⟩ b).setCell ⟨q, i * 3 + 2, none⟩ e) (fun x => x = q) := (((Keeps.refl wr (fun x => x = q)).setCell _ (fun _ => rfl) _).setCell _ (fun _ => rfl) _).setCell _ (fun _ => rfl) _
        exact kr.trans k2 (fun x hx e => by omega)
      by_cases hlast : i + 1 < d.L.length
      · have hck2 := hcr (i + 1) hlast
        have hlast' : (i : Int) + 1 < (d.L.length : Int) := by omega
        have hn := hnx.1 hlast
        have hw : wrap64 ((d.L[i + 1].1 : Int) - (d.L[i].1 : Int)) = (d.L[i].2 : Int) := by
          rw [show (d.L[i + 1].1 : Int) - (d.L[i].1 : Int) = (d.L[i].2 : Int) by omega]
          unfold wrap64
          omega
        clear hR kr hcr hnx hn
        go_wp2_with fail
        exact ⟨⟨i + 1, by simp, by omega, ⟨_, (hstep _ rfl).out⟩, (hkeep _ _ _).out⟩, by simp [intOf]; omega⟩
      · have hlast' : ¬ (i : Int) + 1 < (d.L.length : Int) := by omega
        have hn := hnx.2 (by omega)
        have Hn := hide hn
        clear hR kr hcr hnx hn
        go_wp2_with fail
        exact ⟨⟨i + 1, by simp, by omega, ⟨_, (hstep _ (by have := Hn.out; omega)).out⟩, (hkeep _ _ _).out⟩, by simp [intOf]; omega⟩
    · have hlt' : ¬ (i : Int) < (d.L.length : Int) := by omega
      obtain rfl : i = d.L.length := by omega
      have hfin : PartsPost w d (.returned (.slice (some ⟨q, 0, none⟩) d.L.length d.L.length)) wr := ⟨q, cs, rfl, by omega, hqr, hR, kr⟩
      have HF := hide hfin
      clear hR kr hfin
      go_wp2_with fail
      go_ret
      exact HF.out

set_option maxRecDepth 100000 in
set_option maxHeartbeats 4000000 in
theorem parts_none {w : World} {p : Nat} {c : AR} {d : AD} (h : ArenaAt w p c d) (hL : d.L = []) (hv : c.v = .slice none 0 0) :
    Calls Try.prog 11 #[.pointer (some ⟨p, 0, none⟩)] w fun e w' => PartsPost w d e w' := by
  have c3 := h.cell3
  rw [hv] at c3
  obtain ⟨cs0, hmk0, hcs0⟩ := run_make_parts w 0 (by omega)
  have hmk : (Instr.makeSlice 32 (.int .i64 0) (.int .i64 0)).run Try.prog w = .ok (.slice (some ⟨w.heap.size, 0, none⟩) 0 0) (w.alloc (.cells cs0 38)) := hmk0
  clear hmk0
  have k1 : Keeps w (w.alloc (.cells cs0 38)) (fun _ => False) := (Keeps.refl _ _).alloc _
  have hq1 : (w.alloc (.cells cs0 38)).heap[w.heap.size]? = some (.cells cs0 38) := heap_alloc_new _ _
  have c31 := (h.keeps k1 (fun _ _ e => e)).cell3
  rw [hv] at c31
  have hE := end_any (h.keeps k1 (fun _ _ e => e))
  have hfin : Hid (PartsPost w d (.returned (.slice (some ⟨w.heap.size, 0, none⟩) 0 0)) (w.alloc (.cells cs0 38))) := by
    refine ⟨w.heap.size, cs0, by rw [hL]; rfl, Nat.le_refl _, heap_lt hq1, ⟨hq1, by rw [hL]; exact hcs0, fun j hj => by rw [hL] at hj; simp at hj⟩, k1⟩
  clear hL hv h hcs0 hq1 k1
  go_enter Try.func11, Try.ntmps11
  go_wp2_with fail
  refine hE.mono ?_
  rintro e w1 ⟨rfl, rfl⟩
  clear hE hmk
  generalize (w.alloc (.cells cs0 38)) = w1 at *
  generalize w.heap.size = q at *
  go_wp2_with fail
  go_loopw [23] (fun vi wr => vi = .int .i64 0 ∧ w1 = wr) (fun vi _ => 0)
  case atStart => exact ⟨rfl, rfl⟩
  case round =>
    obtain ⟨rfl, rfl⟩ := hrel
    go_wp2_with fail
    go_ret
    exact hfin.out

/-- Parts: the list of all blocks, in a block of its own. -/
theorem parts_any {w : World} {p : Nat} {c : AR} {d : AD} (h : ArenaAt w p c d) (hF : d.Fine) (hl : d.L.length ≤ 134217728) :
    Calls Try.prog 11 #[.pointer (some ⟨p, 0, none⟩)] w fun e w' => PartsPost w d e w' := by
  rcases h.begs with ⟨hv, hL⟩ | ⟨g, cap, hv, _⟩
  · exact parts_none h hL hv
  · exact parts_some h hF hl g cap hv
end Go.Proofs.Yteglefnfnkgpcaa
/-
  Blocks, and a range over it.
-/
namespace Go.Proofs.Yteglefnfnkgpcaa
open Go.RowKit Go.Shelf

attribute [local go_sem] Oper.semAt_some

/-- Lists of parts stay as they are. -/
def PartsStay (W W' : World) : Prop := ∀ (q : Nat) (cs : Array Value), W.heap[q]? = some (Obj.cells cs 38) → W'.heap[q]? = some (Obj.cells cs 38)
theorem PartsStay.refl (W : World) : PartsStay W W := fun _ _ h => h
theorem PartsStay.trans {A B C : World} (h : PartsStay A B) (k : PartsStay B C) : PartsStay A C := fun q cs e => k q cs (h q cs e)

/-- The live blocks of the first k. -/
def livesOf (L : List (Nat × Nat)) (lv : Int → Option Int) : List (Nat × Nat) := L.filter (fun x => (lv (x.1 : Int)).isSome)
theorem livesOf_succ {L : List (Nat × Nat)} {lv : Int → Option Int} {k : Nat} (h : k < L.length) : livesOf (L.take (k + 1)) lv = livesOf (L.take k) lv ++ (if (lv (L[k].1 : Int)).isSome then [L[k]] else []) := by
  rw [List.take_succ_eq_append_getElem h]
  unfold livesOf
  rw [List.filter_append]
  congr 1
  by_cases hl : (lv (L[k].1 : Int)).isSome <;> simp [hl]
theorem livesOf_prefix (L : List (Nat × Nat)) (lv : Int → Option Int) (k : Nat) : livesOf (L.take k) lv <+: livesOf L lv := by
  unfold livesOf
  exact (List.take_prefix k L).filter _

theorem PartRow.stay {w w' : World} {q N k : Nat} {L : List (Nat × Nat)} {lv : Int → Option Int} {cs : Array Value} (h : PartRow w q N k L lv cs) (hs : PartsStay w w') : PartRow w' q N k L lv cs := ⟨hs _ _ h.hq, h.size, h.done⟩
theorem PartsStay.alloc (w : World) (o : Obj) : PartsStay w (w.alloc o) := fun _ _ h => (Below.heap_alloc _ _ _ (heap_lt h)).trans h
theorem abides_alloc {β : Type} {B : Nat} {J : β → World → Prop} (h : AbidesFrom B J) {s : β} {W : World} (hJ : J s W) (o : Obj) : J s (W.alloc o) :=
  h s W _ none hJ ⟨rfl, rfl, rfl, by simp, fun k hk _ => Below.heap_alloc _ _ _ hk⟩ (fun r e => by cases e)

set_option maxHeartbeats 1000000 in
theorem blocks_call (w : World) (p : Nat) :
    Calls Try.prog 14 #[.pointer (some ⟨p, 0, none⟩)] w fun e w' => e = .returned (.func (.func 34) #[] #[.pointer (some ⟨w.heap.size, 0, none⟩)]) ∧ w' = w.alloc (.cells #[.pointer (some ⟨p, 0, none⟩)] 23) := by
  go_enter Try.func14, Try.ntmps14
  go_wp2
  go_ret
  exact ⟨rfl, rfl⟩

set_option maxRecDepth 100000 in
set_option maxHeartbeats 4000000 in
theorem blocks_each (n : Nat) (hn : 1 ≤ n) (l Bs p B : Nat) (d : AD) (hlen : d.L.length ≤ 134217728) (J Jx : List (Nat × Nat) → World → Prop) (hAb : AbidesFrom B J)
    (hY : ∀ pre (x : Nat × Nat) W, J pre W → pre.length < (livesOf d.L d.lv).length → YieldAt Fence.wide (n - 1) Try.prog l #[.int .i64 (x.1 : Int), .int .i64 (x.2 : Int)] W fun e W' =>
      (e = .returned (.bool true) ∧ J (pre ++ [x]) W' ∧ PartsStay W W') ∨ (e = .returned (.bool false) ∧ Jx (pre ++ [x]) W'))
    (W : World) (hBs : W.cell? ⟨Bs, 0, none⟩ = some (.pointer (some ⟨p, 0, none⟩))) (hP : Calls Try.prog 11 #[.pointer (some ⟨p, 0, none⟩)] W fun e w' => PartsPost W d e w' ∧ J [] w') :
    CallsIn Fence.wide n Try.prog 34 #[.func (.yield l) #[] #[], .pointer (some ⟨Bs, 0, none⟩)] W fun e W' => (∃ v, e = .returned v) ∧
      ((∃ ys, ys = livesOf d.L d.lv ∧ J ys W') ∨ (∃ pre, pre <+: livesOf d.L d.lv ∧ Jx pre W')) := by
  have hro : Fence.wide.round = none := rfl
  have hPI : ∀ m, CallsIn Fence.wide m Try.prog 11 #[.pointer (some ⟨p, 0, none⟩)] W fun e w' => PartsPost W d e w' ∧ J [] w' := fun m => callsIn_wide.2 hP
  refine callsIn_of_wp Try.func34 rfl trivial ?_ hro
  simp only [Try.ntmps34, List.size_toArray, List.length_cons, List.length_nil, Nat.reduceAdd, Nat.reduceSub, Array.replicate_succ, Array.replicate_zero, List.push_toArray, List.append_toArray, List.nil_append, List.cons_append]
  gi_wp2_with fail
  refine ⟨trivial, (hPI _).mono ?_⟩
  rintro e W1 ⟨⟨q, cs, rfl, -, -, hR, -⟩, hJ0⟩
  clear hPI hP hBs
  gi_wp2_with fail
  gi_loopw [8] (fun vi wr => ∃ k : Nat, k ≤ d.L.length ∧ vi = .int .i64 (k : Int) ∧ J (livesOf (d.L.take k) d.lv) wr ∧ PartRow wr q d.L.length d.L.length d.L d.lv cs) (fun vi _ => d.L.length - (intOf vi).toNat)
  case atStart => exact ⟨0, Nat.zero_le _, rfl, by simpa [livesOf] using hJ0, hR⟩
  case round =>
    clear hR hJ0
    obtain ⟨k, hk, rfl, hJ, hR⟩ := hrel
    by_cases hlt : k < d.L.length
    · obtain ⟨d0, d1, d2⟩ := hR.done k hlt hlt
      have x0 : wr.cell? ⟨q, k * 3, none⟩ = some (.int .i64 (d.L[k].1 : Int)) := by simp only [World.cell?, hR.hq]; simpa using d0
      have x1 : wr.cell? ⟨q, k * 3 + 1, none⟩ = some (.int .i64 (d.L[k].2 : Int)) := by simp only [World.cell?, hR.hq]; simpa using d1
      have x2 : wr.cell? ⟨q, k * 3 + 2, none⟩ = some (.bool (d.lv (d.L[k].1 : Int)).isSome) := by simp only [World.cell?, hR.hq]; simpa using d2
      have hlt' : (k : Int) < (d.L.length : Int) := by omega
      have hsucc := livesOf_succ (lv := d.lv) hlt
      have hpre := livesOf_prefix d.L d.lv (k + 1)
      by_cases hl : (d.lv (d.L[k].1 : Int)).isSome = true
      · rw [if_pos hl] at hsucc
        have hJa := abides_alloc hAb hJ (.cells #[.int .i64 (d.L[k].1 : Int), .int .i64 (d.L[k].2 : Int), .bool true] 38)
        have hRa := hR.stay (PartsStay.alloc wr (.cells #[.int .i64 (d.L[k].1 : Int), .int .i64 (d.L[k].2 : Int), .bool true] 38))
        obtain ⟨fn, tmps, assign, body, hy, hRd⟩ := hY _ d.L[k] _ hJa (by
          have := hpre.length_le
          rw [hsucc] at this
          simp at this
          omega)
        rw [hl] at x2
        have HS := hide hsucc
        have HR := hide hRa
        have HP := hide hpre
        clear hsucc hR hRa hpre d0 d1 d2 hJ hJa
        gi_wp2
        refine hRd.mono ?_
        rintro e W3 (⟨rfl, hJ3, hk3⟩ | ⟨rfl, hJx3⟩)
        · have HJ : Hid (J (livesOf (d.L.take (k + 1)) d.lv) W3) := by rw [HS.out]; exact hJ3
          have HR3 := hide (HR.out.stay hk3)
          clear HS HR hk3 hJ3 hRd hy x0 x1 x2
          gi_wp2
          go_roundw
          case rel => exact ⟨k + 1, by omega, by simp, HJ.out, HR3.out⟩
          case measure => simp [intOf]; omega
        · have HJ : Hid (∃ pre, pre <+: livesOf d.L d.lv ∧ Jx pre W3) := ⟨_, by rw [← HS.out]; exact HP.out, hJx3⟩
          clear HS HR hJx3 hRd hy x0 x1 x2
          gi_wp2
          refine bodyPost_ret (results_none rfl _ _ _) rfl ?_
          exact ⟨⟨_, rfl⟩, .inr HJ.out⟩
      · rw [if_neg hl, List.append_nil] at hsucc
        have hl' : (d.lv (d.L[k].1 : Int)).isSome = false := by simpa using hl
        rw [hl'] at x2
        have hJa := abides_alloc hAb hJ (.cells #[.int .i64 (d.L[k].1 : Int), .int .i64 (d.L[k].2 : Int), .bool false] 38)
        have HR := hide (hR.stay (PartsStay.alloc wr (.cells #[.int .i64 (d.L[k].1 : Int), .int .i64 (d.L[k].2 : Int), .bool false] 38)))
        have HJ : Hid (J (livesOf (d.L.take (k + 1)) d.lv) (wr.alloc (.cells #[.int .i64 (d.L[k].1 : Int), .int .i64 (d.L[k].2 : Int), .bool false] 38))) := by rw [hsucc]; exact hJa
        clear hsucc hR hpre d0 d1 d2 hJ hJa hl hl'
        gi_wp2
        refine ⟨(fun _ e => by cases e), ?_⟩
        gi_wp2
        go_roundw
        case rel => exact ⟨k + 1, by omega, by simp, HJ.out, HR.out⟩
        case measure => simp [intOf]; omega
    · obtain rfl : k = d.L.length := by omega
      rw [List.take_length] at hJ
      have HJ := hide hJ
      clear hJ hR
      gi_wp2
      go_end0
      exact ⟨⟨_, rfl⟩, .inl ⟨_, rfl, HJ.out⟩⟩

/-- A range over Blocks gives the live blocks in their order, or stops behind some of them. -/
theorem blocks_stops (n : Nat) (hn : 1 ≤ n) (Bs p : Nat) {X : Nat → Prop} {d : AD} (w : World) (hA : Arena w p X d) (hF : d.Fine) (hlen : d.L.length ≤ 134217728) (hBs : Bs < w.heap.size) (hc : w.cell? ⟨Bs, 0, none⟩ = some (.pointer (some ⟨p, 0, none⟩))) :
    SeqStopsK Fence.wide n Try.prog 34 #[.pointer (some ⟨Bs, 0, none⟩)] (fun x : Nat × Nat => #[Value.int .i64 (x.1 : Int), Value.int .i64 (x.2 : Int)]) PartsStay (fun ys => ys = livesOf d.L d.lv) (fun pre => pre <+: livesOf d.L d.lv) (livesOf d.L d.lv).length w := fun l J Jx W hW hAb _ hY h0 => by
  have kW : Keeps w W (fun _ => False) := ⟨hW.os, hW.tape, hW.output, hW.size, fun k hk _ => hW.block k hk⟩
  have hc' := (hW.cell (p := ⟨Bs, 0, none⟩) hBs).trans hc
  obtain ⟨c, hC, _⟩ := hA.keeps kW (fun _ _ _ e => e)
  have hP : Calls Try.prog 11 #[.pointer (some ⟨p, 0, none⟩)] W fun e w' => PartsPost W d e w' ∧ J [] w' := (parts_any hC hF hlen).mono fun e w' h => ⟨h, by
    obtain ⟨_, _, _, _, _, _, k⟩ := h
    exact hAb [] W w' none h0 ⟨k.os, k.tape, k.output, k.size, fun i hi _ => k.block i hi id⟩ (fun r e => by cases e)⟩
  exact blocks_each n hn l Bs p W.heap.size d hlen J Jx hAb hY W hc' hP
end Go.Proofs.Yteglefnfnkgpcaa
/-
  The statements' list of what Blocks gives.
-/
namespace Go.Proofs.Yteglefnfnkgpcaa
open Go.RowKit Go.Shelf

attribute [local go_sem] Oper.semAt_some

theorem PartsStay.put {W : World} {l : Nat} {o : Obj} (h : W.heap[l]? = some o) (hc : o.isCells = false) (o' : Obj) : PartsStay W (W.putObj l o') := fun q cs e => by
  have hne : q ≠ l := fun e' => by
    subst e'
    rw [e] at h
    cases h
    cases hc
  exact ((grownBy_putObj' W l o').block q (heap_lt e) (fun e' => hne (by cases e'; rfl))).trans e

theorem cell_two_new (w : World) (x y : Value) (t : TypeId) : ∀ j u, [x, y][j]? = some u → (w.alloc (.cells #[x, y] t)).cell? ((⟨w.heap.size, 0, none⟩ : Addr).add j) = some u := by
  intro j u hj
  have h : (w.alloc (.cells #[x, y] t)).heap[w.heap.size]? = some (.cells #[x, y] t) := heap_alloc_new _ _
  have hc : (w.alloc (.cells #[x, y] t)).cell? ⟨w.heap.size, 0 + j, none⟩ = (#[x, y] : Array Value)[0 + j]? := by
    unfold World.cell?
    rw [h]
    rfl
  have e : (⟨w.heap.size, 0, none⟩ : Addr).add j = ⟨w.heap.size, 0 + j, none⟩ := by
    simp [Addr.add]
    exact fun e => e.symm
  rw [e, hc]
  simpa using hj
theorem ownsRow_from {w : World} {n₀ e size k g : Nat} {v : Value} {xs : List Value} (h : w.ownsRow n₀ e size v k xs) (hg : v.ownBlock = some g) : n₀ ≤ g := by
  rcases h.2 with ⟨rfl, _⟩ | ⟨g', cap, cur, rfl, hb, _⟩
  · simp [Value.ownBlock] at hg
  · simp [Value.ownBlock] at hg
    omega
theorem ownsRow_less {w : World} {n₀ m e size k : Nat} {v : Value} {xs : List Value} (h : w.ownsRow n₀ e size v k xs) (hm : m ≤ n₀) : w.ownsRow m e size v k xs := by
  refine ⟨h.1, ?_⟩
  rcases h.2 with h | ⟨g', cap, cur, hv, hb, r⟩
  · exact Or.inl h
  · exact Or.inr ⟨g', cap, cur, hv, by omega, r⟩
/-- An append to a list of ints in a box leaves the lists of parts. -/
theorem parts_appended {W w1 : World} {n₀ B : Nat} {v : Value} {k : Nat} {xs : List Value} {tmp : Obj} (hv : Boxed W B 28 v) (hrow : W.ownsRow n₀ 3 1 v k xs) (hgrow : (W.alloc tmp).grownBy w1 v.ownBlock) (u : Value) : PartsStay W (w1.setCell ⟨B, 0, none⟩ u) := fun q cs e => by
  have hqB : q ≠ B := fun e' => by
    subst e'
    have h2 : W.heap[q]? = _ := hv
    rw [e] at h2
    simp at h2
  have hqr : some q ≠ v.ownBlock := fun e' => by
    rcases hrow.2 with ⟨rfl, _⟩ | ⟨g, cap, cur, rfl, _, hg, _⟩
    · simp [Value.ownBlock] at e'
    · obtain rfl : q = g := by simpa [Value.ownBlock] using e'
      rw [e] at hg
      simp at hg
  have h1 : (W.alloc tmp).heap[q]? = some (.cells cs 38) := (Below.heap_alloc _ _ _ (heap_lt e)).trans e
  have h2 := (hgrow.block q (heap_lt h1) hqr).trans h1
  exact (Below.heap_setCell _ ⟨B, 0, none⟩ _ q hqB).trans h2

/-- The list: offset, bytes, offset, bytes, and so on. -/
def flatOf (l : List (Nat × Nat)) : List Int := l.flatMap (fun x => [(x.1 : Int), (x.2 : Int)])

theorem flatOf_length (l : List (Nat × Nat)) : (flatOf l).length = 2 * l.length := by
  induction l with
  | nil => rfl
  | cons x r ih =>
    have : flatOf (x :: r) = [(x.1 : Int), (x.2 : Int)] ++ flatOf r := rfl
    rw [this, List.length_append, ih]
    simp
    omega
theorem flatOf_snoc (l : List (Nat × Nat)) (x : Nat × Nat) : flatOf (l ++ [x]) = flatOf l ++ [(x.1 : Int), (x.2 : Int)] := by simp [flatOf]

set_option maxRecDepth 100000 in
theorem eq_nil_func (W : World) (g : Nat) (x : Array Value) : (binOp .eql 41 (.func (.func g) #[] x) .nilFunc).run Try.prog W = .ok (.bool false) W := by
  rfl

set_option maxRecDepth 100000 in
set_option maxHeartbeats 2000000 in
theorem list_in (n : Nat) (hn : 3 ≤ n) (p : Nat) {X : Nat → Prop} {d : AD} (most : Nat) (w : World) (hA : Arena w p X d) (hF : d.Fine) (hlen : d.L.length ≤ 134217728) (hm : (livesOf d.L d.lv).length ≤ most) (hm2 : most ≤ 134217728) :
    CallsIn Fence.wide n Try.prog 22 #[.pointer (some ⟨p, 0, none⟩), .int .i64 (most : Int)] w fun e W' => ∃ v, e = .returned v ∧ W'.ownsRow w.heap.size 3 1 v (flatOf (livesOf d.L d.lv)).length ((flatOf (livesOf d.L d.lv)).map (Value.int .i64)) ∧ Below w.heap.size w W' := by
  have hro : Fence.wide.round = none := rfl
  obtain ⟨i0, hi, hz0, hz1, hz2⟩ := info_parts Try.infoI2
  have hB : ∀ m W, CallsIn Fence.wide m Try.prog 14 #[.pointer (some ⟨p, 0, none⟩)] W fun e w' => e = .returned (.func (.func 34) #[] #[.pointer (some ⟨W.heap.size, 0, none⟩)]) ∧ w' = W.alloc (.cells #[.pointer (some ⟨p, 0, none⟩)] 23) := fun m W => callsIn_wide.2 (blocks_call W p)
  have hne := fun W x => eq_nil_func W 34 x
  refine callsIn_of_wp_marks Try.func22 rfl trivial ?_ hro
  simp only [Try.ntmps22, List.size_toArray, List.length_cons, List.length_nil, Nat.reduceAdd, Nat.reduceSub, Array.replicate_succ, Array.replicate_zero, List.push_toArray, List.append_toArray, List.nil_append, List.cons_append]
  gi_wp2_with fail
  refine ⟨trivial, (fun _ => by omega), (hB _ _).mono ?_⟩
  rintro e w1 ⟨rfl, rfl⟩
  gi_wp2_with fail
  have hs3 : (((w.alloc (.cells #[.int .i64 (most : Int)] 3)).alloc (.cells #[.slice none 0 0] 28)).alloc (.cells #[.pointer (some ⟨p, 0, none⟩)] 23)).heap.size = w.heap.size + 1 + 1 + 1 := by simp
  have kA : Keeps w (((w.alloc (.cells #[.int .i64 (most : Int)] 3)).alloc (.cells #[.slice none 0 0] 28)).alloc (.cells #[.pointer (some ⟨p, 0, none⟩)] 23)) (fun _ => False) := (((Keeps.refl _ _).alloc _).alloc _).alloc _
  have bM : Boxed (((w.alloc (.cells #[.int .i64 (most : Int)] 3)).alloc (.cells #[.slice none 0 0] 28)).alloc (.cells #[.pointer (some ⟨p, 0, none⟩)] 23)) w.heap.size 3 (.int .i64 (most : Int)) := ((Boxed.new w 3 _).alloc _).alloc _
  have bL : Boxed (((w.alloc (.cells #[.int .i64 (most : Int)] 3)).alloc (.cells #[.slice none 0 0] 28)).alloc (.cells #[.pointer (some ⟨p, 0, none⟩)] 23)) (w.heap.size + 1) 28 (.slice none 0 0) := by
    have := (Boxed.new (w.alloc (.cells #[.int .i64 (most : Int)] 3)) 28 (.slice none 0 0)).alloc (.cells #[.pointer (some ⟨p, 0, none⟩)] 23)
    simpa using this
  have bA : (((w.alloc (.cells #[.int .i64 (most : Int)] 3)).alloc (.cells #[.slice none 0 0] 28)).alloc (.cells #[.pointer (some ⟨p, 0, none⟩)] 23)).cell? ⟨w.heap.size + 1 + 1, 0, none⟩ = some (.pointer (some ⟨p, 0, none⟩)) := by
    have := (Boxed.new ((w.alloc (.cells #[.int .i64 (most : Int)] 3)).alloc (.cells #[.slice none 0 0] 28)) 23 (.pointer (some ⟨p, 0, none⟩))).cell
    simpa using this
  have hA3 := hA.keeps kA (fun _ _ _ e => e)
  have hB0 : Below w.heap.size w (((w.alloc (.cells #[.int .i64 (most : Int)] 3)).alloc (.cells #[.slice none 0 0] 28)).alloc (.cells #[.pointer (some ⟨p, 0, none⟩)] 23)) := kA.below (Nat.le_refl _) (fun _ _ e => e)
  generalize (((w.alloc (.cells #[.int .i64 (most : Int)] 3)).alloc (.cells #[.slice none 0 0] 28)).alloc (.cells #[.pointer (some ⟨p, 0, none⟩)] 23)) = W3 at *
  refine wpIn_rangeFunc_ownG hro (by omega) (gf := 34) (lb := #[.pointer (some ⟨w.heap.size + 1 + 1, 0, none⟩)]) rfl trivial (enters_of Try.func34 (by kernel_rfl) rfl)
    (blocks_stops (n - 1) (by omega) (w.heap.size + 1 + 1) p W3 hA3 hF hlen (by omega) bA) PartsStay.trans (fun W l o o' hl h hc _ => PartsStay.put h hc o') (Below.refl _ _) (fun _ => rfl)
    (fun pre W => ((∃ v, Boxed W (w.heap.size + 1) 28 v ∧ W.ownsRow (w.heap.size + 1) 3 1 v (flatOf pre).length ((flatOf pre).map (Value.int .i64)) ∧ True) ∧ Boxed W w.heap.size 3 (.int .i64 (most : Int))) ∧ Below w.heap.size w W)
    (fun _ _ _ => False)
    (OwnFrom.and (OwnFrom.and (Own.from (holdsRow_own (w.heap.size + 1) (w.heap.size + 1) 28 3 1 (fun pre => (flatOf pre).length) (fun pre => (flatOf pre).map (Value.int .i64)) (fun _ _ => True)) _) (Own.from (boxed_own w.heap.size 3 (fun _ => .int .i64 (most : Int))) _)) (ownFrom_below (Nat.le_refl _) (by omega)))
    (fun _ _ _ _ _ hs _ _ => hs)
    ⟨⟨⟨_, bL, World.ownsRow_nil _ _ _ _, trivial⟩, bM⟩, hB0⟩
    (fun x => { tmps := #[.pointer (some ⟨p, 0, none⟩), .int .i64 (most : Int), undef, .pointer (some ⟨w.heap.size, 0, none⟩), .slice none 0 0, .pointer (some ⟨w.heap.size + 1, 0, none⟩), .func (.func 34) #[] #[.pointer (some ⟨w.heap.size + 1 + 1, 0, none⟩)], .int .i64 (x.1 : Int), .int .i64 (x.2 : Int), .pointer (some ⟨p, 0, none⟩), .func (.func 34) #[] #[.pointer (some ⟨w.heap.size + 1 + 1, 0, none⟩)], .func (.func 34) #[] #[.pointer (some ⟨w.heap.size + 1 + 1, 0, none⟩)], .bool false, undef, .func (.func 34) #[] #[.pointer (some ⟨w.heap.size + 1 + 1, 0, none⟩)], .int .i64 (x.1 : Int), .int .i64 (x.2 : Int), undef, undef, undef, undef, undef, undef, undef, undef, undef, undef, undef], defers := [] }) ?assign ?body ?done ?stop
  case assign =>
    intro l x W K hK
    gi_wp2
    exact hK
  case body =>
    rintro l pre x W ⟨⟨⟨v, hv, hrow, -⟩, hM⟩, hB⟩ hlt
    have hc := hv.cell
    have hcm := hM.cell
    have hfl := flatOf_length pre
    have hneM : some w.heap.size ≠ v.ownBlock := fun e => by have := ownsRow_from hrow e.symm; omega
    have hBs : w.heap.size + 1 ≤ W.heap.size := Nat.le_of_lt hv.lt
    have hgt : ¬ (2 * (most : Int)) < 2 * (pre.length : Int) + 1 + 1 := by omega
    gi_wp2_with (gi_at_builtin; refine wpListIn_append_own _ rfl _ _ 28 rfl (w.heap.size + 1) 3 i0 (.int .i64 0) 1 8 Try.underlying28 hi hz0 hz1 hz2 rfl (by decide) _ _ _ rfl (hrow.alloc _) ⟨W.heap.size, 0, none⟩ 2 2 [.int .i64 (x.1 : Int), .int .i64 (x.2 : Int)] rfl rfl (cell_two_new _ _ _ _) (by simp [Value.oneCell']) (by unfold maxLen; omega) (by omega) (by simp; omega) ?_; intro v' w1 hown' hgrow _; obtain ⟨g', cap', rfl⟩ := ownsRow_succ hown'; obtain ⟨hv1, hv2, hr2, hk2, hb2⟩ := hv.appended (by decide) hrow hBs (Nat.le_refl _) hown' hgrow; have hM1 := (hM.alloc _).kept hgrow hneM; have hM2 := fun u => hide (hM1.other (show w.heap.size ≠ w.heap.size + 1 by omega) u); have hcm1 := hM1.cell; have hps := parts_appended hv hrow hgrow; have Hr2 := hide hr2; clear hr2; have hc1 := hv1.cell; have hf1 := hv1.frozen)
    rw [← hfl]
    exact ⟨hk2.from _, hps _, ⟨⟨_, hv2, by rw [flatOf_snoc, List.map_append]; simpa using Hr2.out⟩, (hM2 _).out⟩, hB.trans (hb2.mono (by omega))⟩
  case done =>
    rintro D ys W hD rfl ⟨⟨⟨v, hv, hrow, -⟩, hM⟩, hB⟩ hK
    have hc := hv.cell
    gi_wp2
    refine ⟨by simp, .inl ⟨_, _, rfl, run_takeDeferred hK, ?_⟩⟩
    exact ⟨_, results_tmp rfl _ _ _, v, rfl, ownsRow_less (ownsRow_putObj hrow _ hK rfl) (by omega), hB.trans (belowK_b (w := w) (Nat.le_refl _) W D _ _ (by omega) hK rfl rfl)⟩
  case stop =>
    rintro D c pre W _ _ h _
    exact h.elim

/-- The list of the live blocks, in a block of its own. -/
theorem list_any (p : Nat) {X : Nat → Prop} {d : AD} (most : Nat) (w : World) (hA : Arena w p X d) (hF : d.Fine) (hlen : d.L.length ≤ 134217728) (hm : (livesOf d.L d.lv).length ≤ most) (hm2 : most ≤ 134217728) :
    Calls Try.prog 22 #[.pointer (some ⟨p, 0, none⟩), .int .i64 (most : Int)] w fun e W' => ∃ v, e = .returned v ∧ W'.ownsRow w.heap.size 3 1 v (flatOf (livesOf d.L d.lv)).length ((flatOf (livesOf d.L d.lv)).map (Value.int .i64)) ∧ Below w.heap.size w W' :=
  callsIn_wide.1 (list_in 3 (Nat.le_refl _) p most w hA hF hlen hm hm2)
end Go.Proofs.Yteglefnfnkgpcaa
/-
  Two lists that are the same; Size.
-/
namespace Go.Proofs.Yteglefnfnkgpcaa
open Go.RowKit Go.Shelf

set_option maxRecDepth 100000 in
set_option maxHeartbeats 1000000 in
theorem same_true (a b : Option Addr) (ca cb : Nat) (zs : List Int) (w : World) (hl : zs.length ≤ 140737488355328) (h1 : IntsAt w a zs) (h2 : IntsAt w b zs) :
    Calls Try.prog 13 #[.slice a zs.length ca, .slice b zs.length cb] w fun e w' => e = .returned (.bool true) ∧ Keeps w w' (fun _ => False) := by
  rcases h1.two with rfl | ⟨b1, o1, rfl, h0, hc1⟩
  · clear h1 h2
    go_enter Try.func13, Try.ntmps13
    go_wp2_with fail
    go_loopw [5] (fun vi wr => vi = .int .i64 0 ∧ wr = w) (fun _ _ => 0)
    case atStart => exact ⟨rfl, rfl⟩
    case round =>
      obtain ⟨rfl, rfl⟩ := hrel
      go_wp2_with fail
      go_ret
      exact ⟨rfl, Keeps.refl _ _⟩
  rcases h2.two with rfl | ⟨b2, o2, rfl, _, hc2⟩
  · simp at h0
  clear h1 h2
  go_enter Try.func13, Try.ntmps13
  go_wp2_with fail
  go_loopw [5] (fun vi wr => ∃ i : Nat, vi = .int .i64 (i : Int) ∧ i ≤ zs.length ∧ (wr.heap = w.heap ∧ Keeps w wr (fun _ => False))) (fun vi _ => zs.length - (intOf vi).toNat)
  case atStart => exact ⟨0, rfl, Nat.zero_le _, rfl, Keeps.refl _ _⟩
  case round =>
    obtain ⟨i, rfl, hi, hw, kr⟩ := hrel
    by_cases hlt : i < zs.length
    · have x1 : wr.cell? ⟨b1, o1 + i, none⟩ = some (.int .i64 zs[i]) := (World.cell?_of_block (by rw [hw])).trans (hc1 i hlt)
      have x2 : wr.cell? ⟨b2, o2 + i, none⟩ = some (.int .i64 zs[i]) := (World.cell?_of_block (by rw [hw])).trans (hc2 i hlt)
      have hlt' : (i : Int) < (zs.length : Int) := by omega
      have HW := hide hw
      clear hc1 hc2 hw
      go_wp2_with fail
      go_quiet (fail)
      go_wp2_with fail
      exact ⟨⟨i + 1, by simp, by omega, HW.out, ⟨kr.os, kr.tape, kr.output, kr.size, kr.block⟩⟩, by simp [intOf]; omega⟩
    · have hlt' : ¬ (i : Int) < (zs.length : Int) := by omega
      clear hw
      go_wp2_with fail
      go_ret
      exact ⟨rfl, kr⟩

set_option maxRecDepth 100000 in
set_option maxHeartbeats 1000000 in
theorem size_any {w : World} {p : Nat} {c : AR} {d : AD} (h : ArenaAt w p c d) (off : Int) (ho : fitsI off) :
    Calls Try.prog 18 #[.pointer (some ⟨p, 0, none⟩), .int .i64 off] w fun e w' => e = .returned (.tuple #[.int .i64 ((d.lv off).getD 0), .int .i64 (if (d.lv off).isSome then 0 else 23)]) ∧ w' = w := by
  have c4 := h.cell4
  have hlk := look_ok_int (w := w) Try.underlying3 Try.underlying69 (Try.zeroI _) h.live (x := off) ho
  clear h
  cases hl : d.lv off with
  | none =>
    rw [hl] at hlk
    simp only [Option.getD_none, Option.isSome_none] at hlk
    go_enter Try.func18, Try.ntmps18
    go_wp2_with fail
    go_ret2
    exact ⟨rfl, rfl⟩
  | some s =>
    rw [hl] at hlk
    simp only [Option.getD_some, Option.isSome_some] at hlk
    go_enter Try.func18, Try.ntmps18
    go_wp2_with fail
    go_ret2
    exact ⟨rfl, rfl⟩
end Go.Proofs.Yteglefnfnkgpcaa
/-
  A book of blocks (the law's Held): its sum, and whether a span meets one of them.
-/
namespace Go.Proofs.Yteglefnfnkgpcaa
open Go.RowKit Go.Shelf
set_option linter.unusedVariables false

/-- A row of the law's Held in the memory. -/
def HeldsAt (w : World) (a : Option Addr) (L : List (Nat × Nat × Nat)) : Prop := L = [] ∨ ∃ b o, a = some ⟨b, o, none⟩ ∧ ∀ i (h : i < L.length),
  w.cell? ⟨b, o + i * 3, none⟩ = some (.int .i64 (L[i].1 : Int)) ∧ w.cell? ⟨b, o + i * 3 + 1, none⟩ = some (.int .i64 (L[i].2.1 : Int)) ∧ w.cell? ⟨b, o + i * 3 + 2, none⟩ = some (.int .u8 (L[i].2.2 : Int))
def sumH (L : List (Nat × Nat × Nat)) : Nat := (L.map (·.2.1)).sum
theorem sumH_take (L : List (Nat × Nat × Nat)) (i : Nat) (h : i < L.length) : sumH (L.take (i + 1)) = sumH (L.take i) + L[i].2.1 := by
  have e := List.take_append_getElem h
  rw [← e]
  simp only [sumH, List.map_append, List.sum_append, List.map_cons, List.map_nil, List.sum_cons, List.sum_nil, Nat.add_zero]
theorem sumH_le (L : List (Nat × Nat × Nat)) (i : Nat) : sumH (L.take i) ≤ sumH L := by
  have e := List.take_append_drop i L
  have e2 : sumH L = sumH (L.take i) + sumH (L.drop i) := by
    rw [sumH, sumH, sumH, ← List.sum_append, ← List.map_append, e]
  omega
theorem Keeps.cellK {w w' : World} (k : Keeps w w' (fun _ => False)) {p : Addr} {v : Value} (h : w.cell? p = some v) : w'.cell? p = some v := by
  have : p.block < w.heap.size := by
    refine Nat.lt_of_not_le fun hn => ?_
    rw [World.cell?, Array.getElem?_eq_none hn] at h
    cases h
  exact (World.cell?_of_block (w := w) (k.block p.block this (fun x => x))).trans h

set_option maxRecDepth 100000 in
set_option maxHeartbeats 1000000 in
theorem sum_any (a : Option Addr) (ca : Nat) (L : List (Nat × Nat × Nat)) (w : World) (hl : L.length ≤ 140737488355328) (hs : sumH L ≤ 140737488355328) (h1 : HeldsAt w a L) :
    Calls Try.prog 43 #[.slice a L.length ca] w fun e w' => e = .returned (.int .i64 (sumH L : Int)) ∧ Keeps w w' (fun _ => False) := by
  go_enter Try.func43, Try.ntmps43
  go_wp2_with fail
  go_loopg [3, 8] L.length (fun g s3 s8 wr => ∃ i : Nat, g = L.length - i ∧ i ≤ L.length ∧ s3 = .int .i64 (sumH (L.take i) : Int) ∧ s8 = .int .i64 (i : Int) ∧ Keeps w wr (fun _ => False))
  case atStart => exact ⟨0, rfl, Nat.zero_le _, rfl, rfl, Keeps.refl _ _⟩
  case round =>
    obtain ⟨i, rfl, hi, rfl, rfl, kr⟩ := hrel
    by_cases hlt : i < L.length
    · rcases h1 with rfl | ⟨b1, o1, rfl, hc⟩
      · simp at hlt
      obtain ⟨x1, x2, x3⟩ := hc i hlt
      replace x1 := kr.cellK x1
      replace x2 := kr.cellK x2
      replace x3 := kr.cellK x3
      have hlt' : (i : Int) < (L.length : Int) := by omega
      have e1 := sumH_take L i hlt
      have e2 := sumH_le L (i + 1)
      have hb : (sumH (L.take i) : Int) + (L[i].2.1 : Int) ≤ 140737488355328 := by omega
      clear hc
      generalize L[i].1 = y1 at *
      generalize L[i].2.1 = y2 at *
      generalize L[i].2.2 = y3 at *
      generalize sumH (L.take i) = z at *
      go_wp2_with fail
      go_roundg (L.length - (i + 1))
      case measure => omega
      case rel => exact ⟨i + 1, rfl, by omega, by rw [e1]; simp, by simp, kr.alloc _⟩
    · obtain rfl : i = L.length := by omega
      have hlt' : ¬ (L.length : Int) < (L.length : Int) := by omega
      have e : sumH (L.take L.length) = sumH L := by rw [List.take_length]
      rw [e]
      clear e h1
      go_wp2_with fail
      go_ret
      exact ⟨rfl, kr⟩

def oneH (h : Nat × Nat × Nat) (off n : Int) : Bool := decide (off < (h.1 : Int) + (h.2.1 : Int)) && decide ((h.1 : Int) < off + n)
def meetsH (L : List (Nat × Nat × Nat)) (off n : Int) : Bool := L.any fun h => oneH h off n

set_option maxRecDepth 100000 in
set_option maxHeartbeats 1000000 in
theorem meets_any (a : Option Addr) (ca : Nat) (L : List (Nat × Nat × Nat)) (off n : Int) (w : World) (hl : L.length ≤ 140737488355328) (hs : ∀ h ∈ L, h.1 + h.2.1 ≤ 140737488355328) (ho : -140737488355328 ≤ off ∧ off + n ≤ 140737488355328 ∧ 0 ≤ n) (h1 : HeldsAt w a L) :
    Calls Try.prog 44 #[.slice a L.length ca, .int .i64 off, .int .i64 n] w fun e w' => e = .returned (.bool (meetsH L off n)) ∧ Keeps w w' (fun _ => False) := by
  go_enter Try.func44, Try.ntmps44
  go_wp2_with fail
  go_loopg [11] L.length (fun g s11 wr => ∃ i : Nat, g = L.length - i ∧ i ≤ L.length ∧ s11 = .int .i64 (i : Int) ∧ Keeps w wr (fun _ => False) ∧ ∀ j (hj : j < L.length), j < i → oneH L[j] off n = false)
  case atStart => exact ⟨0, rfl, Nat.zero_le _, rfl, Keeps.refl _ _, fun j _ h => by omega⟩
  case round =>
    obtain ⟨i, rfl, hi, rfl, kr, hno⟩ := hrel
    by_cases hlt : i < L.length
    · rcases h1 with rfl | ⟨b1, o1, rfl, hc⟩
      · simp at hlt
      obtain ⟨x1, x2, x3⟩ := hc i hlt
      replace x1 := kr.cellK x1
      replace x2 := kr.cellK x2
      replace x3 := kr.cellK x3
      have hlt' : (i : Int) < (L.length : Int) := by omega
      have hm := hs L[i] (List.getElem_mem hlt)
      have hin : Aside (oneH L[i] off n = true → meetsH L off n = true) := fun h => List.any_eq_true.2 ⟨L[i], List.getElem_mem hlt, h⟩
      have hout : Aside (oneH L[i] off n = false → ∀ j (hj : j < L.length), j < i + 1 → oneH L[j] off n = false) := fun h j hj hji => by
        by_cases e : j = i
        · subst e; exact h
        · exact hno j hj (by omega)
      have hone : Aside (oneH L[i] off n = (decide (off < (L[i].1 : Int) + (L[i].2.1 : Int)) && decide ((L[i].1 : Int) < off + n))) := rfl
      clear hc hno hs
      generalize oneH L[i] off n = q at *
      generalize L[i].1 = y1 at *
      generalize L[i].2.1 = y2 at *
      generalize L[i].2.2 = y3 at *
      have hb1 : (y1 : Int) + (y2 : Int) ≤ 140737488355328 := by omega
      obtain ⟨o1', o2', o3'⟩ := ho
      by_cases g1 : off < (y1 : Int) + (y2 : Int)
      · by_cases g2 : (y1 : Int) < off + n
        · have hmt : Aside (meetsH L off n = true) := hin.out (by rw [hone.out]; simp [g1, g2])
          go_wp2_with fail
          go_ret
          exact ⟨by rw [hmt.out]; rfl, kr.alloc _⟩
        · have hq : Aside (q = false) := show q = false by rw [hone.out]; simp [g2]
          go_wp2_with fail
          go_roundg (L.length - (i + 1))
          case measure => omega
          case rel => exact ⟨i + 1, rfl, by omega, by simp, kr.alloc _, hout.out hq.out⟩
      · have hq : Aside (q = false) := show q = false by rw [hone.out]; simp [g1]
        go_wp2_with fail
        go_roundg (L.length - (i + 1))
        case measure => omega
        case rel => exact ⟨i + 1, rfl, by omega, by simp, kr.alloc _, hout.out hq.out⟩
    · obtain rfl : i = L.length := by omega
      have hlt' : ¬ (L.length : Int) < (L.length : Int) := by omega
      have e : meetsH L off n = false := by
        rw [← Bool.not_eq_true]
        intro h
        obtain ⟨y, hy, hy2⟩ := List.any_eq_true.1 h
        obtain ⟨j, hj, rfl⟩ := List.getElem_of_mem hy
        exact Bool.noConfusion ((hno j hj hj).symm.trans hy2)
      have he : Aside (meetsH L off n = false) := e
      clear e h1 hno
      go_wp2_with fail
      go_ret
      exact ⟨by rw [he.out]; rfl, kr⟩
end Go.Proofs.Yteglefnfnkgpcaa
namespace Go.Proofs.Yteglefnfnkgpcaa
open Go.RowKit Go.Shelf

/-- The byte u n times, as the statements make it. -/
def RepPost (w : World) (n : Nat) (u : UInt8) (e : Ending) (w' : World) : Prop := e = .returned (.string (strOf (same n u))) ∧ Keeps w w' (fun _ => False)
theorem same_mix (n k : Nat) (u : UInt8) (h : k < n) : (rowOf (same k u ++ zeros (n - k))).setIfInBounds k (.int .u8 (u.toNat : Int)) = rowOf (same (k + 1) u ++ zeros (n - (k + 1))) := by
  apply Array.ext'
  obtain ⟨m, hm⟩ : ∃ m, n - k = m + 1 := ⟨n - k - 1, by omega⟩
  have hm' : n - (k + 1) = m := by omega
  rw [Array.toList_setIfInBounds, rowOf_toList, rowOf_toList, hm, hm']
  have e1 : cellsOf (same k u ++ zeros (m + 1)) = cellsOf (same k u) ++ (.int .u8 0 :: cellsOf (zeros m)) := by
    rw [cellsOf_append]
    rfl
  have e2 : cellsOf (same (k + 1) u ++ zeros m) = cellsOf (same k u) ++ (.int .u8 (u.toNat : Int) :: cellsOf (zeros m)) := by
    rw [← same_succ, List.append_assoc, cellsOf_append]
    rfl
  have hl : (cellsOf (same k u)).length = k := by rw [cellsOf_length, same_length]
  rw [e1, e2, List.set_append_right _ _ (by omega), hl, Nat.sub_self]
  rfl

set_option maxHeartbeats 1000000 in
theorem repeat_any (u : UInt8) (n : Nat) (w : World) (hn : n ≤ 134217728) : Calls Try.prog 45 #[.int .u8 (u.toNat : Int), .int .i64 (n : Int)] w fun e w' => RepPost w n u e w' := by
  have hmk := run_make_bytes (P := Try.prog) w 90 5 Try.underlying90 Try.infoE n hn
  have hu := u.toNat_lt
  obtain ⟨S, hS⟩ : ∃ S, strOf (same n u) = S := ⟨_, rfl⟩
  unfold RepPost
  rw [hS]
  go_enter Try.func45, Try.ntmps45
  go_wp2_with fail
  go_loopw [6] (fun i wr => ∃ k : Nat, i = .int .i64 (k : Int) ∧ k ≤ n ∧ wr.heap[w.heap.size]? = some (.cells (rowOf (same k u ++ zeros (n - k))) 5) ∧ Keeps w wr (fun _ => False)) (fun i _ => n - (intOf i).toNat)
  case atStart => exact ⟨0, rfl, Nat.zero_le _, heap_alloc_new _ _, (Keeps.refl _ _).alloc _⟩
  case round =>
    obtain ⟨k, rfl, hk, hr, K⟩ := hrel
    clear hmk
    by_cases hlt : k < n
    · have hlt' : (k : Int) < (n : Int) := by omega
      have hc : wr.cell? ⟨w.heap.size, k, none⟩ = some (.int .u8 ((((same k u ++ zeros (n - k))[k]'(by simp [same_length, zeros_length]; omega)).toNat : Int))) := by
        have := rowOf_get (same k u ++ zeros (n - k)) k (by simp [same_length, zeros_length]; omega)
        simp only [World.cell?, hr]
        simpa using this
      have hf : wr.frozen? ⟨w.heap.size, k, none⟩ = false := by simp [World.frozen?, hr]
      have hr2 : (wr.setCell ⟨w.heap.size, k, none⟩ (.int .u8 (u.toNat : Int))).heap[w.heap.size]? = some (.cells (rowOf (same (k + 1) u ++ zeros (n - (k + 1)))) 5) := by
        rw [setCell_eq_setRow wr w.heap.size k _ 5 (0, 0) _ hr, heap_setRow_same hr, same_mix n k u hlt]
      have K2 : Keeps w (wr.setCell ⟨w.heap.size, k, none⟩ (.int .u8 (u.toNat : Int))) (fun _ => False) := K.setCell ⟨w.heap.size, k, none⟩ (fun h => absurd h (Nat.lt_irrefl _)) _
      generalize ((same k u ++ zeros (n - k))[k]'(by simp [same_length, zeros_length]; omega)).toNat = old at *
      clear hr K
      go_wp2_with fail
      go_roundw
      case rel => exact ⟨k + 1, by go_num, by omega, hr2, K2⟩
      case measure => simp [intOf]; omega
    · have hkn : k = n := by omega
      subst hkn
      have hlt' : ¬ (k : Int) < (k : Int) := by omega
      have htx := run_text wr ⟨w.heap.size, 0, none⟩ k k (same k u) (same_length k u) (fun j hj => by
        rw [addr_add, Nat.zero_add]
        have := rowOf_get (same k u ++ zeros (k - k)) j (by simp; omega)
        simp only [World.cell?, hr]
        simpa [List.getElem_append_left hj] using this)
      rw [hS] at htx
      have K2 := hide K
      clear hr K hS
      go_wp2_with fail
      go_ret
      exact ⟨rfl, K2.out⟩
end Go.Proofs.Yteglefnfnkgpcaa
