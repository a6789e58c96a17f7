import Derived.Below
import Derived.Test.YteglefnfnkgpcaaRn6
namespace Go.Proofs.Yteglefnfnkgpcaa
open Go.RowKit Go.Shelf

def FreePost (w : World) (p : Nat) (F : Nat → Prop) (d : AD) (rs : List Int) (e : Ending) (w' : World) : Prop :=
  (allGood d rs ∧ e = .returned (.int .i64 0) ∧ ∃ d', Gones d rs d' ∧ Turned w w' p F d') ∨ (¬ allGood d rs ∧ e = .returned (.int .i64 23) ∧ Keeps w w' (fun _ => False))

/-- Behind Sorted: the list, in its own block. -/
structure SortedAt (w w1 : World) (g cap : Nat) (rs : List Int) : Prop where
  keeps : Keeps w w1 (fun _ => False)
  new : w.heap.size ≤ g
  lt : g < w1.heap.size
  cell : ∀ i, i < rs.length → w1.cell? ⟨g, i, none⟩ = some (.int .i64 (at0 rs i))
  hcap : rs.length ≤ cap
  hmost : cap ≤ maxLen

theorem rising_nil {zs : List Int} (h : rising zs = []) : zs = [] := by
  have := rising_length zs
  rw [h] at this
  exact List.eq_nil_of_length_eq_zero this.symm
theorem sorted_form {w w1 : World} {rs : List Int} {v : Value} (h : ListPost w rs (.returned v) w1) (h0 : 0 < rs.length) : ∃ g cap, v = .slice (some ⟨g, 0, none⟩) rs.length cap ∧ SortedAt w w1 g cap rs := by
  obtain ⟨v', e, h1, _, k⟩ := h
  cases e
  rcases h1.2 with ⟨_, hn⟩ | ⟨g, cap, cur, hv, hg, hh, hn, hm, hs, ht⟩
  · omega
  · refine ⟨g, cap, hv, k, hg, heap_lt hh, fun i hi => ?_, hn, hm⟩
    have e1 : (cur.toList.take (rs.length * 1))[i]? = (rs.map (Value.int .i64))[i]? := by rw [ht]
    rw [List.getElem?_take, if_pos (by omega), List.getElem?_map, at0_of_lt hi] at e1
    simp [World.cell?, hh]
    simpa using e1

set_option maxRecDepth 100000 in
set_option maxHeartbeats 4000000 in
theorem free_any {w : World} {p : Nat} {F : Nat → Prop} {d : AD} (h : Arena w p F d) (hFl : ∀ k, F k → k < w.heap.size) (hF : d.Fine) (a : Option Addr) (cap : Nat) (zs : List Int) (hz0 : 0 < zs.length) (hz1 : zs.length ≤ 134217728) (hfit : ∀ z ∈ zs, fitsI z) (hI : IntsBelow w.heap.size w a zs) :
    Calls Try.prog 16 #[.pointer (some ⟨p, 0, none⟩), .slice a zs.length cap] w fun e w' => FreePost w p F d (rising zs) e w' := by
  have hV := values_any a zs.length cap w
  have hrl := rising_length zs
  have hsort := rising_sorted zs
  have hfit' : ∀ i, i < (rising zs).length → fitsI (at0 (rising zs) i) := fun i hi => by
    have hm : at0 (rising zs) i ∈ rising zs := by
      rw [show at0 (rising zs) i = (rising zs)[i] by simp [at0, hi]]
      exact List.getElem_mem hi
    exact hfit _ ((List.mergeSort_perm zs _).mem_iff.1 hm)
  have hS : ∀ W, W = w.alloc (.cells #[.slice a zs.length cap] 28) → Calls Try.prog 35 #[.func (.func 55) #[] #[.pointer (some ⟨w.heap.size, 0, none⟩)]] W fun e w' => ListPost W (rising zs) e w' := fun W hW => by
    subst hW
    have k0 : Keeps w (w.alloc (.cells #[.slice a zs.length cap] 28)) (fun _ => False) := (Keeps.refl _ _).alloc _
    refine sorted_any w.heap.size a cap zs (by omega) _ (by simp) (by simp only [World.cell?, heap_alloc_new]; simp) ?_
    rcases hI with e | ⟨b, off, e, hb, hc⟩
    · exact Or.inl e
    · refine Or.inr ⟨b, off, e, by simp; omega, fun j hj => ?_⟩
      exact (World.cell?_of_block (k0.block b hb id)).trans (hc j hj)
  generalize rising zs = rs at *
  have kA : Keeps w (w.alloc (.cells #[.slice a zs.length cap] 28)) (fun _ => False) := (Keeps.refl _ _).alloc _
  have hsA : w.heap.size ≤ (w.alloc (.cells #[.slice a zs.length cap] 28)).heap.size := by simp
  clear hI
  go_enter Try.func16, Try.ntmps16
  go_wp2_with fail
  refine hV.mono ?_
  rintro e wv ⟨rfl, hwv⟩
  clear hV
  have hS := hS wv hwv
  rw [← hwv] at kA hsA
  clear hwv
  go_wp2_with fail
  refine hS.mono ?_
  intro e w1 hL
  obtain ⟨v, he, _⟩ := id hL
  subst he
  obtain ⟨g, cap', rfl, hso⟩ := sorted_form hL (by omega)
  clear hS hL
  have kw : Keeps w w1 (fun _ => False) := kA.trans hso.keeps (fun _ _ e => e)
  have hA1 : Arena w1 p F d := h.keeps kw (fun _ _ _ e => e)
  have hgF : ¬ F g := fun e => by have := hFl g e; have := hso.new; omega
  have hcell := hso.cell
  have hlen : rs.length ≤ 134217728 := by omega
  have hcap := hso.hcap
  have hcm := hso.hmost
  unfold maxLen at hcm
  obtain ⟨c, hc, hfo⟩ := hA1
  have c4 := hc.cell4
  have hlook : ∀ i, i < rs.length → (Instr.lookup 69 (.map (some c.bl)) (.int .i64 (at0 rs i)) false).run Try.prog w1 = .ok (.int .i64 ((d.lv (at0 rs i)).getD 0)) w1 := fun i hi => look_int (w := w1) Try.underlying3 Try.underlying69 (Try.zeroI w1) hc.live (hfit' i hi)
  have hlive0 : ∀ i, (d.lv (at0 rs i)).isSome = true → (d.lv (at0 rs i)).getD 0 ≠ 0 := fun i hi => by
    obtain ⟨s, hs⟩ := Option.isSome_iff_exists.1 hi
    obtain ⟨o, n, _, e, hp, _⟩ := live_fits hF hs
    rw [hs, e]
    simp
    omega
  have H := hide (show Arena w1 p F d from ⟨c, hc, hfo⟩)
  have HSO := hide hso
  have HH := hide h
  clear hc hfo h hso kA hsA
  go_wp2_with fail
  go_loopw [16] (fun vi wr => ∃ i : Nat, vi = .int .i64 (i : Int) ∧ i ≤ rs.length ∧ w1 = wr ∧ ∀ j, j < i → goodAt d rs j) (fun vi _ => rs.length - (intOf vi).toNat)
  case atStart => exact ⟨0, rfl, Nat.zero_le _, rfl, fun j hj => by omega⟩
  case round =>
    obtain ⟨i, rfl, hi, rfl, hgd⟩ := hrel
    have HG := hide hgd
    clear hgd
    rcases Nat.lt_or_ge i rs.length with hlt | hge
    · have hci := hcell i hlt
      have hlk := hlook i hlt
      have hltI : (i : Int) < (rs.length : Int) := by omega
      cases hlv : d.lv (at0 rs i) with
      | none =>
        rw [hlv] at hlk
        simp only [Option.getD_none] at hlk
        have hno : Hid (¬ allGood d rs) := fun hall => by have := (hall i hlt).1; rw [hlv] at this; cases this
        clear hlook hcell hlive0
        go_wp2_with fail
        go_ret
        exact Or.inr ⟨hno.out, rfl, kw⟩
      | some s =>
        have hs0 := hlive0 i (by rw [hlv]; rfl)
        rw [hlv] at hlk hs0
        simp only [Option.getD_some] at hlk hs0
        have hs1 : (s == 0) = false := by simpa using hs0
        rcases Nat.eq_zero_or_pos i with hz | hpos
        · subst hz
          have hgood : Hid (goodAt d rs 0) := ⟨by rw [hlv]; rfl, fun h => by omega⟩
          clear hlook hcell hlive0
          go_wp2_with fail
          exact ⟨⟨1, rfl, by omega, trivial, fun j hj => by rw [show j = 0 by omega]; exact hgood.out⟩, by simp [intOf]; omega⟩
        · obtain ⟨m, rfl⟩ : ∃ m, i = m + 1 := ⟨i - 1, by omega⟩
          have hcm1 := hcell m (by omega)
          by_cases heq : at0 rs (m + 1) = at0 rs m
          · have hno : Hid (¬ allGood d rs) := fun hall => (hall (m + 1) hlt).2 (by omega) heq
            have hb : (at0 rs (m + 1) == at0 rs m) = true := by simpa using heq
            clear hlook hcell hlive0 heq
            go_wp2_with fail
            go_ret
            exact Or.inr ⟨hno.out, rfl, kw⟩
          · have hgood : Hid (goodAt d rs (m + 1)) := ⟨by rw [hlv]; rfl, fun _ => heq⟩
            have hb : (at0 rs (m + 1) == at0 rs m) = false := by simpa using heq
            clear hlook hcell hlive0 heq
            go_wp2_with fail
            refine ⟨⟨m + 2, by go_num, by omega, trivial, fun j hj => ?_⟩, by simp [intOf]; omega⟩
            rcases Nat.lt_or_ge j (m + 1) with h | h
            · exact HG.out j h
            · rw [show j = m + 1 by omega]
              exact hgood.out
    · have hall : Hid (allGood d rs) := fun j hj => HG.out j (by omega)
      have hgeI : ¬ (i : Int) < (rs.length : Int) := by omega
      have HC := hide hcell
      clear hlook hcell hlive0 HG
      go_wp2_with fail
      go_loopw [44] (fun vk wq => ∃ k : Nat, vk = .int .i64 (k : Int) ∧ k ≤ rs.length ∧ FreeRel w1 p F d rs k wq) (fun vk _ => rs.length - (intOf vk).toNat)
      case atStart => exact ⟨0, rfl, Nat.zero_le _, d, rfl, H.out.mono (fun _ _ e => Or.inl e), Keeps.refl _ _⟩
      case round =>
        obtain ⟨k, rfl, hk, hR⟩ := hrel
        rcases Nat.lt_or_ge k rs.length with hklt | hkge
        · obtain ⟨bl, s, u, w2, c4', hlk', hdel, c1', f1', hsu, hu, hLv⟩ := free_step hR hF hklt hsort hall.out
          have hck : wr.cell? ⟨g, k, none⟩ = some (.int .i64 (at0 rs k)) := by
            obtain ⟨_, _, _, kk⟩ := hR
            exact (World.cell?_of_block (kk.block g HSO.out.lt hgF)).trans (HC.out k hklt)
          have hltI : (k : Int) < (rs.length : Int) := by omega
          have hsI : (s : Int) ≤ (u : Int) := by omega
          have huI : (u : Int) ≤ 134217728 := by omega
          clear hR
          go_wp2_with fail
          refine hLv.mono ?_
          rintro e w4 ⟨rfl, hr⟩
          have HR := hide hr
          clear hLv hr hdel hlk'
          go_wp2_with fail
          exact ⟨⟨k + 1, by go_num, by omega, HR.out⟩, by simp [intOf]; omega⟩
        · have hfin : FreePost w p F d rs (.returned (.int .i64 0)) wr := by
            obtain ⟨d', hG, hA, kk⟩ := hR
            rw [List.take_of_length_le hkge] at hG
            have hsz := kw.size
            refine Or.inl ⟨hall.out, rfl, d', hG, hA.mono (fun j _ e => ?_), (kw.mono (fun _ _ e => e.elim)).trans kk (fun _ _ e => e)⟩
            rcases e with e | e
            · exact Or.inl e
            · exact Or.inr (by omega)
          have HF := hide hfin
          have hgeI : ¬ (k : Int) < (rs.length : Int) := by omega
          clear hfin hR
          go_wp2_with fail
          go_ret
          exact HF.out
end Go.Proofs.Yteglefnfnkgpcaa
namespace Go.Proofs.Yteglefnfnkgpcaa
open Go.RowKit Go.Shelf

/-- The bytes of a span. -/
def AD.span (d : AD) (off n : Int) : List UInt8 := (d.bs.drop off.toNat).take n.toNat
def readV (d : AD) (off n : Int) : ByteArray × Int := if d.goodB off n then (strOf (d.span off n), 0) else (ByteArray.empty, 24)
def ReadAPost (w : World) (s : ByteArray) (x : Int) (e : Ending) (w' : World) : Prop := e = .returned (.tuple #[.string s, .int .i64 x]) ∧ Keeps w w' (fun _ => False)
set_option maxHeartbeats 1000000 in
theorem aread_any {w : World} {p : Nat} {c : AR} {d : AD} (h : ArenaAt w p c d) (hF : d.Fine) (off n : Int) (ho : fitsI off) (hn : fitsI n) :
    Calls Try.prog 39 #[.pointer (some ⟨p, 0, none⟩), .int .i64 off, .int .i64 n] w fun e w' => ReadAPost w (readV d off n).1 (readV d off n).2 e w' := by
  have hN := good_any h hF off n ho hn
  unfold readV
  cases hg : d.goodB off n
  · rw [hg] at hN
    simp only [Bool.false_eq_true, if_false]
    clear h hF
    go_enter Try.func39, Try.ntmps39
    go_wp2_with fail
    refine hN.mono ?_
    rintro e w1 ⟨rfl, k1⟩
    have K1 := hide k1
    clear hN k1
    go_wp2_with fail
    go_ret2
    exact ⟨rfl, K1.out⟩
  · rw [hg] at hN
    obtain ⟨o, k, rfl, rfl, ho16, hok⟩ := hF.span hg
    simp only [if_true]
    have hsp : d.span (o : Int) (k : Int) = (d.bs.drop o).take k := by simp [AD.span]
    rw [hsp]
    have hrd := fun W (kW : Keeps w W (fun _ => False)) => read_yes W c.b c.g d.bs c.sp (h.mem.keeps kW id id) o k hok
    have hc2 := fun W (kW : Keeps w W (fun _ => False)) => (h.keeps kW (fun _ _ e => e)).cell2
    have hlen : ((d.bs.drop o).take k).length = k := by simp; omega
    obtain ⟨x, hx⟩ : ∃ x, (d.bs.drop o).take k = x := ⟨_, rfl⟩
    rw [hx] at hlen ⊢
    obtain ⟨s, hs⟩ : ∃ s, strOf x = s := ⟨_, rfl⟩
    rw [hs]
    clear h hF hg hsp
    go_enter Try.func39, Try.ntmps39
    go_wp2_with fail
    refine hN.mono ?_
    rintro e w1 ⟨rfl, k1⟩
    replace hrd := hrd w1 k1
    replace hc2 := hc2 w1 k1
    clear hN
    go_wp2_with fail
    refine hrd.mono ?_
    rintro e w2 ⟨hh, _, rfl, hr, k2⟩
    rw [hx] at hr
    have K2 := hide (k1.trans k2 (fun _ _ e => e))
    have htx := run_text w2 ⟨hh, 0, none⟩ k k x hlen (fun j hj => by
      have := rowOf_get x j hj
      rw [addr_add, Nat.zero_add]
      simp only [World.cell?, hr]
      simpa using this)
    rw [hs] at htx
    clear hrd hr k1 k2 hc2 hx hs
    go_wp2_with fail
    go_ret2
    exact ⟨rfl, K2.out⟩
end Go.Proofs.Yteglefnfnkgpcaa
namespace Go.Proofs.Yteglefnfnkgpcaa
open Go.RowKit Go.Shelf

theorem num_any (x : Int) (w : World) : Calls Try.prog 9 #[.int .i64 x] w fun e w' => e = .returned (.int .i64 x) ∧ w' = w := by
  go_enter Try.func9, Try.ntmps9
  go_wp2
  go_ret
  exact ⟨rfl, rfl⟩

/-- An arena that a statement has made itself, since the world w; it has none of the blocks X. -/
structure Own (w w1 : World) (p : Nat) (X : Nat → Prop) (d : AD) : Prop where
  arena : Arena w1 p (fun k => w.heap.size ≤ k ∧ ¬ X k) d
  keeps : Keeps w w1 (fun _ => False)
theorem Own.here {w w1 : World} {p : Nat} {X : Nat → Prop} {d : AD} (h : Own w w1 p X d) : Arena w1 p (fun k => (w.heap.size ≤ k ∧ ¬ X k) ∧ k < w1.heap.size) d := h.arena.mono (fun _ a b => ⟨b, a⟩)
theorem Own.turn {w w1 w2 : World} {p : Nat} {X : Nat → Prop} {d d' : AD} (h : Own w w1 p X d) (ht : Turned w1 w2 p (fun k => (w.heap.size ≤ k ∧ ¬ X k) ∧ k < w1.heap.size) d') (hX : ∀ k, X k → k < w1.heap.size) : Own w w2 p X d' := by
  refine ⟨ht.1.mono (fun i _ hi => ?_), h.keeps.trans ht.2 (fun i hi e => by omega)⟩
  rcases hi with hi | hi
  · exact hi.1
  · exact ⟨by have := h.keeps.size; omega, fun e => by have := hX i e; omega⟩
theorem Own.stay {w w1 w2 : World} {p : Nat} {X : Nat → Prop} {d : AD} (h : Own w w1 p X d) (k : Keeps w1 w2 (fun _ => False)) : Own w w2 p X d :=
  ⟨h.arena.keeps k (fun _ _ _ e => e), h.keeps.trans k (fun _ _ e => e)⟩
theorem Own.less {w w1 : World} {p : Nat} {X Y : Nat → Prop} {d : AD} (h : Own w w1 p X d) (hY : ∀ k, k < w1.heap.size → w.heap.size ≤ k → Y k → X k) : Own w w1 p Y d :=
  ⟨h.arena.mono (fun i hi e => ⟨e.1, fun y => e.2 (hY i hi e.1 y)⟩), h.keeps⟩
/-- What others keep in blocks of X, and what lay ahead, stays. -/
theorem Own.rest {w w1 w2 : World} {p : Nat} {X : Nat → Prop} {d : AD} (ht : Turned w1 w2 p (fun k => (w.heap.size ≤ k ∧ ¬ X k) ∧ k < w1.heap.size) d) {k : Nat} (hk : k < w1.heap.size) (hx : X k ∨ k < w.heap.size) : w2.heap[k]? = w1.heap[k]? :=
  ht.2.block k hk (fun e => by
    rcases hx with hx | hx
    · exact e.1.2 hx
    · omega)
theorem Own.below {w w1 : World} {p : Nat} {X : Nat → Prop} {d : AD} (h : Own w w1 p X d) {w0 : World} (k : Keeps w0 w (fun _ => False)) : Below w0.heap.size w0 w1 := (k.trans h.keeps (fun _ _ e => e)).below (Nat.le_refl _) (fun _ _ e => e)

theorem own_new {w : World} (n : Nat) (h : n ≤ 2097152) : Calls Try.prog 8 #[.int .i64 (n : Int)] w fun e w' => ∃ p, e = .returned (.tuple #[.pointer (some ⟨p, 0, none⟩), .int .i64 0]) ∧ Own w w' p (fun _ => False) (AD.fresh n) := by
  refine (anew_yes n w h).mono ?_
  rintro e w1 ⟨p, rfl, hA, k⟩
  exact ⟨p, rfl, hA.mono (fun _ _ e => ⟨e, id⟩), k⟩

section
variable {w w1 : World} {p : Nat} {X : Nat → Prop} {d : AD} (h : Own w w1 p X d) (hF : d.Fine)
include h hF
theorem own_alloc {T : AD → Nat → Nat × AD} {G : AD → Prop} (hT : TakeOK T G) (hG : G d) (n : Nat) (h1 : 1 ≤ n) (h2 : n ≤ 1048576) (h3 : d.used + classN n ≤ d.limit) :
    Calls Try.prog 17 #[.pointer (some ⟨p, 0, none⟩), .int .i64 (n : Int)] w1 fun e w' => AllocPost w1 p (fun k => (w.heap.size ≤ k ∧ ¬ X k) ∧ k < w1.heap.size) (T d (classN n)).1 (T d (classN n)).2 e w' :=
  alloc_yes hT h.here (fun _ hk => hk.2) hG hF n h1 h2 h3
end

section
variable {w w1 : World} {p : Nat} {X : Nat → Prop} {d : AD} (h : Own w w1 p X d) (hF : d.Fine)
include h hF
theorem own_fill (off n : Int) (u : UInt8) (ho : fitsI off) (hn : fitsI n) :
    Calls Try.prog 30 #[.pointer (some ⟨p, 0, none⟩), .int .i64 off, .int .i64 n, .int .u8 (u.toNat : Int)] w1 fun e w' => ErrPost w1 p (fun k => (w.heap.size ≤ k ∧ ¬ X k) ∧ k < w1.heap.size) (fillR d off n u).1 (fillR d off n u).2 e w' :=
  afill_any h.here hF off n u ho hn
end

section
variable {w w1 : World} {p : Nat} {X : Nat → Prop} {d : AD} (h : Own w w1 p X d) (hF : d.Fine)
include h hF
theorem own_read (off n : Int) (ho : fitsI off) (hn : fitsI n) : Calls Try.prog 39 #[.pointer (some ⟨p, 0, none⟩), .int .i64 off, .int .i64 n] w1 fun e w' => ReadAPost w1 (readV d off n).1 (readV d off n).2 e w' := by
  obtain ⟨c, hc, _⟩ := h.arena
  exact aread_any hc hF off n ho hn
end
end Go.Proofs.Yteglefnfnkgpcaa
/-
  The law's own classOf.
-/
namespace Go.Proofs.Yteglefnfnkgpcaa
open Go.RowKit Go.Shelf

theorem pairs_one : ∀ x ∈ classPairs, ∀ y ∈ classPairs, x.2 < y.1 → y.2 < x.1 → x.1 = y.1 := by decide +kernel
theorem class_at {n : Nat} (h1 : 1 ≤ n) (h2 : n ≤ 1048576) {x : Nat × Nat} (hx : x ∈ classPairs) (ha : x.2 < n) (hb : n ≤ x.1) : x.1 = classN n := by
  obtain ⟨y, hy, e, h3, h4⟩ := class_spec n h1 h2
  rw [e]
  exact pairs_one x hx y hy (by omega) (by omega)
theorem pairs_next : ∀ x ∈ classPairs, x.1 < 1048576 → (x.1 = 16 ∧ (32, 16) ∈ classPairs) ∨ (x.1 ≠ 16 ∧ bits .and .i64 (x.1 : Int) ((x.1 : Int) - 1) = 0 ∧ (x.1 + x.1 / 2, x.1) ∈ classPairs) ∨ (x.1 ≠ 16 ∧ bits .and .i64 (x.1 : Int) ((x.1 : Int) - 1) ≠ 0 ∧ (x.1 + x.1 / 3, x.1) ∈ classPairs) := by decide +kernel
theorem pairs_le : ∀ x ∈ classPairs, 16 ≤ x.1 ∧ x.1 ≤ 1048576 ∧ x.2 < x.1 := by decide +kernel

set_option maxRecDepth 100000 in
set_option maxHeartbeats 1000000 in
theorem classOf_core (n N : Nat) (w : World) (h1 : 1 ≤ n) (h2 : n ≤ 1048576) (hN : Hid (∀ x ∈ classPairs, x.2 < n → n ≤ x.1 → x.1 = N)) :
    Calls Try.prog 15 #[.int .i64 (n : Int)] w fun e w' => e = .returned (.int .i64 (N : Int)) ∧ w' = w := by
  go_enter Try.func15, Try.ntmps15
  go_wp2
  go_loop [3] (fun v => ∃ c b : Nat, v = .int .i64 (c : Int) ∧ Hid ((c, b) ∈ classPairs ∧ b < n) ∧ 16 ≤ c ∧ c ≤ 1048576) (fun v => 1048577 - (intOf v).toNat)
  case atStart => exact ⟨16, 0, rfl, ⟨by decide +kernel, by omega⟩, by omega, by omega⟩
  case round =>
    obtain ⟨c, b, rfl, hc, hc1, hc2⟩ := hrel
    by_cases hlt : c < n
    · have hlt' : (c : Int) < (n : Int) := by omega
      rcases pairs_next _ hc.out.1 (by simp; omega) with ⟨e1, e2⟩ | ⟨e1, e2, e3⟩ | ⟨e1, e2, e3⟩
      · have e1 : c = 16 := e1
        subst e1
        have HM : Hid ((32, 16) ∈ classPairs) := e2
        clear hN e2 hc
        go_wp2
        go_round
        case rel => exact ⟨32, 16, by go_num, ⟨HM.out, hlt⟩, by omega, by omega⟩
        case measure => simp [intOf]
      · have f1 : ¬ (c : Int) = 16 := by simp at e1; omega
        have f2 : ((c : Int) == 16) = false := by simp at e1; simp; omega
        have hle := pairs_le _ e3
        have HM : Hid ((c + c / 2, c) ∈ classPairs) := e3
        simp only at e2 hle
        clear hN e3 hc e1
        go_wp2
        go_round
        case rel => exact ⟨c + c / 2, c, by go_num, ⟨HM.out, hlt⟩, by omega, by omega⟩
        case measure => simp [intOf]; omega
      · have f1 : ¬ (c : Int) = 16 := by simp at e1; omega
        have f2 : ((c : Int) == 16) = false := by simp at e1; simp; omega
        have hle := pairs_le _ e3
        have HM : Hid ((c + c / 3, c) ∈ classPairs) := e3
        simp only at e2 hle
        clear hN e3 hc e1
        go_wp2
        go_round
        case rel => exact ⟨c + c / 3, c, by go_num, ⟨HM.out, hlt⟩, by omega, by omega⟩
        case measure => simp [intOf]; omega
    · have hE : c = N := hN.out _ hc.out.1 hc.out.2 (by simp; omega)
      have hlt' : ¬ (c : Int) < (n : Int) := by omega
      subst hE
      clear hc hN
      go_wp2
      go_ret
      exact ⟨rfl, rfl⟩
theorem classOf_any (n : Nat) (w : World) (h1 : 1 ≤ n) (h2 : n ≤ 1048576) :
    Calls Try.prog 15 #[.int .i64 (n : Int)] w fun e w' => e = .returned (.int .i64 (classN n : Int)) ∧ w' = w :=
  classOf_core n (classN n) w h1 h2 (fun _ hx ha hb => class_at h1 h2 hx ha hb)

/-- Free of one, by a statement. -/
theorem own_free1 {w w1 : World} {p : Nat} {X : Nat → Prop} {d : AD} (h : Own w w1 p X d) (hF : d.Fine) (z : Int) (s : Int) (hz : d.lv z = some s) (hX : ∀ k, X k → k < w1.heap.size) :
    Calls Try.prog 16 #[.pointer (some ⟨p, 0, none⟩), .slice (some ⟨w1.heap.size, 0, none⟩) 1 1] (w1.alloc (.cells #[.int .i64 z] 3)) fun e w' => e = .returned (.int .i64 0) ∧ ∃ d', Gone d z d' ∧ Own w w' p X d' ∧ Keeps w1 w' (fun k => (w.heap.size ≤ k ∧ ¬ X k) ∧ k < w1.heap.size) := by
  have k0 : Keeps w1 (w1.alloc (.cells #[.int .i64 z] 3)) (fun _ => False) := (Keeps.refl _ _).alloc _
  obtain ⟨o, n, ez, _, _, hm, _⟩ := live_fits hF hz
  have hr : rising [z] = [z] := by simp [rising]
  have hf := free_any (w := w1.alloc (.cells #[.int .i64 z] 3)) (h.here.keeps k0 (fun _ _ _ e => e)) (fun k hk => by have := hk.2; simp; omega) hF (some ⟨w1.heap.size, 0, none⟩) 1 [z] (by simp) (by simp) (fun y hy => by
    simp at hy
    subst hy
    rw [ez]
    exact fitsI_mk (by omega) (by omega)) (Or.inr ⟨w1.heap.size, 0, rfl, by simp, fun j hj => by
      have hj0 : j = 0 := by simpa using hj
      subst hj0
      simp only [World.cell?, heap_alloc_new]
      simp⟩)
  rw [hr] at hf
  have hgood : allGood d [z] := fun i hi => by
    have hi0 : i = 0 := by simpa using hi
    subst hi0
    exact ⟨by simp [at0, hz], fun h => by omega⟩
  refine hf.mono ?_
  intro e w2 hp
  rcases hp with ⟨_, rfl, d', ⟨d1, hg, hd⟩, ht⟩ | ⟨hno, _⟩
  · cases hd
    have ht' : Turned w1 w2 p (fun k => (w.heap.size ≤ k ∧ ¬ X k) ∧ k < w1.heap.size) d' := by
      refine ⟨ht.1.mono (fun i _ hi => ?_), (k0.mono (fun _ _ e => e.elim)).trans ht.2 (fun _ _ e => e)⟩
      rcases hi with hi | hi
      · exact Or.inl hi
      · exact Or.inr (by simp at hi; omega)
    exact ⟨rfl, d', hg, h.turn ht' hX, ht'.2⟩
  · exact absurd hgood hno
end Go.Proofs.Yteglefnfnkgpcaa
namespace Go.Proofs.Yteglefnfnkgpcaa
open Go.RowKit Go.Shelf

def DownRel (w : World) (hb : Nat) (v : Value) (xs : List Int) (n i : Nat) (wr : World) : Prop := ∃ ys : List Int, ys.Perm xs ∧ DownInv n ys i ∧ (∀ k, n ≤ k → at0 ys k = at0 xs k) ∧ HeapAt wr hb v ys ∧ Keeps w wr (fun k => v.ownBlock = some k)
def DownPost (w : World) (hb : Nat) (v : Value) (xs : List Int) (n : Nat) (e : Ending) (w' : World) : Prop := ∃ b, e = .returned (.bool b) ∧ ∃ ys : List Int, ys.Perm xs ∧ Heapy n ys ∧ (∀ k, n ≤ k → at0 ys k = at0 xs k) ∧ HeapAt w' hb v ys ∧ Keeps w w' (fun k => v.ownBlock = some k)

set_option maxRecDepth 100000 in
set_option maxHeartbeats 2000000 in
theorem heap_down {w : World} {hb : Nat} {v : Value} {xs : List Int} {n : Nat} (h : DownRel w hb v xs n 0 w) (hn : n ≤ xs.length) (hl : xs.length ≤ 134217728) :
    Calls Try.prog 74 #[.iface 97 (.pointer (some ⟨hb, 0, none⟩)), .int .i64 0, .int .i64 (n : Int)] w fun e w' => DownPost w hb v xs n e w' := by
  have mL := reach_less hb
  have mS := reach_swap hb
  have eL := ent_less
  have eS := ent_swap
  unfold Enters at eL eS
  have H0 := hide h
  clear h
  go_enter Try.func74, Try.ntmps74
  go_wp2
  go_loopw [7] (fun vi wr => ∃ i : Nat, vi = .int .i64 (i : Int) ∧ i ≤ n ∧ DownRel w hb v xs n i wr) (fun vi _ => n + 1 - (intOf vi).toNat)
  case atStart => exact ⟨0, rfl, Nat.zero_le _, H0.out⟩
  case round =>
    obtain ⟨i, rfl, hin, ys, hperm, hinv, hrest, hat, hk⟩ := hrel
    have hlen := hperm.length_eq
    have P0 := hide hperm
    have I0 := hide hinv
    have R0 := hide hrest
    have hn' : n ≤ 134217728 := by omega
    have hi' : i ≤ 134217728 := by omega
    clear hperm hinv hrest H0
    rcases Nat.lt_or_ge (2 * i + 1) n with h1 | h1
    · have hneg : ¬ 2 * (i : Int) + 1 < 0 := by omega
      have hlt1 : ¬ (n : Int) ≤ 2 * (i : Int) + 1 := by omega
      have last : ∀ j : Nat, 0 < j → j < n → (j - 1) / 2 = i → (∀ k, 0 < k → k < n → (k - 1) / 2 = i → at0 ys j ≤ at0 ys k) → ∀ q0 : Nat,
          (Calls Try.prog 110 #[.pointer (some ⟨hb, 0, none⟩), .int .i64 (j : Int), .int .i64 (i : Int)] (wr.drewN q0) fun e w' => e = .returned (.bool (decide (at0 ys j < at0 ys i))) ∧ ∃ q, w' = wr.drewN (q0 + q)) ∧
          (at0 ys j < at0 ys i → ∀ q, Calls Try.prog 113 #[.pointer (some ⟨hb, 0, none⟩), .int .i64 (i : Int), .int .i64 (j : Int)] (wr.drewN (q0 + q)) fun e w' => e = .returned (.tuple #[]) ∧ DownRel w hb v xs n j w') := fun j h0 hj hp hm q0 => by
        have kq : Keeps wr (wr.drewN q0) (fun _ => False) := (Keeps.refl wr _).drewN q0
        have hat0 := hat.keeps kq id (fun _ _ => id)
        refine ⟨(low_less hat0 j i (by omega) (by omega) (by omega)).mono (fun e w' he => ?_), fun hlt q => ?_⟩
        · obtain ⟨h1, q, h2⟩ := he
          exact ⟨h1, q, by rw [h2, World.drewN_drewN]⟩
        rw [← World.drewN_drewN]
        have kq2 : Keeps (wr.drewN q0) ((wr.drewN q0).drewN q) (fun _ => False) := (Keeps.refl _ _).drewN q
        refine (low_swap (hat0.keeps kq2 id (fun _ _ => id)) i j (by omega) (by omega) (by omega)).mono ?_
        rintro e w' ⟨rfl, h1, h2⟩
        refine ⟨rfl, sw ys i j, (sw_perm (by omega) (by omega)).trans P0.out, I0.out.step (by omega) h0 hj hp hlt hm, fun k hk => ?_, h1, ((hk.trans kq (fun _ _ e => e.elim)).trans kq2 (fun _ _ e => e.elim)).trans h2 (fun _ _ e => e)⟩
        rw [sw_at (by omega) (by omega), if_neg (by omega), if_neg (by omega)]
        exact R0.out k hk
      have fin : ∀ j : Nat, 0 < j → j < n → (j - 1) / 2 = i → (∀ k, 0 < k → k < n → (k - 1) / 2 = i → at0 ys j ≤ at0 ys k) → at0 ys i ≤ at0 ys j → ∀ q b, DownPost w hb v xs n (.returned (.bool b)) (wr.drewN q) := fun j h0 hj hp hm hlt q b => by
        have kq : Keeps wr (wr.drewN q) (fun _ => False) := (Keeps.refl wr _).drewN q
        exact ⟨b, rfl, ys, P0.out, I0.out.stop (fun k hk0 hkn hkp => by have := hm k hk0 hkn hkp; omega), R0.out, hat.keeps kq id (fun _ _ => id), hk.trans kq (fun _ _ e => e.elim)⟩
      have HF := hide fin
      clear fin
      have hL2 := fun (h2 : 2 * i + 2 < n) => low_less hat (2 * i + 2) (2 * i + 1) (by omega) (by omega) (by omega)
      rw [show (((2 * i + 2 : Nat)) : Int) = 2 * (i : Int) + 1 + 1 by omega, show (((2 * i + 1 : Nat)) : Int) = 2 * (i : Int) + 1 by omega] at hL2
      clear hat hk P0 I0 R0 hlen
      rcases Nat.lt_or_ge (2 * i + 2) n with h2 | h2
      · have hlt2 : 2 * (i : Int) + 1 + 1 < (n : Int) := by omega
        have hL2 := hL2 h2
        by_cases hc : at0 ys (2 * i + 2) < at0 ys (2 * i + 1)
        · rw [decide_eq_true hc] at hL2
          have hm : ∀ k, 0 < k → k < n → (k - 1) / 2 = i → at0 ys (2 * i + 2) ≤ at0 ys k := fun k h0 hk hp => by
            rcases (show k = 2 * i + 1 ∨ k = 2 * i + 2 by omega) with rfl | rfl
            · omega
            · exact Int.le_refl _
          clear hc
          go_wp2_with fail
          refine hL2.mono ?_
          rintro e w1 ⟨rfl, q0, rfl⟩
          clear hL2
          have hlast := last (2 * i + 2) (by omega) (by omega) (by omega) hm q0
          rw [show (((2 * i + 2 : Nat)) : Int) = 2 * (i : Int) + 1 + 1 by omega] at hlast
          by_cases hlt : at0 ys (2 * i + 2) < at0 ys i
          · rw [decide_eq_true hlt] at hlast
            obtain ⟨hL, hS⟩ := hlast
            have hS := hide (hS hlt)
            clear hm last hlt HF
            go_wp2_with fail
            refine hL.mono ?_
            rintro e w1 ⟨rfl, q, rfl⟩
            have hS := hS.out q
            clear hL
            go_wp2_with fail
            refine hS.mono ?_
            rintro e w2 ⟨rfl, hr⟩
            have HR := hide hr
            clear hS hr
            go_wp2_with fail
            exact ⟨⟨2 * i + 2, by rw [show (((2 * i + 2 : Nat)) : Int) = 2 * (i : Int) + 1 + 1 by omega], by omega, HR.out⟩, by simp [intOf]; omega⟩
          · rw [decide_eq_false hlt] at hlast
            have hL := hlast.1
            have HF := hide (HF.out (2 * i + 2) (by omega) (by omega) (by omega) hm (by omega))
            clear hlast hm last hlt
            go_wp2_with fail
            refine hL.mono ?_
            rintro e w1 ⟨rfl, q, rfl⟩
            have HF := hide (HF.out (q0 + q))
            clear hL
            go_wp2_with fail
            go_ret
            exact HF.out _
        · rw [decide_eq_false hc] at hL2
          have hm : ∀ k, 0 < k → k < n → (k - 1) / 2 = i → at0 ys (2 * i + 1) ≤ at0 ys k := fun k h0 hk hp => by
            rcases (show k = 2 * i + 1 ∨ k = 2 * i + 2 by omega) with rfl | rfl
            · exact Int.le_refl _
            · omega
          clear hc
          go_wp2_with fail
          refine hL2.mono ?_
          rintro e w1 ⟨rfl, q0, rfl⟩
          clear hL2
          have hlast := last (2 * i + 1) (by omega) (by omega) (by omega) hm q0
          rw [show (((2 * i + 1 : Nat)) : Int) = 2 * (i : Int) + 1 by omega] at hlast
          by_cases hlt : at0 ys (2 * i + 1) < at0 ys i
          · rw [decide_eq_true hlt] at hlast
            obtain ⟨hL, hS⟩ := hlast
            have hS := hide (hS hlt)
            clear hm last hlt HF
            go_wp2_with fail
            refine hL.mono ?_
            rintro e w1 ⟨rfl, q, rfl⟩
            have hS := hS.out q
            clear hL
            go_wp2_with fail
            refine hS.mono ?_
            rintro e w2 ⟨rfl, hr⟩
            have HR := hide hr
            clear hS hr
            go_wp2_with fail
            exact ⟨⟨2 * i + 1, by rw [show (((2 * i + 1 : Nat)) : Int) = 2 * (i : Int) + 1 by omega], by omega, HR.out⟩, by simp [intOf]; omega⟩
          · rw [decide_eq_false hlt] at hlast
            have hL := hlast.1
            have HF := hide (HF.out (2 * i + 1) (by omega) (by omega) (by omega) hm (by omega))
            clear hlast hm last hlt
            go_wp2_with fail
            refine hL.mono ?_
            rintro e w1 ⟨rfl, q, rfl⟩
            have HF := hide (HF.out (q0 + q))
            clear hL
            go_wp2_with fail
            go_ret
            exact HF.out _
      · have hlt2 : ¬ 2 * (i : Int) + 1 + 1 < (n : Int) := by omega
        have hm : ∀ k, 0 < k → k < n → (k - 1) / 2 = i → at0 ys (2 * i + 1) ≤ at0 ys k := fun k h0 hk hp => by
          rcases (show k = 2 * i + 1 by omega) with rfl
          exact Int.le_refl _
        clear hL2
        have hlast := last (2 * i + 1) (by omega) (by omega) (by omega) hm 0
        simp only [World.drewN_zero, Nat.zero_add] at hlast
        rw [show (((2 * i + 1 : Nat)) : Int) = 2 * (i : Int) + 1 by omega] at hlast
        by_cases hlt : at0 ys (2 * i + 1) < at0 ys i
        · rw [decide_eq_true hlt] at hlast
          obtain ⟨hL, hS⟩ := hlast
          have hS := hide (hS hlt)
          clear hm last hlt HF
          go_wp2_with fail
          refine hL.mono ?_
          rintro e w1 ⟨rfl, q, rfl⟩
          have hS := hS.out q
          clear hL
          go_wp2_with fail
          refine hS.mono ?_
          rintro e w2 ⟨rfl, hr⟩
          have HR := hide hr
          clear hS hr
          go_wp2_with fail
          exact ⟨⟨2 * i + 1, by rw [show (((2 * i + 1 : Nat)) : Int) = 2 * (i : Int) + 1 by omega], by omega, HR.out⟩, by simp [intOf]; omega⟩
        · rw [decide_eq_false hlt] at hlast
          have hL := hlast.1
          have HF := hide (HF.out (2 * i + 1) (by omega) (by omega) (by omega) hm (by omega))
          clear hlast hm last hlt
          go_wp2_with fail
          refine hL.mono ?_
          rintro e w1 ⟨rfl, q, rfl⟩
          have HF := hide (HF.out q)
          clear hL
          go_wp2_with fail
          go_ret
          exact HF.out _
    · have hlt1 : (n : Int) ≤ 2 * (i : Int) + 1 := by omega
      have hfin : ∀ b, DownPost w hb v xs n (.returned (.bool b)) wr := fun b => ⟨b, rfl, ys, P0.out, I0.out.stop (fun k h0 hkn hp => by omega), R0.out, hat, hk⟩
      have HF := hide hfin
      clear hfin hat hk hlen I0 P0 R0
      go_wp2_with fail
      go_ret
      exact HF.out _
end Go.Proofs.Yteglefnfnkgpcaa
namespace Go.Proofs.Yteglefnfnkgpcaa
open Go.RowKit Go.Shelf

def PopPost (w : World) (hb : Nat) (v : Value) (xs : List Int) (e : Ending) (w' : World) : Prop := ∃ m, e = .returned (.iface 3 (.int .i64 m)) ∧ (∀ x ∈ xs, m ≤ x) ∧ ∃ ys : List Int, (ys ++ [m]).Perm xs ∧ Heapy ys.length ys ∧ HeapTurned w hb v ys w'

theorem Heapy.mem {xs : List Int} (h : Heapy xs.length xs) : ∀ x ∈ xs, at0 xs 0 ≤ x := fun x hx => by
  obtain ⟨k, hk, rfl⟩ := List.getElem_of_mem hx
  have := h.least k hk
  simpa [at0, hk] using this
theorem list_last {ys : List Int} {n : Nat} (h : ys.length = n + 1) : ys = ys.take n ++ [at0 ys n] := by
  have h1 : ys.drop n = [at0 ys n] := by
    rw [List.drop_eq_getElem_cons (by omega), List.drop_eq_nil_of_le (by omega)]
    simp [at0, h]
  rw [← h1, List.take_append_drop]
theorem at0_take {ys : List Int} {n k : Nat} (h : k < n) : at0 (ys.take n) k = at0 ys k := by
  simp [at0, h]

set_option maxRecDepth 100000 in
set_option maxHeartbeats 2000000 in
theorem heap_pop {w : World} {hb : Nat} {v : Value} {xs : List Int} (h : HeapAt w hb v xs) (hh : Heapy xs.length xs) (h0 : 0 < xs.length) (hl : xs.length ≤ 134217728) :
    Calls Try.prog 65 #[.iface 97 (.pointer (some ⟨hb, 0, none⟩))] w fun e w' => PopPost w hb v xs e w' := by
  have mP := reach_pop hb
  have mL := reach_len hb
  have mS := reach_swap hb
  have eP := ent_pop
  have eL := ent_len
  have eS := ent_swap
  unfold Enters at eP eL eS
  have hL := low_len h
  obtain ⟨n, hn⟩ : ∃ n, xs.length = n + 1 := ⟨xs.length - 1, by omega⟩
  have hn' : n ≤ 134217728 := by omega
  have hlen : ((xs.length : Nat) : Int) = (n : Int) + 1 := by omega
  rw [hlen] at hL
  have hS := low_swap h 0 n (by omega) (by omega) hl
  have hD : Hid (∀ w1, HeapAt w1 hb v (sw xs 0 n) → Calls Try.prog 74 #[.iface 97 (.pointer (some ⟨hb, 0, none⟩)), .int .i64 0, .int .i64 (n : Int)] w1 fun e w' => DownPost w1 hb v (sw xs 0 n) n e w') := fun w1 h1 =>
    heap_down ⟨sw xs 0 n, List.Perm.refl _, DownInv.start (by omega) hh, fun _ _ => rfl, h1, Keeps.refl _ _⟩ (by rw [sw_length]; omega) (by rw [sw_length]; omega)
  have HH := hide hh
  clear hlen h hh
  go_enter Try.func65, Try.ntmps65
  go_wp2_with fail
  refine hL.mono ?_
  rintro e w0 ⟨rfl, rfl⟩
  clear hL
  go_wp2_with fail
  refine hS.mono ?_
  rintro e w1 ⟨rfl, h1, k1⟩
  clear hS
  have hD1 := hD.out w1 h1
  clear hD h1
  go_wp2_with fail
  refine hD1.mono ?_
  rintro e w2 ⟨b, rfl, ys, hp, hy, hr, h2, k2⟩
  clear hD1
  have hyl : ys.length = n + 1 := by rw [hp.length_eq, sw_length]; exact hn
  have hm : at0 ys n = at0 xs 0 := by
    rw [hr n (Nat.le_refl _), sw_at (by omega) (by omega), if_pos rfl]
  have hys := list_last hyl
  rw [hm] at hys
  have h3 := h2
  rw [hys] at h3
  have hP : Calls Try.prog 111 #[.pointer (some ⟨hb, 0, none⟩)] w2 fun e w' => PopPost w0 hb v xs e w' := by
    refine (low_pop h3 (by simp; omega)).mono ?_
    rintro e w3 ⟨rfl, v3, h4, k4, l4⟩
    refine ⟨_, rfl, HH.out.mem, ys.take n, ?_, ?_, v3, h4, ?_, ?_⟩
    · rw [← hys]
      exact hp.trans (sw_perm (by omega) (by omega))
    · intro k hk0 hk
      simp at hk
      rw [at0_take (by omega), at0_take (by omega)]
      exact hy k hk0 (by omega)
    · exact ((k1.mono (S1 := fun k => k = hb ∨ v.ownBlock = some k) (fun _ _ e => Or.inr e)).trans k2 (fun _ _ e => Or.inr e)).trans k4 (fun _ _ e => e)
    · rcases l4 with l | ⟨k, l, hk⟩
      · exact Or.inl l
      · exact Or.inr ⟨k, l, by have := k1.size; have := k2.size; omega⟩
  clear h2 h3 hys hm hyl hr hy hp k1 k2 HH
  go_wp2_with fail
  refine hP.mono ?_
  rintro e w3 ⟨m, rfl, hq⟩
  have HP : Hid (PopPost w0 hb v xs (.returned (.iface 3 (.int .i64 m))) w3) := ⟨m, rfl, hq⟩
  clear hP hq
  go_wp2_with fail
  go_ret
  exact HP.out
end Go.Proofs.Yteglefnfnkgpcaa
/-
  A free block is taken again.
-/
namespace Go.Proofs.Yteglefnfnkgpcaa
open Go.RowKit Go.Shelf

/-- An empty list of free blocks. -/
theorem again_empty {w : World} {p : Nat} {c : AR} {d : AD} (h : ArenaAt w p c d) (n : Nat) (hn : n ≤ 134217728) (hf : d.fm (n : Int) = some []) :
    Calls Try.prog 50 #[.pointer (some ⟨p, 0, none⟩), .int .i64 (n : Int)] w fun e w' => e = .returned (.tuple #[.int .i64 0, .bool false]) ∧ w' = w := by
  obtain ⟨b, ys, hb, hp, ha, _⟩ := h.heaps.block_of hf
  have e := List.Perm.eq_nil hp
  subst e
  have c5 := h.cell5
  have hl := look_ptr (w := w) Try.underlying3 Try.underlying70 (Try.zeroP w) h.free (x := (n : Int)) (fitsI_mk (by omega) (by omega))
  rw [hb] at hl
  simp only [Option.map_some] at hl
  have hL := low_len ha
  simp only [List.length_nil] at hL
  clear h ha
  go_enter Try.func50, Try.ntmps50
  go_wp2_with fail
  refine hL.mono ?_
  rintro e w1 ⟨rfl, rfl⟩
  clear hL
  go_wp2_with fail
  go_ret2
  exact ⟨rfl, rfl⟩

/-- The lowest of a list of free blocks, zeroed. -/
def AD.popped (d : AD) (n : Nat) (z : Nat) (r : List Int) : AD := (d.freed (n : Int) r).bytes (splice d.bs z (zeros n))
def AgainPost (w : World) (p : Nat) (c : AR) (d : AD) (n z : Nat) (r : List Int) (e : Ending) (w' : World) : Prop :=
  e = .returned (.tuple #[.int .i64 (z : Int), .bool true]) ∧ ∃ c', ArenaAt w' p c' (d.popped n z r) ∧ Keeps w w' (c.foot p) ∧ ∀ k, c'.foot p k → c.foot p k ∨ w.heap.size ≤ k

set_option maxRecDepth 100000 in
set_option maxHeartbeats 1000000 in
theorem again_some {w : World} {p : Nat} {c : AR} {d : AD} (h : ArenaAt w p c d) (n z : Nat) (r : List Int) (hn : n ≤ 134217728) (hf : d.fm (n : Int) = some ((z : Int) :: r)) (hs : ((z : Int) :: r).Pairwise (· < ·)) (hl : r.length < 134217728) (hz : z + n ≤ d.bs.length) :
    Calls Try.prog 50 #[.pointer (some ⟨p, 0, none⟩), .int .i64 (n : Int)] w fun e w' => AgainPost w p c d n z r e w' := by
  obtain ⟨b, ys, hb, hp, ha, hh⟩ := h.heaps.block_of hf
  have hyl : ys.length = r.length + 1 := by rw [hp.length_eq]; simp
  have c5 := h.cell5
  have hlk := look_ptr (w := w) Try.underlying3 Try.underlying70 (Try.zeroP w) h.free (x := (n : Int)) (fitsI_mk (by omega) (by omega))
  rw [hb] at hlk
  simp only [Option.map_some] at hlk
  have hL := low_len ha
  have hne : (((ys.length : Nat) : Int) == 0) = false := by simp; intro e; rw [e] at hyl; simp at hyl
  have hlI : ((ys.length : Nat) : Int) ≤ 134217728 := by omega
  have hP : Calls Try.prog 65 #[.iface 97 (.pointer (some ⟨b, 0, none⟩))] w fun e w' => e = .returned (.iface 3 (.int .i64 (z : Int))) ∧ ∃ c', ArenaAt w' p c' (d.freed (n : Int) r) ∧ Keeps w w' (c.foot p) ∧ ∀ k, c'.foot p k → c.foot p k ∨ w.heap.size ≤ k := by
    refine (heap_pop ha hh (by omega) (by omega)).mono ?_
    rintro e w' ⟨m, rfl, hmin, us, hperm, hu, ht⟩
    have hmm : m ∈ (z : Int) :: r := hp.mem_iff.1 (hperm.mem_iff.1 (by simp))
    have hzm := hmin (z : Int) (hp.mem_iff.2 (by simp))
    have hm : m = (z : Int) := by
      rcases List.mem_cons.1 hmm with e | e
      · exact e
      · have := (List.pairwise_cons.1 hs).1 m e
        omega
    subst hm
    obtain ⟨v', h1, h2, h3⟩ := h.heap_turned' hb hu ht
    refine ⟨rfl, _, h1 r ?_, h2, h3⟩
    have h5 : (us ++ [(z : Int)]).Perm ((z : Int) :: r) := hperm.trans hp
    have h6 : ((z : Int) :: us).Perm ((z : Int) :: r) := (List.perm_append_singleton _ _).symm.trans h5
    exact (List.perm_cons _).1 h6
  have hta : ∀ w', Sem.run Try.prog (Instr.typeAssert (.iface 3 (.int .i64 (z : Int))) 20 3 false) w' = .ok (.int .i64 (z : Int)) w' := fun _ => by kernel_rfl
  clear h ha hh hp hs hf
  go_enter Try.func50, Try.ntmps50
  go_wp2_with fail
  refine hL.mono ?_
  rintro e w1 ⟨rfl, rfl⟩
  clear hL
  go_wp2_with fail
  refine hP.mono ?_
  rintro e w2 ⟨rfl, c', h2, k2, f2⟩
  clear hP
  have c2 := h2.cell2
  have hFi := fill_yes w2 c'.b c'.g d.bs c'.sp h2.mem z n hz 0
  go_wp2_with fail
  refine hFi.mono ?_
  intro e w3 hp3
  have hfin : AgainPost w1 p c d n z r (.returned (.tuple #[.int .i64 (z : Int), .bool true])) w3 := by
    refine ⟨rfl, c', ?_, ?_, f2⟩
    · have := h2.wrote hp3.2.1 hp3.2.2
      simpa [AD.popped, AD.bytes, same, zeros] using this
    · refine k2.trans hp3.2.2 (fun i hi e => ?_)
      rcases f2 i (Or.inr (Or.inr (Or.inl e))) with e | e
      · exact e
      · omega
  have he := hp3.1
  subst he
  have HF := hide hfin
  clear hFi hp3 hfin h2 k2 f2 c2
  go_wp2_with fail
  go_ret2
  exact HF.out
end Go.Proofs.Yteglefnfnkgpcaa
namespace Go.Proofs.Yteglefnfnkgpcaa
open Go.RowKit Go.Shelf

/-- The lowest free block of a class is live again. -/
def AD.retook (d : AD) (n z : Nat) (r : List Int) : AD := (d.popped n z r).entered z n

set_option maxHeartbeats 1000000 in
theorem take_again {w : World} {p : Nat} {F : Nat → Prop} {d : AD} (h : Arena w p F d) (hF : d.Fine) (n z : Nat) (r : List Int) (hn : n ≤ 134217728) (hf : d.fm (n : Int) = some ((z : Int) :: r)) (hs : ((z : Int) :: r).Pairwise (· < ·)) (hl : r.length < 134217728) (hz : z + n ≤ d.bs.length) :
    Calls Try.prog 33 #[.pointer (some ⟨p, 0, none⟩), .int .i64 (n : Int)] w fun e w' => TakePost w p F z (d.retook n z r) e w' := by
  obtain ⟨c, h, hfo⟩ := h
  have hu : d.used ≤ 134217728 := by have := hF.use; have := hF.lim; omega
  have hm := hF.most
  have hLl : d.L.length ≤ 134217728 := by have := tiles_length hF.tiles; omega
  have hA := again_some h n z r hn hf hs hl hz
  have hkb := hF.keys_begins
  clear hs hf hF
  go_enter Try.func33, Try.ntmps33
  go_wp2_with fail
  refine hA.mono ?_
  rintro e w2 ⟨rfl, c', h2, k2, f2⟩
  clear hA
  have h2 : ArenaAt w2 p { c' with nl := d.begins.length } (d.popped n z r) := { h2 with live := h2.live.tight Try.underlying3 d.begins hkb }
  have hE := enter_any h2 z n (by omega) hn hu (by simp [AD.begins_length]; omega)
  go_wp2_with fail
  refine hE.mono ?_
  rintro e w3 ⟨rfl, _, k3, hp3, hl3⟩
  clear hE
  have hfin : TakePost w p F z (d.retook n z r) (.returned (.int .i64 (z : Int))) w3 := by
    have hin : ∀ j, j < w.heap.size → ({ c' with nl := d.begins.length } : AR).foot p j → F j := fun j hj e => by
      rcases f2 j e with e | e
      · exact hfo j e
      · omega
    have kF : Keeps w w3 F := (k2.mono (fun i _ e => hfo i e)).trans k3 (fun i hi e => hin i hi (by
      rcases e with e | e
      · exact Or.inl e
      · exact Or.inr (Or.inr (Or.inr (Or.inl e)))))
    refine ⟨rfl, ⟨{ c' with nl := d.begins.length + 1 }, ⟨?_, ?_, ?_, hl3, ?_, h2.hlf, ?_⟩, fun k hk => ?_⟩, kF⟩
    · exact hp3
    · exact h2.mem.keeps k3 (fun e => by rcases e with e | e; exact h2.p_b e.symm; exact h2.bl_b e.symm) (fun e => by rcases e with e | e; exact h2.p_g e.symm; exact h2.bl_g e.symm)
    · exact ownsRow_keeps h2.beg k3 (fun k hk e => by rcases e with e | e; exact h2.p_v hk e.symm; exact h2.bl_v hk e.symm)
    · exact h2.free.keeps k3 (fun e => by rcases e with e | e; exact h2.p_bf e.symm; exact h2.hlf e.symm)
    · exact h2.heaps.keeps k3 (fun i hi e => by rcases e with e | e; exact (h2.heap_ne hi).1 e; exact (h2.heap_ne hi).2.2.2.1 e)
    · rcases f2 k hk with e | e
      · exact Or.inl (hfo k e)
      · exact Or.inr e
  have HF := hide hfin
  clear h h2 k2 f2 k3 hp3 hl3 hfo hfin hkb
  go_wp2_with fail
  go_ret
  exact HF.out

/-- An empty list: a new block. -/
theorem take_empty {w : World} {p : Nat} {c : AR} {d : AD} (h : ArenaAt w p c d) (n : Nat) (hn : n ≤ 134217728) (hf : d.fm (n : Int) = none ∨ d.fm (n : Int) = some []) :
    Calls Try.prog 50 #[.pointer (some ⟨p, 0, none⟩), .int .i64 (n : Int)] w fun e w' => e = .returned (.tuple #[.int .i64 0, .bool false]) ∧ w' = w := by
  rcases hf with hf | hf
  · exact again_none h n hn hf
  · exact again_empty h n hn hf
end Go.Proofs.Yteglefnfnkgpcaa
namespace Go.Proofs.Yteglefnfnkgpcaa
open Go.RowKit Go.Shelf

set_option maxHeartbeats 1000000 in
theorem take_more {w : World} {p : Nat} {F : Nat → Prop} {d : AD} (h : Arena w p F d) (hF : d.Fine) (n : Nat) (hn : d.bs.length + n ≤ 134217728) (hf : d.fm (n : Int) = none ∨ d.fm (n : Int) = some []) :
    Calls Try.prog 33 #[.pointer (some ⟨p, 0, none⟩), .int .i64 (n : Int)] w fun e w' => TakePost w p F d.bs.length (d.took n) e w' := by
  obtain ⟨c, h, hfo⟩ := h
  have hL : d.L.length ≤ 134217728 := by have := tiles_length hF.tiles; have := hF.most; omega
  have hu : d.used ≤ 134217728 := by have := hF.use; have := hF.lim; omega
  have hA := take_empty h n (by omega) hf
  have hadd := add_any h n hn hL
  go_enter Try.func33, Try.ntmps33
  go_wp2_with fail
  refine hA.mono ?_
  rintro e w1 ⟨rfl, rfl⟩
  clear hA
  go_wp2_with fail
  refine hadd.mono ?_
  rintro e w2 ⟨g, v, sp, rfl, h2, k2, hg, hv⟩
  clear hadd
  have h2 : ArenaAt w2 p { c with g := g, v := v, sp := sp, nl := d.begins.length } (d.added n) := { h2 with live := h2.live.tight Try.underlying3 d.begins (hF.keys_begins) }
  have hE := enter_any h2 d.bs.length n (by omega) (by omega) (by simpa [AD.added] using hu) (by simp [AD.begins_length]; omega)
  go_wp2_with fail
  refine hE.mono ?_
  rintro e w3 ⟨rfl, _, k3, hp3, hl3⟩
  clear hE
  have hfin : TakePost w1 p F d.bs.length (d.took n) (.returned (.int .i64 (d.bs.length : Int))) w3 := by
    have kF : Keeps w1 w3 F := (k2.mono (fun i _ e => hfo i e)).trans k3 (fun i hi e => by
      rcases e with rfl | rfl
      · exact hfo _ (Or.inl rfl)
      · exact hfo _ (Or.inr (Or.inr (Or.inr (Or.inl rfl)))))
    refine ⟨rfl, ⟨{ c with g := g, v := v, sp := sp, nl := d.begins.length + 1 }, ⟨?_, ?_, ?_, hl3, ?_, h.hlf, ?_⟩, ?_⟩, kF⟩
    · exact hp3
    · exact h2.mem.keeps k3 (fun e => by rcases e with e | e; exact h2.p_b e.symm; exact h2.bl_b e.symm) (fun e => by rcases e with e | e; exact h2.p_g e.symm; exact h2.bl_g e.symm)
    · exact ownsRow_keeps h2.beg k3 (fun k hk e => by rcases e with e | e; exact h2.p_v hk e.symm; exact h2.bl_v hk e.symm)
    · exact h2.free.keeps k3 (fun e => by rcases e with e | e; exact h2.p_bf e.symm; exact h2.hlf e.symm)
    · exact h2.heaps.keeps k3 (fun i hi e => by rcases e with e | e; exact (h2.heap_ne hi).1 e; exact (h2.heap_ne hi).2.2.2.1 e)
    · intro k hk
      rcases hk with e | e | e | e | e | e | e
      · exact Or.inl (hfo k (Or.inl e))
      · exact Or.inl (hfo k (Or.inr (Or.inl e)))
      · have e' : k = g := e
        rcases hg with hg | hg
        · exact Or.inl (hfo k (Or.inr (Or.inr (Or.inl (e'.trans hg)))))
        · exact Or.inr (by omega)
      · exact Or.inl (hfo k (Or.inr (Or.inr (Or.inr (Or.inl e)))))
      · exact Or.inl (hfo k (Or.inr (Or.inr (Or.inr (Or.inr (Or.inl e))))))
      · have e' : v.ownBlock = some k := e
        rcases hv with hv | ⟨k', hv, hk'⟩
        · exact Or.inl (hfo k (Or.inr (Or.inr (Or.inr (Or.inr (Or.inr (Or.inl (hv ▸ e'))))))))
        · rw [hv] at e'
          cases e'
          exact Or.inr hk'
      · exact Or.inl (hfo k (Or.inr (Or.inr (Or.inr (Or.inr (Or.inr (Or.inr e)))))))
  clear h h2 k2 k3 hp3 hl3 hg hv hfo hF hf
  go_wp2_with fail
  go_ret
  exact hfin

/-- What take does: the lowest free block of the class, or a new one. -/
def listT (d : AD) (c : Nat) : Nat × AD := match d.fm (c : Int) with
  | some (z :: r) => (z.toNat, d.retook c z.toNat r)
  | _ => (d.bs.length, d.took c)
/-- The lists rise. -/
def AD.rises (d : AD) : Prop := ∀ x xs, d.fm x = some xs → xs.Pairwise (· < ·)

theorem take_list {w : World} {p : Nat} {F : Nat → Prop} {d : AD} (h : Arena w p F d) (hF : d.Fine) (hR : d.rises) (c : Nat) (hc : d.bs.length + c ≤ 134217728) :
    Calls Try.prog 33 #[.pointer (some ⟨p, 0, none⟩), .int .i64 (c : Int)] w fun e w' => TakePost w p F (listT d c).1 (listT d c).2 e w' := by
  unfold listT
  cases hf : d.fm (c : Int) with
  | none => exact take_more h hF c hc (Or.inl hf)
  | some xs =>
    cases xs with
    | nil => exact take_more h hF c hc (Or.inr hf)
    | cons z r =>
      have hs := hR _ _ hf
      obtain ⟨_, y, hy, e1, e2⟩ := hF.free.mem _ _ hf z (by simp)
      have ht := tiles_mem hF.tiles hy
      obtain ⟨z', rfl⟩ : ∃ z' : Nat, z = (z' : Int) := ⟨y.1, e1⟩
      have hlen := length_le_of_subset (hF.free.nodup _ _ hf) (l := d.begins) (fun q hq => by
        obtain ⟨_, t, ht, e, _⟩ := hF.free.mem _ _ hf q hq
        exact List.mem_map.2 ⟨t, ht, e.symm⟩)
      rw [AD.begins_length] at hlen
      have hL := tiles_length hF.tiles
      have hm := hF.most
      simp only [Int.toNat_natCast]
      exact take_again h hF c z' r (by omega) hf hs (by simp at hlen; omega) (by omega)
end Go.Proofs.Yteglefnfnkgpcaa
