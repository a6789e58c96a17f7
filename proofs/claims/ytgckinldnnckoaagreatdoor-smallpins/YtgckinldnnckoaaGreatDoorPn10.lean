import Derived.Test.YtgckinldnnckoaaGreatDoorRows
import Derived.RangeFuncBox
import Derived.RangeFuncLeaves
import Derived.RangeFuncWrites
import Derived.RangeFuncNested
import Derived.Shelf.Abstract
import Derived.OwnWalkIn
import Derived.TacticsInMore
import Derived.LoopNIn
import Derived.LoopIn
import Derived.Sort.LoopGhostIn
import Derived.Test.YtgckinldnnckoaaGreatDoorPn9
/-
  small: Stat (made by gensm.py)
-/
namespace Go.Proofs.YtgckinldnnckoaaGreatDoor
open Go.RowKit Go.Shelf Ly Ct
set_option linter.unusedVariables false

def statS (f : Nat → Int) : Value := .agg #[.int .i64 (f 3), .int .i64 (f 1), .int .i64 (f 2), .bool (f 0 == 3)]
def stat0S : Value := .agg #[.int .i64 0, .int .i64 0, .int .i64 0, .bool false]
theorem st4_cells {w : World} {b : Nat} {v0 v1 v2 v3 : Value} {t : TypeId} (h : w.heap[b]? = some (.cells #[v0, v1, v2, v3] t)) :
    (w.cell? ⟨b, 0, none⟩ = some v0 ∧ w.cell? ⟨b, 1, none⟩ = some v1 ∧ w.cell? ⟨b, 2, none⟩ = some v2 ∧ w.cell? ⟨b, 3, none⟩ = some v3) ∧ w.frozen? ⟨b, 0, none⟩ = false ∧ w.frozen? ⟨b, 1, none⟩ = false ∧ w.frozen? ⟨b, 2, none⟩ = false ∧ w.frozen? ⟨b, 3, none⟩ = false := by
  simp [World.cell?, World.frozen?, h]
theorem st4_set {w0 w : World} {b : Nat} {u0 u1 u2 u3 : Value} {t : TypeId} {S : Nat → Prop} (h : w.heap[b]? = some (.cells #[u0, u1, u2, u3] t)) (k : Keeps w0 w S) (hb : b < w0.heap.size → S b)
    {v0 v1 v2 v3 : Value} {P : World → Prop} (hP : ∀ w9, w9.heap[b]? = some (.cells #[v0, v1, v2, v3] t) → Keeps w0 w9 S → Keeps w w9 (fun i => i = b) → P w9) :
    P ((((w.setCell ⟨b, 0, none⟩ v0).setCell ⟨b, 1, none⟩ v1).setCell ⟨b, 2, none⟩ v2).setCell ⟨b, 3, none⟩ v3) := by
  refine hP _ ?_ ?_ ?_
  · have h0 := set_one' h 0 v0 (by simp)
    have h1 := set_one' h0 1 v1 (by simp)
    have h2 := set_one' h1 2 v2 (by simp)
    have h3 := set_one' h2 3 v3 (by simp)
    exact h3
  · exact ((((k.setCell _ hb _).setCell _ hb _).setCell _ hb _).setCell _ hb _)
  · exact (((((Keeps.refl w (fun i => i = b)).setCell _ (fun _ => rfl) _).setCell _ (fun _ => rfl) _).setCell _ (fun _ => rfl) _).setCell _ (fun _ => rfl) _)
/-- The first i words of four are read. -/
def Got4 (W : World) (b : Nat) (t : TypeId) (f : Nat → Int) (i : Nat) : Prop := ∃ cs : Array Value, W.heap[b]? = some (.cells cs t) ∧ cs.size = 4 ∧ ∀ j, j < i → cs[j]? = some (.int .i64 (f j))
section
variable {W W' : World} {b : Nat} {t : TypeId} {f : Nat → Int} {i : Nat}
theorem Got4.cell (h : Got4 W b t f i) {j : Nat} (hj : j < 4) : (∃ v, W.cell? ⟨b, j, none⟩ = some v) ∧ W.frozen? ⟨b, j, none⟩ = false := by
  obtain ⟨cs, h1, h2, _⟩ := h
  exact ⟨⟨cs[j]'(by omega), by simp [World.cell?, h1, h2, hj]⟩, by simp [World.frozen?, h1]⟩
theorem Got4.step (h : Got4 W b t f i) (hi : i < 4) : Got4 (W.setCell ⟨b, i, none⟩ (.int .i64 (f i))) b t f (i + 1) := by
  obtain ⟨cs, h1, h2, h3⟩ := h
  refine ⟨cs.set i (.int .i64 (f i)) (by omega), set_one' h1 i _ (by omega), by simp [h2], fun j hj => ?_⟩
  by_cases e : j = i
  · subst e
    simp
  · rw [Array.getElem?_set_ne (by omega) (by omega)]
    exact h3 j (by omega)
theorem Got4.kept (h : Got4 W b t f i) (k : W'.heap[b]? = W.heap[b]?) : Got4 W' b t f i := by
  obtain ⟨cs, h1, h2⟩ := h
  exact ⟨cs, k.trans h1, h2⟩
theorem Got4.all (h : Got4 W b t f 4) {j : Nat} (hj : j < 4) : W.cell? ⟨b, j, none⟩ = some (.int .i64 (f j)) := by
  obtain ⟨cs, h1, h2, h3⟩ := h
  have := h3 j hj
  simp [World.cell?, h1, this]
end

set_option maxRecDepth 100000 in
set_option maxHeartbeats 4000000 in
theorem sstat_yes {w : World} {p : Nat} {F : Nat → Prop} {d : AD} (hA : Arena w p F d) (hF : d.Fine) (l : Lay) (off : Nat) (hg : d.goodB (off : Int) 32 = true) (h1 : off ≤ 134217728) :
    Calls Tryz.prog 11 #[.agg #[.pointer (some ⟨p, 0, none⟩), .int .i64 l.k, .int .i64 l.e, .int .i64 l.a, .int .i64 l.b, .int .i64 l.c, .int .i64 l.eo, .int .i64 l.bo, .int .i64 l.s, .int .i64 l.g, .int .i64 (off : Int)]] w fun e w' => e = .returned (.tuple #[statS (hdr d off), .int .i64 0]) ∧ Keeps w w' (fun _ => False) := by
  obtain ⟨c, hc, hfo⟩ := hA.at
  have hT := fun (i : Nat) (hi : i < 4) W => sat_any p l (off : Int) (i : Int) W (by omega) (by omega) (by omega) (by omega)
  have hL := fun (i : Nat) (hi : i < 4) W (k : Keeps w W (fun _ => False)) => aload_any (hc.keeps k (fun _ _ e => e)) hF ((off : Int) + (i : Int) * 8) 8 (fitsI_mk (by omega) (by omega)) (fitsI_mk (by omega) (by omega))
  have hx : ∀ i : Nat, i < 4 → loadV d ((off : Int) + (i : Int) * 8) 8 = (((numOf (d.span ((off : Int) + (i : Int) * 8) 8) : Nat) : Int), 0) := fun i hi => by
    have hg8 := good_sub hg (x := (i : Int) * 8) (m := 8) (by omega) (by omega) (by omega)
    unfold loadV
    rw [hg8]
    rfl
  have hf : ∀ i, hdr d off i = wrap64 ((numOf (d.span ((off : Int) + (i : Int) * 8) 8) : Nat) : Int) := fun i => rfl
  unfold statS
  generalize hdr d off = f at *
  have hLf : Hid (∀ (i : Nat), i < 4 → ∀ W, Keeps w W (fun _ => False) → ∃ n : Nat, f i = wrap64 (n : Int) ∧ Calls Tryz.prog 22 #[.pointer (some ⟨p, 0, none⟩), .int .i64 ((off : Int) + (i : Int) * 8), .int .i64 8] W fun e w' => e = .returned (.tuple #[.int .u64 (n : Int), .int .i64 0]) ∧ Keeps W w' (fun _ => False)) := fun i hi W k => by
    refine ⟨_, hf i, ?_⟩
    have := hL i hi W k
    rw [hx i hi] at this
    exact this
  clear hL hx hf hc hfo hA hg hF
  go_enter Tryz.func11, Tryz.ntmps11
  go_wp2_with fail
  refine alloc3 (P := fun W => Code.wp _ _ _ _ W) fun W0 hb hr ha hz K0 => ?_
  go_loopg [8] 4 (fun g v8 wr => ∃ i : Nat, g = 4 - i ∧ i ≤ 4 ∧ v8 = .int .i64 (i : Int) ∧ Got4 wr (w.heap.size + 1 + 1) 101 f i ∧ Keeps W0 wr (fun k => k = w.heap.size + 1 + 1))
  case atStart => exact ⟨0, rfl, Nat.zero_le _, rfl, ⟨_, ha, rfl, fun j hj => by omega⟩, Keeps.refl _ _⟩
  case round =>
    obtain ⟨i, rfl, hi, rfl, hG, kr⟩ := hrel
    by_cases hlt : i < 4
    · have hlt' : (i : Int) < 4 := by omega
      have hbr := (kr.block w.heap.size (by omega) (by omega)).trans hb
      have Kw : Keeps w wr (fun _ => False) := ⟨kr.os.trans K0.os, kr.tape.trans K0.tape, kr.output.trans K0.output, Nat.le_trans K0.size kr.size, fun k hk _ => (kr.block k (by omega) (by omega)).trans (K0.block k hk id)⟩
      have S0 : S11 wr w.heap.size p l (off : Int) wr := s11_of hbr (Keeps.refl _ _)
      have hTi := hT i hlt
      have hLi := hLf.out i hlt
      clear hT hLf hb hr ha K0
      go_wp2_with fail
      go_region_held3 (fun w' => w'.cell? ⟨w.heap.size, 0, none⟩ = some (.pointer (some ⟨p, 0, none⟩)) ∧ w'.cell? ⟨w.heap.size, 1, none⟩ = some (.int .i64 l.k) ∧ w'.cell? ⟨w.heap.size, 2, none⟩ = some (.int .i64 l.e) ∧ w'.cell? ⟨w.heap.size, 3, none⟩ = some (.int .i64 l.a) ∧ w'.cell? ⟨w.heap.size, 4, none⟩ = some (.int .i64 l.b) ∧ w'.cell? ⟨w.heap.size, 5, none⟩ = some (.int .i64 l.c) ∧ w'.cell? ⟨w.heap.size, 6, none⟩ = some (.int .i64 l.eo) ∧ w'.cell? ⟨w.heap.size, 7, none⟩ = some (.int .i64 l.bo) ∧ w'.cell? ⟨w.heap.size, 8, none⟩ = some (.int .i64 l.s) ∧ w'.cell? ⟨w.heap.size, 9, none⟩ = some (.int .i64 l.g) ∧ w'.cell? ⟨w.heap.size, 10, none⟩ = some (.int .i64 off) ∧ Keeps wr w' (fun _ => False)) (first | exact s11_drew S0 | exact s11_drew (s11_alloc S0 _) | exact s11_drew (s11_alloc (s11_alloc S0 _) _) | exact s11_call (by assumption) (by assumption) | exact s11_alloc (by assumption) _)
        (first | (go_at_call 38; refine (hTi _).mono ?_; rintro r w1 ⟨rfl, k1⟩) | (go_at_call 22; obtain ⟨nn, hfn, hLn⟩ := hLi _ (Kw.trans (s11_k (by assumption)) (fun _ _ e => e)); refine hLn.mono ?_; rintro r w2 ⟨rfl, k2⟩))
      have S2 : S11 wr w.heap.size p l (off : Int) w2 := by assumption
      have kw2 := s11_k S2
      have hG2 : Got4 w2 (w.heap.size + 1 + 1) 101 f i := hG.kept (kw2.block _ (by obtain ⟨cs, h1, _⟩ := hG; exact heap_lt h1) id)
      obtain ⟨⟨v9, hv9⟩, hfz⟩ := hG2.cell hlt
      have hw : wrap64 (nn : Int) = f i := hfn.symm
      have HF : Hid (Got4 (w2.setCell ⟨w.heap.size + 1 + 1, i, none⟩ (.int .i64 (f i))) (w.heap.size + 1 + 1) 101 f (i + 1) ∧ Keeps W0 (w2.setCell ⟨w.heap.size + 1 + 1, i, none⟩ (.int .i64 (f i))) (fun k => k = w.heap.size + 1 + 1)) :=
        ⟨hG2.step hlt, (kr.trans (kw2.mono (fun _ _ e => e.elim)) (fun _ _ e => e)).setCell _ (fun _ => rfl) _⟩
      clear hG hG2 S2 kw2 hfn hLi hLn k1 k2
      go_wp2_with fail
      go_roundg (4 - (i + 1))
      case measure => omega
      case rel => exact ⟨i + 1, rfl, by omega, by simp, HF.out.1, HF.out.2⟩
    · obtain rfl : i = 4 := by omega
      have q0 := hG.all (j := 0) (by omega)
      have q1 := hG.all (j := 1) (by omega)
      have q2 := hG.all (j := 2) (by omega)
      have q3 := hG.all (j := 3) (by omega)
      have hrr := (kr.block (w.heap.size + 1) (by omega) (by omega)).trans hr
      have Kw : Keeps w wr (fun _ => False) := ⟨kr.os.trans K0.os, kr.tape.trans K0.tape, kr.output.trans K0.output, Nat.le_trans K0.size kr.size, fun k hk _ => (kr.block k (by omega) (by omega)).trans (K0.block k hk id)⟩
      obtain ⟨⟨d0, d1, d2, d3⟩, f0, f1, f2, f3⟩ := st4_cells hrr
      clear hG hT hLf hb hr ha K0 kr
      go_wp2_with fail
      refine st4_set hrr Kw (fun h => by omega) (P := fun w9 => bodyPost _ _ _ _ _ w9) fun w9 h9 k9 _ => ?_
      obtain ⟨⟨e0, e1, e2, e3⟩, -⟩ := st4_cells h9
      exact bodyPost_ret (v := .tuple #[.agg #[.int .i64 (f 3), .int .i64 (f 1), .int .i64 (f 2), .bool (f 0 == 3)], .int .i64 0]) (by simp [results, Tryz.results11, go_sem, e0, e1, e2, e3]) rfl ⟨rfl, k9⟩


set_option maxRecDepth 100000 in
set_option maxHeartbeats 4000000 in
theorem sstat_no {w : World} {p : Nat} {F : Nat → Prop} {d : AD} (hA : Arena w p F d) (hF : d.Fine) (l : Lay) (off : Nat) (hg : d.goodB (off : Int) 8 = false) (h1 : off ≤ 134217728) :
    Calls Tryz.prog 11 #[.agg #[.pointer (some ⟨p, 0, none⟩), .int .i64 l.k, .int .i64 l.e, .int .i64 l.a, .int .i64 l.b, .int .i64 l.c, .int .i64 l.eo, .int .i64 l.bo, .int .i64 l.s, .int .i64 l.g, .int .i64 (off : Int)]] w fun e w' => e = .returned (.tuple #[stat0S, .int .i64 24]) ∧ Keeps w w' (fun _ => False) := by
  obtain ⟨c, hc, hfo⟩ := hA.at
  have hTi := fun W => sat_any p l (off : Int) 0 W (by omega) (by omega) (by omega) (by omega)
  have hLi := fun W (k : Keeps w W (fun _ => False)) => aload_any (hc.keeps k (fun _ _ e => e)) hF (off : Int) 8 (fitsI_mk (by omega) (by omega)) (fitsI_mk (by omega) (by omega))
  have hx : loadV d (off : Int) 8 = (0, 24) := by
    unfold loadV
    rw [hg]
    rfl
  simp only [hx] at hLi
  simp only [Int.zero_mul, Int.add_zero] at hTi
  unfold stat0S
  clear hx hc hfo hA hg hF
  go_enter Tryz.func11, Tryz.ntmps11
  go_wp2_with fail
  refine alloc3 (P := fun W => Code.wp _ _ _ _ W) fun W0 hb hr ha hz K0 => ?_
  go_loopg [8] 4 (fun g v8 wr => g = 4 ∧ v8 = .int .i64 0 ∧ wr = W0)
  case atStart => exact ⟨rfl, rfl, rfl⟩
  case round =>
    obtain ⟨rfl, rfl, rfl⟩ := hrel
    have S0 : S11 wr w.heap.size p l (off : Int) wr := s11_of hb (Keeps.refl _ _)
    go_wp2_with fail
    go_region_held3 (fun w' => w'.cell? ⟨w.heap.size, 0, none⟩ = some (.pointer (some ⟨p, 0, none⟩)) ∧ w'.cell? ⟨w.heap.size, 1, none⟩ = some (.int .i64 l.k) ∧ w'.cell? ⟨w.heap.size, 2, none⟩ = some (.int .i64 l.e) ∧ w'.cell? ⟨w.heap.size, 3, none⟩ = some (.int .i64 l.a) ∧ w'.cell? ⟨w.heap.size, 4, none⟩ = some (.int .i64 l.b) ∧ w'.cell? ⟨w.heap.size, 5, none⟩ = some (.int .i64 l.c) ∧ w'.cell? ⟨w.heap.size, 6, none⟩ = some (.int .i64 l.eo) ∧ w'.cell? ⟨w.heap.size, 7, none⟩ = some (.int .i64 l.bo) ∧ w'.cell? ⟨w.heap.size, 8, none⟩ = some (.int .i64 l.s) ∧ w'.cell? ⟨w.heap.size, 9, none⟩ = some (.int .i64 l.g) ∧ w'.cell? ⟨w.heap.size, 10, none⟩ = some (.int .i64 off) ∧ Keeps wr w' (fun _ => False)) (first | exact s11_drew S0 | exact s11_drew (s11_alloc S0 _) | exact s11_drew (s11_alloc (s11_alloc S0 _) _) | exact s11_call (by assumption) (by assumption) | exact s11_alloc (by assumption) _)
      (first | (go_at_call 38; refine (hTi _).mono ?_; rintro r w1 ⟨rfl, k1⟩) | (go_at_call 22; refine (hLi _ (K0.trans (s11_k (by assumption)) (fun _ _ e => e))).mono ?_; rintro r w2 ⟨rfl, k2⟩))
    have S2 : S11 wr w.heap.size p l (off : Int) w2 := by assumption
    have kw2 := s11_k S2
    have hrr := kw2.blk hr
    have Kw : Keeps w w2 (fun _ => False) := K0.trans kw2 (fun _ _ e => e)
    obtain ⟨⟨d0, d1, d2, d3⟩, f0, f1, f2, f3⟩ := st4_cells hrr
    clear hTi hLi S2 S0 hb hr ha k1 k2
    go_wp2_with fail
    refine st4_set hrr Kw (fun h => by omega) (P := fun w9 => bodyPost _ _ _ _ _ w9) fun w9 h9 k9 _ => ?_
    obtain ⟨⟨e0, e1, e2, e3⟩, -⟩ := st4_cells h9
    exact bodyPost_ret (v := .tuple #[.agg #[.int .i64 0, .int .i64 0, .int .i64 0, .bool false], .int .i64 24]) (by simp [results, Tryz.results11, go_sem, e0, e1, e2, e3]) rfl ⟨rfl, k9⟩
end Go.Proofs.YtgckinldnnckoaaGreatDoor
/-
  A table in the arena's bytes, as data.
-/
namespace Go.Proofs.YtgckinldnnckoaaGreatDoor
open Go.RowKit Go.Shelf Ly Ct
set_option linter.unusedVariables false

section
variable {d d' : AD} {l : Lay} {off : Nat} {c : Nat → GC} {o n : Nat}
theorem GroupAt.touch (h : GroupAt d l off c) (t : Touch d d' o n) (hd : off + l.g.toNat ≤ o ∨ o + n ≤ off) : GroupAt d' l off c := by
  have hv := valid_more h.valid
  refine ⟨h.valid, by rw [t.goodB]; exact h.good, by rw [t.len]; exact h.len, fun i hi => ?_, fun i hi => ?_, h.ok⟩
  · have : wordN d' (off : Int) = wordN d (off : Int) := by
      unfold wordN
      have := t.span (a := off) (k := 8) (by omega)
      exact congrArg numOf this
    rw [this]
    exact h.word i hi
  · have hm := slots_in (s := l.s.toNat) hi
    have := t.span (a := off + 8 + i * l.s.toNat) (k := l.s.toNat) (by omega)
    rw [show ((l.s.toNat : Nat) : Int) = l.s by omega] at this
    rw [this]
    exact h.slot i hi
theorem hdr_touch (t : Touch d d' o n) (hd : off + 64 ≤ o ∨ o + n ≤ off) {i : Nat} (hi : i < 8) : hdr d' off i = hdr d off i := by
  unfold hdr
  have := t.span (a := off + i * 8) (k := 8) (by omega)
  rw [show ((off + i * 8 : Nat) : Int) = (off : Int) + (i : Int) * 8 by omega] at this
  rw [show ((8 : Nat) : Int) = 8 from rfl] at this
  rw [this]
theorem hdr_set (hl : off + 64 ≤ d.bs.length) {i j : Nat} (hi : i < 8) (hj : j < 8) (u : Nat) : hdr (d.bytes (splice d.bs (off + i * 8) (leBytes u 8))) off j = if j = i then wrap64 ((u % 18446744073709551616 : Nat) : Int) else hdr d off j := by
  have hlen : off + i * 8 + (leBytes u 8).length ≤ d.bs.length := by rw [leBytes_length]; omega
  unfold hdr AD.span
  rw [show ((off : Int) + (j : Int) * 8).toNat = off + j * 8 by omega, show (8 : Int).toNat = 8 from rfl]
  show wrap64 ((numOf (((splice d.bs (off + i * 8) (leBytes u 8)).drop (off + j * 8)).take 8) : Nat) : Int) = _
  by_cases e : j = i
  · subst e
    rw [if_pos rfl, span_in hlen (by rw [leBytes_length]), numOf_le]
  · rw [if_neg e, span_out hlen (by rw [leBytes_length]; omega)]
end

/-- A table of G groups: header at off, groups from gr on; f: its header's words, c: its cells. -/
structure TabD (d : AD) (l : Lay) (off gr G : Nat) (f : Nat → Int) (c : Nat → GC) : Prop where
  valid : validB l = true
  pos : 0 < G
  few : G ≤ 8192
  good : d.goodB (off : Int) 64 = true
  len : off + 64 ≤ d.bs.length
  glen : gr + G * l.g.toNat ≤ d.bs.length
  head : ∀ i, i < 8 → hdr d off i = f i
  grp : ∀ i, i < G → GroupAt d l (gr + i * l.g.toNat) (fun j => c (8 * i + j))
  apart : off + 64 ≤ gr ∨ gr + G * l.g.toNat ≤ off
def updI (f : Nat → Int) (i : Nat) (v : Int) : Nat → Int := fun j => if j = i then v else f j
section
variable {d d' : AD} {l : Lay} {off gr G : Nat} {f : Nat → Int} {c : Nat → GC}
theorem TabD.in (h : TabD d l off gr G f c) {i : Nat} (hi : i < G) : gr ≤ gr + i * l.g.toNat ∧ gr + i * l.g.toNat + l.g.toNat ≤ gr + G * l.g.toNat := by
  have := mul_apart (s := l.g.toNat) hi
  omega
/-- A word of the header is laid. -/
theorem TabD.set (h : TabD d l off gr G f c) {i : Nat} (hi : i < 8) {v : Int} (hv : fitsI v) :
    storeR d ((off : Int) + (i : Int) * 8) 8 (u64of v) = (0, d.bytes (splice d.bs (off + i * 8) (leBytes (u64of v) 8))) ∧ TabD (d.bytes (splice d.bs (off + i * 8) (leBytes (u64of v) 8))) l off gr G (updI f i v) c ∧ Touch d (d.bytes (splice d.bs (off + i * 8) (leBytes (u64of v) 8))) off 64 := by
  have hlen : off + i * 8 + (leBytes (u64of v) 8).length ≤ d.bs.length := by rw [leBytes_length]; have := h.len; omega
  have ht : Touch d (d.bytes (splice d.bs (off + i * 8) (leBytes (u64of v) 8))) off 64 := Touch.splice d (by omega) (by rw [leBytes_length]; omega) hlen
  have hg8 := good_sub h.good (x := (i : Int) * 8) (m := 8) (by omega) (by omega) (by omega)
  refine ⟨?_, ⟨h.valid, h.pos, h.few, by rw [ht.goodB]; exact h.good, by rw [ht.len]; exact h.len, by rw [ht.len]; exact h.glen, fun j hj => ?_, fun j hj => (h.grp j hj).touch ht ?_, h.apart⟩, ht⟩
  · unfold storeR
    rw [hg8, show ((off : Int) + (i : Int) * 8).toNat = off + i * 8 by omega]
    rfl
  · rw [hdr_set h.len hi hj]
    unfold updI
    have : u64of v % 18446744073709551616 = u64of v := Nat.mod_eq_of_lt (u64of_lt v)
    rw [this, wrap_u64of hv, h.head j hj]
  · have := h.in hj
    rcases h.apart with q | q
    · right; omega
    · left; omega
/-- One group is another. -/
def updG (c : Nat → GC) (k : Nat) (x : Nat → GC) : Nat → GC := fun n => if n / 8 = k then x (n % 8) else c n
theorem TabD.turn (h : TabD d l off gr G f c) {k : Nat} (hk : k < G) {x : Nat → GC} (hg : GroupAt d' l (gr + k * l.g.toNat) x) (ht : Touch d d' (gr + k * l.g.toNat) l.g.toNat) : TabD d' l off gr G f (updG c k x) := by
  have hik := h.in hk
  refine ⟨h.valid, h.pos, h.few, by rw [ht.goodB]; exact h.good, by rw [ht.len]; exact h.len, by rw [ht.len]; exact h.glen, fun j hj => ?_, fun j hj => ?_, h.apart⟩
  · rw [hdr_touch ht ?_ hj]
    · exact h.head j hj
    · rcases h.apart with q | q
      · left; omega
      · right; omega
  · by_cases e : j = k
    · subst e
      have : ∀ i, i < 8 → updG c j x (8 * j + i) = x i := fun i hi => by
        unfold updG
        rw [if_pos (by omega), show (8 * j + i) % 8 = i by omega]
      refine ⟨hg.valid, hg.good, hg.len, fun i hi => ?_, fun i hi => ?_, fun i hi => ?_⟩
      · rw [this i hi]; exact hg.word i hi
      · rw [this i hi]; exact hg.slot i hi
      · rw [this i hi]; exact hg.ok i hi
    · have hne : ∀ i, i < 8 → updG c k x (8 * j + i) = c (8 * j + i) := fun i hi => by
        unfold updG
        rw [if_neg (by omega)]
      have hj0 := (h.grp j hj).touch ht (by
        rcases Nat.lt_or_gt_of_ne e with q | q
        · have := mul_apart (s := l.g.toNat) q; omega
        · have := mul_apart (s := l.g.toNat) q; omega)
      refine ⟨hj0.valid, hj0.good, hj0.len, fun i hi => ?_, fun i hi => ?_, fun i hi => ?_⟩
      · rw [hne i hi]; exact hj0.word i hi
      · rw [hne i hi]; exact hj0.slot i hi
      · rw [hne i hi]; exact hj0.ok i hi
theorem TabD.there (h : TabD d l off gr G f c) {i : Nat} (hi : i < G) : thereB d l ((gr + i * l.g.toNat : Nat) : Int) = true := (h.grp i hi).there
theorem TabD.off_le (h : TabD d l off gr G f c) (hF : d.Fine) : off ≤ 134217728 ∧ gr ≤ 134217728 := by
  have h1 := h.len
  have h2 := h.glen
  have h3 := hF.most
  omega
end
end Go.Proofs.YtgckinldnnckoaaGreatDoor
/-
  small: a small one in the arena's bytes, as data (made by gensm.py)
-/
namespace Go.Proofs.YtgckinldnnckoaaGreatDoor
open Go.RowKit Go.Shelf Ly Ct
set_option linter.unusedVariables false

section
variable {d d' : AD} {l : Lay} {off : Nat} {c : Nat → GC} {o n : Nat}
theorem hdr_touch4 (t : Touch d d' o n) (hd : off + 32 ≤ o ∨ o + n ≤ off) {i : Nat} (hi : i < 4) : hdr d' off i = hdr d off i := by
  unfold hdr
  have := t.span (a := off + i * 8) (k := 8) (by omega)
  rw [show ((off + i * 8 : Nat) : Int) = (off : Int) + (i : Int) * 8 by omega] at this
  rw [show ((8 : Nat) : Int) = 8 from rfl] at this
  rw [this]
theorem hdr_set4 (hl : off + 32 ≤ d.bs.length) {i j : Nat} (hi : i < 4) (hj : j < 4) (u : Nat) : hdr (d.bytes (splice d.bs (off + i * 8) (leBytes u 8))) off j = if j = i then wrap64 ((u % 18446744073709551616 : Nat) : Int) else hdr d off j := by
  have hlen : off + i * 8 + (leBytes u 8).length ≤ d.bs.length := by rw [leBytes_length]; omega
  unfold hdr AD.span
  rw [show ((off : Int) + (j : Int) * 8).toNat = off + j * 8 by omega, show (8 : Int).toNat = 8 from rfl]
  show wrap64 ((numOf (((splice d.bs (off + i * 8) (leBytes u 8)).drop (off + j * 8)).take 8) : Nat) : Int) = _
  by_cases e : j = i
  · subst e
    rw [if_pos rfl, span_in hlen (by rw [leBytes_length]), numOf_le]
  · rw [if_neg e, span_out hlen (by rw [leBytes_length]; omega)]
end
/-- A small one: its header's four words f at off, its eight cells c behind them. -/
structure SmD (d : AD) (l : Lay) (off : Nat) (f : Nat → Int) (c : Nat → GC) : Prop where
  good : d.goodB (off : Int) 32 = true
  len : off + 32 ≤ d.bs.length
  head : ∀ i, i < 4 → hdr d off i = f i
  grp : GroupAt d l (off + 32) c
section
variable {d d' : AD} {l : Lay} {off : Nat} {f : Nat → Int} {c : Nat → GC}
/-- A word of the header is laid. -/
theorem SmD.set (h : SmD d l off f c) {i : Nat} (hi : i < 4) {v : Int} (hv : fitsI v) :
    storeR d ((off : Int) + (i : Int) * 8) 8 (u64of v) = (0, d.bytes (splice d.bs (off + i * 8) (leBytes (u64of v) 8))) ∧ SmD (d.bytes (splice d.bs (off + i * 8) (leBytes (u64of v) 8))) l off (updI f i v) c ∧ Touch d (d.bytes (splice d.bs (off + i * 8) (leBytes (u64of v) 8))) off 32 := by
  have hlen : off + i * 8 + (leBytes (u64of v) 8).length ≤ d.bs.length := by rw [leBytes_length]; have := h.len; omega
  have ht : Touch d (d.bytes (splice d.bs (off + i * 8) (leBytes (u64of v) 8))) off 32 := Touch.splice d (by omega) (by rw [leBytes_length]; omega) hlen
  have hg8 := good_sub h.good (x := (i : Int) * 8) (m := 8) (by omega) (by omega) (by omega)
  refine ⟨?_, ⟨by rw [ht.goodB]; exact h.good, by rw [ht.len]; exact h.len, fun j hj => ?_, h.grp.touch ht (Or.inr (Nat.le_refl _))⟩, ht⟩
  · unfold storeR
    rw [hg8, show ((off : Int) + (i : Int) * 8).toNat = off + i * 8 by omega]
    rfl
  · rw [hdr_set4 h.len hi hj]
    unfold updI
    have : u64of v % 18446744073709551616 = u64of v := Nat.mod_eq_of_lt (u64of_lt v)
    rw [this, wrap_u64of hv, h.head j hj]
/-- Its group is another. -/
theorem SmD.turn (h : SmD d l off f c) {x : Nat → GC} (hg : GroupAt d' l (off + 32) x) (ht : Touch d d' (off + 32) l.g.toNat) : SmD d' l off f x :=
  ⟨by rw [ht.goodB]; exact h.good, by rw [ht.len]; exact h.len, fun j hj => by rw [hdr_touch4 ht (Or.inl (Nat.le_refl _)) hj]; exact h.head j hj, hg⟩
theorem SmD.off_le (h : SmD d l off f c) (hF : d.Fine) : off ≤ 134217728 ∧ off + 32 ≤ 134217728 := by
  have h1 := h.len
  have h3 := hF.most
  omega
end
end Go.Proofs.YtgckinldnnckoaaGreatDoor
/-
  small: SetNext, Retire (made by gensm.py)
-/
namespace Go.Proofs.YtgckinldnnckoaaGreatDoor
open Go.RowKit Go.Shelf Ly Ct
set_option linter.unusedVariables false

section
variable {w : World} {p : Nat} {F : Nat → Prop} {d : AD} {l : Lay} {off : Nat} {f : Nat → Int} {c : Nat → GC}
/-- What a call leaves that lays words of the header alone. -/
def HeadS (w : World) (p : Nat) (F : Nat → Prop) (d : AD) (l : Lay) (off : Nat) (f : Nat → Int) (c : Nat → GC) (w' : World) : Prop := ∃ d', Turned w w' p F d' ∧ d'.Fine ∧ SmD d' l off f c ∧ Touch d d' off 32
theorem sset_sm (hA : Arena w p F d) (hF : d.Fine) (hFl : ∀ k, F k → k < w.heap.size) (h : SmD d l off f c) (i : Nat) (hi : i < 4) (v : Int) (hv : fitsI v) :
    Calls Tryz.prog 48 #[.agg #[.pointer (some ⟨p, 0, none⟩), .int .i64 l.k, .int .i64 l.e, .int .i64 l.a, .int .i64 l.b, .int .i64 l.c, .int .i64 l.eo, .int .i64 l.bo, .int .i64 l.s, .int .i64 l.g, .int .i64 (off : Int)], .int .i64 (i : Int), .int .i64 v] w fun e w' => e = .returned (.int .i64 0) ∧ HeadS w p F d l off (updI f i v) c w' := by
  have ho := h.off_le hF
  obtain ⟨e1, h1, h2⟩ := h.set hi hv
  have := sset_any hA hF hFl l (off : Int) (i : Int) v (by omega) (by omega) (by omega) (by omega)
  rw [e1] at this
  refine this.mono ?_
  rintro e w' ⟨rfl, hT⟩
  exact ⟨rfl, _, hT, h2.fine hF, h1, h2⟩
theorem sstat_sm (hA : Arena w p F d) (hF : d.Fine) (h : SmD d l off f c) :
    Calls Tryz.prog 11 #[.agg #[.pointer (some ⟨p, 0, none⟩), .int .i64 l.k, .int .i64 l.e, .int .i64 l.a, .int .i64 l.b, .int .i64 l.c, .int .i64 l.eo, .int .i64 l.bo, .int .i64 l.s, .int .i64 l.g, .int .i64 (off : Int)]] w fun e w' => e = .returned (.tuple #[statS f, .int .i64 0]) ∧ Keeps w w' (fun _ => False) := by
  have ho := h.off_le hF
  have := sstat_yes hA hF l off h.good ho.1
  have e : statS (hdr d off) = statS f := by
    unfold statS
    rw [h.head 0 (by omega), h.head 1 (by omega), h.head 2 (by omega), h.head 3 (by omega)]
  rw [e] at this
  exact this
end

set_option maxRecDepth 100000 in
set_option maxHeartbeats 1000000 in
theorem snext_any {w : World} {p : Nat} {F : Nat → Prop} {d : AD} {l : Lay} {off : Nat} {f : Nat → Int} {c : Nat → GC} (hA : Arena w p F d) (hF : d.Fine) (hFl : ∀ k, F k → k < w.heap.size) (h : SmD d l off f c) (v : Int) (hv : fitsI v) :
    Calls Tryz.prog 20 #[.agg #[.pointer (some ⟨p, 0, none⟩), .int .i64 l.k, .int .i64 l.e, .int .i64 l.a, .int .i64 l.b, .int .i64 l.c, .int .i64 l.eo, .int .i64 l.bo, .int .i64 l.s, .int .i64 l.g, .int .i64 (off : Int)], .int .i64 v] w fun e w' => e = .returned (.int .i64 0) ∧ HeadS w p F d l off (updI f 2 v) c w' := by
  have hSt := fun W (k : Keeps w W (fun _ => False)) => sstat_sm (hA.keeps k (fun _ _ _ e => e)) hF h
  have hSe : Hid (∀ W (k : Keeps w W (fun _ => False)), Calls Tryz.prog 48 #[.agg #[.pointer (some ⟨p, 0, none⟩), .int .i64 l.k, .int .i64 l.e, .int .i64 l.a, .int .i64 l.b, .int .i64 l.c, .int .i64 l.eo, .int .i64 l.bo, .int .i64 l.s, .int .i64 l.g, .int .i64 (off : Int)], .int .i64 2, .int .i64 v] W fun e w' => e = .returned (.int .i64 0) ∧ HeadS w p F d l off (updI f 2 v) c w') := fun W k => by
    refine (sset_sm (hA.keeps k (fun _ _ _ e => e)) hF (fun i hi => Nat.lt_of_lt_of_le (hFl i hi) k.size) h 2 (by omega) v hv).mono ?_
    rintro e w' ⟨rfl, d', hT, h2⟩
    exact ⟨rfl, d', Turned.pre k hT, h2⟩
  unfold statS at hSt
  clear hA h
  go_enter Tryz.func20, Tryz.ntmps20
  go_wp2_with fail
  refine alloc1 (P := fun W => Calls _ _ _ W _) fun W0 hb hz K0 => ?_
  (with_reducible refine (hSt _ K0).mono ?_)
  rintro r w1 ⟨rfl, k1⟩
  have K1 : Keeps w w1 (fun _ => False) := K0.trans k1 (fun _ _ e => e)
  have k2 : Keeps w1 (w1.alloc (.cells #[.int .i64 (f 3), .int .i64 (f 1), .int .i64 (f 2), .bool (f 0 == 3)] 51)) (fun _ => False) := (Keeps.refl _ _).alloc _
  obtain ⟨c0, c1, c2, c3, c4, c5, c6, c7, c8, c9, c10⟩ := c11_of (k2.blk (k1.blk hb))
  have hSe1 := hSe.out _ (K1.trans k2 (fun _ _ e => e))
  clear hSt hSe
  go_wp2_with fail
  (with_reducible refine hSe1.mono ?_)
  rintro r w2 ⟨rfl, hP⟩
  have HP := hide hP
  clear hP hSe1 c0 c1 c2 c3 c4 c5 c6 c7 c8 c9 c10
  go_wp2_with fail
  go_ret
  exact ⟨rfl, HP.out⟩

set_option maxRecDepth 100000 in
set_option maxHeartbeats 1000000 in
theorem sretire_any {w : World} {p : Nat} {F : Nat → Prop} {d : AD} {l : Lay} {off : Nat} {f : Nat → Int} {c : Nat → GC} (hA : Arena w p F d) (hF : d.Fine) (hFl : ∀ k, F k → k < w.heap.size) (h : SmD d l off f c) (v : Int) (hv : fitsI v) :
    Calls Tryz.prog 19 #[.agg #[.pointer (some ⟨p, 0, none⟩), .int .i64 l.k, .int .i64 l.e, .int .i64 l.a, .int .i64 l.b, .int .i64 l.c, .int .i64 l.eo, .int .i64 l.bo, .int .i64 l.s, .int .i64 l.g, .int .i64 (off : Int)], .int .i64 v] w fun e w' => e = .returned (.int .i64 0) ∧ HeadS w p F d l off (updI (updI f 2 v) 0 3) c w' := by
  have hnB : ¬ F w.heap.size := fun q => Nat.lt_irrefl _ (hFl _ q)
  have hNx : Hid (∀ W (k : Keeps w W (fun _ => False)), Calls Tryz.prog 20 #[.agg #[.pointer (some ⟨p, 0, none⟩), .int .i64 l.k, .int .i64 l.e, .int .i64 l.a, .int .i64 l.b, .int .i64 l.c, .int .i64 l.eo, .int .i64 l.bo, .int .i64 l.s, .int .i64 l.g, .int .i64 (off : Int)], .int .i64 v] W fun e w' => e = .returned (.int .i64 0) ∧ HeadS W p F d l off (updI f 2 v) c w') := fun W k =>
    snext_any (hA.keeps k (fun _ _ _ e => e)) hF (fun i hi => Nat.lt_of_lt_of_le (hFl i hi) k.size) h v hv
  clear hA h
  go_enter Tryz.func19, Tryz.ntmps19
  go_wp2_with fail
  refine alloc1 (P := fun W => Calls _ _ _ W _) fun W0 hb hz K0 => ?_
  (with_reducible refine (hNx.out _ K0).mono ?_)
  rintro r w1 ⟨rfl, d1, hT1, hF1, h1, ht1⟩
  have hb1 := (hT1.2.block w.heap.size (by omega) hnB).trans hb
  obtain ⟨c0, c1, c2, c3, c4, c5, c6, c7, c8, c9, c10⟩ := c11_of hb1
  have hSe := sset_sm hT1.arena hF1 (fun _ q => q.2) h1 0 (by omega) 3 (fitsI_mk (by omega) (by omega))
  rw [show ((0 : Nat) : Int) = 0 from rfl] at hSe
  have HT := hide hT1
  have HT1 := hide ht1
  clear hNx hT1 h1 ht1
  go_wp2_with fail
  (with_reducible refine hSe.mono ?_)
  rintro r w2 ⟨rfl, d2, hT2, hF2, h2, ht2⟩
  have HP : Hid (HeadS w p F d l off (updI (updI f 2 v) 0 3) c w2) := ⟨d2, Turned.pre K0 (HT.out.then hT2), hF2, h2, HT1.out.trans ht2⟩
  clear hSe hT2 h2 ht2 HT HT1 c0 c1 c2 c3 c4 c5 c6 c7 c8 c9 c10
  go_wp2_with fail
  go_ret
  exact ⟨rfl, HP.out⟩
end Go.Proofs.YtgckinldnnckoaaGreatDoor
/-
  First: the lowest slot of a set, by the table of math/bits.
-/
namespace Go.Proofs.YtgckinldnnckoaaGreatDoor.Ct
open Go.RowKit
set_option linter.unusedVariables false

def tabL : List Nat := [0, 1, 56, 2, 57, 49, 28, 3, 61, 58, 42, 50, 38, 29, 17, 4, 62, 47, 59, 36, 45, 43, 51, 22, 53, 39, 33, 30, 24, 18, 12, 5, 63, 55, 48, 27, 60, 41, 37, 16, 46, 35, 44, 21, 52, 32, 23, 11, 54, 26, 40, 15, 34, 20, 31, 10, 25, 14, 19, 9, 13, 8, 7, 6]
/-- The table where the program lays it. -/
def TabAt (w : World) : Prop := ∀ k, k < 64 → w.cell? ⟨1, k, none⟩ = some (.int .u8 ((tabL.getD k 0 : Nat) : Int))
theorem TabAt.kp {w w' : World} (h : TabAt w) (k : Kp w w') : TabAt w' := fun i hi => k.cell (h i hi)

/-- The lowest slot; 8: there is none. -/
def firM (m : Nat) : Nat := if m % 2 = 1 then 0 else if m / 2 % 2 = 1 then 1 else if m / 4 % 2 = 1 then 2 else if m / 8 % 2 = 1 then 3 else if m / 16 % 2 = 1 then 4 else if m / 32 % 2 = 1 then 5 else if m / 64 % 2 = 1 then 6 else if m / 128 % 2 = 1 then 7 else 8
def low1 (x : Int) : Int := bits BinOp.and IntKind.u64 x (IntKind.u64.wrap (-x))
def low2 (x : Int) : Int := IntKind.u64.wrap (x * 285870213051353865)
def low3 (x : Int) : Int := x / 288230376151711744
theorem low_all : ∀ m, m < 256 → 0 < m → (((spread m : Nat) : Int) == 0) = false ∧ 0 ≤ low3 (low2 (low1 ((spread m : Nat) : Int))) ∧ low3 (low2 (low1 ((spread m : Nat) : Int))) < 64 ∧ tabL.getD (low3 (low2 (low1 ((spread m : Nat) : Int)))).toNat 0 = 8 * firM m + 7 := by decide +kernel

set_option maxHeartbeats 400000 in
theorem tz_walk (X L P I V : Int) (w : World) (h0 : (X == 0) = false) (h1 : bits BinOp.and IntKind.u64 X (IntKind.u64.wrap (-X)) = L) (h2 : IntKind.u64.wrap (L * 285870213051353865) = P) (h3 : P / 288230376151711744 = I) (hI : 0 ≤ I) (hI' : I < 64)
    (hc : w.cell? ⟨1, I.toNat, none⟩ = some (.int .u8 V)) (hV : 0 ≤ V) (hV' : V < 64) :
    Calls Tryz.prog 175 #[.int .u64 X] w fun e w' => e = .returned (.int .i64 V) ∧ w' = w := by
  go_enter Tryz.func175, Tryz.ntmps175
  go_wp2_with fail
  go_ret
  exact ⟨rfl, rfl⟩

set_option maxHeartbeats 400000 in
theorem tz_zero (w : World) :
    Calls Tryz.prog 175 #[.int .u64 0] w fun e w' => e = .returned (.int .i64 64) ∧ w' = w := by
  go_enter Tryz.func175, Tryz.ntmps175
  go_wp2_with fail
  go_ret
  exact ⟨rfl, rfl⟩

theorem firM_lt : ∀ m, m < 256 → 0 < m → firM m < 8 := by decide +kernel
theorem firM_le : ∀ m, m < 256 → firM m ≤ 8 := by decide +kernel

set_option maxHeartbeats 400000 in
theorem first_walk (z t f : Int) (w : World) (hT : ∀ w', Kp w w' → Calls Tryz.prog 175 #[.int .u64 z] w' fun e w'' => e = .returned (.int .i64 t) ∧ w'' = w') (hf : wrap64 (t.tdiv 8) = f) :
    Calls Tryz.prog 149 #[.agg #[.int .u64 z]] w fun e w' => e = .returned (.int .i64 f) ∧ Kp w w' := by
  go_enter Tryz.func149, Tryz.ntmps149
  go_wp2_with fail
  refine (hT _ ((Kp.refl _).alloc _)).mono ?_
  rintro e w' ⟨rfl, rfl⟩
  go_wp2_with fail
  go_ret
  exact ⟨by rw [← hf]; rfl, (Kp.refl _).alloc _⟩

def FirstIs (z f : Int) : Prop := ∃ m, m < 256 ∧ z = ((spread m : Nat) : Int) ∧ f = ((firM m : Nat) : Int)
theorem first_is {z f : Int} (q : FirstIs z f) {w : World} (ht : TabAt w) :
    Calls Tryz.prog 149 #[.agg #[.int .u64 z]] w fun e w' => e = .returned (.int .i64 f) ∧ Kp w w' := by
  obtain ⟨m, hm, rfl, rfl⟩ := q
  by_cases h0 : 0 < m
  · obtain ⟨a1, a2, a3, a4⟩ := low_all m hm h0
    have hl := firM_lt m hm h0
    refine first_walk _ ((8 * firM m + 7 : Nat) : Int) _ w (fun w' k => tz_walk _ _ _ _ _ w' a1 rfl rfl rfl a2 a3 ?_ (by omega) (by omega)) ?_
    · rw [← a4]
      exact ht.kp k _ (by show Int.toNat (low3 (low2 (low1 ((spread m : Nat) : Int)))) < 64; omega)
    · rw [Int.tdiv_eq_ediv_of_nonneg (by omega)]
      unfold wrap64
      omega
  · obtain rfl : m = 0 := by omega
    exact first_walk 0 64 8 w (fun w' _ => tz_zero w') (by decide +kernel)
end Go.Proofs.YtgckinldnnckoaaGreatDoor.Ct
/-
  Rest and All of a set, and a range over it (where the reference of stage 5 is not there).
-/
namespace Go.Proofs.YtgckinldnnckoaaGreatDoor.Ct
open Go.RowKit Go.Shelf
set_option linter.unusedVariables false

attribute [local go_sem] Oper.semAt_some

/-- The set without its lowest slot. -/
def rstM (m : Nat) : Nat := if m = 0 then 0 else m - 2 ^ firM m
theorem rst_lt : ∀ m, m < 256 → rstM m < 256 := by decide +kernel
theorem rst_has : ∀ m, m < 256 → ∀ j, j < 8 → hasM (rstM m) j = if j = firM m then false else hasM m j := by decide +kernel
def rest1 (x : Int) : Int := bits BinOp.and IntKind.u64 x (IntKind.u64.wrap (x - 1))
theorem rest_all : ∀ m, m < 256 → rest1 ((spread m : Nat) : Int) = ((spread (rstM m) : Nat) : Int) := by decide +kernel
theorem rst_same : ∀ m, m < 256 → firM m = 8 → rstM m = m := by decide +kernel

set_option maxHeartbeats 1000000 in
theorem rest_walk (z r : Int) (h : bits BinOp.and IntKind.u64 z (IntKind.u64.wrap (z - 1)) = r) (w : World) :
    Calls Tryz.prog 148 #[.agg #[.int .u64 z]] w fun e w' => e = .returned (.agg #[.int .u64 r]) ∧ Kp w w' := by
  go_enter Tryz.func148, Tryz.ntmps148
  go_wp2_with fail
  exact bodyPost_ret (v := .agg #[.int .u64 r]) (by simp [results, Tryz.results148, go_sem]) rfl ⟨rfl, ((Kp.refl _).alloc _).alloc _⟩

def RestIs (z r : Int) : Prop := ∃ m, m < 256 ∧ z = ((spread m : Nat) : Int) ∧ r = ((spread (rstM m) : Nat) : Int)
theorem rest_is {z r : Int} (q : RestIs z r) (w : World) :
    Calls Tryz.prog 148 #[.agg #[.int .u64 z]] w fun e w' => e = .returned (.agg #[.int .u64 r]) ∧ Kp w w' := by
  obtain ⟨m, hm, rfl, rfl⟩ := q
  exact rest_walk _ _ (rest_all m hm) w

/-- The slots of a set, in rising order. -/
def slM (m : Nat) : List Nat := (List.range 8).filter (fun i => hasM m i)
theorem sl_zero : ∀ m, m < 256 → cntM m = 0 → slM m = [] := by decide +kernel
theorem sl_cons : ∀ m, m < 256 → 0 < cntM m → slM m = firM m :: slM (rstM m) := by decide +kernel
theorem cnt_rst : ∀ m, m < 256 → 0 < cntM m → cntM (rstM m) + 1 = cntM m := by decide +kernel

/-- Sets stay as they are, and the table. -/
def Stay (W W' : World) : Prop := (∀ (q : Nat) (cs : Array Value), W.heap[q]? = some (Obj.cells cs 168) → W'.heap[q]? = some (Obj.cells cs 168)) ∧ (TabAt W → TabAt W')
theorem Stay.refl (W : World) : Stay W W := ⟨fun _ _ h => h, fun h => h⟩
theorem Stay.trans {A B C : World} (h : Stay A B) (k : Stay B C) : Stay A C := ⟨fun q cs e => k.1 q cs (h.1 q cs e), fun t => k.2 (h.2 t)⟩
theorem Stay.kp {W W' : World} (k : Kp W W') : Stay W W' := ⟨fun _ _ h => k.blk h, fun t => t.kp k⟩

theorem abides_kp {β : Type} {B : Nat} {J : β → World → Prop} (h : AbidesFrom B J) {s : β} {W W' : World} (hJ : J s W) (k : Kp W W') : J s W' :=
  h s W W' none hJ ⟨k.os, k.tape, k.output, k.size, fun i hi _ => k.block i hi⟩ (fun r e => by cases e)

set_option maxHeartbeats 1000000 in
theorem all_call (z : Int) (w : World) :
    Calls Tryz.prog 112 #[.agg #[.int .u64 z]] w fun e w' => e = .returned (.func (.func 146) #[] #[.pointer (some ⟨w.heap.size, 0, none⟩)]) ∧ w' = w.alloc (.cells #[.int .u64 z] 168) := by
  go_enter Tryz.func112, Tryz.ntmps112
  go_wp2
  go_ret
  exact ⟨rfl, rfl⟩

set_option maxRecDepth 100000 in
set_option maxHeartbeats 4000000 in
theorem all_each (n : Nat) (hn : 1 ≤ n) (l Bs B m : Nat) (hm : m < 256) (J Jx : List Nat → World → Prop) (hAb : AbidesFrom B J)
    (hY : ∀ pre (x : Nat) W, J pre W → pre.length < (slM m).length → YieldAt Fence.wide (n - 1) Tryz.prog l #[.int .i64 (x : Int)] W fun e W' =>
      (e = .returned (.bool true) ∧ J (pre ++ [x]) W' ∧ Stay W W') ∨ (e = .returned (.bool false) ∧ Jx (pre ++ [x]) W'))
    (W : World) (hBs : W.cell? ⟨Bs, 0, none⟩ = some (.int .u64 ((spread m : Nat) : Int))) (hT : TabAt W) (hJ0 : J [] W) :
    CallsIn Fence.wide n Tryz.prog 146 #[.func (.yield l) #[] #[], .pointer (some ⟨Bs, 0, none⟩)] W fun e W' => (∃ v, e = .returned v) ∧
      ((∃ ys, ys = slM m ∧ J ys W') ∨ (∃ pre, pre <+: slM m ∧ Jx pre W')) := by
  have hro : Fence.wide.round = none := rfl
  refine callsIn_of_wp Tryz.func146 rfl trivial ?_ hro
  simp only [Tryz.ntmps146, List.size_toArray, List.length_cons, List.length_nil, Nat.reduceAdd, Nat.reduceSub, Array.replicate_succ, Array.replicate_zero, List.push_toArray, List.append_toArray, List.nil_append, List.cons_append]
  gi_wp2_with fail
  have hL := heap_new W (.cells #[.int .u64 ((spread m : Nat) : Int)] 168)
  have kA : Kp W (W.alloc (.cells #[.int .u64 ((spread m : Nat) : Int)] 168)) := (Kp.refl _).alloc _
  have hJ1 := abides_kp hAb hJ0 kA
  have hT1 := hT.kp kA
  clear hJ0 hT hBs kA
  generalize W.alloc (.cells #[.int .u64 ((spread m : Nat) : Int)] 168) = W1 at *
  generalize W.heap.size = Bl at *
  gi_loopg [3] (cntM m) (fun g v3 wr => ∃ (Bl m' : Nat) (pre : List Nat), g = cntM m' ∧ m' < 256 ∧ v3 = .pointer (some ⟨Bl, 0, none⟩) ∧ wr.heap[Bl]? = some (.cells #[.int .u64 ((spread m' : Nat) : Int)] 168) ∧ pre ++ slM m' = slM m ∧ J pre wr ∧ TabAt wr)
  case atStart => exact ⟨Bl, m, [], rfl, hm, rfl, hL, rfl, hJ1, hT1⟩
  case round =>
    clear hL hJ1 hT1
    obtain ⟨Bl, m', pre, rfl, hm', rfl, hL, hpre, hJ, hT⟩ := hrel
    have hz := sl_zero m' hm'
    have hc := sl_cons m' hm'
    have hd := cnt_rst m' hm'
    have n1 : CntIs ((spread m' : Nat) : Int) ((cntM m' : Nat) : Int) := ⟨m', hm', rfl, rfl⟩
    have f1 : FirstIs ((spread m' : Nat) : Int) ((firM m' : Nat) : Int) := ⟨m', hm', rfl, rfl⟩
    have r1 : RestIs ((spread m' : Nat) : Int) ((spread (rstM m') : Nat) : Int) := ⟨m', hm', rfl, rfl⟩
    have hlt' := rst_lt m' hm'
    obtain ⟨c1, c2⟩ := one_cell hL
    by_cases h0 : cntM m' = 0
    · have HZ := hide (hz h0)
      have HP := hide hpre
      have HJ := hide hJ
      rw [h0] at n1
      clear hz hc hd f1 r1 hlt' hJ hpre h0
      gi_wp2_with fail
      refine ⟨trivial, (callsIn_wide.2 (count_is n1 _)).mono ?_⟩
      rintro e W2 ⟨rfl, k2⟩
      gi_wp2_with fail
      go_end0
      exact ⟨⟨_, rfl⟩, .inl ⟨pre, by rw [← HP.out, HZ.out, List.append_nil], abides_kp hAb HJ.out k2⟩⟩
    · have hp : 0 < cntM m' := by omega
      have hp' : 0 < ((cntM m' : Nat) : Int) := by omega
      have HC := hide (hc hp)
      have HP := hide hpre
      have HD := hide (hd hp)
      have hlen : pre.length < (slM m).length := by
        rw [← hpre, hc hp]
        simp
      clear hz hc hd hpre h0 hp
      generalize firM m' = F at *
      generalize spread m' = z at *
      generalize cntM m' = C at *
      gi_wp2_with fail
      refine ⟨trivial, (callsIn_wide.2 (count_is n1 _)).mono ?_⟩
      rintro e W2 ⟨rfl, k2⟩
      replace hL := k2.blk hL
      replace hJ := abides_kp hAb hJ k2
      replace hT := hT.kp k2
      clear k2 c1 c2
      obtain ⟨c1, c2⟩ := one_cell hL
      gi_wp2_with fail
      refine ⟨trivial, (callsIn_wide.2 (first_is f1 hT)).mono ?_⟩
      rintro e W3 ⟨rfl, k3⟩
      replace hL := k3.blk hL
      replace hJ := abides_kp hAb hJ k3
      replace hT := hT.kp k3
      clear k3 c1 c2 n1 f1
      obtain ⟨fn, tmps, assign, body, hy, hRd⟩ := hY pre F W3 hJ hlen
      clear hJ
      gi_wp2
      refine hRd.mono ?_
      rintro e W4 (⟨rfl, hJ4, hk4⟩ | ⟨rfl, hJx4⟩)
      · replace hL := hk4.1 _ _ hL
        replace hT := hk4.2 hT
        clear hk4 hRd hy
        obtain ⟨c1, c2⟩ := one_cell hL
        have HJ := hide hJ4
        clear hJ4
        gi_wp2_with fail
        refine ⟨trivial, (callsIn_wide.2 (rest_is r1 _)).mono ?_⟩
        rintro e W5 ⟨rfl, k5⟩
        have hN := k5.blk (heap_new W4 (.cells #[.int .u64 (z : Int)] 168))
        have kk : Kp W4 W5 := ((Kp.refl W4).alloc _).trans k5
        have hN2 : (W5.setCell ⟨W4.heap.size, 0, none⟩ (.int .u64 ((spread (rstM m') : Nat) : Int))).heap[W4.heap.size]? = some (.cells #[.int .u64 ((spread (rstM m') : Nat) : Int)] 168) := set_one hN 0 _ (by simp)
        have kk2 : Kp W4 (W5.setCell ⟨W4.heap.size, 0, none⟩ (.int .u64 ((spread (rstM m') : Nat) : Int))) := Below.setCell kk (Nat.le_refl _) _
        obtain ⟨e1, e2⟩ := one_cell hN
        clear c1 c2 k5 hL kk
        gi_wp2_with fail
        gi_roundg (cntM (rstM m'))
        case measure => have := HD.out; omega
        case rel => exact ⟨_, rstM m', pre ++ [F], rfl, hlt', rfl, hN2, by rw [List.append_assoc, ← HP.out, HC.out]; rfl, abides_kp hAb HJ.out kk2, hT.kp kk2⟩
      · have HX : Hid (∃ pre, pre <+: slM m ∧ Jx pre W4) := ⟨_, ⟨slM (rstM m'), by rw [List.append_assoc, ← HP.out, HC.out]; rfl⟩, hJx4⟩
        clear HC HP HD hJx4 hRd hy
        gi_wp2
        refine bodyPost_ret (results_none rfl _ _ _) rfl ?_
        exact ⟨⟨_, rfl⟩, .inr HX.out⟩

/-- A range over All gives the slots in rising order, or stops behind some of them. -/
theorem all_stops (n : Nat) (hn : 1 ≤ n) (Bs m : Nat) (hm : m < 256) (w : World) (hT : TabAt w) (hc : w.cell? ⟨Bs, 0, none⟩ = some (.int .u64 ((spread m : Nat) : Int))) :
    SeqStopsK Fence.wide n Tryz.prog 146 #[.pointer (some ⟨Bs, 0, none⟩)] (fun x : Nat => #[Value.int .i64 (x : Int)]) Stay (fun ys => ys = slM m) (fun pre => pre <+: slM m) (slM m).length w := fun l J Jx W hW hAb _ hY h0 =>
  all_each n hn l Bs W.heap.size m hm J Jx hAb hY W (Kp.cell hW hc) (TabAt.kp hT hW) h0
end Go.Proofs.YtgckinldnnckoaaGreatDoor.Ct
/-
  key, whatever the slot; a range over a set's All, what follows told apart; Find.
-/
namespace Go.Proofs.YtgckinldnnckoaaGreatDoor
open Go.RowKit Go.Shelf Ly Ct
set_option linter.unusedVariables false

theorem slotAt_far (p : Nat) (l : Lay) (off i : Int) (w : World) (h : i < 0 ∨ 8 ≤ i) (ho : 0 ≤ off) (ho2 : off ≤ 134217728) :
    Calls Tryz.prog 97 #[.agg #[.pointer (some ⟨p, 0, none⟩), .int .i64 l.k, .int .i64 l.e, .int .i64 l.a, .int .i64 l.b, .int .i64 l.c, .int .i64 l.eo, .int .i64 l.bo, .int .i64 l.s, .int .i64 l.g, .int .i64 off], .int .i64 i] w fun e w' => e = .returned (.int .i64 (off + -1)) ∧ Keeps w w' (fun _ => False) := by
  have hK := fun W => keyAt_any l i W
  have hx : placeD l i 0 = -1 := by unfold placeD; rw [if_neg (by omega)]
  rw [hx] at hK
  have hwr : IntKind.i64.wrap (off + -1) = off + -1 := by rw [IntKind.wrap_i64]; omega
  clear hx h
  go_enter Tryz.func97, Tryz.ntmps97
  go_wp2_with fail
  have S0 : S11 w w.heap.size p l off _ := s11_new (w := w) (p := p) (l := l) (off := off) (t := 120)
  go_region_held3 (fun w' => w'.cell? ⟨w.heap.size, 0, none⟩ = some (.pointer (some ⟨p, 0, none⟩)) ∧ w'.cell? ⟨w.heap.size, 1, none⟩ = some (.int .i64 l.k) ∧ w'.cell? ⟨w.heap.size, 2, none⟩ = some (.int .i64 l.e) ∧ w'.cell? ⟨w.heap.size, 3, none⟩ = some (.int .i64 l.a) ∧ w'.cell? ⟨w.heap.size, 4, none⟩ = some (.int .i64 l.b) ∧ w'.cell? ⟨w.heap.size, 5, none⟩ = some (.int .i64 l.c) ∧ w'.cell? ⟨w.heap.size, 6, none⟩ = some (.int .i64 l.eo) ∧ w'.cell? ⟨w.heap.size, 7, none⟩ = some (.int .i64 l.bo) ∧ w'.cell? ⟨w.heap.size, 8, none⟩ = some (.int .i64 l.s) ∧ w'.cell? ⟨w.heap.size, 9, none⟩ = some (.int .i64 l.g) ∧ w'.cell? ⟨w.heap.size, 10, none⟩ = some (.int .i64 off) ∧ Keeps w w' (fun _ => False)) (first | exact s11_drew S0 | exact s11_drew (s11_alloc S0 _) | exact s11_drew (s11_alloc (s11_alloc S0 _) _) | exact s11_call (by assumption) (by assumption) | exact s11_alloc (by assumption) _)
    (first | (go_at_call 133; refine (hK _).mono ?_; rintro r w1 ⟨rfl, k1⟩; replace k1 := Keeps.ofKp k1))
  all_goals go_wp2_with fail
  all_goals go_ret
  all_goals exact ⟨rfl, s11_k (by assumption)⟩

/-- What key answers. -/
def keyS (d : AD) (l : Lay) (off : Int) (x : Nat) : ByteArray := if x < 8 then strOf (d.span (off + (8 + (x : Int) * l.s + 0)) l.k) else (readV d (off + -1) l.k).1

set_option maxHeartbeats 2000000 in
theorem key_all {w : World} {p : Nat} {F : Nat → Prop} {d : AD} (hA : Arena w p F d) (hF : d.Fine) (l : Lay) (off : Int) (x : Nat) (ht : thereB d l off = true) :
    Calls Tryz.prog 120 #[.agg #[.pointer (some ⟨p, 0, none⟩), .int .i64 l.k, .int .i64 l.e, .int .i64 l.a, .int .i64 l.b, .int .i64 l.c, .int .i64 l.eo, .int .i64 l.bo, .int .i64 l.s, .int .i64 l.g, .int .i64 off], .int .i64 (x : Int)] w fun e w' => e = .returned (.string (keyS d l off x)) ∧ Keeps w w' (fun _ => False) := by
  by_cases hx : x < 8
  · unfold keyS
    rw [if_pos hx]
    exact key_any hA hF l off (x : Int) ht (by omega) (by omega)
  · unfold keyS
    rw [if_neg hx]
    obtain ⟨hv, hg, ho1, ho2, ho3⟩ := there_more hF ht
    have hvm := valid_more hv
    obtain ⟨c, hc, hfo⟩ := hA.at
    have hS := fun W => slotAt_far p l off (x : Int) W (Or.inr (by omega)) (by omega) (by omega)
    have hR := fun W (k : Keeps w W (fun _ => False)) => aread_any (hc.keeps k (fun _ _ e => e)) hF (off + -1) l.k (fitsI_mk (by omega) (by omega)) (fitsI_mk (by omega) (by omega))
    generalize (readV d (off + -1) l.k).1 = S at *
    generalize (readV d (off + -1) l.k).2 = S2 at *
    generalize off + -1 = y at *
    clear hvm hg hv hx
    go_enter Tryz.func120, Tryz.ntmps120
    go_wp2_with fail
    have S0 : S11 w w.heap.size p l off _ := s11_new (w := w) (p := p) (l := l) (off := off) (t := 120)
    go_region_held3 (fun w' => w'.cell? ⟨w.heap.size, 0, none⟩ = some (.pointer (some ⟨p, 0, none⟩)) ∧ w'.cell? ⟨w.heap.size, 1, none⟩ = some (.int .i64 l.k) ∧ w'.cell? ⟨w.heap.size, 2, none⟩ = some (.int .i64 l.e) ∧ w'.cell? ⟨w.heap.size, 3, none⟩ = some (.int .i64 l.a) ∧ w'.cell? ⟨w.heap.size, 4, none⟩ = some (.int .i64 l.b) ∧ w'.cell? ⟨w.heap.size, 5, none⟩ = some (.int .i64 l.c) ∧ w'.cell? ⟨w.heap.size, 6, none⟩ = some (.int .i64 l.eo) ∧ w'.cell? ⟨w.heap.size, 7, none⟩ = some (.int .i64 l.bo) ∧ w'.cell? ⟨w.heap.size, 8, none⟩ = some (.int .i64 l.s) ∧ w'.cell? ⟨w.heap.size, 9, none⟩ = some (.int .i64 l.g) ∧ w'.cell? ⟨w.heap.size, 10, none⟩ = some (.int .i64 off) ∧ Keeps w w' (fun _ => False)) (first | exact s11_drew S0 | exact s11_drew (s11_alloc S0 _) | exact s11_drew (s11_alloc (s11_alloc S0 _) _) | exact s11_call (by assumption) (by assumption) | exact s11_alloc (by assumption) _)
      (first | (go_at_call 97; refine (hS _).mono ?_; rintro r w1 ⟨rfl, k1⟩) | (go_at_call 118; refine (hR _ (s11_k (by assumption))).mono ?_; rintro r w2 ⟨rfl, k2⟩))
    all_goals go_wp2_with fail
    all_goals go_ret
    all_goals exact ⟨rfl, s11_k (by assumption)⟩

theorem keyS_full {d : AD} {l : Lay} {off : Nat} {c : Nat → GC} (h : GroupAt d l off c) {i : Nat} (hi : i < 8) (h2 : (c i).kind = 2) : keyS d l (off : Int) i = (c i).key := by
  have e := h.at hi
  unfold keyS
  rw [if_pos hi]
  have hb : byN (wordN d off) i < 128 := by
    rw [h.word i hi]
    have hm := GC.mark_full (h.ok i hi)
    rcases h.ok i hi with q | q | q
    · rw [q] at h2; cases h2
    · rw [q] at h2; cases h2
    · unfold GC.mark
      rw [if_pos h2]
      omega
  unfold atC at e
  rw [Int.toNat_natCast, if_pos hb] at e
  rw [← e]

section
variable {op : Operand} {ps : Array Tmp} {assign body : Code} {Q : Exit → Act → World → Prop} {a : Act} {w : World} {n : Nat}
theorem StayPut {W : World} {l : Nat} {o : Obj} (h : W.heap[l]? = some o) (hc : o.isCells = false) (o' : Obj) (h0 : 1 < l) : Ct.Stay W (W.putObj l o') := by
  have hne : ∀ (q : Nat) (cs : Array Value) (t : TypeId), W.heap[q]? = some (Obj.cells cs t) → q ≠ l := fun q cs t e e' => by
    subst e'
    rw [e] at h
    cases h
    cases hc
  have hsame : ∀ q, q ≠ l → q < W.heap.size → (W.putObj l o').heap[q]? = W.heap[q]? := fun q hq hlt => (grownBy_putObj' W l o').block q hlt (fun e' => hq (by cases e'; rfl))
  refine ⟨fun q cs e => (hsame q (hne q cs _ e) (Array.getElem?_eq_some_iff.1 e).1).trans e, fun t k hk => ?_⟩
  have hc := t k hk
  have hlt : 1 < W.heap.size := by
    refine Nat.lt_of_not_le fun hn => ?_
    rw [World.cell?, Array.getElem?_eq_none hn] at hc
    cases hc
  rw [World.cell?_of_block (w := W) (hsame 1 (by omega) hlt)]
  exact hc

/-- A range over All of a set. -/
theorem range_set (h1 : 2 ≤ n) {Bs m : Nat} (hop : a.eval op = .func (.func 146) #[] #[.pointer (some ⟨Bs, 0, none⟩)]) (hm : m < 256) (hT : TabAt w) (hc : w.cell? ⟨Bs, 0, none⟩ = some (.int .u64 ((spread m : Nat) : Int))) (hps : ps.size = 1)
    (A : Act → Nat → Act) (I : List Nat → World → Prop) (Ix : Code → List Nat → World → Prop) (hI : OwnFrom w.heap.size I) (hIx : ∀ c, OwnFrom w.heap.size (Ix c)) (h0 : I [] w)
    (hassign : ∀ (l : Nat) (x : Nat) (W : World) (K : Act → World → Prop), K (A a x) W →
      assign.wpIn (Fence.wide.inRound l) (n - 1 - 1) Tryz.prog (Exit.then K (fun _ _ _ => False)) { tmps := (ps.zip #[Value.int .i64 (x : Int)]).foldl (fun t (p, v) => t.setIfInBounds p v) a.tmps, defers := [] } W)
    (hbody : ∀ (l : Nat) (pre : List Nat) (x : Nat) (W : World), w.heap.size ≤ l → (∃ r, W.heap[l]? = some (.loop r)) → I pre W → pre.length < (slM m).length → body.wpIn (Fence.wide.inRound l) (n - 1 - 1) Tryz.prog (ownPostG w.heap.size Ct.Stay I Ix (pre ++ [x]) W) (A a x) W)
    (hdone : ∀ (D : Nat) (W : World), w.heap.size ≤ D → I (slM m) W → W.heap[D]? = some (.deferred (some [])) → Q .normal { a with defers := { target := .collected D, args := #[] } :: a.defers } W)
    (hstop : ∀ (D : Nat) (c : Code) (pre : List Nat) (W : World), w.heap.size ≤ D → pre <+: slM m → Ix c pre W → W.heap[D]? = some (.deferred (some [])) → c.wpIn Fence.wide n Tryz.prog Q { a with defers := { target := .collected D, args := #[] } :: a.defers } W) :
    (Code.rangeFunc op ps assign body).wp Tryz.prog Q a w := by
  have hpos : 1 < w.heap.size := by
    have := hT 0 (by decide)
    refine Nat.lt_of_not_le fun hn => ?_
    rw [World.cell?, Array.getElem?_eq_none hn] at this
    cases this
  rw [← wpIn_wide (n := n)]
  exact wpIn_rangeFunc_ownH rfl (by omega) (gf := 146) (lb := #[.pointer (some ⟨Bs, 0, none⟩)]) hop trivial (enters_of Tryz.func146 (by kernel_rfl) rfl)
    (all_stops (n - 1) (by omega) Bs m hm w hT hc) Ct.Stay.trans (fun W l o o' hl h hc _ => StayPut h hc o' (by omega)) (Below.refl _ _) (fun _ => by rw [hps]; rfl)
    I Ix hI hIx h0 (fun x a' _ => a' = A a x) (fun _ _ _ _ _ _ hs _ _ => hs)
    (fun l pre x W K hi hK => hassign l x W K (hK _ _ (KeepsFrom.refl _ _) (Ct.Stay.refl _) hi rfl))
    (fun l pre x a' W hl hr hi e hlt => by subst e; exact hbody l pre x W hl hr hi hlt)
    (fun D xs W hD hS hi hK => by subst hS; exact hdone D W hD hi hK)
    hstop
end
end Go.Proofs.YtgckinldnnckoaaGreatDoor
