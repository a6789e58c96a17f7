import Derived.Shelf.Strings.Builder1
import Derived.Shelf.Strings.Builder2
import Derived.Shelf.Strings.OnBuilder
import Derived.Shelf.Strings.BuilderF
import Derived.Shelf.Strings.Prefix
import Derived.Shelf.Bits.Mul64
import Derived.Shelf.Strings.Repeat
import Derived.Test.YtmdnknbolgedgaaGreatDoorProg
import Derived.Test.YtmdnknbolgedgaaGreatDoorUn7
/-
  The calls of group: which are of one step.
-/
namespace Go.Proofs.YtmdnknbolgedgaaGreatDoor
open Go.RowKit Go.Shelf Ly Ct
set_option linter.unusedVariables false

theorem Keeps.ofKp {w w' : World} (h : Below w.heap.size w w') : Keeps w w' (fun _ => False) := ⟨h.os, h.tape, h.output, h.size, fun k hk _ => h.block k hk⟩
/-- The eleven cells of a group's struct. -/
theorem grp_cells {w : World} {b p : Nat} {l : Lay} {off : Int} {t : TypeId} (h : w.heap[b]? = some (.cells #[.pointer (some ⟨p, 0, none⟩), .int .i64 l.k, .int .i64 l.e, .int .i64 l.a, .int .i64 l.b, .int .i64 l.c, .int .i64 l.eo, .int .i64 l.bo, .int .i64 l.s, .int .i64 l.g, .int .i64 off] t)) :
    w.cell? ⟨b, 0, none⟩ = some (.pointer (some ⟨p, 0, none⟩)) ∧ w.cell? ⟨b, 1, none⟩ = some (.int .i64 l.k) ∧ w.cell? ⟨b, 2, none⟩ = some (.int .i64 l.e) ∧ w.cell? ⟨b, 3, none⟩ = some (.int .i64 l.a) ∧ w.cell? ⟨b, 4, none⟩ = some (.int .i64 l.b) ∧ w.cell? ⟨b, 5, none⟩ = some (.int .i64 l.c) ∧ w.cell? ⟨b, 6, none⟩ = some (.int .i64 l.eo) ∧ w.cell? ⟨b, 7, none⟩ = some (.int .i64 l.bo) ∧ w.cell? ⟨b, 8, none⟩ = some (.int .i64 l.s) ∧ w.cell? ⟨b, 9, none⟩ = some (.int .i64 l.g) ∧ w.cell? ⟨b, 10, none⟩ = some (.int .i64 off) := by
  simp [World.cell?, h]

/-- The struct stands in its block, all that was there stands. -/
abbrev S11 (w : World) (b p : Nat) (l : Lay) (off : Int) (W : World) : Prop := W.cell? ⟨b, 0, none⟩ = some (.pointer (some ⟨p, 0, none⟩)) ∧ W.cell? ⟨b, 1, none⟩ = some (.int .i64 l.k) ∧ W.cell? ⟨b, 2, none⟩ = some (.int .i64 l.e) ∧ W.cell? ⟨b, 3, none⟩ = some (.int .i64 l.a) ∧ W.cell? ⟨b, 4, none⟩ = some (.int .i64 l.b) ∧ W.cell? ⟨b, 5, none⟩ = some (.int .i64 l.c) ∧ W.cell? ⟨b, 6, none⟩ = some (.int .i64 l.eo) ∧ W.cell? ⟨b, 7, none⟩ = some (.int .i64 l.bo) ∧ W.cell? ⟨b, 8, none⟩ = some (.int .i64 l.s) ∧ W.cell? ⟨b, 9, none⟩ = some (.int .i64 l.g) ∧ W.cell? ⟨b, 10, none⟩ = some (.int .i64 off) ∧ Keeps w W (fun _ => False)
theorem s11_of {w W : World} {b p : Nat} {l : Lay} {off : Int} {t : TypeId} (h : W.heap[b]? = some (.cells #[.pointer (some ⟨p, 0, none⟩), .int .i64 l.k, .int .i64 l.e, .int .i64 l.a, .int .i64 l.b, .int .i64 l.c, .int .i64 l.eo, .int .i64 l.bo, .int .i64 l.s, .int .i64 l.g, .int .i64 off] t)) (k : Keeps w W (fun _ => False)) : S11 w b p l off W := by
  obtain ⟨c0, c1, c2, c3, c4, c5, c6, c7, c8, c9, c10⟩ := grp_cells h
  exact ⟨c0, c1, c2, c3, c4, c5, c6, c7, c8, c9, c10, k⟩
theorem s11_call {w W W1 : World} {b p : Nat} {l : Lay} {off : Int} (k : Keeps W W1 (fun _ => False)) (h : S11 w b p l off W) : S11 w b p l off W1 := by
  obtain ⟨c0, c1, c2, c3, c4, c5, c6, c7, c8, c9, c10, K⟩ := h
  have hc : ∀ j v, W.cell? ⟨b, j, none⟩ = some v → W1.cell? ⟨b, j, none⟩ = some v := fun j v q => by
    have : b < W.heap.size := by
      refine Nat.lt_of_not_le fun hn => ?_
      rw [World.cell?, Array.getElem?_eq_none hn] at q
      cases q
    exact (World.cell?_of_block (w := W) (a := ⟨b, j, none⟩) (k.block b this id)).trans q
  exact ⟨hc _ _ c0, hc _ _ c1, hc _ _ c2, hc _ _ c3, hc _ _ c4, hc _ _ c5, hc _ _ c6, hc _ _ c7, hc _ _ c8, hc _ _ c9, hc _ _ c10, K.trans k (fun _ _ e => e)⟩
theorem s11_drew {w W : World} {b p : Nat} {l : Lay} {off : Int} (h : S11 w b p l off W) : S11 w b p l off W.drew := s11_call (Keeps.refl W (fun _ => False)).drew h
theorem s11_alloc {w W : World} {b p : Nat} {l : Lay} {off : Int} (h : S11 w b p l off W) (o : Obj) : S11 w b p l off (W.alloc o) := s11_call ((Keeps.refl W (fun _ => False)).alloc o) h
theorem s11_k {w W : World} {b p : Nat} {l : Lay} {off : Int} (h : S11 w b p l off W) : Keeps w W (fun _ => False) := h.2.2.2.2.2.2.2.2.2.2.2
theorem s11_new {w : World} {p : Nat} {l : Lay} {off : Int} {t : TypeId} : S11 w w.heap.size p l off (w.alloc (.cells #[.pointer (some ⟨p, 0, none⟩), .int .i64 l.k, .int .i64 l.e, .int .i64 l.a, .int .i64 l.b, .int .i64 l.c, .int .i64 l.eo, .int .i64 l.bo, .int .i64 l.s, .int .i64 l.g, .int .i64 off] t)) := s11_of (heap_alloc_new _ _) ((Keeps.refl w (fun _ => False)).alloc _)

theorem alloc1 {w : World} {o1 : Obj} {P : World → Prop} (h : ∀ W0, W0.heap[w.heap.size]? = some o1 → W0.heap.size = w.heap.size + 1 → Keeps w W0 (fun _ => False) → P W0) : P (w.alloc o1) :=
  h _ (heap_alloc_new _ _) (by simp) ((Keeps.refl _ _).alloc _)
theorem alloc2 {w : World} {o1 o2 : Obj} {P : World → Prop} (h : ∀ W0, W0.heap[w.heap.size]? = some o1 → W0.heap[w.heap.size + 1]? = some o2 → W0.heap.size = w.heap.size + 2 → Keeps w W0 (fun _ => False) → P W0) : P ((w.alloc o1).alloc o2) :=
  h _ ((Below.heap_alloc _ _ _ (by simp)).trans (heap_alloc_new _ _)) (by have := heap_alloc_new (w.alloc o1) o2; simpa using this) (by simp) (((Keeps.refl _ _).alloc _).alloc _)
theorem Keeps.blk {w w1 : World} (h : Keeps w w1 (fun _ => False)) {b : Nat} {x : Obj} (hb : w.heap[b]? = some x) : w1.heap[b]? = some x := (h.block b (heap_lt hb) id).trans hb
theorem five_cells {w : World} {b : Nat} {v0 v1 v2 v3 v4 : Value} {t : TypeId} (h : w.heap[b]? = some (.cells #[v0, v1, v2, v3, v4] t)) :
    w.cell? ⟨b, 0, none⟩ = some v0 ∧ w.cell? ⟨b, 1, none⟩ = some v1 ∧ w.cell? ⟨b, 2, none⟩ = some v2 ∧ w.cell? ⟨b, 3, none⟩ = some v3 ∧ w.cell? ⟨b, 4, none⟩ = some v4 ∧
    w.frozen? ⟨b, 0, none⟩ = false ∧ w.frozen? ⟨b, 1, none⟩ = false ∧ w.frozen? ⟨b, 2, none⟩ = false ∧ w.frozen? ⟨b, 3, none⟩ = false ∧ w.frozen? ⟨b, 4, none⟩ = false := by
  simp [World.cell?, World.frozen?, h]
theorem set_one' {w : World} {b : Nat} {cs : Array Value} {t : TypeId} (h : w.heap[b]? = some (.cells cs t)) (i : Nat) (v : Value) (hi : i < cs.size) :
    (w.setCell ⟨b, i, none⟩ v).heap[b]? = some (.cells (cs.set i v hi) t) := by
  have hlt := (Array.getElem?_eq_some_iff.1 h).1
  have hv := (Array.getElem?_eq_some_iff.1 h).2
  simp only [World.setCell, Array.getElem?_modify]
  simp [hlt, hv, hi, Array.setIfInBounds]
theorem five_set {w0 w : World} {b : Nat} {u0 u1 u2 u3 u4 : Value} {t : TypeId} {S : Nat → Prop} (h : w.heap[b]? = some (.cells #[u0, u1, u2, u3, u4] t)) (k : Keeps w0 w S) (hb : b < w0.heap.size → S b)
    {v0 v1 v2 v3 v4 : Value} {P : World → Prop} (hP : ∀ w9, w9.heap[b]? = some (.cells #[v0, v1, v2, v3, v4] t) → Keeps w0 w9 S → Keeps w w9 (fun i => i = b) → P w9) :
    P (((((w.setCell ⟨b, 0, none⟩ v0).setCell ⟨b, 1, none⟩ v1).setCell ⟨b, 2, none⟩ v2).setCell ⟨b, 3, none⟩ v3).setCell ⟨b, 4, none⟩ v4) := by
  refine hP _ ?_ ?_ ?_
  · have h0 := set_one' h 0 v0 (by simp)
    have h1 := set_one' h0 1 v1 (by simp)
    have h2 := set_one' h1 2 v2 (by simp)
    have h3 := set_one' h2 3 v3 (by simp)
    have h4 := set_one' h3 4 v4 (by simp)
    exact h4
  · exact ((((k.setCell _ hb _).setCell _ hb _).setCell _ hb _).setCell _ hb _).setCell _ hb _
  · exact (((((Keeps.refl w (fun i => i = b)).setCell _ (fun _ => rfl) _).setCell _ (fun _ => rfl) _).setCell _ (fun _ => rfl) _).setCell _ (fun _ => rfl) _).setCell _ (fun _ => rfl) _

set_option maxHeartbeats 400000 in
theorem gslot_any (i : Int) (w : World) : Calls Tryz.prog 76 #[.int .i64 i] w fun e w' => e = .returned (.bool (decide (0 ≤ i ∧ i < 8))) ∧ w' = w := by
  by_cases h0 : 0 ≤ i
  · by_cases h8 : i < 8
    · rw [decide_eq_true ⟨h0, h8⟩]
      go_enter Tryz.func76, Tryz.ntmps76
      go_wp2_with fail
      go_ret
      exact ⟨rfl, rfl⟩
    · rw [decide_eq_false (fun q => h8 q.2)]
      go_enter Tryz.func76, Tryz.ntmps76
      go_wp2_with fail
      go_ret
      exact ⟨rfl, rfl⟩
  · rw [decide_eq_false (fun q => h0 q.1)]
    go_enter Tryz.func76, Tryz.ntmps76
    go_wp2_with fail
    go_ret
    exact ⟨rfl, rfl⟩

set_option maxHeartbeats 400000 in
theorem gtag_any (i : Int) (w : World) : Calls Tryz.prog 81 #[.int .i64 i] w fun e w' => e = .returned (.bool (decide (0 ≤ i ∧ i ≤ 127))) ∧ w' = w := by
  by_cases h0 : 0 ≤ i
  · by_cases h8 : i ≤ 127
    · rw [decide_eq_true ⟨h0, h8⟩]
      go_enter Tryz.func81, Tryz.ntmps81
      go_wp2_with fail
      go_ret
      exact ⟨rfl, rfl⟩
    · rw [decide_eq_false (fun q => h8 q.2)]
      go_enter Tryz.func81, Tryz.ntmps81
      go_wp2_with fail
      go_ret
      exact ⟨rfl, rfl⟩
  · rw [decide_eq_false (fun q => h0 q.1)]
    go_enter Tryz.func81, Tryz.ntmps81
    go_wp2_with fail
    go_ret
    exact ⟨rfl, rfl⟩

set_option maxHeartbeats 400000 in
theorem at_any (p : Nat) (l : Lay) (off : Int) (w : World) : Calls Tryz.prog 106 #[.pointer (some ⟨p, 0, none⟩), .agg #[.int .i64 l.k, .int .i64 l.e, .int .i64 l.a, .int .i64 l.b, .int .i64 l.c, .int .i64 l.eo, .int .i64 l.bo, .int .i64 l.s, .int .i64 l.g], .int .i64 off] w fun e w' => e = .returned (.agg #[.pointer (some ⟨p, 0, none⟩), .int .i64 l.k, .int .i64 l.e, .int .i64 l.a, .int .i64 l.b, .int .i64 l.c, .int .i64 l.eo, .int .i64 l.bo, .int .i64 l.s, .int .i64 l.g, .int .i64 off]) ∧ Keeps w w' (fun _ => False) := by
  go_enter Tryz.func106, Tryz.ntmps106
  go_wp2_with fail
  refine bodyPost_ret (v := .agg #[.pointer (some ⟨p, 0, none⟩), .int .i64 l.k, .int .i64 l.e, .int .i64 l.a, .int .i64 l.b, .int .i64 l.c, .int .i64 l.eo, .int .i64 l.bo, .int .i64 l.s, .int .i64 l.g, .int .i64 off]) (by simp [results, Tryz.results106, go_sem]) rfl ⟨rfl, ?_⟩
  exact ((Keeps.refl _ _).alloc _).alloc _

set_option maxHeartbeats 2000000 in
theorem there_any {w : World} {p : Nat} {F : Nat → Prop} {d : AD} (hA : Arena w p F d) (hF : d.Fine) (l : Lay) (off : Int) (ho : fitsI off) (hn : fitsI l.g) :
    Calls Tryz.prog 92 #[.agg #[.pointer (some ⟨p, 0, none⟩), .int .i64 l.k, .int .i64 l.e, .int .i64 l.a, .int .i64 l.b, .int .i64 l.c, .int .i64 l.eo, .int .i64 l.bo, .int .i64 l.s, .int .i64 l.g, .int .i64 off]] w fun e w' => BoolPost w (thereB d l off) e w' := by
  obtain ⟨c, hc, hfo⟩ := hA.at
  have hV := fun W => valid_any l W
  have hE := fun W (k : Keeps w W (fun _ => False)) => aequal_any (hc.keeps k (fun _ _ e => e)) hF off off l.g ho ho hn
  unfold thereB
  cases hv : validB l
  · rw [hv] at hV
    clear hE
    go_enter Tryz.func92, Tryz.ntmps92
    go_wp2_with fail
    refine (hV _).mono ?_
    rintro r w1 ⟨rfl, k1⟩
    have K1 : Keeps w w1 (fun _ => False) := ((Keeps.refl w (fun _ => False)).alloc _).trans (Keeps.ofKp k1) (fun _ _ e => e)
    clear hV k1
    go_wp2_with fail
    go_ret
    exact ⟨rfl, K1⟩
  · rw [hv] at hV
    have hx : equalV d off off l.g = (d.goodB off l.g, if d.goodB off l.g then 0 else 24) := by
      unfold equalV
      cases d.goodB off l.g <;> simp [eqS]
    rw [hx] at hE
    rw [Bool.true_and]
    go_enter Tryz.func92, Tryz.ntmps92
    go_wp2_with fail
    refine (hV _).mono ?_
    rintro r w1 ⟨rfl, k1⟩
    have hb := k1.block w.heap.size (by simp)
    rw [heap_alloc_new] at hb
    obtain ⟨c0, c1, c2, c3, c4, c5, c6, c7, c8, c9, c10⟩ := grp_cells hb
    have K1 : Keeps w w1 (fun _ => False) := ((Keeps.refl w (fun _ => False)).alloc _).trans (Keeps.ofKp k1) (fun _ _ e => e)
    replace hE := hE w1 K1
    clear hV k1 hb c1 c2 c3 c4 c5 c6 c7 c8
    cases hg : d.goodB off l.g
    · rw [hg] at hE
      go_wp2_with fail
      refine hE.mono ?_
      rintro r w2 ⟨rfl, k2⟩
      go_wp2_with fail
      go_ret
      refine ⟨?_, K1.trans k2 (fun _ _ e => e)⟩
      rw [hg]
      rfl
    · rw [hg] at hE
      go_wp2_with fail
      refine hE.mono ?_
      rintro r w2 ⟨rfl, k2⟩
      go_wp2_with fail
      go_ret
      refine ⟨?_, K1.trans k2 (fun _ _ e => e)⟩
      rw [hg]
      rfl
end Go.Proofs.YtmdnknbolgedgaaGreatDoor
/-
  The calls of group that read.
-/
namespace Go.Proofs.YtmdnknbolgedgaaGreatDoor
open Go.RowKit Go.Shelf Ly Ct
set_option linter.unusedVariables false

theorem Turned.pre {w w0 w' : World} {p : Nat} {F : Nat → Prop} {d : AD} (k : Keeps w w0 (fun _ => False)) (h : Turned w0 w' p F d) : Turned w w' p F d :=
  ⟨h.1.mono (fun i _ hi => hi.elim Or.inl (fun q => Or.inr (Nat.le_trans k.size q))), (k.mono (fun _ _ e => e.elim)).trans h.2 (fun _ _ e => e)⟩
theorem Turned.post {w w1 w2 : World} {p : Nat} {F : Nat → Prop} {d : AD} (h : Turned w w1 p F d) (k : Keeps w1 w2 (fun _ => False)) : Turned w w2 p F d :=
  ⟨h.1.keeps k (fun _ _ _ e => e), h.2.trans k (fun _ _ e => e.elim)⟩
theorem Turned.then {w0 w1 w2 : World} {p : Nat} {F : Nat → Prop} {d1 d2 : AD} (h1 : Turned w0 w1 p F d1) (h2 : Turned w1 w2 p (fun k => (F k ∨ w0.heap.size ≤ k) ∧ k < w1.heap.size) d2) : Turned w0 w2 p F d2 := by
  refine ⟨h2.1.mono (fun i _ hi => ?_), h1.2.trans h2.2 (fun i hi e => ?_)⟩
  · rcases hi with hi | hi
    · exact hi.1
    · exact Or.inr (Nat.le_trans h1.2.size hi)
  · rcases e.1 with q | q
    · exact q
    · exact absurd q (Nat.not_le_of_lt hi)
theorem Turned.arena {w0 w1 : World} {p : Nat} {F : Nat → Prop} {d1 : AD} (h1 : Turned w0 w1 p F d1) : Arena w1 p (fun k => (F k ∨ w0.heap.size ≤ k) ∧ k < w1.heap.size) d1 := h1.1.mono (fun i hi q => ⟨q, hi⟩)

/-- A group that is there: its numbers. -/
theorem there_more {d : AD} {l : Lay} {off : Int} (hF : d.Fine) (h : thereB d l off = true) : validB l = true ∧ d.goodB off l.g = true ∧ 16 ≤ off ∧ off + l.g ≤ 134217728 ∧ off + l.g ≤ d.bs.length := by
  unfold thereB at h
  rw [Bool.and_eq_true] at h
  obtain ⟨o, n, e1, e2, h1, h2⟩ := hF.span h.2
  have := hF.most
  exact ⟨h.1, h.2, by omega, by omega, by omega⟩

set_option maxHeartbeats 2000000 in
theorem word_any {w : World} {p : Nat} {F : Nat → Prop} {d : AD} (hA : Arena w p F d) (hF : d.Fine) (l : Lay) (off : Int) (ho : fitsI off) (hn : fitsI l.g) :
    Calls Tryz.prog 57 #[.agg #[.pointer (some ⟨p, 0, none⟩), .int .i64 l.k, .int .i64 l.e, .int .i64 l.a, .int .i64 l.b, .int .i64 l.c, .int .i64 l.eo, .int .i64 l.bo, .int .i64 l.s, .int .i64 l.g, .int .i64 off]] w fun e w' => e = .returned (.tuple #[.int .u64 (wordV d l off).1, .int .i64 (wordV d l off).2]) ∧ Keeps w w' (fun _ => False) := by
  obtain ⟨c, hc, hfo⟩ := hA.at
  have hT := fun W (k : Keeps w W (fun _ => False)) => there_any (hA.keeps k (fun _ _ _ e => e)) hF l off ho hn
  have hL := fun W (k : Keeps w W (fun _ => False)) => aload_any (hc.keeps k (fun _ _ e => e)) hF off 8 ho (fitsI_mk (by omega) (by omega))
  unfold wordV
  cases ht : thereB d l off
  · simp only [ht] at hT
    clear hL
    go_enter Tryz.func57, Tryz.ntmps57
    go_wp2_with fail
    refine (hT _ ((Keeps.refl w (fun _ => False)).alloc _)).mono ?_
    rintro r w1 ⟨rfl, k1⟩
    have K1 : Keeps w w1 (fun _ => False) := ((Keeps.refl w (fun _ => False)).alloc _).trans k1 (fun _ _ e => e)
    clear hT k1
    go_wp2_with fail
    exact bodyPost_ret (v := .tuple #[.int .u64 0, .int .i64 24]) (by simp [results, Tryz.results57, go_sem]) rfl ⟨rfl, K1⟩
  · simp only [ht] at hT
    obtain ⟨hv, hg, _⟩ := there_more hF ht
    have hvm := valid_more hv
    have hg8 : d.goodB off 8 = true := by
      have := good_sub hg (x := 0) (m := 8) (by omega) (by omega) (by omega)
      rw [Int.add_zero] at this
      exact this
    have hx : loadV d off 8 = (((wordN d off : Nat) : Int), 0) := by
      unfold loadV
      rw [hg8]
      rfl
    simp only [hx] at hL
    generalize wordN d off = W at *
    clear hvm hx hg8 hg hv
    simp only [if_true]
    go_enter Tryz.func57, Tryz.ntmps57
    go_wp2_with fail
    refine (hT _ ((Keeps.refl w (fun _ => False)).alloc _)).mono ?_
    rintro r w1 ⟨rfl, k1⟩
    have hb := k1.block w.heap.size (by simp) id
    rw [heap_alloc_new] at hb
    obtain ⟨c0, c1, c2, c3, c4, c5, c6, c7, c8, c9, c10⟩ := grp_cells hb
    have K1 : Keeps w w1 (fun _ => False) := ((Keeps.refl w (fun _ => False)).alloc _).trans k1 (fun _ _ e => e)
    replace hL := hL w1 K1
    clear hT k1 hb c1 c2 c3 c4 c5 c6 c7 c8 c9
    go_wp2_with fail
    refine hL.mono ?_
    rintro r w2 ⟨rfl, k2⟩
    go_wp2_with fail
    exact bodyPost_ret (v := .tuple #[.int .u64 (W : Int), .int .i64 0]) (by simp [results, Tryz.results57, go_sem]) rfl ⟨rfl, K1.trans k2 (fun _ _ e => e)⟩

set_option maxHeartbeats 2000000 in
theorem setWord_any {w : World} {p : Nat} {F : Nat → Prop} {d : AD} (hA : Arena w p F d) (hF : d.Fine) (l : Lay) (off : Int) (ho : fitsI off) (W : Nat) :
    Calls Tryz.prog 85 #[.agg #[.pointer (some ⟨p, 0, none⟩), .int .i64 l.k, .int .i64 l.e, .int .i64 l.a, .int .i64 l.b, .int .i64 l.c, .int .i64 l.eo, .int .i64 l.bo, .int .i64 l.s, .int .i64 l.g, .int .i64 off], .int .u64 (W : Int)] w fun e w' => ErrPost w p F (storeR d off 8 W).1 (storeR d off 8 W).2 e w' := by
  have hS := fun V (k : Keeps w V (fun _ => False)) => astore_any (hA.keeps k (fun _ _ _ e => e)) hF off 8 W ho (fitsI_mk (by omega) (by omega))
  generalize storeR d off 8 W = R at *
  obtain ⟨x, d'⟩ := R
  go_enter Tryz.func85, Tryz.ntmps85
  go_wp2_with fail
  refine (hS _ ((Keeps.refl w (fun _ => False)).alloc _)).mono ?_
  rintro r w1 ⟨rfl, k1⟩
  have T1 := hide (Turned.pre ((Keeps.refl w (fun _ => False)).alloc _) k1)
  clear hS k1 hA
  go_wp2_with fail
  go_ret
  exact ⟨rfl, T1.out⟩

theorem place_in {l : Lay} (hv : validB l = true) {i x : Int} (h0 : 0 ≤ i) (h8 : i < 8) : placeD l i x = 8 + i * l.s + x := if_pos ⟨h0, h8, hv⟩
theorem mul_bound {i s : Int} (h0 : 0 ≤ i) (h8 : i < 8) (hs : 0 ≤ s) (hs2 : s ≤ 300) : 0 ≤ i * s ∧ i * s ≤ 2100 ∧ i * s + s ≤ 8 * s := by
  have h1 := Int.mul_nonneg h0 hs
  have h2 := Int.mul_le_mul (show i ≤ 7 by omega) hs2 hs (by omega)
  have h3 : i * s ≤ 7 * s := Int.mul_le_mul_of_nonneg_right (by omega) hs
  omega

set_option maxHeartbeats 2000000 in
theorem slotAt_any (p : Nat) (l : Lay) (off i : Int) (w : World) (hv : validB l = true) (h0 : 0 ≤ i) (h8 : i < 8) (ho : 0 ≤ off) (ho2 : off ≤ 134217728) :
    Calls Tryz.prog 82 #[.agg #[.pointer (some ⟨p, 0, none⟩), .int .i64 l.k, .int .i64 l.e, .int .i64 l.a, .int .i64 l.b, .int .i64 l.c, .int .i64 l.eo, .int .i64 l.bo, .int .i64 l.s, .int .i64 l.g, .int .i64 off], .int .i64 i] w fun e w' => e = .returned (.int .i64 (off + (8 + i * l.s + 0))) ∧ Keeps w w' (fun _ => False) := by
  have hK := fun W => keyAt_any l i W
  rw [place_in hv h0 h8] at hK
  have hvm := valid_more hv
  have hm := mul_bound h0 h8 (s := l.s) (by omega) (by omega)
  obtain ⟨x, hx⟩ : ∃ x, 8 + i * l.s + 0 = x := ⟨_, rfl⟩
  have hx0 : 0 ≤ x := by omega
  have hx1 : x ≤ 3000 := by omega
  rw [hx] at hK ⊢
  have hwr : IntKind.i64.wrap (off + x) = off + x := by rw [IntKind.wrap_i64]; omega
  clear hx hm hvm h0 h8
  go_enter Tryz.func82, Tryz.ntmps82
  go_wp2_with fail
  have S0 : S11 w w.heap.size p l off _ := s11_new (w := w) (p := p) (l := l) (off := off) (t := 109)
  go_region_held3 (fun w' => w'.cell? ⟨w.heap.size, 0, none⟩ = some (.pointer (some ⟨p, 0, none⟩)) ∧ w'.cell? ⟨w.heap.size, 1, none⟩ = some (.int .i64 l.k) ∧ w'.cell? ⟨w.heap.size, 2, none⟩ = some (.int .i64 l.e) ∧ w'.cell? ⟨w.heap.size, 3, none⟩ = some (.int .i64 l.a) ∧ w'.cell? ⟨w.heap.size, 4, none⟩ = some (.int .i64 l.b) ∧ w'.cell? ⟨w.heap.size, 5, none⟩ = some (.int .i64 l.c) ∧ w'.cell? ⟨w.heap.size, 6, none⟩ = some (.int .i64 l.eo) ∧ w'.cell? ⟨w.heap.size, 7, none⟩ = some (.int .i64 l.bo) ∧ w'.cell? ⟨w.heap.size, 8, none⟩ = some (.int .i64 l.s) ∧ w'.cell? ⟨w.heap.size, 9, none⟩ = some (.int .i64 l.g) ∧ w'.cell? ⟨w.heap.size, 10, none⟩ = some (.int .i64 off) ∧ Keeps w w' (fun _ => False)) (first | exact s11_drew S0 | exact s11_drew (s11_alloc S0 _) | exact s11_drew (s11_alloc (s11_alloc S0 _) _) | exact s11_call (by assumption) (by assumption) | exact s11_alloc (by assumption) _)
    (first | (go_at_call 119; refine (hK _).mono ?_; rintro r w1 ⟨rfl, k1⟩; replace k1 := Keeps.ofKp k1))
  all_goals go_wp2_with fail
  all_goals go_ret
  all_goals exact ⟨rfl, s11_k (by assumption)⟩

set_option maxHeartbeats 2000000 in
theorem key_any {w : World} {p : Nat} {F : Nat → Prop} {d : AD} (hA : Arena w p F d) (hF : d.Fine) (l : Lay) (off i : Int) (ht : thereB d l off = true) (h0 : 0 ≤ i) (h8 : i < 8) :
    Calls Tryz.prog 132 #[.agg #[.pointer (some ⟨p, 0, none⟩), .int .i64 l.k, .int .i64 l.e, .int .i64 l.a, .int .i64 l.b, .int .i64 l.c, .int .i64 l.eo, .int .i64 l.bo, .int .i64 l.s, .int .i64 l.g, .int .i64 off], .int .i64 i] w fun e w' => e = .returned (.string (strOf (d.span (off + (8 + i * l.s + 0)) l.k))) ∧ Keeps w w' (fun _ => False) := by
  obtain ⟨hv, hg, ho1, ho2, ho3⟩ := there_more hF ht
  have hvm := valid_more hv
  have hm := mul_bound h0 h8 (s := l.s) (by omega) (by omega)
  obtain ⟨c, hc, hfo⟩ := hA.at
  have hS := fun W => slotAt_any p l off i W hv h0 h8 (by omega) (by omega)
  have hgk := good_sub hg (x := 8 + i * l.s + 0) (m := l.k) (by omega) (by omega) (by omega)
  have hR := fun W (k : Keeps w W (fun _ => False)) => aread_any (hc.keeps k (fun _ _ e => e)) hF (off + (8 + i * l.s + 0)) l.k (fitsI_mk (by omega) (by omega)) (fitsI_mk (by omega) (by omega))
  have hx : readV d (off + (8 + i * l.s + 0)) l.k = (strOf (d.span (off + (8 + i * l.s + 0)) l.k), 0) := if_pos hgk
  simp only [hx] at hR
  generalize strOf (d.span (off + (8 + i * l.s + 0)) l.k) = S at *
  generalize off + (8 + i * l.s + 0) = y at *
  clear hx hgk hm hvm hg hv
  go_enter Tryz.func132, Tryz.ntmps132
  go_wp2_with fail
  have S0 : S11 w w.heap.size p l off _ := s11_new (w := w) (p := p) (l := l) (off := off) (t := 109)
  go_region_held3 (fun w' => w'.cell? ⟨w.heap.size, 0, none⟩ = some (.pointer (some ⟨p, 0, none⟩)) ∧ w'.cell? ⟨w.heap.size, 1, none⟩ = some (.int .i64 l.k) ∧ w'.cell? ⟨w.heap.size, 2, none⟩ = some (.int .i64 l.e) ∧ w'.cell? ⟨w.heap.size, 3, none⟩ = some (.int .i64 l.a) ∧ w'.cell? ⟨w.heap.size, 4, none⟩ = some (.int .i64 l.b) ∧ w'.cell? ⟨w.heap.size, 5, none⟩ = some (.int .i64 l.c) ∧ w'.cell? ⟨w.heap.size, 6, none⟩ = some (.int .i64 l.eo) ∧ w'.cell? ⟨w.heap.size, 7, none⟩ = some (.int .i64 l.bo) ∧ w'.cell? ⟨w.heap.size, 8, none⟩ = some (.int .i64 l.s) ∧ w'.cell? ⟨w.heap.size, 9, none⟩ = some (.int .i64 l.g) ∧ w'.cell? ⟨w.heap.size, 10, none⟩ = some (.int .i64 off) ∧ Keeps w w' (fun _ => False)) (first | exact s11_drew S0 | exact s11_drew (s11_alloc S0 _) | exact s11_drew (s11_alloc (s11_alloc S0 _) _) | exact s11_call (by assumption) (by assumption) | exact s11_alloc (by assumption) _)
    (first | (go_at_call 82; refine (hS _).mono ?_; rintro r w1 ⟨rfl, k1⟩) | (go_at_call 130; refine (hR _ (s11_k (by assumption))).mono ?_; rintro r w2 ⟨rfl, k2⟩))
  all_goals go_wp2_with fail
  all_goals go_ret
  all_goals exact ⟨rfl, s11_k (by assumption)⟩
end Go.Proofs.YtmdnknbolgedgaaGreatDoor
/-
  Cell.
-/
namespace Go.Proofs.YtmdnknbolgedgaaGreatDoor
open Go.RowKit Go.Shelf Ly Ct
set_option linter.unusedVariables false

set_option maxHeartbeats 4000000 in
theorem full_any {w : World} {p : Nat} {F : Nat → Prop} {d : AD} (hA : Arena w p F d) (hF : d.Fine) (l : Lay) (off i tag : Int) (ht : thereB d l off = true) (h0 : 0 ≤ i) (h8 : i < 8) :
    Calls Tryz.prog 99 #[.agg #[.pointer (some ⟨p, 0, none⟩), .int .i64 l.k, .int .i64 l.e, .int .i64 l.a, .int .i64 l.b, .int .i64 l.c, .int .i64 l.eo, .int .i64 l.bo, .int .i64 l.s, .int .i64 l.g, .int .i64 off], .int .i64 i, .int .i64 tag] w fun e w' => e = .returned (GC.val ⟨2, tag, strOf (d.span (off + (8 + i * l.s + 0)) l.k), strOf (d.span (off + (8 + i * l.s + l.eo)) l.e), wrap64 ((numOf (d.span (off + (8 + i * l.s + l.bo)) 8) : Nat) : Int)⟩) ∧ Keeps w w' (fun _ => False) := by
  obtain ⟨hv, hg, ho1, ho2, ho3⟩ := there_more hF ht
  have hvm := valid_more hv
  have hm := mul_bound h0 h8 (s := l.s) (by omega) (by omega)
  obtain ⟨c, hc, hfo⟩ := hA.at
  have hK := fun W (k : Keeps w W (fun _ => False)) => key_any (hA.keeps k (fun _ _ _ e => e)) hF l off i ht h0 h8
  have hE := fun W => elemAt_any l i W
  have hB := fun W => birthAt_any l i W
  rw [place_in hv h0 h8] at hE hB
  have hge := good_sub hg (x := 8 + i * l.s + l.eo) (m := l.e) (by omega) (by omega) (by omega)
  have hgb := good_sub hg (x := 8 + i * l.s + l.bo) (m := 8) (by omega) (by omega) (by omega)
  have hR := fun W (k : Keeps w W (fun _ => False)) => aread_any (hc.keeps k (fun _ _ e => e)) hF (off + (8 + i * l.s + l.eo)) l.e (fitsI_mk (by omega) (by omega)) (fitsI_mk (by omega) (by omega))
  have hL := fun W (k : Keeps w W (fun _ => False)) => aload_any (hc.keeps k (fun _ _ e => e)) hF (off + (8 + i * l.s + l.bo)) 8 (fitsI_mk (by omega) (by omega)) (fitsI_mk (by omega) (by omega))
  have hx : readV d (off + (8 + i * l.s + l.eo)) l.e = (strOf (d.span (off + (8 + i * l.s + l.eo)) l.e), 0) := if_pos hge
  have hy : loadV d (off + (8 + i * l.s + l.bo)) 8 = (((numOf (d.span (off + (8 + i * l.s + l.bo)) 8) : Nat) : Int), 0) := by
    unfold loadV
    rw [hgb]
    rfl
  simp only [hx] at hR
  simp only [hy] at hL
  unfold GC.val
  generalize strOf (d.span (off + (8 + i * l.s + 0)) l.k) = KS at *
  generalize strOf (d.span (off + (8 + i * l.s + l.eo)) l.e) = ES at *
  generalize numOf (d.span (off + (8 + i * l.s + l.bo)) 8) = BN at *
  obtain ⟨ye, hye⟩ : ∃ y, 8 + i * l.s + l.eo = y := ⟨_, rfl⟩
  obtain ⟨yb, hyb⟩ : ∃ y, 8 + i * l.s + l.bo = y := ⟨_, rfl⟩
  have b1 : 0 ≤ ye ∧ ye ≤ 5000 := by omega
  have b2 : 0 ≤ yb ∧ yb ≤ 5000 := by omega
  rw [hye] at hE hR
  rw [hyb] at hB hL
  obtain ⟨b1, b1'⟩ := b1
  obtain ⟨b2, b2'⟩ := b2
  have ho4 : off ≤ 134217728 := by omega
  have v1 : IntKind.i64.wrap (off + ye) = off + ye := by rw [IntKind.wrap_i64]; omega
  have v2 : IntKind.i64.wrap (off + yb) = off + yb := by rw [IntKind.wrap_i64]; omega
  clear hx hy hge hgb hm hg hv hye hyb ht hA h0 h8 hvm ho3 ho2
  go_enter Tryz.func99, Tryz.ntmps99
  go_wp2_with fail
  refine alloc2 (P := fun W => Code.wp _ _ _ _ W) fun W0 hb hr hz K0 => ?_
  have S0 : S11 W0 w.heap.size p l off W0 := s11_of hb (Keeps.refl _ _)
  go_region_held3 (fun w' => w'.cell? ⟨w.heap.size, 0, none⟩ = some (.pointer (some ⟨p, 0, none⟩)) ∧ w'.cell? ⟨w.heap.size, 1, none⟩ = some (.int .i64 l.k) ∧ w'.cell? ⟨w.heap.size, 2, none⟩ = some (.int .i64 l.e) ∧ w'.cell? ⟨w.heap.size, 3, none⟩ = some (.int .i64 l.a) ∧ w'.cell? ⟨w.heap.size, 4, none⟩ = some (.int .i64 l.b) ∧ w'.cell? ⟨w.heap.size, 5, none⟩ = some (.int .i64 l.c) ∧ w'.cell? ⟨w.heap.size, 6, none⟩ = some (.int .i64 l.eo) ∧ w'.cell? ⟨w.heap.size, 7, none⟩ = some (.int .i64 l.bo) ∧ w'.cell? ⟨w.heap.size, 8, none⟩ = some (.int .i64 l.s) ∧ w'.cell? ⟨w.heap.size, 9, none⟩ = some (.int .i64 l.g) ∧ w'.cell? ⟨w.heap.size, 10, none⟩ = some (.int .i64 off) ∧ Keeps W0 w' (fun _ => False)) (first | exact s11_drew S0 | exact s11_drew (s11_alloc S0 _) | exact s11_drew (s11_alloc (s11_alloc S0 _) _) | exact s11_call (by assumption) (by assumption) | exact s11_alloc (by assumption) _)
    (first | (go_at_call 80; refine (hE _).mono ?_; rintro r w1 ⟨rfl, k1⟩; replace k1 := Keeps.ofKp k1) | (go_at_call 130; (try rw [v1]); refine (hR _ (K0.trans (s11_k (by assumption)) (fun _ _ e => e))).mono ?_; rintro r w2 ⟨rfl, k2⟩))
  have S1 : S11 W0 w.heap.size p l off w2 := by assumption
  go_wp2_with fail
  go_region_held3 (fun w' => w'.cell? ⟨w.heap.size, 0, none⟩ = some (.pointer (some ⟨p, 0, none⟩)) ∧ w'.cell? ⟨w.heap.size, 1, none⟩ = some (.int .i64 l.k) ∧ w'.cell? ⟨w.heap.size, 2, none⟩ = some (.int .i64 l.e) ∧ w'.cell? ⟨w.heap.size, 3, none⟩ = some (.int .i64 l.a) ∧ w'.cell? ⟨w.heap.size, 4, none⟩ = some (.int .i64 l.b) ∧ w'.cell? ⟨w.heap.size, 5, none⟩ = some (.int .i64 l.c) ∧ w'.cell? ⟨w.heap.size, 6, none⟩ = some (.int .i64 l.eo) ∧ w'.cell? ⟨w.heap.size, 7, none⟩ = some (.int .i64 l.bo) ∧ w'.cell? ⟨w.heap.size, 8, none⟩ = some (.int .i64 l.s) ∧ w'.cell? ⟨w.heap.size, 9, none⟩ = some (.int .i64 l.g) ∧ w'.cell? ⟨w.heap.size, 10, none⟩ = some (.int .i64 off) ∧ Keeps W0 w' (fun _ => False)) (first | exact s11_drew S1 | exact s11_drew (s11_alloc S1 _) | exact s11_drew (s11_alloc (s11_alloc S1 _) _) | exact s11_call (by assumption) (by assumption) | exact s11_alloc (by assumption) _)
    (first | (go_at_call 131; refine (hB _).mono ?_; rintro r w3 ⟨rfl, k3⟩; replace k3 := Keeps.ofKp k3) | (go_at_call 24; refine (hL _ (K0.trans (s11_k (by assumption)) (fun _ _ e => e))).mono ?_; rintro r w4 ⟨rfl, k4⟩))
  have S2 : S11 W0 w.heap.size p l off w4 := by assumption
  go_wp2_with fail
  refine (hK _ (K0.trans (s11_k S2) (fun _ _ e => e))).mono ?_
  rintro r w5 ⟨rfl, k5⟩
  have K5 := s11_k (s11_call k5 S2)
  have hr5 := K5.blk hr
  have K6 : Keeps w w5 (fun _ => False) := K0.trans K5 (fun _ _ e => e)
  obtain ⟨d0, d1, d2, d3, d4, f0, f1, f2, f3, f4⟩ := five_cells hr5
  go_wp2_with fail
  refine five_set hr5 K6 (fun h => by omega) (P := fun w9 => bodyPost _ _ _ _ _ w9) fun w9 h9 k9 _ => ?_
  obtain ⟨e0, e1, e2, e3, e4, -⟩ := five_cells h9
  exact bodyPost_ret (v := .agg #[.int .i64 2, .int .i64 tag, .string KS, .string ES, .int .i64 (wrap64 (BN : Int))]) (by simp [results, Tryz.results99, go_sem, e0, e1, e2, e3, e4]) rfl ⟨rfl, k9⟩
end Go.Proofs.YtmdnknbolgedgaaGreatDoor
/-
  Cell.
-/
namespace Go.Proofs.YtmdnknbolgedgaaGreatDoor
open Go.RowKit Go.Shelf Ly Ct
set_option linter.unusedVariables false

def CellPost (w : World) (c : GC) (x : Int) (e : Ending) (w' : World) : Prop := e = .returned (.tuple #[c.val, .int .i64 x]) ∧ Keeps w w' (fun _ => False)
theorem wordN_lt {d : AD} {off : Int} : wordN d off < 18446744073709551616 := by
  have h := numOf_lt (d.span off 8)
  have hl : (d.span off 8).length ≤ 8 := by
    unfold AD.span
    rw [List.length_take]
    exact Nat.min_le_left _ _
  have : 256 ^ (d.span off 8).length ≤ 256 ^ 8 := Nat.pow_le_pow_right (by decide) hl
  unfold wordN
  omega

set_option maxHeartbeats 4000000 in
theorem cell_any {w : World} {p : Nat} {F : Nat → Prop} {d : AD} (hA : Arena w p F d) (hF : d.Fine) (l : Lay) (off i : Int) (ho : fitsI off) (hn : fitsI l.g) :
    Calls Tryz.prog 62 #[.agg #[.pointer (some ⟨p, 0, none⟩), .int .i64 l.k, .int .i64 l.e, .int .i64 l.a, .int .i64 l.b, .int .i64 l.c, .int .i64 l.eo, .int .i64 l.bo, .int .i64 l.s, .int .i64 l.g, .int .i64 off], .int .i64 i] w fun e w' => CellPost w (cellV d l off i).1 (cellV d l off i).2 e w' := by
  have hI := fun W => gslot_any i W
  by_cases hi : 0 ≤ i ∧ i < 8
  · rw [decide_eq_true hi] at hI
    have hW := fun V (k : Keeps w V (fun _ => False)) => word_any (hA.keeps k (fun _ _ _ e => e)) hF l off ho hn
    unfold wordV at hW
    unfold cellV
    rw [if_pos hi]
    cases ht : thereB d l off
    · simp only [ht, Bool.false_eq_true, if_false] at hW
      simp only [Bool.false_eq_true, if_false]
      go_enter Tryz.func62, Tryz.ntmps62
      go_wp2_with fail
      refine (hI _).mono ?_
      rintro r w1 ⟨rfl, rfl⟩
      go_wp2_with fail
      refine alloc2 (P := fun W => Calls _ _ _ W _) fun W0 hb hr hz K0 => ?_
      refine (hW _ K0).mono ?_
      rintro r w2 ⟨rfl, k2⟩
      have hr2 := k2.blk hr
      have K2 : Keeps w w2 (fun _ => False) := K0.trans k2 (fun _ _ e => e)
      obtain ⟨d0, d1, d2, d3, d4, f0, f1, f2, f3, f4⟩ := five_cells hr2
      go_wp2_with fail
      refine five_set hr2 K2 (fun h => by omega) (P := fun w9 => bodyPost _ _ _ _ _ w9) fun w9 h9 k9 _ => ?_
      obtain ⟨e0, e1, e2, e3, e4, -⟩ := five_cells h9
      exact bodyPost_ret (v := .tuple #[GC.zero.val, .int .i64 24]) (by simp [results, Tryz.results62, go_sem, e0, e1, e2, e3, e4, GC.val, GC.zero]; try rfl) rfl ⟨rfl, k9⟩
    · simp only [ht, if_true] at hW
      simp only [if_true]
      obtain ⟨n, rfl⟩ := Int.eq_ofNat_of_zero_le hi.1
      have hn8 : n < 8 := by omega
      have hG := fun V => get_in (wordN d off) n wordN_lt hn8 V
      have hU := fun V (k : Keeps w V (fun _ => False)) tag => full_any (hA.keeps k (fun _ _ _ e => e)) hF l off (n : Int) tag ht hi.1 hi.2
      have hTg := fun V => gtag_any ((byN (wordN d off) n : Nat) : Int) V
      unfold atC
      rw [Int.toNat_natCast]
      generalize strOf (d.span (off + (8 + (n : Int) * l.s + 0)) l.k) = KS at *
      generalize strOf (d.span (off + (8 + (n : Int) * l.s + l.eo)) l.e) = ES at *
      generalize numOf (d.span (off + (8 + (n : Int) * l.s + l.bo)) 8) = BN at *
      generalize byN (wordN d off) n = bb at *
      generalize wordN d off = WW at *
      have hb0 : (0 : Int) ≤ (bb : Int) := by omega
      by_cases h1 : bb < 128
      · rw [decide_eq_true (show (0 : Int) ≤ (bb : Int) ∧ (bb : Int) ≤ 127 by omega)] at hTg
        rw [if_pos h1]
        go_enter Tryz.func62, Tryz.ntmps62
        go_wp2_with fail
        refine (hI _).mono ?_
        rintro r w1 ⟨rfl, rfl⟩
        go_wp2_with fail
        refine alloc2 (P := fun W => Calls _ _ _ W _) fun W0 hb hr hz K0 => ?_
        refine (hW _ K0).mono ?_
        rintro r w2 ⟨rfl, k2⟩
        have hr2 := k2.blk hr
        have S2 := s11_of (k2.blk hb) k2
        have K2 : Keeps w w2 (fun _ => False) := K0.trans k2 (fun _ _ e => e)
        obtain ⟨c0, c1, c2, c3, c4, c5, c6, c7, c8, c9, c10, -⟩ := S2
        clear hW hI
        go_wp2_with fail
        refine (hG _).mono ?_
        rintro r w3 ⟨rfl, rfl⟩
        go_wp2_with fail
        refine (hTg _).mono ?_
        rintro r w3 ⟨rfl, rfl⟩
        go_wp2_with fail
        refine (hU _ K2 _).mono ?_
        rintro r w4 ⟨rfl, k4⟩
        have hr4 := k4.blk hr2
        have K4 : Keeps w w4 (fun _ => False) := K2.trans k4 (fun _ _ e => e)
        obtain ⟨d0, d1, d2, d3, d4, f0, f1, f2, f3, f4⟩ := five_cells hr4
        clear c0 c1 c2 c3 c4 c5 c6 c7 c8 c9 c10
        unfold GC.val
        go_wp2_with fail
        refine five_set hr4 K4 (fun h => by omega) (P := fun w9 => bodyPost _ _ _ _ _ w9) fun w9 h9 k9 _ => ?_
        obtain ⟨e0, e1, e2, e3, e4, -⟩ := five_cells h9
        exact bodyPost_ret (v := .tuple #[.agg #[.int .i64 2, .int .i64 (bb : Int), .string KS, .string ES, .int .i64 (wrap64 (BN : Int))], .int .i64 0]) (by simp [results, Tryz.results62, go_sem, e0, e1, e2, e3, e4]) rfl ⟨rfl, k9⟩
      · rw [decide_eq_false (show ¬ ((0 : Int) ≤ (bb : Int) ∧ (bb : Int) ≤ 127) by omega)] at hTg
        rw [if_neg h1]
        clear hU
        by_cases h2 : bb = 254
        · subst h2
          rw [if_pos rfl]
          go_enter Tryz.func62, Tryz.ntmps62
          go_wp2_with fail
          refine (hI _).mono ?_
          rintro r w1 ⟨rfl, rfl⟩
          go_wp2_with fail
          refine alloc2 (P := fun W => Calls _ _ _ W _) fun W0 hb hr hz K0 => ?_
          refine (hW _ K0).mono ?_
          rintro r w2 ⟨rfl, k2⟩
          have hr2 := k2.blk hr
          have K2 : Keeps w w2 (fun _ => False) := K0.trans k2 (fun _ _ e => e)
          clear hW hI
          go_wp2_with fail
          refine (hG _).mono ?_
          rintro r w3 ⟨rfl, rfl⟩
          go_wp2_with fail
          refine (hTg _).mono ?_
          rintro r w3 ⟨rfl, rfl⟩
          obtain ⟨d0, d1, d2, d3, d4, f0, f1, f2, f3, f4⟩ := five_cells hr2
          go_wp2_with fail
          refine five_set hr2 K2 (fun h => by omega) (P := fun w9 => bodyPost _ _ _ _ _ w9) fun w9 h9 k9 _ => ?_
          obtain ⟨e0, e1, e2, e3, e4, -⟩ := five_cells h9
          exact bodyPost_ret (v := .tuple #[GC.gone.val, .int .i64 0]) (by simp [results, Tryz.results62, go_sem, e0, e1, e2, e3, e4, GC.val, GC.gone]; try rfl) rfl ⟨rfl, k9⟩
        · rw [if_neg h2]
          have h2' : ((bb : Int) == 254) = false := by
            simp only [beq_eq_false_iff_ne]
            omega
          go_enter Tryz.func62, Tryz.ntmps62
          go_wp2_with fail
          refine (hI _).mono ?_
          rintro r w1 ⟨rfl, rfl⟩
          go_wp2_with fail
          refine alloc2 (P := fun W => Calls _ _ _ W _) fun W0 hb hr hz K0 => ?_
          refine (hW _ K0).mono ?_
          rintro r w2 ⟨rfl, k2⟩
          have hr2 := k2.blk hr
          have K2 : Keeps w w2 (fun _ => False) := K0.trans k2 (fun _ _ e => e)
          clear hW hI
          go_wp2_with fail
          refine (hG _).mono ?_
          rintro r w3 ⟨rfl, rfl⟩
          go_wp2_with fail
          refine (hTg _).mono ?_
          rintro r w3 ⟨rfl, rfl⟩
          obtain ⟨d0, d1, d2, d3, d4, f0, f1, f2, f3, f4⟩ := five_cells hr2
          go_wp2_with fail
          refine five_set hr2 K2 (fun h => by omega) (P := fun w9 => bodyPost _ _ _ _ _ w9) fun w9 h9 k9 _ => ?_
          obtain ⟨e0, e1, e2, e3, e4, -⟩ := five_cells h9
          exact bodyPost_ret (v := .tuple #[GC.zero.val, .int .i64 0]) (by simp [results, Tryz.results62, go_sem, e0, e1, e2, e3, e4, GC.val, GC.zero]; try rfl) rfl ⟨rfl, k9⟩
  · rw [decide_eq_false hi] at hI
    have hc : cellV d l off i = (GC.zero, 60) := if_neg hi
    rw [hc]
    go_enter Tryz.func62, Tryz.ntmps62
    go_wp2_with fail
    refine (hI _).mono ?_
    rintro r w1 ⟨rfl, rfl⟩
    go_wp2_with fail
    refine alloc2 (P := fun W => bodyPost _ _ _ _ _ W) fun W0 hb hr hz K0 => ?_
    obtain ⟨e0, e1, e2, e3, e4, -⟩ := five_cells hr
    exact bodyPost_ret (v := .tuple #[GC.zero.val, .int .i64 60]) (by simp [results, Tryz.results62, go_sem, e0, e1, e2, e3, e4, GC.val, GC.zero]; try rfl) rfl ⟨rfl, K0⟩
end Go.Proofs.YtmdnknbolgedgaaGreatDoor
namespace Go.Proofs
open Go.Shelf
def Tryz.lays105_ren : Go.Shelf.Ren := ⟨fun | 105 => 120 | 212 => 145 | 99 => 146 | 165 => 142 | 166 => 143 | 170 => 147 | 169 => 144 | 263 => 160 | 264 => 161 | 206 => 162 | 240 => 158 | 241 => 159 | 276 => 165 | 277 => 166 | n => n, fun | 9 => 9 | 3 => 3 | 4 => 4 | 20 => 20 | 0 => 0 | 46 => 107 | 109 => 198 | 5 => 5 | 72 => 191 | 76 => 195 | 51 => 210 | 146 => 211 | 53 => 23 | 148 => 213 | 70 => 189 | 37 => 106 | 75 => 194 | 127 => 209 | 164 => 216 | 80 => 197 | n => n, fun | n => n⟩
theorem Tryz.lays105 : Go.Proofs.Lays.n105 Tryz.prog Tryz.lays105_ren := {
  mixed := by kernel_rfl
  f99 := Tryz.func146.trans (congrArg some (by kernel_rfl))
  f105 := Tryz.func120.trans (congrArg some (by kernel_rfl))
  f165 := Tryz.func142.trans (congrArg some (by kernel_rfl))
  f166 := Tryz.func143.trans (congrArg some (by kernel_rfl))
  f169 := Tryz.func144.trans (congrArg some (by kernel_rfl))
  f170 := Tryz.func147.trans (congrArg some (by kernel_rfl))
  f206 := Tryz.func162.trans (congrArg some (by kernel_rfl))
  f212 := Tryz.func145.trans (congrArg some (by kernel_rfl))
  f240 := Tryz.func158.trans (congrArg some (by kernel_rfl))
  f241 := Tryz.func159.trans (congrArg some (by kernel_rfl))
  f263 := Tryz.func160.trans (congrArg some (by kernel_rfl))
  f264 := Tryz.func161.trans (congrArg some (by kernel_rfl))
  f276 := Tryz.func165.trans (congrArg some (by kernel_rfl))
  f277 := Tryz.func166.trans (congrArg some (by kernel_rfl))
  t0 := Tryz.underlying0
  a0 := Tryz.isAgg0
  z0 := Tryz.sizeOf0
  v0 := Tryz.zeroValue0
  t3 := Tryz.underlying3
  a3 := Tryz.isAgg3
  z3 := Tryz.sizeOf3
  v3 := Tryz.zeroValue3
  t4 := Tryz.underlying4
  a4 := Tryz.isAgg4
  z4 := Tryz.sizeOf4
  v4 := Tryz.zeroValue4
  t5 := Tryz.underlying5
  a5 := Tryz.isAgg5
  z5 := Tryz.sizeOf5
  v5 := Tryz.zeroValue5
  t9 := Tryz.underlying9
  a9 := Tryz.isAgg9
  z9 := Tryz.sizeOf9
  v9 := Tryz.zeroValue9
  t20 := Tryz.underlying20
  a20 := Tryz.isAgg20
  z20 := Tryz.sizeOf20
  v20 := Tryz.zeroValue20
  t37 := Tryz.underlying106
  a37 := Tryz.isAgg106
  z37 := Tryz.sizeOf106
  v37 := Tryz.zeroValue106
  t46 := Tryz.underlying107
  a46 := Tryz.isAgg107
  z46 := Tryz.sizeOf107
  v46 := Tryz.zeroValue107
  t51 := Tryz.underlying210
  a51 := Tryz.isAgg210
  z51 := Tryz.sizeOf210
  v51 := Tryz.zeroValue210
  t53 := Tryz.underlying23
  a53 := Tryz.isAgg23
  z53 := Tryz.sizeOf23
  v53 := Tryz.zeroValue23
  t70 := Tryz.underlying189
  a70 := Tryz.isAgg189
  z70 := Tryz.sizeOf189
  v70 := Tryz.zeroValue189
  t72 := Tryz.underlying191
  a72 := Tryz.isAgg191
  z72 := Tryz.sizeOf191
  v72 := Tryz.zeroValue191
  t75 := Tryz.underlying194
  a75 := Tryz.isAgg194
  z75 := Tryz.sizeOf194
  v75 := Tryz.zeroValue194
  t76 := Tryz.underlying195
  a76 := Tryz.isAgg195
  z76 := Tryz.sizeOf195
  v76 := Tryz.zeroValue195
  t109 := Tryz.underlying198
  a109 := Tryz.isAgg198
  z109 := Tryz.sizeOf198
  v109 := Tryz.zeroValue198
  t127 := Tryz.underlying209
  a127 := Tryz.isAgg209
  z127 := Tryz.sizeOf209
  v127 := Tryz.zeroValue209
  t146 := Tryz.underlying211
  a146 := Tryz.isAgg211
  z146 := Tryz.sizeOf211
  v146 := Tryz.zeroValue211
  t148 := Tryz.underlying213
  a148 := Tryz.isAgg213
  z148 := Tryz.sizeOf213
  v148 := Tryz.zeroValue213
  t164 := Tryz.underlying216
  a164 := Tryz.isAgg216
  z164 := Tryz.sizeOf216
  v164 := Tryz.zeroValue216 }
theorem Tryz.Builder_Extra_105 : Builder.Extra Tryz.prog Tryz.lays105_ren := {
  sizeBuilder := by kernel_rfl
  liesBuilder := by kernel_rfl
  t5 := Tryz.underlying5
  a5 := Tryz.isAgg5
  z5 := Tryz.sizeOf5
  v5 := Tryz.zeroValue5
  infoByte := by kernel_rfl
  cellsByte := by kernel_rfl
  sizeByte := by kernel_rfl
  neB5 := by decide }
open Go.RowKit Go.Lib in
theorem Tryz.strings_Repeat_main (s : ByteArray) (c : Nat) (w : World) (hc2 : 2 ≤ c) (hc : c ≤ 9223372036854775807) (hlen : s.size * c ≤ 140737488355328) (h0 : 0 < s.size) :
    Calls Tryz.prog 120 #[.string s, .int .i64 c] w fun e w' => e = .returned (.string ⟨(Lib.repeatL s.data.toList c).toArray⟩) ∧ Below w.heap.size w w' := Any.strings_Repeat_main Tryz.lays105 Tryz.Builder_Extra_105 s c w hc2 hc hlen h0
open Go.RowKit Go.Lib in
theorem Tryz.strings_Repeat_zero (s : ByteArray) (w : World) :
    Calls Tryz.prog 120 #[.string s, .int .i64 0] w fun e w' => e = .returned (.string ⟨#[]⟩) ∧ w' = w := Any.strings_Repeat_zero Tryz.lays105 s w
open Go.RowKit Go.Lib in
theorem Tryz.strings_Repeat_one (s : ByteArray) (w : World) :
    Calls Tryz.prog 120 #[.string s, .int .i64 1] w fun e w' => e = .returned (.string s) ∧ w' = w := Any.strings_Repeat_one Tryz.lays105 s w
open Go.RowKit Go.Lib in
theorem Tryz.strings_Repeat_empty (s : ByteArray) (c : Nat) (w : World) (hc2 : 2 ≤ c) (hc : c ≤ 9223372036854775807) (h0 : s.size = 0) :
    Calls Tryz.prog 120 #[.string s, .int .i64 c] w fun e w' => e = .returned (.string ⟨#[]⟩) ∧ w' = w := Any.strings_Repeat_empty Tryz.lays105 s c w hc2 hc h0
open Go.RowKit Go.Lib in
theorem Tryz.strings_Repeat_negative (s : ByteArray) (c : Int) (w : World) (hc : c < 0) :
    Calls Tryz.prog 120 #[.string s, .int .i64 c] w fun e w' => e = .panicked [{ v := repeatPanic Tryz.lays105_ren "strings: negative Repeat count", recovered := false }] ∧ w' = w := Any.strings_Repeat_negative Tryz.lays105 s c w hc
open Go.RowKit Go.Lib in
theorem Tryz.strings_Repeat_overflow (s : ByteArray) (c : Nat) (w : World) (hc : c ≤ 9223372036854775807) (hs : s.size ≤ 9223372036854775807) (hbig : 9223372036854775807 < s.size * c) :
    Calls Tryz.prog 120 #[.string s, .int .i64 c] w fun e w' => e = .panicked [{ v := repeatPanic Tryz.lays105_ren "strings: Repeat output length overflow", recovered := false }] ∧ w' = w := Any.strings_Repeat_overflow Tryz.lays105 s c w hc hs hbig
open Go.RowKit Go.Lib in
theorem Tryz.strings_Repeat (s : ByteArray) (c : Nat) (w : World) (hc : c ≤ 9223372036854775807) (hlen : s.size * c ≤ 140737488355328) :
    Calls Tryz.prog 120 #[.string s, .int .i64 c] w fun e w' => e = .returned (.string ⟨(Lib.repeatL s.data.toList c).toArray⟩) ∧ Below w.heap.size w w' := Any.strings_Repeat Tryz.lays105 Tryz.Builder_Extra_105 s c w hc hlen
end Go.Proofs
namespace Go.Proofs
open Go.Shelf
def Tryz.lays156_ren : Go.Shelf.Ren := ⟨fun | 156 => 117 | 165 => 142 | 166 => 143 | 169 => 144 | 240 => 158 | 241 => 159 | 276 => 165 | 277 => 166 | n => n, fun | 31 => 170 | 9 => 9 | 3 => 3 | 4 => 4 | 0 => 0 | 20 => 20 | 72 => 191 | 76 => 195 | 70 => 189 | 37 => 106 | 75 => 194 | 127 => 209 | 164 => 216 | 5 => 5 | 80 => 197 | n => n, fun | n => n⟩
theorem Tryz.lays156 : Go.Proofs.Lays.n156 Tryz.prog Tryz.lays156_ren := {
  mixed := by kernel_rfl
  f156 := Tryz.func117.trans (congrArg some (by kernel_rfl))
  f165 := Tryz.func142.trans (congrArg some (by kernel_rfl))
  f166 := Tryz.func143.trans (congrArg some (by kernel_rfl))
  f169 := Tryz.func144.trans (congrArg some (by kernel_rfl))
  f240 := Tryz.func158.trans (congrArg some (by kernel_rfl))
  f241 := Tryz.func159.trans (congrArg some (by kernel_rfl))
  f276 := Tryz.func165.trans (congrArg some (by kernel_rfl))
  f277 := Tryz.func166.trans (congrArg some (by kernel_rfl))
  t0 := Tryz.underlying0
  a0 := Tryz.isAgg0
  z0 := Tryz.sizeOf0
  v0 := Tryz.zeroValue0
  t3 := Tryz.underlying3
  a3 := Tryz.isAgg3
  z3 := Tryz.sizeOf3
  v3 := Tryz.zeroValue3
  t4 := Tryz.underlying4
  a4 := Tryz.isAgg4
  z4 := Tryz.sizeOf4
  v4 := Tryz.zeroValue4
  t9 := Tryz.underlying9
  a9 := Tryz.isAgg9
  z9 := Tryz.sizeOf9
  v9 := Tryz.zeroValue9
  t20 := Tryz.underlying20
  a20 := Tryz.isAgg20
  z20 := Tryz.sizeOf20
  v20 := Tryz.zeroValue20
  t31 := Tryz.underlying170
  a31 := Tryz.isAgg170
  z31 := Tryz.sizeOf170
  v31 := Tryz.zeroValue170
  t37 := Tryz.underlying106
  a37 := Tryz.isAgg106
  z37 := Tryz.sizeOf106
  v37 := Tryz.zeroValue106
  t70 := Tryz.underlying189
  a70 := Tryz.isAgg189
  z70 := Tryz.sizeOf189
  v70 := Tryz.zeroValue189
  t72 := Tryz.underlying191
  a72 := Tryz.isAgg191
  z72 := Tryz.sizeOf191
  v72 := Tryz.zeroValue191
  t75 := Tryz.underlying194
  a75 := Tryz.isAgg194
  z75 := Tryz.sizeOf194
  v75 := Tryz.zeroValue194
  t76 := Tryz.underlying195
  a76 := Tryz.isAgg195
  z76 := Tryz.sizeOf195
  v76 := Tryz.zeroValue195
  t127 := Tryz.underlying209
  a127 := Tryz.isAgg209
  z127 := Tryz.sizeOf209
  v127 := Tryz.zeroValue209
  t164 := Tryz.underlying216
  a164 := Tryz.isAgg216
  z164 := Tryz.sizeOf216
  v164 := Tryz.zeroValue216 }
theorem Tryz.Builder_Extra_156 : Builder.Extra Tryz.prog Tryz.lays156_ren := {
  sizeBuilder := by kernel_rfl
  liesBuilder := by kernel_rfl
  t5 := Tryz.underlying5
  a5 := Tryz.isAgg5
  z5 := Tryz.sizeOf5
  v5 := Tryz.zeroValue5
  infoByte := by kernel_rfl
  cellsByte := by kernel_rfl
  sizeByte := by kernel_rfl
  neB5 := by decide }
open Go.RowKit in
theorem Tryz.strings_Join_none (a : Option Addr) (c : Nat) (sep : ByteArray) (w : World) :
    Calls Tryz.prog 117 #[.slice a 0 c, .string sep] w fun e w' => e = .returned (.string ⟨#[]⟩) ∧ w' = w := Any.strings_Join_none Tryz.lays156 Tryz.Builder_Extra_156 a c sep w
open Go.RowKit in
theorem Tryz.strings_Join (bk o c : Nat) (xs : List ByteArray) (sep : ByteArray) (w : World) (hcells : ∀ (j : Nat) x, xs[j]? = some x → w.cell? ⟨bk, o + j, none⟩ = some (.string x)) (hbk : bk < w.heap.size) (hN : xs.length ≤ 140737488355328) (hcap : xs.length ≤ c) (hlen : (Lib.join (xs.map (·.data.toList)) sep.data.toList).length ≤ 140737488355328) :
    Calls Tryz.prog 117 #[.slice (some ⟨bk, o, none⟩) xs.length c, .string sep] w fun e w' => e = .returned (.string ⟨(Lib.join (xs.map (·.data.toList)) sep.data.toList).toArray⟩) ∧ Below w.heap.size w w' := Any.strings_Join Tryz.lays156 Tryz.Builder_Extra_156 bk o c xs sep w hcells hbk hN hcap hlen
end Go.Proofs
namespace Go.Proofs.YtmdnknbolgedgaaGreatDoor
open Go.RowKit Go.Shelf

theorem Keeps.ofBelow {w w' : World} (h : Below w.heap.size w w') : Keeps w w' (fun _ => False) := ⟨h.os, h.tape, h.output, h.size, fun k hk _ => h.block k hk⟩
theorem joinOK : JoinOK := by
  intro a c ts w h hc hn hl
  have e0 : ByteArray.empty.data.toList = [] := rfl
  rcases h.two with rfl | ⟨b, o, rfl, hb, _, hcell⟩
  · refine (Tryz.strings_Join_none a c ByteArray.empty w).mono ?_
    rintro e w' ⟨rfl, rfl⟩
    exact ⟨rfl, Keeps.refl _ _⟩
  · refine (Tryz.strings_Join b o c ts ByteArray.empty w (fun j x hj => ?_) hb hn hc ?_).mono ?_
    · obtain ⟨hj', e⟩ := List.getElem?_eq_some_iff.1 hj
      rw [hcell j hj', e]
    · rw [e0]
      have := joined_length ts
      unfold joined at this
      omega
    · rintro e w' ⟨rfl, hbel⟩
      exact ⟨rfl, Keeps.ofBelow hbel⟩
end Go.Proofs.YtmdnknbolgedgaaGreatDoor
/-
  The calls of group that write: zeros, birthBytes, Reset, Erase.
-/
namespace Go.Proofs.YtmdnknbolgedgaaGreatDoor
open Go.RowKit Go.Shelf Ly Ct
set_option linter.unusedVariables false

abbrev C11 (b p : Nat) (l : Lay) (off : Int) (W : World) : Prop := W.cell? ⟨b, 0, none⟩ = some (.pointer (some ⟨p, 0, none⟩)) ∧ W.cell? ⟨b, 1, none⟩ = some (.int .i64 l.k) ∧ W.cell? ⟨b, 2, none⟩ = some (.int .i64 l.e) ∧ W.cell? ⟨b, 3, none⟩ = some (.int .i64 l.a) ∧ W.cell? ⟨b, 4, none⟩ = some (.int .i64 l.b) ∧ W.cell? ⟨b, 5, none⟩ = some (.int .i64 l.c) ∧ W.cell? ⟨b, 6, none⟩ = some (.int .i64 l.eo) ∧ W.cell? ⟨b, 7, none⟩ = some (.int .i64 l.bo) ∧ W.cell? ⟨b, 8, none⟩ = some (.int .i64 l.s) ∧ W.cell? ⟨b, 9, none⟩ = some (.int .i64 l.g) ∧ W.cell? ⟨b, 10, none⟩ = some (.int .i64 off)
theorem c11_of {W : World} {b p : Nat} {l : Lay} {off : Int} {t : TypeId} (h : W.heap[b]? = some (.cells #[.pointer (some ⟨p, 0, none⟩), .int .i64 l.k, .int .i64 l.e, .int .i64 l.a, .int .i64 l.b, .int .i64 l.c, .int .i64 l.eo, .int .i64 l.bo, .int .i64 l.s, .int .i64 l.g, .int .i64 off] t)) : C11 b p l off W := grp_cells h
theorem c11_keeps {W W1 : World} {b p : Nat} {l : Lay} {off : Int} {S : Nat → Prop} (k : Keeps W W1 S) (hS : ¬ S b) (h : C11 b p l off W) : C11 b p l off W1 := by
  obtain ⟨c0, c1, c2, c3, c4, c5, c6, c7, c8, c9, c10⟩ := h
  have hc : ∀ j v, W.cell? ⟨b, j, none⟩ = some v → W1.cell? ⟨b, j, none⟩ = some v := fun j v q => by
    have : b < W.heap.size := by
      refine Nat.lt_of_not_le fun hn => ?_
      rw [World.cell?, Array.getElem?_eq_none hn] at q
      cases q
    exact (World.cell?_of_block (w := W) (a := ⟨b, j, none⟩) (k.block b this hS)).trans q
  exact ⟨hc _ _ c0, hc _ _ c1, hc _ _ c2, hc _ _ c3, hc _ _ c4, hc _ _ c5, hc _ _ c6, hc _ _ c7, hc _ _ c8, hc _ _ c9, hc _ _ c10⟩
theorem c11_drew {W : World} {b p : Nat} {l : Lay} {off : Int} (h : C11 b p l off W) : C11 b p l off W.drew := c11_keeps (Keeps.refl W (fun _ => False)).drew id h

theorem repeat_zero (n : Nat) : (Lib.repeatL [0] n) = zeros n := by
  induction n with
  | zero => rfl
  | succ n ih =>
    show [0] ++ Lib.repeatL [0] n = zeros (n + 1)
    rw [ih]
    rfl
theorem le_mix (b k : Nat) (h : k < 8) : (rowOf (leBytes b k ++ zeros (8 - k))).setIfInBounds k (.int .u8 ((lowB b k).toNat : Int)) = rowOf (leBytes b (k + 1) ++ zeros (8 - (k + 1))) := by
  apply Array.ext'
  obtain ⟨m, hm⟩ : ∃ m, 8 - k = m + 1 := ⟨8 - k - 1, by omega⟩
  have hm' : 8 - (k + 1) = m := by omega
  rw [Array.toList_setIfInBounds, rowOf_toList, rowOf_toList, hm, hm']
  have e1 : cellsOf (leBytes b k ++ zeros (m + 1)) = cellsOf (leBytes b k) ++ (.int .u8 0 :: cellsOf (zeros m)) := by
    rw [cellsOf_append]
    rfl
  have e2 : cellsOf (leBytes b (k + 1) ++ zeros m) = cellsOf (leBytes b k) ++ (.int .u8 ((lowB b k).toNat : Int) :: cellsOf (zeros m)) := by
    rw [← leBytes_succ, List.append_assoc, cellsOf_append]
    rfl
  have hl : (cellsOf (leBytes b k)).length = k := by rw [cellsOf_length, leBytes_length]
  rw [e1, e2, List.set_append_right _ _ (by omega), hl, Nat.sub_self]
  rfl
set_option maxHeartbeats 1000000 in
theorem gzeros_any (n : Nat) (w : World) (hn : n ≤ 100000) : Calls Tryz.prog 83 #[.int .i64 (n : Int)] w fun e w' => e = .returned (.string (strOf (zeros n))) ∧ Keeps w w' (fun _ => False) := by
  have hR := fun W => Tryz.strings_Repeat ⟨#[0]⟩ n W (by omega) (by show 1 * n ≤ _; omega)
  have e1 : (⟨(Lib.repeatL (ByteArray.mk #[0]).data.toList n).toArray⟩ : ByteArray) = strOf (zeros n) := by
    show ByteArray.mk (Lib.repeatL [0] n).toArray = _
    rw [repeat_zero]
    rfl
  rw [e1] at hR
  go_enter Tryz.func83, Tryz.ntmps83
  go_wp2_with fail
  refine (hR _).mono ?_
  rintro r w1 ⟨rfl, k1⟩
  go_wp2_with fail
  go_ret
  exact ⟨rfl, Keeps.ofKp k1⟩

set_option maxHeartbeats 1000000 in
theorem birthBytes_any (b : Nat) (w : World) (hb : b ≤ 9223372036854775807) : Calls Tryz.prog 84 #[.int .i64 (b : Int)] w fun e w' => e = .returned (.string (strOf (leBytes b 8))) ∧ Keeps w w' (fun _ => False) := by
  obtain ⟨S, hS⟩ : ∃ S, strOf (leBytes b 8) = S := ⟨_, rfl⟩
  rw [hS]
  go_enter Tryz.func84, Tryz.ntmps84
  go_wp2_with fail
  go_loopw [5] (fun i wr => ∃ k : Nat, i = .int .i64 (k : Int) ∧ k ≤ 8 ∧ wr.heap[w.heap.size]? = some (.cells (rowOf (leBytes b k ++ zeros (8 - k))) 176) ∧ Keeps w wr (fun _ => False)) (fun i _ => 8 - (intOf i).toNat)
  case atStart => exact ⟨0, rfl, Nat.zero_le _, heap_alloc_new _ _, (Keeps.refl _ _).alloc _⟩
  case round =>
    obtain ⟨k, rfl, hk, hr, K⟩ := hrel
    by_cases hlt : k < 8
    · have hlt' : (k : Int) < 8 := by omega
      have hc : wr.cell? ⟨w.heap.size, k, none⟩ = some (.int .u8 ((((leBytes b k ++ zeros (8 - k))[k]'(by simp [leBytes_length, zeros_length]; omega)).toNat : Int))) := by
        simp only [World.cell?, hr]
        exact rowOf_get _ k (by simp [leBytes_length, zeros_length]; omega)
      have hf : wr.frozen? ⟨w.heap.size, k, none⟩ = false := by simp [World.frozen?, hr]
      have hr2 : (wr.setCell ⟨w.heap.size, k, none⟩ (.int .u8 ((lowB b k).toNat : Int))).heap[w.heap.size]? = some (.cells (rowOf (leBytes b (k + 1) ++ zeros (8 - (k + 1)))) 176) := by
        rw [setCell_eq_setRow wr w.heap.size k _ 176 (0, 0) _ hr, heap_setRow_same hr, le_mix b k hlt]
      have K2 : Keeps w (wr.setCell ⟨w.heap.size, k, none⟩ (.int .u8 ((lowB b k).toNat : Int))) (fun _ => False) := K.setCell ⟨w.heap.size, k, none⟩ (fun h => absurd h (Nat.lt_irrefl _)) _
      generalize ((leBytes b k ++ zeros (8 - k))[k]'(by simp [leBytes_length, zeros_length]; omega)).toNat = old at *
      clear hr K
      rw [← lowB_int] at hr2 K2
      go_wp2_with fail
      go_roundw
      case rel => exact ⟨k + 1, by go_num, by omega, hr2, K2⟩
      case measure => simp [intOf]; omega
    · have hkn : k = 8 := by omega
      subst hkn
      have htx := run_text wr ⟨w.heap.size, 0, none⟩ 8 8 (leBytes b 8) (leBytes_length b 8) (fun j hj => by
        rw [addr_add, Nat.zero_add]
        have := rowOf_get (leBytes b 8 ++ zeros (8 - 8)) j (by simp; omega)
        simp only [World.cell?, hr]
        simpa [List.getElem_append_left hj] using this)
      rw [hS] at htx
      have K2 := hide K
      clear hr K hS
      go_wp2_with fail
      go_ret
      exact ⟨rfl, K2.out⟩
end Go.Proofs.YtmdnknbolgedgaaGreatDoor
