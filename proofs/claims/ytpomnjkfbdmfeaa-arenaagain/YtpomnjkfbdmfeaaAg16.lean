import Derived.Deep.QuietTactic
import Derived.BigQuiet
import Derived.Test.YtpomnjkfbdmfeaaAg15
/-
  Two arenas, each with a list of its own, beside blocks E; act on either.
-/
namespace Go.Proofs.Ytpomnjkfbdmfeaa
open Go.RowKit Go.Shelf
set_option linter.unusedVariables false

structure Pair (w W : World) (p q : Nat) (E : Nat → Prop) (v v' : Value) (ys ys' : List Int) (d r : AD) : Prop where
  two : ∃ Y, TwoY w W p q (fun k => (v.ownBlock = some k ∨ v'.ownBlock = some k) ∨ E k) Y d r
  row : W.ownsRow w.heap.size 3 1 v ys.length (ys.map cellI)
  row' : W.ownsRow w.heap.size 3 1 v' ys'.length (ys'.map cellI)
  ne : ∀ k, v.ownBlock = some k → v'.ownBlock ≠ some k
  es : ∀ k, E k → v.ownBlock ≠ some k ∧ v'.ownBlock ≠ some k
section
variable {w W W2 : World} {p q : Nat} {E : Nat → Prop} {v v' : Value} {ys ys' : List Int} {d r : AD}
theorem Pair.swap (h : Pair w W p q E v v' ys ys' d r) : Pair w W q p E v' v ys' ys r d := by
  obtain ⟨Y, hT⟩ := h.two
  refine ⟨⟨fun k => w.heap.size ≤ k ∧ k < W.heap.size ∧ ¬ Y k, ?_, ?_, fun k y => y.2.1, fun k x => hT.xs k (x.imp (fun x => x.elim Or.inr Or.inl) id)⟩, h.row', h.row, fun k e e' => h.ne k e' e, fun k e => ⟨(h.es k e).2, (h.es k e).1⟩⟩
  · exact hT.b.less (fun k _ _ x => by
      rcases x with x | (x | x) | x
      · exact Or.inl x.2.2
      · exact Or.inr (Or.inl (Or.inr x))
      · exact Or.inr (Or.inl (Or.inl x))
      · exact Or.inr (Or.inr x))
  · refine hT.a.less (fun k hk hw x => ?_)
    rcases x with x | (x | x) | x
    · refine Or.inl (Classical.byContradiction fun hn => x ⟨hw, hk, hn⟩)
    · exact Or.inr (Or.inl (Or.inr x))
    · exact Or.inr (Or.inl (Or.inl x))
    · exact Or.inr (Or.inr x)
theorem Pair.stay (h : Pair w W p q E v v' ys ys' d r) (k : Keeps W W2 (fun _ => False)) : Pair w W2 p q E v v' ys ys' d r := by
  obtain ⟨Y, hT⟩ := h.two
  exact ⟨⟨Y, hT.keep k (fun _ x => x.elim) (fun i x => ⟨Or.inl x, Nat.lt_of_lt_of_le (hT.xs i x).2 k.size⟩)⟩, k.rowK h.row, k.rowK h.row', h.ne, h.es⟩
/-- A block of the statement's own. -/
theorem Pair.box (h : Pair w W p q (fun _ => False) v v' ys ys' d r) (o : Obj) : Pair w (W.alloc o) p q (fun k => k = W.heap.size) v v' ys ys' d r := by
  obtain ⟨Y, hT⟩ := h.two
  have k : Keeps W (W.alloc o) (fun _ => False) := (Keeps.refl _ _).alloc _
  refine ⟨⟨Y, hT.keep k (fun _ x => x.elim) (fun i x => ?_)⟩, k.rowK h.row, k.rowK h.row', h.ne, fun i e => ⟨fun x => ?_, fun x => ?_⟩⟩
  · rcases x with x | x
    · exact ⟨Or.inl (Or.inl x), Nat.lt_of_lt_of_le (hT.xs i (Or.inl x)).2 k.size⟩
    · subst x
      exact ⟨Or.inr (Nat.le_refl _), by simp⟩
  · have := (h.row.lt i x).2
    omega
  · have := (h.row'.lt i x).2
    omega
theorem Pair.drop (h : Pair w W p q E v v' ys ys' d r) : Pair w W p q (fun _ => False) v v' ys ys' d r := by
  obtain ⟨Y, hT⟩ := h.two
  exact ⟨⟨Y, hT.keep (Keeps.refl W (fun _ => False)) (fun _ x => x.elim) (fun i x => ⟨Or.inl (x.imp id (fun e => e.elim)), (hT.xs i (x.imp id (fun e => e.elim))).2⟩)⟩, h.row, h.row', h.ne, fun _ e => e.elim⟩
theorem Pair.keeps (h : Pair w W p q E v v' ys ys' d r) : Keeps w W (fun _ => False) := by
  obtain ⟨Y, hT⟩ := h.two
  exact hT.a.keeps
theorem Pair.arena (h : Pair w W p q E v v' ys ys' d r) : ∃ X, Arena W p X d := by
  obtain ⟨Y, hT⟩ := h.two
  exact ⟨_, hT.a.arena⟩
end

/-- act of whatever step. -/
theorem actQ_any {w w1 : World} {p : Nat} {Z : Nat → Prop} {v : Value} {ys : List Int} {d : AD} (h : OwnZ w w1 p Z v ys d) (hF : d.Fine) (hW : d.Well) (N Fr : Int) (u : UInt8) (hfr : fitsI Fr) (hys : ∀ z ∈ ys, fitsI z) (hn : ys.length ≤ 17592186044000) :
    Calls Try.prog 10 #[.pointer (some ⟨p, 0, none⟩), .agg #[.int .i64 N, .int .i64 Fr], v, .int .u8 (u.toNat : Int)] w1 fun e w' => ActPostQ w w1 p Z d N Fr u ys e w' := by
  by_cases h0 : Fr = 0
  · subst h0
    exact actQ_alloc h hF hW N u hn
  · exact actQ_free h hF N Fr u hfr h0 hys hn

def PairPost (w W : World) (p q : Nat) (E : Nat → Prop) (v : Value) (ys ys' : List Int) (d r : AD) (N Fr : Int) (u : UInt8) (e : Ending) (w' : World) : Prop :=
  ∃ g cap r' z, e = .returned (.slice (some ⟨g, 0, none⟩) (ys'.length + 1) cap) ∧ ActD r N Fr u ys' r' z ∧ Pair w w' p q E v (.slice (some ⟨g, 0, none⟩) (ys'.length + 1) cap) ys (ys' ++ [z]) d r' ∧ ∀ k, E k → w'.heap[k]? = W.heap[k]?
theorem pair_act {w W : World} {p q : Nat} {E : Nat → Prop} {v v' : Value} {ys ys' : List Int} {d r : AD} (h : Pair w W p q E v v' ys ys' d r) (hF : r.Fine) (hW : r.Well) (N Fr : Int) (u : UInt8) (hfr : fitsI Fr) (hys : ∀ z ∈ ys', fitsI z) (hn : ys'.length ≤ 17592186044000) :
    Calls Try.prog 10 #[.pointer (some ⟨q, 0, none⟩), .agg #[.int .i64 N, .int .i64 Fr], v', .int .u8 (u.toNat : Int)] W fun e w' => PairPost w W p q E v ys ys' d r N Fr u e w' := by
  obtain ⟨Y, hT⟩ := h.two
  have hO : OwnZ w W q (fun k => (w.heap.size ≤ k ∧ k < W.heap.size ∧ ¬ Y k ∧ v'.ownBlock ≠ some k) ∨ (v.ownBlock = some k ∨ E k)) v' ys' r := by
    refine ⟨hT.b.less (fun k _ _ x => ?_), h.row', fun k hk => ?_⟩
    · rcases x with (x | x | x) | x
      · exact Or.inl x.2.2.1
      · exact Or.inr (Or.inl (Or.inl x))
      · exact Or.inr (Or.inr x)
      · exact Or.inr (Or.inl (Or.inr x))
    · rcases hk with x | x | x
      · exact ⟨x.1, x.2.1, x.2.2.2⟩
      · exact ⟨(h.row.lt k x).1, (h.row.lt k x).2, h.ne k x⟩
      · exact ⟨(hT.xs k (Or.inr x)).1, (hT.xs k (Or.inr x)).2, (h.es k x).2⟩
  refine (actQ_any hO hF hW N Fr u hfr hys hn).mono ?_
  rintro e w' ⟨g, cap, r', z, rfl, hO', hA, kk⟩
  refine ⟨g, cap, r', z, rfl, hA, ⟨⟨fun k => w.heap.size ≤ k ∧ k < w'.heap.size ∧ ¬ ((w.heap.size ≤ k ∧ k < W.heap.size ∧ ¬ Y k ∧ v'.ownBlock ≠ some k) ∨ (v.ownBlock = some k ∨ E k)) ∧ Value.ownBlock (.slice (some ⟨g, 0, none⟩) (ys'.length + 1) cap) ≠ some k, ?_, ?_, fun k y => y.2.1, fun k x => ?_⟩, ?_, ?_, fun k e e' => ?_, fun k e => ⟨(h.es k e).1, (hO'.zs k (Or.inr (Or.inr e))).2.2⟩⟩, fun k e => kk.block k (hT.xs k (Or.inr e)).2 (fun y => y (Or.inr (Or.inr e)))⟩
  · have h1 : Arena W p (fun k => (w.heap.size ≤ k ∧ k < W.heap.size ∧ ¬ Y k ∧ v'.ownBlock ≠ some k) ∧ v.ownBlock ≠ some k ∧ ¬ E k) d := hT.a.arena.mono (fun k hk x => ⟨⟨x.1, hk, fun y => x.2 (Or.inl y), fun y => x.2 (Or.inr (Or.inl (Or.inr y)))⟩, fun y => x.2 (Or.inr (Or.inl (Or.inl y))), fun y => x.2 (Or.inr (Or.inr y))⟩)
    have h2 := h1.keeps kk (fun k hk x y => y (Or.inl x.1))
    refine ⟨h2.mono (fun k hk x => ⟨x.1.1, fun y => ?_⟩), hO'.own.keeps⟩
    rcases y with y | (y | y) | y
    · exact y.2.2.1 (Or.inl x.1)
    · exact x.2.1 y
    · exact (hO'.zs k (Or.inl x.1)).2.2 y
    · exact x.2.2 y
  · refine hO'.own.less (fun k hk hw x => ?_)
    rcases x with x | (x | x) | x
    · refine Classical.byContradiction fun hn => x ⟨hw, hk, fun y => hn (Or.inl y), fun y => hn (Or.inr y)⟩
    · exact Or.inl (Or.inr (Or.inl x))
    · exact Or.inr x
    · exact Or.inl (Or.inr (Or.inr x))
  · rcases x with (x | x) | x
    · exact ⟨(h.row.lt k x).1, Nat.lt_of_lt_of_le (h.row.lt k x).2 kk.size⟩
    · exact ⟨(hO'.row.lt k x).1, (hO'.row.lt k x).2⟩
    · exact ⟨(hT.xs k (Or.inr x)).1, Nat.lt_of_lt_of_le (hT.xs k (Or.inr x)).2 kk.size⟩
  · exact row_kept h.row (fun b hb => kk.block b (h.row.lt b hb).2 (fun y => y (Or.inr (Or.inl hb))))
  · have := hO'.row
    simpa using this
  · exact (hO'.zs k (Or.inr (Or.inl e))).2.2 e'
end Go.Proofs.Ytpomnjkfbdmfeaa
/-
  Limit; a long list copied; what an act leaves.
-/
namespace Go.Proofs.Ytpomnjkfbdmfeaa
open Go.RowKit Go.Shelf
set_option linter.unusedVariables false

set_option maxHeartbeats 400000 in
theorem limit_any {w : World} {p : Nat} {c : AR} {d : AD} (h : ArenaAt w p c d) :
    Calls Try.prog 25 #[.pointer (some ⟨p, 0, none⟩)] w fun e w' => e = .returned (.int .i64 (d.limit : Int)) ∧ w' = w := by
  have c2 := h.cell0
  clear h
  go_enter Try.func25, Try.ntmps25
  go_wp2
  go_ret
  exact ⟨rfl, rfl⟩
theorem copy_big {W : World} {B : Nat} {v : Value} {os : List Int} (h : W.ownsRow B 3 1 v os.length (os.map cellI)) (hn : os.length ≤ 17592186044000) :
    ∃ a c W', (∀ ty, (Builtin.append_ #[28, 28] ty #[.slice (some ⟨W.heap.size, 0, none⟩) 0 0, v]).run Try.prog (W.alloc (.cells #[] 3)) = .ok (.slice (some ⟨a, 0, none⟩) os.length c) W') ∧ W'.ownsRow W.heap.size 3 1 (.slice (some ⟨a, 0, none⟩) os.length c) os.length (os.map cellI) ∧ W.heap.size ≤ a ∧ Keeps W W' (fun _ => False) := by
  have hi : (Try.prog.info? 3).map (fun i => (i.zero, i.size, i.bytes)) = some (some (.int .i64 0), 1, 8) := by kernel_rfl
  obtain ⟨i, q1, q2, q3, q4⟩ := info_parts hi
  have k0 : Keeps W (W.alloc (.cells #[] 3)) (fun _ => False) := (Keeps.refl _ _).alloc _
  have own0 : (W.alloc (.cells #[] 3)).ownsRow W.heap.size 3 1 (.slice (some ⟨W.heap.size, 0, none⟩) 0 0) 0 [] := World.ownsRow_made W #[] 0 (Nat.le_refl _) (by simp only [maxLen]; omega) (by simp)
  rcases h.2 with ⟨rfl, e0⟩ | ⟨g, cap, cur, rfl, hb, hg, _⟩
  · have hx : os = [] := List.length_eq_zero_iff.1 e0
    subst hx
    have r1 := fun ty => run_append_owned_none (P := Try.prog) (w := W.alloc (.cells #[] 3)) W.heap.size 28 ty 3 i 1 Try.underlying28 q1 _ 0 [] own0
    exact ⟨_, _, _, r1, own0, Nat.le_refl _, k0⟩
  · obtain ⟨v', w2, hr, hown, hgr, hnil, hloc⟩ := run_append_own_at (P := Try.prog) (W.alloc (.cells #[] 3)) W.heap.size 28 0 3 i (.int .i64 0) 1 8 Try.underlying28 q1 q2 q3 q4 rfl (by omega) _ 0 [] own0 ⟨g, 0, none⟩ os.length cap (os.map cellI) (by simp)
      (fun j u hu => k0.cellK (h.cells (g := g) rfl j u hu)) cellI_one (by simp only [maxLen]; omega) (by omega) (by simp)
    rw [Nat.zero_add, List.nil_append] at hown
    have K : Keeps W w2 (fun _ => False) := k0.trans ((Keeps.ofGrown hgr).mono (fun i hi e => by
      have e' : W.heap.size = i := by simpa [Value.ownBlock] using e
      exact e'.symm)) (fun i hi e => by
        have e' : i = W.heap.size := e
        omega)
    obtain ⟨_, hh | ⟨g', cap', cur', e1, g2, _⟩⟩ := id hown
    · exact absurd (hnil.1 hh.1).1 (by simp)
    · subst e1
      exact ⟨g', cap', w2, fun ty => hr, hown, g2, K⟩

theorem act_limit {d d' : AD} {N Fr z : Int} {u : UInt8} {ys : List Int} (h : ActD d N Fr u ys d' z) (hF : d.Fine) (hW : d.Well) : d'.limit = d.limit := by
  unfold ActD at h
  split at h
  · rcases h with ⟨_, _, rfl⟩ | ⟨q1, _, rfl⟩
    · rfl
    · obtain ⟨b1, b2, b3⟩ := refE_yes q1
      obtain ⟨m, rfl⟩ := Int.eq_ofNat_of_zero_le (show 0 ≤ N by omega)
      rw [Int.toNat_natCast]
      have hcn : classI (m : Int) = (classN m : Int) := by unfold classI; rw [if_pos (by omega)]; simp
      have hB := list_B hF hW (class_in m (by omega) (by omega)) (by omega)
      unfold fillR
      rw [if_pos hB.good]
      exact hB.limit
  · rcases h with ⟨_, _, rfl⟩ | ⟨s, _, _, hg⟩
    · rfl
    · exact hg.limit
/-- A step that is let in of a new arena. -/
def stepC (n : Nat) (x : Int × Int) : Prop := x.2 = 0 ∧ 1 ≤ x.1 ∧ x.1 ≤ 1048576 ∧ classI x.1 ≤ (n : Int)
theorem grow_len {d d' : AD} (hF : d.Fine) (g : Grow d d') : d.bs.length ≤ d'.bs.length := by
  obtain ⟨t, ht⟩ := g.pre
  have h1 := tiles_end hF.tiles
  have h2 := tiles_end g.fine.tiles
  rw [h1, h2, ← ht, List.map_append, List.sum_append]
  omega
theorem big_of {d : AD} (hF : d.Fine) {x : Nat × Nat} (hx : x ∈ d.L) : 16 < d.bs.length := by
  have := tiles_mem hF.tiles hx
  omega
theorem act_big {d d' : AD} {N Fr z : Int} {u : UInt8} {ys : List Int} (h : ActD d N Fr u ys d' z) (hF : d.Fine) (hW : d.Well) (hc : stepC d.limit (N, Fr)) : 16 < d'.bs.length := by
  have hg := (h.grow hF hW).1
  obtain ⟨c1, c2, c3, c4⟩ := hc
  simp only at c1 c2 c3 c4
  unfold ActD at h
  rw [if_pos c1] at h
  rcases h with ⟨q1, _, rfl⟩ | ⟨q1, _, rfl⟩
  · have hl : litB [N] = false := by
      have hn : ¬ N < 1 := by omega
      simp [litB, hn]
    have hgr : greB [N] = false := by
      have hn : ¬ 1048576 < N := by omega
      simp [greB, hn]
    have := refE_law d' hF [N]
    rw [hl, hgr] at this
    have hlt : (d'.limit : Int) < (d'.used : Int) + classI N := by
      refine Classical.byContradiction fun hn => q1 ?_
      rw [this, if_neg (by simp), if_neg]
      rintro (e | e)
      · cases e
      · simp only [sumC, Int.add_zero] at e
        exact hn e
    have hu : 0 < d'.used := by omega
    rw [hF.sum] at hu
    cases hL : d'.L with
    | nil => rw [hL] at hu; simp [liveSum] at hu
    | cons x r => exact big_of hF (x := x) (by rw [hL]; exact List.mem_cons_self ..)
  · obtain ⟨b1, b2, b3⟩ := refE_yes q1
    obtain ⟨m, rfl⟩ := Int.eq_ofNat_of_zero_le (show 0 ≤ N by omega)
    rw [Int.toNat_natCast] at hg ⊢
    have hcn : classI (m : Int) = (classN m : Int) := by unfold classI; rw [if_pos (by omega)]; simp
    have hB := list_B hF hW (class_in m (by omega) (by omega)) (by omega)
    refine big_of hg.fine (x := ((listT d (classN m)).1, classN m)) ?_
    unfold fillR
    rw [if_pos hB.good]
    exact hB.mem
end Go.Proofs.Ytpomnjkfbdmfeaa
/-
  The law's freed.
-/
namespace Go.Proofs.Ytpomnjkfbdmfeaa
open Go.RowKit Go.Shelf
set_option linter.unusedVariables false

theorem half_even {os : List Int} {m : Nat} (h2 : m % 2 = 0) (h : m < os.length) : halfL (os.take (m + 2)) = halfL (os.take m) ++ [os[m]] := by
  obtain ⟨j, rfl⟩ : ∃ j, m = 2 * j := ⟨m / 2, by omega⟩
  exact half_take os j h
theorem row_put {W : World} {B g cap : Nat} {os : List Int} {u v : Int} (h : W.ownsRow B 3 1 (.slice (some ⟨g, 0, none⟩) (os ++ [u]).length cap) (os ++ [u]).length ((os ++ [u]).map cellI)) :
    (W.setCell ⟨g, os.length, none⟩ (.int .i64 v)).ownsRow B 3 1 (.slice (some ⟨g, 0, none⟩) (os ++ [v]).length cap) (os ++ [v]).length ((os ++ [v]).map cellI) := by
  obtain ⟨h1, h2⟩ := h
  refine ⟨by simp, Or.inr ?_⟩
  rcases h2 with ⟨h2, _⟩ | ⟨g', cap', cur, e, hb, hh, hn, hm, hs, ht⟩
  · cases h2
  · cases e
    refine ⟨g, cap, cur.setIfInBounds os.length (.int .i64 v), by simp, hb, ?_, by simpa using hn, hm, by simpa using hs, ?_⟩
    · have hlt := heap_lt hh
      have hv := (Array.getElem?_eq_some_iff.1 hh).2
      simp only [World.setCell, Array.getElem?_modify]
      simp [hlt, hv]
    · have e1 : (cur.setIfInBounds os.length (Value.int .i64 v)).toList = cur.toList.set os.length (.int .i64 v) := by simp
      rw [e1, List.length_append, List.length_singleton] at *
      rw [List.take_set, ht]
      simp [List.map_append, cellI]

set_option maxRecDepth 100000 in
set_option maxHeartbeats 4000000 in
theorem freed_any {w W : World} {p q : Nat} {X Y : Nat → Prop} {d : AD} (h : TwoY w W p q X Y d d) (hF : d.Fine) (hW : d.Well) (ao : Nat) (os : List Int) (hX : X ao) (hrow : W.heap[ao]? = some (.cells (os.map cellI).toArray 3)) (hlv : ∀ z ∈ os, (d.lv z).isSome = true) (hnd : os.Nodup) (hlen : os.length ≤ 134217) (tw : Int) (htw : fitsI tw) :
    Calls Try.prog 21 #[.pointer (some ⟨p, 0, none⟩), .pointer (some ⟨q, 0, none⟩), .slice (some ⟨ao, 0, none⟩) os.length os.length, .int .i64 tw] W fun e w' => e = .returned (.bool true) ∧ ∃ d' Y', Gones d (halfL os) d' ∧ TwoY w w' p q X Y' d' d' ∧ ∀ k, X k → w'.heap[k]? = W.heap[k]? := by
  have hL := two_live h
  have hnum := fun x W => num_any x W
  have r0 := ints_row hrow (Nat.zero_le _) (by omega)
  obtain ⟨b1, c1, W1, hap1, row1, hb1, k1⟩ := copy_ints r0 (by omega)
  obtain ⟨b2, c2, W2, hap2, row2, k2, hl2⟩ := push_int row1 k1.size (by omega) 15
  have K2 : Keeps W W2 (fun _ => False) := k1.trans k2 (fun i hi e => by
    have e' : b1 = i := by simpa [Value.ownBlock] using e
    omega)
  have row2' : W2.ownsRow W.heap.size 3 1 (.slice (some ⟨b2, 0, none⟩) (os ++ [15]).length c2) (os ++ [15]).length ((os ++ [15]).map cellI) := by simpa [cellI] using row2
  obtain ⟨b3, c3, W3, hap3, row3, hb3, k3⟩ := copy_ints row2' (by simp; omega)
  have K3 : Keeps W W3 (fun _ => False) := K2.trans k3 (fun _ _ e => e)
  have h3 : TwoY w W3 p q X Y d d := h.keep K3 (fun _ x => x.elim) (fun i x => ⟨Or.inl x, Nat.lt_of_lt_of_le (h.xs i x).2 K3.size⟩)
  have hf1 := two_bad h3 hF (some ⟨b3, 0, none⟩) c3 (os ++ [15]) (by simp) (by simp; omega) (fun z hz => by
    rcases List.mem_append.1 hz with hz | hz
    · exact (lv_fits hF (hlv z hz)).1
    · simp at hz
      subst hz
      exact fitsI_mk (by omega) (by omega)) (row_below row3) (fun x => by
    have := x.2 15 (by simp)
    rw [lv_15 hF hW] at this
    cases this)
  rw [List.length_append, List.length_singleton] at hf1 hap3
  have hL4 : ∀ W4, TwoY w W4 p q X Y d d → Calls Try.prog 19 #[.pointer (some ⟨p, 0, none⟩)] W4 fun r w' => r = .returned (.int .i64 (d.used : Int)) ∧ w' = W4 := fun _ x => two_live x
  clear r0 row1 k1 row2 k2 hl2 row3 hb3 hb1
  go_enter Try.func21, Try.ntmps21
  go_wp2_with fail
  refine hL.mono ?_
  rintro e w' ⟨rfl, rfl⟩
  clear hL
  go_wp2_with (first | (at_builtin; have _t := hap1; refine app_run _ rfl (.tmp 17) (.tmp 18) 28 rfl rfl rfl hap1 ?_; clear hap1) | (at_builtin; have _t := hap2; refine app_run _ rfl (.tmp 20) (.tmp 21) 28 rfl rfl rfl hap2 ?_; clear hap2) | (at_builtin; have _t := hap3; refine app_run _ rfl (.tmp 24) (.tmp 25) 28 rfl rfl rfl hap3 ?_; clear hap3))
  refine hf1.mono ?_
  rintro e W4 ⟨rfl, k4⟩
  clear hf1
  have K4 : Keeps w' W4 (fun _ => False) := K3.trans k4 (fun _ _ e => e)
  have h4 : TwoY w W4 p q X Y d d := h.keep K4 (fun _ x => x.elim) (fun i x => ⟨Or.inl x, Nat.lt_of_lt_of_le (h.xs i x).2 K4.size⟩)
  have row4 : W4.ownsRow w'.heap.size 3 1 (.slice (some ⟨b2, 0, none⟩) (os ++ [15]).length c2) (os ++ [15]).length ((os ++ [15]).map cellI) := k4.rowK (k3.rowK row2')
  clear k3 k4 K3 K2 h3 row2'
  go_wp2_with fail
  refine (hnum _ _).mono ?_
  rintro e w5 ⟨rfl, rfl⟩
  go_wp2_with fail
  refine (hL4 _ h4).mono ?_
  rintro e w6 ⟨rfl, rfl⟩
  rcases (show ((0 : Int) < (os.length : Int) ∧ 0 ≤ tw) ∨ ((0 : Int) < (os.length : Int) ∧ ¬ 0 ≤ tw) ∨ ¬ (0 : Int) < (os.length : Int) by omega) with ⟨hc0, hc1⟩ | ⟨hc0, hc1⟩ | hc0
  focus
    have hil2 := Int.emod_lt_of_pos tw hc0
    have hil1 := Int.emod_nonneg tw (b := (os.length : Int)) (by omega)
    have hil : (tw % (os.length : Int)).toNat < os.length := by omega
    have cz : w6.cell? ⟨ao, (tw % (os.length : Int)).toNat, none⟩ = some (.int .i64 os[(tw % (os.length : Int)).toNat]) := by
      have := row_cells (ints_row (B := 0) ((K4.block ao (h.xs ao hX).2 id).trans hrow) (Nat.zero_le _) (by omega)) _ hil
      rwa [Nat.zero_add] at this
    have hzm : os[(tw % (os.length : Int)).toNat] ∈ os := List.getElem_mem hil
    generalize os[(tw % (os.length : Int)).toNat] = z at cz hzm
    obtain ⟨cur, hb⟩ : ∃ cur, w6.heap[b2]? = some (.cells cur 3) := by
      rcases row4.2 with ⟨e, _⟩ | ⟨g, cap, cur, e, _, hg, _⟩
      · cases e
      · cases e
        exact ⟨cur, hg⟩
    have fz : w6.frozen? ⟨b2, os.length, none⟩ = false := by simp [World.frozen?, hb]
    have cb := row_cells row4 os.length (by simp)
    rw [Nat.zero_add] at cb
    have row5 := row_put (v := z) row4
    have kS : Keeps w6 (w6.setCell ⟨b2, os.length, none⟩ (.int .i64 z)) (fun k => k = b2) := (Keeps.refl w6 (fun k => k = b2)).setCell ⟨b2, os.length, none⟩ (fun _ => rfl) _
    have hb2 := ownsRow_from row4 (g := b2) rfl
    have K5 : Keeps w' (w6.setCell ⟨b2, os.length, none⟩ (.int .i64 z)) (fun _ => False) := K4.trans kS (fun i hi e => by omega)
    obtain ⟨b7, c7, W7, hap7, row7, hb7, k7⟩ := copy_ints row5 (by simp; omega)
    have K7 : Keeps w' W7 (fun _ => False) := K5.trans k7 (fun _ _ e => e)
    have h7 : TwoY w W7 p q X Y d d := h.keep K7 (fun _ x => x.elim) (fun i x => ⟨Or.inl x, Nat.lt_of_lt_of_le (h.xs i x).2 K7.size⟩)
    have hf7 := two_bad h7 hF (some ⟨b7, 0, none⟩) c7 (os ++ [z]) (by simp) (by simp; omega) (fun y hy => by
      rcases List.mem_append.1 hy with hy | hy
      · exact (lv_fits hF (hlv y hy)).1
      · simp at hy
        subst hy
        exact (lv_fits hF (hlv y hzm)).1) (row_below row7) (fun x => by
      have := (List.nodup_append.1 x.1).2.2 z hzm z (by simp)
      exact this rfl)
    rw [List.length_append, List.length_singleton] at hf7 hap7
    rw [show (w6.setCell ⟨b2, os.length, none⟩ (.int .i64 z)).heap.size = w6.heap.size from by simp [World.setCell]] at hap7
    clear row5 row7 kS K5 k7 hb7 hb2 hb
    go_wp2_with (first | (at_builtin; have _t := hap7; refine app_run _ rfl (.tmp 55) (.tmp 56) 28 rfl rfl rfl hap7 ?_; clear hap7))
    refine hf7.mono ?_
    rintro e W5 ⟨rfl, k5⟩
    clear hf7
    have K5 : Keeps w' W5 (fun _ => False) := K7.trans k5 (fun _ _ e => e)
    have h5 : TwoY w W5 p q X Y d d := h.keep K5 (fun _ x => x.elim) (fun i x => ⟨Or.inl x, Nat.lt_of_lt_of_le (h.xs i x).2 K5.size⟩)
    clear K7 h7 k5 cz hzm fz cb
    go_wp2_with fail
    refine (hnum _ _).mono ?_
    rintro e w8 ⟨rfl, rfl⟩
    go_wp2_with fail
    refine (hL4 _ h5).mono ?_
    rintro e w6 ⟨rfl, rfl⟩
    clear h4 K4 row4
    go_wp2_with fail
  rotate_left
  focus
    have K5 := K4
    have h5 := h4
    clear h4 K4 row4
    go_wp2_with fail
  rotate_left
  focus
    have K5 := K4
    have h5 := h4
    clear h4 K4 row4
    go_wp2_with fail
    rename_i hz _ _
    clear hz
  all_goals clear hc0
  all_goals
    have hro : ∀ W6, Keeps w' W6 (fun _ => False) → ∀ m (hm : m < os.length), W6.cell? ⟨ao, m, none⟩ = some (.int .i64 os[m]) := fun W6 k m hm => by
      have := row_cells (ints_row (B := 0) ((k.block ao (h.xs ao hX).2 id).trans hrow) (Nat.zero_le _) (by omega)) m hm
      rwa [Nat.zero_add] at this
  all_goals
    go_loopw [11, 12] (fun v vi wr => ∃ m : Nat, vi = .int .i64 (m : Int) ∧ m % 2 = 0 ∧ m ≤ os.length + 1 ∧ wr.ownsRow w6.heap.size 3 1 v (halfL (os.take m)).length ((halfL (os.take m)).map cellI) ∧ Keeps w6 wr (fun _ => False)) (fun _ vi _ => os.length + 2 - (intOf vi).toNat)
    case atStart => exact ⟨0, rfl, rfl, by omega, by simpa [halfL] using World.ownsRow_nil _ _ _ _, Keeps.refl _ _⟩
    case round =>
      obtain ⟨m, rfl, hm2, hm, hR, kr⟩ := hrel
      have kwr : Keeps w' wr (fun _ => False) := K5.trans kr (fun _ _ e => e)
      by_cases hlt : m < os.length
      · have hlt' : (m : Int) < (os.length : Int) := by omega
        have cm := hro wr kwr m hlt
        have hl : (halfL (os.take m)).length ≤ 134217 := by
          have h1 := (halfL_sub (os.take m)).length_le
          rw [List.length_take] at h1
          omega
        obtain ⟨g, cp, w8, hap, rowN, kN, hlN⟩ := push_int hR kr.size (by omega) os[m]
        have rowM : w8.ownsRow w6.heap.size 3 1 (.slice (some ⟨g, 0, none⟩) ((halfL (os.take m)).length + 1) cp) (halfL (os.take (m + 2))).length ((halfL (os.take (m + 2))).map cellI) := by
          rw [half_even hm2 hlt]
          simpa [cellI] using rowN
        have krN : Keeps w6 w8 (fun _ => False) := kr.trans kN (fun i hi e => by have := ownsRow_from hR e; omega)
        clear rowN kN hlN hR kwr kr hro K5 h5 h hrow
        generalize os[m] = z at *
        go_wp2_with (first | (at_builtin; have _t := hap; refine app_run _ rfl (.tmp 73) (.tmp 78) 28 rfl rfl rfl hap ?_; clear hap))
        go_roundw
        case rel => exact ⟨m + 2, by go_num, by omega, by omega, rowM, krN⟩
        case measure => simp [intOf]; omega
      · have hlt' : ¬ (m : Int) < (os.length : Int) := by omega
        rw [List.take_of_length_le (by omega)] at hR
        obtain ⟨so, cp, rfl, hrw, hsx⟩ := row_of_own hR
        have hsub := halfL_sub os
        have hnd' := hsub.nodup hnd
        have hlv' : ∀ z ∈ halfL os, (d.lv z).isSome = true := fun z hz => hlv z (hsub.mem hz)
        have hl' := hsub.length_le
        obtain ⟨b8, c8, W8, hap8, row8, hb8, k8⟩ := copy_ints hR (by omega)
        have K8 : Keeps w' W8 (fun _ => False) := kwr.trans k8 (fun _ _ e => e)
        have h8 : TwoY w W8 p q (fun k => X k ∨ RowX so k) Y d d := h.keep K8 (fun _ x => x.elim) (fun i x => by
          rcases x with x | x
          · exact ⟨Or.inl x, Nat.lt_of_lt_of_le (h.xs i x).2 K8.size⟩
          · exact ⟨Or.inr (Nat.le_trans K5.size (hsx i x).1), Nat.lt_of_lt_of_le (hsx i x).2 k8.size⟩)
        have hrw8 : RowAt W8 so (halfL os) := hrw.kept (fun b hb => k8.block b (hsx b hb).2 id)
        have hf8 := two_free h8 hF (some ⟨b8, 0, none⟩) c8 (halfL os) (by omega) (row_below row8) hnd' hlv'
        have hst8 : ∀ k, X k → W8.heap[k]? = w'.heap[k]? := fun k hk => K8.block k (h.xs k hk).2 id
        clear hro hR hrw k8 row8 hb8 kwr kr K5 h5 hsx h8 hsub hlv hnd K8 hrow h
        generalize hhs : halfL os = hs at *
        go_wp2_with (first | (at_builtin; have _t := hap8; refine app_run _ rfl (.tmp 81) (.tmp 82) 28 rfl rfl rfl hap8 ?_; clear hap8))
        refine hf8.mono ?_
        rintro e W9 ⟨rfl, d', hg, h9, hst9⟩
        clear hf8
        have hrw9 : RowAt W9 so hs := hrw8.kept (fun b hb => hst9 b (Or.inr hb))
        have hst : ∀ k, X k → W9.heap[k]? = w'.heap[k]? := fun k hk => (hst9 k (Or.inl hk)).trans (hst8 k hk)
        clear hst8 hst9 hrw8
        go_wp2_with fail
        refine (hnum _ _).mono ?_
        rintro e w10 ⟨rfl, rfl⟩
        go_wp2_with fail
        go_loopw [89] (fun vi wq => ∃ (i : Nat) (e : AD) (Y' : Nat → Prop), vi = .int .i64 (i : Int) ∧ i ≤ hs.length ∧ Gones d (hs.take i) e ∧ TwoY w wq p q (fun k => X k ∨ RowX so k) Y' d' e ∧ ∀ k, X k ∨ RowX so k → wq.heap[k]? = w10.heap[k]?) (fun vi _ => hs.length - (intOf vi).toNat)
        case atStart => exact ⟨0, d, Y, rfl, by omega, rfl, h9, fun _ _ => rfl⟩
        case round =>
          obtain ⟨i, e, Y', rfl, hi, hge, hq, hsq⟩ := hrel
          have hFe := hF.gones hge
          by_cases hlt : i < hs.length
          · have hlt' : (i : Int) < (hs.length : Int) := by omega
            obtain ⟨b, hso, hc⟩ := hrw9.kept (fun b hb => hsq b (Or.inr hb)) i hlt
            have hle : (e.lv hs[i]).isSome = true := by
              rw [hge.lv, if_neg (fun hm => ?_)]
              · exact hlv' _ (List.getElem_mem hlt)
              · obtain ⟨j, hj, e1⟩ := List.getElem_of_mem hm
                rw [List.getElem_take] at e1
                rw [List.length_take] at hj
                exact (List.pairwise_iff_getElem.1 hnd') j i (by omega) hlt (by omega) e1
            have hfr := two_bfree hq hFe hs[i] hle
            have hsn : ∀ e', Gone e hs[i] e' → Gones d (hs.take (i + 1)) e' := fun e' g => by
              rw [← List.take_append_getElem hlt]
              exact hge.snoc g
            subst hso
            generalize hs[i] = z at hc hfr hsn
            clear hle hge hq
            go_wp2_with fail
            refine hfr.mono ?_
            rintro e2 w11 ⟨rfl, e', Y'', hgo, hq', hs'⟩
            have hsn' := hsn e' hgo
            have hsq' : ∀ k, X k ∨ RowX (some ⟨b, 0, none⟩) k → w11.heap[k]? = w10.heap[k]? := fun k hk => (hs' k hk).trans (hsq k hk)
            clear hfr hsn hs' hsq
            go_wp2_with fail
            refine (hnum _ _).mono ?_
            rintro e2 w12 ⟨rfl, rfl⟩
            go_wp2_with fail
            go_roundw
            case rel => exact ⟨i + 1, e', Y'', by go_num, by omega, hsn', hq', hsq'⟩
            case measure => simp [intOf]; omega
          · have hlt' : ¬ (i : Int) < (hs.length : Int) := by omega
            rw [List.take_of_length_le (by omega)] at hge
            obtain rfl := hge.one hg
            have hl1 := two_live hq
            have hl2 := two_blive hq
            have hfin : TwoY w wr p q X Y' e e := hq.keep (Keeps.refl wr (fun _ => False)) (fun _ x => x.elim) (fun i x => ⟨Or.inl (Or.inl x), (hq.xs i (Or.inl x)).2⟩)
            have hsf : ∀ k, X k → wr.heap[k]? = w'.heap[k]? := fun k hk => (hsq k (Or.inl hk)).trans (hst k hk)
            clear hsq hst hq hrw9
            go_wp2_with fail
            refine hl1.mono ?_
            rintro r2 w11 ⟨rfl, rfl⟩
            go_wp2_with fail
            refine hl2.mono ?_
            rintro r2 w12 ⟨rfl, rfl⟩
            go_wp2_with fail
            go_ret
            exact ⟨rfl, e, Y', by rw [hhs]; exact hge, hfin, hsf⟩
end Go.Proofs.Ytpomnjkfbdmfeaa
/-
  Lists of numbers that came in; the live blocks are few; what is taken one by one.
-/
namespace Go.Proofs.Ytpomnjkfbdmfeaa
open Go.RowKit Go.Shelf
set_option linter.unusedVariables false

/-- A list of numbers that came in. -/
def InZ (w : World) (v : Value) (zs : List Int) : Prop := (v = .slice none 0 0 ∧ zs = []) ∨ ∃ (a : Addr) (cap : Nat), v = .slice (some a) zs.length cap ∧ (∀ j (h : j < zs.length), w.cell? (a.add j) = some (.int .i64 zs[j])) ∧ (0 < zs.length → ∃ b o, a = ⟨b, o, none⟩ ∧ b < w.heap.size)
theorem InZ.keeps {w W : World} {v : Value} {zs : List Int} (h : InZ w v zs) (k : Keeps w W (fun _ => False)) : InZ W v zs := by
  rcases h with h | ⟨a, cap, rfl, hc, hb⟩
  · exact Or.inl h
  · refine Or.inr ⟨a, cap, rfl, fun j hj => ?_, fun h0 => ?_⟩
    · obtain ⟨b, o, rfl, hlt⟩ := hb (by omega)
      have := hc j hj
      rw [addr_add] at this ⊢
      exact (World.cell?_of_block (w := w) (k.block b hlt id)).trans this
    · obtain ⟨b, o, e, hlt⟩ := hb h0
      exact ⟨b, o, e, Nat.lt_of_lt_of_le hlt k.size⟩
theorem InZ.form {w : World} {v : Value} {zs : List Int} (h : InZ w v zs) : ∃ so cap, v = .slice so zs.length cap ∧ ∀ j (hj : j < zs.length), ∃ b o, so = some ⟨b, o, none⟩ ∧ w.cell? ⟨b, o + j, none⟩ = some (.int .i64 zs[j]) := by
  rcases h with ⟨rfl, rfl⟩ | ⟨a, cap, rfl, hc, hb⟩
  · exact ⟨none, 0, rfl, fun j hj => by simp at hj⟩
  · refine ⟨some a, cap, rfl, fun j hj => ?_⟩
    obtain ⟨b, o, rfl, _⟩ := hb (by omega)
    have := hc j hj
    rw [addr_add] at this
    exact ⟨b, o, rfl, this⟩
theorem InZ.copy {W : World} {v : Value} {zs : List Int} (h : InZ W v zs) (hn : zs.length ≤ 134217728) :
    ∃ a c W', (∀ ty, (Builtin.append_ #[28, 28] ty #[.slice (some ⟨W.heap.size, 0, none⟩) 0 0, v]).run Try.prog (W.alloc (.cells #[] 3)) = .ok (.slice (some ⟨a, 0, none⟩) zs.length c) W') ∧ W'.ownsRow W.heap.size 3 1 (.slice (some ⟨a, 0, none⟩) zs.length c) zs.length (zs.map cellI) ∧ W.heap.size ≤ a ∧ Keeps W W' (fun _ => False) := by
  have hi : (Try.prog.info? 3).map (fun i => (i.zero, i.size, i.bytes)) = some (some (.int .i64 0), 1, 8) := by kernel_rfl
  obtain ⟨i, q1, q2, q3, q4⟩ := info_parts hi
  have k0 : Keeps W (W.alloc (.cells #[] 3)) (fun _ => False) := (Keeps.refl _ _).alloc _
  have own0 : (W.alloc (.cells #[] 3)).ownsRow W.heap.size 3 1 (.slice (some ⟨W.heap.size, 0, none⟩) 0 0) 0 [] := World.ownsRow_made W #[] 0 (Nat.le_refl _) (by simp only [maxLen]; omega) (by simp)
  have h0 := h.keeps k0
  rcases h0 with ⟨rfl, rfl⟩ | ⟨a, cap, rfl, hc, _⟩
  · have r1 := fun ty => run_append_owned_none (P := Try.prog) (w := W.alloc (.cells #[] 3)) W.heap.size 28 ty 3 i 1 Try.underlying28 q1 _ 0 [] own0
    exact ⟨_, _, _, r1, own0, Nat.le_refl _, k0⟩
  · obtain ⟨v', w2, hr, hown, hgr, hnil, hloc⟩ := run_append_own_at (P := Try.prog) (W.alloc (.cells #[] 3)) W.heap.size 28 0 3 i (.int .i64 0) 1 8 Try.underlying28 q1 q2 q3 q4 rfl (by omega) _ 0 [] own0 a zs.length cap (zs.map cellI) (by simp)
      (fun j u hu => by
        rw [List.getElem?_map] at hu
        obtain ⟨z, hz, rfl⟩ := Option.map_eq_some_iff.1 hu
        obtain ⟨hj, rfl⟩ := List.getElem?_eq_some_iff.1 hz
        exact hc j hj) cellI_one (by simp only [maxLen]; omega) (by omega) (by simp)
    rw [Nat.zero_add, List.nil_append] at hown
    have K : Keeps W w2 (fun _ => False) := k0.trans ((Keeps.ofGrown hgr).mono (fun i hi e => by
      have e' : W.heap.size = i := by simpa [Value.ownBlock] using e
      exact e'.symm)) (fun i hi e => by
        have e' : i = W.heap.size := e
        omega)
    obtain ⟨_, hh | ⟨g', cap', cur', e1, g2, _⟩⟩ := id hown
    · exact absurd (hnil.1 hh.1).1 (by simp)
    · subst e1
      exact ⟨g', cap', w2, fun ty => hr, hown, g2, K⟩

theorem lives_16 : ∀ {L : List (Nat × Nat)} {lv : Int → Option Int}, (∀ y ∈ L, 16 ≤ y.2) → 16 * (livesOf L lv).length ≤ liveSum L lv
  | [], _, _ => by simp [livesOf, liveSum]
  | y :: r, lv, h => by
    have ih := lives_16 (L := r) (lv := lv) (fun z hz => h z (List.mem_cons_of_mem _ hz))
    have hy := h y (List.mem_cons_self ..)
    rw [liveSum_cons]
    unfold livesOf at ih ⊢
    by_cases e : (lv (y.1 : Int)).isSome = true
    · rw [List.filter_cons, if_pos e, if_pos e, List.length_cons]
      omega
    · rw [List.filter_cons, if_neg e, if_neg e]
      omega
theorem lives_few {d : AD} (hF : d.Fine) (hW : d.Well) : (livesOf d.L d.lv).length ≤ 131072 := by
  have := lives_16 (L := d.L) (lv := d.lv) (fun y hy => (show ∀ c ∈ classList, 16 ≤ c by decide) _ (hW.sizes y hy))
  have := hF.sum
  have := hF.use
  have := hF.lim
  omega
theorem takeAll_append (T : AD → Nat → Nat × AD) : ∀ (xs ys : List Int) (d : AD), takeAll T d (xs ++ ys) = ((takeAll T d xs).1 ++ (takeAll T (takeAll T d xs).2 ys).1, (takeAll T (takeAll T d xs).2 ys).2)
  | [], _, _ => rfl
  | x :: r, ys, d => by simp [takeAll, takeAll_append T r]
theorem takeAll_get {d : AD} {zs : List Int} {j : Nat} (h : j < zs.length) : (takeAll listT d zs).1[j]? = some ((listT (takeAll listT d (zs.take j)).2 (classI zs[j]).toNat).1 : Int) := by
  have e : zs = zs.take j ++ zs[j] :: zs.drop (j + 1) := by rw [← List.drop_eq_getElem_cons h, List.take_append_drop]
  have hl : (takeAll listT d (zs.take j)).1.length = j := by rw [takeAll_length, List.length_take]; omega
  have h2 : (takeAll listT d (zs.take j ++ zs[j] :: zs.drop (j + 1))).1[j]? = some ((listT (takeAll listT d (zs.take j)).2 (classI zs[j]).toNat).1 : Int) := by
    rw [takeAll_append]
    show ((takeAll listT d (zs.take j)).1 ++ _)[j]? = _
    rw [List.getElem?_append_right (by omega), hl, Nat.sub_self]
    simp [takeAll]
  rw [← e] at h2
  exact h2
theorem lit_snoc (l : List Int) (z : Int) : litB (l ++ [z]) = (litB l || decide (z < 1)) := by simp [litB, List.any_append]
theorem gre_snoc (l : List Int) (z : Int) : greB (l ++ [z]) = (greB l || decide (1048576 < z)) := by simp [greB, List.any_append]
end Go.Proofs.Ytpomnjkfbdmfeaa
