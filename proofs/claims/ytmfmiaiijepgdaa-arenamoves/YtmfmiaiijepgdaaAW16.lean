import Derived.Test.YtmfmiaiijepgdaaAW15
import Derived.Below
namespace Go.Proofs.Ytmfmiaiijepgdaa
open Go.RowKit Go.Shelf

theorem num_any (x : Int) (w : World) : Calls Try.prog 11 #[.int .i64 x] w fun e w' => e = .returned (.int .i64 x) ∧ w' = w := by
  go_enter Try.func11, Try.ntmps11
  go_wp2
  go_ret
  exact ⟨rfl, rfl⟩

/-- An arena that a statement has made itself, since the world w; it has none of the blocks X. -/
structure Own (w w1 : World) (p : Nat) (X : Nat → Prop) (d : AD) : Prop where
  arena : Arena w1 p (fun k => w.heap.size ≤ k ∧ ¬ X k) d
  keeps : Keeps w w1 (fun _ => False)
theorem Own.here {w w1 : World} {p : Nat} {X : Nat → Prop} {d : AD} (h : Own w w1 p X d) : Arena w1 p (fun k => (w.heap.size ≤ k ∧ ¬ X k) ∧ k < w1.heap.size) d := h.arena.mono (fun _ a b => ⟨b, a⟩)
theorem Own.turn {w w1 w2 : World} {p : Nat} {X : Nat → Prop} {d d' : AD} (h : Own w w1 p X d) (ht : Turned w1 w2 p (fun k => (w.heap.size ≤ k ∧ ¬ X k) ∧ k < w1.heap.size) d') (hX : ∀ k, X k → k < w1.heap.size) : Own w w2 p X d' := by
  refine ⟨ht.1.mono (fun i _ hi => ?_), h.keeps.trans ht.2 (fun i hi e => by omega)⟩
  rcases hi with hi | hi
  · exact hi.1
  · exact ⟨by have := h.keeps.size; omega, fun e => by have := hX i e; omega⟩
theorem Own.stay {w w1 w2 : World} {p : Nat} {X : Nat → Prop} {d : AD} (h : Own w w1 p X d) (k : Keeps w1 w2 (fun _ => False)) : Own w w2 p X d :=
  ⟨h.arena.keeps k (fun _ _ _ e => e), h.keeps.trans k (fun _ _ e => e)⟩
theorem Own.less {w w1 : World} {p : Nat} {X Y : Nat → Prop} {d : AD} (h : Own w w1 p X d) (hY : ∀ k, k < w1.heap.size → w.heap.size ≤ k → Y k → X k) : Own w w1 p Y d :=
  ⟨h.arena.mono (fun i hi e => ⟨e.1, fun y => e.2 (hY i hi e.1 y)⟩), h.keeps⟩
/-- What others keep in blocks of X, and what lay ahead, stays. -/
theorem Own.rest {w w1 w2 : World} {p : Nat} {X : Nat → Prop} {d : AD} (ht : Turned w1 w2 p (fun k => (w.heap.size ≤ k ∧ ¬ X k) ∧ k < w1.heap.size) d) {k : Nat} (hk : k < w1.heap.size) (hx : X k ∨ k < w.heap.size) : w2.heap[k]? = w1.heap[k]? :=
  ht.2.block k hk (fun e => by
    rcases hx with hx | hx
    · exact e.1.2 hx
    · omega)
theorem Own.below {w w1 : World} {p : Nat} {X : Nat → Prop} {d : AD} (h : Own w w1 p X d) {w0 : World} (k : Keeps w0 w (fun _ => False)) : Below w0.heap.size w0 w1 := (k.trans h.keeps (fun _ _ e => e)).below (Nat.le_refl _) (fun _ _ e => e)

theorem own_new {w : World} (n : Nat) (h : n ≤ 2097152) : Calls Try.prog 10 #[.int .i64 (n : Int)] w fun e w' => ∃ p, e = .returned (.tuple #[.pointer (some ⟨p, 0, none⟩), .int .i64 0]) ∧ Own w w' p (fun _ => False) (AD.fresh n) := by
  refine (anew_yes n w h).mono ?_
  rintro e w1 ⟨p, rfl, hA, k⟩
  exact ⟨p, rfl, hA.mono (fun _ _ e => ⟨e, id⟩), k⟩
section
variable {w w1 : World} {p : Nat} {X : Nat → Prop} {d : AD} (h : Own w w1 p X d) (hF : d.Fine)
include h hF
theorem own_alloc {T : AD → Nat → Nat × AD} {G : AD → Prop} (hT : TakeOK T G) (hG : G d) (n : Nat) (h1 : 1 ≤ n) (h2 : n ≤ 1048576) (h3 : d.used + classN n ≤ d.limit) :
    Calls Try.prog 13 #[.pointer (some ⟨p, 0, none⟩), .int .i64 (n : Int)] w1 fun e w' => AllocPost w1 p (fun k => (w.heap.size ≤ k ∧ ¬ X k) ∧ k < w1.heap.size) (T d (classN n)).1 (T d (classN n)).2 e w' :=
  alloc_yes hT h.here (fun _ hk => hk.2) hG hF n h1 h2 h3
theorem own_store (off n : Int) (v : Nat) (ho : fitsI off) (hn : fitsI n) :
    Calls Try.prog 24 #[.pointer (some ⟨p, 0, none⟩), .int .i64 off, .int .i64 n, .int .u64 (v : Int)] w1 fun e w' => ErrPost w1 p (fun k => (w.heap.size ≤ k ∧ ¬ X k) ∧ k < w1.heap.size) (storeR d off n v).1 (storeR d off n v).2 e w' :=
  astore_any h.here hF off n v ho hn
theorem own_fill (off n : Int) (u : UInt8) (ho : fitsI off) (hn : fitsI n) :
    Calls Try.prog 22 #[.pointer (some ⟨p, 0, none⟩), .int .i64 off, .int .i64 n, .int .u8 (u.toNat : Int)] w1 fun e w' => ErrPost w1 p (fun k => (w.heap.size ≤ k ∧ ¬ X k) ∧ k < w1.heap.size) (fillR d off n u).1 (fillR d off n u).2 e w' :=
  afill_any h.here hF off n u ho hn
theorem own_copy (x y n : Int) (hx : fitsI x) (hy : fitsI y) (hn : fitsI n) :
    Calls Try.prog 20 #[.pointer (some ⟨p, 0, none⟩), .int .i64 x, .int .i64 y, .int .i64 n] w1 fun e w' => ErrPost w1 p (fun k => (w.heap.size ≤ k ∧ ¬ X k) ∧ k < w1.heap.size) (copyR d x y n).1 (copyR d x y n).2 e w' :=
  acopy_any h.here hF x y n hx hy hn
theorem own_load (off n : Int) (ho : fitsI off) (hn : fitsI n) : Calls Try.prog 25 #[.pointer (some ⟨p, 0, none⟩), .int .i64 off, .int .i64 n] w1 fun e w' => LoadPost w1 (loadV d off n).1 (loadV d off n).2 e w' := by
  obtain ⟨c, hc, _⟩ := h.arena
  exact aload_any hc hF off n ho hn
theorem own_read (off n : Int) (ho : fitsI off) (hn : fitsI n) : Calls Try.prog 21 #[.pointer (some ⟨p, 0, none⟩), .int .i64 off, .int .i64 n] w1 fun e w' => ReadAPost w1 (readV d off n).1 (readV d off n).2 e w' := by
  obtain ⟨c, hc, _⟩ := h.arena
  exact aread_any hc hF off n ho hn
theorem own_equal (x y n : Int) (hx : fitsI x) (hy : fitsI y) (hn : fitsI n) : Calls Try.prog 19 #[.pointer (some ⟨p, 0, none⟩), .int .i64 x, .int .i64 y, .int .i64 n] w1 fun e w' => EqAPost w1 (equalV d x y n).1 (equalV d x y n).2 e w' := by
  obtain ⟨c, hc, _⟩ := h.arena
  exact aequal_any hc hF x y n hx hy hn
end
end Go.Proofs.Ytmfmiaiijepgdaa
