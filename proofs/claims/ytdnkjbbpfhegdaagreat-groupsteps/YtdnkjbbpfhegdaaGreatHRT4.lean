/-
  Eight cells stored into an array that is there, within a round.
-/
import Derived.Test.YtdnkjbbpfhegdaaGreatHRT3
import Derived.OwnWalkIn
import Derived.Laws.Tables
namespace Go.Proofs.YtdnkjbbpfhegdaaGreat
open Go.RowKit Go.Shelf Ly Ct
set_option linter.unusedVariables false

theorem listIn_row {F : Fence} {n : Nat} {ops : Array Oper} {rest : List Oper} {o : Oper} {a : Act} {w : World} {Q : Exit → Act → World → Prop} (hgd : o.guard = none) (x y : Operand) (ho : o.op = .store 36 x y) (hd : o.dst = none)
    (g : Nat) (f f' : Nat → GC) (hx : a.eval x = .pointer (some ⟨g, 0, none⟩)) (hy : a.eval y = .agg (cs8 f).toArray) (hr : RowG w g 36 f')
    (h : wpListIn F n Tryz.prog ops Q rest a (w.setRow g (cs8 f).toArray)) : wpListIn F n Tryz.prog ops Q (o :: rest) a w := by
  obtain ⟨old, h1, h2, h3⟩ := hr
  refine wpListIn_plain hgd fun K hK => ?_
  unfold Oper.wpIn
  refine ⟨?_, ?_⟩
  · simp [Oper.about, ho]
  · rw [Oper.semAt_plain F _ _ (by rw [ho]; intro c hc'; cases hc')]
    have hrun := run_storeVar_row (P := Tryz.prog) w g 36 36 old (cs8 f).toArray h1 (by rw [List.size_toArray, cs8_length]; exact sizeG) (by rw [h2, List.size_toArray, cs8_length]) (all_oneCell_toArray (oneG f))
    unfold execOp
    simp only [ho, hx, hy, Instr.storeAt, Instr.sureAddr, Sem.run_bind, Sem.run_pure, Result.andThen_ok, hrun]
    refine hK _ _ ?_
    rw [hd]
    exact h

structure Bx1 (R : Prop) : Prop where
  out : R
theorem twice {R G : Prop} (h : Bx1 R → G) (r : R) : G := h ⟨r⟩

section
variable {V W U U' : World} {p Bd Bgr Bg Bl Bt Bf Bn lo hi D : Nat} {l : Lay} {off : Nat} {en : Int} {d d' : AD} {c c' f : Nat → GC} {la t : Int} {v : Bool}
/-- The loop's two blocks lie as they lay. -/
def Kd (D : Nat) (W U : World) : Prop := ∀ k, k = D ∨ k = D + 1 → U.heap[k]? = W.heap[k]?
theorem Kd.of {S : Nat → Prop} (h : Kd D W U) (k : Keeps U U' S) (h1 : D + 1 < U.heap.size) (h2 : ¬ S D) (h3 : ¬ S (D + 1)) : Kd D W U' := fun j hj => by
  rcases hj with rfl | rfl
  · exact (k.block _ (by omega) h2).trans (h _ (Or.inl rfl))
  · exact (k.block _ (by omega) h3).trans (h _ (Or.inr rfl))
structure AtK (D : Nat) (W V U : World) (p Bd Bgr Bl Bt Bf Bn Bg lo hi : Nat) (l : Lay) (off : Nat) (en la t : Int) (v : Bool) (c f : Nat → GC) : Prop where
  l : AtL V U p Bd Bgr Bl Bt Bf Bn Bg lo hi l off en la t v c f
  k : Kd D W U
theorem AtK.lt (B : BxOk V Bd Bl Bt Bf Bn Bg lo hi) (hD : Bg < D ∧ hi = D + 2) (h : AtK D W V U p Bd Bgr Bl Bt Bf Bn Bg lo hi l off en la t v c f) : D + 1 < U.heap.size := by
  obtain ⟨d, ax⟩ := h.l.ax
  obtain ⟨b1, b2, b3, b4, b5, b6, b7, b8⟩ := B
  exact ax.lt (D + 1) (Or.inr ⟨by omega, by omega⟩)
theorem AtK.stay (B : BxOk V Bd Bl Bt Bf Bn Bg lo hi) (hD : Bg < D ∧ hi = D + 2) (h : AtK D W V U p Bd Bgr Bl Bt Bf Bn Bg lo hi l off en la t v c f) (k : Keeps U U' (fun _ => False)) : AtK D W V U' p Bd Bgr Bl Bt Bf Bn Bg lo hi l off en la t v c f :=
  ⟨h.l.stay k, h.k.of k (h.lt B hD) id id⟩
theorem AtK.setLa (B : BxOk V Bd Bl Bt Bf Bn Bg lo hi) (hD : Bg < D ∧ hi = D + 2) (h : AtK D W V U p Bd Bgr Bl Bt Bf Bn Bg lo hi l off en la t v c f) (y : Int) : AtK D W V (U.setCell ⟨Bl, 0, none⟩ (.int .i64 y)) p Bd Bgr Bl Bt Bf Bn Bg lo hi l off en y t v c f :=
  ⟨h.l.setLa B y, h.k.of (boxSet h.l.la _) (h.lt B hD) (by obtain ⟨b1, b2, b3, b4, b5, b6, b7, b8⟩ := B; omega) (by obtain ⟨b1, b2, b3, b4, b5, b6, b7, b8⟩ := B; omega)⟩
theorem AtK.setTu (B : BxOk V Bd Bl Bt Bf Bn Bg lo hi) (hD : Bg < D ∧ hi = D + 2) (h : AtK D W V U p Bd Bgr Bl Bt Bf Bn Bg lo hi l off en la t v c f) (y : Int) : AtK D W V (U.setCell ⟨Bt, 0, none⟩ (.int .i64 y)) p Bd Bgr Bl Bt Bf Bn Bg lo hi l off en la y v c f :=
  ⟨h.l.setTu B y, h.k.of (boxSet h.l.tu _) (h.lt B hD) (by obtain ⟨b1, b2, b3, b4, b5, b6, b7, b8⟩ := B; omega) (by obtain ⟨b1, b2, b3, b4, b5, b6, b7, b8⟩ := B; omega)⟩
theorem AtK.setFi (B : BxOk V Bd Bl Bt Bf Bn Bg lo hi) (hD : Bg < D ∧ hi = D + 2) (h : AtK D W V U p Bd Bgr Bl Bt Bf Bn Bg lo hi l off en la t v c f) (y : Bool) : AtK D W V (U.setCell ⟨Bf, 0, none⟩ (.bool y)) p Bd Bgr Bl Bt Bf Bn Bg lo hi l off en la t y c f :=
  ⟨h.l.setFi B y, h.k.of (boxSet h.l.fi _) (h.lt B hD) (by obtain ⟨b1, b2, b3, b4, b5, b6, b7, b8⟩ := B; omega) (by obtain ⟨b1, b2, b3, b4, b5, b6, b7, b8⟩ := B; omega)⟩
theorem AtK.setNw (B : BxOk V Bd Bl Bt Bf Bn Bg lo hi) (hD : Bg < D ∧ hi = D + 2) (h : AtK D W V U p Bd Bgr Bl Bt Bf Bn Bg lo hi l off en la t v c f) (y : Nat → GC) : AtK D W V (U.setRow Bn (cs8 y).toArray) p Bd Bgr Bl Bt Bf Bn Bg lo hi l off en la t v c y :=
  ⟨h.l.setNw B y, h.k.of (Keeps.setRow (S := fun i => i = Bn) (Keeps.refl U _) Bn (fun _ => rfl) _) (h.lt B hD) (by obtain ⟨b1, b2, b3, b4, b5, b6, b7, b8⟩ := B; omega) (by obtain ⟨b1, b2, b3, b4, b5, b6, b7, b8⟩ := B; omega)⟩
theorem AtK.take (B : BxOk V Bd Bl Bt Bf Bn Bg lo hi) (hD : Bg < D ∧ hi = D + 2) (h : AtK D W V U p Bd Bgr Bl Bt Bf Bn Bg lo hi l off en la t v c f) (ht : Turned U U' p (fun k => (V.heap.size ≤ k ∧ ¬ ((k = Bd ∨ k = Bgr) ∨ (lo ≤ k ∧ k < hi))) ∧ k < U.heap.size) d') (hd : DeskD d' l off c') : AtK D W V U' p Bd Bgr Bl Bt Bf Bn Bg lo hi l off en la t v c' f :=
  ⟨h.l.take B ht hd, h.k.of ht.2 (h.lt B hD) (fun e => e.1.2 (Or.inr (by obtain ⟨b1, b2, b3, b4, b5, b6, b7, b8⟩ := B; omega))) (fun e => e.1.2 (Or.inr (by obtain ⟨b1, b2, b3, b4, b5, b6, b7, b8⟩ := B; omega)))⟩
end
end Go.Proofs.YtdnkjbbpfhegdaaGreat
