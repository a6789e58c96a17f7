/-
  A range over Order with a tail that is told once; one within another.
-/
import Derived.Test.YtkjbhhfnhpnifaaPO2
namespace Go.Proofs.Ytkjbhhfnhpnifaa
open Go.RowKit Go.Shelf
set_option linter.unusedVariables false

section
variable {op : Operand} {ps : Array Tmp} {assign body : Code} {Q : Exit → Act → World → Prop} {a : Act} {w : World} {n : Nat}

theorem range_tail {L : List Nat} (h1 : 2 ≤ n) {Bg Bh h : Nat} {g : Int} (hL : L = ordN h g) (hh : h < 18446744073709551616) (hop : a.eval op = .func (.func 19) #[] #[.pointer (some ⟨Bg, 0, none⟩), .pointer (some ⟨Bh, 0, none⟩)]) (hg : w.heap[Bg]? = some (.cells #[.int .i64 g] 3)) (hb : w.heap[Bh]? = some (.cells #[.int .u64 (h : Int)] 22)) (hps : ps.size = 1)
    (A : Act → Nat → Act) (I : List Nat → World → Prop) (Ix : Code → List Nat → World → Prop) (hI : OwnFrom w.heap.size I) (hIx : ∀ c, OwnFrom w.heap.size (Ix c)) (h0 : I [] w)
    (T : Nat → World → Prop) (tail : ∀ D W, T D W → Q .normal { a with defers := { target := .collected D, args := #[] } :: a.defers } W)
    (hassign : ∀ (l : Nat) (x : Nat) (W : World) (K : Act → World → Prop), K (A a x) W →
      assign.wpIn (Fence.wide.inRound l) (n - 1 - 1) Try.prog (Exit.then K (fun _ _ _ => False)) { tmps := (ps.zip #[Value.int .i64 (x : Int)]).foldl (fun t (p, v) => t.setIfInBounds p v) a.tmps, defers := [] } W)
    (hbody : ∀ (l : Nat) (pre : List Nat) (x : Nat) (W : World), w.heap.size ≤ l → (∃ r, W.heap[l]? = some (.loop r)) → I pre W → pre.length < L.length → body.wpIn (Fence.wide.inRound l) (n - 1 - 1) Try.prog (ownPostG w.heap.size (Stay Bg Bh) I Ix (pre ++ [x]) W) (A a x) W)
    (hdone : ∀ (D : Nat) (W : World), w.heap.size ≤ D → I L W → W.heap[D]? = some (.deferred (some [])) → T D W)
    (hstop : ∀ (D : Nat) (c : Code) (pre : List Nat) (W : World), w.heap.size ≤ D → pre <+: L → Ix c pre W → W.heap[D]? = some (.deferred (some [])) → T D W ∧ ∀ a' W', Q .normal a' W' → c.wpIn Fence.wide n Try.prog Q a' W') :
    (Code.rangeFunc op ps assign body).wp Try.prog Q a w := by
  subst hL
  exact range_order h1 hh hop hg hb hps A I Ix hI hIx h0 hassign hbody (fun D W hD hi hK => tail D W (hdone D W hD hi hK)) (fun D c pre W hD hp hi hK => by
    obtain ⟨h1, h2⟩ := hstop D c pre W hD hp hi hK
    exact h2 _ _ (tail D W h1))

theorem range_inner {L : List Nat} {F : Fence} {l₀ : Nat} {r₀ : Loop} (hF : F = Fence.wide.inRound l₀) (hl₀ : w.heap[l₀]? = some (.loop r₀)) (h1 : 2 ≤ n) {Bg Bh h : Nat} {g : Int} (hL : L = ordN h g) (hh : h < 18446744073709551616) (hop : a.eval op = .func (.func 19) #[] #[.pointer (some ⟨Bg, 0, none⟩), .pointer (some ⟨Bh, 0, none⟩)]) (hg : w.heap[Bg]? = some (.cells #[.int .i64 g] 3)) (hb : w.heap[Bh]? = some (.cells #[.int .u64 (h : Int)] 22)) (hps : ps.size = 1)
    (A : Act → Nat → Act) (I : List Nat → World → Prop) (Ix : Code → List Nat → World → Prop) (hI : OwnFrom w.heap.size I) (hIx : ∀ c, OwnFrom w.heap.size (Ix c)) (h0 : I [] w)
    (hassign : ∀ (l : Nat) (x : Nat) (W : World) (K : Act → World → Prop), K (A a x) W →
      assign.wpIn (F.inRound l) (n - 1 - 1) Try.prog (Exit.then K (fun _ _ _ => False)) { tmps := (ps.zip #[Value.int .i64 (x : Int)]).foldl (fun t (p, v) => t.setIfInBounds p v) a.tmps, defers := [] } W)
    (hbody : ∀ (l : Nat) (pre : List Nat) (x : Nat) (W : World), w.heap.size ≤ l → I pre W → pre.length < L.length → body.wpIn (F.inRound l) (n - 1 - 1) Try.prog (ownPostG w.heap.size (Stay Bg Bh) I Ix (pre ++ [x]) W) (A a x) W)
    (hdone : ∀ (W : World), I L W → Q .normal a W)
    (hstop : ∀ (c : Code) (pre : List Nat) (W : World), pre <+: L → Ix c pre W → c.wpIn F n Try.prog Q a W) :
    (Code.rangeFunc op ps assign body).wpIn F n Try.prog Q a w := by
  subst hL
  exact range_within hF hl₀ h1 hh hop hg hb hps A I Ix hI hIx h0 hassign hbody hdone hstop
end
end Go.Proofs.Ytkjbhhfnhpnifaa
