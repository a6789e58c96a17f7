/-
  A range over All, as the statement meets it: what follows told once, the frame behind the assignment as a function of the frame ahead of it.
-/
import Derived.Test.YtbpgjlengpgnnabDoorCA1
namespace Go.Proofs.YtbpgjlengpgnnabDoor
open Go.RowKit Go.Shelf
set_option linter.unusedVariables false

theorem Stay.put {W : World} {l : Nat} {o : Obj} (h : W.heap[l]? = some o) (hc : o.isCells = false) (o' : Obj) (h0 : 0 < l) : Stay W (W.putObj l o') := by
  have hne : ∀ (q : Nat) (cs : Array Value) (t : TypeId), W.heap[q]? = some (Obj.cells cs t) → q ≠ l := fun q cs t e e' => by
    subst e'
    rw [e] at h
    cases h
    cases hc
  have hsame : ∀ q, q ≠ l → q < W.heap.size → (W.putObj l o').heap[q]? = W.heap[q]? := fun q hq hlt => (grownBy_putObj' W l o').block q hlt (fun e' => hq (by cases e'; rfl))
  refine ⟨fun q cs e => (hsame q (hne q cs _ e) (Array.getElem?_eq_some_iff.1 e).1).trans e, fun t k hk => ?_⟩
  have hc := t k hk
  have hlt : 0 < W.heap.size := by
    refine Nat.lt_of_not_le fun hn => ?_
    rw [World.cell?, Array.getElem?_eq_none hn] at hc
    cases hc
  rw [World.cell?_of_block (w := W) (hsame 0 (by omega) hlt)]
  exact hc

section
variable {g : Operand} {ps : Array Tmp} {assign body : Code} {Q : Exit → Act → World → Prop} {a : Act} {w : World} {n : Nat}

/-- The outer range. -/
theorem range_all (h1 : 2 ≤ n) {lb : Array Value} {Bs m : Nat} (hg : a.eval g = .func (.func 26) #[] #[.pointer (some ⟨Bs, 0, none⟩)]) (hm : m < 256) (hT : TabAt w) (hc : w.cell? ⟨Bs, 0, none⟩ = some (.int .u64 ((spread m : Nat) : Int))) (hps : ps.size = 1)
    (A : Act → Nat → Act) (I : List Nat → World → Prop) (Ix : Code → List Nat → World → Prop) (hI : OwnFrom w.heap.size I) (hIx : ∀ c, OwnFrom w.heap.size (Ix c)) (h0 : I [] w)
    (T : Nat → World → Prop) (tail : ∀ D W, T D W → Q .normal { a with defers := { target := .collected D, args := #[] } :: a.defers } W)
    (hassign : ∀ (l : Nat) (x : Nat) (W : World) (K : Act → World → Prop), K (A a x) W →
      assign.wpIn (Fence.wide.inRound l) (n - 1 - 1) Tryd.prog (Exit.then K (fun _ _ _ => False)) { tmps := (ps.zip #[Value.int .i64 (x : Int)]).foldl (fun t (p, v) => t.setIfInBounds p v) a.tmps, defers := [] } W)
    (hbody : ∀ (l : Nat) (pre : List Nat) (x : Nat) (W : World), w.heap.size ≤ l → (∃ r, W.heap[l]? = some (.loop r)) → I pre W → pre.length < (slM m).length → body.wpIn (Fence.wide.inRound l) (n - 1 - 1) Tryd.prog (ownPostG w.heap.size Stay I Ix (pre ++ [x]) W) (A a x) W)
    (hdone : ∀ (D : Nat) (W : World), w.heap.size ≤ D → I (slM m) W → W.heap[D]? = some (.deferred (some [])) → T D W)
    (hstop : ∀ (D : Nat) (c : Code) (pre : List Nat) (W : World), w.heap.size ≤ D → pre <+: slM m → Ix c pre W → W.heap[D]? = some (.deferred (some [])) → T D W ∧ ∀ a' W', Q .normal a' W' → c.wpIn Fence.wide n Tryd.prog Q a' W') :
    (Code.rangeFunc g ps assign body).wp Tryd.prog Q a w := by
  have hpos : 0 < w.heap.size := by
    have := hT 0 (by decide)
    refine Nat.lt_of_not_le fun hn => ?_
    rw [World.cell?, Array.getElem?_eq_none hn] at this
    cases this
  rw [← wpIn_wide (n := n)]
  refine wpIn_rangeFunc_ownH rfl (by omega) (gf := 26) (lb := #[.pointer (some ⟨Bs, 0, none⟩)]) hg trivial (enters_of Tryd.func26 (by kernel_rfl) rfl)
    (all_stops (n - 1) (by omega) Bs m hm w hT hc) Stay.trans (fun W l o o' hl h hc _ => Stay.put h hc o' (by omega)) (Below.refl _ _) (fun _ => by rw [hps]; rfl)
    I Ix hI hIx h0 (fun x a' _ => a' = A a x) (fun _ _ _ _ _ _ hs _ _ => hs)
    (fun l pre x W K hi hK => hassign l x W K (hK _ _ (KeepsFrom.refl _ _) (Stay.refl _) hi rfl))
    (fun l pre x a' W hl hr hi e hlt => by subst e; exact hbody l pre x W hl hr hi hlt)
    (fun D xs W hD hS hi hK => by subst hS; exact tail D W (hdone D W hD hi hK))
    (fun D c pre W hD hS hi hK => by
      obtain ⟨h1, h2⟩ := hstop D c pre W hD hS hi hK
      exact h2 _ _ (tail D W h1))

/-- The inner range: within a round of loop l₀. -/
theorem range_within {F : Fence} {l₀ : Nat} {r₀ : Loop} (hF : F = Fence.wide.inRound l₀) (hl₀ : w.heap[l₀]? = some (.loop r₀)) (h1 : 2 ≤ n) {Bs m : Nat} (hg : a.eval g = .func (.func 26) #[] #[.pointer (some ⟨Bs, 0, none⟩)]) (hm : m < 256) (hT : TabAt w) (hc : w.cell? ⟨Bs, 0, none⟩ = some (.int .u64 ((spread m : Nat) : Int))) (hps : ps.size = 1)
    (A : Act → Nat → Act) (I : List Nat → World → Prop) (Ix : Code → List Nat → World → Prop) (hI : OwnFrom w.heap.size I) (hIx : ∀ c, OwnFrom w.heap.size (Ix c)) (h0 : I [] w)
    (hassign : ∀ (l : Nat) (x : Nat) (W : World) (K : Act → World → Prop), K (A a x) W →
      assign.wpIn (F.inRound l) (n - 1 - 1) Tryd.prog (Exit.then K (fun _ _ _ => False)) { tmps := (ps.zip #[Value.int .i64 (x : Int)]).foldl (fun t (p, v) => t.setIfInBounds p v) a.tmps, defers := [] } W)
    (hbody : ∀ (l : Nat) (pre : List Nat) (x : Nat) (W : World), w.heap.size ≤ l → I pre W → pre.length < (slM m).length → body.wpIn (F.inRound l) (n - 1 - 1) Tryd.prog (ownPostG w.heap.size Stay I Ix (pre ++ [x]) W) (A a x) W)
    (hdone : ∀ (W : World), I (slM m) W → Q .normal a W)
    (hstop : ∀ (c : Code) (pre : List Nat) (W : World), pre <+: slM m → Ix c pre W → c.wpIn F n Tryd.prog Q a W) :
    (Code.rangeFunc g ps assign body).wpIn F n Tryd.prog Q a w := by
  have hpos : 0 < w.heap.size := by
    have := hT 0 (by decide)
    refine Nat.lt_of_not_le fun hn => ?_
    rw [World.cell?, Array.getElem?_eq_none hn] at this
    cases this
  subst hF
  exact wpIn_rangeFunc_ownN (l₀ := l₀) (r₀ := r₀) rfl hl₀ (by omega) (gf := 26) (lb := #[.pointer (some ⟨Bs, 0, none⟩)]) hg trivial (enters_of Tryd.func26 (by kernel_rfl) rfl)
    ((all_stops (n - 1) (by omega) Bs m hm w hT hc).inRound l₀) Stay.trans (fun W l o o' hl h hc _ => Stay.put h hc o' (by omega)) (Below.refl _ _) (fun _ => by rw [hps]; rfl)
    I Ix hI hIx h0 (fun x a' _ => a' = A a x) (fun _ _ _ _ _ _ hs _ _ => hs)
    (fun l pre x W K hi hK => hassign l x W K (hK _ _ (KeepsFrom.refl _ _) (Stay.refl _) hi rfl))
    (fun l pre x a' W hl hr hi e hlt => by subst e; exact hbody l pre x W hl hi hlt)
    (fun xs W hS hi => by subst hS; exact hdone W hi)
    (fun c pre W hS hi => hstop c pre W hS hi)
end
end Go.Proofs.YtbpgjlengpgnnabDoor
