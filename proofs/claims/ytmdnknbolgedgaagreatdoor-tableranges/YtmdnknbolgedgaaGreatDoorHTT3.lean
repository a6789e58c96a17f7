/-
  As TT1, where each round leaves blocks of one type as they are: an iterator may keep a block of that type across its yields.
-/
import Derived.Test.YtmdnknbolgedgaaGreatDoorUn20
import Derived.RangeFuncBox
import Derived.RangeFuncNested
import Derived.RangeFuncLeaves
import Derived.RangeFuncWrites
import Derived.Shelf.Abstract
import Derived.OwnWalkIn
import Derived.TacticsInMore
import Derived.LoopNIn
import Derived.LoopIn
import Derived.Sort.LoopGhostIn
namespace Go.Proofs.YtmdnknbolgedgaaGreatDoor
open Go.RowKit Go.Shelf Ly Ct
set_option linter.unusedVariables false

section
variable {σ α : Type}

/-- Blocks of the type stay as they are. -/
def StayT (Ty : TypeId) (V V' : World) : Prop := ∀ (k : Nat) (cs : Array Value) (fz : Nat × Nat), V.heap[k]? = some (Obj.cells cs Ty fz) → V'.heap[k]? = some (Obj.cells cs Ty fz)
theorem StayT.refl (Ty : TypeId) (V : World) : StayT Ty V V := fun _ _ _ h => h
theorem StayT.trans {Ty : TypeId} {V V' V'' : World} (h : StayT Ty V V') (k : StayT Ty V' V'') : StayT Ty V V'' := fun i cs fz q => k i cs fz (h i cs fz q)
theorem StayT.keeps {Ty : TypeId} {V V' : World} (h : Keeps V V' (fun _ => False)) : StayT Ty V V' := fun i cs fz q => h.blk q
theorem StayT.keepsS {Ty : TypeId} {V V' : World} {S : Nat → Prop} (h : Keeps V V' S) (hS : ∀ k, S k → ∀ cs fz, V.heap[k]? ≠ some (Obj.cells cs Ty fz)) : StayT Ty V V' := fun i cs fz q => (h.block i (heap_lt q) (fun z => hS i z cs fz q)).trans q
theorem StayT.put {Ty : TypeId} {V : World} {l : Nat} {r : Loop} {o : Obj} (h : V.heap[l]? = some (.loop r)) : StayT Ty V (V.putObj l o) := fun i cs fz q => by
  have : i ≠ l := fun e => by
    rw [e, h] at q
    cases q
  exact (World.putObj_heap_other this).trans q

/-- The iterator's word: at a state s it gives an x with Gx x s; behind the round the state is one with Nx x s; at its end Ex holds of the state. What it needs of the world at a state is Rx. -/
def SeqStay (Ty : TypeId) (n : Nat) (g : Nat) (lb : Array Value) (encs : α → Array Value) (Gx : α → σ → Prop) (Nx : α → σ → σ → Prop) (Ex : σ → Prop) (Rx : σ → World → Prop) (s0 : σ) : Prop :=
  ∀ (l : Nat) (J : σ → World → Prop) (Jx : World → Prop) (W : World), (∀ s V V', J s V → Keeps V V' (fun _ => False) → J s V') → (∀ s V, J s V → Rx s V) →
    (∀ x s V, J s V → Gx x s → YieldAt Fence.wide (n - 1) Tryz.prog l (encs x) V fun e V' => StayT Ty V V' ∧ ((e = .returned (.bool true) ∧ ∃ s', Nx x s s' ∧ J s' V') ∨ (e = .returned (.bool false) ∧ Jx V'))) →
    J s0 W →
    CallsIn Fence.wide n Tryz.prog g (#[.func (.yield l) #[] #[]] ++ lb) W fun e W' => (∃ v, e = .returned v) ∧ ((∃ s, Ex s ∧ J s W') ∨ Jx W')

/-- How a round's body may be left: the loop's two blocks lie as they lay. -/
def StayPost (Ty : TypeId) (B : Nat) (I : σ → World → Prop) (Ix : Code → World → Prop) (Nx : σ → Prop) (W : World) : Exit → Act → World → Prop
  | .normal, _, V => StayT Ty W V ∧ (∀ k, k = B ∨ k = B + 1 → V.heap[k]? = W.heap[k]?) ∧ ∃ s, Nx s ∧ I s V
  | .ret, _, V => StayT Ty W V ∧ (∀ k, k = B ∨ k = B + 1 → V.heap[k]? = W.heap[k]?) ∧ Ix .ret V
  | .exit i, _, V => StayT Ty W V ∧ (∀ k, k = B ∨ k = B + 1 → V.heap[k]? = W.heap[k]?) ∧ Ix (.exit i) V
  | .goto t, _, V => StayT Ty W V ∧ (∀ k, k = B ∨ k = B + 1 → V.heap[k]? = W.heap[k]?) ∧ Ix (.goto t) V
  | .panic _, _, _ => False
  | .outgrown, _, _ => False

theorem range_stay {Ty : TypeId} {n : Nat} {op : Operand} {ps : Array Tmp} {assign body : Code} {Q : Exit → Act → World → Prop} {a : Act} {w : World} (h1 : 2 ≤ n) {gf : Nat} {lb : Array Value}
    (hop : a.eval op = .func (.func gf) #[] lb) (eg : ∀ args w, (callFunc gf args).run Tryz.prog w = .ok (.enter gf args) w)
    {encs : α → Array Value} {Gx : α → σ → Prop} {Nx : α → σ → σ → Prop} {Ex : σ → Prop} {Rx : σ → World → Prop} {s0 : σ} (hseq : SeqStay Ty (n - 1) gf lb encs Gx Nx Ex Rx s0)
    (hps : ∀ x, (encs x).size = ps.size) (Ax : Act → α → Act → World → Prop) (hAx : ∀ x a' V r o, Ax a x a' V → V.heap[w.heap.size + 1]? = some (.loop r) → Ax a x a' (V.putObj (w.heap.size + 1) o)) (I : σ → World → Prop) (Ix : Code → World → Prop) (hR : ∀ s V, I s V → Rx s V)
    (hI : ∀ s V V', I s V → Keeps V V' (fun _ => False) → I s V')
    (hIp : ∀ s V r o, I s V → V.heap[w.heap.size + 1]? = some (.loop r) → I s (V.putObj (w.heap.size + 1) o))
    (hXp : ∀ c V r o, Ix c V → V.heap[w.heap.size + 1]? = some (.loop r) → Ix c (V.putObj (w.heap.size + 1) o))
    (h0 : ∀ r, I s0 ((w.alloc (.deferred (some []))).alloc (.loop r)))
    (hassign : ∀ x s W (K : Act → World → Prop), I s W → (∀ a' W', Keeps W W' (fun _ => False) → Ax a x a' W' → K a' W') →
      assign.wpIn (Fence.wide.inRound (w.heap.size + 1)) (n - 1 - 1) Tryz.prog (Exit.then K (fun _ _ _ => False)) { tmps := (ps.zip (encs x)).foldl (fun t (p, v) => t.setIfInBounds p v) a.tmps, defers := [] } W)
    (hbody : ∀ x s a' W, (∃ r, W.heap[w.heap.size + 1]? = some (.loop r)) → I s W → Ax a x a' W → Gx x s → body.wpIn (Fence.wide.inRound (w.heap.size + 1)) (n - 1 - 1) Tryz.prog (StayPost Ty w.heap.size I Ix (Nx x s) W) a' W)
    (hdone : ∀ s W, Ex s → I s W → W.heap[w.heap.size]? = some (.deferred (some [])) → Q .normal { a with defers := { target := .collected w.heap.size, args := #[] } :: a.defers } W)
    (hstop : ∀ c W, Ix c W → W.heap[w.heap.size]? = some (.deferred (some [])) → c.wpIn Fence.wide n Tryz.prog Q { a with defers := { target := .collected w.heap.size, args := #[] } :: a.defers } W) :
    (Code.rangeFunc op ps assign body).wpIn Fence.wide n Tryz.prog Q a w := by
  apply wpIn_rangeFunc
  intro fn hfn
  let rec_ : LoopState → Option Code → Loop := fun st pe => { state := st, pending := pe, fn := fn, tmps := a.tmps, params := ps, assign := assign, body := body, defers := w.heap.size }
  obtain ⟨W1, hW1⟩ : ∃ W1, (w.alloc (.deferred (some []))).alloc (.loop (rec_ .ready none)) = W1 := ⟨_, rfl⟩
  have hi0 : I s0 W1 := hW1 ▸ h0 _
  have hLs : W1.heap[w.heap.size + 1]? = some (.loop (rec_ .ready none)) := by
    have := World.alloc_heap_new (w.alloc (.deferred (some []))) (.loop (rec_ .ready none))
    rw [← hW1]
    rwa [World.size_alloc] at this
  have hDs : W1.heap[w.heap.size]? = some (.deferred (some [])) := by
    rw [← hW1]
    exact (Below.heap_alloc _ _ _ (by simp)).trans (World.alloc_heap_new w _)
  refine ⟨w.heap.size + 1, [{ target := .collected w.heap.size, args := #[] }], W1, { target := .fn (.func gf) lb, args := #[.func (.yield (w.heap.size + 1)) #[] #[]] }, W1, gf,
    #[.func (.yield (w.heap.size + 1)) #[] #[]] ++ lb, W1, by rw [← hW1]; exact run_enterLoop_outer fn a.tmps ps assign body, ?_, fun _ _ => trivial, ?_, fun _ => by omega, ?_⟩
  · simp only [resolve, hop]
    simp [go_sem]
  · simp [invoke, go_sem, eg]
  · have two : ∀ {U : World} {o : Obj}, U.heap[w.heap.size + 1]? = some o → U.heap[w.heap.size]? = some (.deferred (some [])) → ∀ o' : Obj,
        (U.putObj (w.heap.size + 1) o').heap[w.heap.size + 1]? = some o' ∧ (U.putObj (w.heap.size + 1) o').heap[w.heap.size]? = some (.deferred (some [])) := fun hu hd o' =>
      ⟨World.putObj_heap_same (heap_lt hu), (World.putObj_heap_other (by omega)).trans hd⟩
    refine (hseq (w.heap.size + 1) (fun s U => I s U ∧ U.heap[w.heap.size + 1]? = some (.loop (rec_ .ready none)) ∧ U.heap[w.heap.size]? = some (.deferred (some [])))
      (fun U => ∃ c, Ix c U ∧ U.heap[w.heap.size + 1]? = some (.loop (rec_ .done (some c))) ∧ U.heap[w.heap.size]? = some (.deferred (some []))) W1
      (fun s U U' h k => ⟨hI s U U' h.1 k, k.blk h.2.1, k.blk h.2.2⟩) (fun s U h => hR s U h.1) ?_ ⟨hi0, hLs, hDs⟩).mono ?_
    · rintro x s U ⟨hi, hl, hd⟩ hG
      refine ⟨fn, _, assign, body, run_yield hl (hps x), roundIn_of_wpIn hfn (hassign x s U _ hi ?_)⟩
      intro a' U1 k1 hax
      have q1 : StayT Ty U U1 := StayT.keeps k1
      replace hi := hI s U U1 hi k1
      replace hl := k1.blk hl
      replace hd := k1.blk hd
      clear k1
      obtain ⟨U0, hU0⟩ : ∃ U0, U0 = U := ⟨_, rfl⟩
      rw [← hU0] at q1 ⊢
      clear hU0 U
      obtain ⟨U, rfl⟩ : ∃ U, U = U1 := ⟨_, rfl⟩
      have q2 := q1.trans (StayT.put (o := .loop { rec_ .ready none with state := .busy }) hl)
      refine ⟨_, run_beginRound hl rfl, ?_⟩
      have hb := two hl hd (.loop { rec_ .ready none with state := .busy })
      have hi2 := hIp s U _ (.loop { rec_ .ready none with state := .busy }) hi hl
      refine wpIn_mono (hbody x s a' _ ⟨_, hb.1⟩ hi2 (hAx x a' U _ _ hax hl) hG) ?_
      have fin : ∀ (j : Option Code) (U' : World), (∀ k, k = w.heap.size ∨ k = w.heap.size + 1 → U'.heap[k]? = (U.putObj (w.heap.size + 1) (.loop { rec_ .ready none with state := .busy })).heap[k]?) →
          (Instr.endRound (w.heap.size + 1) j).run Tryz.prog U' = .ok (.bool j.isNone) (U'.putObj (w.heap.size + 1) (.loop (rec_ (if j.isNone then .ready else .done) j))) ∧
          U'.heap[w.heap.size + 1]? = some (.loop { rec_ .ready none with state := .busy }) ∧ U'.heap[w.heap.size]? = some (.deferred (some [])) := fun j U' h =>
        ⟨run_endRound j ((h _ (Or.inr rfl)).trans hb.1), (h _ (Or.inr rfl)).trans hb.1, (h _ (Or.inl rfl)).trans hb.2⟩
      intro e a2 U' hp
      cases e with
      | normal =>
        obtain ⟨q3, hk, s', hN, hi'⟩ := hp
        obtain ⟨r1, r2, r3⟩ := fin none U' hk
        exact ⟨_, _, r1, (q2.trans q3).trans (StayT.put r2), .inl ⟨rfl, s', hN, hIp s' U' _ _ hi' r2, two r2 r3 _⟩⟩
      | ret =>
        obtain ⟨r1, r2, r3⟩ := fin (some .ret) U' hp.2.1
        exact ⟨_, _, r1, (q2.trans hp.1).trans (StayT.put r2), .inr ⟨rfl, _, hXp _ U' _ _ hp.2.2 r2, two r2 r3 _⟩⟩
      | exit i =>
        obtain ⟨r1, r2, r3⟩ := fin (some (.exit i)) U' hp.2.1
        exact ⟨_, _, r1, (q2.trans hp.1).trans (StayT.put r2), .inr ⟨rfl, _, hXp _ U' _ _ hp.2.2 r2, two r2 r3 _⟩⟩
      | goto t =>
        obtain ⟨r1, r2, r3⟩ := fin (some (.goto t)) U' hp.2.1
        exact ⟨_, _, r1, (q2.trans hp.1).trans (StayT.put r2), .inr ⟨rfl, _, hXp _ U' _ _ hp.2.2 r2, two r2 r3 _⟩⟩
      | panic _ => exact hp.elim
      | outgrown => exact hp.elim
    · rintro e U ⟨⟨v, rfl⟩, h⟩
      rcases h with ⟨s, hE, hi, hl, hd⟩ | ⟨c, hx, hl, hd⟩
      · exact ⟨none, _, run_endLoop hl (by simp [rec_]), hdone s _ hE (hIp s U _ _ hi hl) (two hl hd _).2⟩
      · exact ⟨some c, _, run_endLoop hl (by simp [rec_]), hstop c _ (hXp c U _ _ hx hl) (two hl hd _).2⟩
end
end Go.Proofs.YtmdnknbolgedgaaGreatDoor
