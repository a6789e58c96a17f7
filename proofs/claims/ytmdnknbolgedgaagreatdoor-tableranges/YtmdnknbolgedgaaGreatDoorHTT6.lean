/-
  As TT3 and TT5, where the iterator chooses one block of its own that the rounds leave as it is.
-/
import Derived.Test.YtmdnknbolgedgaaGreatDoorUn20
import Derived.RangeFuncBox
import Derived.RangeFuncNested
namespace Go.Proofs.YtmdnknbolgedgaaGreatDoor
open Go.RowKit Go.Shelf Ly Ct
set_option linter.unusedVariables false

section
variable {σ α : Type}

/-- The block of the choice stays. -/
def StayO (o : Option Nat) (V V' : World) : Prop := ∀ q, o = some q → V'.heap[q]? = V.heap[q]?
theorem StayO.trans {o : Option Nat} {V V' V'' : World} (h : StayO o V V') (k : StayO o V' V'') : StayO o V V'' := fun q e => (k q e).trans (h q e)
theorem StayO.keeps {o : Option Nat} {V V' : World} (h : Keeps V V' (fun _ => False)) (hl : ∀ q, o = some q → q < V.heap.size) : StayO o V V' := fun q e => h.block q (hl q e) id
theorem StayO.put {o : Option Nat} {V : World} {l : Nat} (h : ∀ q, o = some q → q ≠ l) {x : Obj} : StayO o V (V.putObj l x) := fun q e => World.putObj_heap_other (h q e)
/-- A block between two marks. -/
def Btw (a b : Nat) (o : Option Nat) : Prop := ∀ q, o = some q → a ≤ q ∧ q < b

def SeqOne (n : Nat) (g : Nat) (lb : Array Value) (encs : α → Array Value) (Gx : α → σ → Prop) (Nx : α → σ → σ → Prop) (Ex : σ → Prop) (Rx : σ → World → Prop) (s0 : σ) : Prop :=
  ∀ (l : Nat) (J : Option Nat → σ → World → Prop) (Jx : World → Prop) (W : World), (∀ o s V V', J o s V → Keeps V V' (fun _ => False) → J o s V') → (∀ o s V, J o s V → Rx s V) →
    (∀ o x s V, J o s V → Gx x s → YieldAt Fence.wide (n - 1) Tryz.prog l (encs x) V fun e V' => StayO o V V' ∧ ((e = .returned (.bool true) ∧ ∃ s', Nx x s s' ∧ J o s' V') ∨ (e = .returned (.bool false) ∧ Jx V'))) →
    (∀ o V, Keeps W V (fun _ => False) → Btw W.heap.size V.heap.size o → J o s0 V) →
    CallsIn Fence.wide n Tryz.prog g (#[.func (.yield l) #[] #[]] ++ lb) W fun e W' => (∃ v, e = .returned v) ∧ ((∃ o s, Ex s ∧ J o s W') ∨ Jx W')

/-- How a round's body may be left: the loop's two blocks lie as they lay. -/
def OnePost (o : Option Nat) (B : Nat) (I : Option Nat → σ → World → Prop) (Ix : Code → World → Prop) (Nx : σ → Prop) (W : World) : Exit → Act → World → Prop
  | .normal, _, V => StayO o W V ∧ (∀ k, k = B ∨ k = B + 1 → V.heap[k]? = W.heap[k]?) ∧ ∃ s, Nx s ∧ I o s V
  | .ret, _, V => StayO o W V ∧ (∀ k, k = B ∨ k = B + 1 → V.heap[k]? = W.heap[k]?) ∧ Ix .ret V
  | .exit i, _, V => StayO o W V ∧ (∀ k, k = B ∨ k = B + 1 → V.heap[k]? = W.heap[k]?) ∧ Ix (.exit i) V
  | .goto t, _, V => StayO o W V ∧ (∀ k, k = B ∨ k = B + 1 → V.heap[k]? = W.heap[k]?) ∧ Ix (.goto t) V
  | .panic _, _, _ => False
  | .outgrown, _, _ => False

theorem range_one {n : Nat} {op : Operand} {ps : Array Tmp} {assign body : Code} {Q : Exit → Act → World → Prop} {a : Act} {w : World} (h1 : 2 ≤ n) {gf : Nat} {lb : Array Value}
    (hop : a.eval op = .func (.func gf) #[] lb) (eg : ∀ args w, (callFunc gf args).run Tryz.prog w = .ok (.enter gf args) w)
    {encs : α → Array Value} {Gx : α → σ → Prop} {Nx : α → σ → σ → Prop} {Ex : σ → Prop} {Rx : σ → World → Prop} {s0 : σ} (hseq : SeqOne (n - 1) gf lb encs Gx Nx Ex Rx s0)
    (hps : ∀ x, (encs x).size = ps.size) (Ax : Option Nat → Act → α → Act → World → Prop) (hAx : ∀ o x a' V r y, Ax o a x a' V → V.heap[w.heap.size + 1]? = some (.loop r) → Ax o a x a' (V.putObj (w.heap.size + 1) y)) (I : Option Nat → σ → World → Prop) (Ix : Code → World → Prop) (hR : ∀ o s V, I o s V → Rx s V) (hlt : ∀ o s V, I o s V → ∀ q, o = some q → q < V.heap.size)
    (hI : ∀ o s V V', I o s V → Keeps V V' (fun _ => False) → I o s V')
    (hIp : ∀ o s V r x, I o s V → V.heap[w.heap.size + 1]? = some (.loop r) → I o s (V.putObj (w.heap.size + 1) x))
    (hXp : ∀ c V r o, Ix c V → V.heap[w.heap.size + 1]? = some (.loop r) → Ix c (V.putObj (w.heap.size + 1) o))
    (h0 : ∀ o V r, Keeps w V (fun _ => False) → V.heap[w.heap.size + 1]? = some (.loop r) → V.heap[w.heap.size]? = some (.deferred (some [])) → Btw (w.heap.size + 1 + 1) V.heap.size o → I o s0 V)
    (hassign : ∀ o x s W (K : Act → World → Prop), I o s W → (∀ a' W', Keeps W W' (fun _ => False) → Ax o a x a' W' → K a' W') →
      assign.wpIn (Fence.wide.inRound (w.heap.size + 1)) (n - 1 - 1) Tryz.prog (Exit.then K (fun _ _ _ => False)) { tmps := (ps.zip (encs x)).foldl (fun t (p, v) => t.setIfInBounds p v) a.tmps, defers := [] } W)
    (hbody : ∀ o x s a' W, (∃ r, W.heap[w.heap.size + 1]? = some (.loop r)) → I o s W → Ax o a x a' W → Gx x s → body.wpIn (Fence.wide.inRound (w.heap.size + 1)) (n - 1 - 1) Tryz.prog (OnePost o w.heap.size I Ix (Nx x s) W) a' W)
    (hdone : ∀ o s W, Ex s → I o s W → W.heap[w.heap.size]? = some (.deferred (some [])) → Q .normal { a with defers := { target := .collected w.heap.size, args := #[] } :: a.defers } W)
    (hstop : ∀ c W, Ix c W → W.heap[w.heap.size]? = some (.deferred (some [])) → c.wpIn Fence.wide n Tryz.prog Q { a with defers := { target := .collected w.heap.size, args := #[] } :: a.defers } W) :
    (Code.rangeFunc op ps assign body).wpIn Fence.wide n Tryz.prog Q a w := by
  apply wpIn_rangeFunc
  intro fn hfn
  let rec_ : LoopState → Option Code → Loop := fun st pe => { state := st, pending := pe, fn := fn, tmps := a.tmps, params := ps, assign := assign, body := body, defers := w.heap.size }
  obtain ⟨W1, hW1⟩ : ∃ W1, (w.alloc (.deferred (some []))).alloc (.loop (rec_ .ready none)) = W1 := ⟨_, rfl⟩
  have kw1 : Keeps w W1 (fun _ => False) := by rw [← hW1]; exact ((Keeps.refl _ _).alloc _).alloc _
  have hLs : W1.heap[w.heap.size + 1]? = some (.loop (rec_ .ready none)) := by
    have := World.alloc_heap_new (w.alloc (.deferred (some []))) (.loop (rec_ .ready none))
    rw [← hW1]
    rwa [World.size_alloc] at this
  have hDs : W1.heap[w.heap.size]? = some (.deferred (some [])) := by
    rw [← hW1]
    exact (Below.heap_alloc _ _ _ (by simp)).trans (World.alloc_heap_new w _)
  refine ⟨w.heap.size + 1, [{ target := .collected w.heap.size, args := #[] }], W1, { target := .fn (.func gf) lb, args := #[.func (.yield (w.heap.size + 1)) #[] #[]] }, W1, gf,
    #[.func (.yield (w.heap.size + 1)) #[] #[]] ++ lb, W1, by rw [← hW1]; exact run_enterLoop_outer fn a.tmps ps assign body, ?_, fun _ _ => trivial, ?_, fun _ => by omega, ?_⟩
  · simp only [resolve, hop]
    simp [go_sem]
  · simp [invoke, go_sem, eg]
  · have two : ∀ {U : World} {o : Obj}, U.heap[w.heap.size + 1]? = some o → U.heap[w.heap.size]? = some (.deferred (some [])) → ∀ o' : Obj,
        (U.putObj (w.heap.size + 1) o').heap[w.heap.size + 1]? = some o' ∧ (U.putObj (w.heap.size + 1) o').heap[w.heap.size]? = some (.deferred (some [])) := fun hu hd o' =>
      ⟨World.putObj_heap_same (heap_lt hu), (World.putObj_heap_other (by omega)).trans hd⟩
    refine (hseq (w.heap.size + 1) (fun o s U => (∀ q, o = some q → q ≠ w.heap.size + 1) ∧ I o s U ∧ U.heap[w.heap.size + 1]? = some (.loop (rec_ .ready none)) ∧ U.heap[w.heap.size]? = some (.deferred (some [])))
      (fun U => ∃ c, Ix c U ∧ U.heap[w.heap.size + 1]? = some (.loop (rec_ .done (some c))) ∧ U.heap[w.heap.size]? = some (.deferred (some []))) W1
      (fun o s U U' h k => ⟨h.1, hI o s U U' h.2.1 k, k.blk h.2.2.1, k.blk h.2.2.2⟩) (fun o s U h => hR o s U h.2.1) ?_ (fun o V k hb => ⟨fun q e => by have := (hb q e).1; have := heap_lt hLs; omega, h0 o V _ (kw1.trans k (fun _ _ e => e)) (k.blk hLs) (k.blk hDs) (fun q e => ⟨by have := (hb q e).1; have := heap_lt hLs; omega, (hb q e).2⟩), k.blk hLs, k.blk hDs⟩)).mono ?_
    · rintro o x s U ⟨hqn, hi, hl, hd⟩ hG
      refine ⟨fn, _, assign, body, run_yield hl (hps x), roundIn_of_wpIn hfn (hassign o x s U _ hi ?_)⟩
      intro a' U1 k1 hax
      have q1 : StayO o U U1 := StayO.keeps k1 (hlt o s U hi)
      replace hi := hI o s U U1 hi k1
      replace hl := k1.blk hl
      replace hd := k1.blk hd
      clear k1
      obtain ⟨U0, hU0⟩ : ∃ U0, U0 = U := ⟨_, rfl⟩
      rw [← hU0] at q1 ⊢
      clear hU0 U
      obtain ⟨U, rfl⟩ : ∃ U, U = U1 := ⟨_, rfl⟩
      have q2 := q1.trans (StayO.put hqn (x := .loop { rec_ .ready none with state := .busy }))
      refine ⟨_, run_beginRound hl rfl, ?_⟩
      have hb := two hl hd (.loop { rec_ .ready none with state := .busy })
      have hi2 := hIp o s U _ (.loop { rec_ .ready none with state := .busy }) hi hl
      refine wpIn_mono (hbody o x s a' _ ⟨_, hb.1⟩ hi2 (hAx o x a' U _ _ hax hl) hG) ?_
      have fin : ∀ (j : Option Code) (U' : World), (∀ k, k = w.heap.size ∨ k = w.heap.size + 1 → U'.heap[k]? = (U.putObj (w.heap.size + 1) (.loop { rec_ .ready none with state := .busy })).heap[k]?) →
          (Instr.endRound (w.heap.size + 1) j).run Tryz.prog U' = .ok (.bool j.isNone) (U'.putObj (w.heap.size + 1) (.loop (rec_ (if j.isNone then .ready else .done) j))) ∧
          U'.heap[w.heap.size + 1]? = some (.loop { rec_ .ready none with state := .busy }) ∧ U'.heap[w.heap.size]? = some (.deferred (some [])) := fun j U' h =>
        ⟨run_endRound j ((h _ (Or.inr rfl)).trans hb.1), (h _ (Or.inr rfl)).trans hb.1, (h _ (Or.inl rfl)).trans hb.2⟩
      intro e a2 U' hp
      cases e with
      | normal =>
        obtain ⟨q3, hk, s', hN, hi'⟩ := hp
        obtain ⟨r1, r2, r3⟩ := fin none U' hk
        exact ⟨_, _, r1, (q2.trans q3).trans (StayO.put hqn), .inl ⟨rfl, s', hN, hqn, hIp o s' U' _ _ hi' r2, two r2 r3 _⟩⟩
      | ret =>
        obtain ⟨r1, r2, r3⟩ := fin (some .ret) U' hp.2.1
        exact ⟨_, _, r1, (q2.trans hp.1).trans (StayO.put hqn), .inr ⟨rfl, _, hXp _ U' _ _ hp.2.2 r2, two r2 r3 _⟩⟩
      | exit i =>
        obtain ⟨r1, r2, r3⟩ := fin (some (.exit i)) U' hp.2.1
        exact ⟨_, _, r1, (q2.trans hp.1).trans (StayO.put hqn), .inr ⟨rfl, _, hXp _ U' _ _ hp.2.2 r2, two r2 r3 _⟩⟩
      | goto t =>
        obtain ⟨r1, r2, r3⟩ := fin (some (.goto t)) U' hp.2.1
        exact ⟨_, _, r1, (q2.trans hp.1).trans (StayO.put hqn), .inr ⟨rfl, _, hXp _ U' _ _ hp.2.2 r2, two r2 r3 _⟩⟩
      | panic _ => exact hp.elim
      | outgrown => exact hp.elim
    · rintro e U ⟨⟨v, rfl⟩, h⟩
      rcases h with ⟨o, s, hE, -, hi, hl, hd⟩ | ⟨c, hx, hl, hd⟩
      · exact ⟨none, _, run_endLoop hl (by simp [rec_]), hdone o s _ hE (hIp o s U _ _ hi hl) (two hl hd _).2⟩
      · exact ⟨some c, _, run_endLoop hl (by simp [rec_]), hstop c _ (hXp c U _ _ hx hl) (two hl hd _).2⟩
/-- How a round's body may be left: the loop's block lies as it lay. -/
def OnePostN (o : Option Nat) (B : Nat) (I : Option Nat → σ → World → Prop) (Ix : Code → World → Prop) (Nx : σ → Prop) (W : World) : Exit → Act → World → Prop
  | .normal, _, V => StayO o W V ∧ V.heap[B]? = W.heap[B]? ∧ ∃ s, Nx s ∧ I o s V
  | .ret, _, V => StayO o W V ∧ V.heap[B]? = W.heap[B]? ∧ Ix .ret V
  | .exit i, _, V => StayO o W V ∧ V.heap[B]? = W.heap[B]? ∧ Ix (.exit i) V
  | .goto t, _, V => StayO o W V ∧ V.heap[B]? = W.heap[B]? ∧ Ix (.goto t) V
  | .panic _, _, _ => False
  | .outgrown, _, _ => False

theorem range_oneN {n : Nat} {op : Operand} {ps : Array Tmp} {assign body : Code} {Q : Exit → Act → World → Prop} {a : Act} {w : World} {l0 : Nat} {r0 : Loop} (hl0 : w.heap[l0]? = some (.loop r0)) (h1 : 1 ≤ n) {gf : Nat} {lb : Array Value}
    (hop : a.eval op = .func (.func gf) #[] lb) (eg : ∀ args w, (callFunc gf args).run Tryz.prog w = .ok (.enter gf args) w)
    {encs : α → Array Value} {Gx : α → σ → Prop} {Nx : α → σ → σ → Prop} {Ex : σ → Prop} {Rx : σ → World → Prop} {s0 : σ} (hseq : SeqOne (n - 1) gf lb encs Gx Nx Ex Rx s0)
    (hps : ∀ x, (encs x).size = ps.size) (Ax : Option Nat → Act → α → Act → World → Prop) (hAx : ∀ o x a' V r y, Ax o a x a' V → V.heap[w.heap.size]? = some (.loop r) → Ax o a x a' (V.putObj w.heap.size y)) (I : Option Nat → σ → World → Prop) (Ix : Code → World → Prop) (hR : ∀ o s V, I o s V → Rx s V) (hlt : ∀ o s V, I o s V → ∀ q, o = some q → q < V.heap.size)
    (hI : ∀ o s V V', I o s V → Keeps V V' (fun _ => False) → I o s V')
    (hIp : ∀ o s V r x, I o s V → V.heap[w.heap.size]? = some (.loop r) → I o s (V.putObj w.heap.size x))
    (hXp : ∀ c V r o, Ix c V → V.heap[w.heap.size]? = some (.loop r) → Ix c (V.putObj w.heap.size o))
    (h0 : ∀ o V r, Keeps w V (fun _ => False) → V.heap[w.heap.size]? = some (.loop r) → Btw (w.heap.size + 1) V.heap.size o → I o s0 V)
    (hassign : ∀ o x s W (K : Act → World → Prop), I o s W → (∀ a' W', Keeps W W' (fun _ => False) → Ax o a x a' W' → K a' W') →
      assign.wpIn (Fence.wide.inRound w.heap.size) (n - 1 - 1) Tryz.prog (Exit.then K (fun _ _ _ => False)) { tmps := (ps.zip (encs x)).foldl (fun t (p, v) => t.setIfInBounds p v) a.tmps, defers := [] } W)
    (hbody : ∀ o x s a' W, (∃ r, W.heap[w.heap.size]? = some (.loop r)) → I o s W → Ax o a x a' W → Gx x s → body.wpIn (Fence.wide.inRound w.heap.size) (n - 1 - 1) Tryz.prog (OnePostN o w.heap.size I Ix (Nx x s) W) a' W)
    (hdone : ∀ o s W, Ex s → I o s W → Q .normal a W)
    (hstop : ∀ c W, Ix c W → c.wpIn (Fence.wide.inRound l0) n Tryz.prog Q a W) :
    (Code.rangeFunc op ps assign body).wpIn (Fence.wide.inRound l0) n Tryz.prog Q a w := by
  apply wpIn_rangeFunc
  intro fn hfn
  let rec_ : LoopState → Option Code → Loop := fun st pe => { state := st, pending := pe, fn := fn, tmps := a.tmps, params := ps, assign := assign, body := body, defers := r0.defers }
  obtain ⟨W1, hW1⟩ : ∃ W1, w.alloc (.loop (rec_ .ready none)) = W1 := ⟨_, rfl⟩
  have kw1 : Keeps w W1 (fun _ => False) := by rw [← hW1]; exact (Keeps.refl _ _).alloc _
  have hLs : W1.heap[w.heap.size]? = some (.loop (rec_ .ready none)) := by
    rw [← hW1]
    exact World.alloc_heap_new w _
  refine ⟨w.heap.size, [], W1, { target := .fn (.func gf) lb, args := #[.func (.yield w.heap.size) #[] #[]] }, W1, gf,
    #[.func (.yield w.heap.size) #[] #[]] ++ lb, W1, by rw [← hW1]; exact run_enterLoop_inner hl0 fn a.tmps ps assign body, ?_, fun _ _ => trivial, ?_, fun _ => h1, ?_⟩
  · simp only [resolve, hop]
    simp [go_sem]
  · simp [invoke, go_sem, eg]
  · have two : ∀ {U : World} {o : Obj}, U.heap[w.heap.size]? = some o → ∀ o' : Obj, (U.putObj w.heap.size o').heap[w.heap.size]? = some o' := fun hu o' => World.putObj_heap_same (heap_lt hu)
    refine CallsIn.mono (CallsIn.inRound l0 (hseq w.heap.size (fun o s U => (∀ q, o = some q → q ≠ w.heap.size) ∧ I o s U ∧ U.heap[w.heap.size]? = some (.loop (rec_ .ready none)))
      (fun U => ∃ c, Ix c U ∧ U.heap[w.heap.size]? = some (.loop (rec_ .done (some c)))) W1
      (fun o s U U' h k => ⟨h.1, hI o s U U' h.2.1 k, k.blk h.2.2⟩) (fun o s U h => hR o s U h.2.1) ?_ (fun o V k hb => ⟨fun q e => by have := (hb q e).1; have := heap_lt hLs; omega, h0 o V _ (kw1.trans k (fun _ _ e => e)) (k.blk hLs) (fun q e => ⟨by have := (hb q e).1; have := heap_lt hLs; omega, (hb q e).2⟩), k.blk hLs⟩))) ?_
    · rintro o x s U ⟨hqn, hi, hl⟩ hG
      refine ⟨fn, _, assign, body, run_yield hl (hps x), roundIn_of_wpIn hfn (hassign o x s U _ hi ?_)⟩
      intro a' U1 k1 hax
      have q1 : StayO o U U1 := StayO.keeps k1 (hlt o s U hi)
      replace hi := hI o s U U1 hi k1
      replace hl := k1.blk hl
      clear k1
      obtain ⟨U0, hU0⟩ : ∃ U0, U0 = U := ⟨_, rfl⟩
      rw [← hU0] at q1 ⊢
      clear hU0 U
      obtain ⟨U, rfl⟩ : ∃ U, U = U1 := ⟨_, rfl⟩
      have q2 := q1.trans (StayO.put hqn (x := .loop { rec_ .ready none with state := .busy }))
      refine ⟨_, run_beginRound hl rfl, ?_⟩
      have hb := two hl (.loop { rec_ .ready none with state := .busy })
      have hi2 := hIp o s U _ (.loop { rec_ .ready none with state := .busy }) hi hl
      refine wpIn_mono (hbody o x s a' _ ⟨_, hb⟩ hi2 (hAx o x a' U _ _ hax hl) hG) ?_
      have fin : ∀ (j : Option Code) (U' : World), U'.heap[w.heap.size]? = (U.putObj w.heap.size (.loop { rec_ .ready none with state := .busy })).heap[w.heap.size]? →
          (Instr.endRound w.heap.size j).run Tryz.prog U' = .ok (.bool j.isNone) (U'.putObj w.heap.size (.loop (rec_ (if j.isNone then .ready else .done) j))) ∧
          U'.heap[w.heap.size]? = some (.loop { rec_ .ready none with state := .busy }) := fun j U' h =>
        ⟨run_endRound j (h.trans hb), h.trans hb⟩
      intro e a2 U' hp
      cases e with
      | normal =>
        obtain ⟨q3, hk, s', hN, hi'⟩ := hp
        obtain ⟨r1, r2⟩ := fin none U' hk
        exact ⟨_, _, r1, (q2.trans q3).trans (StayO.put hqn), .inl ⟨rfl, s', hN, hqn, hIp o s' U' _ _ hi' r2, two r2 _⟩⟩
      | ret =>
        obtain ⟨r1, r2⟩ := fin (some .ret) U' hp.2.1
        exact ⟨_, _, r1, (q2.trans hp.1).trans (StayO.put hqn), .inr ⟨rfl, _, hXp _ U' _ _ hp.2.2 r2, two r2 _⟩⟩
      | exit i =>
        obtain ⟨r1, r2⟩ := fin (some (.exit i)) U' hp.2.1
        exact ⟨_, _, r1, (q2.trans hp.1).trans (StayO.put hqn), .inr ⟨rfl, _, hXp _ U' _ _ hp.2.2 r2, two r2 _⟩⟩
      | goto t =>
        obtain ⟨r1, r2⟩ := fin (some (.goto t)) U' hp.2.1
        exact ⟨_, _, r1, (q2.trans hp.1).trans (StayO.put hqn), .inr ⟨rfl, _, hXp _ U' _ _ hp.2.2 r2, two r2 _⟩⟩
      | panic _ => exact hp.elim
      | outgrown => exact hp.elim
    · rintro e U ⟨⟨v, rfl⟩, h⟩
      rcases h with ⟨o, s, hE, -, hi, hl⟩ | ⟨c, hx, hl⟩
      · exact ⟨none, _, run_endLoop hl (by simp [rec_]), hdone o s _ hE (hIp o s U _ _ hi hl)⟩
      · exact ⟨some c, _, run_endLoop hl (by simp [rec_]), hstop c _ (hXp c U _ _ hx hl)⟩
end
end Go.Proofs.YtmdnknbolgedgaaGreatDoor
