/-
  As TT1, within a round of another loop: one block, no mark.
-/
import Derived.Test.YtmdnknbolgedgaaGreatDoorUn20
import Derived.RangeFuncBox
import Derived.RangeFuncNested
namespace Go.Proofs.YtmdnknbolgedgaaGreatDoor
open Go.RowKit Go.Shelf Ly Ct
set_option linter.unusedVariables false

section
variable {σ α : Type}

/-- How a round's body may be left: the loop's block lies as it lay. -/
def TiedPostN (B : Nat) (I : σ → World → Prop) (Ix : Code → World → Prop) (Nx : σ → Prop) (W : World) : Exit → Act → World → Prop
  | .normal, _, V => V.heap[B]? = W.heap[B]? ∧ ∃ s, Nx s ∧ I s V
  | .ret, _, V => V.heap[B]? = W.heap[B]? ∧ Ix .ret V
  | .exit i, _, V => V.heap[B]? = W.heap[B]? ∧ Ix (.exit i) V
  | .goto t, _, V => V.heap[B]? = W.heap[B]? ∧ Ix (.goto t) V
  | .panic _, _, _ => False
  | .outgrown, _, _ => False

theorem range_tiedN {n : Nat} {op : Operand} {ps : Array Tmp} {assign body : Code} {Q : Exit → Act → World → Prop} {a : Act} {w : World} {l0 : Nat} {r0 : Loop} (hl0 : w.heap[l0]? = some (.loop r0)) (h1 : 1 ≤ n) {gf : Nat} {lb : Array Value}
    (hop : a.eval op = .func (.func gf) #[] lb) (eg : ∀ args w, (callFunc gf args).run Tryz.prog w = .ok (.enter gf args) w)
    {encs : α → Array Value} {Gx : α → σ → Prop} {Nx : α → σ → σ → Prop} {Ex : σ → Prop} {Rx : σ → World → Prop} {s0 : σ} (hseq : SeqTied (n - 1) gf lb encs Gx Nx Ex Rx s0)
    (hps : ∀ x, (encs x).size = ps.size) (Ax : Act → α → Act → World → Prop) (hAx : ∀ x a' V r o, Ax a x a' V → V.heap[w.heap.size]? = some (.loop r) → Ax a x a' (V.putObj w.heap.size o)) (I : σ → World → Prop) (Ix : Code → World → Prop) (hR : ∀ s V, I s V → Rx s V)
    (hI : ∀ s V V', I s V → Keeps V V' (fun _ => False) → I s V')
    (hIp : ∀ s V r o, I s V → V.heap[w.heap.size]? = some (.loop r) → I s (V.putObj w.heap.size o))
    (hXp : ∀ c V r o, Ix c V → V.heap[w.heap.size]? = some (.loop r) → Ix c (V.putObj w.heap.size o))
    (h0 : ∀ r, I s0 (w.alloc (.loop r)))
    (hassign : ∀ x s W (K : Act → World → Prop), I s W → (∀ a' W', Keeps W W' (fun _ => False) → Ax a x a' W' → K a' W') →
      assign.wpIn (Fence.wide.inRound w.heap.size) (n - 1 - 1) Tryz.prog (Exit.then K (fun _ _ _ => False)) { tmps := (ps.zip (encs x)).foldl (fun t (p, v) => t.setIfInBounds p v) a.tmps, defers := [] } W)
    (hbody : ∀ x s a' W, (∃ r, W.heap[w.heap.size]? = some (.loop r)) → I s W → Ax a x a' W → Gx x s → body.wpIn (Fence.wide.inRound w.heap.size) (n - 1 - 1) Tryz.prog (TiedPostN w.heap.size I Ix (Nx x s) W) a' W)
    (hdone : ∀ s W, Ex s → I s W → Q .normal a W)
    (hstop : ∀ c W, Ix c W → c.wpIn (Fence.wide.inRound l0) n Tryz.prog Q a W) :
    (Code.rangeFunc op ps assign body).wpIn (Fence.wide.inRound l0) n Tryz.prog Q a w := by
  apply wpIn_rangeFunc
  intro fn hfn
  let rec_ : LoopState → Option Code → Loop := fun st pe => { state := st, pending := pe, fn := fn, tmps := a.tmps, params := ps, assign := assign, body := body, defers := r0.defers }
  obtain ⟨W1, hW1⟩ : ∃ W1, w.alloc (.loop (rec_ .ready none)) = W1 := ⟨_, rfl⟩
  have hi0 : I s0 W1 := hW1 ▸ h0 _
  have hLs : W1.heap[w.heap.size]? = some (.loop (rec_ .ready none)) := by
    rw [← hW1]
    exact World.alloc_heap_new w _
  refine ⟨w.heap.size, [], W1, { target := .fn (.func gf) lb, args := #[.func (.yield w.heap.size) #[] #[]] }, W1, gf,
    #[.func (.yield w.heap.size) #[] #[]] ++ lb, W1, by rw [← hW1]; exact run_enterLoop_inner hl0 fn a.tmps ps assign body, ?_, fun _ _ => trivial, ?_, fun _ => h1, ?_⟩
  · simp only [resolve, hop]
    simp [go_sem]
  · simp [invoke, go_sem, eg]
  · have two : ∀ {U : World} {o : Obj}, U.heap[w.heap.size]? = some o → ∀ o' : Obj, (U.putObj w.heap.size o').heap[w.heap.size]? = some o' := fun hu o' => World.putObj_heap_same (heap_lt hu)
    refine CallsIn.mono (CallsIn.inRound l0 (hseq w.heap.size (fun s U => I s U ∧ U.heap[w.heap.size]? = some (.loop (rec_ .ready none)))
      (fun U => ∃ c, Ix c U ∧ U.heap[w.heap.size]? = some (.loop (rec_ .done (some c)))) W1
      (fun s U U' h k => ⟨hI s U U' h.1 k, k.blk h.2⟩) (fun s U h => hR s U h.1) ?_ ⟨hi0, hLs⟩)) ?_
    · rintro x s U ⟨hi, hl⟩ hG
      refine ⟨fn, _, assign, body, run_yield hl (hps x), roundIn_of_wpIn hfn (hassign x s U _ hi ?_)⟩
      intro a' U1 k1 hax
      replace hi := hI s U U1 hi k1
      replace hl := k1.blk hl
      clear k1
      obtain ⟨U, rfl⟩ : ∃ U, U = U1 := ⟨_, rfl⟩
      refine ⟨_, run_beginRound hl rfl, ?_⟩
      have hb := two hl (.loop { rec_ .ready none with state := .busy })
      have hi2 := hIp s U _ (.loop { rec_ .ready none with state := .busy }) hi hl
      refine wpIn_mono (hbody x s a' _ ⟨_, hb⟩ hi2 (hAx x a' U _ _ hax hl) hG) ?_
      have fin : ∀ (j : Option Code) (U' : World), U'.heap[w.heap.size]? = (U.putObj w.heap.size (.loop { rec_ .ready none with state := .busy })).heap[w.heap.size]? →
          (Instr.endRound w.heap.size j).run Tryz.prog U' = .ok (.bool j.isNone) (U'.putObj w.heap.size (.loop (rec_ (if j.isNone then .ready else .done) j))) ∧
          U'.heap[w.heap.size]? = some (.loop { rec_ .ready none with state := .busy }) := fun j U' h =>
        ⟨run_endRound j (h.trans hb), h.trans hb⟩
      intro e a2 U' hp
      cases e with
      | normal =>
        obtain ⟨hk, s', hN, hi'⟩ := hp
        obtain ⟨r1, r2⟩ := fin none U' hk
        exact ⟨_, _, r1, .inl ⟨rfl, s', hN, hIp s' U' _ _ hi' r2, two r2 _⟩⟩
      | ret =>
        obtain ⟨r1, r2⟩ := fin (some .ret) U' hp.1
        exact ⟨_, _, r1, .inr ⟨rfl, _, hXp _ U' _ _ hp.2 r2, two r2 _⟩⟩
      | exit i =>
        obtain ⟨r1, r2⟩ := fin (some (.exit i)) U' hp.1
        exact ⟨_, _, r1, .inr ⟨rfl, _, hXp _ U' _ _ hp.2 r2, two r2 _⟩⟩
      | goto t =>
        obtain ⟨r1, r2⟩ := fin (some (.goto t)) U' hp.1
        exact ⟨_, _, r1, .inr ⟨rfl, _, hXp _ U' _ _ hp.2 r2, two r2 _⟩⟩
      | panic _ => exact hp.elim
      | outgrown => exact hp.elim
    · rintro e U ⟨⟨v, rfl⟩, h⟩
      rcases h with ⟨s, hE, hi, hl⟩ | ⟨c, hx, hl⟩
      · exact ⟨none, _, run_endLoop hl (by simp [rec_]), hdone s _ hE (hIp s U _ _ hi hl)⟩
      · exact ⟨some c, _, run_endLoop hl (by simp [rec_]), hstop c _ (hXp c U _ _ hx hl)⟩
end
end Go.Proofs.YtmdnknbolgedgaaGreatDoor
