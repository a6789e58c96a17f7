/-
  What the walk of full needs.
-/
import Derived.Test.YtmdnknbolgedgaaGreatDoorHT19
import Derived.Test.YtmdnknbolgedgaaGreatDoorHT20
import Derived.Test.YtmdnknbolgedgaaGreatDoorHTT4
import Derived.RangeFuncCalls
namespace Go.Proofs.YtmdnknbolgedgaaGreatDoor
open Go.RowKit Go.Shelf Ly Ct
set_option linter.unusedVariables false
attribute [local go_sem] Oper.semAt_some

theorem app_runIn8 {F : Fence} {n : Nat} {P : Program} (w : World) {ops : Array Oper} {rest : List Oper} {o : Oper} {a : Act} {Q : Exit → Act → World → Prop}
    (hgd : o.guard = none) (s x : Operand) (t : TypeId) (hop : o.op = Op.call { callee := Callee.builtin Builtin.append, args := #[s, x], argTypes := #[t, t] }) {v u v' : Value} {w' : World} (hs : a.eval s = v) (hx : a.eval x = u)
    (hrun : ∀ ty, (Builtin.append_ #[t, t] ty #[v, u]).run P w = .ok v' w') (hK : wpListIn F n P ops Q rest (a.put o.dst v') w') : wpListIn F n P ops Q (o :: rest) a w := by
  refine wpListIn_plain hgd fun K hK' => ?_
  unfold Oper.wpIn
  refine ⟨?_, ?_⟩
  · simp [Oper.about, hop, resolve, Target.leads, Sem.run_pure]
  · rw [Oper.semAt_plain F _ _ (by rw [hop]; intro c hc'; cases hc')]
    simp [execOp, hop, resolve, invoke, builtin, hs, hx, hrun, Result.andThen]
    exact hK' _ _ hK
def fullL (c : Nat → GC) : Nat → List (Nat × GC)
  | 0 => []
  | n + 1 => if (c n).kind = 2 then fullL c n ++ [(n, c n)] else fullL c n
theorem fullL_len (c : Nat → GC) : ∀ n, (fullL c n).length ≤ n
  | 0 => Nat.le_refl _
  | n + 1 => by
    have := fullL_len c n
    unfold fullL
    split
    · simp; omega
    · omega
theorem fullL_skip (c : Nat → GC) {a : Nat} : ∀ b, a ≤ b → (∀ j, a ≤ j → j < b → (c j).kind ≠ 2) → fullL c b = fullL c a
  | 0, h, _ => by
    obtain rfl : a = 0 := by omega
    rfl
  | b + 1, h, hn => by
    by_cases e : a = b + 1
    · rw [e]
    · rw [fullL, if_neg (hn b (by omega) (by omega))]
      exact fullL_skip c b (by omega) (fun j q1 q2 => hn j q1 (by omega))
theorem fullL_hit (c : Nat → GC) {n : Nat} (h : (c n).kind = 2) : fullL c (n + 1) = fullL c n ++ [(n, c n)] := if_pos h
/-- What lay in X lies there, but the list and its box. -/
def HKx (Bl : Nat) (X V : World) : Prop := ∀ (k : Nat) (o : Obj), X.heap[k]? = some o → k ≠ Bl → (∀ cs fz, o ≠ .cells cs 130 fz) → V.heap[k]? = some o
section
variable {w0 X V V' : World} {Bl : Nat} {v : Value} {hs : List (Nat × GC)}
theorem HKx.refl (Bl : Nat) (X : World) : HKx Bl X X := fun _ _ h _ _ => h
theorem HKx.ofKeeps (k : Keeps V V' (fun _ => False)) : HKx Bl V V' := fun _ _ h _ _ => k.blk h
theorem HKx.trans {Y : World} (h : HKx Bl X V) (k : HKx Bl V Y) : HKx Bl X Y := fun q o h1 h2 h3 => k q o (h q o h1 h2 h3) h2 h3
theorem HKx.put (h : HKx Bl X V) {l : Nat} (hl : X.heap.size ≤ l) (o : Obj) : HKx Bl X (V.putObj l o) := fun q o' h1 h2 h3 =>
  (World.putObj_heap_other (by have := heap_lt h1; omega)).trans (h q o' h1 h2 h3)
theorem HKx.more (hb : HB w0 V Bl v hs) (k : Keeps V V' (fun k => v.ownBlock = some k)) (u : Value) : HKx Bl V (V'.setCell ⟨Bl, 0, none⟩ u) := fun q o h1 h2 h3 => by
  have hq : V'.heap[q]? = some o := (k.block q (heap_lt h1) (fun e => by
    rcases hb.row.2 with ⟨rfl, -⟩ | ⟨g, cap, cur, rfl, -, hg, -⟩
    · cases e
    · have eg : g = q := by simpa [Value.ownBlock] using e
      rw [eg, h1] at hg
      exact h3 _ _ (Option.some.inj hg))).trans h1
  exact (Below.heap_setCell _ _ _ _ (by show q ≠ Bl; exact h2)).trans hq
theorem HKx.stat (hb : V.heap[Bl]? = some (.cells #[v] 127)) (h : HKx Bl V V') : StayT 64 V V' := fun q cs fz h1 => by
  refine h q _ h1 (fun e => ?_) (fun cs' fz' e => ?_)
  · rw [e, hb] at h1
    injection Option.some.inj h1 with _ h2 _
    exact absurd h2 (by decide)
  · injection e with _ h2 _
    exact absurd h2 (by decide)
end
end Go.Proofs.YtmdnknbolgedgaaGreatDoor
