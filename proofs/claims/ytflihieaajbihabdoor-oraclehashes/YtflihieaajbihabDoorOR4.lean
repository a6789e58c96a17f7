/-
  The statement's own handed: a list of its own, with a mark behind it.
-/
import Derived.Test.YtflihieaajbihabDoorOR3
namespace Go.Proofs.YtflihieaajbihabDoor
open Go.RowKit
set_option linter.unusedVariables false

theorem append_run1 {P : Program} (w : World) {ops : Array Oper} {rest : List Oper} {o : Oper} {a : Act} {Q : Exit → Act → World → Prop}
    (hgd : o.guard = none) (s x : Operand) (t : TypeId) (hop : o.op = Op.call { callee := Callee.builtin Builtin.append, args := #[s, x], argTypes := #[t, t] }) {v u v' : Value} {w' : World} (hs : a.eval s = v) (hx : a.eval x = u)
    (hrun : (Builtin.append_ #[t, t] o.type #[v, u]).run P w = .ok v' w') (hK : wpList P ops Q rest (a.put o.dst v') w') : wpList P ops Q (o :: rest) a w := by
  refine wpList_plain hgd fun K hK' => ?_
  unfold Oper.wp
  simp [execOp, hop, resolve, invoke, builtin, hs, hx, hrun, Result.andThen]
  exact hK' _ _ hK

/-- append([]api.Over{}, over...), as a row of one's own. -/
theorem append_overs_own {v : Value} {os : List Ovr} (w : World) (h : RowO w v os) (hn : os.length * 24 ≤ 140737488355328) :
    ∃ g cap w2, (Builtin.append_ #[22, 22] 22 #[.slice (some ⟨w.heap.size, 0, none⟩) 0 0, v]).run Tryd.prog (w.alloc (.cells #[] 37)) = .ok (.slice (some ⟨g, 0, none⟩) os.length cap) w2 ∧ w2.ownsRow w.heap.size 37 2 (.slice (some ⟨g, 0, none⟩) os.length cap) os.length (ovCells os) ∧ Kp w w2 := by
  obtain ⟨i, z, h1, h2, h3, h4, h5⟩ := info_over
  have own0 : (w.alloc (.cells #[] 37)).ownsRow w.heap.size 37 2 (.slice (some ⟨w.heap.size, 0, none⟩) 0 0) 0 [] := World.ownsRow_made w #[] 0 (Nat.le_refl _) (by simp only [maxLen]; omega) (by simp)
  rcases h with ⟨rfl, rfl⟩ | ⟨a, cap, rfl, q1, q2, q3⟩
  · have r1 := run_append_owned_none (P := Tryd.prog) (w := w.alloc (.cells #[] 37)) w.heap.size 22 22 37 i 2 Tryd.underlying22 h1 _ 0 [] own0
    exact ⟨_, _, _, r1, own0, (Kp.refl w).alloc _⟩
  · obtain ⟨v', w2, hr, hown, hgr, hnil⟩ := run_append_own (P := Tryd.prog) (w.alloc (.cells #[] 37)) w.heap.size 22 22 37 i z 2 24 Tryd.underlying22 h1 h2 h3 h4 h5 (by decide) _ 0 [] own0 a os.length cap (ovCells os) (ovCells_length os)
      (fun t u hu => by
        have ht : t < os.length * 2 := by
          have := (List.getElem?_eq_some_iff.1 hu).1
          rwa [ovCells_length] at this
        have hj : t / 2 < os.length := by omega
        obtain ⟨e1, e2⟩ := ovCells_even os (t / 2) hj
        obtain ⟨c1, c2, _⟩ := q3 (t / 2) hj
        rcases Nat.mod_two_eq_zero_or_one t with hm | hm
        · rw [show 2 * (t / 2) = t by omega] at e1 c1
          rw [e1] at hu
          cases hu
          exact ((Kp.refl w).alloc _).cell c1
        · rw [show 2 * (t / 2) + 1 = t by omega] at e2 c2
          rw [e2] at hu
          cases hu
          exact ((Kp.refl w).alloc _).cell c2) (ovCells_one os) (by simp only [maxLen]; omega) (by omega) (by simp)
    have hk : Kp w w2 := Below.grown (Below.alloc (Below.refl _ _) (Nat.le_refl _) _) hgr (by simp) (fun k hk => by simp [Value.ownBlock] at hk; omega)
    rw [Nat.zero_add, List.nil_append] at hown
    have hown0 := hown
    obtain ⟨_, hh | ⟨g, cap', cur, g1, g2, g3, g4, g5, g6, g7⟩⟩ := hown
    · exact absurd (hnil.1 hh.1).1 (by simp)
    · subst g1
      exact ⟨g, cap', w2, hr, hown0, hk⟩

/-- One override more behind a row of one's own. -/
theorem append_mark {X : World} {B g c n : Nat} {xs : List Value} (own : X.ownsRow B 37 2 (.slice (some ⟨g, 0, none⟩) n c) n xs) (hB : B ≤ X.heap.size) (hn : n * 24 + 24 ≤ 140737488355328) (K : ByteArray) (Y : Int) :
    ∃ g2 c2 w4, (Builtin.append_ #[22, 22] 22 #[.slice (some ⟨g, 0, none⟩) n c, .slice (some ⟨X.heap.size, 0, none⟩) 1 1]).run Tryd.prog (X.alloc (.cells #[.string K, .int .u64 Y] 37)) = .ok (.slice (some ⟨g2, 0, none⟩) (n + 1) c2) w4 ∧ w4.ownsRow B 37 2 (.slice (some ⟨g2, 0, none⟩) (n + 1) c2) (n + 1) (xs ++ [.string K, .int .u64 Y]) ∧ Below B X w4 := by
  obtain ⟨ii, z, q1, q2, q3, q4, q5⟩ := info_over
  have own2 := own.alloc (.cells #[.string K, .int .u64 Y] 37)
  have hcell : ∀ j y, ([.string K, .int .u64 Y] : List Value)[j]? = some y → (X.alloc (.cells #[.string K, .int .u64 Y] 37)).cell? ((⟨X.heap.size, 0, none⟩ : Addr).add j) = some y := by
    intro j y hy
    rw [add_lit, Nat.zero_add]
    exact cell_blk (heap_new X _) (by simpa using hy)
  obtain ⟨v', w4, hr, hown, hgr, hnil⟩ := run_append_own (P := Tryd.prog) (X.alloc (.cells #[.string K, .int .u64 Y] 37)) B 22 22 37 ii z 2 24 Tryd.underlying22 q1 q2 q3 q4 q5 (by decide) _ n xs own2 ⟨X.heap.size, 0, none⟩ 1 1 [.string K, .int .u64 Y] rfl hcell
    (by simp [Value.oneCell']) (by simp only [maxLen]; omega) (by omega) (by simp; omega)
  have hbg : B ≤ g := by
    rcases own.2 with ⟨e, _⟩ | ⟨g', cap, cur, e, g2, _⟩
    · cases e
    · cases e
      exact g2
  have k4 : Below B X w4 := Below.grown (Below.alloc (Below.refl _ _) hB _) hgr (by simp; omega) (fun k hk => by
    simp [Value.ownBlock] at hk
    omega)
  have hown0 := hown
  rcases hown.2 with ⟨e, hz⟩ | ⟨g', cap, cur, e, _⟩
  · omega
  · subst e
    exact ⟨_, _, w4, hr, hown0, k4⟩
/-- All blocks but g are as they were. -/
structure But (g : Nat) (w w' : World) : Prop where
  os : w'.os = w.os
  tape : w'.tape = w.tape
  output : w'.output = w.output
  size : w.heap.size ≤ w'.heap.size
  block : ∀ k, k < w.heap.size → k ≠ g → w'.heap[k]? = w.heap[k]?
theorem But.refl (g : Nat) (w : World) : But g w w := ⟨rfl, rfl, rfl, Nat.le_refl _, fun _ _ _ => rfl⟩
theorem But.drewN {g : Nat} {w w' : World} (h : But g w w') (n : Nat) : But g w (w'.drewN n) := ⟨h.os, h.tape, h.output, h.size, h.block⟩
theorem But.setCell {g : Nat} {w w' : World} (h : But g w w') (o : Nat) (v : Value) : But g w (w'.setCell ⟨g, o, none⟩ v) :=
  ⟨h.os, h.tape, h.output, by have := h.size; simpa [World.setCell] using this, fun k hk hg => (Below.heap_setCell _ _ _ _ hg).trans (h.block k hk hg)⟩
theorem But.kp {g : Nat} {w w3 w' : World} (h : But g w3 w') (k : Kp w w3) (hg : w.heap.size ≤ g) : Kp w w' :=
  ⟨h.os.trans k.os, h.tape.trans k.tape, h.output.trans k.output, Nat.le_trans k.size h.size, fun b hb => (h.block b (Nat.lt_of_lt_of_le hb k.size) (by omega)).trans (k.block b hb)⟩
/-- The list while it is spoilt: from i on it is as it was. -/
def Spoil (w3 : World) (g i : Nat) (os : List Ovr) (wr : World) : Prop :=
  ∃ cur : Array Value, wr.heap[g]? = some (.cells cur 37) ∧ (∀ l (hl : l < os.length), i ≤ l → cur[l * 2]? = some (.string os[l].1) ∧ cur[l * 2 + 1]? = some (.int .u64 (os[l].2 : Nat))) ∧ But g w3 wr
theorem Spoil.drewN {w3 wr : World} {g i : Nat} {os : List Ovr} (h : Spoil w3 g i os wr) (n : Nat) : Spoil w3 g i os (wr.drewN n) := by
  obtain ⟨cur, h1, h2, h3⟩ := h
  exact ⟨cur, h1, h2, h3.drewN n⟩
theorem Spoil.step {w3 wr : World} {g i : Nat} {os : List Ovr} (h : Spoil w3 g i os wr) (hi : i < os.length) (v u : Value) :
    wr.cell? ⟨g, i * 2, none⟩ = some (.string os[i].1) ∧ wr.cell? ⟨g, i * 2 + 1, none⟩ = some (.int .u64 (os[i].2 : Nat)) ∧ wr.frozen? ⟨g, i * 2, none⟩ = false ∧
    (wr.setCell ⟨g, i * 2, none⟩ v).cell? ⟨g, i * 2 + 1, none⟩ = some (.int .u64 (os[i].2 : Nat)) ∧ (wr.setCell ⟨g, i * 2, none⟩ v).frozen? ⟨g, i * 2 + 1, none⟩ = false ∧ wr.frozen? ⟨g, i * 2 + 1, none⟩ = false ∧
    Spoil w3 g (i + 1) os ((wr.setCell ⟨g, i * 2, none⟩ v).setCell ⟨g, i * 2 + 1, none⟩ u) := by
  obtain ⟨cur, h1, h2, h3⟩ := h
  obtain ⟨c1, c2⟩ := h2 i hi (Nat.le_refl _)
  have l1 : i * 2 < cur.size := (Array.getElem?_eq_some_iff.1 c1).1
  have l2 : i * 2 + 1 < cur.size := (Array.getElem?_eq_some_iff.1 c2).1
  have s1 := set_one h1 (i * 2) v l1
  have s2 := set_one s1 (i * 2 + 1) u (by simpa using l2)
  refine ⟨cell_blk h1 c1, cell_blk h1 c2, by simp [World.frozen?, h1], cell_blk s1 ?_, by simp [World.frozen?, s1], by simp [World.frozen?, h1], _, s2, fun l hl hil => ?_, (h3.setCell _ _).setCell _ _⟩
  · rw [Array.getElem?_set, if_neg (by omega)]
    exact c2
  · obtain ⟨d1, d2⟩ := h2 l hl (by omega)
    constructor
    · rw [Array.getElem?_set, if_neg (by omega), Array.getElem?_set, if_neg (by omega)]
      exact d1
    · rw [Array.getElem?_set, if_neg (by omega), Array.getElem?_set, if_neg (by omega)]
      exact d2
theorem OrcAt.spoil {w3 wr : World} {p m n g i : Nat} {os : List Ovr} {f : List UInt8 → Option Nat} (h : OrcAt w3 p m n f) {cur : Array Value} (hg : w3.heap[g]? = some (.cells cur 37)) (hs : Spoil w3 g i os wr) : OrcAt wr p m n f := by
  obtain ⟨_, _, _, hb⟩ := hs
  have hp : p ≠ g := by
    intro e
    subst e
    rw [h.1] at hg
    have := Option.some.inj hg
    injection this with _ h2 _
    revert h2
    decide
  have hm : m ≠ g := by
    intro e
    subst e
    obtain ⟨D, ⟨es, clock, e2, _⟩, _⟩ := h.2
    rw [e2] at hg
    cases hg
  exact ⟨(hb.block p (Array.getElem?_eq_some_iff.1 h.1).1 hp).trans h.1, h.2.same (hb.block m h.2.lt hm)⟩
end Go.Proofs.YtflihieaajbihabDoor
