import Derived.Test.YteepnkhfeokenaaP1
import Derived.Laws.AppendOwnNone
import Derived.OwnWalk
namespace Go.Proofs.Yteepnkhfeokenaa
open Go.RowKit

def intCells (xs : List Int) : List Value := xs.map (Value.int .i64)
theorem intCells_length (xs : List Int) : (intCells xs).length = xs.length := by simp [intCells]
theorem intCells_one (xs : List Int) : ∀ u ∈ intCells xs, u.oneCell' = true := by
  intro u hu
  simp only [intCells, List.mem_map] at hu
  obtain ⟨x, _, rfl⟩ := hu
  rfl
theorem intCells_get {xs : List Int} {j : Nat} (h : j < xs.length) : (intCells xs)[j]? = some (.int .i64 xs[j]) := by simp [intCells, h]

/-- A builtin append whose run is known, at its own type. -/
theorem append_run1 {P : Program} (w : World) {ops : Array Oper} {rest : List Oper} {o : Oper} {a : Act} {Q : Exit → Act → World → Prop}
    (hgd : o.guard = none) (s x : Operand) (t : TypeId) (hop : o.op = Op.call { callee := Callee.builtin Builtin.append, args := #[s, x], argTypes := #[t, t] }) {v u v' : Value} {w' : World} (hs : a.eval s = v) (hx : a.eval x = u)
    (hrun : (Builtin.append_ #[t, t] o.type #[v, u]).run P w = .ok v' w') (hK : wpList P ops Q rest (a.put o.dst v') w') : wpList P ops Q (o :: rest) a w := by
  refine wpList_plain hgd fun K hK' => ?_
  unfold Oper.wp
  simp [execOp, hop, resolve, invoke, builtin, hs, hx, hrun, Result.andThen]
  exact hK' _ _ hK

def SparePost (w : World) (xs : List Int) (r : Ending) (w' : World) : Prop :=
  ∃ h cap, r = .returned (.slice (some ⟨h, 0, none⟩) xs.length cap) ∧ xs.length + 2 ≤ cap ∧ cap ≤ 9223372036854775807 ∧ (∀ j (hj : j < xs.length), w'.cell? ⟨h, j, none⟩ = some (.int .i64 xs[j])) ∧ w'.cell? ⟨h, xs.length, none⟩ = some (.int .i64 77) ∧ w'.cell? ⟨h, xs.length + 1, none⟩ = some (.int .i64 77) ∧ w.heap.size ≤ h ∧ Kp w w'

theorem addr0 (h o j : Nat) : (⟨h, o, none⟩ : Addr).add j = ⟨h, o + j, none⟩ := by unfold Addr.add; split <;> simp_all
theorem row_shape {w : World} {base : Nat} {v : Value} {n : Nat} {ys : List Value} (h : w.ownsRow base 3 1 v n ys) (hv : ¬ v = .slice none 0 0) : ∃ g cap, v = .slice (some ⟨g, 0, none⟩) n cap ∧ base ≤ g ∧ n ≤ cap ∧ cap ≤ maxLen ∧ g < w.heap.size := by
  rcases h.2 with ⟨e, _⟩ | ⟨g, cap, cur, rfl, h1, h2, h3, h4, _⟩
  · exact absurd e hv
  · exact ⟨g, cap, rfl, h1, h3, h4, (Array.getElem?_eq_some_iff.1 h2).1⟩

/-- The two appends' runs, from any row of the call's own with xs in it. -/
theorem second_append (w w2 : World) (xs : List Int) (hn : xs.length ≤ 17592186044000) (v1 : Value) (hv : ¬ v1 = .slice none 0 0) (own1 : w2.ownsRow w.heap.size 3 1 v1 xs.length (intCells xs)) (k2 : Kp w w2) :
    ∃ h cap w4, (Builtin.append_ #[27, 27] 27 #[v1, .slice (some ⟨w2.heap.size, 0, none⟩) 2 2]).run Try.prog (w2.alloc (.cells #[.int .i64 77, .int .i64 77] 3)) = .ok (.slice (some ⟨h, 0, none⟩) (xs.length + 2) cap) w4 ∧
      xs.length + 2 ≤ cap ∧ cap ≤ maxLen ∧ (∀ j (hj : j < xs.length), w4.cell? ⟨h, j, none⟩ = some (.int .i64 xs[j])) ∧ w4.cell? ⟨h, xs.length, none⟩ = some (.int .i64 77) ∧ w4.cell? ⟨h, xs.length + 1, none⟩ = some (.int .i64 77) ∧ w.heap.size ≤ h ∧ Kp w w4 := by
  have hi : (Try.prog.info? 3).map (fun i => (i.zero, i.size, i.bytes)) = some (some (.int .i64 0), 1, 8) := by kernel_rfl
  obtain ⟨i, h1, h2, h3, h4⟩ := info_parts hi
  have own2 := own1.alloc (.cells #[.int .i64 77, .int .i64 77] 3)
  have hsz := k2.size
  obtain ⟨v', w4, hr, hown, hgr, hnil⟩ := run_append_own (P := Try.prog) (w2.alloc (.cells #[.int .i64 77, .int .i64 77] 3)) w.heap.size 27 27 3 i (.int .i64 0) 1 8 Try.underlying27 h1 h2 h3 h4 rfl (by decide) v1 xs.length (intCells xs) own2 ⟨w2.heap.size, 0, none⟩ 2 2 [.int .i64 77, .int .i64 77] rfl
    (fun j u hu => by
      have hb := heap_new w2 (.cells #[.int .i64 77, .int .i64 77] 3)
      match j, hu with
      | 0, hu => exact cell_blk hb hu
      | 1, hu => exact cell_blk hb hu
      | j + 2, hu => simp at hu) (by intro u hu; simp at hu; subst hu; rfl) (by simp only [maxLen]; omega) (by omega) (by simp; omega)
  have hv' : ¬ v' = .slice none 0 0 := fun e => hv (hnil.1 e).1
  obtain ⟨h, cap, rfl, hb, hc, hm, hlt⟩ := row_shape hown hv'
  have hcell := hown.cells (g := h) rfl
  refine ⟨h, cap, w4, hr, hc, hm, fun j hj => ?_, ?_, ?_, hb, ?_⟩
  · have := hcell j (.int .i64 xs[j]) (by rw [List.getElem?_append_left (by rw [intCells_length]; exact hj)]; exact intCells_get hj)
    rw [addr0] at this
    simpa using this
  · have := hcell xs.length (.int .i64 77) (by rw [List.getElem?_append_right (by rw [intCells_length]; omega), intCells_length]; simp)
    rw [addr0] at this
    simpa using this
  · have := hcell (xs.length + 1) (.int .i64 77) (by rw [List.getElem?_append_right (by rw [intCells_length]; omega), intCells_length]; simp)
    rw [addr0] at this
    simpa using this
  · refine Below.grown (Below.alloc k2 hsz _) hgr (by simp; omega) (fun k hk => ?_)
    obtain ⟨g, cap1, rfl, hb1, _⟩ := row_shape own1 hv
    simp [Value.ownBlock] at hk
    omega
end Go.Proofs.Yteepnkhfeokenaa
