/-
  The reference's oracle made: New.
-/
import Derived.Test.YtflihieaajbihabDoorOR1
import Derived.Deep.RegionLaw
namespace Go.Proofs.YtflihieaajbihabDoor
open Go.RowKit
set_option linter.unusedVariables false

theorem ovCells_append (a b : List Ovr) : ovCells (a ++ b) = ovCells a ++ ovCells b := by
  induction a with
  | nil => rfl
  | cons o t ih => simp [ovCells, ih]
theorem ovCells_take (os : List Ovr) (i : Nat) (hi : i < os.length) : ovCells (os.take (i + 1)) = ovCells (os.take i) ++ [.string os[i].1, .int .u64 (os[i].2 : Nat)] := by
  rw [List.take_succ_eq_append_getElem hi, ovCells_append]
  rfl
/-- A builtin append whose run is known, in a region that draws. -/
theorem step_append_run {P : Program} {w : World} {ops : Array Oper} {o : Oper} {a : Act} {K : Act → World → Prop} {Q : Exit → Act → World → Prop} {E : Prop} (hgd : o.guard = none) (s x : Operand) (t : TypeId)
    (ho : o.op = .call { callee := .builtin .append, args := #[s, x], argTypes := #[t, t] }) {v u v' : Value} {w' : World} (hs : a.eval s = v) (hx : a.eval x = u)
    (hrun : (Builtin.append_ #[t, t] o.type #[v, u]).run P w = .ok v' w') (h : K (a.put o.dst v') w') :
    if Region.wanted o (yielded ops a.tmps) = true then Oper.wp P o a w K Q else E := by
  have hw : Region.wanted o (yielded ops a.tmps) = true := by simp [Region.wanted, hgd]
  rw [if_pos hw]
  unfold Oper.wp execOp
  simp only [ho, resolve, invoke, builtin, Sem.run_bind, Sem.run_pure, Result.andThen_ok, List.map_toArray, List.map_cons, List.map_nil, hs, hx, hrun]
  exact h

/-- The reference while it is made: the first i overrides are in its row. -/
def Making (w : World) (p i : Nat) (os : List Ovr) (wr : World) : Prop :=
  ∃ v, wr.heap[p]? = some (.cells #[v] 41) ∧ wr.ownsRow (p + 1) 37 2 v i (ovCells (os.take i)) ∧ Kp w wr ∧ w.heap.size ≤ p
def RNewPost (w : World) (os : List Ovr) (e : Ending) (w' : World) : Prop :=
  Kp w w' ∧ ((scanN os os.length ≠ 0 ∧ e = .returned (.tuple #[.pointer none, .int .i64 (scanN os os.length : Nat)])) ∨
    (scanN os os.length = 0 ∧ ∃ p, e = .returned (.tuple #[.pointer (some ⟨p, 0, none⟩), .int .i64 0]) ∧ RefAt w' p os))
theorem Making.done {w wr : World} {p : Nat} {os : List Ovr} (h : Making w p os.length os wr) (hsz : ∀ j (hj : j < os.length), os[j].1.size ≤ maxLen) : RefAt wr p os := by
  obtain ⟨v, h1, ⟨hl, h2⟩, _, _⟩ := h
  rcases h2 with ⟨rfl, hz⟩ | ⟨g, cap, cur, rfl, g2, g3, g4, g5, g6, g7⟩
  · obtain rfl : os = [] := List.eq_nil_of_length_eq_zero hz
    exact ⟨none, 0, h1, Or.inl ⟨rfl, rfl⟩⟩
  · rw [List.take_length] at g7
    refine ⟨some ⟨g, 0, none⟩, cap, h1, Or.inr ⟨⟨g, 0, none⟩, cap, rfl, g4, g5, fun j hj => ?_⟩⟩
    obtain ⟨e1, e2⟩ := ovCells_even os j hj
    rw [← g7, List.getElem?_take_of_lt (by omega)] at e1 e2
    rw [add_lit, add_lit, Nat.zero_add, Nat.zero_add]
    exact ⟨cell_blk g3 (by simpa using e1), cell_blk g3 (by simpa using e2), hsz j hj⟩
theorem set_one {w : World} {b : Nat} {cs : Array Value} {t : TypeId} (h : w.heap[b]? = some (.cells cs t)) (i : Nat) (v : Value) (hi : i < cs.size) :
    (w.setCell ⟨b, i, none⟩ v).heap[b]? = some (.cells (cs.set i v hi) t) := by
  have hlt := (Array.getElem?_eq_some_iff.1 h).1
  have hv := (Array.getElem?_eq_some_iff.1 h).2
  simp only [World.setCell, Array.getElem?_modify]
  simp [hlt, hv, hi, Array.setIfInBounds]

/-- One override more. -/
theorem Making.more {w X : World} {p i : Nat} {os : List Ovr} (h : Making w p i os X) (hi : i < os.length) (h64 : os.length ≤ 64) {v : Value} (hv : X.cell? ⟨p, 0, none⟩ = some v) :
    ∃ v' w4, (Builtin.append_ #[22, 22] 22 #[v, .slice (some ⟨X.heap.size, 0, none⟩) 1 1]).run Tryd.prog (X.alloc (.cells #[.string os[i].1, .int .u64 (os[i].2 : Nat)] 37)) = .ok v' w4 ∧ w4.cell? ⟨p, 0, none⟩ = some v ∧ w4.frozen? ⟨p, 0, none⟩ = false ∧ Making w p (i + 1) os (w4.setCell ⟨p, 0, none⟩ v') ∧ ∃ a n c, v' = .slice a n c := by
  obtain ⟨u, h1, h2, h3, h4⟩ := h
  have hu : X.cell? ⟨p, 0, none⟩ = some u := cell_blk h1 rfl
  obtain rfl : u = v := Option.some.inj (hu.symm.trans hv)
  obtain ⟨ii, z, q1, q2, q3, q4, q5⟩ := info_over
  have hpX : p < X.heap.size := (Array.getElem?_eq_some_iff.1 h1).1
  have own2 := h2.alloc (.cells #[.string os[i].1, .int .u64 (os[i].2 : Nat)] 37)
  have hcell : ∀ j y, ([.string os[i].1, .int .u64 (os[i].2 : Nat)] : List Value)[j]? = some y → (X.alloc (.cells #[.string os[i].1, .int .u64 (os[i].2 : Nat)] 37)).cell? ((⟨X.heap.size, 0, none⟩ : Addr).add j) = some y := by
    intro j y hy
    rw [add_lit, Nat.zero_add]
    exact cell_blk (heap_new X _) (by simpa using hy)
  obtain ⟨v', w4, hr, hown, hgr, _⟩ := run_append_own (P := Tryd.prog) (X.alloc (.cells #[.string os[i].1, .int .u64 (os[i].2 : Nat)] 37)) (p + 1) 22 22 37 ii z 2 24 Tryd.underlying22 q1 q2 q3 q4 q5 (by decide) u i (ovCells (os.take i)) own2 ⟨X.heap.size, 0, none⟩ 1 1 [.string os[i].1, .int .u64 (os[i].2 : Nat)] rfl hcell
    (by simp [Value.oneCell']) (by simp only [maxLen]; omega) (by omega) (by simp; omega)
  have hblk : u.ownBlock ≠ some p := by
    rcases h2.2 with ⟨rfl, _⟩ | ⟨g, cap, cur, rfl, g2, _⟩
    · simp [Value.ownBlock]
    · simp [Value.ownBlock]
      omega
  have hp4 : w4.heap[p]? = some (.cells #[u] 41) := by
    rw [hgr.block p (by simp; omega) (Ne.symm hblk)]
    exact heap_old h1 _
  have hblk' : v'.ownBlock ≠ some p := by
    rcases hown.2 with ⟨rfl, _⟩ | ⟨g, cap, cur, rfl, g2, _⟩
    · simp [Value.ownBlock]
    · simp [Value.ownBlock]
      omega
  have k4 : Kp w w4 := Below.grown (Below.alloc h3 h3.size _) hgr (by have := h3.size; simp; omega) (fun k hk => by
    rcases h2.2 with ⟨rfl, _⟩ | ⟨g, cap, cur, rfl, g2, _⟩
    · simp [Value.ownBlock] at hk
    · simp [Value.ownBlock] at hk
      omega)
  rw [← ovCells_take os i hi] at hown
  refine ⟨v', w4, hr, cell_blk hp4 rfl, by simp [World.frozen?, hp4], ⟨v', set_one hp4 0 v' (by simp), ?_, Below.setCell k4 h4 _, h4⟩, ?_⟩
  · exact ownsRow_setCell_other hown (a := ⟨p, 0, none⟩) hblk' v'
  · rcases hown.2 with ⟨rfl, _⟩ | ⟨g, cap, cur, rfl, g2, _⟩
    · exact ⟨_, _, _, rfl⟩
    · exact ⟨_, _, _, rfl⟩
end Go.Proofs.YtflihieaajbihabDoor
