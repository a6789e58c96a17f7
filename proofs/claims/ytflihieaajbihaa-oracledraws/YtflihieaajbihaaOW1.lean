/-
  Rows of draws: slices.Clone, NewDraws, Take, Left.
-/
import Derived.Test.YtflihieaajbihaaOP1
import Derived.Laws.AppendOwn
import Derived.Laws.AppendOwnNone
import Derived.Laws.OwnMore
namespace Go.Proofs.Ytflihieaajbihaa
open Go.RowKit
set_option linter.unusedVariables false

/-- What was there stays; what is new may be anything. -/
def Kp (w w' : World) : Prop := Below w.heap.size w w'
theorem Kp.refl (w : World) : Kp w w := Below.refl _ _
theorem Kp.trans {w w1 w2 : World} (h : Kp w w1) (k : Kp w1 w2) : Kp w w2 := Below.trans h (Below.mono k h.size)
theorem Kp.alloc {w w1 : World} (h : Kp w w1) (o : Obj) : Kp w (w1.alloc o) := Below.alloc h h.size o
theorem Kp.drew {w w1 : World} (h : Kp w w1) : Kp w w1.drew := Below.drew h
theorem Kp.cell {w w1 : World} (h : Kp w w1) {p : Addr} {v : Value} (hp : w.cell? p = some v) : w1.cell? p = some v := by
  have : p.block < w.heap.size := by
    refine Nat.lt_of_not_le fun hn => ?_
    rw [World.cell?, Array.getElem?_eq_none hn] at hp
    cases hp
  exact (Below.cell h this).trans hp
theorem Kp.blk {w w1 : World} {b : Nat} {x : Obj} (h : Kp w w1) (hb : w.heap[b]? = some x) : w1.heap[b]? = some x := (h.block b (Array.getElem?_eq_some_iff.1 hb).1).trans hb
theorem hide {p : Prop} (h : p) : Hid p := h

def u64Cells (xs : List Nat) : List Value := xs.map (fun x : Nat => Value.int .u64 (x : Int))
theorem u64Cells_length (xs : List Nat) : (u64Cells xs).length = xs.length := by simp [u64Cells]
theorem u64Cells_one (xs : List Nat) : ∀ u ∈ u64Cells xs, u.oneCell' = true := by
  intro u hu
  obtain ⟨x, _, rfl⟩ := List.mem_map.1 hu
  rfl
theorem u64Cells_at (xs : List Nat) {j : Nat} {u : Value} (h : (u64Cells xs)[j]? = some u) : ∃ hj : j < xs.length, u = .int .u64 (xs[j] : Nat) := by
  have hj : j < xs.length := by
    have := (List.getElem?_eq_some_iff.1 h).1
    rwa [u64Cells_length] at this
  refine ⟨hj, ?_⟩
  unfold u64Cells at h
  rw [List.getElem?_map, List.getElem?_eq_getElem hj] at h
  simpa using h.symm
/-- v is a row that holds xs. -/
def RowU (w : World) (v : Value) (xs : List Nat) : Prop :=
  (v = .slice none 0 0 ∧ xs = []) ∨ ∃ (a : Addr) (cap : Nat), v = .slice (some a) xs.length cap ∧ xs.length ≤ cap ∧ cap ≤ maxLen ∧ ∀ j (hj : j < xs.length), w.cell? (a.add j) = some (.int .u64 (xs[j] : Nat))
theorem RowU.kp {w w1 : World} {v : Value} {xs : List Nat} (h : RowU w v xs) (k : Kp w w1) : RowU w1 v xs := by
  rcases h with h | ⟨a, cap, h1, h2, h3, h4⟩
  · exact Or.inl h
  · exact Or.inr ⟨a, cap, h1, h2, h3, fun j hj => k.cell (h4 j hj)⟩

theorem info_u64 : ∃ i, Try.prog.info? 24 = some i ∧ i.zero = some (.int .u64 0) ∧ i.size = 1 ∧ i.bytes = 8 := by
  have hi : (Try.prog.info? 24).map (fun i => (i.zero, i.size, i.bytes)) = some (some (.int .u64 0), 1, 8) := by kernel_rfl
  cases h : Try.prog.info? 24 with
  | none => rw [h] at hi; cases hi
  | some i =>
    rw [h] at hi
    simp at hi
    exact ⟨i, rfl, hi.1, hi.2.1, hi.2.2⟩

/-- append([]uint64{}, s...) -/
theorem append_all (w : World) (a : Addr) (c : Nat) (xs : List Nat) (hn : xs.length * 8 ≤ 140737488355328) (hsrc : ∀ j (hj : j < xs.length), w.cell? (a.add j) = some (.int .u64 (xs[j] : Nat))) :
    ∃ v1 w2, (Builtin.append_ #[22, 22] 22 #[.slice (some ⟨w.heap.size, 0, none⟩) 0 0, .slice (some a) xs.length c]).run Try.prog (w.alloc (.cells #[] 24)) = .ok v1 w2 ∧ ¬ v1 = .slice none 0 0 ∧ w2.ownsRow w.heap.size 24 1 v1 xs.length (u64Cells xs) ∧ Kp w w2 := by
  obtain ⟨i, h1, h2, h3, h4⟩ := info_u64
  have own0 : (w.alloc (.cells #[] 24)).ownsRow w.heap.size 24 1 (.slice (some ⟨w.heap.size, 0, none⟩) 0 0) 0 [] := World.ownsRow_made w #[] 0 (Nat.le_refl _) (by simp only [maxLen]; omega) (by simp)
  obtain ⟨v', w2, hr, hown, hgr, hnil⟩ := run_append_own (P := Try.prog) (w.alloc (.cells #[] 24)) w.heap.size 22 22 24 i (.int .u64 0) 1 8 Try.underlying22 h1 h2 h3 h4 rfl (by decide) _ 0 [] own0 a xs.length c (u64Cells xs) (by rw [u64Cells_length]; omega)
    (fun j u hu => by
      obtain ⟨hj, rfl⟩ := u64Cells_at xs hu
      exact ((Kp.refl w).alloc _).cell (hsrc j hj)) (u64Cells_one xs) (by simp only [maxLen]; omega) (by omega) (by simp)
  refine ⟨v', w2, hr, fun e => by have := (hnil.1 e).1; simp at this, by simpa using hown, Below.grown (Below.alloc (Below.refl _ _) (Nat.le_refl _) _) hgr (by simp) (fun k hk => by simp [Value.ownBlock] at hk; omega)⟩
theorem append_none (w : World) :
    (Builtin.append_ #[22, 22] 22 #[.slice (some ⟨w.heap.size, 0, none⟩) 0 0, .slice none 0 0]).run Try.prog (w.alloc (.cells #[] 24)) = .ok (.slice (some ⟨w.heap.size, 0, none⟩) 0 0) (w.alloc (.cells #[] 24)) := by
  obtain ⟨i, h1, h2, h3, h4⟩ := info_u64
  have own0 : (w.alloc (.cells #[] 24)).ownsRow w.heap.size 24 1 (.slice (some ⟨w.heap.size, 0, none⟩) 0 0) 0 [] := World.ownsRow_made w #[] 0 (Nat.le_refl _) (by simp only [maxLen]; omega) (by simp)
  exact run_append_owned_none (P := Try.prog) (w := w.alloc (.cells #[] 24)) w.heap.size 22 22 24 i 1 Try.underlying22 h1 _ 0 [] own0

theorem append_run1 {P : Program} (w : World) {ops : Array Oper} {rest : List Oper} {o : Oper} {a : Act} {Q : Exit → Act → World → Prop}
    (hgd : o.guard = none) (s x : Operand) (t : TypeId) (hop : o.op = Op.call { callee := Callee.builtin Builtin.append, args := #[s, x], argTypes := #[t, t] }) {v u v' : Value} {w' : World} (hs : a.eval s = v) (hx : a.eval x = u)
    (hrun : (Builtin.append_ #[t, t] o.type #[v, u]).run P w = .ok v' w') (hK : wpList P ops Q rest (a.put o.dst v') w') : wpList P ops Q (o :: rest) a w := by
  refine wpList_plain hgd fun K hK' => ?_
  unfold Oper.wp
  simp [execOp, hop, resolve, invoke, builtin, hs, hx, hrun, Result.andThen]
  exact hK' _ _ hK

/-- A row of the callee's own, at blocks from base on. -/
def OwnU (w : World) (base : Nat) (v : Value) (xs : List Nat) : Prop := (v = .slice none 0 0 ∧ xs = []) ∨ ∃ g cap cur, v = .slice (some ⟨g, 0, none⟩) xs.length cap ∧ base ≤ g ∧ w.heap[g]? = some (.cells cur 24 (0, 0)) ∧ xs.length ≤ cap ∧ cap ≤ maxLen ∧ cur.size = cap ∧ cur.toList.take xs.length = u64Cells xs
theorem OwnU.of {w : World} {base : Nat} {v : Value} {xs : List Nat} (h : w.ownsRow base 24 1 v xs.length (u64Cells xs)) : OwnU w base v xs := by
  obtain ⟨_, h | ⟨g, cap, cur, h1, h2, h3, h4, h5, h6, h7⟩⟩ := h
  · exact Or.inl ⟨h.1, List.eq_nil_of_length_eq_zero h.2⟩
  · exact Or.inr ⟨g, cap, cur, h1, h2, h3, h4, h5, by omega, by simpa using h7⟩

set_option maxHeartbeats 1000000 in
theorem clone_any {v : Value} {xs : List Nat} (w : World) (h : RowU w v xs) (hn : xs.length * 8 ≤ 140737488355328) :
    Calls Try.prog 12 #[v] w fun e w' => ∃ v1, e = .returned v1 ∧ OwnU w' w.heap.size v1 xs ∧ Kp w w' := by
  rcases h with ⟨rfl, rfl⟩ | ⟨a, cap, rfl, h1, h2, h3⟩
  · have e1 : (binOp BinOp.eql 22 (.slice none 0 0) (.slice none 0 0)).run Try.prog w = .ok (.bool true) w := by rfl
    go_enter Try.func12, Try.ntmps12
    go_wp2_with fail
    go_ret
    exact ⟨_, rfl, Or.inl ⟨rfl, rfl⟩, Kp.refl _⟩
  · have e1 : (binOp BinOp.eql 22 (.slice (some a) xs.length cap) (.slice none 0 0)).run Try.prog w = .ok (.bool false) w := by rfl
    obtain ⟨v1, w2, r1, hv, own1, k2⟩ := append_all w a cap xs hn h3
    clear h3
    go_enter Try.func12, Try.ntmps12
    go_wp2_with (first | (at_builtin; have _t := r1; refine append_run1 _ rfl (.tmp 5) (.tmp 6) 22 rfl rfl rfl r1 ?_; clear r1))
    go_ret
    exact ⟨_, rfl, OwnU.of own1, k2⟩

/-- A row of draws at block p: those that are left, in a block g of its own. -/
def DrawAt (w : World) (p g : Nat) (xs : List Nat) : Prop :=
  ∃ v, w.heap[p]? = some (.cells #[v] 36) ∧ ((v = .slice none 0 0 ∧ xs = []) ∨ ∃ o cap, v = .slice (some ⟨g, o, none⟩) xs.length cap ∧ xs.length ≤ cap ∧ cap ≤ maxLen ∧ ∀ j (hj : j < xs.length), w.cell? ⟨g, o + j, none⟩ = some (.int .u64 (xs[j] : Nat)))
theorem DrawAt.same {w w1 : World} {p g : Nat} {xs : List Nat} (h : DrawAt w p g xs) (hp : w1.heap[p]? = w.heap[p]?) (hg : w1.heap[g]? = w.heap[g]?) : DrawAt w1 p g xs := by
  obtain ⟨v, h1, h2⟩ := h
  refine ⟨v, hp.trans h1, ?_⟩
  rcases h2 with h2 | ⟨o, cap, e1, e2, e3, e4⟩
  · exact Or.inl h2
  · exact Or.inr ⟨o, cap, e1, e2, e3, fun j hj => (World.cell?_of_block hg).trans (e4 j hj)⟩
theorem cell_blk {w : World} {b j : Nat} {cs : Array Value} {t : TypeId} {v : Value} (h : w.heap[b]? = some (.cells cs t)) (hv : cs[j]? = some v) : w.cell? ⟨b, j, none⟩ = some v := by
  simp [World.cell?, h, hv]

def NewPost (w : World) (xs : List Nat) (e : Ending) (w' : World) : Prop :=
  ∃ p g, e = .returned (.pointer (some ⟨p, 0, none⟩)) ∧ DrawAt w' p g xs ∧ w.heap.size ≤ p ∧ w.heap.size ≤ g ∧ (xs = [] ∨ p ≠ g) ∧ p < w'.heap.size ∧ g < w'.heap.size ∧ Kp w w'
theorem heap_new (w : World) (o : Obj) : (w.alloc o).heap[w.heap.size]? = some o := by
  show (w.heap.push o)[w.heap.size]? = _
  simp
theorem heap_old {w : World} {b : Nat} {x : Obj} (h : w.heap[b]? = some x) (o : Obj) : (w.alloc o).heap[b]? = some x :=
  (Below.heap_alloc w o b (Array.getElem?_eq_some_iff.1 h).1).trans h
theorem row_cell {w : World} {g cap : Nat} {cur : Array Value} {xs : List Nat} {t : TypeId} (hg : w.heap[g]? = some (.cells cur t (0, 0))) (ht : cur.toList.take xs.length = u64Cells xs) (j : Nat) (hj : j < xs.length) : w.cell? ⟨g, j, none⟩ = some (.int .u64 (xs[j] : Nat)) := by
  have h1 : (cur.toList.take xs.length)[j]? = some (.int .u64 (xs[j] : Nat)) := by
    rw [ht]
    unfold u64Cells
    rw [List.getElem?_map, List.getElem?_eq_getElem hj]
    rfl
  rw [List.getElem?_take_of_lt hj] at h1
  have h2 : cur[j]? = some (.int .u64 (xs[j] : Nat)) := by simpa using h1
  simp [World.cell?, hg, h2]

set_option maxHeartbeats 1000000 in
theorem new_any {v : Value} {xs : List Nat} (w : World) (h : RowU w v xs) (hn : xs.length * 8 ≤ 140737488355328) :
    Calls Try.prog 5 #[v] w (NewPost w xs) := by
  have hC := clone_any w h hn
  clear h
  go_enter Try.func5, Try.ntmps5
  go_wp2_with fail
  refine hC.mono ?_
  rintro e w1 ⟨v1, rfl, ho, k1⟩
  clear hC
  have hsz : w.heap.size ≤ w1.heap.size := k1.size
  rcases ho with ⟨rfl, rfl⟩ | ⟨g, cap, cur, rfl, hbg, hg, hc1, hc2, hc3, ht⟩
  · go_wp2_with fail
    go_ret
    exact ⟨w1.heap.size, w1.heap.size, rfl, ⟨_, heap_new _ _, Or.inl ⟨rfl, rfl⟩⟩, hsz, hsz, Or.inl rfl, by simp, by simp, k1.alloc _⟩
  · have hlt : g < w1.heap.size := (Array.getElem?_eq_some_iff.1 hg).1
    go_wp2_with fail
    go_ret
    refine ⟨w1.heap.size, g, rfl, ⟨_, heap_new _ _, Or.inr ⟨0, cap, rfl, hc1, hc2, fun j hj => ?_⟩⟩, hsz, hbg, Or.inr (by omega), by simp, by simp; omega, k1.alloc _⟩
    rw [Nat.zero_add]
    exact row_cell (cap := cap) (heap_old hg _) ht j hj

set_option maxHeartbeats 1000000 in
theorem left_any {p g : Nat} {xs : List Nat} (w : World) (h : DrawAt w p g xs) :
    Calls Try.prog 7 #[.pointer (some ⟨p, 0, none⟩)] w fun e w' => e = .returned (.int .i64 (xs.length : Int)) ∧ w' = w := by
  obtain ⟨v, h1, h2⟩ := h
  have hc : w.cell? ⟨p, 0, none⟩ = some v := cell_blk h1 rfl
  rcases h2 with ⟨rfl, rfl⟩ | ⟨o, cap, rfl, _, _, _⟩
  · go_enter Try.func7, Try.ntmps7
    go_wp2_with fail
    go_ret
    exact ⟨rfl, rfl⟩
  · go_enter Try.func7, Try.ntmps7
    go_wp2_with fail
    go_ret
    exact ⟨rfl, rfl⟩

def TakePost (w : World) (p g : Nat) (xs : List Nat) (e : Ending) (w' : World) : Prop :=
  e = .returned (.int .u64 ((xs.headD 0 : Nat) : Int)) ∧ DrawAt w' p g xs.tail ∧ (∀ k, k ≠ p → w'.heap[k]? = w.heap[k]?) ∧ w'.heap.size = w.heap.size ∧ w'.os = w.os ∧ w'.tape = w.tape ∧ w'.output = w.output
theorem set_one {w : World} {b : Nat} {cs : Array Value} {t : TypeId} (h : w.heap[b]? = some (.cells cs t)) (i : Nat) (v : Value) (hi : i < cs.size) :
    (w.setCell ⟨b, i, none⟩ v).heap[b]? = some (.cells (cs.set i v hi) t) := by
  have hlt := (Array.getElem?_eq_some_iff.1 h).1
  have hv := (Array.getElem?_eq_some_iff.1 h).2
  simp only [World.setCell, Array.getElem?_modify]
  simp [hlt, hv, hi, Array.setIfInBounds]

set_option maxHeartbeats 1000000 in
theorem take_any {p g : Nat} {xs : List Nat} (w : World) (h : DrawAt w p g xs) (hne : xs = [] ∨ p ≠ g) :
    Calls Try.prog 6 #[.pointer (some ⟨p, 0, none⟩)] w (TakePost w p g xs) := by
  have hD := h
  obtain ⟨v, h1, h2⟩ := h
  have hc : w.cell? ⟨p, 0, none⟩ = some v := cell_blk h1 rfl
  have hf : w.frozen? ⟨p, 0, none⟩ = false := by simp [World.frozen?, h1]
  rcases h2 with ⟨rfl, rfl⟩ | ⟨o, cap, rfl, e1, e2, e3⟩
  · have hP : Hid (TakePost w p g [] (.returned (.int .u64 0)) w) := ⟨rfl, hD, fun _ _ => rfl, rfl, rfl, rfl, rfl⟩
    clear hD h1
    go_enter Try.func6, Try.ntmps6
    go_wp2_with fail
    go_ret
    exact hP.out
  · cases xs with
    | nil =>
      have hP : Hid (TakePost w p g [] (.returned (.int .u64 0)) w) := ⟨rfl, hD, fun _ _ => rfl, rfl, rfl, rfl, rfl⟩
      clear hD h1 e3
      go_enter Try.func6, Try.ntmps6
      go_wp2_with fail
      go_ret
      exact hP.out
    | cons x t =>
      have hpg : p ≠ g := by simpa using hne
      have hx : w.cell? ⟨g, o, none⟩ = some (.int .u64 (x : Int)) := e3 0 (by simp)
      have hn : (t.length : Int) + 1 ≤ (cap : Int) := by simp at e1; omega
      have hz : ((t.length : Int) + 1 == 0) = false := by simp; omega
      have hm : (cap : Int) ≤ 9223372036854775807 := by unfold maxLen at e2; omega
      have hP : ∀ o' cap', t.length ≤ cap' → cap' ≤ maxLen → (∀ j (hj : j < t.length), w.cell? ⟨g, o' + j, none⟩ = some (.int .u64 (t[j] : Nat))) →
          TakePost w p g (x :: t) (.returned (.int .u64 (x : Int))) (w.setCell ⟨p, 0, none⟩ (.slice (some ⟨g, o', none⟩) t.length cap')) := by
        intro o' cap' q1 q2 q3
        have hb : ∀ k, k ≠ p → (w.setCell ⟨p, 0, none⟩ (.slice (some ⟨g, o', none⟩) t.length cap')).heap[k]? = w.heap[k]? := fun k hk => Below.heap_setCell _ ⟨p, 0, none⟩ _ k hk
        refine ⟨rfl, ⟨_, set_one h1 0 _ (by simp), Or.inr ⟨o', cap', rfl, q1, q2, fun j hj => ?_⟩⟩, hb, by simp [World.setCell], rfl, rfl, rfl⟩
        exact (World.cell?_of_block (hb g (Ne.symm hpg))).trans (q3 j hj)
      have HP := hide hP
      have e3' : ∀ j (hj : j < t.length), w.cell? ⟨g, o + 1 + j, none⟩ = some (.int .u64 (t[j] : Nat)) := fun j hj => by
        have := e3 (j + 1) (by simp; omega)
        rw [show o + (j + 1) = o + 1 + j by omega] at this
        simpa using this
      have He := hide e3'
      simp only [List.length_cons] at hc e1
      clear hD h1 e3 hP e3'
      by_cases h1' : cap = 1
      · subst h1'
        have ht0 : t = [] := List.eq_nil_of_length_eq_zero (by omega)
        subst ht0
        go_enter Try.func6, Try.ntmps6
        go_wp2_with fail
        go_ret
        exact HP.out o 0 (by simp) (by simp [maxLen]) (fun j hj => absurd hj (by simp))
      · go_enter Try.func6, Try.ntmps6
        go_wp2_with fail
        go_ret
        exact HP.out (o + 1) (cap - 1) (by omega) (by omega) He.out
end Go.Proofs.Ytflihieaajbihaa
