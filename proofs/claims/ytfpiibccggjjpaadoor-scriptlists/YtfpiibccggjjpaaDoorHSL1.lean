/-
  script: ScriptLists as data: a row of structs that grows while an older slice of it stays in use; a script whose lists are written over.
-/
import Derived.Test.YtfpiibccggjjpaaDoorUn13
import Derived.Deep.AppendSrc
namespace Go.Proofs.YtfpiibccggjjpaaDoor
open Go.RowKit
set_option linter.unusedVariables false
theorem fz00 {W : World} {g : Nat} {cur : Array Value} {e : TypeId} (h : W.heap[g]? = some (.cells cur e (0, 0))) (j : Nat) : W.frozen? ⟨g, j, none⟩ = false := by
  simp [World.frozen?, h]
theorem cellS {W : World} {g : Nat} {cur : Array Value} {e : TypeId} {fz : Nat × Nat} (h : W.heap[g]? = some (.cells cur e fz)) {j : Nat} (hj : j < cur.size) : (W.cell? ⟨g, j, none⟩).isSome = true := by
  simp [World.cell?, h, hj]
/-- One struct more; the slice that was there stays a row of one's own. -/
theorem append_two (t e : TypeId) (z : Value) (size bytes : Nat) (ht : Tryd.prog.underlying t = some (.slice e)) (hi : (Tryd.prog.info? e).map (fun i => (i.zero, i.size, i.bytes)) = some (some z, size, bytes)) (hz : z.cells.size = size) (hs0 : 0 < size) (hb0 : 1 ≤ bytes)
    {W : World} {base n : Nat} {v : Value} {xs us : List Value} (own : W.ownsRow base e size v n xs) {p : Nat} (hp : W.heap[p]? = some (.cells us.toArray e)) (hus : us.length = size) (h1 : ∀ u ∈ us, u.oneCell' = true) (hb : (n + 1) * bytes ≤ 140737488355328) (hn : n + 1 ≤ 1099511627776) (hbase : base ≤ W.heap.size) :
    ∃ g2 c2 W', (∀ ty, (Builtin.append_ #[t, t] ty #[v, .slice (some ⟨p, 0, none⟩) 1 1]).run Tryd.prog W = .ok (.slice (some ⟨g2, 0, none⟩) (n + 1) c2) W') ∧ W'.ownsRow base e size (.slice (some ⟨g2, 0, none⟩) (n + 1) c2) (n + 1) (xs ++ us) ∧ W'.ownsRow base e size v n xs ∧ Keeps W W' (fun k => v.ownBlock = some k) := by
  have hi' : ∃ i, Tryd.prog.info? e = some i ∧ i.zero = some z ∧ i.size = size ∧ i.bytes = bytes := by
    cases h : Tryd.prog.info? e with
    | none => rw [h] at hi; cases hi
    | some i =>
      rw [h] at hi
      simp at hi
      exact ⟨i, rfl, hi.1, hi.2.1, hi.2.2⟩
  obtain ⟨i, q1, q2, q3, q4⟩ := hi'
  have hnews : ∀ j u, us[j]? = some u → W.cell? ((⟨p, 0, none⟩ : Addr).add j) = some u := fun j u hj => by
    rw [addr_add, Nat.zero_add]
    simp only [World.cell?, hp]
    simpa using hj
  obtain ⟨v', w2, hr, hown, hgr, hnil, hloc⟩ := run_append_own_at (P := Tryd.prog) W base t 0 e i z size bytes ht q1 q2 q3 q4 hz hs0 _ n xs own ⟨p, 0, none⟩ 1 1 us (by omega) hnews h1 (by simp only [maxLen]; omega) hb hbase
  have hown0 := hown
  have hold : w2.ownsRow base e size v n xs := by
    rcases own.2 with ⟨rfl, rfl⟩ | ⟨g, cap, cur, rfl, hg, hcur, hnc, hcm, hcs, htk⟩
    · exact ⟨own.1, Or.inl ⟨rfl, rfl⟩⟩
    · have hsrc : Src Tryd.prog i.size t (.slice (some ⟨p, 0, none⟩) 1 1) 1 us W := Src.ofSlice W ht _ 1 1 us (by rw [q3]; omega) hnews h1
      by_cases hroom : n + 1 ≤ cap
      · have r1 := run_append_room_src (P := Tryd.prog) W t t 0 e i ht q1 g 0 n cap _ 1 us hsrc hroom (fun j hj => by
          refine cellS hcur ?_
          rw [hcs, q3, Nat.zero_add]
          have : (n + 1) * size ≤ cap * size := Nat.mul_le_mul_right _ hroom
          rw [Nat.add_mul, Nat.one_mul] at this
          omega) (fun j hj => fz00 hcur _)
        have r2 := r1.symm.trans hr
        injection r2 with e1 e2
        subst e1 e2
        rcases hown.2 with ⟨e1, _⟩ | ⟨g', cap', cur', e1, a1, a2, a3, a4, a5, a6⟩
        · cases e1
        · injection e1 with e1 _ e3
          injection e1 with e1
          injection e1 with e1 _ _
          subst e1 e3
          refine ⟨own.1, Or.inr ⟨g, cap, cur', rfl, hg, a2, hnc, a4, a5, ?_⟩⟩
          have := congrArg (List.take (n * size)) a6
          rw [List.take_take, Nat.min_eq_left (by rw [Nat.add_mul]; omega), ← own.1, List.take_left] at this
          rw [← own.1]
          exact this
      · have r1 := run_append_grow_src (P := Tryd.prog) W t t 0 e i z ht q1 q2 (some ⟨g, 0, none⟩) n cap xs (by
            have := run_firstCells_some (P := Tryd.prog) W.drew i.size n ⟨g, 0, none⟩ n cap xs (by rw [q3]; exact own.1) (fun j u hj => by
              rw [addr_add, Nat.zero_add]
              have hj2 : j < n * size := by
                have := (List.getElem?_eq_some_iff.1 hj).1
                rw [own.1] at this
                exact this
              have := own.cellAt j hj2
              exact this.trans hj)
            exact this) _ 1 us hsrc (by omega) (by omega) (by
              have a := nextslicecap_le (need := n + 1) (old := cap) (by omega)
              rw [q4]
              refine Nat.le_trans (Nat.mul_le_mul_right bytes a) ?_
              rw [Nat.mul_assoc]
              omega)
        have r2 := r1.symm.trans hr
        injection r2 with e1 e2
        subst e1 e2
        have k : Keeps W (W.drew.alloc (.cells ((xs ++ us).toArray ++ Builtin.zeroCells z.cells (grownCap W (n + 1) cap e - (n + 1))) e)) (fun _ => False) := ((Keeps.refl _ _).drew).alloc _
        exact ownsRow_keeps own k (fun _ _ e => e)
  rcases hown.2 with ⟨e1, hz1⟩ | ⟨g', cap', cur', e1, _, _, e4, _⟩
  · omega
  · subst e1
    exact ⟨g', cap', w2, fun ty => hr, hown0, hold, Keeps.ofGrown hgr⟩
/-- The rows of commands and of their numbers, all of one's own. -/
structure MkS (lo : Nat) (vc : Value) (L : List CmV) (W : World) : Prop where
  cs : W.ownsRow lo 33 9 vc L.length (cmCells L)
  each : ∀ i (h : i < L.length) b, IntsO lo W (lv b L[i]) (lst b L[i].c)
  ap : Apart L
def setL (b : Bool) (l : List Int) (v : Value) (x : CmV) : CmV := if b then ⟨{ x.c with hl := l }, x.fs, v⟩ else ⟨{ x.c with fl := l }, v, x.hs⟩
theorem setL_lv (b : Bool) (l : List Int) (v : Value) (x : CmV) (d : Bool) : lv d (setL b l v x) = if d = b then v else lv d x := by
  cases b <;> cases d <;> rfl
theorem setL_lst (b : Bool) (l : List Int) (v : Value) (x : CmV) (d : Bool) : lst d (setL b l v x).c = if d = b then l else lst d x.c := by
  cases b <;> cases d <;> rfl
theorem setL_op (b : Bool) (l : List Int) (v : Value) (x : CmV) : (setL b l v x).c.op = x.c.op := by cases b <;> rfl
theorem setL_cells (b : Bool) (l : List Int) (v : Value) (x : CmV) : (setL b l v x).cells = x.cells.set (2 + num b) v := by cases b <;> rfl
theorem lv_cells (b : Bool) (x : CmV) : x.cells[2 + num b]? = some (lv b x) := by cases b <;> rfl
theorem cmSet {L : List CmV} {i p : Nat} (hi : i < L.length) (hp : p < 9) {y : CmV} {v : Value} (hy : y.cells = L[i].cells.set p v) : cmCells (L.set i y) = (cmCells L).set (i * 9 + p) v :=
  cm_set (X := L) (Y := L.set i y) (by simp) hi hp (fun j h h2 hne => by rw [List.getElem_set_ne (fun e => hne e.symm)]) (fun h2 => by rw [List.getElem_set_self]; exact hy)
theorem set_same' {l : List Value} {i : Nat} {v : Value} (h : l[i]? = some v) : l.set i v = l := by
  obtain ⟨hi, rfl⟩ := List.getElem?_eq_some_iff.1 h
  exact List.set_getElem_self hi
theorem MkS.old {lo : Nat} {vc : Value} {L : List CmV} {W : World} (h : MkS lo vc L W) {j : Nat} (hj : j < L.length) {b : Bool} {g : Nat} (hg : (lv b L[j]).ownBlock = some g) : g < W.heap.size := by
  obtain ⟨-, cur, hc⟩ := ownsRow_block (h.each j hj b) hg
  exact heap_lt hc
theorem MkS.keeps {lo : Nat} {vc : Value} {L : List CmV} {W W' : World} (h : MkS lo vc L W) (k : Keeps W W' (fun _ => False)) : MkS lo vc L W' := ⟨ownsRow_keeps h.cs k (fun _ _ e => e), fun i hi b => (h.each i hi b).keeps k, h.ap⟩
theorem Apart.set {L : List CmV} (h : Apart L) {i : Nat} (hi : i < L.length) {y : CmV} (hy : ∀ d g, (lv d y).ownBlock = some g → (lv d L[i]).ownBlock = some g ∨ ((∀ j (hj : j < L.length) b, ¬ (lv b L[j]).ownBlock = some g) ∧ ∀ d', d' ≠ d → ¬ (lv d' y).ownBlock = some g)) : Apart (L.set i y) := by
  intro a c ha hc b d g h1 h2
  rw [List.length_set] at ha hc
  rw [List.getElem_set] at h1 h2
  by_cases ea : i = a
  · subst ea
    rw [if_pos rfl] at h1
    by_cases ec : i = c
    · subst ec
      rw [if_pos rfl] at h2
      refine ⟨rfl, ?_⟩
      by_cases hbd : b = d
      · exact hbd
      · rcases hy b g h1 with q1 | q1
        · rcases hy d g h2 with q2 | q2
          · exact (h _ _ hi hi b d g q1 q2).2
          · exact absurd h1 (q2.2 b hbd)
        · exact absurd h2 (q1.2 d (fun e => hbd e.symm))
    · rw [if_neg ec] at h2
      rcases hy b g h1 with q1 | q1
      · exact h _ _ hi hc b d g q1 h2
      · exact absurd h2 (q1.1 c hc d)
  · rw [if_neg ea] at h1
    by_cases ec : i = c
    · subst ec
      rw [if_pos rfl] at h2
      rcases hy d g h2 with q1 | q1
      · exact h _ _ ha hi b d g h1 q1
      · exact absurd h1 (q1.1 a ha b)
    · rw [if_neg ec] at h2
      exact h _ _ ha hc b d g h1 h2
/-- The numbers of one list are others. -/
theorem MkS.list {lo : Nat} {vc : Value} {L : List CmV} {W W' : World} (h : MkS lo vc L W) {i : Nat} (hi : i < L.length) {b : Bool} {l : List Int} (hl : IntsO lo W' (lv b L[i]) l) (k : Keeps W W' (fun q => (lv b L[i]).ownBlock = some q)) : MkS lo vc (L.set i (setL b l (lv b L[i]) L[i])) W' := by
  refine ⟨?_, fun j hj d => ?_, h.ap.set hi (fun d g hg => Or.inl ?_)⟩
  · rw [List.length_set, cmSet hi (by cases b <;> simp [num]) (setL_cells b l _ _), set_same' (by rw [cmCells_at _ _ hi _ (by cases b <;> simp [num]), lv_cells])]
    exact ownsRow_keeps h.cs k (own_two (h.each i hi b) h.cs (by decide))
  · rw [List.length_set] at hj
    rw [List.getElem_set]
    by_cases e : i = j
    · subst e
      rw [if_pos rfl, setL_lv, setL_lst]
      by_cases hd : d = b
      · rw [if_pos hd, if_pos hd]
        exact hl
      · rw [if_neg hd, if_neg hd]
        exact ownsRow_keeps (h.each i hi d) k (fun g q1 q2 => hd (h.ap i i hi hi d b g q1 q2).2)
    · rw [if_neg e]
      exact ownsRow_keeps (h.each j hj d) k (fun g q1 q2 => e (h.ap i j hi hj b d g q2 q1).1)
  · rw [setL_lv] at hg
    by_cases hd : d = b
    · rw [if_pos hd] at hg
      rw [hd]
      exact hg
    · rw [if_neg hd] at hg
      exact hg
/-- One command's Op is another. -/
theorem MkS.op {lo gc cc n : Nat} {L : List CmV} {W : World} (h : MkS lo (.slice (some ⟨gc, 0, none⟩) n cc) L W) (hn : L.length = n) {i : Nat} (hi : i < L.length) (o : Int) : MkS lo (.slice (some ⟨gc, 0, none⟩) n cc) (L.set i ⟨{ L[i].c with op := o }, L[i].fs, L[i].hs⟩) (W.setCell ⟨gc, i * 9, none⟩ (.int .i64 o)) ∧ Keeps W (W.setCell ⟨gc, i * 9, none⟩ (.int .i64 o)) (fun q => q = gc) := by
  subst hn
  obtain ⟨s1, s2⟩ := h.cs.stored (i * 9) (.int .i64 o)
  have k : Keeps W (W.setCell ⟨gc, i * 9, none⟩ (.int .i64 o)) (fun q => q = gc) := (Keeps.ofGrown s2).mono (fun q hq e => by injection e with e; exact e.symm)
  obtain ⟨-, curc, hgc⟩ := ownsRow_block h.cs (g := gc) rfl
  refine ⟨⟨?_, fun j hj d => ?_, h.ap.set hi (fun d g hg => Or.inl ?_)⟩, k⟩
  · rw [List.length_set, cmSet (p := 0) (v := .int .i64 o) hi (by omega) rfl]
    exact s1
  · rw [List.length_set] at hj
    have hne : ∀ {v : Value} {l : List Int}, IntsO lo W v l → IntsO lo (W.setCell ⟨gc, i * 9, none⟩ (.int .i64 o)) v l := fun {v l} q => ownsRow_keeps q k (own_ne2 q hgc ints_ne)
    rw [List.getElem_set]
    by_cases e : i = j
    · subst e
      rw [if_pos rfl]
      have := h.each i hi d
      cases d <;> exact hne this
    · rw [if_neg e]
      exact hne (h.each j hj d)
  · cases d <;> exact hg
/-- One list is longer, and its new slice is laid into its command. -/
theorem MkS.put {lo gc cc n : Nat} {L : List CmV} {W W1 : World} (h : MkS lo (.slice (some ⟨gc, 0, none⟩) n cc) L W) (hn : L.length = n) {i : Nat} (hi : i < L.length) {b : Bool} {l : List Int} {v : Value} (hl : IntsO lo W1 v l) (k1 : Keeps W W1 (fun q => (lv b L[i]).ownBlock = some q)) (hloc : v.ownBlock = (lv b L[i]).ownBlock ∨ ∃ g, v.ownBlock = some g ∧ W.heap.size ≤ g) : MkS lo (.slice (some ⟨gc, 0, none⟩) n cc) (L.set i (setL b l v L[i])) (W1.setCell ⟨gc, i * 9 + (2 + num b), none⟩ v) ∧ Keeps W1 (W1.setCell ⟨gc, i * 9 + (2 + num b), none⟩ v) (fun q => q = gc) := by
  subst hn
  have cs1 := ownsRow_keeps h.cs k1 (own_two (h.each i hi b) h.cs (by decide))
  obtain ⟨s1, s2⟩ := cs1.stored (i * 9 + (2 + num b)) v
  have k : Keeps W1 (W1.setCell ⟨gc, i * 9 + (2 + num b), none⟩ v) (fun q => q = gc) := (Keeps.ofGrown s2).mono (fun q hq e => by injection e with e; exact e.symm)
  obtain ⟨-, curc, hgc⟩ := ownsRow_block cs1 (g := gc) rfl
  have hne : ∀ {v' : Value} {l : List Int}, IntsO lo W1 v' l → IntsO lo (W1.setCell ⟨gc, i * 9 + (2 + num b), none⟩ v) v' l := fun {v' l} q => ownsRow_keeps q k (own_ne2 q hgc ints_ne)
  have hnew : ∀ g, v.ownBlock = some g → (lv b L[i]).ownBlock = some g ∨ W.heap.size ≤ g := fun g hg => by
    rcases hloc with e | ⟨g', e, hg'⟩
    · exact Or.inl (e.symm.trans hg)
    · rw [hg] at e
      injection e with e
      subst e
      exact Or.inr hg'
  refine ⟨⟨?_, fun j hj d => ?_, h.ap.set hi (fun d g hg => ?_)⟩, k⟩
  · rw [List.length_set, cmSet hi (by cases b <;> simp [num]) (setL_cells b l _ _)]
    exact s1
  · rw [List.length_set] at hj
    rw [List.getElem_set]
    by_cases e : i = j
    · subst e
      rw [if_pos rfl, setL_lv, setL_lst]
      by_cases hd : d = b
      · rw [if_pos hd, if_pos hd]
        exact hne hl
      · rw [if_neg hd, if_neg hd]
        exact hne (ownsRow_keeps (h.each i hi d) k1 (fun g q1 q2 => hd (h.ap i i hi hi d b g q1 q2).2))
    · rw [if_neg e]
      exact hne (ownsRow_keeps (h.each j hj d) k1 (fun g q1 q2 => e (h.ap i j hi hj b d g q2 q1).1))
  · rw [setL_lv] at hg
    by_cases hd : d = b
    · subst hd
      rw [if_pos rfl] at hg
      rcases hnew g hg with q | q
      · exact Or.inl q
      · refine Or.inr ⟨fun j hj b' e => ?_, fun d' hd' e => ?_⟩
        · have := h.old hj e
          omega
        · rw [setL_lv, if_neg hd'] at e
          have := h.old hi e
          omega
    · rw [if_neg hd] at hg
      exact Or.inl hg
end Go.Proofs.YtfpiibccggjjpaaDoor
