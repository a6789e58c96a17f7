/-
  script: the statement ScriptPrints as data: a copied script, a mark behind each of its lists.
-/
import Derived.Test.YtpkbjjbbdhehdaaDoorSGA
namespace Go.Proofs.YtpkbjjbbdhehdaaDoor
open Go.RowKit
set_option linter.unusedVariables false

def ovMark : List Value := [.string ⟨#[]⟩, .int .u64 79]
def cmMark : List Value := [.int .i64 (-80), .int .i64 0, .slice none 0 0, .slice none 0 0, .int .u64 0, .int .u64 0, .int .i64 0, .string ⟨#[]⟩, .string ⟨#[]⟩]
def mrk (m : Bool) : List Value := if m then [.int .i64 77] else []
/-- The copied script beside its marks. -/
structure PrJ (w : World) (os : List Ovr) (L : List CmV) (go co gc cc : Nat) (G C Gc Cc : Nat → Bool → Nat) (M : Nat → Bool → Bool) (v6 : Value) (ts : List Value) (bt : Nat) (bv : Array Value) (W : World) : Prop where
  box : W.heap[bt]? = some (.cells bv 25)
  ov : W.ownsRow w.heap.size 29 2 (.slice (some ⟨go, 0, none⟩) (os.length + 1) co) (os.length + 1) (ovCells os ++ ovMark)
  cm : W.ownsRow w.heap.size 32 9 (.slice (some ⟨gc, 0, none⟩) (L.length + 1) cc) (L.length + 1) (cmCells (newC Gc Cc L) ++ cmMark)
  row : ∀ i (h : i < L.length) b, W.ownsRow w.heap.size 3 1 (.slice (some ⟨G i b, 0, none⟩) ((lst b L[i].c).length + (mrk (M i b)).length) (C i b)) ((lst b L[i].c).length + (mrk (M i b)).length) ((lst b L[i].c).map cellI ++ mrk (M i b))
  apart : ∀ i j b b', i < L.length → j < L.length → G i b = G j b' → i = j ∧ b = b'
  tails : W.ownsRow w.heap.size 34 1 v6 ts.length ts
  keeps : Keeps w W (fun _ => False)
section
variable {w W W' : World} {os : List Ovr} {L : List CmV} {go co gc cc : Nat} {G C Gc Cc : Nat → Bool → Nat} {M : Nat → Bool → Bool} {v6 : Value} {ts : List Value} {bt : Nat} {bv : Array Value}
theorem PrJ.stay (h : PrJ w os L go co gc cc G C Gc Cc M v6 ts bt bv W) (q : Keeps W W' (fun _ => False)) : PrJ w os L go co gc cc G C Gc Cc M v6 ts bt bv W' :=
  ⟨q.blk8 h.box, ownsRow_keeps h.ov q (fun _ _ e => e), ownsRow_keeps h.cm q (fun _ _ e => e), fun i hi b => ownsRow_keeps (h.row i hi b) q (fun _ _ e => e), h.apart, ownsRow_keeps h.tails q (fun _ _ e => e), h.keeps.trans q (fun _ _ e => e)⟩
def updB (M : Nat → Bool → Bool) (i : Nat) (b : Bool) : Nat → Bool → Bool := fun j c => if j = i ∧ c = b then true else M j c
theorem updB_same {i : Nat} {b : Bool} : updB M i b i b = true := by simp [updB]
theorem updB_other {i j : Nat} {b c : Bool} (h : ¬ (j = i ∧ c = b)) : updB M i b j c = M j c := by
  unfold updB
  rw [if_neg h]
/-- The mark behind one list of numbers. -/
theorem PrJ.mark (h : PrJ w os L go co gc cc G C Gc Cc M v6 ts bt bv W) {i : Nat} (hi : i < L.length) {b : Bool} (hm : M i b = false) (hl : (lst b L[i].c).length ≤ 8388608) {p : Nat} (hp : W.heap[p]? = some (.cells #[.int .i64 77] 3)) (hpl : w.heap.size ≤ p) (hpn : ∀ j (hj : j < L.length) d, ¬ G j d = p) :
    ∃ g c W', (∀ ty, (Builtin.append_ #[30, 30] ty #[rowV G C i b L[i].c, .slice (some ⟨p, 0, none⟩) 1 1]).run Tryd.prog W = .ok (.slice (some ⟨g, 0, none⟩) ((lst b L[i].c).length + 1) c) W') ∧ (lst b L[i].c).length + 1 ≤ c ∧ PrJ w os L go co gc cc (upd G i b g) (upd C i b c) Gc Cc (updB M i b) v6 ts bt bv W' ∧ ∀ (q : Nat) (cs : Array Value) (t : TypeId), t ≠ 3 → W.heap[q]? = some (Obj.cells cs t) → W'.heap[q]? = some (Obj.cells cs t) := by
  have hr : W.ownsRow w.heap.size 3 1 (.slice (some ⟨G i b, 0, none⟩) (lst b L[i].c).length (C i b)) (lst b L[i].c).length ((lst b L[i].c).map cellI) := by
    have hr := h.row i hi b
    rw [hm] at hr
    simpa [mrk] using hr
  obtain ⟨g, c, W', h1, h2, h3, h4⟩ := append_one (P := Tryd.prog) 30 3 (.int .i64 0) 8 Tryd.underlying30 Tryd.infoI rfl hr hp rfl (by omega) (by simp only [maxLen]; omega) h.keeps.size
  have k : Keeps W W' (fun q => q = G i b) := h3.mono (fun q hq e => by
    have e' : G i b = q := by simpa [Value.ownBlock] using e
    exact e'.symm)
  have hcap : (lst b L[i].c).length + 1 ≤ c := by
    rcases h2.2 with ⟨e, _⟩ | ⟨g', cap', cur', e1, _, _, e4, _⟩
    · cases e
    · injection e1 with _ _ e3
      omega
  have hG : W.heap[G i b]? = W.heap[G i b]? := rfl
  obtain ⟨-, cur, hcur⟩ := ownsRow_block hr (g := G i b) rfl
  have hlow : w.heap.size ≤ G i b := (ownsRow_block hr (g := G i b) rfl).1
  have hg : g = G i b ∨ g = W.heap.size := by
    rcases h4 with e | e
    · left
      simpa [Value.ownBlock] using e.symm
    · exact Or.inr e
  have hbt : ¬ bt = G i b := fun e => by
    have := h.box
    rw [e, hcur] at this
    injection this with this
    injection this with _ e2 _
    exact absurd e2 (by decide)
  refine ⟨g, c, W', h1, hcap, ⟨(k.block _ (heap_lt h.box) hbt).trans h.box, ownsRow_keeps h.ov k (own_ne h.ov hcur (by decide)), ownsRow_keeps h.cm k (own_ne h.cm hcur (by decide)), fun j hj d => ?_, fun j1 j2 d1 d2 q1 q2 he => ?_, ownsRow_keeps h.tails k (own_ne h.tails hcur (by decide)), h.keeps.trans k (fun q hq e => by omega)⟩, fun q cs t hq1 hq2 => (k.block q (heap_lt hq2) (fun e => by
    rw [e, hcur] at hq2
    injection hq2 with hq2
    injection hq2 with _ e2 _
    exact hq1 e2.symm)).trans hq2⟩
  · by_cases hjd : j = i ∧ d = b
    · obtain ⟨rfl, rfl⟩ := hjd
      rw [updB_same, upd_same, upd_same]
      exact h2
    · rw [updB_other hjd, upd_other _ _ hjd, upd_other _ _ hjd]
      exact ownsRow_keeps (h.row j hj d) k (fun q hq e => by
        have e' : G j d = q := by simpa [Value.ownBlock] using hq
        exact hjd (h.apart j i d b hj hi (e'.trans e)))
  · have hlt : ∀ j (hj : j < L.length) d, G j d < W.heap.size := fun j hj d => row_lt (h.row j hj d)
    by_cases c1 : j1 = i ∧ d1 = b
    · by_cases c2 : j2 = i ∧ d2 = b
      · exact ⟨c1.1.trans c2.1.symm, c1.2.trans c2.2.symm⟩
      · obtain ⟨rfl, rfl⟩ := c1
        rw [upd_same, upd_other _ _ c2] at he
        rcases hg with e | e
        · exact h.apart j1 j2 d1 d2 q1 q2 (e.symm.trans he)
        · have := hlt j2 q2 d2
          omega
    · by_cases c2 : j2 = i ∧ d2 = b
      · obtain ⟨rfl, rfl⟩ := c2
        rw [upd_same, upd_other _ _ c1] at he
        rcases hg with e | e
        · exact h.apart j1 j2 d1 d2 q1 q2 (he.trans e)
        · have := hlt j1 q1 d1
          omega
      · rw [upd_other _ _ c1, upd_other _ _ c2] at he
        exact h.apart j1 j2 d1 d2 q1 q2 he
/-- The two pointers behind the list of tails. -/
theorem PrJ.tail (h : PrJ w os L go co gc cc G C Gc Cc M v6 ts bt bv W) {p q1 q2 : Nat} {a1 a2 : Addr} (hp : W.heap[p]? = some (.cells #[.pointer (some a1), .pointer (some a2)] 34)) (hl : ts.length ≤ 16777216) :
    ∃ g c W', (∀ ty, (Builtin.append_ #[33, 33] ty #[v6, .slice (some ⟨p, 0, none⟩) 2 2]).run Tryd.prog W = .ok (.slice (some ⟨g, 0, none⟩) (ts.length + 2) c) W') ∧ PrJ w os L go co gc cc G C Gc Cc M (.slice (some ⟨g, 0, none⟩) (ts.length + 2) c) (ts ++ [.pointer (some a1), .pointer (some a2)]) bt bv W' ∧ ∀ (q : Nat) (cs : Array Value) (t : TypeId), t ≠ 34 → W.heap[q]? = some (Obj.cells cs t) → W'.heap[q]? = some (Obj.cells cs t) := by
  have hi : (Tryd.prog.info? 34).map (fun i => (i.zero, i.size, i.bytes)) = some (some (.pointer none), 1, 8) := by kernel_rfl
  obtain ⟨g, c, W', h1, h2, h3, h4⟩ := append_list (P := Tryd.prog) 33 34 (.pointer none) 8 Tryd.underlying33 hi rfl h.tails (us := [.pointer (some a1), .pointer (some a2)]) (m := 2) hp rfl (by omega) (by simp [Value.oneCell']) 2 (by omega) (by simp only [maxLen]; omega) h.keeps.size
  have hne : ∀ {e : TypeId} {size n : Nat} {v : Value} {xs : List Value}, W.ownsRow w.heap.size e size v n xs → e ≠ 34 → ∀ k, v.ownBlock = some k → ¬ v6.ownBlock = some k := fun ho he k hk e => by
    obtain ⟨-, cur, hc⟩ := ownsRow_block h.tails e
    exact own_ne ho hc (fun e' => he e'.symm) k hk rfl
  have hbt : ¬ v6.ownBlock = some bt := fun e => by
    obtain ⟨-, cur, hc⟩ := ownsRow_block h.tails e
    have := h.box
    rw [hc] at this
    injection this with this
    injection this with _ e2 _
    exact absurd e2 (by decide)
  refine ⟨g, c, W', h1, ⟨(h3.block _ (heap_lt h.box) hbt).trans h.box, ownsRow_keeps h.ov h3 (hne h.ov (by decide)), ownsRow_keeps h.cm h3 (hne h.cm (by decide)), fun j hj d => ownsRow_keeps (h.row j hj d) h3 (hne (h.row j hj d) (by decide)), h.apart, ?_, h.keeps.trans h3 (fun i hi e => by
    have := (ownsRow_block h.tails e).1
    omega)⟩, fun q cs t hq1 hq2 => (h3.block q (heap_lt hq2) (fun e => by
    obtain ⟨-, cur, hc⟩ := ownsRow_block h.tails e
    rw [hc] at hq2
    injection hq2 with hq2
    injection hq2 with _ e2 _
    exact hq1 e2.symm)).trans hq2⟩
  rw [List.length_append]
  exact h2
/-- One of a command's two cells is the list's new slice. -/
theorem PrJ.put (h : PrJ w os L go co gc cc G C Gc Cc M v6 ts bt bv W) {i : Nat} (hi : i < L.length) (b : Bool) (g c : Nat) :
    PrJ w os L go co gc cc G C (upd Gc i b g) (upd Cc i b c) M v6 ts bt bv (W.setCell ⟨gc, i * 9 + (2 + num b), none⟩ (.slice (some ⟨g, 0, none⟩) (lst b L[i].c).length c)) := by
  obtain ⟨s1, s2⟩ := h.cm.stored (i * 9 + (2 + num b)) (.slice (some ⟨g, 0, none⟩) (lst b L[i].c).length c)
  have k : Keeps W (W.setCell ⟨gc, i * 9 + (2 + num b), none⟩ (.slice (some ⟨g, 0, none⟩) (lst b L[i].c).length c)) (fun q => q = gc) := (Keeps.ofGrown s2).mono (fun q hq e => by injection e with e; exact e.symm)
  obtain ⟨-, curc, hgc⟩ := ownsRow_block h.cm (g := gc) rfl
  have hlo : w.heap.size ≤ gc := (ownsRow_block h.cm (g := gc) rfl).1
  have hlen : ∀ G C : Nat → Bool → Nat, (newC G C L).length = L.length := fun G C => by simp [newC]
  have ec : cmCells (newC (upd Gc i b g) (upd Cc i b c) L) ++ cmMark = (cmCells (newC Gc Cc L) ++ cmMark).set (i * 9 + (2 + num b)) (.slice (some ⟨g, 0, none⟩) (lst b L[i].c).length c) := by
    rw [List.set_append_left _ _ (by rw [cmCells_length, hlen]; cases b <;> simp [num] <;> omega)]
    congr 1
    refine cm_set (by rw [hlen, hlen]) (by rw [hlen]; exact hi) (by cases b <;> simp [num]) (fun j h1 h2 hne => ?_) (fun h2 => ?_)
    · simp only [newC, List.getElem_mapIdx]
      rw [rowV_other _ _ _ _ _ (fun e => hne e.1), rowV_other _ _ _ _ _ (fun e => hne e.1)]
    · simp only [newC, List.getElem_mapIdx]
      cases b with
      | false =>
        rw [rowV_same, rowV_other _ _ _ _ _ (fun e => by cases e.2)]
        simp [num, CmV.cells]
      | true =>
        rw [rowV_same, rowV_other _ _ _ _ _ (fun e => by cases e.2)]
        simp [num, CmV.cells]
  have hbt : ¬ bt = gc := fun e => by
    have := h.box
    rw [e, hgc] at this
    injection this with this
    injection this with _ e2 _
    exact absurd e2 (by decide)
  refine ⟨(k.block _ (heap_lt h.box) hbt).trans h.box, ownsRow_keeps h.ov k (own_ne h.ov hgc (by decide)), by rw [ec]; exact s1, fun j hj d => ownsRow_keeps (h.row j hj d) k (own_ne (h.row j hj d) hgc (by decide)), h.apart, ownsRow_keeps h.tails k (own_ne h.tails hgc (by decide)), h.keeps.trans k (fun q hq e => by omega)⟩
/-- The tails appended, met in a region that draws. -/
theorem step_tail (h : PrJ w os L go co gc cc G C Gc Cc M v6 ts bt bv W) {ops : Array Oper} {o : Oper} {a : Act} {K : Act → World → Prop} {Q : Exit → Act → World → Prop} {E : Prop} (hgd : o.guard = none) (s x : Operand)
    (ho : o.op = .call { callee := .builtin .append, args := #[s, x], argTypes := #[33, 33] }) {p : Nat} {a1 a2 : Addr} (hs : a.eval s = v6) (hv : a.eval x = .slice (some ⟨p, 0, none⟩) 2 2) (hp : W.heap[p]? = some (.cells #[.pointer (some a1), .pointer (some a2)] 34)) (hl : ts.length ≤ 16777216)
    (hk : ∀ g c w', PrJ w os L go co gc cc G C Gc Cc M (.slice (some ⟨g, 0, none⟩) (ts.length + 2) c) (ts ++ [.pointer (some a1), .pointer (some a2)]) bt bv w' → (∀ (q : Nat) (cs : Array Value) (t : TypeId), t ≠ 34 → W.heap[q]? = some (Obj.cells cs t) → w'.heap[q]? = some (Obj.cells cs t)) → K (a.put o.dst (.slice (some ⟨g, 0, none⟩) (ts.length + 2) c)) w') :
    if Region.wanted o (yielded ops a.tmps) = true then Oper.wp Tryd.prog o a W K Q else E := by
  obtain ⟨g, c, W', hrun, hj, hst⟩ := h.tail (q1 := 0) (q2 := 0) hp hl
  exact step_append_run hgd s x 33 ho hs hv hrun (hk g c W' hj hst)
theorem PrJ.cell (h : PrJ w os L go co gc cc G C Gc Cc M v6 ts bt bv W) {i : Nat} (hi : i < L.length) (b : Bool) : W.cell? ⟨gc, i * 9 + (2 + num b), none⟩ = some (rowV Gc Cc i b L[i].c) := by
  have hlen : (newC Gc Cc L).length = L.length := by simp [newC]
  have hp : 2 + num b < 9 := by cases b <;> simp [num]
  rw [h.cm.cellAt (i * 9 + (2 + num b)) (by omega), List.getElem?_append_left (by rw [cmCells_length, hlen]; omega), cmCells_at _ i (by rw [hlen]; exact hi) _ hp]
  simp only [newC, List.getElem_mapIdx]
  cases b <;> simp [num, CmV.cells]
/-- One struct more behind a row of one's own. -/
theorem append_struct (t e : TypeId) (z : Value) (size bytes : Nat) (ht : Tryd.prog.underlying t = some (.slice e)) (hi : (Tryd.prog.info? e).map (fun i => (i.zero, i.size, i.bytes)) = some (some z, size, bytes)) (hz : z.cells.size = size) (hs0 : 0 < size)
    {W : World} {base g n c : Nat} {xs us : List Value} (own : W.ownsRow base e size (.slice (some ⟨g, 0, none⟩) n c) n xs) {p : Nat} (hp : W.heap[p]? = some (.cells us.toArray e)) (hus : us.length = size) (h1 : ∀ u ∈ us, u.oneCell' = true) (hb : (n + 1) * bytes ≤ 140737488355328) (hn : n + 1 ≤ 1099511627776) (hbase : base ≤ W.heap.size) :
    ∃ g2 c2 W', (∀ ty, (Builtin.append_ #[t, t] ty #[.slice (some ⟨g, 0, none⟩) n c, .slice (some ⟨p, 0, none⟩) 1 1]).run Tryd.prog W = .ok (.slice (some ⟨g2, 0, none⟩) (n + 1) c2) W') ∧ n + 1 ≤ c2 ∧ W'.ownsRow base e size (.slice (some ⟨g2, 0, none⟩) (n + 1) c2) (n + 1) (xs ++ us) ∧ Keeps W W' (fun k => k = g) := by
  have hi' : ∃ i, Tryd.prog.info? e = some i ∧ i.zero = some z ∧ i.size = size ∧ i.bytes = bytes := by
    cases h : Tryd.prog.info? e with
    | none => rw [h] at hi; cases hi
    | some i =>
      rw [h] at hi
      simp at hi
      exact ⟨i, rfl, hi.1, hi.2.1, hi.2.2⟩
  obtain ⟨i, q1, q2, q3, q4⟩ := hi'
  obtain ⟨v', w2, hr, hown, hgr, hnil, hloc⟩ := run_append_own_at (P := Tryd.prog) W base t 0 e i z size bytes ht q1 q2 q3 q4 hz hs0 _ n xs own ⟨p, 0, none⟩ 1 1 us (by omega) (fun j u hj => by
    rw [addr_add, Nat.zero_add]
    simp only [World.cell?, hp]
    simpa using hj) h1 (by simp only [maxLen]; omega) hb hbase
  have hown0 := hown
  rcases hown.2 with ⟨e1, hz1⟩ | ⟨g', cap', cur', e1, _, _, e4, _⟩
  · omega
  · subst e1
    exact ⟨g', cap', w2, fun ty => hr, e4, hown0, (Keeps.ofGrown hgr).mono (fun q hq e => by
      have e' : g = q := by simpa [Value.ownBlock] using e
      exact e'.symm)⟩
end
end Go.Proofs.YtpkbjjbbdhehdaaDoor
