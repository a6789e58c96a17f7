import Derived.Maps.AppendAt
import Derived.Deep.RegionLaw
import Derived.Test.YtfpiibccggjjpaaDoorUn8
/-
  script: readLine whole; lay.
-/
namespace Go.Proofs.YtfpiibccggjjpaaDoor
open Go.RowKit
set_option linter.unusedVariables false

theorem readLine_any (last : Int) (v : Value) (nm : List UInt8) (fs : List (List UInt8)) (w : World) (hv : StrsIn w v (nm :: fs)) (hl : fs.length ≤ 8388600) (hz : ∀ x, x ∈ fs → x.length ≤ 8388608) (hR : RowsF w) (he : ErrW w) : Calls Tryd.prog 19 #[.int .i64 last, v] w fun e w' => RlP (lnR last nm fs) w e w' := by
  by_cases h : ∃ i, i < 16 ∧ (nmN i).data.toList = nm
  · obtain ⟨i, hi, hn⟩ := h
    unfold lnR
    rw [rowI_some hi hn]
    dsimp only
    cases hb : (mayF last (kN i) && fitN i fs.length) with
    | true =>
      rw [if_pos rfl]
      exact line_yes last v nm fs w hv hl hz hR he i hi hn hb
    | false =>
      rw [if_neg (by decide)]
      exact line_bad last v nm fs w hv hl hR i hi hn hb
  · have hno : ∀ i, i < 16 → (nmN i).data.toList ≠ nm := fun i hi e => h ⟨i, hi, e⟩
    unfold lnR
    rw [rowI_none hno]
    exact line_none last v nm fs w hv hR hno
theorem append_any (t e : TypeId) (z : Value) (size bytes : Nat) (ht : Tryd.prog.underlying t = some (.slice e)) (hi : (Tryd.prog.info? e).map (fun i => (i.zero, i.size, i.bytes)) = some (some z, size, bytes)) (hz : z.cells.size = size) (hs0 : 0 < size)
    {W : World} {base n : Nat} {v : Value} {xs us : List Value} (own : W.ownsRow base e size v n xs) {p : Nat} (hp : W.heap[p]? = some (.cells us.toArray e)) (hus : us.length = size) (h1 : ∀ u ∈ us, u.oneCell' = true) (hb : (n + 1) * bytes ≤ 140737488355328) (hn : n + 1 ≤ 1099511627776) (hbase : base ≤ W.heap.size) :
    ∃ g2 c2 W', (∀ ty, (Builtin.append_ #[t, t] ty #[v, .slice (some ⟨p, 0, none⟩) 1 1]).run Tryd.prog W = .ok (.slice (some ⟨g2, 0, none⟩) (n + 1) c2) W') ∧ W'.ownsRow base e size (.slice (some ⟨g2, 0, none⟩) (n + 1) c2) (n + 1) (xs ++ us) ∧ Keeps W W' (fun k => v.ownBlock = some k) := by
  have hi' : ∃ i, Tryd.prog.info? e = some i ∧ i.zero = some z ∧ i.size = size ∧ i.bytes = bytes := by
    cases h : Tryd.prog.info? e with
    | none => rw [h] at hi; cases hi
    | some i =>
      rw [h] at hi
      simp at hi
      exact ⟨i, rfl, hi.1, hi.2.1, hi.2.2⟩
  obtain ⟨i, q1, q2, q3, q4⟩ := hi'
  obtain ⟨v', w2, hr, hown, hgr, hnil, hloc⟩ := run_append_own_at (P := Tryd.prog) W base t 0 e i z size bytes ht q1 q2 q3 q4 hz hs0 _ n xs own ⟨p, 0, none⟩ 1 1 us (by omega) (fun j u hj => by
    rw [addr_add, Nat.zero_add]
    simp only [World.cell?, hp]
    simpa using hj) h1 (by simp only [maxLen]; omega) hb hbase
  have hown0 := hown
  rcases hown.2 with ⟨e1, hz1⟩ | ⟨g', cap', cur', e1, _, _, e4, _⟩
  · omega
  · subst e1
    exact ⟨g', cap', w2, fun ty => hr, hown0, Keeps.ofGrown hgr⟩
/-- One of a command's two lists. -/
def lv (b : Bool) (x : CmV) : Value := if b then x.hs else x.fs
/-- No two lists of the commands lie in one block. -/
def Apart (L : List CmV) : Prop := ∀ i j (hi : i < L.length) (hj : j < L.length) (b d : Bool) (g : Nat), (lv b L[i]).ownBlock = some g → (lv d L[j]).ownBlock = some g → i = j ∧ b = d
theorem Apart.nil : Apart [] := fun i j hi => absurd hi (Nat.not_lt_zero _)
theorem Apart.more {L : List CmV} (h : Apart L) {x : CmV} {n : Nat} (hold : ∀ y ∈ L, ∀ b g, (lv b y).ownBlock = some g → g < n) (hnew : ∀ b g, (lv b x).ownBlock = some g → n ≤ g) (hx : ∀ g, x.fs.ownBlock = some g → ¬ x.hs.ownBlock = some g) : Apart (L ++ [x]) := by
  intro i j hi hj b d g h1 h2
  rw [List.length_append] at hi hj
  have hi' : i ≤ L.length := Nat.lt_succ_iff.1 hi
  have hj' : j ≤ L.length := Nat.lt_succ_iff.1 hj
  rcases Nat.lt_or_ge i L.length with q1 | q1
  · rw [List.getElem_append_left q1] at h1
    rcases Nat.lt_or_ge j L.length with q2 | q2
    · rw [List.getElem_append_left q2] at h2
      exact h i j q1 q2 b d g h1 h2
    · obtain rfl : j = L.length := by omega
      rw [List.getElem_append_right (Nat.le_refl _)] at h2
      simp only [Nat.sub_self, List.getElem_cons_zero] at h2
      have a1 := hold _ (List.getElem_mem q1) b g h1
      have a2 := hnew d g h2
      omega
  · obtain rfl : i = L.length := by omega
    rw [List.getElem_append_right (Nat.le_refl _)] at h1
    simp only [Nat.sub_self, List.getElem_cons_zero] at h1
    rcases Nat.lt_or_ge j L.length with q2 | q2
    · rw [List.getElem_append_left q2] at h2
      have a1 := hold _ (List.getElem_mem q2) d g h2
      have a2 := hnew b g h1
      omega
    · obtain rfl : j = L.length := by omega
      rw [List.getElem_append_right (Nat.le_refl _)] at h2
      simp only [Nat.sub_self, List.getElem_cons_zero] at h2
      refine ⟨rfl, ?_⟩
      cases b <;> cases d
      · rfl
      · exact absurd h2 (hx g h1)
      · exact absurd h1 (hx g h2)
      · rfl
/-- A script under way, in the memory. -/
structure ScS (lo bs : Nat) (st : PSt) (vo vc : Value) (L : List CmV) (W : World) : Prop where
  box : W.heap[bs]? = some (.cells #[.int .i64 st.lim, vo, vc] 25)
  os : W.ownsRow lo 49 2 vo st.os.length (ovCells st.os)
  cs : W.ownsRow lo 33 9 vc L.length (cmCells L)
  eq : L.map (·.c) = st.cs
  each : ∀ x, x ∈ L → IntsO lo W x.fs x.c.fl ∧ IntsO lo W x.hs x.c.hl
  ap : Apart L
theorem ownsRow_slice {w : World} {base : Nat} {e : TypeId} {size : Nat} {v : Value} {n : Nat} {xs : List Value} (h : w.ownsRow base e size v n xs) : ∃ so c, v = .slice so n c := by
  rcases h.2 with ⟨rfl, rfl⟩ | ⟨g, cap, cur, e1, -⟩
  · exact ⟨none, 0, rfl⟩
  · exact ⟨_, cap, e1⟩
theorem ScS.keeps {lo bs : Nat} {st : PSt} {vo vc : Value} {L : List CmV} {W W' : World} (h : ScS lo bs st vo vc L W) (k : Keeps W W' (fun _ => False)) : ScS lo bs st vo vc L W' := ⟨k.blk8 h.box, ownsRow_keeps h.os k (fun _ _ e => e), ownsRow_keeps h.cs k (fun _ _ e => e), h.eq, fun x hx => ⟨(h.each x hx).1.keeps k, (h.each x hx).2.keeps k⟩, h.ap⟩
theorem ScS.old {lo bs : Nat} {st : PSt} {vo vc : Value} {L : List CmV} {W : World} (h : ScS lo bs st vo vc L W) : ∀ y ∈ L, ∀ b g, (lv b y).ownBlock = some g → g < W.heap.size := fun y hy b g hg => by
  cases b with
  | false =>
    obtain ⟨-, cur, hc⟩ := ownsRow_block (h.each y hy).1 hg
    exact heap_lt hc
  | true =>
    obtain ⟨-, cur, hc⟩ := ownsRow_block (h.each y hy).2 hg
    exact heap_lt hc
/-- One cell of the script's box is set, the rest stands. -/
theorem ScS.box0 {lo bs : Nat} {st : PSt} {vo vc : Value} {L : List CmV} {W : World} (h : ScS lo bs st vo vc L W) (n : Int) : ScS lo bs ⟨1, n, st.os, st.cs⟩ vo vc L (W.setCell ⟨bs, 0, none⟩ (.int .i64 n)) := by
  have k := keepsB (W := W) (B := bs) 0 (.int .i64 n)
  refine ⟨setB h.box 0 _, ownsRow_keeps h.os k (own_ne2 h.os h.box (by decide)), ownsRow_keeps h.cs k (own_ne2 h.cs h.box (by decide)), h.eq, fun x hx => ⟨ownsRow_keeps (h.each x hx).1 k (own_ne2 (h.each x hx).1 h.box (by decide)), ownsRow_keeps (h.each x hx).2 k (own_ne2 (h.each x hx).2 h.box (by decide))⟩, h.ap⟩
theorem own_two {W : World} {b1 b2 : Nat} {e1 e2 : TypeId} {s1 s2 : Nat} {v1 v2 : Value} {n1 n2 : Nat} {x1 x2 : List Value} (h1 : W.ownsRow b1 e1 s1 v1 n1 x1) (h2 : W.ownsRow b2 e2 s2 v2 n2 x2) (hne : e1 ≠ e2) : ∀ g, v2.ownBlock = some g → ¬ v1.ownBlock = some g := fun g hg e => by
  obtain ⟨-, c1, q1⟩ := ownsRow_block h1 e
  obtain ⟨-, c2, q2⟩ := ownsRow_block h2 hg
  rw [q1] at q2
  injection q2 with q2
  injection q2 with _ q3 _
  exact hne q3
theorem own_box {W : World} {b1 : Nat} {e1 t : TypeId} {s1 : Nat} {v1 : Value} {n1 : Nat} {x1 : List Value} (h1 : W.ownsRow b1 e1 s1 v1 n1 x1) {bs : Nat} {cs : Array Value} (hb : W.heap[bs]? = some (.cells cs t)) (hne : t ≠ e1) : ¬ v1.ownBlock = some bs := fun e => own_ne2 h1 hb hne bs e rfl
theorem ovCells_more (os : List Ovr) (o : Ovr) : ovCells (os ++ [o]) = ovCells os ++ [.string o.1, .int .u64 (o.2 : Int)] := by
  induction os with
  | nil => rfl
  | cons a t ih => simp [ovCells, ih]
theorem cmCells_more (L : List CmV) (x : CmV) : cmCells (L ++ [x]) = cmCells L ++ x.cells := by
  induction L with
  | nil => simp [cmCells]
  | cons a t ih => simp [cmCells, ih]
theorem three_cells9 {W : World} {q : Nat} {a b c : Value} {t : TypeId} (h : W.heap[q]? = some (.cells #[a, b, c] t)) : W.cell? ⟨q, 0, none⟩ = some a ∧ W.cell? ⟨q, 1, none⟩ = some b ∧ W.cell? ⟨q, 2, none⟩ = some c := by
  simp [World.cell?, h]
/-- One override more. -/
theorem ScS.more {lo bs : Nat} {st : PSt} {vo vc : Value} {L : List CmV} {W : World} (h : ScS lo bs st vo vc L W) (hlo : lo ≤ W.heap.size) (hn : st.os.length ≤ 1048576) (o : Ovr) :
    ∃ g2 c2 W', (∀ ty, (Builtin.append_ #[22, 22] ty #[vo, .slice (some ⟨W.heap.size, 0, none⟩) 1 1]).run Tryd.prog (W.alloc (.cells #[.string o.1, .int .u64 (o.2 : Int)] 49)).drew = .ok (.slice (some ⟨g2, 0, none⟩) (st.os.length + 1) c2) W') ∧ W'.cell? ⟨bs, 1, none⟩ = some vo ∧ W'.frozen? ⟨bs, 1, none⟩ = false ∧ ScS lo bs ⟨2, st.lim, st.os ++ [o], st.cs⟩ (.slice (some ⟨g2, 0, none⟩) (st.os.length + 1) c2) vc L (W'.setCell ⟨bs, 1, none⟩ (.slice (some ⟨g2, 0, none⟩) (st.os.length + 1) c2)) ∧ Keeps W (W'.setCell ⟨bs, 1, none⟩ (.slice (some ⟨g2, 0, none⟩) (st.os.length + 1) c2)) (fun x => x = bs ∨ vo.ownBlock = some x) := by
  have kA : Keeps W (W.alloc (.cells #[.string o.1, .int .u64 (o.2 : Int)] 49)).drew (fun _ => False) := ((Keeps.refl _ _).alloc _).drew
  have hA := h.keeps kA
  obtain ⟨g2, c2, W', hr, ho, k⟩ := append_any 22 49 _ 2 24 Tryd.underlying22 Tryd.infoOv rfl (by omega) hA.os (p := W.heap.size) (us := [.string o.1, .int .u64 (o.2 : Int)]) (heap_alloc_new W _) rfl (by simp [Value.oneCell']) (by omega) (by omega) (Nat.le_trans hlo kA.size)
  have hbox : W'.heap[bs]? = _ := (k.block bs (heap_lt hA.box) (own_box hA.os hA.box (by decide))).trans hA.box
  have hcs := ownsRow_keeps hA.cs k (own_two hA.os hA.cs (by decide))
  have hea : ∀ x, x ∈ L → IntsO lo W' x.fs x.c.fl ∧ IntsO lo W' x.hs x.c.hl := fun x hx => ⟨ownsRow_keeps (hA.each x hx).1 k (own_two hA.os (hA.each x hx).1 (by decide)), ownsRow_keeps (hA.each x hx).2 k (own_two hA.os (hA.each x hx).2 (by decide))⟩
  have kB := keepsB (W := W') (B := bs) 1 (.slice (some ⟨g2, 0, none⟩) (st.os.length + 1) c2)
  refine ⟨g2, c2, W', hr, (three_cells9 hbox).2.1, froB hbox 1, ⟨setB hbox 1 _, ?_, ownsRow_keeps hcs kB (own_ne2 hcs hbox (by decide)), h.eq, fun x hx => ⟨ownsRow_keeps (hea x hx).1 kB (own_ne2 (hea x hx).1 hbox (by decide)), ownsRow_keeps (hea x hx).2 kB (own_ne2 (hea x hx).2 hbox (by decide))⟩, h.ap⟩, ?_⟩
  · have := ownsRow_keeps ho kB (own_ne2 ho hbox (by decide))
    rw [← ovCells_more] at this
    show World.ownsRow _ lo _ 2 _ (st.os ++ [o]).length (ovCells (st.os ++ [o]))
    rw [List.length_append]
    exact this
  · exact ((kA.mono (S1 := fun x => x = bs ∨ vo.ownBlock = some x) (fun _ _ e => e.elim)).trans k (fun q hq e => Or.inr e)).setCell ⟨bs, 1, none⟩ (fun _ => Or.inl rfl) _
/-- One command more. -/
theorem ScS.moreC {lo bs : Nat} {st : PSt} {vo vc : Value} {L : List CmV} {W : World} (h : ScS lo bs st vo vc L W) (hlo : lo ≤ W.heap.size) (hn : L.length ≤ 1048576) (x : CmV) (hf : IntsO lo W x.fs x.c.fl) (hs : IntsO lo W x.hs x.c.hl) (hA0 : Apart (L ++ [x])) :
    ∃ g2 c2 W', (∀ ty, (Builtin.append_ #[23, 23] ty #[vc, .slice (some ⟨W.heap.size, 0, none⟩) 1 1]).run Tryd.prog (W.alloc (.cells x.cells.toArray 33)).drew = .ok (.slice (some ⟨g2, 0, none⟩) (L.length + 1) c2) W') ∧ W'.cell? ⟨bs, 2, none⟩ = some vc ∧ W'.frozen? ⟨bs, 2, none⟩ = false ∧ ScS lo bs ⟨3, st.lim, st.os, st.cs ++ [x.c]⟩ vo (.slice (some ⟨g2, 0, none⟩) (L.length + 1) c2) (L ++ [x]) (W'.setCell ⟨bs, 2, none⟩ (.slice (some ⟨g2, 0, none⟩) (L.length + 1) c2)) ∧ Keeps W (W'.setCell ⟨bs, 2, none⟩ (.slice (some ⟨g2, 0, none⟩) (L.length + 1) c2)) (fun x => x = bs ∨ vc.ownBlock = some x) := by
  have kA : Keeps W (W.alloc (.cells x.cells.toArray 33)).drew (fun _ => False) := ((Keeps.refl _ _).alloc _).drew
  have hA := h.keeps kA
  have one : ∀ u ∈ x.cells, u.oneCell' = true := by
    obtain ⟨s1, c1, e1⟩ := hf.form
    obtain ⟨s2, c2, e2⟩ := hs.form
    intro u hu
    unfold CmV.cells at hu
    rw [e1, e2] at hu
    simp only [List.mem_cons, List.not_mem_nil, or_false] at hu
    rcases hu with rfl | rfl | rfl | rfl | rfl | rfl | rfl | rfl | rfl <;> rfl
  obtain ⟨g2, c2, W', hr, ho, k⟩ := append_any 23 33 _ 9 120 Tryd.underlying23 Tryd.infoCm rfl (by omega) hA.cs (p := W.heap.size) (us := x.cells) (heap_alloc_new W _) rfl one (by omega) (by omega) (Nat.le_trans hlo kA.size)
  have hbox : W'.heap[bs]? = _ := (k.block bs (heap_lt hA.box) (own_box hA.cs hA.box (by decide))).trans hA.box
  have hos := ownsRow_keeps hA.os k (own_two hA.cs hA.os (by decide))
  have hea0 : ∀ y, y ∈ L ++ [x] → IntsO lo (W.alloc (.cells x.cells.toArray 33)).drew y.fs y.c.fl ∧ IntsO lo (W.alloc (.cells x.cells.toArray 33)).drew y.hs y.c.hl := fun y hy => by
    rcases List.mem_append.1 hy with q | q
    · exact hA.each y q
    · obtain rfl : y = x := by simpa using q
      exact ⟨hf.keeps kA, hs.keeps kA⟩
  have hea : ∀ y, y ∈ L ++ [x] → IntsO lo W' y.fs y.c.fl ∧ IntsO lo W' y.hs y.c.hl := fun y hy => ⟨ownsRow_keeps (hea0 y hy).1 k (own_two hA.cs (hea0 y hy).1 (by decide)), ownsRow_keeps (hea0 y hy).2 k (own_two hA.cs (hea0 y hy).2 (by decide))⟩
  have kB := keepsB (W := W') (B := bs) 2 (.slice (some ⟨g2, 0, none⟩) (L.length + 1) c2)
  refine ⟨g2, c2, W', hr, (three_cells9 hbox).2.2, froB hbox 2, ⟨setB hbox 2 _, ownsRow_keeps hos kB (own_ne2 hos hbox (by decide)), ?_, by rw [List.map_append, h.eq]; rfl, fun y hy => ⟨ownsRow_keeps (hea y hy).1 kB (own_ne2 (hea y hy).1 hbox (by decide)), ownsRow_keeps (hea y hy).2 kB (own_ne2 (hea y hy).2 hbox (by decide))⟩, hA0⟩, ?_⟩
  · have := ownsRow_keeps ho kB (own_ne2 ho hbox (by decide))
    rw [← cmCells_more] at this
    rw [List.length_append]
    exact this
  · exact ((kA.mono (S1 := fun x => x = bs ∨ vc.ownBlock = some x) (fun _ _ e => e.elim)).trans k (fun q hq e => Or.inr e)).setCell ⟨bs, 2, none⟩ (fun _ => Or.inl rfl) _
end Go.Proofs.YtfpiibccggjjpaaDoor
/-
  script: lay, its walk.
-/
namespace Go.Proofs.YtfpiibccggjjpaaDoor
open Go.RowKit
set_option linter.unusedVariables false

/-- What lay leaves. -/
def LayP (lo bs : Nat) (st : PSt) (vo vc : Value) (W : World) (e : Ending) (w' : World) : Prop := e = .returned (.tuple #[]) ∧ (∃ vo vc L, ScS lo bs st vo vc L w') ∧ Keeps W w' (fun x => x = bs ∨ vo.ownBlock = some x ∨ vc.ownBlock = some x)
theorem lay_box {W : World} {c : CmdD} {fv hv : Value} : Keeps W (W.alloc (.cells (c.vals fv hv) 33)) (fun _ => False) := (Keeps.refl _ _).alloc _
set_option maxRecDepth 100000 in
set_option maxHeartbeats 4000000 in
theorem lay_1 (lo bs : Nat) (st : PSt) (vo vc : Value) (L : List CmV) (w : World) (h : ScS lo bs st vo vc L w) (hlo : lo ≤ w.heap.size) (c : CmdD) (fv hv : Value) (hf : IntsO lo w fv c.fl) (hs : IntsO lo w hv c.hl) : Calls Tryd.prog 20 #[.pointer (some ⟨bs, 0, none⟩), .int .i64 1, .agg (c.vals fv hv)] w fun e w' => LayP lo bs ⟨1, c.n, st.os, st.cs⟩ vo vc w e w' := by
  obtain ⟨sf, nf, rfl⟩ := hf.form
  obtain ⟨sh, nh, rfl⟩ := hs.form
  have hbl := heap_lt h.box
  have H := hide h
  have Hlo := hide hlo
  have hvals : c.vals (.slice sf c.fl.length nf) (.slice sh c.hl.length nh) = #[.int .i64 c.op, .int .i64 c.h, .slice sf c.fl.length nf, .slice sh c.hl.length nh, .int .u64 (c.u : Int), .int .u64 (c.v : Int), .int .i64 c.n, .string c.key, .string c.elem] := rfl
  rw [hvals]
  clear h hf hs hlo hvals
  have Hbl := hide hbl
  clear hbl
  go_enter Tryd.func20, Tryd.ntmps20
  go_upto_region 1 with fail
  refine alloc1 (P := fun W => Code.wp _ _ _ _ W) fun W0 hb0 hs0 k0 => ?_
  obtain ⟨e0, e1, e2, e3, e4, e5, e6, e7, e8⟩ := at9 hb0
  have h0 := H.out.keeps k0
  obtain ⟨x0, x1, x2⟩ := three_cells9 h0.box
  have fz := froB h0.box 0
  have HF : Hid (LayP lo bs ⟨1, c.n, st.os, st.cs⟩ vo vc w (.returned (.tuple #[])) (W0.setCell ⟨bs, 0, none⟩ (.int .i64 c.n))) := ⟨rfl, ⟨_, _, _, h0.box0 c.n⟩, (k0.mono (S1 := fun x => x = bs ∨ vo.ownBlock = some x ∨ vc.ownBlock = some x) (fun _ _ e => e.elim)).setCell ⟨bs, 0, none⟩ (fun _ => Or.inl rfl) _⟩
  clear h0 hs0 k0 hb0
  go_wp2_with fail
  go_end0
  exact HF.out
set_option maxRecDepth 100000 in
set_option maxHeartbeats 4000000 in
theorem lay_2 (lo bs : Nat) (st : PSt) (vo vc : Value) (L : List CmV) (w : World) (h : ScS lo bs st vo vc L w) (hlo : lo ≤ w.heap.size) (hn : st.os.length ≤ 1048576) (c : CmdD) (fv hv : Value) (hf : IntsO lo w fv c.fl) (hs : IntsO lo w hv c.hl) : Calls Tryd.prog 20 #[.pointer (some ⟨bs, 0, none⟩), .int .i64 2, .agg (c.vals fv hv)] w fun e w' => LayP lo bs ⟨2, st.lim, st.os ++ [(c.key, c.u)], st.cs⟩ vo vc w e w' := by
  obtain ⟨sf, nf, rfl⟩ := hf.form
  obtain ⟨sh, nh, rfl⟩ := hs.form
  obtain ⟨so, co, rfl⟩ := ownsRow_slice h.os
  obtain ⟨sc, cc, rfl⟩ := ownsRow_slice h.cs
  have H := hide h
  have Hlo := hide hlo
  have Hn := hide hn
  have hvals : c.vals (.slice sf c.fl.length nf) (.slice sh c.hl.length nh) = #[.int .i64 c.op, .int .i64 c.h, .slice sf c.fl.length nf, .slice sh c.hl.length nh, .int .u64 (c.u : Int), .int .u64 (c.v : Int), .int .i64 c.n, .string c.key, .string c.elem] := rfl
  rw [hvals]
  clear h hf hs hlo hvals hn
  go_enter Tryd.func20, Tryd.ntmps20
  go_upto_region 1 with fail
  refine alloc1 (P := fun W => Code.wp _ _ _ _ W) fun W0 hb0 hs0 k0 => ?_
  obtain ⟨e0, e1, e2, e3, e4, e5, e6, e7, e8⟩ := at9 hb0
  have h0 := H.out.keeps k0
  obtain ⟨x0, x1, x2⟩ := three_cells9 h0.box
  obtain ⟨g2, c2, W2, hap, y1, fz, hS, kS⟩ := h0.more (Nat.le_trans Hlo.out k0.size) Hn.out (c.key, c.u)
  have kA : Keeps W0 (W0.alloc (.cells #[.string c.key, .int .u64 (c.u : Int)] 49)) (fun _ => False) := (Keeps.refl _ _).alloc _
  have xA := keeps_cell kA x1
  have eA7 := keeps_cell kA e7
  have eA4 := keeps_cell kA e4
  have HF : Hid (LayP lo bs ⟨2, st.lim, st.os ++ [(c.key, c.u)], st.cs⟩ (.slice so st.os.length co) (.slice sc L.length cc) w (.returned (.tuple #[])) (W2.setCell ⟨bs, 1, none⟩ (.slice (some ⟨g2, 0, none⟩) (st.os.length + 1) c2))) := ⟨rfl, ⟨_, _, _, hS⟩, (k0.mono (S1 := fun x => x = bs ∨ (Value.slice so st.os.length co).ownBlock = some x ∨ (Value.slice sc L.length cc).ownBlock = some x) (fun _ _ e => e.elim)).trans kS (fun _ _ e => e.elim Or.inl (fun q => Or.inr (Or.inl q)))⟩
  clear h0 hs0 k0 hb0 kA hS kS
  go_wp2_with fail
  go_region_law (refine step_append_run (by rfl) _ _ 22 (by rfl) (by rfl) (by rfl) hap ?_)
  all_goals (try go_wp2_with fail)
  all_goals go_end0
  all_goals exact HF.out
set_option maxRecDepth 100000 in
set_option maxHeartbeats 4000000 in
theorem lay_3 (lo bs : Nat) (st : PSt) (vo vc : Value) (L : List CmV) (w : World) (h : ScS lo bs st vo vc L w) (hlo : lo ≤ w.heap.size) (hn : L.length ≤ 1048576) (c : CmdD) (fv hv : Value) (hf : IntsO lo w fv c.fl) (hs : IntsO lo w hv c.hl) (hA0 : Apart (L ++ [⟨c, fv, hv⟩])) : Calls Tryd.prog 20 #[.pointer (some ⟨bs, 0, none⟩), .int .i64 3, .agg (c.vals fv hv)] w fun e w' => LayP lo bs ⟨3, st.lim, st.os, st.cs ++ [c]⟩ vo vc w e w' := by
  obtain ⟨sf, nf, rfl⟩ := hf.form
  obtain ⟨sh, nh, rfl⟩ := hs.form
  obtain ⟨so, co, rfl⟩ := ownsRow_slice h.os
  obtain ⟨sc, cc, rfl⟩ := ownsRow_slice h.cs
  have H := hide h
  have HI := hide (And.intro hf hs)
  have Hlo := hide hlo
  have Hn := hide hn
  have HA0 := hide hA0
  have hvals : c.vals (.slice sf c.fl.length nf) (.slice sh c.hl.length nh) = #[.int .i64 c.op, .int .i64 c.h, .slice sf c.fl.length nf, .slice sh c.hl.length nh, .int .u64 (c.u : Int), .int .u64 (c.v : Int), .int .i64 c.n, .string c.key, .string c.elem] := rfl
  rw [hvals]
  clear h hf hs hlo hvals hn hA0
  go_enter Tryd.func20, Tryd.ntmps20
  go_upto_region 1 with fail
  refine alloc1 (P := fun W => Code.wp _ _ _ _ W) fun W0 hb0 hs0 k0 => ?_
  obtain ⟨e0, e1, e2, e3, e4, e5, e6, e7, e8⟩ := at9 hb0
  have h0 := H.out.keeps k0
  obtain ⟨x0, x1, x2⟩ := three_cells9 h0.box
  obtain ⟨g2, c2, W2, hap0, y1, fz, hS, kS⟩ := h0.moreC (Nat.le_trans Hlo.out k0.size) Hn.out ⟨c, .slice sf c.fl.length nf, .slice sh c.hl.length nh⟩ (HI.out.1.keeps k0) (HI.out.2.keeps k0) HA0.out
  have hap : ∀ ty, (Builtin.append_ #[23, 23] ty #[.slice sc L.length cc, .slice (some ⟨W0.heap.size, 0, none⟩) 1 1]).run Tryd.prog (W0.alloc (.cells #[.int .i64 c.op, .int .i64 c.h, .slice sf c.fl.length nf, .slice sh c.hl.length nh, .int .u64 (c.u : Int), .int .u64 (c.v : Int), .int .i64 c.n, .string c.key, .string c.elem] 33)).drew = .ok (.slice (some ⟨g2, 0, none⟩) (L.length + 1) c2) W2 := hap0
  clear hap0
  have kA : Keeps W0 (W0.alloc (.cells #[.int .i64 c.op, .int .i64 c.h, .slice sf c.fl.length nf, .slice sh c.hl.length nh, .int .u64 (c.u : Int), .int .u64 (c.v : Int), .int .i64 c.n, .string c.key, .string c.elem] 33)) (fun _ => False) := (Keeps.refl _ _).alloc _
  have xA := keeps_cell kA x2
  have HF : Hid (LayP lo bs ⟨3, st.lim, st.os, st.cs ++ [c]⟩ (.slice so st.os.length co) (.slice sc L.length cc) w (.returned (.tuple #[])) (W2.setCell ⟨bs, 2, none⟩ (.slice (some ⟨g2, 0, none⟩) (L.length + 1) c2))) := ⟨rfl, ⟨_, _, _, hS⟩, (k0.mono (S1 := fun x => x = bs ∨ (Value.slice so st.os.length co).ownBlock = some x ∨ (Value.slice sc L.length cc).ownBlock = some x) (fun _ _ e => e.elim)).trans kS (fun _ _ e => e.elim Or.inl (fun q => Or.inr (Or.inr q)))⟩
  clear h0 hs0 k0 hb0 kA hS kS
  go_wp2_with fail
  go_region_law (refine step_append_run (by rfl) _ _ 23 (by rfl) (by rfl) (by rfl) hap ?_)
  all_goals (try go_wp2_with fail)
  all_goals go_end0
  all_goals exact HF.out
end Go.Proofs.YtfpiibccggjjpaaDoor
/-
  script: a printed text, read (as data).
-/
namespace Go.Proofs.YtfpiibccggjjpaaDoor
open Go.RowKit
set_option linter.unusedVariables false

theorem psF_line {i : Nat} (hi : i < 16) {c : CmdD} (hc : CmdOk c) (s : PSt) (hm : mayF s.last (kN i) = true) (j : Nat) (r : List UInt8) : psF s j (linesD (lineW i c ++ [10] ++ r)) = psF (s.lay (kN i) (tellI i c)) (j + 1) (linesD r) := by
  obtain ⟨h1, h2⟩ := words_lineW hi c
  rw [lines_cons _ r h2, psF, h1]
  dsimp only
  rw [lnR_line hi hc hm, if_pos rfl]
theorem psF_ovs : ∀ (os : List Ovr), (∀ o, o ∈ os → o.2 < 18446744073709551616) → ∀ (s : PSt), (s.last = 1 ∨ s.last = 2) → ∀ (j : Nat) (r : List UInt8), ∃ l, (l = 1 ∨ l = 2) ∧ psF s j (linesD (os.flatMap ovT ++ r)) = psF ⟨l, s.lim, s.os ++ os, s.cs⟩ (j + os.length) (linesD r)
  | [], _, s, hl, j, r => ⟨s.last, hl, by simp⟩
  | o :: t, ho, s, hl, j, r => by
    have hm : mayF s.last (kN 1) = true := by
      have e : kN 1 = 2 := rfl
      rw [e]
      rcases hl with h | h <;> (rw [h]; rfl)
    have h1 := psF_line (i := 1) (by decide) (ov_ok (ho o List.mem_cons_self)) s hm j (t.flatMap ovT ++ r)
    have e0 : tellI 1 (ovC o) = ⟨0, 0, o.2, 0, 0, o.1, ⟨#[]⟩, [], []⟩ := rfl
    have e1 : s.lay (kN 1) (tellI 1 (ovC o)) = ⟨2, s.lim, s.os ++ [o], s.cs⟩ := by
      rw [e0]
      rfl
    rw [e1] at h1
    obtain ⟨l, hl2, h2⟩ := psF_ovs t (fun x hx => ho x (List.mem_cons_of_mem _ hx)) ⟨2, s.lim, s.os ++ [o], s.cs⟩ (Or.inr rfl) (j + 1) r
    refine ⟨l, hl2, ?_⟩
    have e2 : (o :: t).flatMap ovT ++ r = lineW 1 (ovC o) ++ [10] ++ (t.flatMap ovT ++ r) := by
      rw [List.flatMap_cons]
      unfold ovT
      simp
    rw [e2, h1, h2]
    simp only [List.append_assoc, List.singleton_append, List.length_cons]
    rw [show j + 1 + t.length = j + (t.length + 1) by omega]
def tellC (c : CmdD) : Option CmdD := if 1 ≤ c.op ∧ c.op ≤ 14 then some (tellI (c.op.toNat + 1) c) else none
theorem psF_cms : ∀ (cs : List CmdD), (∀ c, c ∈ cs → CmdOk c) → ∀ (s : PSt), (s.last = 1 ∨ s.last = 2 ∨ s.last = 3) → ∀ (j : Nat) (r : List UInt8), ∃ l, (l = 1 ∨ l = 2 ∨ l = 3) ∧ psF s j (linesD (cs.flatMap cmdT ++ r)) = psF ⟨l, s.lim, s.os, s.cs ++ cs.filterMap tellC⟩ (j + (cs.filterMap tellC).length) (linesD r)
  | [], _, s, hl, j, r => ⟨s.last, hl, by simp⟩
  | c :: t, hc, s, hl, j, r => by
    by_cases hop : 1 ≤ c.op ∧ c.op ≤ 14
    · have hi : c.op.toNat + 1 < 16 := by omega
      have hk : kN (c.op.toNat + 1) = 3 := by
        unfold kN
        rw [if_neg (by omega), if_neg (by omega)]
      have hm : mayF s.last (kN (c.op.toNat + 1)) = true := by
        rw [hk]
        rcases hl with h | h | h <;> (rw [h]; rfl)
      have h1 := psF_line hi (hc c List.mem_cons_self) s hm j (t.flatMap cmdT ++ r)
      have e1 : s.lay (kN (c.op.toNat + 1)) (tellI (c.op.toNat + 1) c) = ⟨3, s.lim, s.os, s.cs ++ [tellI (c.op.toNat + 1) c]⟩ := by
        rw [hk]
        rfl
      rw [e1] at h1
      obtain ⟨l, hl2, h2⟩ := psF_cms t (fun x hx => hc x (List.mem_cons_of_mem _ hx)) ⟨3, s.lim, s.os, s.cs ++ [tellI (c.op.toNat + 1) c]⟩ (Or.inr (Or.inr rfl)) (j + 1) r
      refine ⟨l, hl2, ?_⟩
      have e2 : (c :: t).flatMap cmdT ++ r = lineW (c.op.toNat + 1) c ++ [10] ++ (t.flatMap cmdT ++ r) := by
        rw [List.flatMap_cons]
        unfold cmdT
        rw [if_pos hop]
        simp
      have e3 : (c :: t).filterMap tellC = tellI (c.op.toNat + 1) c :: t.filterMap tellC := by
        rw [List.filterMap_cons]
        unfold tellC
        rw [if_pos hop]
      rw [e2, h1, h2, e3]
      simp only [List.append_assoc, List.singleton_append, List.length_cons]
      rw [show j + 1 + (t.filterMap tellC).length = j + ((t.filterMap tellC).length + 1) by omega]
    · obtain ⟨l, hl2, h2⟩ := psF_cms t (fun x hx => hc x (List.mem_cons_of_mem _ hx)) s hl j r
      refine ⟨l, hl2, ?_⟩
      have e2 : (c :: t).flatMap cmdT ++ r = t.flatMap cmdT ++ r := by
        rw [List.flatMap_cons]
        unfold cmdT
        rw [if_neg hop]
        rfl
      have e3 : (c :: t).filterMap tellC = t.filterMap tellC := by
        rw [List.filterMap_cons]
        unfold tellC
        rw [if_neg hop]
      rw [e2, e3]
      exact h2
/-- A printed script, and what stands behind it. -/
theorem psF_text {n : Int} {os : List Ovr} {cs : List CmdD} (hn : Fit n) (ho : ∀ o, o ∈ os → o.2 < 18446744073709551616) (hc : ∀ c, c ∈ cs → CmdOk c) (r : List UInt8) : ∃ l, (l = 1 ∨ l = 2 ∨ l = 3) ∧ psF PSt.zero 0 (linesD (textD n os cs ++ r)) = psF ⟨l, n, os, cs.filterMap tellC⟩ (1 + os.length + (cs.filterMap tellC).length) (linesD r) := by
  have h1 := psF_line (i := 0) (by decide) (lim_ok hn) PSt.zero rfl 0 (os.flatMap ovT ++ (cs.flatMap cmdT ++ r))
  have e0 : tellI 0 (limC n) = ⟨0, 0, 0, 0, n, ⟨#[]⟩, ⟨#[]⟩, [], []⟩ := rfl
  have e1 : PSt.zero.lay (kN 0) (tellI 0 (limC n)) = ⟨1, n, [], []⟩ := by
    rw [e0]
    rfl
  rw [e1] at h1
  obtain ⟨l, hl, h2⟩ := psF_ovs os ho ⟨1, n, [], []⟩ (Or.inl rfl) (0 + 1) (cs.flatMap cmdT ++ r)
  obtain ⟨l2, hl2, h3⟩ := psF_cms cs hc ⟨l, n, [] ++ os, []⟩ (by rcases hl with h | h <;> simp [h]) (0 + 1 + os.length) r
  refine ⟨l2, hl2, ?_⟩
  have e2 : textD n os cs ++ r = lineW 0 (limC n) ++ [10] ++ (os.flatMap ovT ++ (cs.flatMap cmdT ++ r)) := by
    unfold textD limT
    simp
  rw [e2, h1, h2, h3]
  simp
/-- What is printed is read as it was, but for what is not told. -/
theorem parse_text {n : Int} {os : List Ovr} {cs : List CmdD} (hn : Fit n) (ho : ∀ o, o ∈ os → o.2 < 18446744073709551616) (hc : ∀ c, c ∈ cs → CmdOk c) (hz : (textD n os cs).length ≤ 1048576) : ∃ l, parseD (textD n os cs) = .inl ⟨l, n, os, cs.filterMap tellC⟩ := by
  obtain ⟨l, hl, h⟩ := psF_text hn ho hc []
  rw [List.append_nil] at h
  refine ⟨l, ?_⟩
  unfold parseD
  rw [if_neg (by omega), h, lines_nil]
  simp only [psF]
  rw [if_neg (by omega)]
end Go.Proofs.YtfpiibccggjjpaaDoor
/-
  script: sizes of lines and words; a Parse under way.
-/
namespace Go.Proofs.YtfpiibccggjjpaaDoor
open Go.RowKit
set_option linter.unusedVariables false

theorem lnF_small (l : List UInt8) : ∀ i, i ≤ l.length → ∀ x, x ∈ (lnF (l.take i)).1 → x.length ≤ i
  | 0, _, x, hx => by simp [lnF] at hx
  | i + 1, h, x, hx => by
    have hlt : i < l.length := by omega
    have ih := lnF_small l i (by omega)
    by_cases h10 : l[i] = 10
    · rw [lnF_end hlt h10] at hx
      rcases List.mem_append.1 hx with q | q
      · exact Nat.le_succ_of_le (ih x q)
      · obtain rfl : x = (lnF (l.take i)).2 := by simpa using q
        exact Nat.le_succ_of_le (lnF_cur l i (by omega)).1
    · rw [lnF_in hlt h10] at hx
      exact Nat.le_succ_of_le (ih x hx)
theorem lines_small (l : List UInt8) : (∀ x, x ∈ linesD l → x.length ≤ l.length) ∧ (linesD l).length ≤ l.length + 1 := by
  have h1 := lnF_small l l.length (Nat.le_refl _)
  have h2 := (lnF_cur l l.length (Nat.le_refl _)).1
  have h3 := lnF_few l l.length (Nat.le_refl _)
  rw [List.take_length] at h1 h2 h3
  unfold linesD
  split
  · exact ⟨h1, by omega⟩
  · refine ⟨fun x hx => ?_, by simp; omega⟩
    rcases List.mem_append.1 hx with q | q
    · exact h1 x q
    · obtain rfl : x = (lnF l).2 := by simpa using q
      exact h2
theorem wdF_small (l : List UInt8) : ∀ i, i ≤ l.length → ∀ x, x ∈ (wdF (l.take i)).ws → x.length ≤ i
  | 0, _, x, hx => by simp [wdF] at hx
  | i + 1, h, x, hx => by
    have hlt : i < l.length := by omega
    have ih := wdF_small l i (by omega)
    have hc := (wdF_cur l i (by omega)).1
    rw [wdF_take hlt] at hx
    generalize wdF (l.take i) = st at *
    unfold wdS at hx
    split at hx
    · exact Nat.le_succ_of_le (ih x hx)
    · split at hx
      · split at hx
        · exact Nat.le_succ_of_le (ih x hx)
        · split at hx
          · exact Nat.le_succ_of_le (ih x hx)
          · exact Nat.le_succ_of_le (ih x hx)
      · split at hx
        · rcases List.mem_append.1 hx with q | q
          · exact Nat.le_succ_of_le (ih x q)
          · obtain rfl : x = st.cur := by simpa using q
            exact Nat.le_succ_of_le hc
        · exact Nat.le_succ_of_le (ih x hx)
theorem words_small (l : List UInt8) : (∀ x, x ∈ wdsD l → x.length ≤ l.length) ∧ (wdsD l).length ≤ l.length + 1 := by
  have h1 := wdF_small l l.length (Nat.le_refl _)
  have h2 := (wdF_cur l l.length (Nat.le_refl _))
  rw [List.take_length] at h1 h2
  unfold wdsD
  split
  · exact ⟨h1, by omega⟩
  · refine ⟨fun x hx => ?_, by simp; omega⟩
    rcases List.mem_append.1 hx with q | q
    · exact h1 x q
    · obtain rfl : x = (wdF l).cur := by simpa using q
      exact h2.1
theorem lnR_kind {last : Int} {nm : List UInt8} {fs : List (List UInt8)} (h : (lnR last nm fs).2.2 = 0) : (lnR last nm fs).1 = 1 ∨ (lnR last nm fs).1 = 2 ∨ (lnR last nm fs).1 = 3 := by
  unfold lnR at h ⊢
  generalize rowI nm = o at h ⊢
  cases o with
  | none => cases h
  | some i =>
    dsimp only at h ⊢
    by_cases q : (mayF last (kN i) && fitN i fs.length) = true
    · rw [if_pos q] at h ⊢
      by_cases q2 : (rowRd i fs).2 = 0
      · rw [if_pos q2] at h ⊢
        show kN i = 1 ∨ kN i = 2 ∨ kN i = 3
        unfold kN
        split
        · exact Or.inl rfl
        · split
          · exact Or.inr (Or.inl rfl)
          · exact Or.inr (Or.inr rfl)
      · rw [if_neg q2] at h
        exact absurd h q2
    · rw [if_neg q] at h
      cases h
theorem lay_count (st : PSt) (k : Int) (c : CmdD) : (st.lay k c).os.length + (st.lay k c).cs.length ≤ st.os.length + st.cs.length + 1 := by
  unfold PSt.lay
  split
  · simp
  · split
    · simp; omega
    · split
      · simp; omega
      · simp
abbrev z3 : Array Value := #[.int .i64 0, .slice none 0 0, .slice none 0 0]
/-- A Parse under way. -/
structure PaS (w : World) (bs : Nat) (ls : List (List UInt8)) (rl : Value) (st : PSt) (vo vc : Value) (L : List CmV) (W : World) : Prop where
  res : W.heap[w.heap.size]? = some (.cells z3 25)
  sc : ScS w.heap.size bs st vo vc L W
  ln : TextsO w.heap.size W rl ls
  keeps : Keeps w W (fun _ => False)
  lt : w.heap.size < bs
theorem PaS.stay {w W W' : World} {bs : Nat} {ls : List (List UInt8)} {rl : Value} {st : PSt} {vo vc : Value} {L : List CmV} (h : PaS w bs ls rl st vo vc L W) (k : Keeps W W' (fun _ => False)) : PaS w bs ls rl st vo vc L W' := ⟨k.blk8 h.res, h.sc.keeps k, h.ln.keeps k, h.keeps.trans k (fun _ _ e => e), h.lt⟩
theorem PaS.lay {w W W' : World} {bs : Nat} {ls : List (List UInt8)} {rl : Value} {st st2 : PSt} {vo vc vo2 vc2 : Value} {L L2 : List CmV} (h : PaS w bs ls rl st vo vc L W) (h2 : ScS w.heap.size bs st2 vo2 vc2 L2 W') (k : Keeps W W' (fun x => x = bs ∨ vo.ownBlock = some x ∨ vc.ownBlock = some x)) : PaS w bs ls rl st2 vo2 vc2 L2 W' := by
  have hl := h.lt
  refine ⟨(k.block _ (heap_lt h.res) (fun e => ?_)).trans h.res, h2, ownsRow_keeps h.ln k (fun g hg e => ?_), h.keeps.trans k (fun q hq e => ?_), hl⟩
  · rcases e with e | e | e
    · omega
    · exact own_box h.sc.os h.res (by decide) e
    · exact own_box h.sc.cs h.res (by decide) e
  · rcases e with e | e | e
    · exact own_ne2 h.ln h.sc.box (by decide) g hg e
    · exact own_two h.sc.os h.ln (by decide) g hg e
    · exact own_two h.sc.cs h.ln (by decide) g hg e
  · rcases e with e | e | e
    · omega
    · have := (ownsRow_block h.sc.os e).1
      omega
    · have := (ownsRow_block h.sc.cs e).1
      omega
/-- What Parse answers. -/
structure ScR (lo : Nat) (st : PSt) (vo vc : Value) (L : List CmV) (W : World) : Prop where
  os : W.ownsRow lo 49 2 vo st.os.length (ovCells st.os)
  cs : W.ownsRow lo 33 9 vc L.length (cmCells L)
  eq : L.map (·.c) = st.cs
  each : ∀ x, x ∈ L → IntsO lo W x.fs x.c.fl ∧ IntsO lo W x.hs x.c.hl
  ap : Apart L
def PaP (R : PSt ⊕ (Nat × Int)) (w : World) (e : Ending) (w' : World) : Prop := Keeps w w' (fun _ => False) ∧ match R with
  | .inl st => ∃ vo vc L, e = .returned (.tuple #[.agg #[.int .i64 st.lim, vo, vc], .int .i64 0, .int .i64 0]) ∧ ScR w.heap.size st vo vc L w'
  | .inr x => e = .returned (.tuple #[.agg #[.int .i64 0, .slice none 0 0, .slice none 0 0], .int .i64 (x.1 : Int), .int .i64 x.2])
theorem lay_any (lo bs : Nat) (st : PSt) (vo vc : Value) (L : List CmV) (w : World) (h : ScS lo bs st vo vc L w) (hlo : lo ≤ w.heap.size) (hn : st.os.length + st.cs.length ≤ 1048576) (k : Int) (hk : k = 1 ∨ k = 2 ∨ k = 3) (c : CmdD) (fv hv : Value) (hf : IntsO lo w fv c.fl) (hs : IntsO lo w hv c.hl) (hA0 : Apart (L ++ [⟨c, fv, hv⟩])) : Calls Tryd.prog 20 #[.pointer (some ⟨bs, 0, none⟩), .int .i64 k, .agg (c.vals fv hv)] w fun e w' => LayP lo bs (st.lay k c) vo vc w e w' := by
  have hL : L.length = st.cs.length := by
    have := congrArg List.length h.eq
    rwa [List.length_map] at this
  rcases hk with rfl | rfl | rfl
  · exact lay_1 lo bs st vo vc L w h hlo c fv hv hf hs
  · exact lay_2 lo bs st vo vc L w h hlo (by omega) c fv hv hf hs
  · exact lay_3 lo bs st vo vc L w h hlo (by omega) c fv hv hf hs hA0
theorem set3r {W : World} {B : Nat} {x0 x1 x2 : Value} {t : TypeId} (h : W.heap[B]? = some (.cells #[x0, x1, x2] t)) {a0 a1 a2 : Value} {P : World → Prop} (hP : ∀ W', W'.heap[B]? = some (.cells #[a0, a1, a2] t) → Keeps W W' (fun k => k = B) → P W') : P (((W.setCell ⟨B, 0, none⟩ a0).setCell ⟨B, 1, none⟩ a1).setCell ⟨B, 2, none⟩ a2) := by
  refine hP _ ?_ ?_
  · simp [World.setCell, Array.getElem?_modify, h]
  · exact ((((Keeps.refl W (fun k => k = B)).setCell ⟨B, 0, none⟩ (fun _ => rfl) a0).setCell ⟨B, 1, none⟩ (fun _ => rfl) a1).setCell ⟨B, 2, none⟩ (fun _ => rfl) a2)
theorem fro3 {W : World} {N : Nat} {cs : Array Value} {t : TypeId} (h : W.heap[N]? = some (.cells cs t)) : W.frozen? ⟨N, 0, none⟩ = false ∧ W.frozen? ⟨N, 1, none⟩ = false ∧ W.frozen? ⟨N, 2, none⟩ = false := by
  simp [World.frozen?, h]
theorem alloc2r {w : World} {o1 o2 : Obj} {P : World → Prop} (h : ∀ W0, W0.heap[w.heap.size]? = some o1 → W0.heap[w.heap.size + 1]? = some o2 → Keeps w W0 (fun _ => False) → P W0) : P ((w.alloc o1).alloc o2) := by
  have k1 : Keeps (w.alloc o1) ((w.alloc o1).alloc o2) (fun _ => False) := (Keeps.refl _ _).alloc _
  have e1 := heap_alloc_new (w.alloc o1) o2
  simp only [World.size_alloc] at e1
  exact h _ (k1.blk8 (heap_alloc_new w o1)) e1 (((Keeps.refl _ _).alloc _).alloc _)
end Go.Proofs.YtfpiibccggjjpaaDoor
/-
  script: Parse.
-/
namespace Go.Proofs.YtfpiibccggjjpaaDoor
open Go.RowKit
set_option linter.unusedVariables false

def endD (n : Nat) : PSt ⊕ (Nat × Int) → PSt ⊕ (Nat × Int)
  | .inl s => if s.last = 0 then .inr (n + 1, 160) else .inl s
  | .inr x => .inr x
theorem own_some {w : World} {base : Nat} {e : TypeId} {size n c : Nat} {so : Option Addr} {xs : List Value} (h : w.ownsRow base e size (.slice so n c) n xs) (h0 : 0 < n) : ∃ g, so = some ⟨g, 0, none⟩ := by
  rcases h.2 with ⟨e1, e0⟩ | ⟨g, cap, cur, e1, -⟩
  · omega
  · injection e1 with e1
    exact ⟨g, e1⟩
theorem psF_nil (s : PSt) (i : Nat) : psF s i [] = .inl s := rfl
theorem psF_skip {s : PSt} {i : Nat} {l : List UInt8} {r : List (List UInt8)} (h : wdsD l = []) : psF s i (l :: r) = psF s (i + 1) r := by
  rw [psF, h]
theorem psF_read {s : PSt} {i : Nat} {l : List UInt8} {r : List (List UInt8)} {nm : List UInt8} {fs : List (List UInt8)} (h : wdsD l = nm :: fs) (h0 : (lnR s.last nm fs).2.2 = 0) : psF s i (l :: r) = psF (s.lay (lnR s.last nm fs).1 (lnR s.last nm fs).2.1) (i + 1) r := by
  rw [psF, h]
  dsimp only
  rw [if_pos h0]
theorem psF_bad {s : PSt} {i : Nat} {l : List UInt8} {r : List (List UInt8)} {nm : List UInt8} {fs : List (List UInt8)} (h : wdsD l = nm :: fs) (h0 : ¬ (lnR s.last nm fs).2.2 = 0) : psF s i (l :: r) = .inr (i + 1, (lnR s.last nm fs).2.2) := by
  rw [psF, h]
  dsimp only
  rw [if_neg h0]
theorem lay_last (s : PSt) (k : Int) (c : CmdD) : (s.lay k c).last = k := by
  unfold PSt.lay
  split
  · rfl
  · split
    · rfl
    · split <;> rfl
set_option maxRecDepth 100000 in
set_option maxHeartbeats 8000000 in
theorem parse_any16 (s : ByteArray) (hs : s.size ≤ 9223372036854775807) (w : World) (hR : RowsF w) (he : ErrW w) : Calls Tryd.prog 9 #[.string s] w fun e w' => PaP (parseD s.data.toList) w e w' := by
  obtain ⟨RR, hRR⟩ : ∃ RR, RR = parseD s.data.toList := ⟨_, rfl⟩
  rw [← hRR]
  have HQ := hide hRR
  clear hRR
  by_cases hbig : 1048576 < s.size
  · have hb' : (1048576 : Int) < (s.size : Int) := by omega
    have HR2 : Hid (RR = .inr (0, 160)) := by
      show RR = _
      rw [HQ.out]
      unfold parseD
      rw [if_pos (show 1048576 < s.data.toList.length from hbig)]
    clear hR he HQ
    go_enter Tryd.func9, Tryd.ntmps9
    go_upto_region 1 with fail
    refine alloc1 (P := fun W => Code.wp _ _ _ _ W) fun W0 hb0 hs0 k0 => ?_
    obtain ⟨e0, e1, e2⟩ := three_cells9 hb0
    obtain ⟨f0, f1, f2⟩ := fro3 hb0
    have Hb0 := hide hb0
    have K0 := hide k0
    clear hb0 hs0 k0
    go_wp2_with fail
    refine set3r (P := fun W => bodyPost _ _ _ _ _ W) Hb0.out fun W9 h9 k9 => ?_
    obtain ⟨e0, e1, e2⟩ := three_cells9 h9
    refine bodyPost_ret (v := .tuple #[.agg #[.int .i64 0, .slice none 0 0, .slice none 0 0], .int .i64 0, .int .i64 160]) (by simp [results, Tryd.results9, go_sem, e0, e1, e2]) rfl ?_
    rw [HR2.out]
    exact ⟨keeps_out K0.out (Nat.le_refl _) k9, rfl⟩
  · have hb' : ¬ (1048576 : Int) < (s.size : Int) := by omega
    obtain ⟨ls, hls⟩ : ∃ ls, ls = linesD s.data.toList := ⟨_, rfl⟩
    have HQ2 : Hid (RR = endD ls.length (psF PSt.zero 0 ls)) := by
      show RR = _
      rw [HQ.out, hls]
      unfold parseD
      rw [if_neg (show ¬ 1048576 < s.data.toList.length from hbig)]
      rfl
    have hlines := fun W => lines_any s (by omega) W
    rw [← hls] at hlines
    obtain ⟨z1, z2⟩ := lines_small s.data.toList
    rw [← hls] at z1 z2
    have hsz : s.data.toList.length = s.size := rfl
    have HZ := hide (And.intro z1 (And.intro z2 (And.intro hsz (show s.size ≤ 1048576 by omega))))
    have HE := hide he
    have HRw := hide hR
    clear hR he HQ hls z1 z2 hsz hs
    go_enter Tryd.func9, Tryd.ntmps9
    go_upto_region 4 with fail
    refine alloc2r (P := fun W => Code.wp _ _ _ _ W) fun W0 hb0 hb1 k0 => ?_
    have H0 : Hid (∀ W', Keeps W0 W' (fun _ => False) → ∀ rl, TextsO w.heap.size W' rl ls → PaS w (w.heap.size + 1) ls rl PSt.zero (.slice none 0 0) (.slice none 0 0) [] W') := fun W' k rl hl => ⟨k.blk8 hb0, ⟨k.blk8 hb1, ⟨rfl, Or.inl ⟨rfl, rfl⟩⟩, ⟨rfl, Or.inl ⟨rfl, rfl⟩⟩, rfl, fun x hx => (by cases hx), Apart.nil⟩, hl, k0.trans k (fun _ _ e => e), Nat.lt_succ_self _⟩
    have K0 := hide k0
    clear hb0 hb1 k0
    go_wp2_with fail
    (with_reducible refine (hlines _).mono ?_)
    rintro e w1 ⟨rl, rfl, hl1, k1⟩
    obtain ⟨so, co, rfl⟩ := ownsRow_slice hl1
    have H1 := hide (H0.out w1 k1 _ (ownsRow_low2 hl1 K0.out.size))
    clear hlines hl1 k1 H0 K0
    go_wp2_with fail
    go_loopw [6, 22] (fun v6 v22 wr => ∃ (i : Nat) (st : PSt) (vo vc : Value) (L : List CmV), v22 = .int .i64 (i : Int) ∧ i ≤ ls.length ∧ v6 = .int .i64 st.last ∧ PaS w (w.heap.size + 1) ls (.slice so ls.length co) st vo vc L wr ∧ Hid (psF st i (ls.drop i) = psF PSt.zero 0 ls ∧ st.os.length + st.cs.length ≤ i)) (fun _ v22 _ => ls.length - (intOf v22).toNat)
    case atStart => exact ⟨0, PSt.zero, _, _, _, rfl, Nat.zero_le _, rfl, H1.out, ⟨rfl, Nat.le_refl _⟩⟩
    case round =>
      obtain ⟨i, st, vo, vc, L, rfl, hi, rfl, hp, HI⟩ := hrel
      by_cases hlt : i < ls.length
      · have hlt' : (i : Int) < (ls.length : Int) := by omega
        have hi0 : (0 : Int) ≤ (i : Int) := by omega
        obtain ⟨g, rfl⟩ := own_some hp.ln (by omega)
        have q1 : wr.cell? ⟨g, i, none⟩ = some (.string (strOf ls[i])) := by
          rw [hp.ln.cellAt i (by omega), List.getElem?_map, List.getElem?_eq_getElem hlt]
          rfl
        obtain ⟨z1, z2, z3, z4⟩ := HZ.out
        have zl := z1 ls[i] (List.getElem_mem hlt)
        have hwords := words_any (strOf ls[i]) (by rw [strOf_size]; omega) wr
        rw [strOf_data] at hwords
        obtain ⟨y1, y2⟩ := words_small ls[i]
        have HY := hide (And.intro (fun x hx => Nat.le_trans (y1 x hx) zl) (And.intro y2 zl))
        have hdrop : ls.drop i = ls[i] :: ls.drop (i + 1) := List.drop_eq_getElem_cons hlt
        have hI := HI.out
        rw [hdrop] at hI
        generalize ls[i] = l at *
        have HI2 := hide hI
        have Hms : Hid (ls.length - (i + 1) < ls.length - i) := by show ls.length - (i + 1) < ls.length - i; omega
        have Hile : Hid (i ≤ 1048576) := by show i ≤ 1048576; omega
        have hwr := hide (wr64s (n := i) (by omega))
        have HP := hide hp
        clear hI hdrop HI z1 z2 z3 z4 zl y1 y2 hp
        go_wp2_with fail
        (with_reducible refine hwords.mono ?_)
        rintro e w2 ⟨wv, rfl, hT, k2⟩
        obtain ⟨sw, cw, rfl⟩ := ownsRow_slice hT
        have HP2 := hide (HP.out.stay k2)
        have HT := hide hT
        clear hwords hT k2 HP q1
        cases hw : wdsD l with
        | nil =>
          have HN : Hid (psF st (i + 1) (ls.drop (i + 1)) = psF PSt.zero 0 ls ∧ st.os.length + st.cs.length ≤ i + 1) := by
            have := HI2.out
            rw [psF_skip hw] at this
            exact ⟨this.1, Nat.le_succ_of_le this.2⟩
          rw [hw] at HT
          clear HI2 hw HY
          rw [List.length_nil] at *
          obtain ⟨a6, a7⟩ := hwr.out
          go_wp2_with fail
          go_roundw
          case rel => exact ⟨i + 1, st, vo, vc, L, by go_num, hlt, rfl, HP2.out, HN.out⟩
          case measure => simp [intOf]; exact Hms.out
        | cons nm fs =>
          rw [hw] at HT HY
          have hS := HT.out.strs (by simp)
          have hl0 : ((((nm :: fs).length : Nat) : Int) == 0) = false := by
            rw [beq_eq_false_iff_ne]
            simp
            omega
          have K2 := HP2.out.keeps
          have hcall := readLine_any st.last (.slice sw (nm :: fs).length cw) nm fs w2 hS (by have := HY.out.2; simp at this; omega) (fun x hx => Nat.le_trans (HY.out.1 x (List.mem_cons_of_mem _ hx)) (by have := HZ.out; omega)) (HRw.out.keeps K2) (HE.out.keeps K2)
          have HB := hide (fun (h0 : ¬ (lnR st.last nm fs).2.2 = 0) => (psF_bad (i := i) (r := ls.drop (i + 1)) hw h0).symm.trans HI2.out.1)
          have HG := hide (fun (h0 : (lnR st.last nm fs).2.2 = 0) => And.intro (lnR_kind h0) ((psF_read (i := i) (r := ls.drop (i + 1)) hw h0).symm.trans HI2.out.1))
          have Hcnt := hide HI2.out.2
          clear HT HY hw hS K2 HI2
          generalize lnR st.last nm fs = Q at *
          obtain ⟨kd, c, er⟩ := Q
          generalize hnl : (nm :: fs).length = nl at *
          go_wp2_with fail
          (with_reducible refine hcall.mono ?_)
          rintro e w3 ⟨fv, hv, rfl, hf, hs2, k3, hap⟩
          obtain ⟨sf, nf, rfl⟩ := hf.form
          obtain ⟨sh, nh, rfl⟩ := hs2.form
          have HP3 := hide (HP2.out.stay k3)
          have HA3 : Hid (Apart (L ++ [⟨c, .slice sf c.fl.length nf, .slice sh c.hl.length nh⟩])) := HP2.out.sc.ap.more HP2.out.sc.old (fun b g q => by
            cases b with
            | false => exact (ownsRow_block hf q).1
            | true => exact (ownsRow_block hs2 q).1) hap
          have HF3 := hide (And.intro (ownsRow_low2 hf HP2.out.keeps.size) (ownsRow_low2 hs2 HP2.out.keeps.size))
          dsimp only at *
          simp only [CmdD.vals]
          clear hcall hf hs2 k3 HP2 hap
          go_upto_region 12 with fail
          refine alloc1 (P := fun W => Code.wp _ _ _ _ W) fun W4 hb4 hs4 k4 => ?_
          obtain ⟨e0, e1, e2, e3, e4, e5, e6, e7, e8⟩ := at9 hb4
          have HP4 := hide (HP3.out.stay k4)
          have HF4 := hide (And.intro (IntsO.keeps HF3.out.1 k4) (IntsO.keeps HF3.out.2 k4))
          clear hb4 hs4 k4 HP3 HF3
          by_cases her : er = 0
          · subst her
            obtain ⟨hk, hps⟩ := HG.out rfl
            have hlay : Calls Tryd.prog 20 #[.pointer (some ⟨w.heap.size + 1, 0, none⟩), .int .i64 kd, .agg #[.int .i64 c.op, .int .i64 c.h, .slice sf c.fl.length nf, .slice sh c.hl.length nh, .int .u64 (c.u : Int), .int .u64 (c.v : Int), .int .i64 c.n, .string c.key, .string c.elem]] W4 fun e w' => LayP w.heap.size (w.heap.size + 1) (st.lay kd c) vo vc W4 e w' := lay_any w.heap.size (w.heap.size + 1) st vo vc L W4 HP4.out.sc HP4.out.keeps.size (Nat.le_trans Hcnt.out Hile.out) kd hk c (.slice sf c.fl.length nf) (.slice sh c.hl.length nh) HF4.out.1 HF4.out.2 HA3.out
            have HN := hide (And.intro hps (Nat.le_trans (lay_count st kd c) (Nat.succ_le_succ Hcnt.out)))
            clear hk hps HG HB Hcnt
            go_wp2_with fail
            (with_reducible refine hlay.mono ?_)
            rintro e w5 ⟨rfl, ⟨vo2, vc2, L2, hS5⟩, k5⟩
            have HP5 := hide (HP4.out.lay hS5 k5)
            clear hlay hS5 k5 HP4 HF4 e0 e1 e2 e3 e4 e5 e6 e7 e8
            have hll := lay_last st kd c
            have Hll := hide hll
            clear hll
            obtain ⟨a6, a7⟩ := hwr.out
            go_wp2_with fail
            go_roundw
            case rel => exact ⟨i + 1, st.lay kd c, vo2, vc2, L2, by go_num, hlt, by rw [Hll.out], HP5.out, HN.out⟩
            case measure => simp [intOf]; exact Hms.out
          · have hbad := HB.out her
            have HR2 : Hid (RR = .inr (i + 1, er)) := by
              show RR = _
              rw [HQ2.out, ← hbad]
              rfl
            have her' : (er != 0) = true := by simpa using her
            obtain ⟨x0, x1, x2⟩ := three_cells9 HP4.out.res
            obtain ⟨f0, f1, f2⟩ := fro3 HP4.out.res
            clear hbad HG HB Hcnt her HF4
            obtain ⟨a6, a7⟩ := hwr.out
            go_wp2_with fail
            refine set3r (P := fun W => bodyPost _ _ _ _ _ W) HP4.out.res fun W9 h9 k9 => ?_
            obtain ⟨y0, y1, y2⟩ := three_cells9 h9
            refine bodyPost_ret (v := .tuple #[.agg #[.int .i64 0, .slice none 0 0, .slice none 0 0], .int .i64 ((i : Int) + 1), .int .i64 er]) (by simp [results, Tryd.results9, go_sem, y0, y1, y2]) rfl ?_
            rw [HR2.out]
            exact ⟨keeps_out HP4.out.keeps (Nat.le_refl _) k9, rfl⟩
      · obtain rfl : i = ls.length := by omega
        have hlt' : ¬ (ls.length : Int) < (ls.length : Int) := by omega
        have hI := HI.out.1
        rw [List.drop_length, psF_nil] at hI
        have hR1 : RR = if st.last = 0 then .inr (ls.length + 1, 160) else .inl st := by
          rw [HQ2.out, ← hI]
          rfl
        have HP := hide hp
        have hwr := hide (wr64s (n := ls.length) (by have := HZ.out; omega))
        clear hI HI hp
        by_cases hl0 : st.last = 0
        · have HR2 : Hid (RR = .inr (ls.length + 1, 160)) := by
            show RR = _
            rw [hR1, if_pos hl0]
          have hl' : (st.last == 0) = true := by simp [hl0]
          obtain ⟨x0, x1, x2⟩ := three_cells9 HP.out.res
          obtain ⟨f0, f1, f2⟩ := fro3 HP.out.res
          clear hR1 hl0 HQ2
          generalize st.last = sl at *
          obtain ⟨a6, a7⟩ := hwr.out
          go_wp2_with fail
          refine set3r (P := fun W => bodyPost _ _ _ _ _ W) HP.out.res fun W9 h9 k9 => ?_
          obtain ⟨y0, y1, y2⟩ := three_cells9 h9
          refine bodyPost_ret (v := .tuple #[.agg #[.int .i64 0, .slice none 0 0, .slice none 0 0], .int .i64 ((ls.length : Int) + 1), .int .i64 160]) (by simp [results, Tryd.results9, go_sem, y0, y1, y2]) rfl ?_
          rw [HR2.out]
          exact ⟨keeps_out HP.out.keeps (Nat.le_refl _) k9, rfl⟩
        · have HR2 : Hid (RR = .inl st) := by
            show RR = _
            rw [hR1, if_neg hl0]
          have hl' : (st.last == 0) = false := beq_eq_false_iff_ne.2 hl0
          obtain ⟨x0, x1, x2⟩ := three_cells9 HP.out.res
          obtain ⟨f0, f1, f2⟩ := fro3 HP.out.res
          obtain ⟨so2, co2, rfl⟩ := ownsRow_slice HP.out.sc.os
          obtain ⟨sc2, cc2, rfl⟩ := ownsRow_slice HP.out.sc.cs
          obtain ⟨t0, t1, t2⟩ := three_cells9 HP.out.sc.box
          clear hR1 hl0 HQ2
          generalize hsl : st.last = sl at *
          clear hsl
          go_wp2_with fail
          refine set3r (P := fun W => bodyPost _ _ _ _ _ W) HP.out.res fun W9 h9 k9 => ?_
          obtain ⟨y0, y1, y2⟩ := three_cells9 h9
          refine bodyPost_ret (v := .tuple #[.agg #[.int .i64 st.lim, .slice so2 st.os.length co2, .slice sc2 L.length cc2], .int .i64 0, .int .i64 0]) (by simp [results, Tryd.results9, go_sem, y0, y1, y2]) rfl ?_
          rw [HR2.out]
          have hne : ∀ {e : TypeId} {size : Nat} {v : Value} {n : Nat} {xs : List Value}, wr.ownsRow w.heap.size e size v n xs → 25 ≠ e → W9.ownsRow w.heap.size e size v n xs := fun {e size v n xs} q hq => ownsRow_keeps q k9 (own_ne2 q HP.out.res hq)
          exact ⟨keeps_out HP.out.keeps (Nat.le_refl _) k9, _, _, L, rfl, hne HP.out.sc.os (by decide), hne HP.out.sc.cs (by decide), HP.out.sc.eq, fun x hx => ⟨hne (HP.out.sc.each x hx).1 (by decide), hne (HP.out.sc.each x hx).2 (by decide)⟩, HP.out.sc.ap⟩
end Go.Proofs.YtfpiibccggjjpaaDoor
