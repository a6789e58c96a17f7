import Derived.OrdersHeld
import Derived.OwnWalkIn
import Derived.Deep.RegionHeld3
import Derived.Maps.AppendAt
import Derived.Test.YteglefnfnkgpcaaRn14
/-
  ArenaRange's data: blocks taken at once in a new arena; what is freed and taken round by round.
-/
namespace Go.Proofs.Yteglefnfnkgpcaa
open Go.RowKit Go.Shelf
set_option linter.unusedVariables false

theorem fresh_wellR (n : Nat) : (AD.fresh n).Well := ⟨fun x xs h => by simp [AD.fresh] at h, fun y hy => by simp [AD.fresh] at hy, fun c => by simp [AD.fresh, classSum]⟩
theorem Al.lives {d : AD} {bl : List (Nat × Nat)} (h : Al d bl) : livesOf d.L d.lv = bl := by
  unfold livesOf
  rw [h.L]
  exact List.filter_eq_self.2 (fun x hx => by rw [h.lv x hx]; rfl)
theorem Al.ne {d : AD} {bl : List (Nat × Nat)} (h : Al d bl) : ∀ i j (hi : i < bl.length) (hj : j < bl.length), i ≠ j → bl[i].1 ≠ bl[j].1 := by
  have ht := h.fine.tiles
  rw [h.L] at ht
  have hp := List.pairwise_iff_getElem.1 (tiles_rise ht).2
  have hpos := Tiles.pos ht
  intro i j hi hj hne
  rcases Nat.lt_or_gt_of_ne hne with hlt | hlt
  · have := hp i j hi hj hlt
    have := hpos _ (List.getElem_mem hi)
    omega
  · have := hp j i hj hi hlt
    have := hpos _ (List.getElem_mem hj)
    omega
theorem listT_new {d : AD} (h : newG d) (c : Nat) : listT d c = newT d c := by
  unfold listT newT
  rw [h.1]
/-- Several at once in an arena without holes: one behind the other. -/
theorem all_al : ∀ (zs : List Int) (d : AD) (bl : List (Nat × Nat)), Al d bl → d.Well → (∀ z ∈ zs, 1 ≤ z ∧ z ≤ 4096) → bl.length + zs.length ≤ 64 →
    ∃ bk : List (Nat × Nat), bk.length = zs.length ∧ Al (takeAll listT d zs).2 (bl ++ bk) ∧ (takeAll listT d zs).2.Well ∧ (takeAll listT d zs).1 = bk.map (fun x => (x.1 : Int)) ∧ ∀ j (h : j < bk.length) (h' : j < zs.length), bk[j].2 = classN zs[j].toNat
  | [], d, bl, hA, hW, _, _ => ⟨[], rfl, by simpa [takeAll] using hA, by simpa [takeAll] using hW, rfl, fun j h => by simp at h⟩
  | z :: r, d, bl, hA, hW, hz, hl => by
    obtain ⟨h1, h2⟩ := hz z (by simp)
    have hl' : bl.length + (r.length + 1) ≤ 64 := by simpa using hl
    have hcz : (classI z).toNat = classN z.toNat := by unfold classI; rw [if_pos (by omega)]; simp
    obtain ⟨hr, hm⟩ := hA.more (s := z.toNat) (by omega) (by omega) (by omega)
    have hw := (listOK.fine (classN z.toNat) hW hA.fine (class_in z.toNat (by omega) (by omega)) (by have := class_4096 (n := z.toNat) (by omega) (by omega); omega) hr).2.1
    rw [listT_new hA.new] at hw
    obtain ⟨bk, e1, e2, e3, e4, e5⟩ := all_al r (newT d (classN z.toNat)).2 _ hm hw (fun y hy => hz y (by simp [hy])) (by simp; omega)
    refine ⟨((newT d (classN z.toNat)).1, classN z.toNat) :: bk, by simp [e1], ?_, ?_, ?_, ?_⟩
    · simp only [takeAll, hcz, listT_new hA.new]
      rw [List.append_assoc] at e2
      exact e2
    · simp only [takeAll, hcz, listT_new hA.new]
      exact e3
    · simp only [takeAll, hcz, listT_new hA.new, e4]
      rfl
    · intro j h h'
      cases j with
      | zero => rfl
      | succ j => exact e5 j (by simpa using h) (by simpa using h')

/-- Behind some rounds: those j of bl with A j are live. -/
structure Rd (d : AD) (bl : List (Nat × Nat)) (u k : Nat) (A : Nat → Prop) : Prop where
  fine : d.Fine
  well : d.Well
  lim : d.limit = 2097152
  use : d.used ≤ u
  few : (livesOf d.L d.lv).length ≤ k
  live : ∀ j (h : j < bl.length), A j → (d.lv (bl[j].1 : Int)).isSome = true
theorem Rd.start {d : AD} {bl : List (Nat × Nat)} (h : Al d bl) (hW : d.Well) (A : Nat → Prop) : Rd d bl (bl.length * 4096) bl.length A :=
  ⟨h.fine, hW, h.lim, h.use, by rw [h.lives]; exact Nat.le_refl _, fun j hj _ => by rw [h.lv _ (List.getElem_mem hj)]; rfl⟩
theorem Rd.less {d : AD} {bl : List (Nat × Nat)} {u k u' k' : Nat} {A A' : Nat → Prop} (h : Rd d bl u k A) (hu : u ≤ u') (hk : k ≤ k') (hA : ∀ j, j < bl.length → A' j → A j) : Rd d bl u' k' A' :=
  ⟨h.fine, h.well, h.lim, Nat.le_trans h.use hu, Nat.le_trans h.few hk, fun j hj a => h.live j hj (hA j hj a)⟩
theorem gone_fineR {d d' : AD} {z : Int} (hF : d.Fine) (h : Gone d z d') : d'.Fine ∧ d'.used ≤ d.used := by
  refine ⟨hF.gone h, ?_⟩
  obtain ⟨s, _, rfl⟩ := h
  show d.used - s ≤ d.used
  omega
theorem Rd.free {d d' : AD} {bl : List (Nat × Nat)} {u k : Nat} {A : Nat → Prop} (h : Rd d bl u k A) {j : Nat} (hj : j < bl.length) (hg : Gone d (bl[j].1 : Int) d') (hn : ∀ i j (hi : i < bl.length) (hj : j < bl.length), i ≠ j → bl[i].1 ≠ bl[j].1) : Rd d' bl u k (fun i => A i ∧ i ≠ j) := by
  obtain ⟨f1, f2⟩ := gone_fineR h.fine hg
  refine ⟨f1, h.well.gone h.fine hg, hg.limit.trans h.lim, Nat.le_trans f2 h.use, ?_, ?_⟩
  · refine Nat.le_trans ?_ h.few
    rw [hg.L, hg.lv]
    unfold livesOf
    rw [show d.L.filter (fun x => (upd d.lv (bl[j].1 : Int) none (x.1 : Int)).isSome) = (d.L.filter (fun x => (d.lv (x.1 : Int)).isSome)).filter (fun x => (upd d.lv (bl[j].1 : Int) none (x.1 : Int)).isSome) from ?_]
    · exact List.length_filter_le _ _
    · rw [List.filter_filter]
      refine List.filter_congr fun x _ => ?_
      unfold upd
      by_cases e : (x.1 : Int) = (bl[j].1 : Int)
      · simp [e]
      · simp [e]
  · intro i hi ⟨a, hne⟩
    rw [hg.lv]
    unfold upd
    rw [if_neg ?_]
    · exact h.live i hi a
    · intro e
      exact hn i j hi hj hne (by omega)
theorem Rd.take {d d' : AD} {bl : List (Nat × Nat)} {u k o c : Nat} {A : Nat → Prop} (h : Rd d bl u k A) (ht : TookB d d' o c) : Rd d' bl (u + c) (k + 1) A := by
  refine ⟨ht.fine, ht.well, ht.limit.trans h.lim, by rw [ht.used]; have := h.use; omega, ?_, ?_⟩
  · rw [ht.perm.length_eq]
    have := h.few
    simp
    omega
  · intro j hj a
    obtain ⟨s, hs⟩ := Option.isSome_iff_exists.1 (h.live j hj a)
    obtain ⟨o', n, e1, e2, _, _, hm⟩ := live_fits h.fine hs
    have hin : (o', n) ∈ livesOf d.L d.lv := List.mem_filter.2 ⟨hm, by
      show (d.lv (o' : Int)).isSome = true
      rw [← e1, hs]; rfl⟩
    have := (List.mem_filter.1 (ht.perm.mem_iff.2 (List.mem_cons_of_mem _ hin))).2
    rw [e1]
    exact this
theorem Rd.lv {d : AD} {bl : List (Nat × Nat)} {u k : Nat} {A : Nat → Prop} (h : Rd d bl u k A) {j : Nat} (hj : j < bl.length) (a : A j) : ∃ s, d.lv (bl[j].1 : Int) = some s := Option.isSome_iff_exists.1 (h.live j hj a)
end Go.Proofs.Yteglefnfnkgpcaa
/-
  A region inside a round of a range over a function, from the region's laws outside of one: what 'wpAnyH' (a load taken first where nobody writes its cell) gives may be used within the round.
-/
namespace Go.Proofs.Yteglefnfnkgpcaa
open Go
set_option linter.unusedVariables false

section
variable {P : Program} {ops : Array Oper} {Q : Exit → Act → World → Prop} {md : Region.Mode} {S : World → Prop} {n l : Nat}

theorem callsIn_round {f : FuncId} {args : Array Value} {w : World} {R : Ending → World → Prop} (h : Calls P f args w R) : CallsIn (Fence.wide.inRound l) n P f args w R :=
  ⟨trivial, fun cs _ => let ⟨e, w', fr, r, s, x⟩ := h cs; ⟨e, w', fr, r, by rw [fenced_inRound]; exact comesIn_wide.2 s, x⟩⟩

theorem rowsIn_round {row : String} {args : Array Value} {w : World} {R : Value → World → Prop} (h : Rows P row args w R) : RowsIn (Fence.wide.inRound l) n P row args w R :=
  fun c cs _ => let ⟨v, w', r, s⟩ := h c cs; ⟨v, w', r, by rw [fenced_inRound]; exact stepsIn_wide.2 s⟩

theorem wp_inRound {o : Oper} {a : Act} {w : World} {K : Act → World → Prop} (hd : ∀ c, o.op ≠ .defer c) (h : o.wp P a w K Q) : o.wpIn (Fence.wide.inRound l) n P a w K Q := by
  unfold Oper.wpIn
  refine ⟨fun _ _ => trivial, ?_⟩
  rw [Oper.semAt_plain _ _ _ hd]
  unfold Oper.wp at h
  generalize (execOp a.eval o).run P w = r at *
  cases r with
  | ok x w' =>
    cases x <;> simp only [Oper.upon] at h <;> simp only [Oper.uponIn] <;>
      first
        | exact h
        | exact ⟨fun e => by simp [Fence.wide] at e, callsIn_round h⟩
        | exact ⟨fun e => by simp [Fence.wide] at e, rowsIn_round h⟩
  | halt x w' => cases x <;> simp only [Oper.upon] at h <;> simp only [Oper.uponIn] <;> exact h

theorem wpOp_inRound {i : Nat} {a : Act} {w : World} {K : Act → World → Prop} (hl : ¬ LetsOut Q) (hd : ∀ (o : Oper), ops[i]? = some o → ∀ c, o.op ≠ .defer c)
    (h : wpOp P ops Q i K a w) : wpOpIn (Fence.wide.inRound l) n P ops Q i K a w := by
  unfold wpOp at h
  unfold wpOpIn
  cases ho : ops[i]? with
  | none => simpa [ho] using h
  | some o =>
    simp only [ho] at h ⊢
    split
    · rename_i hw
      simp only [hw, if_true] at h
      rcases h with h | ⟨_, h⟩
      · exact wp_inRound (hd o ho) h
      · exact absurd h hl
    · rename_i hw
      simp only [hw] at h
      exact ⟨fun _ _ => trivial, h⟩

theorem wpAny_inRound (hl : ¬ LetsOut Q) (hd : ∀ (i : Nat) (o : Oper), ops[i]? = some o → ∀ c, o.op ≠ .defer c) : ∀ (fuel : Nat) (listed : Array Bool) (a : Act) (w : World),
    wpAny P md ops Q fuel listed a w → wpAnyIn (Fence.wide.inRound l) n P md ops Q fuel listed a w
  | 0, _, _, _, h => h
  | fuel + 1, _, _, _, h => ⟨h.1, fun i hi => wpOpIn_mono (fun a' w' h' => wpAny_inRound hl hd fuel _ a' w' h') (wpOp_inRound hl (hd i) (h.2 i hi))⟩

/-- Begin a region with a held condition, inside a round. -/
theorem wpIn_region_held {id : Nat} {a : Act} {w : World} (S : World → Prop) (hm : P.follows .mixedOrders = true) (hl : ¬ LetsOut Q) (hd : ∀ (i : Nat) (o : Oper), ops[i]? = some o → ∀ c, o.op ≠ .defer c)
    (h : wpAnyH P .any ops Q S ops.size (Array.replicate ops.size false) a { w with drawn := w.drawn + 1 }) :
    (Code.region id ops true).wpIn (Fence.wide.inRound l) n P Q a w :=
  wpIn_region_any hm (wpAny_inRound hl hd _ _ _ _ (wpAny_of_held _ _ _ _ h))

/-- The post of an exit that is the usual one alone. -/
def Only (Q : Exit → Act → World → Prop) : Exit → Act → World → Prop
  | .normal, a, w => Q .normal a w
  | _, _, _ => False
theorem Only.imp : ∀ (e : Exit) (a : Act) (w : World), Only Q e a w → Q e a w := fun e a w h => by
  cases e <;> first | exact h | exact (h : False).elim
theorem Only.normal {a : Act} {w : World} (h : Q .normal a w) : Only Q .normal a w := h
theorem Only.shut : ¬ LetsOut (Only Q) := fun ⟨_, _, h⟩ => h

/-- The same for whatever post: nothing but the usual exit is met on the way. -/
theorem wpIn_region_only {id : Nat} {a : Act} {w : World} (S : World → Prop) (hm : P.follows .mixedOrders = true) (hd : ∀ (i : Nat) (o : Oper), ops[i]? = some o → ∀ c, o.op ≠ .defer c) (hS : S w.drew)
    (h : S w.drew → wpAnyH P .any ops (Only Q) S ops.size (Array.replicate ops.size false) a w.drew) :
    (Code.region id ops true).wpIn (Fence.wide.inRound l) n P Q a w :=
  wpIn_mono (wpIn_region_held S hm Only.shut hd (h hS)) Only.imp

def noDefers (ops : Array Oper) : Bool := ops.all fun o => match o.op with | .defer _ => false | _ => true
theorem noDefers_spec (h : noDefers ops = true) : ∀ (i : Nat) (o : Oper), ops[i]? = some o → ∀ c, o.op ≠ .defer c := by
  intro i o ho c hc
  obtain ⟨hi, e⟩ := Array.getElem?_eq_some_iff.1 ho
  have h2 := Array.all_eq_true.1 h i hi
  rw [e, hc] at h2
  simp at h2
end

end Go.Proofs.Yteglefnfnkgpcaa
/-
  ArenaRange: the statement's blocks while AllocAll is asked, in whatever order its variable is made.
-/
namespace Go.Proofs.Yteglefnfnkgpcaa
open Go.RowKit Go.Shelf
set_option linter.unusedVariables false

structure Bx1 (R : Prop) : Prop where
  out : R
theorem twice {R G : Prop} (h : Bx1 R → G) (r : R) : G := h ⟨r⟩

theorem set_one {W : World} {l : Nat} {v u : Value} {t : TypeId} (h : W.heap[l]? = some (.cells #[u] t)) : (W.setCell ⟨l, 0, none⟩ v).heap[l]? = some (.cells #[v] t) ∧ Keeps W (W.setCell ⟨l, 0, none⟩ v) (fun i => i = l) := by
  have hb : Boxed W l t u := h
  exact ⟨hb.set v, (Keeps.ofGrown (grownBy_setCell' W l v)).mono (fun i _ e => by cases e; rfl)⟩
/-- append among the operations of a drawn region. -/
theorem app_ready {P : Program} {o : Oper} {a : Act} {w : World} {K : Act → World → Prop} {Q : Exit → Act → World → Prop} (s x : Operand) (t : TypeId) (hop : o.op = Op.call { callee := Callee.builtin Builtin.append, args := #[s, x], argTypes := #[t, t] }) {v u v' : Value} {w' : World} (hs : a.eval s = v) (hx : a.eval x = u)
    (hrun : ∀ ty, (Builtin.append_ #[t, t] ty #[v, u]).run P w = .ok v' w') (hK : K (a.put o.dst v') w') : Oper.wp P o a w K Q := by
  unfold Oper.wp
  simp [execOp, hop, resolve, invoke, builtin, hs, hx, hrun, Result.andThen]
  exact hK
/-- append of a row to a new list of none. -/
theorem copyQ {W : World} {v : Value} {zs : List Int} (h : InZ W v zs) (hn : zs.length ≤ 64) {q : Nat} (hq : W.heap[q]? = some (.cells #[] 3)) :
    ∃ a c W', (∀ ty, (Builtin.append_ #[28, 28] ty #[.slice (some ⟨q, 0, none⟩) 0 0, v]).run Try.prog W = .ok (.slice (some ⟨a, 0, none⟩) zs.length c) W') ∧ (∀ j (hj : j < zs.length), W'.cell? ⟨a, 0 + j, none⟩ = some (.int .i64 zs[j])) ∧ (a = q ∨ W.heap.size ≤ a) ∧ a < W'.heap.size ∧ Keeps W W' (fun i => i = q) := by
  have hi : (Try.prog.info? 3).map (fun i => (i.zero, i.size, i.bytes)) = some (some (.int .i64 0), 1, 8) := by kernel_rfl
  obtain ⟨i, q1, q2, q3, q4⟩ := info_parts hi
  have own0 : W.ownsRow q 3 1 (.slice (some ⟨q, 0, none⟩) 0 0) 0 [] := ⟨by simp, Or.inr ⟨q, 0, #[], rfl, Nat.le_refl _, hq, by simp, by simp only [maxLen]; omega, by simp, by simp⟩⟩
  rcases h with ⟨rfl, rfl⟩ | ⟨a, cap, rfl, hc, _⟩
  · have r1 := fun ty => run_append_owned_none (P := Try.prog) (w := W) q 28 ty 3 i 1 Try.underlying28 q1 _ 0 [] own0
    exact ⟨_, _, _, r1, fun j hj => by simp at hj, Or.inl rfl, heap_lt hq, Keeps.refl _ _⟩
  · obtain ⟨v', w2, hr, hown, hgr, hnil, hloc⟩ := run_append_own_at (P := Try.prog) W q 28 0 3 i (.int .i64 0) 1 8 Try.underlying28 q1 q2 q3 q4 rfl (by omega) _ 0 [] own0 a zs.length cap (zs.map cellI) (by simp)
      (fun j u hu => by
        rw [List.getElem?_map] at hu
        obtain ⟨z, hz, rfl⟩ := Option.map_eq_some_iff.1 hu
        obtain ⟨hj, rfl⟩ := List.getElem?_eq_some_iff.1 hz
        exact hc j hj) cellI_one (by simp only [maxLen]; omega) (by omega) (Nat.le_of_lt (heap_lt hq))
    rw [Nat.zero_add, List.nil_append] at hown
    have K : Keeps W w2 (fun i => i = q) := (Keeps.ofGrown hgr).mono (fun i hi e => by
      have e' : q = i := by simpa [Value.ownBlock] using e
      exact e'.symm)
    obtain ⟨_, hh | ⟨g', cap', cur', e1, g2, _⟩⟩ := id hown
    · exact absurd (hnil.1 hh.1).1 (by simp)
    · subst e1
      refine ⟨g', cap', w2, fun ty => hr, row_cells hown, ?_, (hown.lt g' rfl).2, K⟩
      rcases hloc with e | e
      · have e' : g' = q := by simpa [Value.ownBlock] using e
        exact Or.inl e'
      · have e' : g' = W.heap.size := by simpa [Value.ownBlock] using e
        exact Or.inr (by omega)

theorem sumC_small : ∀ (zs : List Int), (∀ z ∈ zs, 1 ≤ z ∧ z ≤ 4096) → sumC zs ≤ 4096 * (zs.length : Int)
  | [], _ => by simp [sumC]
  | z :: r, h => by
    have ih := sumC_small r (fun y hy => h y (by simp [hy]))
    have hz := h z (by simp)
    have hc : classI z ≤ 4096 := by
      have := class_4096 (n := z.toNat) (by omega) (by omega)
      unfold classI
      rw [if_pos (by omega)]
      omega
    simp only [sumC, List.length_cons]
    omega
/-- What stands while AllocAll is asked. -/
structure Q12 (W0 W1 W : World) (p B5 b : Nat) (X : Nat → Prop) (d : AD) : Prop where
  rg : Rg W0 W p X d
  x5 : X B5
  s5 : W.heap[B5]? = W1.heap[B5]?
  sb : W.heap[b]? = W1.heap[b]?
section
variable {W0 W1 W W2 : World} {p B5 b : Nat} {X X' S : Nat → Prop} {d : AD}
theorem Q12.keep (h : Q12 W0 W1 W p B5 b X d) (hb : b < W0.heap.size) (k : Keeps W W2 S) (hS : ∀ i, S i → X i ∧ i ≠ B5) (hX : ∀ i, X' i → (X i ∨ W.heap.size ≤ i) ∧ i < W2.heap.size) (h5 : X' B5) : Q12 W0 W1 W2 p B5 b X' d := by
  have hsz := h.rg.own.keeps.size
  exact ⟨h.rg.keep k (fun i s => (hS i s).1) hX, h5, (k.block B5 (h.rg.xs B5 h.x5).2 (fun s => (hS B5 s).2 rfl)).trans h.s5,
    (k.block b (by omega) (fun s => by have := (h.rg.xs b (hS b s).1).1; omega)).trans h.sb⟩
theorem Q12.alloc (h : Q12 W0 W1 W p B5 b X d) (hb : b < W0.heap.size) (o : Obj) : Q12 W0 W1 (W.alloc o) p B5 b (fun k => X k ∨ k = W.heap.size) d :=
  h.keep hb ((Keeps.refl W (fun _ => False)).alloc o) (fun _ e => e.elim) (fun i x => by
    rcases x with x | x
    · exact ⟨Or.inl x, by have := (h.rg.xs i x).2; simp; omega⟩
    · exact ⟨Or.inr (by omega), by simp; omega⟩) (Or.inl h.x5)
theorem Q12.inz {w : World} {v : Value} {zs : List Int} (h : Q12 W0 W1 W p B5 b X d) (hz : InZ w v zs) (k : Keeps w W0 (fun _ => False)) : InZ W v zs :=
  hz.keeps (k.trans h.rg.own.keeps (fun _ _ e => e))
theorem Q12.app {q a : Nat} (h : Q12 W0 W1 W p B5 b X d) (hb : b < W0.heap.size) (k : Keeps W W2 (fun i => i = q)) (hq : W.heap[q]? = some (.cells #[] 3)) (ha : a = q ∨ W.heap.size ≤ a) (hal : a < W2.heap.size) (hX : X q) {v : Value} (h5 : W1.heap[B5]? = some (.cells #[v] 23)) : Q12 W0 W1 W2 p B5 b (fun k => X k ∨ k = a) d :=
  h.keep hb k (fun i e => ⟨by subst e; exact hX, by
    subst e
    rintro rfl
    rw [h.s5, h5] at hq
    simp at hq⟩) (fun i x => by
    rcases x with x | x
    · exact ⟨Or.inl x, Nat.lt_of_lt_of_le (h.rg.xs i x).2 k.size⟩
    · subst x
      rcases ha with e | e
      · exact ⟨Or.inl (e ▸ hX), hal⟩
      · exact ⟨Or.inr e, hal⟩) (Or.inl h.x5)
theorem Q12.set {B9 : Nat} {u v : Value} (h : Q12 W0 W1 W p B5 b X d) (hb : b < W0.heap.size) (h9 : W.heap[B9]? = some (.cells #[u] 28)) (hX : X B9) (h5 : W1.heap[B5]? = some (.cells #[v] 23)) (x : Value) : Q12 W0 W1 (W.setCell ⟨B9, 0, none⟩ x) p B5 b X d := by
  obtain ⟨s9, k9⟩ := set_one (v := x) h9
  exact h.keep (X' := X) hb k9 (fun i e => ⟨by rw [e]; exact hX, fun e' => by
    rw [e.symm.trans e', h.s5, h5] at h9
    simp at h9⟩) (fun i x => ⟨Or.inl x, Nat.lt_of_lt_of_le (h.rg.xs i x).2 k9.size⟩) h.x5
theorem q12_all (h : Q12 W0 W1 W p B5 b X (AD.fresh 2097152)) (hb : b < W0.heap.size) {a cap : Nat} (ha : X a) (zs : List Int) (hz : ∀ z ∈ zs, 1 ≤ z ∧ z ≤ 4096) (hl : zs.length ≤ 64) (hc : ∀ j (hj : j < zs.length), W.cell? ⟨a, 0 + j, none⟩ = some (.int .i64 zs[j])) :
    Calls Try.prog 12 #[.pointer (some ⟨p, 0, none⟩), .slice (some ⟨a, 0, none⟩) zs.length cap] W fun e w' => ∃ g, W.heap.size ≤ g ∧ e = .returned (.tuple #[.slice (some ⟨g, 0, none⟩) zs.length zs.length, .int .i64 0]) ∧ w'.heap[g]? = some (.cells ((takeAll listT (AD.fresh 2097152) zs).1.map cellI).toArray 3) ∧
      Q12 W0 W1 w' p B5 b (fun k => X k ∨ k = g) (takeAll listT (AD.fresh 2097152) zs).2 ∧ (∀ k, X k → w'.heap[k]? = W.heap[k]?) := by
  have hone : allOne zs := fun z hz' => (hz z hz').1
  have hfit : fitsIn (((AD.fresh 2097152).limit : Int) - ((AD.fresh 2097152).used : Int)) zs = true := by
    rw [fits_sum hone (by simp [AD.fresh])]
    refine ⟨?_, ?_⟩
    · simp only [greB, List.any_eq_false, decide_eq_true_eq]
      intro z hz'
      have := (hz z hz').2
      omega
    · have := sumC_small zs hz
      simp [AD.fresh]
      omega
  refine (allocAll_yes listOK h.rg.own.here (fresh_wellR _) (AD.fresh_fine (by omega)) a 0 cap zs hc (fun e => e.1.2 ha) (h.rg.xs a ha).2 (hide hone) (hide hfit)).mono ?_
  rintro e w' ⟨g, hg, rfl, hblk, hA, kk⟩
  have hlen := takeAll_length listT zs (AD.fresh 2097152)
  have hsz := h.rg.own.keeps.size
  have hgl := heap_lt hblk
  refine ⟨g, hg, by rw [hlen], hblk, ⟨⟨⟨hA.mono (fun i _ e => ?_), h.rg.own.keeps.trans kk (fun i hi e => by omega)⟩, fun i x => ?_⟩, Or.inl h.x5, (kk.block B5 (h.rg.xs B5 h.x5).2 (fun e => e.1.2 h.x5)).trans h.s5, (kk.block b (by omega) (fun e => by have := e.1.1; omega)).trans h.sb⟩, fun k x => kk.block k (h.rg.xs k x).2 (fun e => e.1.2 x)⟩
  · rcases e.1 with y | y
    · exact ⟨y.1.1, fun x => x.elim y.1.2 e.2⟩
    · exact ⟨by omega, fun x => x.elim (fun x => by have := (h.rg.xs i x).2; omega) e.2⟩
  · rcases x with x | x
    · exact ⟨(h.rg.xs i x).1, Nat.lt_of_lt_of_le (h.rg.xs i x).2 kk.size⟩
    · subst x
      exact ⟨by omega, hgl⟩
end
/-- What stands behind AllocAll. -/
structure F12 (W0 W : World) (p B5 B9 g : Nat) (offs : List Int) (d : AD) : Prop where
  rg : Rg W0 W p (fun k => k = B5 ∨ k = B9 ∨ k = g) d
  b5 : W.heap[B5]? = some (.cells #[.pointer (some ⟨p, 0, none⟩)] 23)
  b9 : W.heap[B9]? = some (.cells #[.slice (some ⟨g, 0, none⟩) offs.length offs.length] 28)
  bg : W.heap[g]? = some (.cells (offs.map cellI).toArray 3)
theorem Q12.fin {W0 W1 W : World} {p B5 b B9 g : Nat} {X : Nat → Prop} {d : AD} {offs : List Int} (h : Q12 W0 W1 W p B5 b X d) (h9 : X B9) (hg : X g) (b5 : W1.heap[B5]? = some (.cells #[.pointer (some ⟨p, 0, none⟩)] 23))
    (b9 : W.heap[B9]? = some (.cells #[.slice (some ⟨g, 0, none⟩) offs.length offs.length] 28)) (bg : W.heap[g]? = some (.cells (offs.map cellI).toArray 3)) : F12 W0 W p B5 B9 g offs d :=
  ⟨h.rg.keep (Keeps.refl W (fun _ => False)) (fun _ e => e.elim) (fun i x => by
    rcases x with rfl | rfl | rfl
    · exact ⟨Or.inl h.x5, (h.rg.xs _ h.x5).2⟩
    · exact ⟨Or.inl h9, (h.rg.xs _ h9).2⟩
    · exact ⟨Or.inl hg, (h.rg.xs _ hg).2⟩), h.s5.trans b5, b9, bg⟩
end Go.Proofs.Yteglefnfnkgpcaa
/-
  ArenaRange: the statement's variables beside the arena.
-/
namespace Go.Proofs.Yteglefnfnkgpcaa
open Go.RowKit Go.Shelf
set_option linter.unusedVariables false

theorem set_parts {W : World} {b : Nat} {u : Value} (h : W.heap[b]? = some (.cells #[u] 3)) (v : Value) : PartsStay W (W.setCell ⟨b, 0, none⟩ v) := fun q cs e =>
  (Below.heap_setCell W ⟨b, 0, none⟩ v q (fun e' => by
    have e2 : q = b := e'
    subst e2
    rw [h] at e
    simp at e)).trans e
/-- The blocks of the statement's own. -/
def XB (B5 B9 g Bs B11 B12 : Nat) (Y : Nat → Prop) (k : Nat) : Prop := k = B5 ∨ k = B9 ∨ k = g ∨ k = Bs ∨ k = B11 ∨ k = B12 ∨ Y k
structure V1 (W0 W : World) (p B5 B9 g Bs B11 B12 : Nat) (Y : Nat → Prop) (offs : List Int) (n : Nat) (d : AD) : Prop where
  rg : Rg W0 W p (XB B5 B9 g Bs B11 B12 Y) d
  b5 : W.heap[B5]? = some (.cells #[.pointer (some ⟨p, 0, none⟩)] 23)
  b9 : W.heap[B9]? = some (.cells #[.slice (some ⟨g, 0, none⟩) offs.length offs.length] 28)
  bg : W.heap[g]? = some (.cells (offs.map cellI).toArray 3)
  bs : W.heap[Bs]? = some (.cells #[.pointer (some ⟨p, 0, none⟩)] 23)
  b11 : W.heap[B11]? = some (.cells #[.func (.func 34) #[] #[.pointer (some ⟨Bs, 0, none⟩)]] 41)
  b12 : W.heap[B12]? = some (.cells #[.int .i64 (n : Int)] 3)
section
variable {W0 W W2 : World} {p B5 B9 g Bs B11 B12 : Nat} {Y Y' : Nat → Prop} {offs : List Int} {n : Nat} {d d' : AD}
theorem V1.call (h : V1 W0 W p B5 B9 g Bs B11 B12 Y offs n d) (hr : Rg W0 W2 p (XB B5 B9 g Bs B11 B12 Y) d') (hs : ∀ k, XB B5 B9 g Bs B11 B12 Y k → W2.heap[k]? = W.heap[k]?) : V1 W0 W2 p B5 B9 g Bs B11 B12 Y offs n d' :=
  ⟨hr, (hs _ (Or.inl rfl)).trans h.b5, (hs _ (Or.inr (Or.inl rfl))).trans h.b9, (hs _ (Or.inr (Or.inr (Or.inl rfl)))).trans h.bg, (hs _ (Or.inr (Or.inr (Or.inr (Or.inl rfl))))).trans h.bs, (hs _ (Or.inr (Or.inr (Or.inr (Or.inr (Or.inl rfl)))))).trans h.b11, (hs _ (Or.inr (Or.inr (Or.inr (Or.inr (Or.inr (Or.inl rfl))))))).trans h.b12⟩
theorem V1.more (h : V1 W0 W p B5 B9 g Bs B11 B12 Y offs n d) (k : Keeps W W2 (fun _ => False)) (hY : ∀ i, Y' i → (XB B5 B9 g Bs B11 B12 Y i ∨ W.heap.size ≤ i) ∧ i < W2.heap.size) : V1 W0 W2 p B5 B9 g Bs B11 B12 Y' offs n d := by
  refine ⟨h.rg.keep k (fun _ e => e.elim) (fun i x => ?_), k.blk h.b5, k.blk h.b9, k.blk h.bg, k.blk h.bs, k.blk h.b11, k.blk h.b12⟩
  have hx : ∀ i, XB B5 B9 g Bs B11 B12 Y i → i < W2.heap.size := fun i x => Nat.lt_of_lt_of_le (h.rg.xs i x).2 k.size
  rcases x with x | x | x | x | x | x | x
  · exact ⟨Or.inl (Or.inl x), hx i (Or.inl x)⟩
  · exact ⟨Or.inl (Or.inr (Or.inl x)), hx i (Or.inr (Or.inl x))⟩
  · exact ⟨Or.inl (Or.inr (Or.inr (Or.inl x))), hx i (Or.inr (Or.inr (Or.inl x)))⟩
  · exact ⟨Or.inl (Or.inr (Or.inr (Or.inr (Or.inl x)))), hx i (Or.inr (Or.inr (Or.inr (Or.inl x))))⟩
  · exact ⟨Or.inl (Or.inr (Or.inr (Or.inr (Or.inr (Or.inl x))))), hx i (Or.inr (Or.inr (Or.inr (Or.inr (Or.inl x)))))⟩
  · exact ⟨Or.inl (Or.inr (Or.inr (Or.inr (Or.inr (Or.inr (Or.inl x)))))), hx i (Or.inr (Or.inr (Or.inr (Or.inr (Or.inr (Or.inl x))))))⟩
  · exact hY i x
theorem V1.stay (h : V1 W0 W p B5 B9 g Bs B11 B12 Y offs n d) (k : Keeps W W2 (fun _ => False)) : V1 W0 W2 p B5 B9 g Bs B11 B12 Y offs n d :=
  h.more k (fun i y => ⟨Or.inl (Or.inr (Or.inr (Or.inr (Or.inr (Or.inr (Or.inr y)))))), Nat.lt_of_lt_of_le (h.rg.xs i (Or.inr (Or.inr (Or.inr (Or.inr (Or.inr (Or.inr y))))))).2 k.size⟩)
/-- Another variable of the statement's own is written to. -/
theorem V1.other (h : V1 W0 W p B5 B9 g Bs B11 B12 Y offs n d) {S : Nat → Prop} (k : Keeps W W2 S) (hS : ∀ i, S i → Y i ∧ i ≠ B5 ∧ i ≠ B9 ∧ i ≠ g ∧ i ≠ Bs ∧ i ≠ B11 ∧ i ≠ B12) (hY : ∀ i, Y' i → (Y i ∨ W.heap.size ≤ i) ∧ i < W2.heap.size) : V1 W0 W2 p B5 B9 g Bs B11 B12 Y' offs n d := by
  have hyx : ∀ i, Y i → XB B5 B9 g Bs B11 B12 Y i := fun i y => Or.inr (Or.inr (Or.inr (Or.inr (Or.inr (Or.inr y)))))
  refine ⟨h.rg.keep k (fun i s => hyx i (hS i s).1) (fun i x => ?_), k.blkF h.b5 (fun s => (hS _ s).2.1 rfl), k.blkF h.b9 (fun s => (hS _ s).2.2.1 rfl), k.blkF h.bg (fun s => (hS _ s).2.2.2.1 rfl), k.blkF h.bs (fun s => (hS _ s).2.2.2.2.1 rfl), k.blkF h.b11 (fun s => (hS _ s).2.2.2.2.2.1 rfl), k.blkF h.b12 (fun s => (hS _ s).2.2.2.2.2.2 rfl)⟩
  have hx : ∀ i, XB B5 B9 g Bs B11 B12 Y i → i < W2.heap.size := fun i x => Nat.lt_of_lt_of_le (h.rg.xs i x).2 k.size
  rcases x with x | x | x | x | x | x | x
  · exact ⟨Or.inl (Or.inl x), hx i (Or.inl x)⟩
  · exact ⟨Or.inl (Or.inr (Or.inl x)), hx i (Or.inr (Or.inl x))⟩
  · exact ⟨Or.inl (Or.inr (Or.inr (Or.inl x))), hx i (Or.inr (Or.inr (Or.inl x)))⟩
  · exact ⟨Or.inl (Or.inr (Or.inr (Or.inr (Or.inl x)))), hx i (Or.inr (Or.inr (Or.inr (Or.inl x))))⟩
  · exact ⟨Or.inl (Or.inr (Or.inr (Or.inr (Or.inr (Or.inl x))))), hx i (Or.inr (Or.inr (Or.inr (Or.inr (Or.inl x)))))⟩
  · exact ⟨Or.inl (Or.inr (Or.inr (Or.inr (Or.inr (Or.inr (Or.inl x)))))), hx i (Or.inr (Or.inr (Or.inr (Or.inr (Or.inr (Or.inl x))))))⟩
  · obtain ⟨y, l⟩ := hY i x
    exact ⟨y.imp (hyx i) id, l⟩
theorem V1.ne {t : TypeId} {c : Array Value} (h : V1 W0 W p B5 B9 g Bs B11 B12 Y offs n d) : B12 ≠ B5 ∧ B12 ≠ B9 ∧ B12 ≠ Bs ∧ B12 ≠ B11 := by
  refine ⟨fun e => ?_, fun e => ?_, fun e => ?_, fun e => ?_⟩
  · have := h.b12; rw [e, h.b5] at this; simp at this
  · have := h.b12; rw [e, h.b9] at this; simp at this
  · have := h.b12; rw [e, h.bs] at this; simp at this
  · have := h.b12; rw [e, h.b11] at this; simp at this
/-- seen is stored. -/
theorem V1.set (h : V1 W0 W p B5 B9 g Bs B11 B12 Y offs n d) (hg : B12 ≠ g) (m : Nat) : V1 W0 (W.setCell ⟨B12, 0, none⟩ (.int .i64 (m : Int))) p B5 B9 g Bs B11 B12 Y offs m d ∧ Keeps W (W.setCell ⟨B12, 0, none⟩ (.int .i64 (m : Int))) (fun i => i = B12) := by
  obtain ⟨s1, k⟩ := set_one (v := .int .i64 (m : Int)) h.b12
  obtain ⟨n1, n2, n3, n4⟩ := h.ne (t := 0) (c := #[])
  refine ⟨⟨h.rg.keep k (fun i e => Or.inr (Or.inr (Or.inr (Or.inr (Or.inr (Or.inl e)))))) (fun i x => ⟨Or.inl x, Nat.lt_of_lt_of_le (h.rg.xs i x).2 k.size⟩), k.blkF h.b5 (fun e => n1 e.symm), k.blkF h.b9 (fun e => n2 e.symm), k.blkF h.bg (fun e => hg e.symm), k.blkF h.bs (fun e => n3 e.symm), k.blkF h.b11 (fun e => n4 e.symm), s1⟩, k⟩
theorem V1.putLoop (h : V1 W0 W p B5 B9 g Bs B11 B12 Y offs n d) {l : Nat} {r : Loop} (hl : W.heap[l]? = some (.loop r)) (hw : W0.heap.size ≤ l) (o : Obj) : V1 W0 (W.putObj l o) p B5 B9 g Bs B11 B12 Y offs n d := by
  have k : Keeps W (W.putObj l o) (fun i => i = l) := (Keeps.ofGrown (grownBy_putObj' W l o)).mono (fun i _ e => by cases e; rfl)
  have hne : ∀ {b : Nat} {c : Array Value} {t : TypeId}, W.heap[b]? = some (.cells c t) → ¬ b = l := fun hb e => by rw [e, hl] at hb; cases hb
  exact ⟨h.rg.putLoop hl hw o, k.blkF h.b5 (hne h.b5), k.blkF h.b9 (hne h.b9), k.blkF h.bg (hne h.bg), k.blkF h.bs (hne h.bs), k.blkF h.b11 (hne h.b11), k.blkF h.b12 (hne h.b12)⟩
end
end Go.Proofs.Yteglefnfnkgpcaa
/-
  ArenaRange: its list beside the variables; two numbers appended.
-/
namespace Go.Proofs.Yteglefnfnkgpcaa
open Go.RowKit Go.Shelf
set_option linter.unusedVariables false

/-- Two numbers more. -/
theorem push2 {W : World} {n0 : Nat} {v : Value} {ys : List Int} (x y : Int) (hrow : W.ownsRow n0 3 1 v ys.length (ys.map cellI)) (hn : ys.length ≤ 1000) (h0 : n0 ≤ W.heap.size) :
    ∃ g cap w2, (∀ ty, (Builtin.append_ #[28, 28] ty #[v, .slice (some ⟨W.heap.size, 0, none⟩) 2 2]).run Try.prog (W.alloc (.cells #[.int .i64 x, .int .i64 y] 3)) = .ok (.slice (some ⟨g, 0, none⟩) (ys.length + 2) cap) w2) ∧
      w2.ownsRow n0 3 1 (.slice (some ⟨g, 0, none⟩) (ys.length + 2) cap) (ys ++ [x, y]).length ((ys ++ [x, y]).map cellI) ∧ Keeps W w2 (fun i => v.ownBlock = some i) ∧ (v.ownBlock = some g ∨ W.heap.size ≤ g) := by
  have hi : (Try.prog.info? 3).map (fun i => (i.zero, i.size, i.bytes)) = some (some (.int .i64 0), 1, 8) := by kernel_rfl
  obtain ⟨i, q1, q2, q3, q4⟩ := info_parts hi
  obtain ⟨v', w2, hr, hown, hgr, hnil, hloc⟩ := run_append_own_at (P := Try.prog) (W.alloc (.cells #[.int .i64 x, .int .i64 y] 3)) n0 28 0 3 i (.int .i64 0) 1 8 Try.underlying28 q1 q2 q3 q4 rfl (by omega) v ys.length (ys.map cellI) (hrow.alloc _) ⟨W.heap.size, 0, none⟩ 2 2 [.int .i64 x, .int .i64 y] rfl (cell_two_new _ _ _ _)
    (by simp [Value.oneCell']) (by simp only [maxLen]; omega) (by omega) (by simp; omega)
  have K : Keeps W w2 (fun i => v.ownBlock = some i) := ((Keeps.refl W _).alloc _).trans (Keeps.ofGrown hgr) (fun _ _ e => e)
  obtain ⟨hl, hh | ⟨g', cap', cur', e1, g2, r⟩⟩ := id hown
  · exact absurd (hnil.1 hh.1).2 (by simp)
  · subst e1
    refine ⟨g', cap', w2, fun ty => hr, ?_, K, ?_⟩
    · rw [List.length_append, List.map_append]
      exact hown
    · rcases hloc with e | e
      · exact Or.inl (by rw [← e]; rfl)
      · have e' : g' = W.heap.size + 1 := by simpa [Value.ownBlock] using e
        exact Or.inr (by omega)

/-- The statement's list l beside its variables. -/
structure LV (W0 W : World) (p B5 B9 g Bs B11 B12 B13 : Nat) (Y : Nat → Prop) (offs : List Int) (n : Nat) (d : AD) (v : Value) (ys : List Int) : Prop where
  v1 : V1 W0 W p B5 B9 g Bs B11 B12 (fun k => Y k ∨ k = B13 ∨ v.ownBlock = some k) offs n d
  b13 : W.heap[B13]? = some (.cells #[v] 28)
  row : W.ownsRow (B13 + 1) 3 1 v ys.length (ys.map cellI)
section
variable {W0 W W2 : World} {p B5 B9 g Bs B11 B12 B13 : Nat} {Y Y' : Nat → Prop} {offs : List Int} {n : Nat} {d d' : AD} {v : Value} {ys : List Int}
theorem LV.ylt (h : LV W0 W p B5 B9 g Bs B11 B12 B13 Y offs n d v ys) : ∀ i, Y i → i < W.heap.size := fun i y => (h.v1.rg.xs i (Or.inr (Or.inr (Or.inr (Or.inr (Or.inr (Or.inr (Or.inl y)))))))).2
theorem LV.more (h : LV W0 W p B5 B9 g Bs B11 B12 B13 Y offs n d v ys) (k : Keeps W W2 (fun _ => False)) (hY : ∀ i, Y' i → (Y i ∨ W.heap.size ≤ i) ∧ i < W2.heap.size) : LV W0 W2 p B5 B9 g Bs B11 B12 B13 Y' offs n d v ys := by
  refine ⟨h.v1.more k (fun i x => ?_), k.blk h.b13, ownsRow_keeps h.row k (fun _ _ e => e)⟩
  have up : ∀ {j : Nat}, j < W.heap.size → j < W2.heap.size := fun hj => Nat.lt_of_lt_of_le hj k.size
  rcases x with x | x | x
  · refine ⟨?_, (hY i x).2⟩
    rcases (hY i x).1 with y | y
    · exact Or.inl (Or.inr (Or.inr (Or.inr (Or.inr (Or.inr (Or.inr (Or.inl y)))))))
    · exact Or.inr y
  · exact ⟨Or.inl (Or.inr (Or.inr (Or.inr (Or.inr (Or.inr (Or.inr (Or.inr (Or.inl x)))))))), by subst x; exact up (heap_lt h.b13)⟩
  · exact ⟨Or.inl (Or.inr (Or.inr (Or.inr (Or.inr (Or.inr (Or.inr (Or.inr (Or.inr x)))))))), up (h.row.lt i x).2⟩
theorem LV.stay (h : LV W0 W p B5 B9 g Bs B11 B12 B13 Y offs n d v ys) (k : Keeps W W2 (fun _ => False)) : LV W0 W2 p B5 B9 g Bs B11 B12 B13 Y offs n d v ys :=
  h.more k (fun i y => ⟨Or.inl y, Nat.lt_of_lt_of_le (h.ylt i y) k.size⟩)
theorem LV.putLoop (h : LV W0 W p B5 B9 g Bs B11 B12 B13 Y offs n d v ys) {l : Nat} {r : Loop} (hl : W.heap[l]? = some (.loop r)) (hw : W0.heap.size ≤ l) (o : Obj) : LV W0 (W.putObj l o) p B5 B9 g Bs B11 B12 B13 Y offs n d v ys := by
  have k : Keeps W (W.putObj l o) (fun i => i = l) := (Keeps.ofGrown (grownBy_putObj' W l o)).mono (fun i _ e => by cases e; rfl)
  refine ⟨h.v1.putLoop hl hw o, k.blkF h.b13 (fun e => by rw [← e, h.b13] at hl; cases hl), ownsRow_keeps h.row k (fun q hq e => ?_)⟩
  rcases h.row.2 with ⟨rfl, _⟩ | ⟨g', cap, cur, rfl, _, hb, _⟩
  · simp [Value.ownBlock] at hq
  · have e' : g' = q := by simpa [Value.ownBlock] using hq
    rw [e', e, hl] at hb
    cases hb
/-- A counter of its own (in block b) is stored. -/
theorem LV.put (h : LV W0 W p B5 B9 g Bs B11 B12 B13 Y offs n d v ys) {b : Nat} {u : Value} (hb : W.heap[b]? = some (.cells #[u] 3)) (hY : Y b) (hbB : B13 < b) (hlow : B5 < b ∧ B9 < b ∧ g < b ∧ Bs < b ∧ B11 < b ∧ B12 < b) (hv : v.ownBlock ≠ some b) (x : Value) :
    LV W0 (W.setCell ⟨b, 0, none⟩ x) p B5 B9 g Bs B11 B12 B13 Y offs n d v ys ∧ Keeps W (W.setCell ⟨b, 0, none⟩ x) (fun i => i = b) ∧ (W.setCell ⟨b, 0, none⟩ x).heap[b]? = some (.cells #[x] 3) := by
  obtain ⟨s1, k⟩ := set_one (v := x) hb
  obtain ⟨l1, l2, l3, l4, l5, l6⟩ := hlow
  refine ⟨⟨h.v1.other k (fun i e => ⟨Or.inl (by rw [e]; exact hY), by omega, by omega, by omega, by omega, by omega, by omega⟩) (fun i y => ⟨Or.inl y, ?_⟩), k.blkF h.b13 (by omega), ownsRow_keeps h.row k (fun q hq e => hv (by rw [hq, e]))⟩, k, s1⟩
  exact Nat.lt_of_lt_of_le (h.v1.rg.xs i (Or.inr (Or.inr (Or.inr (Or.inr (Or.inr (Or.inr y))))))).2 k.size
/-- Two numbers are appended and l is stored. -/
theorem LV.push (h : LV W0 W p B5 B9 g Bs B11 B12 B13 Y offs n d v ys) (hlow : B5 < B13 ∧ B9 < B13 ∧ g < B13 ∧ Bs < B13 ∧ B11 < B13 ∧ B12 < B13) (hn : ys.length ≤ 1000) (x y : Int) :
    ∃ g' cap w2, (∀ ty, (Builtin.append_ #[28, 28] ty #[v, .slice (some ⟨W.heap.size, 0, none⟩) 2 2]).run Try.prog (W.alloc (.cells #[.int .i64 x, .int .i64 y] 3)) = .ok (.slice (some ⟨g', 0, none⟩) (ys.length + 2) cap) w2) ∧
      w2.heap[B13]? = some (.cells #[v] 28) ∧
      LV W0 (w2.setCell ⟨B13, 0, none⟩ (.slice (some ⟨g', 0, none⟩) (ys.length + 2) cap)) p B5 B9 g Bs B11 B12 B13 Y offs n d (.slice (some ⟨g', 0, none⟩) (ys.length + 2) cap) (ys ++ [x, y]) ∧
      Keeps W (w2.setCell ⟨B13, 0, none⟩ (.slice (some ⟨g', 0, none⟩) (ys.length + 2) cap)) (fun i => v.ownBlock = some i ∨ i = B13) ∧
      (w2.setCell ⟨B13, 0, none⟩ (.slice (some ⟨g', 0, none⟩) (ys.length + 2) cap)).heap[B13]? = some (.cells #[.slice (some ⟨g', 0, none⟩) (ys.length + 2) cap] 28) := by
  obtain ⟨l1, l2, l3, l4, l5, l6⟩ := hlow
  have hB := heap_lt h.b13
  obtain ⟨g', cap, w2, hr, hrow, kk, hg⟩ := push2 x y h.row hn (by omega)
  have hvB : ∀ i, v.ownBlock = some i → B13 + 1 ≤ i := fun i e => (h.row.lt i e).1
  have h13 := kk.blkF h.b13 (fun e => by have := hvB _ e; omega)
  obtain ⟨s1, k⟩ := set_one (v := .slice (some ⟨g', 0, none⟩) (ys.length + 2) cap) h13
  have K : Keeps W (w2.setCell ⟨B13, 0, none⟩ (.slice (some ⟨g', 0, none⟩) (ys.length + 2) cap)) (fun i => v.ownBlock = some i ∨ i = B13) := (kk.mono (fun _ _ e => Or.inl e)).trans (k.mono (fun _ _ e => Or.inr e)) (fun _ _ e => e)
  have hrow2 := ownsRow_keeps hrow k (fun q hq e => by
    have e' : g' = q := by simpa [Value.ownBlock] using hq
    have := (hrow.lt g' rfl).1
    omega)
  refine ⟨g', cap, w2, hr, h13, ⟨?_, s1, hrow2⟩, K, s1⟩
  refine h.v1.other K (fun i e => ?_) (fun i y => ?_)
  · rcases e with e | e
    · have := hvB i e
      exact ⟨Or.inr (Or.inr e), by omega, by omega, by omega, by omega, by omega, by omega⟩
    · exact ⟨Or.inr (Or.inl e), by omega, by omega, by omega, by omega, by omega, by omega⟩
  · rcases y with y | y | y
    · exact ⟨Or.inl (Or.inl y), Nat.lt_of_lt_of_le (h.ylt i y) K.size⟩
    · exact ⟨Or.inl (Or.inr (Or.inl y)), by subst y; exact Nat.lt_of_lt_of_le hB K.size⟩
    · have e' : g' = i := by simpa [Value.ownBlock] using y
      subst e'
      refine ⟨?_, (hrow2.lt g' rfl).2⟩
      rcases hg with e | e
      · exact Or.inl (Or.inr (Or.inr e))
      · exact Or.inr e
theorem LV.cells {so : Option Addr} {m c : Nat} (h : LV W0 W p B5 B9 g Bs B11 B12 B13 Y offs n d (.slice so m c) ys) : m = ys.length ∧ ∀ j (hj : j < ys.length), ∃ b, so = some ⟨b, 0, none⟩ ∧ W.cell? ⟨b, 0 + j, none⟩ = some (.int .i64 ys[j]) := by
  rcases h.row.2 with ⟨e, h2⟩ | ⟨g', cap, cur, e, _, hb, _⟩
  · injection e with e1 e2 e3
    exact ⟨by omega, fun j hj => by omega⟩
  · injection e with e1 e2 e3
    subst e1 e2 e3
    exact ⟨rfl, fun j hj => ⟨g', rfl, row_cells h.row j hj⟩⟩
theorem LV.form (h : LV W0 W p B5 B9 g Bs B11 B12 B13 Y offs n d v ys) : ∃ so c, v = .slice so ys.length c := by
  rcases h.row.2 with ⟨e, h2⟩ | ⟨g', cap, cur, e, _⟩
  · exact ⟨none, 0, by rw [e, h2]⟩
  · exact ⟨_, _, e⟩
end
theorem app_runIn {F : Fence} {n : Nat} {P : Program} (w : World) {ops : Array Oper} {rest : List Oper} {o : Oper} {a : Act} {Q : Exit → Act → World → Prop}
    (hgd : o.guard = none) (s x : Operand) (t : TypeId) (hop : o.op = Op.call { callee := Callee.builtin Builtin.append, args := #[s, x], argTypes := #[t, t] }) {v u v' : Value} {w' : World} (hs : a.eval s = v) (hx : a.eval x = u)
    (hrun : ∀ ty, (Builtin.append_ #[t, t] ty #[v, u]).run P w = .ok v' w') (hK : wpListIn F n P ops Q rest (a.put o.dst v') w') : wpListIn F n P ops Q (o :: rest) a w := by
  refine wpListIn_plain hgd fun K hK' => ?_
  unfold Oper.wpIn
  refine ⟨?_, ?_⟩
  · simp [Oper.about, hop, resolve, Target.leads, Sem.run_pure]
  · rw [Oper.semAt_plain F _ _ (by rw [hop]; intro c hc'; cases hc')]
    simp [execOp, hop, resolve, invoke, builtin, hs, hx, hrun, Result.andThen]
    exact hK' _ _ hK
end Go.Proofs.Yteglefnfnkgpcaa
/-
  ArenaRange: what stays beside its list; the sum of the live blocks.
-/
namespace Go.Proofs.Yteglefnfnkgpcaa
open Go.RowKit Go.Shelf
set_option linter.unusedVariables false

section
variable {W0 W W2 : World} {p B5 B9 g Bs B11 B12 B13 : Nat} {Y Y' : Nat → Prop} {offs : List Int} {n : Nat} {d d' : AD} {v : Value} {ys : List Int}
theorem LV.apart (h : LV W0 W p B5 B9 g Bs B11 B12 B13 Y offs n d v ys) {k : Nat} {o : Obj} (hk : W.heap[k]? = some o) (ho : o.isCells = false) : ¬ (v.ownBlock = some k ∨ k = B13) := by
  rintro (e | e)
  · rcases h.row.2 with ⟨rfl, _⟩ | ⟨g', cap, cur, rfl, _, hb, _⟩
    · simp [Value.ownBlock] at e
    · have e' : g' = k := by simpa [Value.ownBlock] using e
      rw [e', hk] at hb
      injection hb with hb
      rw [hb] at ho
      cases ho
  · have hb := h.b13
    rw [← e, hk] at hb
    injection hb with hb
    rw [hb] at ho
    cases ho
theorem LV.parts (h : LV W0 W p B5 B9 g Bs B11 B12 B13 Y offs n d v ys) (K : Keeps W W2 (fun i => v.ownBlock = some i ∨ i = B13)) : PartsStay W W2 := fun q cs e => by
  refine (K.block q (heap_lt e) ?_).trans e
  rintro (e1 | e1)
  · rcases h.row.2 with ⟨rfl, _⟩ | ⟨g', cap, cur, rfl, _, hb, _⟩
    · simp [Value.ownBlock] at e1
    · have e' : g' = q := by simpa [Value.ownBlock] using e1
      rw [e', e] at hb
      simp at hb
  · have hb := h.b13
    rw [← e1, e] at hb
    simp at hb
/-- Another counter is no block of parts. -/
theorem one_parts {b : Nat} {u : Value} (hb : W.heap[b]? = some (.cells #[u] 3)) (K : Keeps W W2 (fun i => i = b)) : PartsStay W W2 := fun q cs e => by
  refine (K.block q (heap_lt e) (fun e1 => ?_)).trans e
  subst e1
  rw [hb] at e
  simp at e
end
theorem put_blkA {W : World} {l q : Nat} {o o' : Obj} (h : W.heap[q]? = some o') (hne : q ≠ l) : (W.putObj l o).heap[q]? = some o' :=
  ((grownBy_putObj' W l o).block q (Array.getElem?_eq_some_iff.1 h).1 (fun e => hne (by cases e; rfl))).trans h
theorem flat_take {l : List (Nat × Nat)} {k : Nat} {x : Nat × Nat} (h : l[k]? = some x) : flatOf (l.take (k + 1)) = flatOf (l.take k) ++ [(x.1 : Int), (x.2 : Int)] := by
  obtain ⟨hk, e⟩ := List.getElem?_eq_some_iff.1 h
  rw [List.take_succ_eq_append_getElem hk, e, flatOf_snoc]
/-- The bytes of blocks. -/
def sumB (l : List (Nat × Nat)) : Nat := (l.map (·.2)).sum
theorem sumB_take {l : List (Nat × Nat)} {k : Nat} (h : k < l.length) : sumB (l.take (k + 1)) = sumB (l.take k) + l[k].2 := by
  unfold sumB
  rw [List.take_succ_eq_append_getElem h, List.map_append, List.sum_append]
  rfl
theorem sumB_le {l : List (Nat × Nat)} (k : Nat) : sumB (l.take k) ≤ sumB l := by
  induction l generalizing k with
  | nil => simp [sumB]
  | cons x r ih =>
    cases k with
    | zero => simp [sumB]
    | succ k =>
      have := ih k
      simp [sumB] at this ⊢
      omega
theorem lives_lv {d : AD} (hF : d.Fine) {y : Nat × Nat} (hy : y ∈ livesOf d.L d.lv) : d.lv (y.1 : Int) = some (y.2 : Int) := by
  obtain ⟨h1, h2⟩ := List.mem_filter.1 hy
  obtain ⟨s, hs⟩ := Option.isSome_iff_exists.1 h2
  obtain ⟨o, n, ho, rfl, hm⟩ := hF.live _ _ hs
  have ho' : y.1 = o := by omega
  subst ho'
  have hr := (tiles_rise hF.tiles).2
  have : (y.1, n) = y := by
    refine Classical.byContradiction fun hne => ?_
    have hp := hF.tiles.pos
    rcases List.Pairwise.forall_of_forall_of_flip (R := fun x z => x ≠ z → x.1 + x.2 ≤ z.1 ∨ z.1 + z.2 ≤ x.1) (fun x hx hx' => absurd rfl hx') (hr.imp (fun h _ => Or.inl h)) (hr.imp (fun h _ => Or.inr h)) hm h1 hne with h | h
    · have := hp _ hm
      simp at h this
      omega
    · have := hp _ h1
      simp at h this
      omega
  rw [hs, ← this]
/-- Whatever some temporaries hold. -/
theorem gen_tmps {P : Array Value → Prop} (l : List Nat) (t : Array Value) (h : ∀ us : Nat → Value, P (l.foldl (fun t i => t.setIfInBounds i (us i)) t)) : P t := by
  have hs : ∀ i, t.setIfInBounds i (t.getD i undef) = t := fun i => by
    refine Array.ext (by simp) (fun j h1 h2 => ?_)
    rw [Array.getElem_setIfInBounds]
    split
    · rename_i e
      subst e
      simp [Array.getD, h2]
    · rfl
  have hl : ∀ l : List Nat, l.foldl (fun t' i => t'.setIfInBounds i (t.getD i undef)) t = t := fun l => by
    induction l with
    | nil => rfl
    | cons i r ih => rw [List.foldl_cons, hs]; exact ih
  have := h (fun i => t.getD i undef)
  rw [hl] at this
  exact this
/-- A piece of code that ends as usual, leaves the world, and turns some temporaries; in one of them lies v. -/
def GenPost (l : List Nat) (k : Nat) (v : Value) (t : Array Value) (D : List Deferred) (W : World) (e : Exit) (a : Act) (w : World) : Prop :=
  e = .normal ∧ w = W ∧ ∃ us : Nat → Value, a = ⟨(l.foldl (fun t i => t.setIfInBounds i (us i)) t).setIfInBounds k v, D⟩
theorem GenPost.mk {l : List Nat} {k : Nat} {v : Value} {t tm : Array Value} {D : List Deferred} {W : World} (h : tm = (l.foldl (fun t i => t.setIfInBounds i (tm.getD i undef)) t).setIfInBounds k v) : GenPost l k v t D W .normal ⟨tm, D⟩ W :=
  ⟨rfl, rfl, fun i => tm.getD i undef, by rw [← h]⟩
theorem gen_wp {P : Program} {C : Code} {Q : Exit → Act → World → Prop} {t : Array Value} {D : List Deferred} {W : World} (l : List Nat) (k : Nat) (v : Value) (h1 : C.wp P (GenPost l k v t D W) ⟨t, D⟩ W)
    (h2 : ∀ us : Nat → Value, Q .normal ⟨(l.foldl (fun t i => t.setIfInBounds i (us i)) t).setIfInBounds k v, D⟩ W) : C.wp P Q ⟨t, D⟩ W :=
  wp_mono h1 (fun e a' w' ⟨e1, e2, us, e3⟩ => by
    subst e1 e2 e3
    exact h2 us)
end Go.Proofs.Yteglefnfnkgpcaa
