/-
  script: ScriptLists' marked as data: the script that is marked, beside what was put behind its two rows.
-/
import Derived.Test.YtfpiibccggjjpaaDoorHSL1
import Derived.Test.YtfpiibccggjjpaaDoorHSL2
namespace Go.Proofs.YtfpiibccggjjpaaDoor
open Go.RowKit
set_option linter.unusedVariables false
def upM (M : Nat → Bool → Bool) (i : Nat) (b : Bool) : Nat → Bool → Bool := fun j c => if j = i ∧ c = b then true else M j c
theorem upM_same {M : Nat → Bool → Bool} {i : Nat} {b : Bool} : upM M i b i b = true := by simp [upM]
theorem upM_other {M : Nat → Bool → Bool} {i j : Nat} {b c : Bool} (h : ¬ (j = i ∧ c = b)) : upM M i b j c = M j c := by
  unfold upM
  rw [if_neg h]
theorem ovCells_set : ∀ (os : List Ovr) (i : Nat) (hi : i < os.length) (o : Ovr), ovCells (os.set i o) = ((ovCells os).set (i * 2) (.string o.1)).set (i * 2 + 1) (.int .u64 (o.2 : Int))
  | [], i, hi, _ => absurd hi (Nat.not_lt_zero _)
  | a :: t, 0, _, o => rfl
  | a :: t, i + 1, hi, o => by
    have := ovCells_set t i (Nat.lt_of_succ_lt_succ hi) o
    rw [show (i + 1) * 2 = i * 2 + 2 by omega, show i * 2 + 2 + 1 = i * 2 + 1 + 2 by omega]
    show Value.string a.1 :: Value.int .u64 (a.2 : Int) :: ovCells (t.set i o) = _
    rw [this]
    rfl
/-- A script whose lists are marked. -/
structure MaS (w : World) (lo bt : Nat) (n : Int) (so sc : Option Addr) (no co nc cc : Nat) (S : Nat → Prop) (os : List Ovr) (L : List CmV) (W : World) : Prop where
  box : W.heap[bt]? = some (.cells #[.int .i64 n, .slice so no co, .slice sc nc cc] 25)
  ol : os.length = no
  ll : L.length = nc
  ov : W.ownsRow lo 49 2 (.slice so no co) no (ovCells os)
  rows : MkS lo (.slice sc nc cc) L W
  keeps : Keeps w W S
  low : lo ≤ W.heap.size
  sv : ∀ g, (Value.slice so no co).ownBlock = some g → g < w.heap.size → S g
  sk : ∀ g, (Value.slice sc nc cc).ownBlock = some g → g < w.heap.size → S g
  sl : ∀ j (h : j < L.length) b g, (lv b L[j]).ownBlock = some g → g < w.heap.size → S g
section
variable {w W W' : World} {lo bt : Nat} {n : Int} {so sc : Option Addr} {no co nc cc : Nat} {S : Nat → Prop} {os : List Ovr} {L : List CmV}
theorem MaS.stay (h : MaS w lo bt n so sc no co nc cc S os L W) (k : Keeps W W' (fun _ => False)) : MaS w lo bt n so sc no co nc cc S os L W' :=
  ⟨k.blk8 h.box, h.ol, h.ll, ownsRow_keeps h.ov k (fun _ _ e => e), h.rows.keeps k, h.keeps.trans k (fun _ _ e => e.elim), Nat.le_trans h.low k.size, h.sv, h.sk, h.sl⟩
/-- One override is another. -/
theorem MaS.setOv {go : Nat} (h : MaS w lo bt n (some ⟨go, 0, none⟩) sc no co nc cc S os L W) {i : Nat} (hi : i < no) (s : ByteArray) (m : Nat) : MaS w lo bt n (some ⟨go, 0, none⟩) sc no co nc cc S (os.set i (s, m)) L ((W.setCell ⟨go, i * 2, none⟩ (.string s)).setCell ⟨go, i * 2 + 1, none⟩ (.int .u64 (m : Int))) := by
  obtain ⟨s1, g1⟩ := h.ov.stored (i * 2) (.string s)
  obtain ⟨s2, g2⟩ := s1.stored (i * 2 + 1) (.int .u64 (m : Int))
  have k : Keeps W ((W.setCell ⟨go, i * 2, none⟩ (.string s)).setCell ⟨go, i * 2 + 1, none⟩ (.int .u64 (m : Int))) (fun q => q = go) := ((Keeps.ofGrown g1).mono (S1 := fun q => q = go) (fun q hq e => by injection e with e; exact e.symm)).trans ((Keeps.ofGrown g2).mono (S1 := fun q => q = go) (fun q hq e => by injection e with e; exact e.symm)) (fun _ _ e => e)
  obtain ⟨-, cur, hg⟩ := ownsRow_block h.ov (g := go) rfl
  have hne : ∀ {e : TypeId} {size : Nat} {v : Value} {n : Nat} {xs : List Value}, W.ownsRow lo e size v n xs → 49 ≠ e → ((W.setCell ⟨go, i * 2, none⟩ (.string s)).setCell ⟨go, i * 2 + 1, none⟩ (.int .u64 (m : Int))).ownsRow lo e size v n xs := fun {e size v n xs} q hq => ownsRow_keeps q k (own_ne2 q hg hq)
  have hb : ¬ bt = go := fun e => by
    have := h.box
    rw [e, hg] at this
    injection this with this
    injection this with _ e2 _
    exact absurd e2 (by decide)
  refine ⟨(k.block _ (heap_lt h.box) hb).trans h.box, by rw [List.length_set]; exact h.ol, h.ll, ?_, ⟨hne h.rows.cs (by decide), fun j hj b => hne (h.rows.each j hj b) (by decide), h.rows.ap⟩, h.keeps.trans k (fun q hq e => by rw [e] at hq ⊢; exact h.sv go rfl hq), Nat.le_trans h.low k.size, h.sv, h.sk, h.sl⟩
  rw [ovCells_set os i (by rw [h.ol]; exact hi)]
  exact s2
/-- One list of numbers was written over. -/
theorem MaS.list (h : MaS w lo bt n so sc no co nc cc S os L W) {i : Nat} (hi : i < L.length) {b : Bool} {l : List Int} (hl : IntsO lo W' (lv b L[i]) l) (k : Keeps W W' (fun q => (lv b L[i]).ownBlock = some q)) : MaS w lo bt n so sc no co nc cc S os (L.set i (setL b l (lv b L[i]) L[i])) W' := by
  have hb : ¬ (lv b L[i]).ownBlock = some bt := own_box (h.rows.each i hi b) h.box (by decide)
  refine ⟨(k.block _ (heap_lt h.box) hb).trans h.box, h.ol, by rw [List.length_set]; exact h.ll, ownsRow_keeps h.ov k (own_two (h.rows.each i hi b) h.ov (by decide)), h.rows.list hi hl k, h.keeps.trans k (fun q hq e => h.sl i hi b q e hq), Nat.le_trans h.low k.size, h.sv, h.sk, fun j hj d g hg hlt => ?_⟩
  rw [List.length_set] at hj
  rw [List.getElem_set] at hg
  by_cases e : i = j
  · subst e
    rw [if_pos rfl, setL_lv] at hg
    by_cases hd : d = b
    · rw [if_pos hd] at hg
      exact h.sl i hi b g hg hlt
    · rw [if_neg hd] at hg
      exact h.sl i hi d g hg hlt
  · rw [if_neg e] at hg
    exact h.sl j hj d g hg hlt
/-- A command's Op was set. -/
theorem MaS.op {gc : Nat} (h : MaS w lo bt n so (some ⟨gc, 0, none⟩) no co nc cc S os L W) {i : Nat} (hi : i < L.length) (o : Int) : MaS w lo bt n so (some ⟨gc, 0, none⟩) no co nc cc S os (L.set i ⟨{ L[i].c with op := o }, L[i].fs, L[i].hs⟩) (W.setCell ⟨gc, i * 9, none⟩ (.int .i64 o)) := by
  obtain ⟨m1, k⟩ := h.rows.op h.ll hi o
  obtain ⟨-, cur, hg⟩ := ownsRow_block h.rows.cs (g := gc) rfl
  have hb : ¬ bt = gc := fun e => by
    have := h.box
    rw [e, hg] at this
    injection this with this
    injection this with _ e2 _
    exact absurd e2 (by decide)
  refine ⟨(k.block _ (heap_lt h.box) hb).trans h.box, h.ol, by rw [List.length_set]; exact h.ll, ownsRow_keeps h.ov k (own_ne2 h.ov hg (by decide)), m1, h.keeps.trans k (fun q hq e => by rw [e] at hq ⊢; exact h.sk gc rfl hq), Nat.le_trans h.low k.size, h.sv, h.sk, fun j hj d g hg2 hlt => ?_⟩
  rw [List.length_set] at hj
  rw [List.getElem_set] at hg2
  by_cases e : i = j
  · subst e
    rw [if_pos rfl] at hg2
    exact h.sl i hi d g (by cases d <;> exact hg2) hlt
  · rw [if_neg e] at hg2
    exact h.sl j hj d g hg2 hlt
end
def mk77 : List Value := [.int .i64 77, .int .i64 0, .slice none 0 0, .slice none 0 0, .int .u64 0, .int .u64 0, .int .i64 0, .string ⟨#[]⟩, .string ⟨#[]⟩]
def mkMore : List Value := [.string ⟨#[109, 111, 114, 101]⟩, .int .u64 1]
/-- The same with the two longer rows beside it. -/
structure MaT (w : World) (lo bt : Nat) (n : Int) (so sc : Option Addr) (no co nc cc : Nat) (S : Nat → Prop) (os : List Ovr) (L : List CmV) (go2 co2 gc2 cc2 : Nat) (W : World) : Prop where
  s : MaS w lo bt n so sc no co nc cc S os L W
  ov2 : W.ownsRow lo 49 2 (.slice (some ⟨go2, 0, none⟩) (no + 1) co2) (no + 1) (ovCells os ++ mkMore)
  cm2 : ∃ xs : List Value, xs.length = nc * 9 ∧ W.ownsRow lo 33 9 (.slice (some ⟨gc2, 0, none⟩) (nc + 1) cc2) (nc + 1) (xs ++ mk77)
section
variable {w W W' W1 : World} {lo bt : Nat} {n : Int} {so sc : Option Addr} {no co nc cc : Nat} {S : Nat → Prop} {os : List Ovr} {L : List CmV} {go2 co2 gc2 cc2 : Nat}
theorem MaT.stay (h : MaT w lo bt n so sc no co nc cc S os L go2 co2 gc2 cc2 W) (k : Keeps W W' (fun _ => False)) : MaT w lo bt n so sc no co nc cc S os L go2 co2 gc2 cc2 W' := by
  obtain ⟨xs, h1, h2⟩ := h.cm2
  exact ⟨h.s.stay k, ownsRow_keeps h.ov2 k (fun _ _ e => e), xs, h1, ownsRow_keeps h2 k (fun _ _ e => e)⟩
/-- One list is longer, its new slice laid into its command. -/
theorem MaT.put {gc : Nat} (h : MaT w lo bt n so (some ⟨gc, 0, none⟩) no co nc cc S os L go2 co2 gc2 cc2 W) {i : Nat} (hi : i < L.length) {b : Bool} {l : List Int} {v : Value} (hl : IntsO lo W1 v l) (k1 : Keeps W W1 (fun q => (lv b L[i]).ownBlock = some q)) (hloc : v.ownBlock = (lv b L[i]).ownBlock ∨ ∃ g, v.ownBlock = some g ∧ W.heap.size ≤ g) : MaT w lo bt n so (some ⟨gc, 0, none⟩) no co nc cc S os (L.set i (setL b l v L[i])) go2 co2 gc2 cc2 (W1.setCell ⟨gc, i * 9 + (2 + num b), none⟩ v) := by
  obtain ⟨m1, k⟩ := h.s.rows.put h.s.ll hi hl k1 hloc
  have hr := h.s.rows.each i hi b
  have cs1 := ownsRow_keeps h.s.rows.cs k1 (own_two hr h.s.rows.cs (by decide))
  have ov1 := ownsRow_keeps h.s.ov k1 (own_two hr h.s.ov (by decide))
  have ov21 := ownsRow_keeps h.ov2 k1 (own_two hr h.ov2 (by decide))
  obtain ⟨xs, hx, hc2⟩ := h.cm2
  have hc21 := ownsRow_keeps hc2 k1 (own_two hr hc2 (by decide))
  have hbx : ¬ (lv b L[i]).ownBlock = some bt := own_box hr h.s.box (by decide)
  have box1 := (k1.block _ (heap_lt h.s.box) hbx).trans h.s.box
  obtain ⟨-, cur, hg⟩ := ownsRow_block cs1 (g := gc) rfl
  have hb : ¬ bt = gc := fun e => by
    have := box1
    rw [e, hg] at this
    injection this with this
    injection this with _ e2 _
    exact absurd e2 (by decide)
  have hp : i * 9 + (2 + num b) < nc * 9 := by
    have := h.s.ll
    have hn : num b ≤ 1 := by cases b <;> simp [num]
    omega
  have hkk : Keeps w (W1.setCell ⟨gc, i * 9 + (2 + num b), none⟩ v) S := (h.s.keeps.trans k1 (fun q hq e => h.s.sl i hi b q e hq)).trans k (fun q hq e => by rw [e] at hq ⊢; exact h.s.sk gc rfl hq)
  refine ⟨⟨(k.block _ (heap_lt box1) hb).trans box1, h.s.ol, by rw [List.length_set]; exact h.s.ll, ownsRow_keeps ov1 k (own_ne2 ov1 hg (by decide)), m1, hkk, Nat.le_trans (Nat.le_trans h.s.low k1.size) k.size, h.s.sv, h.s.sk, fun j hj d g hg2 hlt => ?_⟩, ownsRow_keeps ov21 k (own_ne2 ov21 hg (by decide)), ?_⟩
  · rw [List.length_set] at hj
    rw [List.getElem_set] at hg2
    by_cases e : i = j
    · subst e
      rw [if_pos rfl, setL_lv] at hg2
      by_cases hd : d = b
      · rw [if_pos hd] at hg2
        rcases hloc with q | ⟨g', q, hq⟩
        · exact h.s.sl i hi b g (q.symm.trans hg2) hlt
        · rw [hg2] at q
          injection q with q
          have := h.s.keeps.size
          omega
      · rw [if_neg hd] at hg2
        exact h.s.sl i hi d g hg2 hlt
    · rw [if_neg e] at hg2
      exact h.s.sl j hj d g hg2 hlt
  · by_cases e : gc2 = gc
    · subst e
      obtain ⟨s1, -⟩ := hc21.stored (i * 9 + (2 + num b)) v
      refine ⟨xs.set (i * 9 + (2 + num b)) v, by rw [List.length_set]; exact hx, ?_⟩
      rw [List.set_append_left _ _ (by rw [hx]; exact hp)] at s1
      exact s1
    · exact ⟨xs, hx, ownsRow_keeps hc21 k (fun g q1 q2 => e (by
        have : gc2 = g := by simpa [Value.ownBlock] using q1
        rw [this]; exact q2))⟩
/-- The two appends. -/
theorem MaS.more (h : MaS w lo bt n so sc no co nc cc S os L W) (hn : no ≤ 4194304) :
    ∃ g2 c2 W', (∀ ty, (Builtin.append_ #[22, 22] ty #[.slice so no co, .slice (some ⟨W.heap.size, 0, none⟩) 1 1]).run Tryd.prog (W.alloc (.cells mkMore.toArray 49)) = .ok (.slice (some ⟨g2, 0, none⟩) (no + 1) c2) W') ∧ MaS w lo bt n so sc no co nc cc S os L W' ∧ W'.ownsRow lo 49 2 (.slice (some ⟨g2, 0, none⟩) (no + 1) c2) (no + 1) (ovCells os ++ mkMore) := by
  have kA : Keeps W (W.alloc (.cells mkMore.toArray 49)) (fun _ => False) := (Keeps.refl _ _).alloc _
  have hA := h.stay kA
  obtain ⟨g2, c2, W', hr, ho, ho1, k⟩ := append_two 22 49 _ 2 24 Tryd.underlying22 Tryd.infoOv rfl (by omega) (by omega) hA.ov (p := W.heap.size) (us := mkMore) (heap_alloc_new W _) rfl (by simp [mkMore, Value.oneCell']) (by omega) (by omega) hA.low
  have hb : ¬ (Value.slice so no co).ownBlock = some bt := own_box hA.ov hA.box (by decide)
  exact ⟨g2, c2, W', hr, ⟨(k.block _ (heap_lt hA.box) hb).trans hA.box, h.ol, h.ll, ho1, ⟨ownsRow_keeps hA.rows.cs k (own_two hA.ov hA.rows.cs (by decide)), fun j hj b => ownsRow_keeps (hA.rows.each j hj b) k (own_two hA.ov (hA.rows.each j hj b) (by decide)), h.rows.ap⟩, hA.keeps.trans k (fun q hq e => h.sv q e hq), Nat.le_trans hA.low k.size, h.sv, h.sk, h.sl⟩, ho⟩
theorem MaS.moreC (h : MaS w lo bt n so sc no co nc cc S os L W) (hn : nc ≤ 4194304) {go2 co2 : Nat} (h2 : W.ownsRow lo 49 2 (.slice (some ⟨go2, 0, none⟩) (no + 1) co2) (no + 1) (ovCells os ++ mkMore)) :
    ∃ g2 c2 W', (∀ ty, (Builtin.append_ #[23, 23] ty #[.slice sc nc cc, .slice (some ⟨W.heap.size, 0, none⟩) 1 1]).run Tryd.prog (W.alloc (.cells mk77.toArray 33)) = .ok (.slice (some ⟨g2, 0, none⟩) (nc + 1) c2) W') ∧ MaT w lo bt n so sc no co nc cc S os L go2 co2 g2 c2 W' := by
  have kA : Keeps W (W.alloc (.cells mk77.toArray 33)) (fun _ => False) := (Keeps.refl _ _).alloc _
  have hA := h.stay kA
  have hcs := hA.rows.cs
  rw [h.ll] at hcs
  obtain ⟨g2, c2, W', hr, ho, ho1, k⟩ := append_two 23 33 _ 9 120 Tryd.underlying23 Tryd.infoCm rfl (by omega) (by omega) hcs (p := W.heap.size) (us := mk77) (heap_alloc_new W _) rfl (by simp [mk77, Value.oneCell']) (by omega) (by omega) hA.low
  have hb : ¬ (Value.slice sc nc cc).ownBlock = some bt := own_box hcs hA.box (by decide)
  have ho1' : W'.ownsRow lo 33 9 (.slice sc nc cc) L.length (cmCells L) := by rw [h.ll]; exact ho1
  have h2A := ownsRow_keeps h2 kA (fun _ _ e => e)
  exact ⟨g2, c2, W', hr, ⟨(k.block _ (heap_lt hA.box) hb).trans hA.box, h.ol, h.ll, ownsRow_keeps hA.ov k (own_two hcs hA.ov (by decide)), ⟨ho1', fun j hj b => ownsRow_keeps (hA.rows.each j hj b) k (own_two hcs (hA.rows.each j hj b) (by decide)), h.rows.ap⟩, hA.keeps.trans k (fun q hq e => h.sk q e hq), Nat.le_trans hA.low k.size, h.sv, h.sk, h.sl⟩, ownsRow_keeps h2A k (own_two hcs h2A (by decide)), cmCells L, by rw [cmCells_length, h.ll], ho⟩
end
def offB (b : Bool) : Int := if b then 500 else 0
def lastB (b : Bool) : Int := if b then 999 else 499
/-- What is numbered so far. -/
def Mk2 (F : Nat → Bool → Nat) (A : Nat → Bool → Bool) (O : Nat → Bool) (L : List CmV) : Prop := ∀ j (hj : j < L.length), (O j = true → L[j].c.op = -(j : Int)) ∧ ∀ b, (lst b L[j].c).length = F j b ∧ (A j b = true → lst b L[j].c = numN (1000 * (j : Int) + offB b) (F j b))
/-- What is lengthened so far. -/
def Mk4 (F : Nat → Bool → Nat) (A : Nat → Bool → Bool) (L : List CmV) : Prop := ∀ j (hj : j < L.length), L[j].c.op = -(j : Int) ∧ ∀ b, lst b L[j].c = numN (1000 * (j : Int) + offB b) (F j b) ++ (if A j b = true then [1000 * (j : Int) + lastB b] else [])
theorem Mk2.list {F : Nat → Bool → Nat} {A : Nat → Bool → Bool} {O : Nat → Bool} {L : List CmV} (h : Mk2 F A O L) {i : Nat} (hi : i < L.length) (b : Bool) (v : Value) : Mk2 F (upM A i b) O (L.set i (setL b (numN (1000 * (i : Int) + offB b) (lst b L[i].c).length) v L[i])) := by
  intro j hj
  rw [List.length_set] at hj
  rw [List.getElem_set]
  by_cases e : i = j
  · subst e
    rw [if_pos rfl, setL_op]
    refine ⟨(h i hi).1, fun d => ?_⟩
    rw [setL_lst]
    by_cases hd : d = b
    · subst hd
      rw [if_pos rfl, numN_length, ((h i hi).2 d).1]
      exact ⟨rfl, fun _ => rfl⟩
    · rw [if_neg hd, upM_other (fun q => hd q.2)]
      exact (h i hi).2 d
  · rw [if_neg e]
    refine ⟨(h j hj).1, fun d => ?_⟩
    rw [upM_other (fun q => e q.1.symm)]
    exact (h j hj).2 d
theorem Mk2.op {F : Nat → Bool → Nat} {A : Nat → Bool → Bool} {O : Nat → Bool} {L : List CmV} (h : Mk2 F A O L) {i : Nat} (hi : i < L.length) : Mk2 F A (fun j => if j = i then true else O j) (L.set i ⟨{ L[i].c with op := -(i : Int) }, L[i].fs, L[i].hs⟩) := by
  intro j hj
  rw [List.length_set] at hj
  rw [List.getElem_set]
  by_cases e : i = j
  · subst e
    rw [if_pos rfl]
    refine ⟨fun _ => rfl, fun d => ?_⟩
    have := (h i hi).2 d
    cases d <;> exact this
  · rw [if_neg e]
    have e2 : ¬ j = i := fun q => e q.symm
    refine ⟨fun q => (h j hj).1 ?_, (h j hj).2⟩
    dsimp only at q
    rw [if_neg e2] at q
    exact q
theorem Mk2.done {F : Nat → Bool → Nat} {L : List CmV} (h : Mk2 F (fun j _ => decide (j < L.length)) (fun j => decide (j < L.length)) L) : Mk4 F (fun j _ => decide (j < 0)) L := by
  intro j hj
  refine ⟨(h j hj).1 (by simpa using hj), fun b => ?_⟩
  rw [((h j hj).2 b).2 (by simpa using hj)]
  simp
theorem Mk4.list {F : Nat → Bool → Nat} {A : Nat → Bool → Bool} {L : List CmV} (h : Mk4 F A L) {i : Nat} (hi : i < L.length) (b : Bool) (hA : A i b = false) (v : Value) : Mk4 F (upM A i b) (L.set i (setL b (lst b L[i].c ++ [1000 * (i : Int) + lastB b]) v L[i])) := by
  intro j hj
  rw [List.length_set] at hj
  rw [List.getElem_set]
  by_cases e : i = j
  · subst e
    rw [if_pos rfl, setL_op]
    refine ⟨(h i hi).1, fun d => ?_⟩
    rw [setL_lst]
    by_cases hd : d = b
    · subst hd
      rw [if_pos rfl, upM_same, if_pos rfl, (h i hi).2 d, hA]
      simp
    · rw [if_neg hd, upM_other (fun q => hd q.2)]
      exact (h i hi).2 d
  · rw [if_neg e]
    refine ⟨(h j hj).1, fun d => ?_⟩
    rw [upM_other (fun q => e q.1.symm)]
    exact (h j hj).2 d
theorem A_next (i : Nat) : upM (upM (fun j (_ : Bool) => decide (j < i)) i false) i true = fun j _ => decide (j < i + 1) := by
  funext j b
  by_cases e : j = i
  · subst e
    cases b
    · rw [upM_other (fun q => by cases q.2), upM_same]
      simp
    · rw [upM_same]
      simp
  · rw [upM_other (fun q => e q.1), upM_other (fun q => e q.1)]
    by_cases h : j < i
    · rw [decide_eq_true h, decide_eq_true (Nat.lt_succ_of_lt h)]
    · rw [decide_eq_false h, decide_eq_false (by omega)]
theorem O_next (i : Nat) : (fun j => if j = i then true else decide (j < i)) = fun j => decide (j < i + 1) := by
  funext j
  by_cases e : j = i
  · subst e
    simp
  · rw [if_neg e]
    by_cases h : j < i
    · rw [decide_eq_true h, decide_eq_true (Nat.lt_succ_of_lt h)]
    · rw [decide_eq_false h, decide_eq_false (by omega)]
end Go.Proofs.YtfpiibccggjjpaaDoor
