import Derived.Laws.OwnMore
import Derived.Laws.Rows
import Derived.Test.YtfpiibccggjjpaaDoorUn11
/-
  script: copied's loop as data: one list after the other becomes one's own.
-/
namespace Go.Proofs.YtfpiibccggjjpaaDoor
open Go.RowKit
set_option linter.unusedVariables false

/-- A result in a variable of its own. -/
theorem results_cell {P : Program} {fn : Func} {p : Tmp} {ty : TypeId} (h : fn.results = #[.cell p ty]) (tmps : Array Value) (w : World) (b : Nat) {v : Value} (hp : tmps.getD p undef = .pointer (some ⟨b, 0, none⟩)) (hv : (loadVar ty ⟨b, 0, none⟩).run P w = .ok v w) : (results fn tmps).run P w = .ok v w := by
  have hp' : tmps[p]?.getD undef = .pointer (some ⟨b, 0, none⟩) := by simpa using hp
  simp [results, h, hp', asAddr, hv]
def midC (G C : Nat → Bool → Nat) (L : List CmV) (k : Nat) : List CmV := L.mapIdx fun j x => ⟨x.c, if 2 * j < k then rowV G C j false x.c else x.fs, if 2 * j + 1 < k then rowV G C j true x.c else x.hs⟩
theorem midC_length (G C : Nat → Bool → Nat) (L : List CmV) (k : Nat) : (midC G C L k).length = L.length := by simp [midC]
theorem midC_get (G C : Nat → Bool → Nat) (L : List CmV) (k : Nat) {j : Nat} (h : j < (midC G C L k).length) (h2 : j < L.length) : (midC G C L k)[j] = ⟨L[j].c, if 2 * j < k then rowV G C j false L[j].c else L[j].fs, if 2 * j + 1 < k then rowV G C j true L[j].c else L[j].hs⟩ := by
  simp [midC]
theorem midC_zero (G C : Nat → Bool → Nat) (L : List CmV) : midC G C L 0 = L := by
  apply List.ext_getElem
  · simp [midC]
  · intro j h1 h2
    simp [midC]
theorem midC_all (G C : Nat → Bool → Nat) (L : List CmV) : midC G C L (2 * L.length) = newC G C L := by
  apply List.ext_getElem
  · simp [midC, newC]
  · intro j h1 h2
    have h3 : j < L.length := by simpa [midC] using h1
    rw [midC_get _ _ _ _ _ h3]
    simp only [newC, List.getElem_mapIdx]
    rw [if_pos (by omega), if_pos (by omega)]
def upd (G : Nat → Bool → Nat) (i : Nat) (b : Bool) (g : Nat) : Nat → Bool → Nat := fun j c => if j = i ∧ c = b then g else G j c
theorem upd_same (G : Nat → Bool → Nat) (i : Nat) (b : Bool) (g : Nat) : upd G i b g i b = g := by simp [upd]
theorem upd_other (G : Nat → Bool → Nat) {i j : Nat} {b c : Bool} (g : Nat) (h : ¬ (j = i ∧ c = b)) : upd G i b g j c = G j c := by
  unfold upd
  rw [if_neg h]
theorem rowV_same (G C : Nat → Bool → Nat) (i : Nat) (b : Bool) (g c : Nat) (x : CmdD) : rowV (upd G i b g) (upd C i b c) i b x = .slice (some ⟨g, 0, none⟩) (lst b x).length c := by
  simp [rowV, upd_same]
theorem rowV_other (G C : Nat → Bool → Nat) {i j : Nat} {b d : Bool} (g c : Nat) (x : CmdD) (h : ¬ (j = i ∧ d = b)) : rowV (upd G i b g) (upd C i b c) j d x = rowV G C j d x := by
  simp only [rowV, upd_other _ _ h]
/-- One cell of a row of commands is another. -/
theorem cm_set {X Y : List CmV} (hl : X.length = Y.length) {i p : Nat} (hi : i < X.length) (hp : p < 9) {v : Value} (ho : ∀ j (h : j < X.length) (h2 : j < Y.length), j ≠ i → Y[j] = X[j]) (hy : ∀ (h2 : i < Y.length), Y[i].cells = X[i].cells.set p v) : cmCells Y = (cmCells X).set (i * 9 + p) v := by
  apply List.ext_getElem?
  intro q
  have hq : q = q / 9 * 9 + q % 9 := by omega
  have hq9 : q % 9 < 9 := Nat.mod_lt _ (by omega)
  rcases Nat.lt_or_ge (q / 9) X.length with hlt | hge
  · have hlt2 : q / 9 < Y.length := by omega
    have e1 := cmCells_at X (q / 9) hlt (q % 9) hq9
    have e2 := cmCells_at Y (q / 9) hlt2 (q % 9) hq9
    rw [← hq] at e1 e2
    rw [e2, List.getElem?_set]
    by_cases hqi : q / 9 = i
    · subst hqi
      rw [hy hlt2, List.getElem?_set]
      by_cases hqp : q % 9 = p
      · have : q / 9 * 9 + p = q := by omega
        rw [if_pos this, if_pos hqp.symm, if_pos (by simp [CmV.cells]; omega), if_pos (by rw [cmCells_length]; omega)]
      · have : ¬ q / 9 * 9 + p = q := by omega
        rw [if_neg this, if_neg (fun e => hqp e.symm), e1]
    · have : ¬ i * 9 + p = q := by omega
      rw [if_neg this, e1, ho _ hlt hlt2 hqi]
  · rw [List.getElem?_eq_none (by rw [cmCells_length]; omega), List.getElem?_eq_none (by rw [List.length_set, cmCells_length]; omega)]
def num (b : Bool) : Nat := if b then 1 else 0
/-- copied's loop under way: k of the lists are one's own. -/
structure CpI (W0 : World) (n : Int) (os : List Ovr) (L : List CmV) (bt go co gc cc k : Nat) (G C : Nat → Bool → Nat) (W : World) : Prop where
  box : W.heap[bt]? = some (.cells #[.int .i64 n, .slice (some ⟨go, 0, none⟩) os.length co, .slice (some ⟨gc, 0, none⟩) L.length cc] 25)
  ov : W.ownsRow W0.heap.size 49 2 (.slice (some ⟨go, 0, none⟩) os.length co) os.length (ovCells os)
  cm : W.ownsRow W0.heap.size 33 9 (.slice (some ⟨gc, 0, none⟩) L.length cc) L.length (cmCells (midC G C L k))
  row : ∀ i (h : i < L.length) b, 2 * i + num b < k → W.ownsRow W0.heap.size 3 1 (rowV G C i b L[i].c) (lst b L[i].c).length ((lst b L[i].c).map cellI)
  apart : ∀ i j b b', i < L.length → j < L.length → 2 * i + num b < k → 2 * j + num b' < k → G i b = G j b' → i = j ∧ b = b'
  keeps : Keeps W0 W (fun _ => False)
  low : W0.heap.size ≤ bt
theorem Fin1.begin {W0 W : World} {n : Int} {os : List Ovr} {L : List CmV} {bt go co gc cc : Nat} (h : Fin1 W0 n os L bt go co gc cc W) : CpI W0 n os L bt go co gc cc 0 (fun _ _ => 0) (fun _ _ => 0) W :=
  ⟨h.box, h.ov, by rw [midC_zero]; exact h.cm, fun i _ b hk => by omega, fun i j b b' _ _ hk => by omega, h.keeps, h.low⟩
theorem num_inj {i j : Nat} {b c : Bool} (h : 2 * i + num b = 2 * j + num c) : i = j ∧ b = c := by
  cases b <;> cases c <;> simp [num] at h ⊢ <;> omega
theorem CpI.stay {W0 W W' : World} {n : Int} {os : List Ovr} {L : List CmV} {bt go co gc cc k : Nat} {G C : Nat → Bool → Nat} (h : CpI W0 n os L bt go co gc cc k G C W) (q : Keeps W W' (fun _ => False)) : CpI W0 n os L bt go co gc cc k G C W' :=
  ⟨q.blk8 h.box, ownsRow_keeps h.ov q (fun _ _ e => e), ownsRow_keeps h.cm q (fun _ _ e => e), fun i hi b hk => ownsRow_keeps (h.row i hi b hk) q (fun _ _ e => e), h.apart, h.keeps.trans q (fun _ _ e => e), h.low⟩
theorem row_lt {W : World} {base : Nat} {e : TypeId} {size : Nat} {g n c m : Nat} {xs : List Value} (h : W.ownsRow base e size (.slice (some ⟨g, 0, none⟩) n c) m xs) : g < W.heap.size := by
  obtain ⟨-, cur, hc⟩ := ownsRow_block h (g := g) rfl
  exact heap_lt hc
/-- One list more is one's own. -/
theorem CpI.step {W0 W : World} {n : Int} {os : List Ovr} {L : List CmV} {bt go co gc cc i : Nat} {b : Bool} {G C : Nat → Bool → Nat} (h : CpI W0 n os L bt go co gc cc (2 * i + num b) G C W) (hi : i < L.length) {g c : Nat} (hrow : W.ownsRow W0.heap.size 3 1 (.slice (some ⟨g, 0, none⟩) (lst b L[i].c).length c) (lst b L[i].c).length ((lst b L[i].c).map cellI)) (hnew : ∀ j (hj : j < L.length) d, 2 * j + num d < 2 * i + num b → ¬ G j d = g) :
    CpI W0 n os L bt go co gc cc (2 * i + num b + 1) (upd G i b g) (upd C i b c) (W.setCell ⟨gc, i * 9 + (2 + num b), none⟩ (.slice (some ⟨g, 0, none⟩) (lst b L[i].c).length c)) := by
  obtain ⟨s1, s2⟩ := h.cm.stored (i * 9 + (2 + num b)) (.slice (some ⟨g, 0, none⟩) (lst b L[i].c).length c)
  have k : Keeps W (W.setCell ⟨gc, i * 9 + (2 + num b), none⟩ (.slice (some ⟨g, 0, none⟩) (lst b L[i].c).length c)) (fun q => q = gc) := (Keeps.ofGrown s2).mono (fun q hq e => by injection e with e; exact e.symm)
  obtain ⟨-, curc, hgc⟩ := ownsRow_block h.cm (g := gc) rfl
  have hlo : W0.heap.size ≤ gc := (ownsRow_block h.cm (g := gc) rfl).1
  have hold : ∀ j (hj : j < L.length) d, 2 * j + num d < 2 * i + num b → rowV (upd G i b g) (upd C i b c) j d L[j].c = rowV G C j d L[j].c := fun j hj d hk => rowV_other _ _ _ _ _ (fun e => by
    obtain ⟨rfl, rfl⟩ := e
    omega)
  have ec : cmCells (midC (upd G i b g) (upd C i b c) L (2 * i + num b + 1)) = (cmCells (midC G C L (2 * i + num b))).set (i * 9 + (2 + num b)) (.slice (some ⟨g, 0, none⟩) (lst b L[i].c).length c) := by
    refine cm_set (by rw [midC_length, midC_length]) (by rw [midC_length]; exact hi) (by cases b <;> simp [num]) (fun j h1 h2 hne => ?_) (fun h2 => ?_)
    · rw [midC_length] at h1
      rw [midC_get _ _ _ _ _ h1, midC_get _ _ _ _ _ h1, rowV_other _ _ _ _ _ (fun e => hne e.1), rowV_other _ _ _ _ _ (fun e => hne e.1)]
      have e1 : (2 * j < 2 * i + num b + 1) = (2 * j < 2 * i + num b) := by
        apply propext
        cases b <;> simp [num] <;> omega
      have e2 : (2 * j + 1 < 2 * i + num b + 1) = (2 * j + 1 < 2 * i + num b) := by
        apply propext
        cases b <;> simp [num] <;> omega
      simp only [e1, e2]
    · rw [midC_get _ _ _ _ _ hi, midC_get _ _ _ _ _ hi]
      cases b with
      | false =>
        rw [rowV_same]
        simp [num, CmV.cells]
        intro h
        omega
      | true =>
        rw [rowV_same, rowV_other _ _ _ _ _ (fun e => by cases e.2)]
        simp [num, CmV.cells]
        intro h
        omega
  have hne : ¬ bt = gc := fun e => by
    have := h.box
    rw [e, hgc] at this
    injection this with this
    injection this with _ e2 _
    exact absurd e2 (by decide)
  refine ⟨(k.block _ (heap_lt h.box) hne).trans h.box, ownsRow_keeps h.ov k (own_ne h.ov hgc (by decide)), by rw [ec]; exact s1, fun j hj d hk => ?_, fun j1 j2 d1 d2 h1 h2 h3 h4 he => ?_, h.keeps.trans k (fun q hq e => by omega), h.low⟩
  · rcases Nat.lt_or_ge (2 * j + num d) (2 * i + num b) with hlt | hge
    · rw [hold j hj d hlt]
      exact ownsRow_keeps (h.row j hj d hlt) k (own_ne (h.row j hj d hlt) hgc (by decide))
    · obtain ⟨rfl, rfl⟩ := num_inj (show 2 * j + num d = 2 * i + num b by omega)
      rw [rowV_same]
      exact ownsRow_keeps hrow k (own_ne hrow hgc (by decide))
  · rcases Nat.lt_or_ge (2 * j1 + num d1) (2 * i + num b) with hl1 | hg1
    · rcases Nat.lt_or_ge (2 * j2 + num d2) (2 * i + num b) with hl2 | hg2
      · rw [upd_other _ _ (fun e => by obtain ⟨rfl, rfl⟩ := e; omega), upd_other _ _ (fun e => by obtain ⟨rfl, rfl⟩ := e; omega)] at he
        exact h.apart j1 j2 d1 d2 h1 h2 hl1 hl2 he
      · obtain ⟨rfl, rfl⟩ := num_inj (show 2 * j2 + num d2 = 2 * i + num b by omega)
        rw [upd_other _ _ (fun e => by obtain ⟨rfl, rfl⟩ := e; omega), upd_same] at he
        exact absurd he (hnew j1 h1 d1 hl1)
    · obtain ⟨rfl, rfl⟩ := num_inj (show 2 * j1 + num d1 = 2 * i + num b by omega)
      rcases Nat.lt_or_ge (2 * j2 + num d2) (2 * j1 + num d1) with hl2 | hg2
      · rw [upd_same, upd_other _ _ (fun e => by obtain ⟨rfl, rfl⟩ := e; omega)] at he
        exact absurd he.symm (hnew j2 h2 d2 hl2)
      · exact num_inj (by omega)
theorem ownsRow_low {w : World} {b1 b2 : Nat} {e : TypeId} {size : Nat} {v : Value} {n : Nat} {xs : List Value} (h : w.ownsRow b1 e size v n xs) (hb : b2 ≤ b1) : w.ownsRow b2 e size v n xs := by
  refine ⟨h.1, ?_⟩
  rcases h.2 with h2 | ⟨g, cap, cur, e1, e2, r⟩
  · exact Or.inl h2
  · exact Or.inr ⟨g, cap, cur, e1, by omega, r⟩
theorem CpI.done {w W0 W : World} {n : Int} {os : List Ovr} {L : List CmV} {bt go co gc cc rb : Nat} {G C : Nat → Bool → Nat} {x y z a b c : Value} (h : CpI W0 n os L bt go co gc cc (2 * L.length) G C W) (k : Keeps w W0 (fun _ => False)) (hb : W.heap[rb]? = some (.cells #[x, y, z] 25)) (hrb : w.heap.size ≤ rb) :
    Cpy w.heap.size os L go co gc cc G C (((W.setCell ⟨rb, 0, none⟩ a).setCell ⟨rb, 1, none⟩ b).setCell ⟨rb, 2, none⟩ c) ∧ Keeps w (((W.setCell ⟨rb, 0, none⟩ a).setCell ⟨rb, 1, none⟩ b).setCell ⟨rb, 2, none⟩ c) (fun _ => False) := by
  have k3 := keeps_set3 (W := W) (N := rb) a b c
  have hcm := h.cm
  rw [midC_all] at hcm
  refine ⟨⟨ownsRow_low (ownsRow_keeps h.ov k3 (own_ne h.ov hb (by decide))) k.size, ownsRow_low (ownsRow_keeps hcm k3 (own_ne hcm hb (by decide))) k.size, fun i hi d => ?_, fun i j d d' hi hj he => ?_⟩, (k.trans h.keeps (fun _ _ e => e)).trans k3 (fun i hi e => by omega)⟩
  · have hr := h.row i hi d (by cases d <;> simp [num] <;> omega)
    exact ownsRow_low (ownsRow_keeps hr k3 (own_ne hr hb (by decide))) k.size
  · exact h.apart i j d d' hi hj (by cases d <;> simp [num] <;> omega) (by cases d' <;> simp [num] <;> omega) he
theorem CpI.fresh {W0 W : World} {n : Int} {os : List Ovr} {L : List CmV} {bt go co gc cc k : Nat} {G C : Nat → Bool → Nat} (h : CpI W0 n os L bt go co gc cc k G C W) {g : Nat} (hg : W.heap.size ≤ g) : ∀ j (hj : j < L.length) d, 2 * j + num d < k → ¬ G j d = g := fun j hj d hk e => by
  have := row_lt (h.row j hj d hk)
  omega
theorem CpI.cell {W0 W : World} {n : Int} {os : List Ovr} {L : List CmV} {bt go co gc cc k : Nat} {G C : Nat → Bool → Nat} (h : CpI W0 n os L bt go co gc cc k G C W) {i p : Nat} (hi : i < L.length) (hp : p < 9) : ∃ v, W.cell? ⟨gc, i * 9 + p, none⟩ = some v := by
  have hlen := midC_length G C L k
  rw [h.cm.cellAt (i * 9 + p) (by omega), cmCells_at _ i (by rw [hlen]; exact hi) p hp]
  exact ⟨_, List.getElem?_eq_getElem (by simp [CmV.cells]; omega)⟩
end Go.Proofs.YtfpiibccggjjpaaDoor
/-
  script: the law's copied behind its first statement (made by gensg10.py out of SG10.tail).
-/
namespace Go.Proofs.YtfpiibccggjjpaaDoor
open Go.RowKit
set_option linter.unusedVariables false
/-- The rest of a body behind its first two statements. -/
def rest2 : Option Code → Code
  | some (.seq _ (.seq _ c)) => c
  | _ => .skip
set_option maxRecDepth 100000 in
set_option maxHeartbeats 16000000 in
theorem copied_tail (n : Int) (so sc : Option Addr) (co cc : Nat) (os : List Ovr) (L : List CmV) (w W0 : World) (hc : CmIn w (.slice sc L.length cc) L) (hpre : Keeps w W0 (fun _ => False)) (hb0 : W0.heap[w.heap.size]? = some (.cells #[.int .i64 n, .slice so os.length co, .slice sc L.length cc] 25)) (hb1 : W0.heap[w.heap.size + 1]? = some (.cells #[.int .i64 0, .slice none 0 0, .slice none 0 0] 25)) (h2 : L.length ≤ 4194304) (t5 t6 t7 t8 t9 t10 t11 t12 t13 t14 t15 : Value) (bt go1 co1 gc1 cc1 : Nat) (W : World) (F : Fin1 W0 n os L bt go1 co1 gc1 cc1 W) :
    Code.wp Tryd.prog (rest2 Tryd.f11.body) (bodyPost Tryd.prog Tryd.f11 fun e w' => CopyPost w n os L e w') { tmps := #[.agg #[.int .i64 n, .slice so os.length co, .slice sc L.length cc], .pointer (some ⟨w.heap.size, 0, none⟩), .pointer (some ⟨w.heap.size + 1, 0, none⟩), .pointer (some ⟨bt, 0, none⟩), undef, t5, t6, t7, t8, t9, t10, t11, t12, t13, t14, t15, undef, undef, undef, undef, undef, undef, undef, undef, undef, undef, undef, undef, undef, undef, undef, undef, undef, undef, undef, undef, undef, undef, undef, undef, undef, undef, undef, undef, undef, undef, undef, undef, undef, undef], defers := [] } W := by
  unfold rest2 Tryd.f11
  dsimp only
  have HC := hide hc
  have HPRE := hide hpre
  have Hb0 := hide hb0
  have Hb1 := hide hb1
  have HB2 := hide h2
  clear hc hpre hb0 hb1 h2
  obtain ⟨b0, b1, b2⟩ := three_cells F.box
  have HF := hide F.begin
  clear F
  go_wp2_with fail
  clear b0 b1 b2
  go_loopw [19] (fun v19 wr => ∃ (i : Nat) (G C : Nat → Bool → Nat), v19 = .int .i64 (i : Int) ∧ i ≤ L.length ∧ CpI W0 n os L bt go1 co1 gc1 cc1 (2 * i) G C wr) (fun v19 _ => L.length - (intOf v19).toNat)
  case atStart => exact ⟨0, _, _, rfl, Nat.zero_le _, HF.out⟩
  case round =>
    obtain ⟨i, G, C, rfl, hi, hp⟩ := hrel
    by_cases hlt : i < L.length
    · have hlt' : (i : Int) < (L.length : Int) := by omega
      have h0' : (0 : Int) ≤ (i : Int) := by omega
      obtain ⟨b, o, hso, hcl⟩ := (HC.out.keeps HPRE.out).at hlt
      subst hso
      have hci := (HC.out.ok _ (List.getElem_mem hlt)).keeps HPRE.out
      have HSTEP5 : Hid (∀ W, CpI W0 n os L bt go1 co1 gc1 cc1 (2 * i) G C W → ∀ g c, W.ownsRow W0.heap.size 3 1 (.slice (some ⟨g, 0, none⟩) L[i].c.fl.length c) L[i].c.fl.length (L[i].c.fl.map cellI) → (∀ j (hj : j < L.length) d, 2 * j + num d < 2 * i → ¬ G j d = g) → CpI W0 n os L bt go1 co1 gc1 cc1 (2 * i + 1) (upd G i false g) (upd C i false c) (W.setCell ⟨gc1, i * 9 + 2, none⟩ (.slice (some ⟨g, 0, none⟩) L[i].c.fl.length c))) := fun W h g c hr hn => CpI.step (b := false) h hlt hr hn
      have HSTEP6' : Hid (∀ (G5 C5 : Nat → Bool → Nat) W, CpI W0 n os L bt go1 co1 gc1 cc1 (2 * i + 1) G5 C5 W → ∀ g c, W.ownsRow W0.heap.size 3 1 (.slice (some ⟨g, 0, none⟩) L[i].c.hl.length c) L[i].c.hl.length (L[i].c.hl.map cellI) → (∀ j (hj : j < L.length) d, 2 * j + num d < 2 * i + 1 → ¬ G5 j d = g) → CpI W0 n os L bt go1 co1 gc1 cc1 (2 * i + 1 + 1) (upd G5 i true g) (upd C5 i true c) (W.setCell ⟨gc1, i * 9 + 3, none⟩ (.slice (some ⟨g, 0, none⟩) L[i].c.hl.length c))) := fun G5 C5 W h g c hr hn => CpI.step (b := true) h hlt hr hn
      obtain ⟨x, hx⟩ : ∃ x, L[i] = x := ⟨_, rfl⟩
      rw [hx] at hcl hci HSTEP5 HSTEP6'
      obtain ⟨cd, fs, hs⟩ := x
      dsimp only at hci HSTEP5 HSTEP6'
      obtain ⟨sf, nf, cf, rfl⟩ := hci.f.slice
      obtain ⟨sh, nh, ch, rfl⟩ := hci.s.slice
      have HW : Hid (W0.cell? ⟨w.heap.size, 2, none⟩ = some (.slice (some ⟨b, o, none⟩) L.length cc) ∧ W0.cell? ⟨b, o + i * 9 + 2, none⟩ = some (.slice sf nf cf) ∧ W0.cell? ⟨b, o + i * 9 + 3, none⟩ = some (.slice sh nh ch)) := ⟨(three_cells Hb0.out).2.2, hcl 2 _ rfl, hcl 3 _ rfl⟩
      have HBI : Hid (cd.fl.length * 8 ≤ 140737488355328 ∧ cd.fl.length ≤ 1099511627776 ∧ cd.hl.length * 8 ≤ 140737488355328 ∧ cd.hl.length ≤ 1099511627776) := ⟨by have := hci.lf; omega, by have := hci.lf; omega, by have := hci.ls; omega, by have := hci.ls; omega⟩
      have Hms : Hid (L.length - (i + 1) < L.length - i) := by show L.length - (i + 1) < L.length - i; omega
      have Hi : Hid (i + 1 ≤ L.length) := hlt
      obtain ⟨a6, a7⟩ := wr64s (n := i) (by have := HB2.out; omega)
      clear hi hcl hx
      have HI5 := hide ((hci.f).keeps (hp.keeps))
      obtain ⟨vt5, ht5⟩ := hp.cell hlt (p := 2) (by omega)
      have HP5 := hide hp
      have S05 : (fun w' : World => w'.cell? ⟨bt, 2, none⟩ = some (.slice (some ⟨gc1, 0, none⟩) L.length cc1) ∧ w'.cell? ⟨w.heap.size, 2, none⟩ = some (.slice (some ⟨b, o, none⟩) L.length cc) ∧ w'.cell? ⟨b, o + i * 9 + 2, none⟩ = some (.slice sf nf cf)) wr.drew := ⟨(three_cells hp.box).2.2, keeps_cell hp.keeps HW.out.1, keeps_cell hp.keeps HW.out.2.1⟩
      have SA5 : (fun w' : World => w'.cell? ⟨bt, 2, none⟩ = some (.slice (some ⟨gc1, 0, none⟩) L.length cc1) ∧ w'.cell? ⟨w.heap.size, 2, none⟩ = some (.slice (some ⟨b, o, none⟩) L.length cc) ∧ w'.cell? ⟨b, o + i * 9 + 2, none⟩ = some (.slice sf nf cf)) ((wr.alloc (.cells #[] 3)).drew) := ⟨keeps_cell (((Keeps.refl wr (fun _ => False)).alloc _).drew) S05.1, keeps_cell (((Keeps.refl wr (fun _ => False)).alloc _).drew) S05.2.1, keeps_cell (((Keeps.refl wr (fun _ => False)).alloc _).drew) S05.2.2⟩
      clear hp ht5
      go_wp2_with fail
      go_region_held3 (fun w' : World => w'.cell? ⟨bt, 2, none⟩ = some (.slice (some ⟨gc1, 0, none⟩) L.length cc1) ∧ w'.cell? ⟨w.heap.size, 2, none⟩ = some (.slice (some ⟨b, o, none⟩) L.length cc) ∧ w'.cell? ⟨b, o + i * 9 + 2, none⟩ = some (.slice sf nf cf)) (first | with_reducible exact S05 | with_reducible exact SA5 | with_reducible exact SB5 | with_reducible exact SC5 | with_reducible assumption) (first | (refine step_copy (n := cd.fl.length) (lo := wr.heap.size) (xs := cd.fl.map cellI) 30 3 _ 1 8 Tryd.underlying30 Tryd.infoI rfl (by omega) (by simp) cellI_one HBI.out.1 HBI.out.2.1 (by omega) (by rfl) _ _ (by rfl) (by rfl) (by rfl) (by first | with_reducible exact n1d _ _ | with_reducible exact n1 _ _) (by first | exact Nat.le_refl _ | (simp; done)) ((HI5.out.keeps (((Keeps.refl wr (fun _ => False)).alloc _).drew)).row) ?_; intro g5 c5 w5 k5 own5; have kk5 : Keeps wr w5 (fun _ => False) := Keeps.trans (((Keeps.refl wr (fun _ => False)).alloc _).drew) k5 (fun _ _ e => e); have hq5 := HP5.out.stay kk5; obtain ⟨vu5, hu5⟩ := hq5.cell hlt (p := 2) (by omega); have fz5 := hq5.cm.frozenAt (i * 9 + 2); have hst5 : CpI W0 n os L bt go1 co1 gc1 cc1 (2 * i + 1) (upd G i false g5) (upd C i false c5) (w5.setCell ⟨gc1, i * 9 + 2, none⟩ (.slice (some ⟨g5, 0, none⟩) cd.fl.length c5)) := HSTEP5.out w5 hq5 g5 c5 (ownsRow_low own5 HP5.out.keeps.size) (HP5.out.fresh (ownsRow_block own5 rfl).1); have SB5 : (fun w' : World => w'.cell? ⟨bt, 2, none⟩ = some (.slice (some ⟨gc1, 0, none⟩) L.length cc1) ∧ w'.cell? ⟨w.heap.size, 2, none⟩ = some (.slice (some ⟨b, o, none⟩) L.length cc) ∧ w'.cell? ⟨b, o + i * 9 + 2, none⟩ = some (.slice sf nf cf)) w5 := ⟨(three_cells hq5.box).2.2, keeps_cell hq5.keeps HW.out.1, keeps_cell hq5.keeps HW.out.2.1⟩; have SC5 : (fun w' : World => w'.cell? ⟨bt, 2, none⟩ = some (.slice (some ⟨gc1, 0, none⟩) L.length cc1) ∧ w'.cell? ⟨w.heap.size, 2, none⟩ = some (.slice (some ⟨b, o, none⟩) L.length cc) ∧ w'.cell? ⟨b, o + i * 9 + 2, none⟩ = some (.slice sf nf cf)) (w5.setCell ⟨gc1, i * 9 + 2, none⟩ (.slice (some ⟨g5, 0, none⟩) cd.fl.length c5)) := ⟨(three_cells hst5.box).2.2, keeps_cell hst5.keeps HW.out.1, keeps_cell hst5.keeps HW.out.2.1⟩; have HST5 := hide hst5; clear hst5 hq5 k5 kk5 own5))
      all_goals (
        have HP5b := HST5
        clear S05 SA5 SB5 SC5 HP5 HI5 HSTEP5 hu5 fz5
        obtain ⟨G5, hG5⟩ : ∃ G5, upd G i false g5 = G5 := ⟨_, rfl⟩
        obtain ⟨C5, hC5⟩ : ∃ C5, upd C i false c5 = C5 := ⟨_, rfl⟩
        rw [hG5, hC5] at HP5b
        have HSTEP6 := hide (HSTEP6'.out G5 C5)
        clear HST5 HSTEP6' hG5 hC5
        generalize w5.setCell ⟨gc1, i * 9 + 2, none⟩ (.slice (some ⟨g5, 0, none⟩) cd.fl.length c5) = w5' at *
        have hp5' := HP5b.out
        clear HP5b
        have HI6 := hide ((hci.s).keeps (hp5'.keeps))
        obtain ⟨vt6, ht6⟩ := hp5'.cell hlt (p := 3) (by omega)
        have HP6 := hide hp5'
        have S06 : (fun w' : World => w'.cell? ⟨bt, 2, none⟩ = some (.slice (some ⟨gc1, 0, none⟩) L.length cc1) ∧ w'.cell? ⟨w.heap.size, 2, none⟩ = some (.slice (some ⟨b, o, none⟩) L.length cc) ∧ w'.cell? ⟨b, o + i * 9 + 3, none⟩ = some (.slice sh nh ch)) w5'.drew := ⟨(three_cells hp5'.box).2.2, keeps_cell hp5'.keeps HW.out.1, keeps_cell hp5'.keeps HW.out.2.2⟩
        have SA6 : (fun w' : World => w'.cell? ⟨bt, 2, none⟩ = some (.slice (some ⟨gc1, 0, none⟩) L.length cc1) ∧ w'.cell? ⟨w.heap.size, 2, none⟩ = some (.slice (some ⟨b, o, none⟩) L.length cc) ∧ w'.cell? ⟨b, o + i * 9 + 3, none⟩ = some (.slice sh nh ch)) ((w5'.alloc (.cells #[] 3)).drew) := ⟨keeps_cell (((Keeps.refl w5' (fun _ => False)).alloc _).drew) S06.1, keeps_cell (((Keeps.refl w5' (fun _ => False)).alloc _).drew) S06.2.1, keeps_cell (((Keeps.refl w5' (fun _ => False)).alloc _).drew) S06.2.2⟩
        clear hp5' ht6
        go_wp2_with fail
        go_region_held3 (fun w' : World => w'.cell? ⟨bt, 2, none⟩ = some (.slice (some ⟨gc1, 0, none⟩) L.length cc1) ∧ w'.cell? ⟨w.heap.size, 2, none⟩ = some (.slice (some ⟨b, o, none⟩) L.length cc) ∧ w'.cell? ⟨b, o + i * 9 + 3, none⟩ = some (.slice sh nh ch)) (first | with_reducible exact S06 | with_reducible exact SA6 | with_reducible exact SB6 | with_reducible exact SC6 | with_reducible assumption) (first | (refine step_copy (n := cd.hl.length) (lo := w5'.heap.size) (xs := cd.hl.map cellI) 30 3 _ 1 8 Tryd.underlying30 Tryd.infoI rfl (by omega) (by simp) cellI_one HBI.out.2.2.1 HBI.out.2.2.2 (by omega) (by rfl) _ _ (by rfl) (by rfl) (by rfl) (by first | with_reducible exact n1d _ _ | with_reducible exact n1 _ _) (by first | exact Nat.le_refl _ | (simp; done)) ((HI6.out.keeps (((Keeps.refl w5' (fun _ => False)).alloc _).drew)).row) ?_; intro g6 c6 w6 k6 own6; have kk6 : Keeps w5' w6 (fun _ => False) := Keeps.trans (((Keeps.refl w5' (fun _ => False)).alloc _).drew) k6 (fun _ _ e => e); have hq6 := HP6.out.stay kk6; obtain ⟨vu6, hu6⟩ := hq6.cell hlt (p := 3) (by omega); have fz6 := hq6.cm.frozenAt (i * 9 + 3); have hst6 : CpI W0 n os L bt go1 co1 gc1 cc1 (2 * i + 1 + 1) (upd G5 i true g6) (upd C5 i true c6) (w6.setCell ⟨gc1, i * 9 + 3, none⟩ (.slice (some ⟨g6, 0, none⟩) cd.hl.length c6)) := HSTEP6.out w6 hq6 g6 c6 (ownsRow_low own6 HP6.out.keeps.size) (HP6.out.fresh (ownsRow_block own6 rfl).1); have SB6 : (fun w' : World => w'.cell? ⟨bt, 2, none⟩ = some (.slice (some ⟨gc1, 0, none⟩) L.length cc1) ∧ w'.cell? ⟨w.heap.size, 2, none⟩ = some (.slice (some ⟨b, o, none⟩) L.length cc) ∧ w'.cell? ⟨b, o + i * 9 + 3, none⟩ = some (.slice sh nh ch)) w6 := ⟨(three_cells hq6.box).2.2, keeps_cell hq6.keeps HW.out.1, keeps_cell hq6.keeps HW.out.2.2⟩; have SC6 : (fun w' : World => w'.cell? ⟨bt, 2, none⟩ = some (.slice (some ⟨gc1, 0, none⟩) L.length cc1) ∧ w'.cell? ⟨w.heap.size, 2, none⟩ = some (.slice (some ⟨b, o, none⟩) L.length cc) ∧ w'.cell? ⟨b, o + i * 9 + 3, none⟩ = some (.slice sh nh ch)) (w6.setCell ⟨gc1, i * 9 + 3, none⟩ (.slice (some ⟨g6, 0, none⟩) cd.hl.length c6)) := ⟨(three_cells hst6.box).2.2, keeps_cell hst6.keeps HW.out.1, keeps_cell hst6.keeps HW.out.2.2⟩; have HST6 := hide hst6; clear hst6 hq6 k6 kk6 own6))
        all_goals (
          clear S06 SA6 SB6 SC6 HP6 HI6 HSTEP6 hu6 fz6
          generalize w6.setCell ⟨gc1, i * 9 + 3, none⟩ (.slice (some ⟨g6, 0, none⟩) cd.hl.length c6) = w6' at *
          go_wp2_with fail
          refine ⟨⟨i + 1, _, _, by go_num, Hi.out, HST6.out⟩, ?_⟩
          simp [intOf]
          exact Hms.out))
    · obtain rfl : i = L.length := by omega
      have hlt' : ¬ (L.length : Int) < (L.length : Int) := by omega
      obtain ⟨c0, c1, c2⟩ := three_cells hp.box
      have hb1 := hp.keeps.blk8 Hb1.out
      obtain ⟨d0, d1, d2⟩ := three_cells hb1
      have e0 := frozen_of hb1 0
      have e1 := frozen_of hb1 1
      have e2 := frozen_of hb1 2
      have HD := hide (hp.done (a := .int .i64 n) (b := .slice (some ⟨go1, 0, none⟩) os.length co1) (c := .slice (some ⟨gc1, 0, none⟩) L.length cc1) HPRE.out hb1 (Nat.le_succ _))
      have HRes := hide (run_loadVar_row (P := Tryd.prog) _ (w.heap.size + 1) _ 25 _ _ _ (set3 hb1 (.int .i64 n) (.slice (some ⟨go1, 0, none⟩) os.length co1) (.slice (some ⟨gc1, 0, none⟩) L.length cc1)) Tryd.underlying25 rfl (by kernel_rfl))
      clear hp hb1
      go_wp2_with fail
      exact bodyPost_ret (results_cell (p := 2) (ty := 25) rfl _ _ (w.heap.size + 1) rfl HRes.out) rfl ⟨go1, co1, gc1, cc1, G, C, rfl, HD.out.1, HD.out.2⟩
end Go.Proofs.YtfpiibccggjjpaaDoor
/-
  script: the law's copied (its first statement: fifteen orders; made by gensg10.py out of SG10.tail).
-/
namespace Go.Proofs.YtfpiibccggjjpaaDoor
open Go.RowKit
set_option linter.unusedVariables false
set_option maxRecDepth 100000 in
set_option maxHeartbeats 16000000 in
theorem copied_any (n : Int) (so sc : Option Addr) (co cc : Nat) (os : List Ovr) (L : List CmV) (w : World) (ho : OvIn w (.slice so os.length co) os) (hc : CmIn w (.slice sc L.length cc) L) (h1 : os.length ≤ 4194304) (h2 : L.length ≤ 4194304) :
    Calls Tryd.prog 11 #[.agg #[.int .i64 n, .slice so os.length co, .slice sc L.length cc]] w fun e w' => CopyPost w n os L e w' := by
  have HO := hide ho
  have HC := hide hc
  have HONE := hide (cm_one hc.ok)
  have HB : Hid (os.length * 24 ≤ 140737488355328 ∧ os.length ≤ 1099511627776 ∧ L.length * 120 ≤ 140737488355328 ∧ L.length ≤ 1099511627776) := ⟨by omega, by omega, by omega, by omega⟩
  have HB2 := hide h2
  clear ho hc h1 h2
  go_enter Tryd.func11, Tryd.ntmps11
  go_upto_region 1 with fail
  refine alloc2 (P := fun W => Code.wp _ _ _ _ W) fun W0 hb0 hb1 k0 => ?_
  obtain ⟨c0, c1, c2⟩ := three_cells hb0
  have HPRE := hide k0
  have Hb0 := hide hb0
  have Hb1 := hide hb1
  have S0 : (fun w' : World => Keeps W0 w' (fun _ => False) ∧ w'.cell? ⟨w.heap.size, 0, none⟩ = some (.int .i64 n) ∧ w'.cell? ⟨w.heap.size, 1, none⟩ = some (.slice so os.length co) ∧ w'.cell? ⟨w.heap.size, 2, none⟩ = some (.slice sc L.length cc)) W0.drew := ⟨(Keeps.refl _ _).drew, c0, c1, c2⟩
  clear hb0 hb1 k0 c0 c1 c2
  go_wp2_with fail
  rename_i K9 a9
  have TL : Hid (∀ (t5 t6 t7 t8 t9 t10 t11 t12 t13 t14 t15 : Value) (bt go1 co1 gc1 cc1 : Nat) (W : World), Fin1 W0 n os L bt go1 co1 gc1 cc1 W → K9 { tmps := #[.agg #[.int .i64 n, .slice so os.length co, .slice sc L.length cc], .pointer (some ⟨w.heap.size, 0, none⟩), .pointer (some ⟨w.heap.size + 1, 0, none⟩), .pointer (some ⟨bt, 0, none⟩), undef, t5, t6, t7, t8, t9, t10, t11, t12, t13, t14, t15, undef, undef, undef, undef, undef, undef, undef, undef, undef, undef, undef, undef, undef, undef, undef, undef, undef, undef, undef, undef, undef, undef, undef, undef, undef, undef, undef, undef, undef, undef, undef, undef, undef, undef], defers := [] } W) := by
    intro t5 t6 t7 t8 t9 t10 t11 t12 t13 t14 t15 bt go1 co1 gc1 cc1 W F
    refine a9 _ _ ?_
    clear a9
    exact copied_tail n so sc co cc os L w W0 HC.out HPRE.out Hb0.out Hb1.out HB2.out t5 t6 t7 t8 t9 t10 t11 t12 t13 t14 t15 bt go1 co1 gc1 cc1 W F
  clear a9
  dsimp only at TL
  go_region_held3 (fun w' : World => Keeps W0 w' (fun _ => False) ∧ w'.cell? ⟨w.heap.size, 0, none⟩ = some (.int .i64 n) ∧ w'.cell? ⟨w.heap.size, 1, none⟩ = some (.slice so os.length co) ∧ w'.cell? ⟨w.heap.size, 2, none⟩ = some (.slice sc L.length cc)) (first | with_reducible assumption | with_reducible exact spO S14 | with_reducible exact spO S10 | (with_reducible exact spO (SP.alloc S14 _)) | (with_reducible exact spO (SP.alloc S10 _)) | ((with_reducible refine spO (SP.allocD ?_ _)); first | with_reducible exact spI S0 | exact spI (by with_reducible assumption)) | ((with_reducible refine spO (SP.alloc ?_ _)); exact spI (by with_reducible assumption)) | with_reducible exact spO (SP.set S14 (by have := S14.k.size; have := S10.k.size; first | (simp; done) | (simp; omega) | omega) (by have := HPRE.out.size; have := heap_lt Hb0.out; omega) _ _ _)) (first | (refine step_copy (n := os.length) (lo := W0.heap.size) (xs := ovCells os) 22 49 _ 2 24 Tryd.underlying22 Tryd.infoOv rfl (by omega) (ovCells_length os) (ovCells_one os) HB.out.1 HB.out.2.1 (by omega) (by rfl) _ _ (by rfl) (by rfl) (by rfl) (by (first | with_reducible exact n32e _ _ _ _ | with_reducible exact n32d _ _ _ _ | with_reducible exact n31d _ _ _ _ | with_reducible exact n30d _ _ _ _ | with_reducible exact n21d _ _ _ | with_reducible exact n20d _ _ _ | with_reducible exact n1d _ _ | with_reducible exact n21 _ _ _ | with_reducible exact n20 _ _ _ | with_reducible exact n1 _ _)) (by first | omega | (simp; done) | (simp; omega)) ((HO.out.keeps HPRE.out).row.keeps (spK (bx := w.heap.size) (n := n) (vo := .slice so os.length co) (vc := .slice sc L.length cc) (by with_reducible assumption))) ?_; intro go10 co10 w10 k10 own10; have S10 : SP W0 w.heap.size n (.slice so os.length co) (.slice sc L.length cc) w10 := SP.keeps (spI (by with_reducible assumption)) k10) | (refine step_copy (n := L.length) (lo := W0.heap.size) (xs := cmCells L) 23 33 _ 9 120 Tryd.underlying23 Tryd.infoCm rfl (by omega) (cmCells_length L) HONE.out HB.out.2.2.1 HB.out.2.2.2 (by omega) (by rfl) _ _ (by rfl) (by rfl) (by rfl) (by first | (first | with_reducible exact n32e _ _ _ _ | with_reducible exact n32d _ _ _ _ | with_reducible exact n31d _ _ _ _ | with_reducible exact n30d _ _ _ _ | with_reducible exact n21d _ _ _ | with_reducible exact n20d _ _ _ | with_reducible exact n1d _ _ | with_reducible exact n21 _ _ _ | with_reducible exact n20 _ _ _ | with_reducible exact n1 _ _) | (with_reducible exact k10.blk8 (by (first | with_reducible exact n32e _ _ _ _ | with_reducible exact n32d _ _ _ _ | with_reducible exact n31d _ _ _ _ | with_reducible exact n30d _ _ _ _ | with_reducible exact n21d _ _ _ | with_reducible exact n20d _ _ _ | with_reducible exact n1d _ _ | with_reducible exact n21 _ _ _ | with_reducible exact n20 _ _ _ | with_reducible exact n1 _ _))) | (with_reducible exact old1 (k10.blk8 (by (first | with_reducible exact n32e _ _ _ _ | with_reducible exact n32d _ _ _ _ | with_reducible exact n31d _ _ _ _ | with_reducible exact n30d _ _ _ _ | with_reducible exact n21d _ _ _ | with_reducible exact n20d _ _ _ | with_reducible exact n1d _ _ | with_reducible exact n21 _ _ _ | with_reducible exact n20 _ _ _ | with_reducible exact n1 _ _))) _)) (by have := S10.k.size; first | (simp; done) | (simp; omega)) ((HC.out.keeps HPRE.out).row.keeps (spK (bx := w.heap.size) (n := n) (vo := .slice so os.length co) (vc := .slice sc L.length cc) (by with_reducible assumption))) ?_; intro gc14 cc14 w14 k14 own14; have S14 : SP W0 w.heap.size n (.slice so os.length co) (.slice sc L.length cc) w14 := SP.keeps (spI (by with_reducible assumption)) k14; (first | (with_reducible have o10 := ownsRow_keeps own10 k14 (fun _ _ e => e)) | (with_reducible have o10 := ownsRow_keeps (own10.alloc _) k14 (fun _ _ e => e)) | (with_reducible have o10 := ownsRow_keeps ((own10.alloc _).alloc _) k14 (fun _ _ e => e))); (first | ((with_reducible have h3 := k14.blk8 (o := (.cells #[.int .i64 0, .slice none 0 0, .slice none 0 0] 25)) (k10.blk8 (by (first | with_reducible exact n32e _ _ _ _ | with_reducible exact n32d _ _ _ _ | with_reducible exact n31d _ _ _ _ | with_reducible exact n30d _ _ _ _ | with_reducible exact n21d _ _ _ | with_reducible exact n20d _ _ _ | with_reducible exact n1d _ _ | with_reducible exact n21 _ _ _ | with_reducible exact n20 _ _ _ | with_reducible exact n1 _ _)))); have g3 := And.intro (three_cells h3) (frozen_of h3); obtain ⟨⟨e0, e1, e2⟩, e3⟩ := g3; have e4 := e3 0; have e5 := e3 1; have e6 := e3 2; clear e3) | ((with_reducible have h3 := k14.blk8 (o := (.cells #[.int .i64 0, .slice none 0 0, .slice none 0 0] 25)) (old1 (k10.blk8 (by (first | with_reducible exact n32e _ _ _ _ | with_reducible exact n32d _ _ _ _ | with_reducible exact n31d _ _ _ _ | with_reducible exact n30d _ _ _ _ | with_reducible exact n21d _ _ _ | with_reducible exact n20d _ _ _ | with_reducible exact n1d _ _ | with_reducible exact n21 _ _ _ | with_reducible exact n20 _ _ _ | with_reducible exact n1 _ _))) _)); have g3 := And.intro (three_cells h3) (frozen_of h3); obtain ⟨⟨e0, e1, e2⟩, e3⟩ := g3; have e4 := e3 0; have e5 := e3 1; have e6 := e3 2; clear e3) | ((with_reducible have h3 := k14.blk8 (o := (.cells #[.int .i64 0, .slice none 0 0, .slice none 0 0] 25)) (by (first | with_reducible exact n32e _ _ _ _ | with_reducible exact n32d _ _ _ _ | with_reducible exact n31d _ _ _ _ | with_reducible exact n30d _ _ _ _ | with_reducible exact n21d _ _ _ | with_reducible exact n20d _ _ _ | with_reducible exact n1d _ _ | with_reducible exact n21 _ _ _ | with_reducible exact n20 _ _ _ | with_reducible exact n1 _ _))); have g3 := And.intro (three_cells h3) (frozen_of h3); obtain ⟨⟨e0, e1, e2⟩, e3⟩ := g3; have e4 := e3 0; have e5 := e3 1; have e6 := e3 2; clear e3) | skip)))
  all_goals (show K9 _ _; first | with_reducible exact TL.out _ _ _ _ _ _ _ _ _ _ _ _ _ _ _ _ _ (fin_set h3 o10 own14 S14.k (by have := S14.k.size; have := S10.k.size; first | omega | (simp; done) | (simp; omega))) | with_reducible exact TL.out _ _ _ _ _ _ _ _ _ _ _ _ _ _ _ _ _ (fin_alloc o10 own14 S14.k))
end Go.Proofs.YtfpiibccggjjpaaDoor
/-
  script: what was copied, what was read, as rows that lie somewhere.
-/
namespace Go.Proofs.YtfpiibccggjjpaaDoor
open Go.RowKit
set_option linter.unusedVariables false

theorem IntsO.intsIn {lo : Nat} {w : World} {v : Value} {l : List Int} (h : w.ownsRow lo 3 1 v l.length (l.map cellI)) (fits : ∀ n, n ∈ l → -9223372036854775808 ≤ n ∧ n ≤ 9223372036854775807) : IntsIn w v l := by
  have h1 := h
  refine ⟨?_, fits⟩
  rcases h.2 with ⟨rfl, e⟩ | ⟨g, cap, cur, rfl, -⟩
  · exact Or.inl ⟨rfl, List.eq_nil_of_length_eq_zero e⟩
  · refine Or.inr ⟨⟨g, 0, none⟩, cap, rfl, fun j hj => ?_⟩
    rw [addr_add, Nat.zero_add, h1.cellAt j (by omega), List.getElem?_map, List.getElem?_eq_getElem hj]
    rfl
theorem newC_len (G C : Nat → Bool → Nat) (L : List CmV) : (newC G C L).length = L.length := by simp [newC]
theorem newC_cs (G C : Nat → Bool → Nat) (L : List CmV) : (newC G C L).map (·.c) = L.map (·.c) := by
  apply List.ext_getElem
  · simp [newC]
  · intro j h1 h2
    simp [newC]
theorem Cpy.ovIn {lo : Nat} {os : List Ovr} {L : List CmV} {go co gc cc : Nat} {G C : Nat → Bool → Nat} {W : World} (h : Cpy lo os L go co gc cc G C W) (ok : ∀ x ∈ os, x.1.size ≤ 8388608 ∧ x.2 < 18446744073709551616) : OvIn W (.slice (some ⟨go, 0, none⟩) os.length co) os := ⟨own_rowIn h.ov, ok⟩
theorem Cpy.cmIn {lo : Nat} {os : List Ovr} {L : List CmV} {go co gc cc : Nat} {G C : Nat → Bool → Nat} {W w0 : World} (h : Cpy lo os L go co gc cc G C W) (ok : ∀ x ∈ L, CmdIn w0 x.c x.fs x.hs) : CmIn W (.slice (some ⟨gc, 0, none⟩) L.length cc) (newC G C L) := by
  refine ⟨?_, fun x hx => ?_⟩
  · rw [newC_len]
    exact own_rowIn h.cm
  · obtain ⟨i, hi, rfl⟩ := List.getElem_of_mem hx
    rw [newC_len] at hi
    have hk := ok _ (List.getElem_mem hi)
    simp only [newC, List.getElem_mapIdx]
    exact ⟨IntsO.intsIn (h.row i hi false) hk.f.fits, IntsO.intsIn (h.row i hi true) hk.s.fits, hk.lf, hk.ls, hk.h, hk.n, hk.u, hk.v, hk.key, hk.elem⟩
theorem ScR.ovIn {lo : Nat} {st : PSt} {vo vc : Value} {L : List CmV} {W : World} (h : ScR lo st vo vc L W) (ok : ∀ x ∈ st.os, x.1.size ≤ 8388608 ∧ x.2 < 18446744073709551616) : OvIn W vo st.os := ⟨own_rowIn h.os, ok⟩
theorem ScR.cmIn {lo : Nat} {st : PSt} {vo vc : Value} {L : List CmV} {W : World} (h : ScR lo st vo vc L W) (ok : ∀ c ∈ st.cs, ∃ w0 fv hv, CmdIn w0 c fv hv) : CmIn W vc L := by
  refine ⟨own_rowIn h.cs, fun x hx => ?_⟩
  have hm : x.c ∈ st.cs := by
    rw [← h.eq]
    exact List.mem_map.2 ⟨x, hx, rfl⟩
  obtain ⟨w0, fv, hv, hk⟩ := ok _ hm
  obtain ⟨e1, e2⟩ := h.each x hx
  exact ⟨IntsO.intsIn e1 hk.f.fits, IntsO.intsIn e2 hk.s.fits, hk.lf, hk.ls, hk.h, hk.n, hk.u, hk.v, hk.key, hk.elem⟩
theorem ScR.keeps {lo : Nat} {st : PSt} {vo vc : Value} {L : List CmV} {W W' : World} (h : ScR lo st vo vc L W) (k : Keeps W W' (fun _ => False)) : ScR lo st vo vc L W' := ⟨ownsRow_keeps h.os k (fun _ _ e => e), ownsRow_keeps h.cs k (fun _ _ e => e), h.eq, fun x hx => ⟨(h.each x hx).1.keeps k, (h.each x hx).2.keeps k⟩, h.ap⟩
theorem told_ok {w : World} {L : List CmV} (ok : ∀ x ∈ L, CmdIn w x.c x.fs x.hs) : ∀ c ∈ (L.map (·.c)).filterMap tellC, ∃ w0 fv hv, CmdIn w0 c fv hv := fun c hc => by
  obtain ⟨c0, hc0, ht⟩ := List.mem_filterMap.1 hc
  obtain ⟨x, hx, rfl⟩ := List.mem_map.1 hc0
  by_cases hop : 1 ≤ x.c.op ∧ x.c.op ≤ 14
  · rw [tellC_yes hop] at ht
    injection ht with ht
    subst ht
    exact ⟨w, _, _, tell_in (ok x hx) hop⟩
  · rw [tellC_no hop] at ht
    cases ht
theorem text_len {w : World} {n : Int} {os : List Ovr} {L : List CmV} (hn : Fit n) (ho : ∀ x ∈ os, x.1.size ≤ 8388608 ∧ x.2 < 18446744073709551616) (hc : ∀ x ∈ L, CmdIn w x.c x.fs x.hs) (hcost : costO os + costs (L.map (·.c)) ≤ 4194304) : (textD n os (L.map (·.c))).length ≤ 500000000 := by
  have l1 := limT_len hn
  have l2 := ovs_len ho
  have l3 := cms_len hc
  unfold textD
  rw [List.length_append, List.length_append]
  omega
end Go.Proofs.YtfpiibccggjjpaaDoor
/-
  script: the law's cleaned, its list with its room.
-/
namespace Go.Proofs.YtfpiibccggjjpaaDoor
open Go.RowKit
set_option linter.unusedVariables false

def CdC (w : World) (n : Int) (vo : Value) (cs : List CmdD) (e : Ending) (w' : World) : Prop := ∃ (so : Option Addr) (c : Nat) (L2 : List CmV), e = .returned (.agg #[.int .i64 n, vo, .slice so L2.length c]) ∧ L2.length ≤ c ∧ CmIn w' (.slice so L2.length c) L2 ∧ L2.map (·.c) = cs ∧ Keeps w w' (fun _ => False)
theorem cap_le {w : World} {base : Nat} {e : TypeId} {size n c : Nat} {so : Option Addr} {xs : List Value} (h : w.ownsRow base e size (.slice so n c) n xs) : n ≤ c := by
  rcases h.2 with ⟨e1, e0⟩ | ⟨g, cap, cur, e1, -, -, hc, -⟩
  · omega
  · injection e1 with _ _ e3
    rw [e3]
    exact hc
set_option maxRecDepth 100000 in
set_option maxHeartbeats 8000000 in
theorem cleaned_cap (n : Int) (vo vc : Value) (os : List Ovr) (L : List CmV) (w : World) (ho : OvIn w vo os) (hc : CmIn w vc L) (hL : L.length ≤ 4194304) : Calls Tryd.prog 15 #[.agg #[.int .i64 n, vo, vc]] w fun e w' => CdC w n vo ((L.map (·.c)).filterMap tellC) e w' := by
  obtain ⟨so, co, rfl⟩ := ho.row.form
  obtain ⟨sc, cc, rfl⟩ := hc.row.form
  have HC := hide hc
  have HL := hide hL
  obtain ⟨CS, hCS⟩ : ∃ CS, CS = (L.map (·.c)).filterMap tellC := ⟨_, rfl⟩
  rw [← hCS]
  have HCS := hide hCS
  clear ho hc hL hCS
  go_enter Tryd.func15, Tryd.ntmps15
  go_upto_region 2 with fail
  refine alloc3r (P := fun W => Code.wp _ _ _ _ W) fun W0 hb0 hb1 hb2 k0 => ?_
  obtain ⟨c0, c1, c2⟩ := three_cells9 hb0
  have H0 : Hid (ClS w n (.slice so os.length co) (.slice sc L.length cc) (.slice none 0 0) [] W0) := ⟨hb0, hb1, hb2, ⟨rfl, Or.inl ⟨rfl, rfl⟩⟩, k0⟩
  clear hb0 hb1 hb2 k0
  go_wp2_with fail
  clear c0 c1 c2
  go_loopw [16] (fun v16 wr => ∃ (i : Nat) (v2 : Value) (L2 : List CmV), v16 = .int .i64 (i : Int) ∧ i ≤ L.length ∧ ClS w n (.slice so os.length co) (.slice sc L.length cc) v2 L2 wr ∧ Hid (L2.map (·.c) = ((L.take i).map (·.c)).filterMap tellC ∧ L2.length ≤ i ∧ ∀ x, x ∈ L2 → CmdIn w x.c x.fs x.hs)) (fun v16 _ => L.length - (intOf v16).toNat)
  case atStart => exact ⟨0, _, [], rfl, Nat.zero_le _, H0.out, ⟨rfl, Nat.le_refl _, fun x hx => by cases hx⟩⟩
  case round =>
    obtain ⟨i, v2, L2, rfl, hi, hp, HI⟩ := hrel
    by_cases hlt : i < L.length
    · have hlt'' : (i : Int) < (L.length : Int) := by omega
      obtain ⟨b, o, rfl, hcl⟩ := (HC.out.keeps hp.keeps).at hlt
      have hci := HC.out.ok _ (List.getElem_mem hlt)
      have hT : ((L.take (i + 1)).map (·.c)).filterMap tellC = ((L.take i).map (·.c)).filterMap tellC ++ (tellC L[i].c).toList := by
        rw [List.take_succ_eq_append_getElem hlt, List.map_append, List.filterMap_append]
        congr 1
      obtain ⟨x, hx⟩ : ∃ x, L[i] = x := ⟨_, rfl⟩
      rw [hx] at hcl hci hT
      obtain ⟨sf, nf, cf, ef⟩ := hci.f.slice
      obtain ⟨sh, nh, ch, eh⟩ := hci.s.slice
      obtain ⟨cd, fs, hs⟩ := x
      dsimp only at ef eh hci hT
      subst ef eh
      have q0 := hcl 0 _ rfl
      have q1 := hcl 1 _ rfl
      have q2 := hcl 2 _ rfl
      have q3 := hcl 3 _ rfl
      have q4 := hcl 4 _ rfl
      have q5 := hcl 5 _ rfl
      have q6 := hcl 6 _ rfl
      have q7 := hcl 7 _ rfl
      have q8 := hcl 8 _ rfl
      rw [Nat.add_zero] at q0
      have HP := hide hp
      have Hms : Hid (L.length - (i + 1) < L.length - i) := by show L.length - (i + 1) < L.length - i; omega
      have Hi : Hid (i + 1 ≤ L.length) := hlt
      have hwr := hide (wr64s (n := i) (by have := HL.out; omega))
      have Hil : Hid (i ≤ 4194304) := by show i ≤ 4194304; have := HL.out; omega
      have HCI := hide hci
      have HT := hide hT
      clear hp hi hcl hx hci hT
      go_upto_region 5 with fail
      refine alloc1 (P := fun W => Code.wp _ _ _ _ W) fun W1 hb1 hs1 k1 => ?_
      obtain ⟨e0, e1, e2, e3, e4, e5, e6, e7, e8⟩ := at9 hb1
      have HP1 := hide (HP.out.stay k1)
      clear hb1 hs1 k1 HP q0 q1 q2 q3 q4 q5 q6 q7 q8
      by_cases hop : 1 ≤ cd.op ∧ cd.op ≤ 14
      · have hcall : Calls Tryd.prog 28 #[.agg #[.int .i64 cd.op, .int .i64 cd.h, .slice sf nf cf, .slice sh nh ch, .int .u64 (cd.u : Int), .int .u64 (cd.v : Int), .int .i64 cd.n, .string cd.key, .string cd.elem]] W1 fun e w' => ClP W1 ((tellI (cd.op.toNat + 1) cd).vals (tellF cd (.slice sf nf cf)) (tellH cd (.slice sh nh ch))) true e w' := clean_yes cd sf sh nf cf nh ch W1 hop
        have hin := tell_in HCI.out hop
        have ht := tellC_yes hop
        obtain ⟨s1, n1, c1, e1f⟩ := tellF_slice cd sf nf cf
        obtain ⟨s2, n2, c2, e2f⟩ := tellH_slice cd sh nh ch
        have HF : Hid (((L2 ++ [⟨tellI (cd.op.toNat + 1) cd, tellF cd (.slice sf nf cf), tellH cd (.slice sh nh ch)⟩] : List CmV)).map (·.c) = ((L.take (i + 1)).map (·.c)).filterMap tellC ∧ (L2 ++ [⟨tellI (cd.op.toNat + 1) cd, tellF cd (.slice sf nf cf), tellH cd (.slice sh nh ch)⟩] : List CmV).length ≤ i + 1 ∧ ∀ x, x ∈ (L2 ++ [⟨tellI (cd.op.toNat + 1) cd, tellF cd (.slice sf nf cf), tellH cd (.slice sh nh ch)⟩] : List CmV) → CmdIn w x.c x.fs x.hs) := by
          refine ⟨by rw [HT.out, ht, List.map_append, HI.out.1]; rfl, by rw [List.length_append]; have := HI.out.2.1; simp; omega, fun x hx => ?_⟩
          rcases List.mem_append.1 hx with q | q
          · exact HI.out.2.2 x q
          · obtain rfl : x = _ := by simpa using q
            exact hin
        rw [e1f, e2f] at hcall HF
        have Hlen := hide HI.out.2.1
        clear hin ht hop HT HCI HI e1f e2f
        generalize tellI (cd.op.toNat + 1) cd = D at *
        obtain ⟨op, hh, u, v, nn, key, elem, fl, hl⟩ := D
        simp only [CmdD.vals] at hcall
        go_wp2_with fail
        (with_reducible refine hcall.mono ?_)
        rintro e W2 ⟨rfl, k2⟩
        have HP2 := hide (HP1.out.stay k2)
        clear hcall k2 HP1 e0 e1 e2 e3 e4 e5 e6 e7 e8
        go_upto_region 6 with fail
        refine alloc1 (P := fun W => Code.wp _ _ _ _ W) fun W3 hb3 hs3 k3 => ?_
        obtain ⟨e0, e1, e2, e3, e4, e5, e6, e7, e8⟩ := at9 hb3
        have hP3 := HP2.out.stay k3
        obtain ⟨t0, t1, t2⟩ := three_cells9 hP3.t
        obtain ⟨g, c, W4, hap0, y2, fz, hS⟩ := hP3.more (Nat.le_trans Hlen.out Hil.out) ⟨⟨op, hh, u, v, nn, key, elem, fl, hl⟩, .slice s1 n1 c1, .slice s2 n2 c2⟩ s1 s2 n1 c1 n2 c2 rfl rfl
        have hap : ∀ ty, (Builtin.append_ #[23, 23] ty #[v2, .slice (some ⟨W3.heap.size, 0, none⟩) 1 1]).run Tryd.prog (W3.alloc (.cells #[.int .i64 op, .int .i64 hh, .slice s1 n1 c1, .slice s2 n2 c2, .int .u64 (u : Int), .int .u64 (v : Int), .int .i64 nn, .string key, .string elem] 33)) = .ok (.slice (some ⟨g, 0, none⟩) (L2.length + 1) c) W4 := hap0
        obtain ⟨s3, c3, rfl⟩ := ownsRow_slice hP3.row
        have HS := hide hS
        clear hap0 hS hP3 hs3 k3 hb3 HP2
        obtain ⟨a6, a7⟩ := hwr.out
        go_wp2_with (first | (at_builtin; have _t := hap; refine app_run _ rfl (.tmp 27) (.tmp 29) 23 rfl rfl rfl hap ?_; clear hap))
        go_roundw
        case rel => exact ⟨i + 1, _, _, by go_num, Hi.out, HS.out, HF.out⟩
        case measure => simp [intOf]; exact Hms.out
      · have hcall : Calls Tryd.prog 28 #[.agg #[.int .i64 cd.op, .int .i64 cd.h, .slice sf nf cf, .slice sh nh ch, .int .u64 (cd.u : Int), .int .u64 (cd.v : Int), .int .i64 cd.n, .string cd.key, .string cd.elem]] W1 fun e w' => ClP W1 #[.int .i64 cd.op, .int .i64 cd.h, .slice none 0 0, .slice none 0 0, .int .u64 0, .int .u64 0, .int .i64 0, .string ⟨#[]⟩, .string ⟨#[]⟩] false e w' := clean_no cd.op cd.h cd.n cd.u cd.v cd.key cd.elem sf sh nf cf nh ch W1 hop
        have HF : Hid (L2.map (·.c) = ((L.take (i + 1)).map (·.c)).filterMap tellC ∧ L2.length ≤ i + 1 ∧ ∀ x, x ∈ L2 → CmdIn w x.c x.fs x.hs) := by
          refine ⟨?_, Nat.le_succ_of_le HI.out.2.1, HI.out.2.2⟩
          rw [HT.out, tellC_no hop, HI.out.1]
          simp
        clear hop HT HCI HI
        go_wp2_with fail
        (with_reducible refine hcall.mono ?_)
        rintro e W2 ⟨rfl, k2⟩
        have HP2 := hide (HP1.out.stay k2)
        clear hcall k2 HP1 e0 e1 e2 e3 e4 e5 e6 e7 e8
        go_upto_region 6 with fail
        refine alloc1 (P := fun W => Code.wp _ _ _ _ W) fun W3 hb3 hs3 k3 => ?_
        have HP3 := hide (HP2.out.stay k3)
        clear hb3 hs3 k3 HP2
        obtain ⟨a6, a7⟩ := hwr.out
        go_wp2_with fail
        go_roundw
        case rel => exact ⟨i + 1, _, _, by go_num, Hi.out, HP3.out, HF.out⟩
        case measure => simp [intOf]; exact Hms.out
    · obtain rfl : i = L.length := by omega
      have hlt' : ¬ (L.length : Int) < (L.length : Int) := by omega
      have HF : Hid (L2.map (·.c) = CS ∧ ∀ x, x ∈ L2 → CmdIn w x.c x.fs x.hs) := by
        refine ⟨?_, HI.out.2.2⟩
        rw [HI.out.1, HCS.out, List.take_length]
      obtain ⟨s3, c3, rfl⟩ := ownsRow_slice hp.row
      obtain ⟨t0, t1, t2⟩ := three_cells9 hp.t
      obtain ⟨x0, x1, x2⟩ := three_cells9 hp.res
      obtain ⟨f0, f1, f2⟩ := fro3 hp.res
      have HP := hide hp
      clear HI hp
      go_wp2_with fail
      refine set3r (P := fun W => bodyPost _ _ _ _ _ W) HP.out.res fun W9 h9 k9 => ?_
      obtain ⟨y0, y1, y2⟩ := three_cells9 h9
      refine bodyPost_ret (v := .agg #[.int .i64 n, .slice so os.length co, .slice s3 L2.length c3]) (by simp [results, Tryd.results15, go_sem, y0, y1, y2]) rfl ?_
      have kk := keeps_out HP.out.keeps (show w.heap.size ≤ w.heap.size + 1 by omega) k9
      have hr := ownsRow_keeps HP.out.row k9 (own_ne2 HP.out.row HP.out.res (by decide))
      exact ⟨s3, c3, L2, rfl, cap_le hr, ⟨own_rowIn hr, fun x hx => (HF.out.2 x hx).keeps kk⟩, HF.out.1, kk⟩
end Go.Proofs.YtfpiibccggjjpaaDoor
/-
  script: a line whose first word is no name (as data); a list's beginning.
-/
namespace Go.Proofs.YtfpiibccggjjpaaDoor
open Go.RowKit
set_option linter.unusedVariables false

theorem rowIn_take {w : World} {so : Option Addr} {n c k : Nat} {xs ys : List Value} (h : RowIn w (.slice so n c) n xs) (hk : k ≤ n) (hy : ∀ (j : Nat) (u : Value), ys[j]? = some u → xs[j]? = some u) : RowIn w (.slice so k c) k ys := by
  rcases h with ⟨e, rfl⟩ | ⟨a, cap, e, hc⟩
  · injection e with e1 e2 e3
    subst e1 e3
    obtain rfl : k = 0 := by omega
    exact Or.inl ⟨rfl, rfl⟩
  · injection e with e1 e2 e3
    subst e1 e3
    exact Or.inr ⟨a, c, rfl, fun j u hu => hc j u (hy j u hu)⟩
theorem cmCells_take (L : List CmV) (k : Nat) : ∀ (j : Nat) (u : Value), (cmCells (L.take k))[j]? = some u → (cmCells L)[j]? = some u := by
  induction L generalizing k with
  | nil => intro j u h; simpa using h
  | cons x t ih =>
    intro j u h
    cases k with
    | zero => simp [cmCells] at h
    | succ k =>
      rw [List.take_succ_cons] at h
      simp only [cmCells] at h ⊢
      by_cases hj : j < x.cells.length
      · rw [List.getElem?_append_left hj] at h ⊢
        exact h
      · rw [List.getElem?_append_right (by omega)] at h ⊢
        exact ih k _ u h
theorem CmIn.take {w : World} {so : Option Addr} {c : Nat} {L : List CmV} (h : CmIn w (.slice so L.length c) L) {k : Nat} (hk : k ≤ L.length) : CmIn w (.slice so (L.take k).length c) (L.take k) := by
  have e : (L.take k).length = k := by rw [List.length_take]; omega
  refine ⟨?_, fun x hx => h.ok x (List.mem_of_mem_take hx)⟩
  rw [e]
  exact rowIn_take h.row hk (cmCells_take L k)
theorem costs_take (cs : List CmdD) (k : Nat) : costs (cs.take k) ≤ costs cs := by
  unfold costs
  rw [List.map_take]
  exact sum_take k
/-- What was told has its line. -/
theorem tell_op {c : CmdD} (hop : 1 ≤ c.op ∧ c.op ≤ 14) : (tellI (c.op.toNat + 1) c).op = c.op := by
  obtain ⟨op, h0, u, v, n, key, elem, fl, hl⟩ := c
  have hc : op = 1 ∨ op = 2 ∨ op = 3 ∨ op = 4 ∨ op = 5 ∨ op = 6 ∨ op = 7 ∨ op = 8 ∨ op = 9 ∨ op = 10 ∨ op = 11 ∨ op = 12 ∨ op = 13 ∨ op = 14 := by
    dsimp only at hop
    omega
  rcases hc with rfl | rfl | rfl | rfl | rfl | rfl | rfl | rfl | rfl | rfl | rfl | rfl | rfl | rfl <;> rfl
def Told1 (c : CmdD) : Prop := 1 ≤ c.op ∧ c.op ≤ 14
theorem told_all (cs : List CmdD) : ∀ c, c ∈ cs.filterMap tellC → Told1 c := fun c hc => by
  obtain ⟨c0, -, ht⟩ := List.mem_filterMap.1 hc
  by_cases hop : 1 ≤ c0.op ∧ c0.op ≤ 14
  · rw [tellC_yes hop] at ht
    injection ht with ht
    subst ht
    show 1 ≤ _ ∧ _
    rw [tell_op hop]
    exact hop
  · rw [tellC_no hop] at ht
    cases ht
theorem told_len : ∀ cs : List CmdD, (∀ c, c ∈ cs → Told1 c) → (cs.filterMap tellC).length = cs.length
  | [], _ => rfl
  | c :: t, h => by
    rw [List.filterMap_cons, tellC_yes (h c List.mem_cons_self)]
    show (t.filterMap tellC).length + 1 = t.length + 1
    rw [told_len t (fun x hx => h x (List.mem_cons_of_mem _ hx))]
/-- Great letters alone. -/
def Caps (l : List UInt8) : Prop := ∀ x, x ∈ l → 65 ≤ x.toNat ∧ x.toNat ≤ 90
theorem cap_wd {x : UInt8} (h : (65 ≤ x.toNat ∧ x.toNat ≤ 90) ∨ x = 63) : blank x = false ∧ x ≠ 10 ∧ x ≠ 35 := by
  have : ∀ k : Fin 256, ((65 ≤ k.1 ∧ k.1 ≤ 90) ∨ UInt8.ofNat k.1 = 63) → blank (UInt8.ofNat k.1) = false ∧ UInt8.ofNat k.1 ≠ 10 ∧ UInt8.ofNat k.1 ≠ 35 := by decide +kernel
  have := this ⟨x.toNat, x.toNat_lt⟩ (by simpa using h)
  simpa using this
theorem no_name (l : List UInt8) (i : Nat) (hi : i < 16) : (nmN i).data.toList ≠ l ++ [63] := fun e => by
  have : ∀ k : Fin 16, (63 : UInt8) ∉ (nmN k.1).data.toList := by decide +kernel
  refine this ⟨i, hi⟩ ?_
  show 63 ∈ (nmN i).data.toList
  rw [e]
  simp
theorem psF_fault {l : List UInt8} (h : Caps l) (s : PSt) (j : Nat) (r : List UInt8) : psF s j (linesD (l ++ [63] ++ [10] ++ r)) = .inr (j + 1, 160) := by
  have hw : ∀ y, y ∈ l ++ [63] → blank y = false ∧ y ≠ 10 ∧ y ≠ 35 := fun y hy => by
    rcases List.mem_append.1 hy with q | q
    · exact cap_wd (Or.inl (h y q))
    · exact cap_wd (Or.inr (by simpa using q))
  have hW : Wd (l ++ [63]) := wd_of (by simp) hw
  have h1 : wdsD (l ++ [63]) = [l ++ [63]] := by
    have := words_line (l ++ [63]) [] hW (fun x hx => by cases hx)
    simpa using this
  rw [lines_cons _ r (fun q => (hw 10 q).2.1 rfl), psF, h1]
  dsimp only
  have e : lnR s.last (l ++ [63]) [] = (0, zeroC, 160) := by
    unfold lnR
    rw [rowI_none (fun i hi => no_name l i hi)]
  rw [e, if_neg (by decide)]
theorem parse_fault {n : Int} {os : List Ovr} {cs : List CmdD} (hn : Fit n) (ho : ∀ o, o ∈ os → o.2 < 18446744073709551616) (hc : ∀ c, c ∈ cs → CmdOk c) (ht : ∀ c, c ∈ cs → Told1 c) {l : List UInt8} (h : Caps l) (r : List UInt8) (hz : (textD n os cs ++ (l ++ [63] ++ [10] ++ r)).length ≤ 1048576) : parseD (textD n os cs ++ (l ++ [63] ++ [10] ++ r)) = .inr (1 + os.length + cs.length + 1, 160) := by
  obtain ⟨k, -, e⟩ := psF_text hn ho hc (l ++ [63] ++ [10] ++ r)
  unfold parseD
  rw [if_neg (by omega), e, psF_fault h, told_len cs ht]
end Go.Proofs.YtfpiibccggjjpaaDoor
