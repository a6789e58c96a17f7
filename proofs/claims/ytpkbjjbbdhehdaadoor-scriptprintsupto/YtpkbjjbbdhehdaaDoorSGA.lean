/-
  script: copied's loop as data: one list after the other becomes one's own.
-/
import Derived.Test.YtpkbjjbbdhehdaaDoorSG9
import Derived.Laws.OwnMore
import Derived.Laws.Rows
namespace Go.Proofs.YtpkbjjbbdhehdaaDoor
open Go.RowKit
set_option linter.unusedVariables false

/-- A result in a variable of its own. -/
theorem results_cell {P : Program} {fn : Func} {p : Tmp} {ty : TypeId} (h : fn.results = #[.cell p ty]) (tmps : Array Value) (w : World) (b : Nat) {v : Value} (hp : tmps.getD p undef = .pointer (some ⟨b, 0, none⟩)) (hv : (loadVar ty ⟨b, 0, none⟩).run P w = .ok v w) : (results fn tmps).run P w = .ok v w := by
  have hp' : tmps[p]?.getD undef = .pointer (some ⟨b, 0, none⟩) := by simpa using hp
  simp [results, h, hp', asAddr, hv]
def midC (G C : Nat → Bool → Nat) (L : List CmV) (k : Nat) : List CmV := L.mapIdx fun j x => ⟨x.c, if 2 * j < k then rowV G C j false x.c else x.fs, if 2 * j + 1 < k then rowV G C j true x.c else x.hs⟩
theorem midC_length (G C : Nat → Bool → Nat) (L : List CmV) (k : Nat) : (midC G C L k).length = L.length := by simp [midC]
theorem midC_get (G C : Nat → Bool → Nat) (L : List CmV) (k : Nat) {j : Nat} (h : j < (midC G C L k).length) (h2 : j < L.length) : (midC G C L k)[j] = ⟨L[j].c, if 2 * j < k then rowV G C j false L[j].c else L[j].fs, if 2 * j + 1 < k then rowV G C j true L[j].c else L[j].hs⟩ := by
  simp [midC]
theorem midC_zero (G C : Nat → Bool → Nat) (L : List CmV) : midC G C L 0 = L := by
  apply List.ext_getElem
  · simp [midC]
  · intro j h1 h2
    simp [midC]
theorem midC_all (G C : Nat → Bool → Nat) (L : List CmV) : midC G C L (2 * L.length) = newC G C L := by
  apply List.ext_getElem
  · simp [midC, newC]
  · intro j h1 h2
    have h3 : j < L.length := by simpa [midC] using h1
    rw [midC_get _ _ _ _ _ h3]
    simp only [newC, List.getElem_mapIdx]
    rw [if_pos (by omega), if_pos (by omega)]
def upd (G : Nat → Bool → Nat) (i : Nat) (b : Bool) (g : Nat) : Nat → Bool → Nat := fun j c => if j = i ∧ c = b then g else G j c
theorem upd_same (G : Nat → Bool → Nat) (i : Nat) (b : Bool) (g : Nat) : upd G i b g i b = g := by simp [upd]
theorem upd_other (G : Nat → Bool → Nat) {i j : Nat} {b c : Bool} (g : Nat) (h : ¬ (j = i ∧ c = b)) : upd G i b g j c = G j c := by
  unfold upd
  rw [if_neg h]
theorem rowV_same (G C : Nat → Bool → Nat) (i : Nat) (b : Bool) (g c : Nat) (x : CmdD) : rowV (upd G i b g) (upd C i b c) i b x = .slice (some ⟨g, 0, none⟩) (lst b x).length c := by
  simp [rowV, upd_same]
theorem rowV_other (G C : Nat → Bool → Nat) {i j : Nat} {b d : Bool} (g c : Nat) (x : CmdD) (h : ¬ (j = i ∧ d = b)) : rowV (upd G i b g) (upd C i b c) j d x = rowV G C j d x := by
  simp only [rowV, upd_other _ _ h]
/-- One cell of a row of commands is another. -/
theorem cm_set {X Y : List CmV} (hl : X.length = Y.length) {i p : Nat} (hi : i < X.length) (hp : p < 9) {v : Value} (ho : ∀ j (h : j < X.length) (h2 : j < Y.length), j ≠ i → Y[j] = X[j]) (hy : ∀ (h2 : i < Y.length), Y[i].cells = X[i].cells.set p v) : cmCells Y = (cmCells X).set (i * 9 + p) v := by
  apply List.ext_getElem?
  intro q
  have hq : q = q / 9 * 9 + q % 9 := by omega
  have hq9 : q % 9 < 9 := Nat.mod_lt _ (by omega)
  rcases Nat.lt_or_ge (q / 9) X.length with hlt | hge
  · have hlt2 : q / 9 < Y.length := by omega
    have e1 := cmCells_at X (q / 9) hlt (q % 9) hq9
    have e2 := cmCells_at Y (q / 9) hlt2 (q % 9) hq9
    rw [← hq] at e1 e2
    rw [e2, List.getElem?_set]
    by_cases hqi : q / 9 = i
    · subst hqi
      rw [hy hlt2, List.getElem?_set]
      by_cases hqp : q % 9 = p
      · have : q / 9 * 9 + p = q := by omega
        rw [if_pos this, if_pos hqp.symm, if_pos (by simp [CmV.cells]; omega), if_pos (by rw [cmCells_length]; omega)]
      · have : ¬ q / 9 * 9 + p = q := by omega
        rw [if_neg this, if_neg (fun e => hqp e.symm), e1]
    · have : ¬ i * 9 + p = q := by omega
      rw [if_neg this, e1, ho _ hlt hlt2 hqi]
  · rw [List.getElem?_eq_none (by rw [cmCells_length]; omega), List.getElem?_eq_none (by rw [List.length_set, cmCells_length]; omega)]
def num (b : Bool) : Nat := if b then 1 else 0
/-- copied's loop under way: k of the lists are one's own. -/
structure CpI (W0 : World) (n : Int) (os : List Ovr) (L : List CmV) (bt go co gc cc k : Nat) (G C : Nat → Bool → Nat) (W : World) : Prop where
  box : W.heap[bt]? = some (.cells #[.int .i64 n, .slice (some ⟨go, 0, none⟩) os.length co, .slice (some ⟨gc, 0, none⟩) L.length cc] 25)
  ov : W.ownsRow W0.heap.size 29 2 (.slice (some ⟨go, 0, none⟩) os.length co) os.length (ovCells os)
  cm : W.ownsRow W0.heap.size 32 9 (.slice (some ⟨gc, 0, none⟩) L.length cc) L.length (cmCells (midC G C L k))
  row : ∀ i (h : i < L.length) b, 2 * i + num b < k → W.ownsRow W0.heap.size 3 1 (rowV G C i b L[i].c) (lst b L[i].c).length ((lst b L[i].c).map cellI)
  apart : ∀ i j b b', i < L.length → j < L.length → 2 * i + num b < k → 2 * j + num b' < k → G i b = G j b' → i = j ∧ b = b'
  keeps : Keeps W0 W (fun _ => False)
  low : W0.heap.size ≤ bt
theorem Fin1.begin {W0 W : World} {n : Int} {os : List Ovr} {L : List CmV} {bt go co gc cc : Nat} (h : Fin1 W0 n os L bt go co gc cc W) : CpI W0 n os L bt go co gc cc 0 (fun _ _ => 0) (fun _ _ => 0) W :=
  ⟨h.box, h.ov, by rw [midC_zero]; exact h.cm, fun i _ b hk => by omega, fun i j b b' _ _ hk => by omega, h.keeps, h.low⟩
theorem num_inj {i j : Nat} {b c : Bool} (h : 2 * i + num b = 2 * j + num c) : i = j ∧ b = c := by
  cases b <;> cases c <;> simp [num] at h ⊢ <;> omega
theorem CpI.stay {W0 W W' : World} {n : Int} {os : List Ovr} {L : List CmV} {bt go co gc cc k : Nat} {G C : Nat → Bool → Nat} (h : CpI W0 n os L bt go co gc cc k G C W) (q : Keeps W W' (fun _ => False)) : CpI W0 n os L bt go co gc cc k G C W' :=
  ⟨q.blk8 h.box, ownsRow_keeps h.ov q (fun _ _ e => e), ownsRow_keeps h.cm q (fun _ _ e => e), fun i hi b hk => ownsRow_keeps (h.row i hi b hk) q (fun _ _ e => e), h.apart, h.keeps.trans q (fun _ _ e => e), h.low⟩
theorem row_lt {W : World} {base : Nat} {e : TypeId} {size : Nat} {g n c m : Nat} {xs : List Value} (h : W.ownsRow base e size (.slice (some ⟨g, 0, none⟩) n c) m xs) : g < W.heap.size := by
  obtain ⟨-, cur, hc⟩ := ownsRow_block h (g := g) rfl
  exact heap_lt hc
/-- One list more is one's own. -/
theorem CpI.step {W0 W : World} {n : Int} {os : List Ovr} {L : List CmV} {bt go co gc cc i : Nat} {b : Bool} {G C : Nat → Bool → Nat} (h : CpI W0 n os L bt go co gc cc (2 * i + num b) G C W) (hi : i < L.length) {g c : Nat} (hrow : W.ownsRow W0.heap.size 3 1 (.slice (some ⟨g, 0, none⟩) (lst b L[i].c).length c) (lst b L[i].c).length ((lst b L[i].c).map cellI)) (hnew : ∀ j (hj : j < L.length) d, 2 * j + num d < 2 * i + num b → ¬ G j d = g) :
    CpI W0 n os L bt go co gc cc (2 * i + num b + 1) (upd G i b g) (upd C i b c) (W.setCell ⟨gc, i * 9 + (2 + num b), none⟩ (.slice (some ⟨g, 0, none⟩) (lst b L[i].c).length c)) := by
  obtain ⟨s1, s2⟩ := h.cm.stored (i * 9 + (2 + num b)) (.slice (some ⟨g, 0, none⟩) (lst b L[i].c).length c)
  have k : Keeps W (W.setCell ⟨gc, i * 9 + (2 + num b), none⟩ (.slice (some ⟨g, 0, none⟩) (lst b L[i].c).length c)) (fun q => q = gc) := (Keeps.ofGrown s2).mono (fun q hq e => by injection e with e; exact e.symm)
  obtain ⟨-, curc, hgc⟩ := ownsRow_block h.cm (g := gc) rfl
  have hlo : W0.heap.size ≤ gc := (ownsRow_block h.cm (g := gc) rfl).1
  have hold : ∀ j (hj : j < L.length) d, 2 * j + num d < 2 * i + num b → rowV (upd G i b g) (upd C i b c) j d L[j].c = rowV G C j d L[j].c := fun j hj d hk => rowV_other _ _ _ _ _ (fun e => by
    obtain ⟨rfl, rfl⟩ := e
    omega)
  have ec : cmCells (midC (upd G i b g) (upd C i b c) L (2 * i + num b + 1)) = (cmCells (midC G C L (2 * i + num b))).set (i * 9 + (2 + num b)) (.slice (some ⟨g, 0, none⟩) (lst b L[i].c).length c) := by
    refine cm_set (by rw [midC_length, midC_length]) (by rw [midC_length]; exact hi) (by cases b <;> simp [num]) (fun j h1 h2 hne => ?_) (fun h2 => ?_)
    · rw [midC_length] at h1
      rw [midC_get _ _ _ _ _ h1, midC_get _ _ _ _ _ h1, rowV_other _ _ _ _ _ (fun e => hne e.1), rowV_other _ _ _ _ _ (fun e => hne e.1)]
      have e1 : (2 * j < 2 * i + num b + 1) = (2 * j < 2 * i + num b) := by
        apply propext
        cases b <;> simp [num] <;> omega
      have e2 : (2 * j + 1 < 2 * i + num b + 1) = (2 * j + 1 < 2 * i + num b) := by
        apply propext
        cases b <;> simp [num] <;> omega
      simp only [e1, e2]
    · rw [midC_get _ _ _ _ _ hi, midC_get _ _ _ _ _ hi]
      cases b with
      | false =>
        rw [rowV_same]
        simp [num, CmV.cells]
        intro h
        omega
      | true =>
        rw [rowV_same, rowV_other _ _ _ _ _ (fun e => by cases e.2)]
        simp [num, CmV.cells]
        intro h
        omega
  have hne : ¬ bt = gc := fun e => by
    have := h.box
    rw [e, hgc] at this
    injection this with this
    injection this with _ e2 _
    exact absurd e2 (by decide)
  refine ⟨(k.block _ (heap_lt h.box) hne).trans h.box, ownsRow_keeps h.ov k (own_ne h.ov hgc (by decide)), by rw [ec]; exact s1, fun j hj d hk => ?_, fun j1 j2 d1 d2 h1 h2 h3 h4 he => ?_, h.keeps.trans k (fun q hq e => by omega), h.low⟩
  · rcases Nat.lt_or_ge (2 * j + num d) (2 * i + num b) with hlt | hge
    · rw [hold j hj d hlt]
      exact ownsRow_keeps (h.row j hj d hlt) k (own_ne (h.row j hj d hlt) hgc (by decide))
    · obtain ⟨rfl, rfl⟩ := num_inj (show 2 * j + num d = 2 * i + num b by omega)
      rw [rowV_same]
      exact ownsRow_keeps hrow k (own_ne hrow hgc (by decide))
  · rcases Nat.lt_or_ge (2 * j1 + num d1) (2 * i + num b) with hl1 | hg1
    · rcases Nat.lt_or_ge (2 * j2 + num d2) (2 * i + num b) with hl2 | hg2
      · rw [upd_other _ _ (fun e => by obtain ⟨rfl, rfl⟩ := e; omega), upd_other _ _ (fun e => by obtain ⟨rfl, rfl⟩ := e; omega)] at he
        exact h.apart j1 j2 d1 d2 h1 h2 hl1 hl2 he
      · obtain ⟨rfl, rfl⟩ := num_inj (show 2 * j2 + num d2 = 2 * i + num b by omega)
        rw [upd_other _ _ (fun e => by obtain ⟨rfl, rfl⟩ := e; omega), upd_same] at he
        exact absurd he (hnew j1 h1 d1 hl1)
    · obtain ⟨rfl, rfl⟩ := num_inj (show 2 * j1 + num d1 = 2 * i + num b by omega)
      rcases Nat.lt_or_ge (2 * j2 + num d2) (2 * j1 + num d1) with hl2 | hg2
      · rw [upd_same, upd_other _ _ (fun e => by obtain ⟨rfl, rfl⟩ := e; omega)] at he
        exact absurd he.symm (hnew j2 h2 d2 hl2)
      · exact num_inj (by omega)
theorem ownsRow_low {w : World} {b1 b2 : Nat} {e : TypeId} {size : Nat} {v : Value} {n : Nat} {xs : List Value} (h : w.ownsRow b1 e size v n xs) (hb : b2 ≤ b1) : w.ownsRow b2 e size v n xs := by
  refine ⟨h.1, ?_⟩
  rcases h.2 with h2 | ⟨g, cap, cur, e1, e2, r⟩
  · exact Or.inl h2
  · exact Or.inr ⟨g, cap, cur, e1, by omega, r⟩
theorem CpI.done {w W0 W : World} {n : Int} {os : List Ovr} {L : List CmV} {bt go co gc cc rb : Nat} {G C : Nat → Bool → Nat} {x y z a b c : Value} (h : CpI W0 n os L bt go co gc cc (2 * L.length) G C W) (k : Keeps w W0 (fun _ => False)) (hb : W.heap[rb]? = some (.cells #[x, y, z] 25)) (hrb : w.heap.size ≤ rb) :
    Cpy w.heap.size os L go co gc cc G C (((W.setCell ⟨rb, 0, none⟩ a).setCell ⟨rb, 1, none⟩ b).setCell ⟨rb, 2, none⟩ c) ∧ Keeps w (((W.setCell ⟨rb, 0, none⟩ a).setCell ⟨rb, 1, none⟩ b).setCell ⟨rb, 2, none⟩ c) (fun _ => False) := by
  have k3 := keeps_set3 (W := W) (N := rb) a b c
  have hcm := h.cm
  rw [midC_all] at hcm
  refine ⟨⟨ownsRow_low (ownsRow_keeps h.ov k3 (own_ne h.ov hb (by decide))) k.size, ownsRow_low (ownsRow_keeps hcm k3 (own_ne hcm hb (by decide))) k.size, fun i hi d => ?_, fun i j d d' hi hj he => ?_⟩, (k.trans h.keeps (fun _ _ e => e)).trans k3 (fun i hi e => by omega)⟩
  · have hr := h.row i hi d (by cases d <;> simp [num] <;> omega)
    exact ownsRow_low (ownsRow_keeps hr k3 (own_ne hr hb (by decide))) k.size
  · exact h.apart i j d d' hi hj (by cases d <;> simp [num] <;> omega) (by cases d' <;> simp [num] <;> omega) he
theorem CpI.fresh {W0 W : World} {n : Int} {os : List Ovr} {L : List CmV} {bt go co gc cc k : Nat} {G C : Nat → Bool → Nat} (h : CpI W0 n os L bt go co gc cc k G C W) {g : Nat} (hg : W.heap.size ≤ g) : ∀ j (hj : j < L.length) d, 2 * j + num d < k → ¬ G j d = g := fun j hj d hk e => by
  have := row_lt (h.row j hj d hk)
  omega
theorem CpI.cell {W0 W : World} {n : Int} {os : List Ovr} {L : List CmV} {bt go co gc cc k : Nat} {G C : Nat → Bool → Nat} (h : CpI W0 n os L bt go co gc cc k G C W) {i p : Nat} (hi : i < L.length) (hp : p < 9) : ∃ v, W.cell? ⟨gc, i * 9 + p, none⟩ = some v := by
  have hlen := midC_length G C L k
  rw [h.cm.cellAt (i * 9 + p) (by omega), cmCells_at _ i (by rw [hlen]; exact hi) p hp]
  exact ⟨_, List.getElem?_eq_getElem (by simp [CmV.cells]; omega)⟩
end Go.Proofs.YtpkbjjbbdhehdaaDoor
