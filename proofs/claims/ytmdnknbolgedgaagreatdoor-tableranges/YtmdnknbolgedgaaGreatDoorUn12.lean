import Derived.Deep.QuietTactic
import Derived.BigQuiet
import Derived.Deep.LoopGhost
import Derived.Test.YtmdnknbolgedgaaGreatDoorUn11
/-
  A table as a finite map, whatever the hashes are.
-/
namespace Go.Proofs.YtmdnknbolgedgaaGreatDoor
open Go.RowKit Go.Shelf Ly Ct
set_option linter.unusedVariables false

theorem emp_iff {c : Nat → GC} {g : Nat} : empG c g = true ↔ ∃ j, j < 8 ∧ (c (8 * g + j)).kind = 0 := by
  unfold empG grpC
  rw [List.any_eq_true]
  constructor
  · rintro ⟨j, h1, h2⟩
    exact ⟨j, List.mem_range.1 h1, of_decide_eq_true h2⟩
  · rintro ⟨j, h1, h2⟩
    exact ⟨j, List.mem_range.2 h1, decide_eq_true h2⟩
theorem emp_false {c : Nat → GC} {g : Nat} : empG c g = false ↔ ∀ j, j < 8 → (c (8 * g + j)).kind ≠ 0 := by
  constructor
  · intro h j hj e
    rw [emp_iff.2 ⟨j, hj, e⟩] at h
    cases h
  · intro h
    cases he : empG c g
    · rfl
    · obtain ⟨j, h1, h2⟩ := emp_iff.1 he
      exact absurd h2 (h j h1)

/-- The cells of a table of G groups, whose keys have the hashes hs: each key once, its tag right, its group reached; no group has empty and deleted slots. -/
structure TInv (c : Nat → GC) (G : Nat) (hs : ByteArray → Nat) : Prop where
  one : ∀ s t, s < 8 * G → t < 8 * G → (c s).kind = 2 → (c t).kind = 2 → (c s).key = (c t).key → s = t
  tag : ∀ s, s < 8 * G → (c s).kind = 2 → (c s).tag = ((hs (c s).key : Nat) : Int) % 128
  way : ∀ s, s < 8 * G → (c s).kind = 2 → ∃ i, i < G ∧ Pb.metN (hs (c s).key / 128) G i = s / 8 ∧ ∀ j, j < i → empG c (Pb.metN (hs (c s).key / 128) G j) = false
  mix : ∀ g, g < G → empG c g = true → ∀ j, j < 8 → (c (8 * g + j)).kind ≠ 1
theorem tinv_new (G : Nat) (hs : ByteArray → Nat) : TInv (fun _ => GC.zero) G hs := ⟨fun s t _ _ h => absurd h (by decide), fun s _ h => absurd h (by decide), fun s _ h => absurd h (by decide), fun g _ _ j _ => by decide⟩
section
variable {c : Nat → GC} {G k : Nat} {hs : ByteArray → Nat}
theorem met_inj (hG : G = 2 ^ k) {h a b : Nat} (ha : a < G) (hb : b < G) (e : Pb.metN h G a = Pb.metN h G b) : a = b := by
  rw [hG] at ha hb e
  rcases Nat.lt_trichotomy a b with q | q | q
  · exact absurd e (Pb.metN_lt_ne q hb)
  · exact q
  · exact absurd e.symm (Pb.metN_lt_ne q ha)
/-- A key that is there is found in its slot. -/
theorem TInv.found (h : TInv c G hs) (hG : G = 2 ^ k) {s : Nat} (hs8 : s < 8 * G) (h2 : (c s).kind = 2) : ∃ n v, srchT c (((hs (c s).key : Nat) : Int) % 128) (c s).key (Pb.metN (hs (c s).key / 128) G) G = ⟨n, some s, v⟩ := by
  have hG0 : 0 < G := by omega
  obtain ⟨i, hi, hm, he⟩ := h.way s hs8 h2
  have hlt : ∀ a, Pb.metN (hs (c s).key / 128) G a < G := fun a => Pb.metN_lt hG0
  have hgo : goes c (((hs (c s).key : Nat) : Int) % 128) (c s).key (Pb.metN (hs (c s).key / 128) G) i := fun j hj => by
    refine ⟨fun hh => ?_, he j hj⟩
    obtain ⟨q1, q2, q3⟩ := hit_cell hh
    have hl := hlt j
    have e := h.one _ _ (by omega) hs8 q1 h2 q3
    have : Pb.metN (hs (c s).key / 128) G j = s / 8 := by omega
    exact absurd (met_inj hG (by omega) hi (this.trans hm.symm)) (by omega)
  have hhit : hitG c (((hs (c s).key : Nat) : Int) % 128) (c s).key (Pb.metN (hs (c s).key / 128) G i) = s % 8 := by
    rw [hm]
    refine low_is (by omega) ?_ (fun z hz => ?_)
    · refine decide_eq_true ?_
      show (c (8 * (s / 8) + s % 8)).kind = 2 ∧ (c (8 * (s / 8) + s % 8)).tag = _ ∧ (c (8 * (s / 8) + s % 8)).key = _
      rw [show 8 * (s / 8) + s % 8 = s by omega]
      exact ⟨h2, h.tag s hs8 h2, rfl⟩
    · refine decide_eq_false fun q => ?_
      have e := h.one (8 * (s / 8) + z) s (by omega) hs8 q.1 h2 q.2.2
      omega
  have := srch_hit hgo hi (by rw [hhit]; omega)
  rw [hhit, hm, show 8 * (s / 8) + s % 8 = s by omega] at this
  exact ⟨_, _, this⟩
/-- One that is not there is not found. -/
theorem absent {tag : Int} {key : ByteArray} {m : Nat → Nat} (hm : ∀ i, i < G → m i < G) (h : ∀ s, s < 8 * G → (c s).kind = 2 → (c s).key ≠ key) : (srchT c tag key m G).slot = none := by
  cases e : (srchT c tag key m G).slot with
  | none => rfl
  | some s =>
    obtain ⟨h1, h2, h3, h4⟩ := srch_slot hm e
    exact absurd h4 (h s h1 h2)
/-- The groups ahead of the first vacant slot's have no empty slot. -/
theorem srchN_way {tag : Int} {key : ByteArray} {m : Nat → Nat} : ∀ (f s : Nat) (v : Option Nat) (x : Nat), (∀ j, j < s → empG c (m j) = false) → (∀ y, v = some y → ∃ i, i < s + f ∧ m i = y / 8 ∧ ∀ j, j < i → empG c (m j) = false) → (srchN c tag key m f s v).vac = some x → ∃ i, i < s + f ∧ m i = x / 8 ∧ ∀ j, j < i → empG c (m j) = false
  | 0, s, v, x, _, hv, h => hv x h
  | f + 1, s, v, x, he, hv, h => by
    have hmeet : ∀ y, meetV v c (m s) = some y → ∃ i, i < s + (f + 1) ∧ m i = y / 8 ∧ ∀ j, j < i → empG c (m j) = false := fun y q => by
      cases v with
      | some z => exact hv y q
      | none =>
        simp only [meetV] at q
        by_cases h8 : vacG c (m s) < 8
        · rw [if_pos h8] at q
          have := Option.some.inj q
          exact ⟨s, by omega, by omega, he⟩
        · rw [if_neg h8] at q
          cases q
    unfold srchN at h
    split at h
    · exact hv x h
    · split at h
      · exact hmeet x h
      · rename_i _ hne
        have := srchN_way f (s + 1) (meetV v c (m s)) x (fun j hj => by
          rcases Nat.lt_or_ge j s with q | q
          · exact he j q
          · obtain rfl : j = s := by omega
            cases hb : empG c (m j)
            · rfl
            · exact absurd hb hne) (fun y hy => by
          obtain ⟨i, h1, h2⟩ := hmeet y hy
          exact ⟨i, by omega, h2⟩) h
        obtain ⟨i, h1, h2⟩ := this
        exact ⟨i, by omega, h2⟩
theorem srch_way {tag : Int} {key : ByteArray} {m : Nat → Nat} {x : Nat} (h : (srchT c tag key m G).vac = some x) : ∃ i, i < G ∧ m i = x / 8 ∧ ∀ j, j < i → empG c (m j) = false := by
  have := srchN_way G 0 none x (fun j hj => by omega) (fun y hy => by cases hy) h
  simpa using this
/-- A key's elem is replaced. -/
theorem TInv.elem (h : TInv c G hs) {s : Nat} (e : ByteArray) : TInv (updN c s { c s with elem := e }) G hs := by
  have hk : ∀ t, (updN c s { c s with elem := e } t).kind = (c t).kind ∧ (updN c s { c s with elem := e } t).key = (c t).key ∧ (updN c s { c s with elem := e } t).tag = (c t).tag := fun t => by
    unfold updN
    split
    · rename_i q
      rw [q]
      exact ⟨rfl, rfl, rfl⟩
    · exact ⟨rfl, rfl, rfl⟩
  have hE : ∀ g, empG (updN c s { c s with elem := e }) g = empG c g := fun g => by
    cases hb : empG c g
    · rw [emp_false] at hb ⊢
      intro j hj
      rw [(hk _).1]
      exact hb j hj
    · rw [emp_iff] at hb ⊢
      obtain ⟨j, h1, h2⟩ := hb
      exact ⟨j, h1, by rw [(hk _).1]; exact h2⟩
  refine ⟨fun a b ha hb h1 h2 h3 => ?_, fun a ha h1 => ?_, fun a ha h1 => ?_, fun g hg h1 j hj => ?_⟩
  · rw [(hk _).1] at h1 h2
    rw [(hk _).2.1, (hk _).2.1] at h3
    exact h.one a b ha hb h1 h2 h3
  · rw [(hk _).1] at h1
    rw [(hk _).2.1, (hk _).2.2]
    exact h.tag a ha h1
  · rw [(hk _).1] at h1
    rw [(hk _).2.1]
    obtain ⟨i, q1, q2, q3⟩ := h.way a ha h1
    exact ⟨i, q1, q2, fun j hj => by rw [hE]; exact q3 j hj⟩
  · rw [hE] at h1
    rw [(hk _).1]
    exact h.mix g hg h1 j hj
/-- A new key is laid into the first vacant slot of its way. -/
theorem TInv.fill (h : TInv c G hs) {v : Nat} (hv8 : v < 8 * G) (hv : (c v).kind ≠ 2) {key e : ByteArray} {b : Int} (hw : ∃ i, i < G ∧ Pb.metN (hs key / 128) G i = v / 8 ∧ ∀ j, j < i → empG c (Pb.metN (hs key / 128) G j) = false) (hn : ∀ s, s < 8 * G → (c s).kind = 2 → (c s).key ≠ key) : TInv (updN c v (GC.full (((hs key : Nat) : Int) % 128) key e b)) G hs := by
  have hv1 : updN c v (GC.full (((hs key : Nat) : Int) % 128) key e b) v = GC.full (((hs key : Nat) : Int) % 128) key e b := if_pos rfl
  have hv2 : ∀ t, t ≠ v → updN c v (GC.full (((hs key : Nat) : Int) % 128) key e b) t = c t := fun t q => if_neg q
  generalize hc' : updN c v (GC.full (((hs key : Nat) : Int) % 128) key e b) = c' at *
  have hE : ∀ g, empG c g = false → empG c' g = false := fun g hb => by
    rw [emp_false] at hb ⊢
    intro j hj
    by_cases q : 8 * g + j = v
    · rw [q, hv1]
      show (2 : Int) ≠ 0
      decide
    · rw [hv2 _ q]
      exact hb j hj
  have hE2 : ∀ g, empG c' g = true → empG c g = true := fun g hb => by
    cases q : empG c g
    · rw [hE g q] at hb
      cases hb
    · rfl
  refine ⟨fun a t ha ht h1 h2 h3 => ?_, fun a ha h1 => ?_, fun a ha h1 => ?_, fun g hg h1 j hj => ?_⟩
  · by_cases qa : a = v
    · by_cases qt : t = v
      · omega
      · rw [qa, hv1, hv2 t qt] at h3
        rw [hv2 t qt] at h2
        exact absurd h3.symm (hn t ht h2)
    · by_cases qt : t = v
      · rw [qt, hv1, hv2 a qa] at h3
        rw [hv2 a qa] at h1
        exact absurd h3 (hn a ha h1)
      · rw [hv2 a qa] at h1 h3
        rw [hv2 t qt] at h2 h3
        exact h.one a t ha ht h1 h2 h3
  · by_cases qa : a = v
    · rw [qa, hv1]
      rfl
    · rw [hv2 a qa] at h1 ⊢
      exact h.tag a ha h1
  · by_cases qa : a = v
    · rw [qa, hv1]
      obtain ⟨i, q1, q2, q3⟩ := hw
      exact ⟨i, q1, q2, fun j hj => hE _ (q3 j hj)⟩
    · rw [hv2 a qa] at h1 ⊢
      obtain ⟨i, q1, q2, q3⟩ := h.way a ha h1
      exact ⟨i, q1, q2, fun j hj => hE _ (q3 j hj)⟩
  · by_cases q : 8 * g + j = v
    · rw [q, hv1]
      show (2 : Int) ≠ 1
      decide
    · rw [hv2 _ q]
      exact h.mix g hg (hE2 g h1) j hj
/-- A key is deleted: its slot is empty, where its group has an empty one, else deleted. -/
theorem TInv.gone (h : TInv c G hs) {v : Nat} (hv8 : v < 8 * G) (hv : (c v).kind = 2) : TInv (updN c v (if empG c (v / 8) then GC.zero else GC.gone)) G hs := by
  obtain ⟨x, hx⟩ : ∃ x, (if empG c (v / 8) then GC.zero else GC.gone) = x := ⟨_, rfl⟩
  have hx2 : x.kind ≠ 2 := by
    rw [← hx]
    cases empG c (v / 8) <;> decide
  have hx0 : x.kind = 0 → empG c (v / 8) = true := fun q => by
    cases e : empG c (v / 8)
    · rw [e] at hx
      rw [← hx] at q
      exact absurd q (by decide)
    · rfl
  have hx1 : x.kind = 1 → empG c (v / 8) = false := fun q => by
    cases e : empG c (v / 8)
    · rfl
    · rw [e] at hx
      rw [← hx] at q
      exact absurd q (by decide)
  rw [hx]
  have hv1 : updN c v x v = x := if_pos rfl
  have hv2 : ∀ t, t ≠ v → updN c v x t = c t := fun t q => if_neg q
  generalize hc' : updN c v x = c' at *
  have hE : ∀ g, empG c' g = empG c g := fun g => by
    cases hb : empG c g
    · rw [emp_false] at hb ⊢
      intro j hj
      by_cases q : 8 * g + j = v
      · rw [q, hv1]
        intro h0
        have h1 := hx0 h0
        rw [show v / 8 = g by omega] at h1
        obtain ⟨j', p1, p2⟩ := emp_iff.1 h1
        exact hb j' p1 p2
      · rw [hv2 _ q]
        exact hb j hj
    · rw [emp_iff] at hb ⊢
      obtain ⟨j, h1, h2⟩ := hb
      refine ⟨j, h1, ?_⟩
      rw [hv2 _ (fun q => by rw [q, hv] at h2; exact absurd h2 (by decide))]
      exact h2
  have hne : ∀ a, (c' a).kind = 2 → a ≠ v := fun a q e => by
    rw [e, hv1] at q
    exact hx2 q
  refine ⟨fun a t ha ht h1 h2 h3 => ?_, fun a ha h1 => ?_, fun a ha h1 => ?_, fun g hg h1 j hj => ?_⟩
  · have qa := hne a h1
    have qt := hne t h2
    rw [hv2 a qa] at h1 h3
    rw [hv2 t qt] at h2 h3
    exact h.one a t ha ht h1 h2 h3
  · have qa := hne a h1
    rw [hv2 a qa] at h1 ⊢
    exact h.tag a ha h1
  · have qa := hne a h1
    rw [hv2 a qa] at h1 ⊢
    obtain ⟨i, q1, q2, q3⟩ := h.way a ha h1
    exact ⟨i, q1, q2, fun j hj => by rw [hE]; exact q3 j hj⟩
  · rw [hE] at h1
    by_cases q : 8 * g + j = v
    · rw [q, hv1]
      intro e
      have := hx1 e
      rw [show v / 8 = g by omega, h1] at this
      cases this
    · rw [hv2 _ q]
      exact h.mix g hg h1 j hj
end
end Go.Proofs.YtmdnknbolgedgaaGreatDoor
/-
  Counts of a table's cells; where there is no vacant slot on a way, all are full.
-/
namespace Go.Proofs.YtmdnknbolgedgaaGreatDoor
open Go.RowKit Go.Shelf Ly Ct
set_option linter.unusedVariables false

/-- How many of the first n cells have P. -/
def cntC (P : GC → Bool) (c : Nat → GC) (n : Nat) : Nat := (List.range n).countP (fun s => P (c s))
theorem cntC_succ (P : GC → Bool) (c : Nat → GC) (n : Nat) : cntC P c (n + 1) = cntC P c n + if P (c n) then 1 else 0 := by
  unfold cntC
  rw [List.range_succ, List.countP_append, List.countP_singleton]
theorem cntC_le (P : GC → Bool) (c : Nat → GC) : ∀ n, cntC P c n ≤ n
  | 0 => by simp [cntC]
  | n + 1 => by
    rw [cntC_succ]
    have := cntC_le P c n
    split <;> omega
theorem cntC_same {P : GC → Bool} {c c' : Nat → GC} : ∀ n, (∀ s, s < n → P (c' s) = P (c s)) → cntC P c' n = cntC P c n
  | 0, _ => rfl
  | n + 1, h => by
    rw [cntC_succ, cntC_succ, cntC_same n (fun s hs => h s (by omega)), h n (Nat.lt_succ_self n)]
theorem cntC_upd (P : GC → Bool) (c : Nat → GC) (v : Nat) (x : GC) : ∀ n, v < n → cntC P (updN c v x) n + (if P (c v) then 1 else 0) = cntC P c n + if P x then 1 else 0
  | 0, h => absurd h (Nat.not_lt_zero _)
  | n + 1, h => by
    rw [cntC_succ, cntC_succ]
    by_cases e : v = n
    · subst e
      have h1 : updN c v x v = x := if_pos rfl
      have h2 : cntC P (updN c v x) v = cntC P c v := cntC_same v (fun s hs => by
        have : updN c v x s = c s := if_neg (by omega)
        rw [this])
      rw [h1, h2]
      omega
    · have h1 : updN c v x n = c n := if_neg (fun q => e q.symm)
      have := cntC_upd P c v x n (by omega)
      rw [h1]
      omega
theorem cntC_all {P : GC → Bool} {c : Nat → GC} : ∀ n, (∀ s, s < n → P (c s) = true) → cntC P c n = n
  | 0, _ => rfl
  | n + 1, h => by
    rw [cntC_succ, cntC_all n (fun s hs => h s (by omega)), if_pos (h n (Nat.lt_succ_self n))]
theorem cntC_none {P : GC → Bool} {c : Nat → GC} : ∀ n, (∀ s, s < n → P (c s) = false) → cntC P c n = 0
  | 0, _ => rfl
  | n + 1, h => by
    rw [cntC_succ, cntC_none n (fun s hs => h s (by omega)), h n (Nat.lt_succ_self n)]
    rfl

section
variable {c : Nat → GC} {tag : Int} {key : ByteArray} {m : Nat → Nat} {G : Nat}
/-- A group without a vacant slot is full. -/
theorem vac_full {g : Nat} (h : ¬ vacG c g < 8) {j : Nat} (hj : j < 8) : (c (8 * g + j)).kind = 2 := by
  obtain ⟨a, b, d⟩ := low_spec (fun j => decide ((grpC c g j).kind ≠ 2)) 8 (Nat.le_refl _)
  have h8 : vacG c g = 8 := by
    have : vacG c g ≤ 8 := a
    omega
  have := d j (by omega) (by show j < vacG c g; omega)
  have q := of_decide_eq_false this
  exact Decidable.not_not.1 q
theorem emp_vac {g : Nat} (h : empG c g = true) : vacG c g < 8 := by
  obtain ⟨j, hj, h0⟩ := emp_iff.1 h
  refine Nat.lt_of_not_le fun hn => ?_
  have := vac_full (c := c) (g := g) (by omega) hj
  rw [h0] at this
  exact absurd this (by decide)
theorem srchN_none : ∀ (f s : Nat) (v : Option Nat), (srchN c tag key m f s v).slot = none → (srchN c tag key m f s v).vac = none → v = none ∧ ∀ i, s ≤ i → i < s + f → ¬ vacG c (m i) < 8
  | 0, s, v, _, h => ⟨h, fun i h1 h2 => by omega⟩
  | f + 1, s, v, h1, h2 => by
    unfold srchN at h1 h2
    split at h1
    · cases h1
    · rename_i hh
      rw [if_neg hh] at h2
      split at h1
      · rename_i he
        rw [if_pos he] at h2
        have hv := emp_vac he
        cases v with
        | some y => cases h2
        | none =>
          simp only [meetV] at h2
          rw [if_pos hv] at h2
          cases h2
      · rename_i he
        rw [if_neg he] at h2
        obtain ⟨q1, q2⟩ := srchN_none f (s + 1) _ h1 h2
        cases v with
        | some y => cases q1
        | none =>
          refine ⟨rfl, fun i h3 h4 => ?_⟩
          by_cases e : i = s
          · subst e
            intro hv
            simp only [meetV] at q1
            rw [if_pos hv] at q1
            cases q1
          · exact q2 i (by omega) (by omega)
/-- No vacant slot on the way of a key that is not there: all slots are full. -/
theorem srch_full {h k : Nat} (hG : G = 2 ^ k) (h1 : (srchT c tag key (Pb.metN h G) G).slot = none) (h2 : (srchT c tag key (Pb.metN h G) G).vac = none) : ∀ s, s < 8 * G → (c s).kind = 2 := fun s hs => by
  obtain ⟨-, q⟩ := srchN_none G 0 none h1 h2
  obtain ⟨i, hi, hm⟩ := Pb.metN_onto (h := h) (k := k) (x := s / 8) (by rw [← hG]; omega)
  rw [← hG] at hi hm
  have := vac_full (q i (Nat.zero_le _) (by omega)) (j := s % 8) (by omega)
  rw [hm, show 8 * (s / 8) + s % 8 = s by omega] at this
  exact this
end
end Go.Proofs.YtmdnknbolgedgaaGreatDoor
/-
  The law's text: a number as so many bytes.
-/
namespace Go.Proofs.YtmdnknbolgedgaaGreatDoor
open Go.RowKit Go.Shelf
set_option linter.unusedVariables false

def txB (n : Int) (i : Nat) : UInt8 := UInt8.ofNat ((n / 256 ^ i) % 256).toNat
def txL (n : Int) (w : Nat) : List UInt8 := (List.range w).map (txB n)
theorem txL_length (n : Int) (w : Nat) : (txL n w).length = w := by simp [txL]
theorem txL_succ (n : Int) (w : Nat) : txL n (w + 1) = txL n w ++ [txB n w] := by simp [txL, List.range_succ]
theorem txB_nat (n : Int) (i : Nat) : ((txB n i).toNat : Int) = (n / 256 ^ i) % 256 := by
  unfold txB
  have h1 := Int.emod_nonneg (n / 256 ^ i) (show (256 : Int) ≠ 0 by decide)
  have h2 := Int.emod_lt_of_pos (n / 256 ^ i) (show (0 : Int) < 256 by decide)
  generalize n / 256 ^ i % 256 = q at *
  have : (UInt8.ofNat q.toNat).toNat = q.toNat := by
    rw [UInt8.toNat_ofNat']
    omega
  rw [this]
  omega
theorem tx_mix (n : Int) (w k : Nat) (h : k < w) : (rowOf (txL n k ++ zeros (w - k))).setIfInBounds k (.int .u8 ((txB n k).toNat : Int)) = rowOf (txL n (k + 1) ++ zeros (w - (k + 1))) := by
  apply Array.ext'
  obtain ⟨m, hm⟩ : ∃ m, w - k = m + 1 := ⟨w - k - 1, by omega⟩
  have hm' : w - (k + 1) = m := by omega
  rw [Array.toList_setIfInBounds, rowOf_toList, rowOf_toList, hm, hm']
  have e1 : cellsOf (txL n k ++ zeros (m + 1)) = cellsOf (txL n k) ++ (.int .u8 0 :: cellsOf (zeros m)) := by
    rw [cellsOf_append]
    rfl
  have e2 : cellsOf (txL n (k + 1) ++ zeros m) = cellsOf (txL n k) ++ (.int .u8 ((txB n k).toNat : Int) :: cellsOf (zeros m)) := by
    rw [txL_succ, List.append_assoc, cellsOf_append]
    rfl
  have hl : (cellsOf (txL n k)).length = k := by rw [cellsOf_length, txL_length]
  rw [e1, e2, List.set_append_right _ _ (by omega), hl, Nat.sub_self]
  rfl
theorem div_fits {n : Int} (h : fitsI n) (k : Nat) : fitsI (n / 256 ^ k) := by
  have hb := fitsI_bounds h
  have hp : (0 : Int) < 256 ^ k := Int.pow_pos (by decide)
  refine fitsI_mk ?_ ?_
  · refine Int.le_ediv_of_mul_le hp ?_
    have : (1 : Int) ≤ 256 ^ k := hp
    have := Int.mul_le_mul_of_nonneg_left this (show (0 : Int) ≤ 9223372036854775808 by decide)
    omega
  · refine Int.not_lt.1 fun hgt => ?_
    have h1 := Int.ediv_mul_le n (show (256 : Int) ^ k ≠ 0 by omega)
    have h2 := Int.mul_le_mul_of_nonneg_left (show (1 : Int) ≤ 256 ^ k from hp) (show 0 ≤ n / 256 ^ k by omega)
    omega

set_option maxHeartbeats 1000000 in
theorem text_any (n : Int) (k0 : Nat) (w : World) (hn : fitsI n) (hk0 : k0 ≤ 1000) : Calls Tryz.prog 14 #[.int .i64 n, .int .i64 (k0 : Int)] w fun e w' => e = .returned (.string (strOf (txL n k0))) ∧ Keeps w w' (fun _ => False) := by
  have hmk := run_make_bytes (P := Tryz.prog) w 106 5 Tryz.underlying106 Tryz.infoE k0 (by omega)
  obtain ⟨S, hS⟩ : ∃ S, strOf (txL n k0) = S := ⟨_, rfl⟩
  rw [hS]
  go_enter Tryz.func14, Tryz.ntmps14
  go_wp2_with fail
  go_loopw [0, 6] (fun v0 i wr => ∃ k : Nat, v0 = .int .i64 (n / 256 ^ k) ∧ i = .int .i64 (k : Int) ∧ k ≤ k0 ∧ wr.heap[w.heap.size]? = some (.cells (rowOf (txL n k ++ zeros (k0 - k))) 5) ∧ Keeps w wr (fun _ => False)) (fun _ i _ => k0 - (intOf i).toNat)
  case atStart => exact ⟨0, by simp, rfl, Nat.zero_le _, heap_alloc_new _ _, (Keeps.refl _ _).alloc _⟩
  case round =>
    obtain ⟨k, rfl, rfl, hk, hr, K⟩ := hrel
    clear hmk
    have hfk := fitsI_bounds (div_fits hn k)
    by_cases hlt : k < k0
    · have hlt' : (k : Int) < (k0 : Int) := by omega
      have hb := txB_nat n k
      have hq : (n / 256 ^ k) / 256 = n / 256 ^ (k + 1) := by
        rw [Int.pow_succ, Int.ediv_ediv_of_nonneg (Int.le_of_lt (Int.pow_pos (by decide)))]
      have hc : wr.cell? ⟨w.heap.size, k, none⟩ = some (.int .u8 ((((txL n k ++ zeros (k0 - k))[k]'(by simp [txL_length, zeros_length]; omega)).toNat : Int))) := by
        have := rowOf_get (txL n k ++ zeros (k0 - k)) k (by simp [txL_length, zeros_length]; omega)
        simp only [World.cell?, hr]
        simpa using this
      have hf : wr.frozen? ⟨w.heap.size, k, none⟩ = false := by simp [World.frozen?, hr]
      have hr2 : (wr.setCell ⟨w.heap.size, k, none⟩ (.int .u8 ((txB n k).toNat : Int))).heap[w.heap.size]? = some (.cells (rowOf (txL n (k + 1) ++ zeros (k0 - (k + 1)))) 5) := by
        rw [setCell_eq_setRow wr w.heap.size k _ 5 (0, 0) _ hr, heap_setRow_same hr, tx_mix n k0 k hlt]
      have K2 : Keeps w (wr.setCell ⟨w.heap.size, k, none⟩ (.int .u8 ((txB n k).toNat : Int))) (fun _ => False) := K.setCell ⟨w.heap.size, k, none⟩ (fun h => absurd h (Nat.lt_irrefl _)) _
      generalize ((txL n k ++ zeros (k0 - k))[k]'(by simp [txL_length, zeros_length]; omega)).toNat = old at *
      rw [hb] at hr2 K2
      have HR := hide hr2
      have HK := hide K2
      have HQ := hide hq
      generalize n / 256 ^ k = x at *
      have hwx : IntKind.u8.wrap x = x % 256 := IntKind.wrap_u8 x
      clear hr K hr2 K2 hq hb
      go_wp2_with fail
      go_roundw
      case rel => exact ⟨k + 1, by rw [← HQ.out], by go_num, by omega, HR.out, HK.out⟩
      case measure => simp [intOf]; omega
    · have hkn : k = k0 := by omega
      subst hkn
      have hlt' : ¬ (k : Int) < (k : Int) := by omega
      have htx := run_text wr ⟨w.heap.size, 0, none⟩ k k (txL n k) (txL_length n k) (fun j hj => by
        rw [addr_add, Nat.zero_add]
        have := rowOf_get (txL n k ++ zeros (k - k)) j (by simp; omega)
        simp only [World.cell?, hr]
        simpa [List.getElem_append_left hj] using this)
      rw [hS] at htx
      have K2 := hide K
      clear hr K hS
      go_wp2_with fail
      go_ret
      exact ⟨rfl, K2.out⟩
end Go.Proofs.YtmdnknbolgedgaaGreatDoor
/-
  Blocks and cells that stay.
-/
namespace Go.Proofs.YtmdnknbolgedgaaGreatDoor
open Go.RowKit Go.Shelf
set_option linter.unusedVariables false

theorem keeps_cell {W W1 : World} {q j : Nat} {v : Value} {S : Nat → Prop} (k : Keeps W W1 S) (hS : ¬ S q) (e : W.cell? ⟨q, j, none⟩ = some v) : W1.cell? ⟨q, j, none⟩ = some v := by
  have : q < W.heap.size := by
    refine Nat.lt_of_not_le fun hn => ?_
    rw [World.cell?, Array.getElem?_eq_none hn] at e
    cases e
  exact (World.cell?_of_block (w := W) (a := ⟨q, j, none⟩) (k.block q this hS)).trans e
theorem Keeps.blkS {w w1 : World} {S : Nat → Prop} (h : Keeps w w1 S) {b : Nat} {x : Obj} (hb : w.heap[b]? = some x) (hS : ¬ S b) : w1.heap[b]? = some x := (h.block b (heap_lt hb) hS).trans hb
end Go.Proofs.YtmdnknbolgedgaaGreatDoor
/-
  The law's key: a number's text and its hash.
-/
namespace Go.Proofs.YtmdnknbolgedgaaGreatDoor
open Go.RowKit Go.Shelf
set_option linter.unusedVariables false

theorem wrm {x : Int} (h0 : -1000000 ≤ x) (h1 : x ≤ 1000000) : wrap64 x = x ∧ IntKind.i64.wrap x = x := by
  constructor
  · unfold wrap64; omega
  · rw [IntKind.wrap_i64]; omega
/-- Which key a number is, and which of the hashes is its. -/
def keyN (n : Int) : Nat := (n.tmod 1000).natAbs
def hasN (n : Int) (lk : Int) (nh : Nat) : Nat := (if lk = 1 then keyN n % 256 else keyN n) % nh
theorem keyN_lt (n : Int) : keyN n < 1000 := by
  unfold keyN
  have h1 := Int.tmod_lt_of_pos n (show (0 : Int) < 1000 by decide)
  have h2 := Int.lt_tmod_of_pos n (show (0 : Int) < 1000 by decide)
  omega
set_option maxRecDepth 100000 in
set_option maxHeartbeats 4000000 in
theorem key_p2 (b g o nh cap : Nat) (lk : Int) (hv : Nat → Int) (n : Int) (w : World) (hn : fitsI n) (h1 : 1 ≤ lk) (h128 : lk ≤ 128) (hb1 : w.cell? ⟨b, 1, none⟩ = some (.int .i64 lk)) (hb23 : w.cell? ⟨b, 23, none⟩ = some (.slice (some ⟨g, o, none⟩) nh cap)) (hnh : 0 < nh) (hnm : nh ≤ 17592186044000) (hh : ∀ i, i < nh → w.cell? ⟨g, o + i, none⟩ = some (.int .u64 (hv i))) (hneg : ¬ n.tmod 1000 < 0) (hone : ¬ lk = 1) :
    Calls Tryz.prog 49 #[.pointer (some ⟨b, 0, none⟩), .int .i64 n] w fun e w' => e = .returned (.tuple #[.string (strOf (txL ((keyN n : Nat) : Int) lk.toNat)), .int .u64 (hv (hasN n lk nh))]) ∧ Keeps w w' (fun _ => False) := by
  have hk := keyN_lt n
  have hTx := fun W => text_any ((keyN n : Nat) : Int) lk.toNat W (fitsI_mk (by omega) (by omega)) (by omega)
  rw [Int.toNat_of_nonneg (by omega)] at hTx
  have em : n.tmod 1000 = ((keyN n : Nat) : Int) := by unfold keyN; omega
  have hlt : ¬ n.tmod 1000 < 0 := hneg
  have eh : hasN n lk nh = keyN n % nh := by unfold hasN; rw [if_neg hone]
  have hm3 : ((keyN n : Nat) : Int).tmod (nh : Int) = ((keyN n % nh : Nat) : Int) := by rw [Int.tmod_eq_emod_of_nonneg (by omega)]; exact (Int.natCast_emod _ _).symm
  have hq : keyN n % nh < nh := Nat.mod_lt _ hnh
  have hqk : keyN n % nh ≤ keyN n := Nat.mod_le _ _
  obtain ⟨q, hqe⟩ : ∃ q, keyN n % nh = q := ⟨_, rfl⟩
  rw [hqe] at eh hm3 hq hqk
  have HW := hide (And.intro (wrm (x := (q : Int)) (by omega) (by omega)) (wrm (x := (q : Int)) (by omega) (by omega)))
  have hone' : (lk == 1) = false := by simp [hone]
  rw [eh]
  have HW2 := hide (And.intro (wrm (x := ((keyN n : Nat) : Int)) (by omega) (by omega)) (wrm (x := -((keyN n : Nat) : Int)) (by omega) (by omega)))
  have hq' : (q : Int) < (nh : Int) := by omega
  have hq0 : ¬ (q : Int) < 0 := by omega
  have hnz : ((nh : Int) == 0) = false := by simp; omega
  have hnz2 : ¬ (nh : Int) = 0 := by omega
  have hnz3 : ¬ nh = 0 := by omega
  have hhq := hh q hq
  generalize strOf (txL ((keyN n : Nat) : Int) lk.toNat) = tx at *
  generalize keyN n = kn at *
  generalize hv q = hvq at *
  clear hh hn eh hqe hk hqk hone hneg h1 h128 hnm
  obtain ⟨⟨wa, wb⟩, wc, wd⟩ := HW.out
  obtain ⟨⟨we, wf⟩, wg, wi⟩ := HW2.out
  go_enter Tryz.func49, Tryz.ntmps49
  go_wp2_with fail
  (with_reducible refine (hTx _).mono ?_)
  rintro r w1 ⟨rfl, k1⟩
  have c1 := keeps_cell k1 id hb1
  have c23 := keeps_cell k1 id hb23
  have ch := keeps_cell k1 id hhq
  clear hb1 hb23 hhq hTx
  go_wp2_with fail
  go_big_quiet (fail)
  all_goals go_wp2_with fail
  all_goals go_ret2
  all_goals exact ⟨rfl, by first | exact k1 | exact k1.drew | exact k1.drewN _⟩
set_option maxRecDepth 100000 in
set_option maxHeartbeats 4000000 in
theorem key_p1 (b g o nh cap : Nat) (lk : Int) (hv : Nat → Int) (n : Int) (w : World) (hn : fitsI n) (h1 : 1 ≤ lk) (h128 : lk ≤ 128) (hb1 : w.cell? ⟨b, 1, none⟩ = some (.int .i64 lk)) (hb23 : w.cell? ⟨b, 23, none⟩ = some (.slice (some ⟨g, o, none⟩) nh cap)) (hnh : 0 < nh) (hnm : nh ≤ 17592186044000) (hh : ∀ i, i < nh → w.cell? ⟨g, o + i, none⟩ = some (.int .u64 (hv i))) (hneg : ¬ n.tmod 1000 < 0) (hone : lk = 1) :
    Calls Tryz.prog 49 #[.pointer (some ⟨b, 0, none⟩), .int .i64 n] w fun e w' => e = .returned (.tuple #[.string (strOf (txL ((keyN n : Nat) : Int) lk.toNat)), .int .u64 (hv (hasN n lk nh))]) ∧ Keeps w w' (fun _ => False) := by
  have hk := keyN_lt n
  have hTx := fun W => text_any ((keyN n : Nat) : Int) lk.toNat W (fitsI_mk (by omega) (by omega)) (by omega)
  rw [Int.toNat_of_nonneg (by omega)] at hTx
  have em : n.tmod 1000 = ((keyN n : Nat) : Int) := by unfold keyN; omega
  have hlt : ¬ n.tmod 1000 < 0 := hneg
  have eh : hasN n lk nh = keyN n % 256 % nh := by unfold hasN; rw [if_pos hone]
  have hm2 : ((keyN n : Nat) : Int).tmod 256 = ((keyN n % 256 : Nat) : Int) := by rw [Int.tmod_eq_emod_of_nonneg (by omega)]; omega
  have hm3 : ((keyN n % 256 : Nat) : Int).tmod (nh : Int) = ((keyN n % 256 % nh : Nat) : Int) := by rw [Int.tmod_eq_emod_of_nonneg (by omega)]; exact (Int.natCast_emod _ _).symm
  have hq : keyN n % 256 % nh < nh := Nat.mod_lt _ hnh
  have hqk : keyN n % 256 % nh ≤ keyN n % 256 := Nat.mod_le _ _
  obtain ⟨q, hqe⟩ : ∃ q, keyN n % 256 % nh = q := ⟨_, rfl⟩
  obtain ⟨k2, hk2⟩ : ∃ k2, keyN n % 256 = k2 := ⟨_, rfl⟩
  have hk2l : k2 < 256 := by omega
  rw [hqe] at eh hm3 hq hqk
  rw [hk2] at hm2 hm3 hqk
  have HW := hide (And.intro (wrm (x := (k2 : Int)) (by omega) (by omega)) (wrm (x := (q : Int)) (by omega) (by omega)))
  have hone' : (lk == 1) = true := by simp [hone]
  rw [eh]
  have HW2 := hide (And.intro (wrm (x := ((keyN n : Nat) : Int)) (by omega) (by omega)) (wrm (x := -((keyN n : Nat) : Int)) (by omega) (by omega)))
  have hq' : (q : Int) < (nh : Int) := by omega
  have hq0 : ¬ (q : Int) < 0 := by omega
  have hnz : ((nh : Int) == 0) = false := by simp; omega
  have hnz2 : ¬ (nh : Int) = 0 := by omega
  have hnz3 : ¬ nh = 0 := by omega
  have hhq := hh q hq
  generalize strOf (txL ((keyN n : Nat) : Int) lk.toNat) = tx at *
  generalize keyN n = kn at *
  generalize hv q = hvq at *
  clear hh hn eh hqe hk hqk hone hneg h1 h128 hnm hk2 hk2l
  obtain ⟨⟨wa, wb⟩, wc, wd⟩ := HW.out
  obtain ⟨⟨we, wf⟩, wg, wi⟩ := HW2.out
  go_enter Tryz.func49, Tryz.ntmps49
  go_wp2_with fail
  (with_reducible refine (hTx _).mono ?_)
  rintro r w1 ⟨rfl, k1⟩
  have c1 := keeps_cell k1 id hb1
  have c23 := keeps_cell k1 id hb23
  have ch := keeps_cell k1 id hhq
  clear hb1 hb23 hhq hTx
  go_wp2_with fail
  go_big_quiet (fail)
  all_goals go_wp2_with fail
  all_goals go_ret2
  all_goals exact ⟨rfl, by first | exact k1 | exact k1.drew | exact k1.drewN _⟩
set_option maxRecDepth 100000 in
set_option maxHeartbeats 4000000 in
theorem key_n2 (b g o nh cap : Nat) (lk : Int) (hv : Nat → Int) (n : Int) (w : World) (hn : fitsI n) (h1 : 1 ≤ lk) (h128 : lk ≤ 128) (hb1 : w.cell? ⟨b, 1, none⟩ = some (.int .i64 lk)) (hb23 : w.cell? ⟨b, 23, none⟩ = some (.slice (some ⟨g, o, none⟩) nh cap)) (hnh : 0 < nh) (hnm : nh ≤ 17592186044000) (hh : ∀ i, i < nh → w.cell? ⟨g, o + i, none⟩ = some (.int .u64 (hv i))) (hneg : n.tmod 1000 < 0) (hone : ¬ lk = 1) :
    Calls Tryz.prog 49 #[.pointer (some ⟨b, 0, none⟩), .int .i64 n] w fun e w' => e = .returned (.tuple #[.string (strOf (txL ((keyN n : Nat) : Int) lk.toNat)), .int .u64 (hv (hasN n lk nh))]) ∧ Keeps w w' (fun _ => False) := by
  have hk := keyN_lt n
  have hTx := fun W => text_any ((keyN n : Nat) : Int) lk.toNat W (fitsI_mk (by omega) (by omega)) (by omega)
  rw [Int.toNat_of_nonneg (by omega)] at hTx
  have em : n.tmod 1000 = -((keyN n : Nat) : Int) := by unfold keyN; omega
  have hlt : n.tmod 1000 < 0 := hneg
  have eh : hasN n lk nh = keyN n % nh := by unfold hasN; rw [if_neg hone]
  have hm3 : ((keyN n : Nat) : Int).tmod (nh : Int) = ((keyN n % nh : Nat) : Int) := by rw [Int.tmod_eq_emod_of_nonneg (by omega)]; exact (Int.natCast_emod _ _).symm
  have hq : keyN n % nh < nh := Nat.mod_lt _ hnh
  have hqk : keyN n % nh ≤ keyN n := Nat.mod_le _ _
  obtain ⟨q, hqe⟩ : ∃ q, keyN n % nh = q := ⟨_, rfl⟩
  rw [hqe] at eh hm3 hq hqk
  have HW := hide (And.intro (wrm (x := (q : Int)) (by omega) (by omega)) (wrm (x := (q : Int)) (by omega) (by omega)))
  have hone' : (lk == 1) = false := by simp [hone]
  rw [eh]
  have HW2 := hide (And.intro (wrm (x := ((keyN n : Nat) : Int)) (by omega) (by omega)) (wrm (x := -((keyN n : Nat) : Int)) (by omega) (by omega)))
  have hq' : (q : Int) < (nh : Int) := by omega
  have hq0 : ¬ (q : Int) < 0 := by omega
  have hnz : ((nh : Int) == 0) = false := by simp; omega
  have hnz2 : ¬ (nh : Int) = 0 := by omega
  have hnz3 : ¬ nh = 0 := by omega
  have hhq := hh q hq
  generalize strOf (txL ((keyN n : Nat) : Int) lk.toNat) = tx at *
  generalize keyN n = kn at *
  generalize hv q = hvq at *
  clear hh hn eh hqe hk hqk hone hneg h1 h128 hnm
  obtain ⟨⟨wa, wb⟩, wc, wd⟩ := HW.out
  obtain ⟨⟨we, wf⟩, wg, wi⟩ := HW2.out
  go_enter Tryz.func49, Tryz.ntmps49
  go_wp2_with fail
  (with_reducible refine (hTx _).mono ?_)
  rintro r w1 ⟨rfl, k1⟩
  have c1 := keeps_cell k1 id hb1
  have c23 := keeps_cell k1 id hb23
  have ch := keeps_cell k1 id hhq
  clear hb1 hb23 hhq hTx
  go_wp2_with fail
  go_big_quiet (fail)
  all_goals go_wp2_with fail
  all_goals go_ret2
  all_goals exact ⟨rfl, by first | exact k1 | exact k1.drew | exact k1.drewN _⟩
set_option maxRecDepth 100000 in
set_option maxHeartbeats 4000000 in
theorem key_n1 (b g o nh cap : Nat) (lk : Int) (hv : Nat → Int) (n : Int) (w : World) (hn : fitsI n) (h1 : 1 ≤ lk) (h128 : lk ≤ 128) (hb1 : w.cell? ⟨b, 1, none⟩ = some (.int .i64 lk)) (hb23 : w.cell? ⟨b, 23, none⟩ = some (.slice (some ⟨g, o, none⟩) nh cap)) (hnh : 0 < nh) (hnm : nh ≤ 17592186044000) (hh : ∀ i, i < nh → w.cell? ⟨g, o + i, none⟩ = some (.int .u64 (hv i))) (hneg : n.tmod 1000 < 0) (hone : lk = 1) :
    Calls Tryz.prog 49 #[.pointer (some ⟨b, 0, none⟩), .int .i64 n] w fun e w' => e = .returned (.tuple #[.string (strOf (txL ((keyN n : Nat) : Int) lk.toNat)), .int .u64 (hv (hasN n lk nh))]) ∧ Keeps w w' (fun _ => False) := by
  have em0 : Hid (n.tmod 1000 = -((keyN n : Nat) : Int) ∧ n.tmod 1000 < 0) := ⟨by unfold keyN; omega, hneg⟩
  clear hneg
  have hk := keyN_lt n
  have hTx := fun W => text_any ((keyN n : Nat) : Int) lk.toNat W (fitsI_mk (by omega) (by omega)) (by omega)
  rw [Int.toNat_of_nonneg (by omega)] at hTx
  have eh : hasN n lk nh = keyN n % 256 % nh := by unfold hasN; rw [if_pos hone]
  have hm2 : ((keyN n : Nat) : Int).tmod 256 = ((keyN n % 256 : Nat) : Int) := by rw [Int.tmod_eq_emod_of_nonneg (by omega)]; omega
  have hm3 : ((keyN n % 256 : Nat) : Int).tmod (nh : Int) = ((keyN n % 256 % nh : Nat) : Int) := by rw [Int.tmod_eq_emod_of_nonneg (by omega)]; exact (Int.natCast_emod _ _).symm
  have hq : keyN n % 256 % nh < nh := Nat.mod_lt _ hnh
  have hqk : keyN n % 256 % nh ≤ keyN n % 256 := Nat.mod_le _ _
  obtain ⟨q, hqe⟩ : ∃ q, keyN n % 256 % nh = q := ⟨_, rfl⟩
  obtain ⟨k2, hk2⟩ : ∃ k2, keyN n % 256 = k2 := ⟨_, rfl⟩
  have hk2l : k2 < 256 := by omega
  rw [hqe] at eh hm3 hq hqk
  rw [hk2] at hm2 hm3 hqk
  have HW := hide (And.intro (wrm (x := (k2 : Int)) (by clear hm2 hm3; omega) (by clear hm2 hm3; omega)) (wrm (x := (q : Int)) (by clear hm2 hm3; omega) (by clear hm2 hm3; omega)))
  have hone' : (lk == 1) = true := by simp [hone]
  rw [eh]
  have HW2 := hide (And.intro (wrm (x := ((keyN n : Nat) : Int)) (by clear hm2 hm3; omega) (by clear hm2 hm3; omega)) (wrm (x := -((keyN n : Nat) : Int)) (by clear hm2 hm3; omega) (by clear hm2 hm3; omega)))
  have hq' : (q : Int) < (nh : Int) := by clear hm2 hm3; omega
  have hq0 : ¬ (q : Int) < 0 := by clear hm2 hm3; omega
  have hnz : ((nh : Int) == 0) = false := by clear hm2 hm3; simp; omega
  have hnz2 : ¬ (nh : Int) = 0 := by clear hm2 hm3; omega
  have hnz3 : ¬ nh = 0 := by clear hm2 hm3; omega
  have hhq := hh q hq
  have HM := hide (And.intro hm2 hm3)
  clear hm2 hm3
  obtain ⟨em, hlt⟩ := em0.out
  clear em0
  generalize strOf (txL ((keyN n : Nat) : Int) lk.toNat) = tx at *
  generalize keyN n = kn at *
  generalize hv q = hvq at *
  clear hh hn eh hqe hk hqk hone h1 h128 hnm hk2 hk2l
  obtain ⟨⟨we, wf⟩, wg, wi⟩ := HW2.out
  go_enter Tryz.func49, Tryz.ntmps49
  go_wp2_with fail
  (with_reducible refine (hTx _).mono ?_)
  rintro r w1 ⟨rfl, k1⟩
  have c1 := keeps_cell k1 id hb1
  have c23 := keeps_cell k1 id hb23
  have ch := keeps_cell k1 id hhq
  clear hb1 hb23 hhq hTx em hlt we wf wg wi
  obtain ⟨⟨wa, wb⟩, wc, wd⟩ := HW.out
  obtain ⟨hm2, hm3⟩ := HM.out
  clear HM HW HW2
  go_wp2_with fail
  go_big_quiet (fail)
  all_goals go_wp2_with fail
  all_goals go_ret2
  all_goals exact ⟨rfl, by first | exact k1 | exact k1.drew | exact k1.drewN _⟩
theorem bkey_any (b g o nh cap : Nat) (lk : Int) (hv : Nat → Int) (n : Int) (w : World) (hn : fitsI n) (h1 : 1 ≤ lk) (h128 : lk ≤ 128) (hb1 : w.cell? ⟨b, 1, none⟩ = some (.int .i64 lk)) (hb23 : w.cell? ⟨b, 23, none⟩ = some (.slice (some ⟨g, o, none⟩) nh cap)) (hnh : 0 < nh) (hnm : nh ≤ 17592186044000) (hh : ∀ i, i < nh → w.cell? ⟨g, o + i, none⟩ = some (.int .u64 (hv i))) :
    Calls Tryz.prog 49 #[.pointer (some ⟨b, 0, none⟩), .int .i64 n] w fun e w' => e = .returned (.tuple #[.string (strOf (txL ((keyN n : Nat) : Int) lk.toNat)), .int .u64 (hv (hasN n lk nh))]) ∧ Keeps w w' (fun _ => False) := by
  by_cases hneg : n.tmod 1000 < 0
  · by_cases hone : lk = 1
    · exact key_n1 b g o nh cap lk hv n w hn h1 h128 hb1 hb23 hnh hnm hh hneg hone
    · exact key_n2 b g o nh cap lk hv n w hn h1 h128 hb1 hb23 hnh hnm hh hneg hone
  · by_cases hone : lk = 1
    · exact key_p1 b g o nh cap lk hv n w hn h1 h128 hb1 hb23 hnh hnm hh hneg hone
    · exact key_p2 b g o nh cap lk hv n w hn h1 h128 hb1 hb23 hnh hnm hh hneg hone
end Go.Proofs.YtmdnknbolgedgaaGreatDoor
/-
  The law's list of lives: where a key is in it.
-/
namespace Go.Proofs.YtmdnknbolgedgaaGreatDoor
open Go.RowKit Go.Shelf Ly Ct
set_option linter.unusedVariables false

/-- A life: key, elem, hash, birth, slot. -/
structure LifeD where
  key : ByteArray
  elem : ByteArray
  hash : Nat
  birth : Int
  slot : Int
/-- A row of lives in the memory. -/
def LivesAt (w : World) (a : Option Addr) (L : List LifeD) : Prop := L = [] ∨ ∃ b o, a = some ⟨b, o, none⟩ ∧ ∀ i (h : i < L.length),
  w.cell? ⟨b, o + i * 5, none⟩ = some (.string L[i].key) ∧ w.cell? ⟨b, o + i * 5 + 1, none⟩ = some (.string L[i].elem) ∧ w.cell? ⟨b, o + i * 5 + 2, none⟩ = some (.int .u64 (L[i].hash : Int)) ∧ w.cell? ⟨b, o + i * 5 + 3, none⟩ = some (.int .i64 L[i].birth) ∧ w.cell? ⟨b, o + i * 5 + 4, none⟩ = some (.int .i64 L[i].slot)
/-- Where the key is: -1, if it is not there. -/
def placeL (key : ByteArray) : List LifeD → Nat → Int
  | [], _ => -1
  | x :: r, i => if x.key = key then (i : Int) else placeL key r (i + 1)
theorem placeL_drop {key : ByteArray} {L : List LifeD} {i : Nat} (h : i < L.length) : placeL key (L.drop i) i = if L[i].key = key then (i : Int) else placeL key (L.drop (i + 1)) (i + 1) := by
  rw [List.drop_eq_getElem_cons h]
  rfl
theorem ba_eq {a b : ByteArray} (h : a.toList = b.toList) : a = b := by
  rw [ByteArray.toList_eq, ByteArray.toList_eq] at h
  exact ByteArray.ext (Array.toList_inj.1 h)

set_option maxRecDepth 100000 in
set_option maxHeartbeats 1000000 in
theorem place_law (b : Nat) (a : Option Addr) (ca : Nat) (L : List LifeD) (key : ByteArray) (w : World) (hl : L.length ≤ 140737488355328) (hb : w.cell? ⟨b, 25, none⟩ = some (.slice a L.length ca)) (h1 : LivesAt w a L) :
    Calls Tryz.prog 50 #[.pointer (some ⟨b, 0, none⟩), .string key] w fun e w' => e = .returned (.int .i64 (placeL key L 0)) ∧ Keeps w w' (fun _ => False) := by
  obtain ⟨R, hR⟩ : ∃ R, placeL key L 0 = R := ⟨_, rfl⟩
  rw [hR]
  replace hR := hide hR
  go_enter Tryz.func50, Tryz.ntmps50
  go_wp2_with fail
  go_loopg [12] L.length (fun g s12 wr => ∃ i : Nat, g = L.length - i ∧ i ≤ L.length ∧ s12 = .int .i64 (i : Int) ∧ Hid (placeL key (L.drop i) i = R) ∧ Keeps w wr (fun _ => False))
  case atStart => exact ⟨0, rfl, Nat.zero_le _, rfl, hR, Keeps.refl _ _⟩
  case round =>
    clear hR
    obtain ⟨i, rfl, hi, rfl, hR, kr⟩ := hrel
    by_cases hlt : i < L.length
    · rcases h1 with rfl | ⟨b1, o1, rfl, hc⟩
      · simp at hlt
      obtain ⟨x1, x2, x3, x4, x5⟩ := hc i hlt
      replace x1 := keeps_cell kr id x1
      replace x2 := keeps_cell kr id x2
      replace x3 := keeps_cell kr id x3
      replace x4 := keeps_cell kr id x4
      replace x5 := keeps_cell kr id x5
      have hlt' : (i : Int) < (L.length : Int) := by omega
      have hP := hide (placeL_drop (key := key) hlt)
      clear hc hb
      by_cases hk : L[i].key = key
      · have hk' : (L[i].key.toList == key.toList) = true := by simp [hk]
        have HR : Hid ((i : Int) = R) := by
          have := hP.out
          rw [hR.out, if_pos hk] at this
          exact this.symm
        clear hP hR hk
        generalize L[i].key = y1 at *
        generalize L[i].elem = y2 at *
        generalize L[i].hash = y3 at *
        generalize L[i].birth = y4 at *
        generalize L[i].slot = y5 at *
        go_wp2_with fail
        go_ret
        exact ⟨congrArg (fun x => Ending.returned (Value.int .i64 x)) HR.out, kr.alloc _⟩
      · have hk' : (L[i].key.toList == key.toList) = false := by
          rw [beq_eq_false_iff_ne]
          exact fun e => hk (ba_eq e)
        have HR : Hid (placeL key (L.drop (i + 1)) (i + 1) = R) := by
          have := hP.out
          rw [hR.out, if_neg hk] at this
          exact this.symm
        clear hP hR hk
        generalize L[i].key = y1 at *
        generalize L[i].elem = y2 at *
        generalize L[i].hash = y3 at *
        generalize L[i].birth = y4 at *
        generalize L[i].slot = y5 at *
        go_wp2_with fail
        go_roundg (L.length - (i + 1))
        case measure => omega
        case rel => exact ⟨i + 1, rfl, by omega, by simp, HR, kr.alloc _⟩
    · obtain rfl : i = L.length := by omega
      have hlt' : ¬ (L.length : Int) < (L.length : Int) := by omega
      have HR : Hid (-1 = R) := by
        have := hR.out
        rw [List.drop_length] at this
        exact this
      clear h1 hb hR
      go_wp2_with fail
      go_ret
      exact ⟨congrArg (fun x => Ending.returned (Value.int .i64 x)) HR.out, kr⟩
/-- The cells of a Bench. -/
def benC (p : Nat) (l : Lay) (off : Int) (fs : Value) (S : Int) (hs ts lv : Value) (ad : Int) : Array Value :=
  #[.pointer (some ⟨p, 0, none⟩), .int .i64 l.k, .int .i64 l.e, .int .i64 l.a, .int .i64 l.b, .int .i64 l.c, .int .i64 l.eo, .int .i64 l.bo, .int .i64 l.s, .int .i64 l.g, .pointer (some ⟨p, 0, none⟩), .int .i64 l.k, .int .i64 l.e, .int .i64 l.a, .int .i64 l.b, .int .i64 l.c, .int .i64 l.eo, .int .i64 l.bo, .int .i64 l.s, .int .i64 l.g, .int .i64 off, fs, .int .i64 S, hs, ts, lv, .int .i64 ad]
end Go.Proofs.YtmdnknbolgedgaaGreatDoor
/-
  The hash of a key's text, as the law's plan fixes it.
-/
namespace Go.Proofs.YtmdnknbolgedgaaGreatDoor
open Go.RowKit Go.Shelf
set_option linter.unusedVariables false

/-- The number that a key's first two bytes say. -/
def numT (k : ByteArray) : Nat := (k.data.toList.getD 0 0).toNat + 256 * (k.data.toList.getD 1 0).toNat
theorem txB_toNat (k i : Nat) : (txB (k : Int) i).toNat = k / 256 ^ i % 256 := by
  have h := txB_nat (k : Int) i
  have e : ((k : Int) / 256 ^ i) % 256 = ((k / 256 ^ i % 256 : Nat) : Int) := by
    rw [Int.natCast_emod, Int.natCast_ediv, Int.natCast_pow]
    rfl
  rw [e] at h
  exact Int.ofNat.inj h
theorem numT_tx {k w : Nat} (hk : k < 65536) (hw : 1 ≤ w) : numT (strOf (txL (k : Int) w)) = if w = 1 then k % 256 else k := by
  unfold numT
  have hd : (strOf (txL (k : Int) w)).data.toList = txL (k : Int) w := by simp [strOf]
  rw [hd]
  obtain ⟨v, rfl⟩ : ∃ v, w = v + 1 := ⟨w - 1, by omega⟩
  have h0 : (txL (k : Int) (v + 1)).getD 0 0 = txB (k : Int) 0 := by simp [txL, List.getD]
  rw [h0, txB_toNat]
  cases v with
  | zero =>
    have h1 : (txL (k : Int) (0 + 1)).getD 1 0 = 0 := by simp [txL, List.getD]
    rw [h1, if_pos rfl]
    simp
  | succ v =>
    have h1 : (txL (k : Int) (v + 1 + 1)).getD 1 0 = txB (k : Int) 1 := by simp [txL, List.getD]
    rw [h1, txB_toNat, if_neg (by omega)]
    simp only [Nat.pow_zero, Nat.div_one, Nat.pow_one]
    omega
/-- The hash of a key by its text. -/
def hsT (hv : Nat → Nat) (nh : Nat) (k : ByteArray) : Nat := hv (numT k % nh)
theorem hsT_key {hv : Nat → Nat} {nh : Nat} {lk n : Int} (h1 : 1 ≤ lk) : hsT hv nh (strOf (txL ((keyN n : Nat) : Int) lk.toNat)) = hv (hasN n lk nh) := by
  unfold hsT hasN
  have hk := keyN_lt n
  rw [numT_tx (by omega) (by omega)]
  by_cases h : lk = 1
  · rw [if_pos h, if_pos (by omega)]
  · rw [if_neg h, if_neg (by omega)]
end Go.Proofs.YtmdnknbolgedgaaGreatDoor
/-
  The law's list of lives beside a table's cells.
-/
namespace Go.Proofs.YtmdnknbolgedgaaGreatDoor
open Go.RowKit Go.Shelf Ly Ct
set_option linter.unusedVariables false

theorem placeL_spec (key : ByteArray) : ∀ (L : List LifeD) (i : Nat), (placeL key L i = -1 ∧ ∀ x, x ∈ L → x.key ≠ key) ∨ ∃ (j : Nat) (h : j < L.length), placeL key L i = ((i + j : Nat) : Int) ∧ L[j].key = key
  | [], i => Or.inl ⟨rfl, fun x hx => by cases hx⟩
  | x :: r, i => by
    by_cases h : x.key = key
    · refine Or.inr ⟨0, by simp, ?_, h⟩
      simp only [placeL]
      rw [if_pos h]
      simp
    · have hp : placeL key (x :: r) i = placeL key r (i + 1) := by
        simp only [placeL]
        rw [if_neg h]
      rcases placeL_spec key r (i + 1) with ⟨q1, q2⟩ | ⟨j, hj, q1, q2⟩
      · refine Or.inl ⟨hp.trans q1, fun y hy => ?_⟩
        rcases List.mem_cons.1 hy with rfl | hy
        · exact h
        · exact q2 y hy
      · refine Or.inr ⟨j + 1, by simp; omega, ?_, by simpa using q2⟩
        rw [hp, q1]
        congr 1
        omega
def notEmp (x : GC) : Bool := decide (x.kind ≠ 0)
/-- The list L is what the table holds; so many keys were ever added. -/
structure LTie (c : Nat → GC) (G : Nat) (f : Nat → Int) (hs : ByteArray → Nat) (L : List LifeD) (ad : Nat) : Prop where
  inv : TInv c G hs
  life : ∀ x, x ∈ L → 0 ≤ x.slot ∧ x.slot < ((8 * G : Nat) : Int) ∧ c x.slot.toNat = GC.full (((x.hash : Nat) : Int) % 128) x.key x.elem x.birth ∧ x.hash = hs x.key
  all : ∀ s, s < 8 * G → (c s).kind = 2 → ∃ x, x ∈ L ∧ x.slot = (s : Int)
  once : L.Pairwise (fun x y => x.key ≠ y.key)
  used : f 3 = (L.length : Int)
  left : f 5 = 7 * (G : Int) - ((cntC notEmp c (8 * G) : Nat) : Int)
  pos : 0 ≤ f 5
  add : cntC notEmp c (8 * G) ≤ ad
section
variable {c : Nat → GC} {G k : Nat} {f : Nat → Int} {hs : ByteArray → Nat} {L : List LifeD} {ad : Nat}
theorem ltie_new {f : Nat → Int} (h3 : f 3 = 0) (h5 : f 5 = 7 * (G : Int)) : LTie (fun _ => GC.zero) G f hs [] 0 := by
  have hc : cntC notEmp (fun _ => GC.zero) (8 * G) = 0 := cntC_none _ (fun _ _ => rfl)
  refine ⟨tinv_new G hs, fun x hx => (nomatch hx), fun s _ h => absurd h (by decide), List.Pairwise.nil, h3, by rw [h5, hc]; omega, by omega, by omega⟩
/-- A key that the list has not is in no slot. -/
theorem LTie.absent (h : LTie c G f hs L ad) {key : ByteArray} (hn : ∀ x, x ∈ L → x.key ≠ key) : ∀ s, s < 8 * G → (c s).kind = 2 → (c s).key ≠ key := fun s hs8 h2 e => by
  obtain ⟨x, hx, hxs⟩ := h.all s hs8 h2
  obtain ⟨p1, p2, p3, p4⟩ := h.life x hx
  rw [hxs, Int.toNat_natCast] at p3
  rw [p3] at e
  exact hn x hx e
/-- A key that it has is found in its slot. -/
theorem LTie.there (h : LTie c G f hs L ad) (hG : G = 2 ^ k) {x : LifeD} (hx : x ∈ L) : ∃ n v, srchT c (((hs x.key : Nat) : Int) % 128) x.key (Pb.metN (hs x.key / 128) G) G = ⟨n, some x.slot.toNat, v⟩ := by
  obtain ⟨p1, p2, p3, p4⟩ := h.life x hx
  have h2 : (c x.slot.toNat).kind = 2 := by rw [p3]; rfl
  have hk : (c x.slot.toNat).key = x.key := by rw [p3]; rfl
  have := h.inv.found hG (s := x.slot.toNat) (by omega) h2
  rw [hk] at this
  exact this
/-- There is no room only where as many keys were added as the table may hold. -/
theorem LTie.noroom (h : LTie c G f hs L ad) (hG : G = 2 ^ k) {tag : Int} {key : ByteArray} {hh : Nat} (h1 : (srchT c tag key (Pb.metN hh G) G).slot = none) (h2 : (srchT c tag key (Pb.metN hh G) G).vac = none) : False := by
  have hf := srch_full hG h1 h2
  have hc : cntC notEmp c (8 * G) = 8 * G := cntC_all _ (fun s hs8 => decide_eq_true (by rw [hf s hs8]; decide))
  have h5 := h.left
  have h0 := h.pos
  have hp : 0 < G := by rw [hG]; exact Nat.two_pow_pos k
  rw [hc] at h5
  omega
theorem LTie.most (h : LTie c G f hs L ad) (h0 : f 5 ≤ 0) : 7 * G ≤ ad := by
  have h5 := h.left
  have := h.add
  have := h.pos
  omega
/-- A new key. -/
theorem LTie.more (h : LTie c G f hs L ad) {v : Nat} (hv8 : v < 8 * G) (hv : (c v).kind ≠ 2) {key e : ByteArray} {b : Int} (hw : ∃ i, i < G ∧ Pb.metN (hs key / 128) G i = v / 8 ∧ ∀ j, j < i → empG c (Pb.metN (hs key / 128) G j) = false) (hn : ∀ x, x ∈ L → x.key ≠ key) {f' : Nat → Int} (em : Bool) (hem : decide ((c v).kind = 0) = em) (hl : em = true → 0 < f 5) (h3 : f' 3 = f 3 + 1) (h5 : f' 5 = if em then f 5 - 1 else f 5) :
    LTie (updN c v (GC.full (((hs key : Nat) : Int) % 128) key e b)) G f' hs (L ++ [⟨key, e, hs key, b, (v : Int)⟩]) (ad + 1) := by
  have hab := h.absent hn
  have hU := cntC_upd notEmp c v (GC.full (((hs key : Nat) : Int) % 128) key e b) (8 * G) hv8
  have hx : notEmp (GC.full (((hs key : Nat) : Int) % 128) key e b) = true := rfl
  rw [hx, if_pos rfl] at hU
  have hne : ∀ x, x ∈ L → x.slot.toNat ≠ v := fun x hx q => by
    have := (h.life x hx).2.2.1
    rw [q] at this
    rw [this] at hv
    exact hv rfl
  refine ⟨h.inv.fill hv8 hv hw hab, fun x hx => ?_, fun s hs8 h2 => ?_, ?_, ?_, ?_, ?_, ?_⟩
  · rcases List.mem_append.1 hx with q | q
    · obtain ⟨p1, p2, p3, p4⟩ := h.life x q
      refine ⟨p1, p2, ?_, p4⟩
      have : updN c v (GC.full (((hs key : Nat) : Int) % 128) key e b) x.slot.toNat = c x.slot.toNat := if_neg (hne x q)
      rw [this]
      exact p3
    · rw [List.mem_singleton.1 q]
      refine ⟨by show (0 : Int) ≤ (v : Int); omega, by show (v : Int) < _; omega, ?_, rfl⟩
      show updN c v (GC.full (((hs key : Nat) : Int) % 128) key e b) ((v : Int)).toNat = _
      rw [Int.toNat_natCast]
      exact if_pos rfl
  · by_cases q : s = v
    · exact ⟨⟨key, e, hs key, b, (v : Int)⟩, by simp, by rw [q]⟩
    · have : updN c v (GC.full (((hs key : Nat) : Int) % 128) key e b) s = c s := if_neg q
      rw [this] at h2
      obtain ⟨x, hx1, hx2⟩ := h.all s hs8 h2
      exact ⟨x, by simp [hx1], hx2⟩
  · rw [List.pairwise_append]
    refine ⟨h.once, List.pairwise_singleton _ _, fun x hx y hy => ?_⟩
    rw [List.mem_singleton.1 hy]
    exact hn x hx
  · rw [h3, h.used]
    simp
  · have hl5 := h.left
    cases em
    · have hk0 : (c v).kind ≠ 0 := of_decide_eq_false hem
      have : notEmp (c v) = true := decide_eq_true hk0
      rw [this, if_pos rfl] at hU
      rw [h5, if_neg (by decide)]
      omega
    · have hk0 : (c v).kind = 0 := of_decide_eq_true hem
      have : notEmp (c v) = false := decide_eq_false (fun q => q hk0)
      rw [this, if_neg (by decide)] at hU
      rw [h5, if_pos rfl]
      omega
  · have hp := h.pos
    cases em
    · rw [h5, if_neg (by decide)]
      exact hp
    · have := hl rfl
      rw [h5, if_pos rfl]
      omega
  · have := h.add
    have : (if notEmp (c v) = true then 1 else 0) ≤ 1 := by split <;> omega
    omega
end
end Go.Proofs.YtmdnknbolgedgaaGreatDoor
