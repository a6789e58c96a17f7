/-
  Counts of a table's cells, group by group.
-/
import Derived.Test.YtmdnknbolgedgaaGreatDoorUn20
namespace Go.Proofs.YtmdnknbolgedgaaGreatDoor
open Go.RowKit Go.Shelf Ly Ct
set_option linter.unusedVariables false

def isE (x : GC) : Bool := decide (x.kind = 0)
def isD (x : GC) : Bool := decide (x.kind = 1)
def isF (x : GC) : Bool := decide (x.kind = 2)
/-- How many of the first n cells are in group g and have P. -/
def cntG (P : GC → Bool) (c : Nat → GC) : Nat → Nat → Nat
  | 0, _ => 0
  | i + 1, g => cntG P c i g + if g = i / 8 ∧ P (c i) = true then 1 else 0
section
variable {P : GC → Bool} {c : Nat → GC}
theorem cntG_pos : ∀ {i g : Nat}, 0 < cntG P c i g → ∃ t, t < i ∧ t / 8 = g ∧ P (c t) = true
  | 0, g, h => absurd h (Nat.lt_irrefl _)
  | i + 1, g, h => by
    unfold cntG at h
    by_cases q : g = i / 8 ∧ P (c i) = true
    · exact ⟨i, by omega, q.1.symm, q.2⟩
    · rw [if_neg q] at h
      obtain ⟨t, h1, h2⟩ := cntG_pos (i := i) (g := g) (by omega)
      exact ⟨t, by omega, h2⟩
theorem cntG_zero : ∀ {i g : Nat}, (∀ t, t < i → t / 8 = g → P (c t) = false) → cntG P c i g = 0
  | 0, g, h => rfl
  | i + 1, g, h => by
    unfold cntG
    rw [cntG_zero (i := i) (fun t ht => h t (by omega)), if_neg (fun q => by
      have := h i (by omega) q.1.symm
      rw [q.2] at this
      cases this)]
theorem cntG_le : ∀ (i g : Nat), cntG P c i g ≤ i
  | 0, g => Nat.le_refl _
  | i + 1, g => by
    unfold cntG
    have := cntG_le i g
    split <;> omega
theorem cntG_step (i : Nat) : (fun g => ((cntG P c (i + 1) g : Nat) : Int)) = if P (c i) = true then (fun g => if g = i / 8 then ((cntG P c i (i / 8) : Nat) : Int) + 1 else ((cntG P c i g : Nat) : Int)) else (fun g => ((cntG P c i g : Nat) : Int)) := by
  by_cases hp : P (c i) = true
  · rw [if_pos hp]
    funext g
    simp only [cntG]
    by_cases e : g = i / 8
    · rw [if_pos ⟨e, hp⟩, if_pos e, e]
      omega
    · rw [if_neg (fun q => e q.1), if_neg e]
      rfl
  · rw [if_neg hp]
    funext g
    simp only [cntG]
    rw [if_neg (fun q => hp q.2)]
    rfl
def sumG (a : Nat → Nat) : Nat → Nat
  | 0 => 0
  | n + 1 => sumG a n + a n
theorem sumG_add (a : Nat → Nat) (q : Nat) (p : Prop) [Decidable p] : ∀ n, sumG (fun g => a g + if g = q ∧ p then 1 else 0) n = sumG a n + if q < n ∧ p then 1 else 0
  | 0 => by
    rw [if_neg (fun h => absurd h.1 (Nat.not_lt_zero _))]
    rfl
  | n + 1 => by
    have ih := sumG_add a q p n
    simp only [sumG]
    rw [ih]
    by_cases hp : p
    · by_cases h1 : q < n
      · rw [if_pos ⟨h1, hp⟩, if_neg (fun h => by omega), if_pos ⟨by omega, hp⟩]
        omega
      · by_cases h2 : n = q
        · rw [if_neg (fun h => h1 h.1), if_pos ⟨h2, hp⟩, if_pos ⟨by omega, hp⟩]
          omega
        · rw [if_neg (fun h => h1 h.1), if_neg (fun h => h2 h.1), if_neg (fun h => by omega)]
          omega
    · rw [if_neg (fun h => hp h.2), if_neg (fun h => hp h.2), if_neg (fun h => hp h.2)]
      omega
theorem sumG_mono (a : Nat → Nat) {m : Nat} : ∀ {n}, m ≤ n → sumG a m ≤ sumG a n
  | 0, h => by
    obtain rfl : m = 0 := by omega
    exact Nat.le_refl _
  | n + 1, h => by
    simp only [sumG]
    rcases Nat.lt_or_ge m (n + 1) with q | q
    · have := sumG_mono a (m := m) (n := n) (by omega)
      omega
    · obtain rfl : m = n + 1 := by omega
      simp only [sumG]
      omega
theorem sumG_zero : ∀ n, sumG (fun _ => 0) n = 0
  | 0 => rfl
  | n + 1 => by simp only [sumG]; rw [sumG_zero n]
theorem sumG_cnt {G : Nat} : ∀ i, i ≤ 8 * G → sumG (cntG P c i) G = cntC P c i
  | 0, _ => by
    have : cntG P c 0 = fun _ => 0 := by funext g; rfl
    rw [this, sumG_zero]
    rfl
  | i + 1, h => by
    have e : cntG P c (i + 1) = fun g => cntG P c i g + if g = i / 8 ∧ P (c i) = true then 1 else 0 := by funext g; rfl
    rw [e, sumG_add, sumG_cnt i (by omega), cntC_succ]
    by_cases hp : P (c i) = true
    · rw [if_pos ⟨by omega, hp⟩, if_pos hp]
    · rw [if_neg (fun q => hp q.2), if_neg hp]
theorem cnt_split : ∀ n, (∀ s, s < n → (c s).kind = 0 ∨ (c s).kind = 1 ∨ (c s).kind = 2) → cntC notEmp c n = cntC isF c n + cntC isD c n
  | 0, _ => rfl
  | n + 1, h => by
    rw [cntC_succ, cntC_succ, cntC_succ, cnt_split n (fun s hs => h s (by omega))]
    unfold notEmp isF isD
    rcases h n (by omega) with q | q | q <;> rw [q] <;> simp <;> omega
end
section
variable {c : Nat → GC} {G k0 : Nat} {hs : ByteArray → Nat} {f : Nat → Int} {L : List LifeD} {ad : Nat}
theorem LTie.fulls (h : LTie c G f hs L ad) : cntC isF c (8 * G) = L.length := by
  have hn1 : (L.map (fun x => x.slot.toNat)).Nodup := by
    rw [List.nodup_iff_pairwise_ne, List.pairwise_iff_getElem]
    intro i k hi hk hik
    simp only [List.length_map] at hi hk
    simp only [List.getElem_map]
    exact fun e => absurd (h.slots hi hk e) (by omega)
  have hn2 : ((List.range (8 * G)).filter (fun s => isF (c s))).Nodup := (List.nodup_range).filter _
  have e1 : cntC isF c (8 * G) = ((List.range (8 * G)).filter (fun s => isF (c s))).length := by
    unfold cntC
    rw [List.countP_eq_length_filter]
  have l1 := length_le_of_subset hn1 (l := (List.range (8 * G)).filter (fun s => isF (c s))) (fun x hx => by
    obtain ⟨y, hy, rfl⟩ := List.mem_map.1 hx
    obtain ⟨p1, p2, p3, -⟩ := h.life y hy
    exact List.mem_filter.2 ⟨List.mem_range.2 (by omega), by unfold isF; rw [p3]; rfl⟩)
  have l2 := length_le_of_subset hn2 (l := L.map (fun x => x.slot.toNat)) (fun s hs => by
    obtain ⟨q1, q2⟩ := List.mem_filter.1 hs
    obtain ⟨x, hx, e⟩ := h.all s (List.mem_range.1 q1) (of_decide_eq_true q2)
    exact List.mem_map.2 ⟨x, hx, by rw [e]; rfl⟩)
  rw [List.length_map] at l1 l2
  omega
theorem LTie.left' (h : LTie c G f hs L ad) (hk : ∀ s, s < 8 * G → (c s).kind = 0 ∨ (c s).kind = 1 ∨ (c s).kind = 2) : f 5 = (G : Int) * 7 - (L.length : Int) - ((cntC isD c (8 * G) : Nat) : Int) := by
  have h1 := h.left
  have h2 := cnt_split (c := c) (8 * G) hk
  have h3 := h.fulls
  omega
theorem LTie.ways (h : LTie c G f hs L ad) {x : LifeD} (hx : x ∈ L) : ∃ i, i < G ∧ Pb.metN (x.hash / 128) G i = x.slot.toNat / 8 ∧ ∀ j, j < i → cntG isE c (8 * G) (Pb.metN (x.hash / 128) G j) = 0 := by
  obtain ⟨p1, p2, p3, p4⟩ := h.life x hx
  have h2 : (c x.slot.toNat).kind = 2 := by rw [p3]; rfl
  have hk : (c x.slot.toNat).key = x.key := by rw [p3]; rfl
  obtain ⟨i, h3, h4, h5⟩ := h.inv.way x.slot.toNat (by omega) h2
  rw [hk, ← p4] at h4 h5
  refine ⟨i, h3, h4, fun j hj => cntG_zero (fun t ht e => ?_)⟩
  have := emp_false.1 (h5 j hj) (t % 8) (by omega)
  rw [← e, show 8 * (t / 8) + t % 8 = t by omega] at this
  exact decide_eq_false this
theorem LTie.mix' (h : LTie c G f hs L ad) {g : Nat} (hg : g < G) (he : cntG isE c (8 * G) g ≠ 0) : cntG isD c (8 * G) g = 0 := by
  obtain ⟨t, h1, h2, h3⟩ := cntG_pos (Nat.pos_of_ne_zero he)
  have hE : empG c g = true := emp_iff.2 ⟨t % 8, by omega, by rw [← h2, show 8 * (t / 8) + t % 8 = t by omega]; exact of_decide_eq_true h3⟩
  refine cntG_zero (fun s hs e => ?_)
  have := h.inv.mix g hg hE (s % 8) (by omega)
  rw [← e, show 8 * (s / 8) + s % 8 = s by omega] at this
  exact decide_eq_false this
end
end Go.Proofs.YtmdnknbolgedgaaGreatDoor
