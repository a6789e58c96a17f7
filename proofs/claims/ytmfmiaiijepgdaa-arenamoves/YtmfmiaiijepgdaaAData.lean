/-
  An arena as plain data: its blocks in a row, which of them are live, its bytes. Nothing here names the program.
-/
import Derived.Test.YtmfmiaiijepgdaaAMap
import Derived.Test.YtmfmiaiijepgdaaAClass
namespace Go.Proofs.Ytmfmiaiijepgdaa
open Go.RowKit

/-- The blocks lie one behind the other from s to e. -/
def Tiles : Nat → List (Nat × Nat) → Nat → Prop
  | s, [], e => s = e
  | s, x :: r, e => x.1 = s ∧ 0 < x.2 ∧ Tiles (s + x.2) r e
theorem tiles_le : ∀ {s : Nat} {L : List (Nat × Nat)} {e : Nat}, Tiles s L e → s ≤ e
  | _, [], _, h => by rw [Tiles] at h; omega
  | _, _ :: _, _, h => by have := tiles_le h.2.2; omega
theorem tiles_mem : ∀ {s : Nat} {L : List (Nat × Nat)} {e : Nat} {x : Nat × Nat}, Tiles s L e → x ∈ L → s ≤ x.1 ∧ 0 < x.2 ∧ x.1 + x.2 ≤ e
  | _, [], _, _, _, hx => by cases hx
  | _, y :: r, _, x, h, hx => by
    obtain ⟨h1, h2, h3⟩ := h
    rcases List.mem_cons.1 hx with rfl | hx
    · have := tiles_le h3
      omega
    · have := tiles_mem h3 hx
      omega
theorem tiles_snoc : ∀ {s : Nat} {L : List (Nat × Nat)} {e : Nat}, Tiles s L e → ∀ n, 0 < n → Tiles s (L ++ [(e, n)]) (e + n)
  | _, [], _, h, n, hn => by rw [Tiles] at h; subst h; exact ⟨rfl, hn, rfl⟩
  | _, _ :: _, _, h, n, hn => ⟨h.1, h.2.1, tiles_snoc h.2.2 n hn⟩
theorem tiles_sorted : ∀ {s : Nat} {L : List (Nat × Nat)} {e : Nat}, Tiles s L e → (L.map Prod.fst).Pairwise (· < ·)
  | _, [], _, _ => List.Pairwise.nil
  | _, y :: r, _, h => by
    refine List.Pairwise.cons ?_ (tiles_sorted h.2.2)
    intro o ho
    obtain ⟨x, hx, rfl⟩ := List.mem_map.1 ho
    have := tiles_mem h.2.2 hx
    have := h.1
    have := h.2.1
    omega
theorem tiles_length : ∀ {s : Nat} {L : List (Nat × Nat)} {e : Nat}, Tiles s L e → s + L.length ≤ e
  | _, [], _, h => by rw [Tiles] at h; simp; omega
  | _, y :: r, _, h => by have := tiles_length h.2.2; have := h.2.1; simp; omega
/-- The two blocks at places i < j. -/
theorem tiles_get : ∀ {s : Nat} {L : List (Nat × Nat)} {e : Nat}, Tiles s L e → ∀ {i : Nat} (hi : i < L.length), (∀ (hj : i + 1 < L.length), L[i + 1].1 = L[i].1 + L[i].2) ∧ (i + 1 = L.length → e = L[i].1 + L[i].2)
  | _, [], _, _, i, hi => by simp at hi
  | s, y :: r, e, h, 0, _ => by
    refine ⟨fun hj => ?_, fun he => ?_⟩
    · cases r with
      | nil => simp at hj
      | cons z r => simp only [List.getElem_cons_succ, List.getElem_cons_zero]; rw [h.2.2.1, h.1]
    · cases r with
      | nil => have h3 := h.2.2; rw [Tiles] at h3; simp only [List.getElem_cons_zero]; rw [h.1]; omega
      | cons z r => simp at he
  | s, y :: r, e, h, i + 1, hi => by
    have := tiles_get h.2.2 (i := i) (by simpa using hi)
    refine ⟨fun hj => ?_, fun he => ?_⟩
    · have := this.1 (by simpa using hj)
      simpa using this
    · have := this.2 (by simpa using he)
      simpa using this
theorem tiles_unique : ∀ {s : Nat} {L : List (Nat × Nat)} {e : Nat} {x y : Nat × Nat}, Tiles s L e → x ∈ L → y ∈ L → x.1 = y.1 → x = y
  | _, [], _, _, _, _, hx, _, _ => by cases hx
  | _, z :: r, _, x, y, h, hx, hy, e => by
    rcases List.mem_cons.1 hx with h1 | h1 <;> rcases List.mem_cons.1 hy with h2 | h2
    · rw [h1, h2]
    · have := tiles_mem h.2.2 h2
      have := h.1
      have := h.2.1
      rw [h1] at e
      omega
    · have := tiles_mem h.2.2 h1
      have := h.1
      have := h.2.1
      rw [h2] at e
      omega
    · exact tiles_unique h.2.2 h1 h2 e

/-- An arena's data: lv tells each live block's bytes by its offset. -/
structure AD where
  limit : Nat
  used : Nat
  bs : List UInt8
  L : List (Nat × Nat)
  lv : Int → Option Int
  fm : Int → Option Nat
/-- What always holds of it. -/
structure AD.Fine (d : AD) : Prop where
  tiles : Tiles 16 d.L d.bs.length
  live : ∀ x s, d.lv x = some s → ∃ o n : Nat, x = o ∧ s = n ∧ (o, n) ∈ d.L
  most : d.bs.length ≤ 134217728
  lim : d.limit ≤ 2097152
  use : d.used ≤ d.limit

/-- Is the span inside the live block x? -/
def AD.inB (d : AD) (off n : Int) (x : Nat × Nat) : Bool := decide (d.lv x.1 = some (x.2 : Int)) && decide (0 ≤ n ∧ (x.1 : Int) ≤ off ∧ off - x.1 ≤ (x.2 : Int) - n)
/-- Is it inside some live block? -/
def AD.goodB (d : AD) (off n : Int) : Bool := d.L.any (d.inB off n)
theorem AD.goodB_true {d : AD} {off n : Int} (h : d.goodB off n = true) : ∃ x ∈ d.L, d.lv x.1 = some (x.2 : Int) ∧ 0 ≤ n ∧ (x.1 : Int) ≤ off ∧ off - x.1 ≤ (x.2 : Int) - n := by
  obtain ⟨x, hx, hi⟩ := List.any_eq_true.1 h
  simp only [AD.inB, Bool.and_eq_true, decide_eq_true_eq] at hi
  exact ⟨x, hx, hi.1, hi.2.1, hi.2.2.1, hi.2.2.2⟩
theorem AD.goodB_mk {d : AD} {off n : Int} {x : Nat × Nat} (hx : x ∈ d.L) (h1 : d.lv x.1 = some (x.2 : Int)) (h2 : 0 ≤ n) (h3 : (x.1 : Int) ≤ off) (h4 : off - x.1 ≤ (x.2 : Int) - n) : d.goodB off n = true :=
  List.any_eq_true.2 ⟨x, hx, by simp [AD.inB, h1, h2, h3, h4]⟩
/-- A good span lies in the memory. -/
theorem AD.Fine.span {d : AD} (F : d.Fine) {off n : Int} (h : d.goodB off n = true) : ∃ o k : Nat, off = o ∧ n = k ∧ 16 ≤ o ∧ o + k ≤ d.bs.length := by
  obtain ⟨x, hx, _, h0, h1, h2⟩ := AD.goodB_true h
  have := tiles_mem F.tiles hx
  exact ⟨off.toNat, n.toNat, by omega, by omega, by omega, by omega⟩
theorem AD.Fine.inside {d : AD} (F : d.Fine) {off n : Int} (h : d.goodB off n = true) : insideB d.bs.length off n = true := by
  obtain ⟨o, k, rfl, rfl, _, h⟩ := F.span h
  exact insideB_mk h

/-- What inside answers at the block of number k. -/
def AD.insideAt (d : AD) (k off n : Int) : Bool := if k < 0 ∨ n < 0 then false else match d.L[k.toNat]? with
  | some x => (d.lv x.1).isSome && decide (off - x.1 ≤ ((d.lv x.1).getD 0) - n)
  | none => false
def AD.begins (d : AD) : List Int := d.L.map (fun x => (x.1 : Int))
theorem AD.begins_length (d : AD) : d.begins.length = d.L.length := by simp [AD.begins]

theorem countP_lt_of_sorted : ∀ {l : List Int} {x : Int}, l.Pairwise (· < ·) → ∀ {i : Nat} (hi : i < l.length), (l[i] < x ↔ i < l.countP (fun y => decide (y < x)))
  | [], _, _, i, hi => by simp at hi
  | a :: r, x, h, 0, _ => by
    obtain ⟨h1, h2⟩ := List.pairwise_cons.1 h
    by_cases ha : a < x
    · simp [ha]
    · have hr : r.countP (fun y => decide (y < x)) = 0 := by
        rw [List.countP_eq_zero]
        intro y hy
        have := h1 y hy
        simp
        omega
      simp [ha, hr]
  | a :: r, x, h, i + 1, hi => by
    obtain ⟨h1, h2⟩ := List.pairwise_cons.1 h
    have hi' : i < r.length := by simpa using hi
    have := countP_lt_of_sorted (x := x) h2 hi'
    by_cases ha : a < x
    · simp only [List.getElem_cons_succ, List.countP_cons, ha, decide_true, if_true]
      omega
    · have hr : r.countP (fun y => decide (y < x)) = 0 := by
        rw [List.countP_eq_zero]
        intro y hy
        have := h1 y hy
        simp
        omega
      have hm : r[i] ∈ r := List.getElem_mem hi'
      have := h1 _ hm
      simp only [List.getElem_cons_succ, List.countP_cons, ha, hr]
      simp
      omega
theorem AD.Fine.begins_sorted {d : AD} (F : d.Fine) : d.begins.Pairwise (· < ·) := by
  have := tiles_sorted F.tiles
  unfold AD.begins
  rw [List.pairwise_map] at this ⊢
  exact this.imp (fun h => by omega)

/-- The two looks together tell whether the span is good. -/
theorem AD.Fine.good_eq {d : AD} (F : d.Fine) (off n : Int) :
    ((d.begins.contains off && d.insideAt (d.begins.countP (fun y => decide (y < off)) : Nat) off n) || d.insideAt ((d.begins.countP (fun y => decide (y < off)) : Nat) - 1) off n) = d.goodB off n := by
  have hS := F.begins_sorted
  have hC := fun {i : Nat} (hi : i < d.begins.length) => countP_lt_of_sorted (x := off) hS hi
  have hget : ∀ {i : Nat} (hi : i < d.L.length), d.begins[i]'(by rw [AD.begins_length]; exact hi) = (d.L[i].1 : Int) := fun hi => by simp [AD.begins]
  generalize hq : d.begins.countP (fun y => decide (y < off)) = q at *
  have hql : q ≤ d.L.length := by rw [← hq, ← AD.begins_length]; exact List.countP_le_length
  have hone : ∀ {k : Nat} (hk : k < d.L.length), (d.L[k].1 : Int) ≤ off → d.insideAt k off n = true → d.goodB off n = true := fun {k} hk hle h => by
    unfold AD.insideAt at h
    split at h
    · cases h
    · rename_i hn
      rw [Int.toNat_natCast, List.getElem?_eq_getElem hk] at h
      simp only [Bool.and_eq_true, decide_eq_true_eq, Option.isSome_iff_exists] at h
      obtain ⟨⟨s, hs⟩, h2⟩ := h
      obtain ⟨o, m, e1, e2, hm⟩ := F.live _ _ hs
      have hm2 : (d.L[k].1, d.L[k].2) ∈ d.L := List.getElem_mem hk
      have e3 := tiles_unique F.tiles hm hm2 (by simp; omega)
      rw [hs] at h2
      simp at e3 h2
      exact AD.goodB_mk hm2 (by rw [hs, e2, e3.2]) (by omega) hle (by rw [← e3.2]; omega)
  have hback : ∀ {k : Nat} (hk : k < d.L.length), d.lv d.L[k].1 = some (d.L[k].2 : Int) → 0 ≤ n → off - d.L[k].1 ≤ (d.L[k].2 : Int) - n → d.insideAt k off n = true := fun {k} hk h1 h2 h3 => by
    unfold AD.insideAt
    rw [if_neg (by omega), Int.toNat_natCast, List.getElem?_eq_getElem hk]
    simp [h1, h3]
  rw [Bool.eq_iff_iff]
  constructor
  · intro h
    rw [Bool.or_eq_true, Bool.and_eq_true] at h
    rcases h with ⟨h1, h2⟩ | h2
    · rw [List.contains_iff_mem] at h1
      obtain ⟨i, hi, e⟩ := List.getElem_of_mem h1
      have hi' : i < d.L.length := by rw [← AD.begins_length]; exact hi
      have e' := hget hi'
      have hiq : i = q := by
        have h3 := hC hi
        rw [e] at h3
        have h4 : ¬ i < q := fun h => by have := h3.2 h; omega
        rcases Nat.lt_or_ge q i with h5 | h5
        · have h6 := hC (i := q) (by omega)
          have h7 : d.begins[q]'(by omega) < d.begins[i] := (List.pairwise_iff_getElem.1 hS) q i (by omega) hi h5
          rw [e] at h7
          have := h6.1 h7
          omega
        · omega
      subst hiq
      exact hone hi' (by rw [← e', e]; omega) h2
    · by_cases h0 : q = 0
      · subst h0
        simp [AD.insideAt] at h2
      · have hq1 : ((q : Nat) : Int) - 1 = ((q - 1 : Nat) : Int) := by omega
        rw [hq1] at h2
        have hk : q - 1 < d.L.length := by omega
        have h3 := (hC (i := q - 1) (by rw [AD.begins_length]; exact hk)).2 (by omega)
        rw [hget hk] at h3
        exact hone hk (by omega) h2
  · intro h
    obtain ⟨x, hx, h1, h2, h3, h4⟩ := AD.goodB_true h
    obtain ⟨k, hk, e⟩ := List.getElem_of_mem hx
    subst e
    have hin := hback hk h1 h2 h4
    have hkb : k < d.begins.length := by rw [AD.begins_length]; exact hk
    have hck := hC hkb
    rw [hget hk] at hck
    rw [Bool.or_eq_true, Bool.and_eq_true]
    by_cases he : (d.L[k].1 : Int) = off
    · left
      refine ⟨?_, ?_⟩
      · rw [List.contains_iff_mem, ← he, ← hget hk]
        exact List.getElem_mem hkb
      · have : q = k := by
          have h5 : ¬ k < q := fun h => by have := hck.2 h; omega
          rcases Nat.lt_or_ge q k with h6 | h6
          · have h8 := hC (i := q) (by omega)
            have h7 : d.begins[q]'(by omega) < d.begins[k] := (List.pairwise_iff_getElem.1 hS) q k (by omega) hkb h6
            rw [hget hk, he] at h7
            have := h8.1 h7
            omega
          · omega
        rw [this]
        exact hin
    · right
      have h5 : k < q := hck.1 (by omega)
      have h6 : q ≤ k + 1 := by
        rcases Nat.lt_or_ge (k + 1) q with h7 | h7
        · have hk1 : k + 1 < d.L.length := by omega
          have h8 := (hC (i := k + 1) (by rw [AD.begins_length]; exact hk1)).2 h7
          rw [hget hk1, (tiles_get F.tiles hk).1 hk1] at h8
          omega
        · exact h7
      have : ((q : Nat) : Int) - 1 = (k : Int) := by omega
      rw [this]
      exact hin
end Go.Proofs.Ytmfmiaiijepgdaa
