import Derived.Test.YtgckinldnnckoaaGreatDoorRows
import Derived.WalkKit
import Derived.Outline
import Derived.Below
import Derived.Great.BuildSlice
import Derived.Test.YtgckinldnnckoaaGreatDoorPn1
/-
  An arena as plain data: its blocks in a row, which of them are live, its bytes. Nothing here names the program.
-/
namespace Go.Proofs.YtgckinldnnckoaaGreatDoor
open Go.RowKit

/-- The blocks lie one behind the other from s to e. -/
def Tiles : Nat → List (Nat × Nat) → Nat → Prop
  | s, [], e => s = e
  | s, x :: r, e => x.1 = s ∧ 0 < x.2 ∧ Tiles (s + x.2) r e
theorem tiles_le : ∀ {s : Nat} {L : List (Nat × Nat)} {e : Nat}, Tiles s L e → s ≤ e
  | _, [], _, h => by rw [Tiles] at h; omega
  | _, _ :: _, _, h => by have := tiles_le h.2.2; omega
theorem tiles_mem : ∀ {s : Nat} {L : List (Nat × Nat)} {e : Nat} {x : Nat × Nat}, Tiles s L e → x ∈ L → s ≤ x.1 ∧ 0 < x.2 ∧ x.1 + x.2 ≤ e
  | _, [], _, _, _, hx => by cases hx
  | _, y :: r, _, x, h, hx => by
    obtain ⟨h1, h2, h3⟩ := h
    rcases List.mem_cons.1 hx with rfl | hx
    · have := tiles_le h3
      omega
    · have := tiles_mem h3 hx
      omega
theorem tiles_snoc : ∀ {s : Nat} {L : List (Nat × Nat)} {e : Nat}, Tiles s L e → ∀ n, 0 < n → Tiles s (L ++ [(e, n)]) (e + n)
  | _, [], _, h, n, hn => by rw [Tiles] at h; subst h; exact ⟨rfl, hn, rfl⟩
  | _, _ :: _, _, h, n, hn => ⟨h.1, h.2.1, tiles_snoc h.2.2 n hn⟩
theorem tiles_sorted : ∀ {s : Nat} {L : List (Nat × Nat)} {e : Nat}, Tiles s L e → (L.map Prod.fst).Pairwise (· < ·)
  | _, [], _, _ => List.Pairwise.nil
  | _, y :: r, _, h => by
    refine List.Pairwise.cons ?_ (tiles_sorted h.2.2)
    intro o ho
    obtain ⟨x, hx, rfl⟩ := List.mem_map.1 ho
    have := tiles_mem h.2.2 hx
    have := h.1
    have := h.2.1
    omega
theorem tiles_length : ∀ {s : Nat} {L : List (Nat × Nat)} {e : Nat}, Tiles s L e → s + L.length ≤ e
  | _, [], _, h => by rw [Tiles] at h; simp; omega
  | _, y :: r, _, h => by have := tiles_length h.2.2; have := h.2.1; simp; omega
/-- The two blocks at places i < j. -/
theorem tiles_get : ∀ {s : Nat} {L : List (Nat × Nat)} {e : Nat}, Tiles s L e → ∀ {i : Nat} (hi : i < L.length), (∀ (hj : i + 1 < L.length), L[i + 1].1 = L[i].1 + L[i].2) ∧ (i + 1 = L.length → e = L[i].1 + L[i].2)
  | _, [], _, _, i, hi => by simp at hi
  | s, y :: r, e, h, 0, _ => by
    refine ⟨fun hj => ?_, fun he => ?_⟩
    · cases r with
      | nil => simp at hj
      | cons z r => simp only [List.getElem_cons_succ, List.getElem_cons_zero]; rw [h.2.2.1, h.1]
    · cases r with
      | nil => have h3 := h.2.2; rw [Tiles] at h3; simp only [List.getElem_cons_zero]; rw [h.1]; omega
      | cons z r => simp at he
  | s, y :: r, e, h, i + 1, hi => by
    have := tiles_get h.2.2 (i := i) (by simpa using hi)
    refine ⟨fun hj => ?_, fun he => ?_⟩
    · have := this.1 (by simpa using hj)
      simpa using this
    · have := this.2 (by simpa using he)
      simpa using this
theorem tiles_unique : ∀ {s : Nat} {L : List (Nat × Nat)} {e : Nat} {x y : Nat × Nat}, Tiles s L e → x ∈ L → y ∈ L → x.1 = y.1 → x = y
  | _, [], _, _, _, _, hx, _, _ => by cases hx
  | _, z :: r, _, x, y, h, hx, hy, e => by
    rcases List.mem_cons.1 hx with h1 | h1 <;> rcases List.mem_cons.1 hy with h2 | h2
    · rw [h1, h2]
    · have := tiles_mem h.2.2 h2
      have := h.1
      have := h.2.1
      rw [h1] at e
      omega
    · have := tiles_mem h.2.2 h1
      have := h.1
      have := h.2.1
      rw [h2] at e
      omega
    · exact tiles_unique h.2.2 h1 h2 e

/-- An arena's data: lv tells each live block's bytes by its offset. -/
structure AD where
  limit : Nat
  used : Nat
  bs : List UInt8
  L : List (Nat × Nat)
  lv : Int → Option Int
  fm : Int → Option (List Int)
/-- The live blocks' bytes. -/
def liveSum (L : List (Nat × Nat)) (lv : Int → Option Int) : Nat := (L.map (fun x => if (lv (x.1 : Int)).isSome then x.2 else 0)).sum
theorem liveSum_congr {L : List (Nat × Nat)} {f g : Int → Option Int} (h : ∀ x ∈ L, (f (x.1 : Int)).isSome = (g (x.1 : Int)).isSome) : liveSum L f = liveSum L g := by
  unfold liveSum
  congr 1
  exact List.map_congr_left (fun x hx => by rw [h x hx])
theorem liveSum_append (L M : List (Nat × Nat)) (f : Int → Option Int) : liveSum (L ++ M) f = liveSum L f + liveSum M f := by simp [liveSum]
theorem liveSum_cons (x : Nat × Nat) (L : List (Nat × Nat)) (f : Int → Option Int) : liveSum (x :: L) f = (if (f (x.1 : Int)).isSome then x.2 else 0) + liveSum L f := by simp [liveSum]
/-- The free blocks: each list has blocks of its class that are not live, each once; and each block that is not live is in its list. -/
structure FreeOK (L : List (Nat × Nat)) (lv : Int → Option Int) (fm : Int → Option (List Int)) : Prop where
  nodup : ∀ x xs, fm x = some xs → xs.Nodup
  size : ∀ x xs, fm x = some xs → ∃ y ∈ L, x = (y.2 : Int)
  mem : ∀ x xs, fm x = some xs → ∀ z ∈ xs, lv z = none ∧ ∃ y ∈ L, z = (y.1 : Int) ∧ x = (y.2 : Int)
  all : ∀ y ∈ L, lv (y.1 : Int) = none → ∃ xs, fm (y.2 : Int) = some xs ∧ (y.1 : Int) ∈ xs
/-- What always holds of it. -/
structure AD.Fine (d : AD) : Prop where
  tiles : Tiles 16 d.L d.bs.length
  live : ∀ x s, d.lv x = some s → ∃ o n : Nat, x = o ∧ s = n ∧ (o, n) ∈ d.L
  most : d.bs.length ≤ 134217728
  lim : d.limit ≤ 2097152
  use : d.used ≤ d.limit
  sum : d.used = liveSum d.L d.lv
  free : FreeOK d.L d.lv d.fm

/-- Is the span inside the live block x? -/
def AD.inB (d : AD) (off n : Int) (x : Nat × Nat) : Bool := decide (d.lv x.1 = some (x.2 : Int)) && decide (0 ≤ n ∧ (x.1 : Int) ≤ off ∧ off - x.1 ≤ (x.2 : Int) - n)
/-- Is it inside some live block? -/
def AD.goodB (d : AD) (off n : Int) : Bool := d.L.any (d.inB off n)
theorem AD.goodB_true {d : AD} {off n : Int} (h : d.goodB off n = true) : ∃ x ∈ d.L, d.lv x.1 = some (x.2 : Int) ∧ 0 ≤ n ∧ (x.1 : Int) ≤ off ∧ off - x.1 ≤ (x.2 : Int) - n := by
  obtain ⟨x, hx, hi⟩ := List.any_eq_true.1 h
  simp only [AD.inB, Bool.and_eq_true, decide_eq_true_eq] at hi
  exact ⟨x, hx, hi.1, hi.2.1, hi.2.2.1, hi.2.2.2⟩
theorem AD.goodB_mk {d : AD} {off n : Int} {x : Nat × Nat} (hx : x ∈ d.L) (h1 : d.lv x.1 = some (x.2 : Int)) (h2 : 0 ≤ n) (h3 : (x.1 : Int) ≤ off) (h4 : off - x.1 ≤ (x.2 : Int) - n) : d.goodB off n = true :=
  List.any_eq_true.2 ⟨x, hx, by simp [AD.inB, h1, h2, h3, h4]⟩
/-- A good span lies in the memory. -/
theorem AD.Fine.span {d : AD} (F : d.Fine) {off n : Int} (h : d.goodB off n = true) : ∃ o k : Nat, off = o ∧ n = k ∧ 16 ≤ o ∧ o + k ≤ d.bs.length := by
  obtain ⟨x, hx, _, h0, h1, h2⟩ := AD.goodB_true h
  have := tiles_mem F.tiles hx
  exact ⟨off.toNat, n.toNat, by omega, by omega, by omega, by omega⟩
theorem AD.Fine.inside {d : AD} (F : d.Fine) {off n : Int} (h : d.goodB off n = true) : insideB d.bs.length off n = true := by
  obtain ⟨o, k, rfl, rfl, _, h⟩ := F.span h
  exact insideB_mk h

/-- What inside answers at the block of number k. -/
def AD.insideAt (d : AD) (k off n : Int) : Bool := if k < 0 ∨ n < 0 then false else match d.L[k.toNat]? with
  | some x => (d.lv x.1).isSome && decide (off - x.1 ≤ ((d.lv x.1).getD 0) - n)
  | none => false
def AD.begins (d : AD) : List Int := d.L.map (fun x => (x.1 : Int))
theorem AD.begins_length (d : AD) : d.begins.length = d.L.length := by simp [AD.begins]

theorem countP_lt_of_sorted : ∀ {l : List Int} {x : Int}, l.Pairwise (· < ·) → ∀ {i : Nat} (hi : i < l.length), (l[i] < x ↔ i < l.countP (fun y => decide (y < x)))
  | [], _, _, i, hi => by simp at hi
  | a :: r, x, h, 0, _ => by
    obtain ⟨h1, h2⟩ := List.pairwise_cons.1 h
    by_cases ha : a < x
    · simp [ha]
    · have hr : r.countP (fun y => decide (y < x)) = 0 := by
        rw [List.countP_eq_zero]
        intro y hy
        have := h1 y hy
        simp
        omega
      simp [ha, hr]
  | a :: r, x, h, i + 1, hi => by
    obtain ⟨h1, h2⟩ := List.pairwise_cons.1 h
    have hi' : i < r.length := by simpa using hi
    have := countP_lt_of_sorted (x := x) h2 hi'
    by_cases ha : a < x
    · simp only [List.getElem_cons_succ, List.countP_cons, ha, decide_true, if_true]
      omega
    · have hr : r.countP (fun y => decide (y < x)) = 0 := by
        rw [List.countP_eq_zero]
        intro y hy
        have := h1 y hy
        simp
        omega
      have hm : r[i] ∈ r := List.getElem_mem hi'
      have := h1 _ hm
      simp only [List.getElem_cons_succ, List.countP_cons, ha, hr]
      simp
      omega
theorem AD.Fine.begins_sorted {d : AD} (F : d.Fine) : d.begins.Pairwise (· < ·) := by
  have := tiles_sorted F.tiles
  unfold AD.begins
  rw [List.pairwise_map] at this ⊢
  exact this.imp (fun h => by omega)

/-- The two looks together tell whether the span is good. -/
theorem AD.Fine.good_eq {d : AD} (F : d.Fine) (off n : Int) :
    ((d.begins.contains off && d.insideAt (d.begins.countP (fun y => decide (y < off)) : Nat) off n) || d.insideAt ((d.begins.countP (fun y => decide (y < off)) : Nat) - 1) off n) = d.goodB off n := by
  have hS := F.begins_sorted
  have hC := fun {i : Nat} (hi : i < d.begins.length) => countP_lt_of_sorted (x := off) hS hi
  have hget : ∀ {i : Nat} (hi : i < d.L.length), d.begins[i]'(by rw [AD.begins_length]; exact hi) = (d.L[i].1 : Int) := fun hi => by simp [AD.begins]
  generalize hq : d.begins.countP (fun y => decide (y < off)) = q at *
  have hql : q ≤ d.L.length := by rw [← hq, ← AD.begins_length]; exact List.countP_le_length
  have hone : ∀ {k : Nat} (hk : k < d.L.length), (d.L[k].1 : Int) ≤ off → d.insideAt k off n = true → d.goodB off n = true := fun {k} hk hle h => by
    unfold AD.insideAt at h
    split at h
    · cases h
    · rename_i hn
      rw [Int.toNat_natCast, List.getElem?_eq_getElem hk] at h
      simp only [Bool.and_eq_true, decide_eq_true_eq, Option.isSome_iff_exists] at h
      obtain ⟨⟨s, hs⟩, h2⟩ := h
      obtain ⟨o, m, e1, e2, hm⟩ := F.live _ _ hs
      have hm2 : (d.L[k].1, d.L[k].2) ∈ d.L := List.getElem_mem hk
      have e3 := tiles_unique F.tiles hm hm2 (by simp; omega)
      rw [hs] at h2
      simp at e3 h2
      exact AD.goodB_mk hm2 (by rw [hs, e2, e3.2]) (by omega) hle (by rw [← e3.2]; omega)
  have hback : ∀ {k : Nat} (hk : k < d.L.length), d.lv d.L[k].1 = some (d.L[k].2 : Int) → 0 ≤ n → off - d.L[k].1 ≤ (d.L[k].2 : Int) - n → d.insideAt k off n = true := fun {k} hk h1 h2 h3 => by
    unfold AD.insideAt
    rw [if_neg (by omega), Int.toNat_natCast, List.getElem?_eq_getElem hk]
    simp [h1, h3]
  rw [Bool.eq_iff_iff]
  constructor
  · intro h
    rw [Bool.or_eq_true, Bool.and_eq_true] at h
    rcases h with ⟨h1, h2⟩ | h2
    · rw [List.contains_iff_mem] at h1
      obtain ⟨i, hi, e⟩ := List.getElem_of_mem h1
      have hi' : i < d.L.length := by rw [← AD.begins_length]; exact hi
      have e' := hget hi'
      have hiq : i = q := by
        have h3 := hC hi
        rw [e] at h3
        have h4 : ¬ i < q := fun h => by have := h3.2 h; omega
        rcases Nat.lt_or_ge q i with h5 | h5
        · have h6 := hC (i := q) (by omega)
          have h7 : d.begins[q]'(by omega) < d.begins[i] := (List.pairwise_iff_getElem.1 hS) q i (by omega) hi h5
          rw [e] at h7
          have := h6.1 h7
          omega
        · omega
      subst hiq
      exact hone hi' (by rw [← e', e]; omega) h2
    · by_cases h0 : q = 0
      · subst h0
        simp [AD.insideAt] at h2
      · have hq1 : ((q : Nat) : Int) - 1 = ((q - 1 : Nat) : Int) := by omega
        rw [hq1] at h2
        have hk : q - 1 < d.L.length := by omega
        have h3 := (hC (i := q - 1) (by rw [AD.begins_length]; exact hk)).2 (by omega)
        rw [hget hk] at h3
        exact hone hk (by omega) h2
  · intro h
    obtain ⟨x, hx, h1, h2, h3, h4⟩ := AD.goodB_true h
    obtain ⟨k, hk, e⟩ := List.getElem_of_mem hx
    subst e
    have hin := hback hk h1 h2 h4
    have hkb : k < d.begins.length := by rw [AD.begins_length]; exact hk
    have hck := hC hkb
    rw [hget hk] at hck
    rw [Bool.or_eq_true, Bool.and_eq_true]
    by_cases he : (d.L[k].1 : Int) = off
    · left
      refine ⟨?_, ?_⟩
      · rw [List.contains_iff_mem, ← he, ← hget hk]
        exact List.getElem_mem hkb
      · have : q = k := by
          have h5 : ¬ k < q := fun h => by have := hck.2 h; omega
          rcases Nat.lt_or_ge q k with h6 | h6
          · have h8 := hC (i := q) (by omega)
            have h7 : d.begins[q]'(by omega) < d.begins[k] := (List.pairwise_iff_getElem.1 hS) q k (by omega) hkb h6
            rw [hget hk, he] at h7
            have := h8.1 h7
            omega
          · omega
        rw [this]
        exact hin
    · right
      have h5 : k < q := hck.1 (by omega)
      have h6 : q ≤ k + 1 := by
        rcases Nat.lt_or_ge (k + 1) q with h7 | h7
        · have hk1 : k + 1 < d.L.length := by omega
          have h8 := (hC (i := k + 1) (by rw [AD.begins_length]; exact hk1)).2 h7
          rw [hget hk1, (tiles_get F.tiles hk).1 hk1] at h8
          omega
        · exact h7
      have : ((q : Nat) : Int) - 1 = (k : Int) := by omega
      rw [this]
      exact hin
end Go.Proofs.YtgckinldnnckoaaGreatDoor
namespace Go.Proofs.YtgckinldnnckoaaGreatDoor
open Go.RowKit

theorem Tryz.infoE : (Tryz.prog.info? 5).map (fun i => (i.zero, i.size, i.bytes)) = some (some (.int .u8 0), 1, 1) := by kernel_rfl

set_option maxHeartbeats 400000 in
theorem new_no (n : Int) (w : World) (h : n < 0 ∨ 134217728 < n) :
    Calls Tryz.prog 54 #[.int .i64 n] w fun e w' => e = .returned (.tuple #[.pointer none, .int .i64 12]) ∧ w' = w := by
  rcases h with h | h
  · go_enter Tryz.func54, Tryz.ntmps54
    go_wp2
    go_ret2
    exact ⟨rfl, rfl⟩
  · have h0 : ¬ n < 0 := by omega
    go_enter Tryz.func54, Tryz.ntmps54
    go_wp2
    go_ret2
    exact ⟨rfl, rfl⟩

set_option maxHeartbeats 400000 in
theorem new_yes (n : Nat) (w : World) (h : n ≤ 134217728) :
    Calls Tryz.prog 54 #[.int .i64 (n : Int)] w fun e w' => NewPost 163 5 w n e w' := by
  have h0 : ¬ (n : Int) < 0 := by omega
  have h1 : ¬ (134217728 : Int) < (n : Int) := by omega
  have hmk := run_make_bytes (P := Tryz.prog) w 134 5 Tryz.underlying134 Tryz.infoE n h
  go_enter Tryz.func54, Tryz.ntmps54
  go_wp2
  go_ret2
  exact newPost_mk 163 5 w n h

theorem len_any (w : World) (b g : Nat) (bs sp : List UInt8) (m : MemAt 163 5 w b g bs sp) :
    Calls Tryz.prog 188 #[.pointer (some ⟨b, 0, none⟩)] w fun e w' => e = .returned (.int .i64 (bs.length : Int)) ∧ w' = w := by
  have hc := m.cell
  have hl : bs.length ≤ 134217728 := by have := m.hmax; omega
  clear m
  go_enter Tryz.func188, Tryz.ntmps188
  go_wp2
  go_ret
  exact ⟨rfl, rfl⟩

set_option maxHeartbeats 400000 in
theorem inside_yes (w : World) (b g : Nat) (bs sp : List UInt8) (m : MemAt 163 5 w b g bs sp) (off n : Int) (h : insideB bs.length off n = true) :
    Calls Tryz.prog 123 #[.pointer (some ⟨b, 0, none⟩), .int .i64 off, .int .i64 n] w fun e w' => e = .returned (.bool true) ∧ w' = w := by
  have hc := m.cell
  have hl : bs.length ≤ 134217728 := by have := m.hmax; omega
  obtain ⟨h1, h2, h3, h4⟩ := insideB_true h
  clear m h
  go_enter Tryz.func123, Tryz.ntmps123
  go_wp2
  go_ret
  exact ⟨rfl, rfl⟩

set_option maxHeartbeats 400000 in
theorem inside_no (w : World) (b g : Nat) (bs sp : List UInt8) (m : MemAt 163 5 w b g bs sp) (off n : Int) (h : insideB bs.length off n = false) :
    Calls Tryz.prog 123 #[.pointer (some ⟨b, 0, none⟩), .int .i64 off, .int .i64 n] w fun e w' => e = .returned (.bool false) ∧ w' = w := by
  have hc := m.cell
  have hl : bs.length ≤ 134217728 := by have := m.hmax; omega
  have hn := insideB_false h
  clear m h
  by_cases h1 : 0 ≤ off
  · by_cases h2 : 0 ≤ n
    · by_cases h3 : n ≤ bs.length
      · have h4 : ¬ off ≤ bs.length - n := fun h4 => hn ⟨h1, h2, h3, h4⟩
        clear hn
        go_enter Tryz.func123, Tryz.ntmps123
        go_wp2
        go_ret
        exact ⟨rfl, rfl⟩
      · clear hn
        go_enter Tryz.func123, Tryz.ntmps123
        go_wp2
        go_ret
        exact ⟨rfl, rfl⟩
    · clear hn
      go_enter Tryz.func123, Tryz.ntmps123
      go_wp2
      go_ret
      exact ⟨rfl, rfl⟩
  · clear hn
    go_enter Tryz.func123, Tryz.ntmps123
    go_wp2
    go_ret
    exact ⟨rfl, rfl⟩

set_option maxHeartbeats 400000 in
theorem span_any (w : World) (b g : Nat) (bs sp : List UInt8) (m : MemAt 163 5 w b g bs sp) (o n : Nat) (h : o + n ≤ bs.length) :
    Calls Tryz.prog 86 #[.pointer (some ⟨b, 0, none⟩), .int .i64 (o : Int), .int .i64 (n : Int)] w fun e w' => e = .returned (spanVal g (bs.length + sp.length) o n) ∧ w' = w := by
  have hc := m.cell
  have hl : bs.length + sp.length ≤ 134217728 := m.hmax
  have hs := run_slice_span (P := Tryz.prog) w 134 5 Tryz.underlying134 Tryz.infoE g bs.length (bs.length + sp.length) o n (by omega)
  clear m
  go_enter Tryz.func86, Tryz.ntmps86
  go_wp2
  go_ret
  exact ⟨rfl, rfl⟩
end Go.Proofs.YtgckinldnnckoaaGreatDoor
namespace Go.Proofs.YtgckinldnnckoaaGreatDoor
open Go.RowKit

set_option maxHeartbeats 400000 in
theorem read_no (w : World) (b g : Nat) (bs sp : List UInt8) (m : MemAt 163 5 w b g bs sp) (off n : Int) (h : insideB bs.length off n = false) :
    Calls Tryz.prog 152 #[.pointer (some ⟨b, 0, none⟩), .int .i64 off, .int .i64 n] w fun e w' => e = .returned (.tuple #[.slice none 0 0, .int .i64 11]) ∧ w' = w := by
  go_enter Tryz.func152, Tryz.ntmps152
  go_wp2_with (go_at_call 123; refine (inside_no _ b g bs sp m _ _ h).mono ?_; rintro e w' ⟨rfl, rfl⟩)
  go_ret2
  exact ⟨rfl, rfl⟩

set_option maxHeartbeats 400000 in
theorem read_yes (w : World) (b g : Nat) (bs sp : List UInt8) (m : MemAt 163 5 w b g bs sp) (o n : Nat) (h : o + n ≤ bs.length) :
    Calls Tryz.prog 152 #[.pointer (some ⟨b, 0, none⟩), .int .i64 (o : Int), .int .i64 (n : Int)] w fun e w' => ReadPost 5 w bs o n e w' := by
  have hl : bs.length + sp.length ≤ 134217728 := m.hmax
  have hin := insideB_mk h
  obtain ⟨q, hq, hv⟩ := spanVal_eq g (bs.length + sp.length) o n
  have hmk := run_make_bytes (P := Tryz.prog) w 134 5 Tryz.underlying134 Tryz.infoE n (by omega)
  have m1 : MemAt 163 5 (w.alloc (.cells (rowOf (zeros n)) 5)) b g bs sp := m.keeps ((Keeps.refl _ (fun _ => False)).alloc _) id id
  obtain ⟨w2, hcp, hpost⟩ := read_copy (P := Tryz.prog) 134 134 5 Tryz.underlying134 Tryz.infoE m h hq
  go_enter Tryz.func152, Tryz.ntmps152
  go_wp2_with (first | (go_at_call 123; refine (inside_yes _ b g bs sp m _ _ hin).mono ?_; rintro e w' ⟨rfl, rfl⟩) | (go_at_call 86; refine (span_any _ b g bs sp m1 o n h).mono ?_; rintro e w' ⟨rfl, rfl⟩))
  go_ret2
  exact hpost
end Go.Proofs.YtgckinldnnckoaaGreatDoor
namespace Go.Proofs.YtgckinldnnckoaaGreatDoor
open Go.RowKit

set_option maxHeartbeats 1000000 in
theorem fits_out (w : World) (b g : Nat) (bs sp : List UInt8) (m : MemAt 163 5 w b g bs sp) (off : Int) (pv : Value) (h : insideB bs.length off 0 = false) :
    Calls Tryz.prog 160 #[.pointer (some ⟨b, 0, none⟩), .int .i64 off, pv] w fun e w' => e = .returned (.bool false) ∧ w' = w := by
  go_enter Tryz.func160, Tryz.ntmps160
  go_wp2_with fail
  refine (inside_no _ b g bs sp m _ _ h).mono ?_
  rintro e w' ⟨rfl, rfl⟩
  go_wp2_with fail
  go_ret
  exact ⟨rfl, rfl⟩

def FitsPost (w : World) (v : Bool) (e : Ending) (w' : World) : Prop := e = .returned (.bool v) ∧ w' = w

set_option maxHeartbeats 1000000 in
theorem fits_in (w : World) (b g pb pc : Nat) (bs sp : List UInt8) (xs : List (List UInt8)) (m : MemAt 163 5 w b g bs sp) (o : Nat) (ho : o ≤ bs.length) (hx : xs.length ≤ 140737488355328) (ps : PartsAt w g pb xs) :
    Calls Tryz.prog 160 #[.pointer (some ⟨b, 0, none⟩), .int .i64 (o : Int), .slice (some ⟨pb, 0, none⟩) xs.length pc] w fun e w' => FitsPost w (fitsB bs.length o (catAll xs).length) e w' := by
  have hl : bs.length + sp.length ≤ 134217728 := m.hmax
  have hc := m.cell
  have hin : insideB bs.length (o : Int) 0 = true := insideB_mk (k := 0) (by omega)
  go_enter Tryz.func160, Tryz.ntmps160
  go_wp2_with fail
  refine (inside_yes _ b g bs sp m _ _ hin).mono ?_
  rintro e w' ⟨rfl, rfl⟩
  clear m hin
  go_wp2_with fail
  go_loop [7, 23] (fun r i => ∃ k : Nat, k ≤ xs.length ∧ i = .int .i64 (k : Int) ∧ o + (catTo xs k).length ≤ bs.length ∧ r = .int .i64 ((bs.length : Int) - o - (catTo xs k).length)) (fun _ i => xs.length - (intOf i).toNat)
  case atStart => exact ⟨0, Nat.zero_le _, rfl, by simp [catTo_zero]; omega, by simp [catTo_zero]⟩
  case round =>
    obtain ⟨k, hk, rfl, hr, rfl⟩ := hrel
    by_cases hlt : k < xs.length
    · obtain ⟨v, hv, hb, oo, c, rfl, h1, h2, h3, h4⟩ := ps.part k hlt
      have hle := catTo_le' xs (k + 1)
      have hs := catTo_succ xs k hlt
      have hsl : (catTo xs (k + 1)).length = (catTo xs k).length + xs[k].length := by rw [hs]; simp
      clear hs ps h4
      by_cases hfit : o + (catTo xs k).length + xs[k].length ≤ bs.length
      · have HS : Hid ((catTo xs (k + 1)).length = (catTo xs k).length + xs[k].length) := hsl
        clear hsl
        go_wp2
        go_round
        case rel => exact ⟨k + 1, by omega, by go_num, by rw [HS.out]; omega, by rw [HS.out]; go_num⟩
        case measure => simp [intOf]; omega
      · have hd : fitsB bs.length o (catAll xs).length = false := fitsB_false (by omega)
        have HD : Hid (fitsB bs.length o (catAll xs).length = false) := hd
        clear hsl hd hle
        go_wp2
        go_ret
        exact ⟨by rw [HD.out]; rfl, rfl⟩
    · have hall : k = xs.length := by omega
      have hd : fitsB bs.length o (catAll xs).length = true := fitsB_true (by rw [← catTo_all', ← hall]; exact hr)
      have HD : Hid (fitsB bs.length o (catAll xs).length = true) := hd
      clear hall hd
      go_wp2
      go_ret
      exact ⟨by rw [HD.out]; rfl, rfl⟩

def WritePost (w : World) (b g : Nat) (bs sp : List UInt8) (e : Ending) (w' : World) : Prop :=
  e = .returned (.int .i64 0) ∧ MemAt 163 5 w' b g bs sp ∧ Keeps w w' (fun i => i = g)

set_option maxHeartbeats 1000000 in
theorem write_out (w : World) (b g : Nat) (bs sp : List UInt8) (m : MemAt 163 5 w b g bs sp) (off : Int) (pv : Value) (h : insideB bs.length off 0 = false) :
    Calls Tryz.prog 130 #[.pointer (some ⟨b, 0, none⟩), .int .i64 off, pv] w fun e w' => e = .returned (.int .i64 11) ∧ w' = w := by
  go_enter Tryz.func130, Tryz.ntmps130
  go_wp2_with fail
  refine (fits_out _ b g bs sp m _ _ h).mono ?_
  rintro e w' ⟨rfl, rfl⟩
  go_wp2_with fail
  go_ret
  exact ⟨rfl, rfl⟩

set_option maxHeartbeats 1000000 in
theorem write_no (w : World) (b g pb pc : Nat) (bs sp : List UInt8) (xs : List (List UInt8)) (m : MemAt 163 5 w b g bs sp) (o : Nat) (ho : o ≤ bs.length) (hx : xs.length ≤ 140737488355328) (ps : PartsAt w g pb xs) (hno : bs.length < o + (catAll xs).length) :
    Calls Tryz.prog 130 #[.pointer (some ⟨b, 0, none⟩), .int .i64 (o : Int), .slice (some ⟨pb, 0, none⟩) xs.length pc] w fun e w' => e = .returned (.int .i64 11) ∧ w' = w := by
  have hf := fits_in w b g pb pc bs sp xs m o ho hx ps
  rw [fitsB_false hno] at hf
  go_enter Tryz.func130, Tryz.ntmps130
  go_wp2_with fail
  refine hf.mono ?_
  rintro e w' ⟨rfl, rfl⟩
  go_wp2_with fail
  go_ret
  exact ⟨rfl, rfl⟩

set_option maxHeartbeats 1000000 in
theorem write_yes (w : World) (b g pb pc : Nat) (bs sp : List UInt8) (xs : List (List UInt8)) (m : MemAt 163 5 w b g bs sp) (o : Nat) (hx : xs.length ≤ 140737488355328) (ps : PartsAt w g pb xs) (hyes : o + (catAll xs).length ≤ bs.length) :
    Calls Tryz.prog 130 #[.pointer (some ⟨b, 0, none⟩), .int .i64 (o : Int), .slice (some ⟨pb, 0, none⟩) xs.length pc] w fun e w' => WritePost w b g (splice bs o (catAll xs)) sp e w' := by
  have hf := fits_in w b g pb pc bs sp xs m o (by omega) hx ps
  rw [fitsB_true hyes] at hf
  have hl : bs.length + sp.length ≤ 134217728 := m.hmax
  go_enter Tryz.func130, Tryz.ntmps130
  go_wp2_with fail
  refine hf.mono ?_
  rintro e w' ⟨rfl, rfl⟩
  clear hf
  go_wp2_with fail
  go_loopw [1, 16] (fun r i wr => ∃ k : Nat, k ≤ xs.length ∧ i = .int .i64 (k : Int) ∧ r = .int .i64 ((o : Int) + (catTo xs k).length) ∧ MemAt 163 5 wr b g (splice bs o (catTo xs k)) sp ∧ Keeps w' wr (fun i => i = g)) (fun _ i _ => xs.length - (intOf i).toNat)
  case atStart => exact ⟨0, Nat.zero_le _, rfl, by simp [catTo_zero], by rw [catTo_zero, splice_nil]; exact m, Keeps.refl _ _⟩
  case round =>
    obtain ⟨k, hk, rfl, rfl, mk, kk⟩ := hrel
    have hle := catTo_le' xs k
    by_cases hlt : k < xs.length
    · obtain ⟨v, hv, hp⟩ := (ps.keeps kk).part k hlt
      obtain ⟨hb, oo, c, rfl, h1, h2, h3, h4⟩ := hp
      have hle1 := catTo_le' xs (k + 1)
      have hs := catTo_succ xs k hlt
      have hsl : (catTo xs (k + 1)).length = (catTo xs k).length + xs[k].length := by rw [hs]; simp
      have hlen : (splice bs o (catTo xs k)).length = bs.length := splice_length (by omega)
      have hc := mk.cell
      rw [hlen] at hc
      have ht := run_slice_tail (P := Tryz.prog) wr 134 5 Tryz.underlying134 Tryz.infoE g bs.length (bs.length + sp.length) (o + (catTo xs k).length) (by omega)
      obtain ⟨q, hq, hv2⟩ := tailVal_eq g bs.length (bs.length + sp.length) (o + (catTo xs k).length)
      rw [hv2, Int.natCast_add] at ht
      obtain ⟨w2, hcp, m2, k2⟩ := mem_copy (P := Tryz.prog) 134 134 5 Tryz.underlying134 Tryz.infoE mk (l := o + (catTo xs k).length) (q := q) (dLen := bs.length - (o + (catTo xs k).length)) (dCap := bs.length + sp.length - (o + (catTo xs k).length)) (sLen := xs[k].length) (sCap := c) (a := ⟨hb, oo, none⟩) xs[k]
        (by rw [hlen]; omega) (by rw [hlen]; exact hq) (Nat.min_eq_left (by omega)).symm (fun j hj => by rw [addr_add]; exact h4 j hj)
      rw [splice_splice (by omega), ← hs] at m2
      have K2 := kk.trans k2 (fun _ _ x => x)
      have HS : Hid ((catTo xs (k + 1)).length = (catTo xs k).length + xs[k].length) := hsl
      clear hs hsl ps h4 hv2 hq mk kk k2 hlen
      go_wp2
      go_roundw
      case rel => exact ⟨k + 1, by omega, by go_num, by rw [HS.out]; go_num, m2, K2⟩
      case measure => simp [intOf]; omega
    · have hall : k = xs.length := by omega
      subst hall
      rw [catTo_all'] at mk
      go_wp2
      go_ret
      exact ⟨rfl, mk, kk⟩
end Go.Proofs.YtgckinldnnckoaaGreatDoor
namespace Go.Proofs.YtgckinldnnckoaaGreatDoor
open Go.RowKit

/-- One part alone. -/
theorem parts_one {w : World} {g pb h n c : Nat} {x y : List UInt8} {e t : TypeId} {fz : Nat × Nat} (hr : w.heap[h]? = some (.cells (rowOf (x ++ y)) e fz)) (hg : h ≠ g) (hn : n = x.length) (hx : x.length ≤ 140737488355328) (hpb : pb = w.heap.size) (hpg : pb ≠ g) :
    PartsAt (w.alloc (.cells #[.slice (some ⟨h, 0, none⟩) n c] t)) g pb [x] := by
  subst hpb
  subst hn
  refine ⟨by simp, hpg, fun j hj => ?_⟩
  have h0 : j = 0 := by simpa using hj
  subst h0
  refine ⟨.slice (some ⟨h, 0, none⟩) x.length c, ?_, part_of_row (y := y) (e := e) (fz := fz) ?_ hg hx⟩
  · simp only [World.cell?, heap_alloc_new]
    simp
  · rw [Below.heap_alloc _ _ _ (heap_lt hr)]
    exact hr
theorem write_one_yes {w : World} {b g pb h n c o : Nat} {bs sp x y : List UInt8} {fz : Nat × Nat} (m : MemAt 163 5 w b g bs sp) (hr : w.heap[h]? = some (.cells (rowOf (x ++ y)) 5 fz)) (hg : h ≠ g) (hn : n = x.length) (hx : x.length ≤ 140737488355328) (hpb : pb = w.heap.size) (hfit : o + x.length ≤ bs.length) :
    Calls Tryz.prog 130 #[.pointer (some ⟨b, 0, none⟩), .int .i64 (o : Int), .slice (some ⟨pb, 0, none⟩) 1 1] (w.alloc (.cells #[.slice (some ⟨h, 0, none⟩) n c] 134))
      fun e w' => WritePost (w.alloc (.cells #[.slice (some ⟨h, 0, none⟩) n c] 134)) b g (splice bs o x) sp e w' := by
  have hlt := heap_lt m.hg
  have := write_yes (w.alloc (.cells #[.slice (some ⟨h, 0, none⟩) n c] 134)) b g pb 1 bs sp [x] (m.keeps ((Keeps.refl _ (fun _ => False)).alloc _) id id) o (by simp) (parts_one hr hg hn hx hpb (by omega)) (by rw [catAll_one]; exact hfit)
  rw [catAll_one] at this
  exact this

def MadePost (w : World) (bs : List UInt8) (e : Ending) (w' : World) : Prop :=
  ∃ b g, w.heap.size ≤ b ∧ w.heap.size ≤ g ∧ e = .returned (.pointer (some ⟨b, 0, none⟩)) ∧ MemAt 163 5 w' b g bs [] ∧ Keeps w w' (fun _ => False)
end Go.Proofs.YtgckinldnnckoaaGreatDoor
namespace Go.Proofs.YtgckinldnnckoaaGreatDoor
open Go.RowKit

/-- The byte at a place; -1: there is none. -/
def atVal (bs : List UInt8) (p : Int) : Int := if 0 ≤ p then (match bs[p.toNat]? with | some x => (x.toNat : Int) | none => -1) else -1
theorem atVal_in (bs : List UInt8) (q : Nat) (h : q < bs.length) : atVal bs (q : Int) = (bs[q].toNat : Int) := by
  simp [atVal, h]
theorem atVal_out (bs : List UInt8) (p : Int) (h : p < 0 ∨ (bs.length : Int) ≤ p) : atVal bs p = -1 := by
  unfold atVal
  by_cases h0 : 0 ≤ p
  · rw [if_pos h0, List.getElem?_eq_none (by omega)]
  · rw [if_neg h0]

def AtPost (w : World) (v : Int) (e : Ending) (w' : World) : Prop := e = .returned (.int .i64 v) ∧ Keeps w w' (fun _ => False)
end Go.Proofs.YtgckinldnnckoaaGreatDoor
namespace Go.Proofs.YtgckinldnnckoaaGreatDoor
open Go.RowKit

theorem inside_any (w : World) (b g : Nat) (bs sp : List UInt8) (m : MemAt 163 5 w b g bs sp) (off n : Int) :
    Calls Tryz.prog 123 #[.pointer (some ⟨b, 0, none⟩), .int .i64 off, .int .i64 n] w fun e w' => e = .returned (.bool (insideB bs.length off n)) ∧ w' = w := by
  cases h : insideB bs.length off n
  · exact inside_no w b g bs sp m off n h
  · exact inside_yes w b g bs sp m off n h
end Go.Proofs.YtgckinldnnckoaaGreatDoor
namespace Go.Proofs.YtgckinldnnckoaaGreatDoor
open Go.RowKit

def same (n : Nat) (u : UInt8) : List UInt8 := List.replicate n u
theorem same_length (n : Nat) (u : UInt8) : (same n u).length = n := by simp [same]
theorem same_zero (n : Nat) : same n 0 = zeros n := rfl
theorem same_succ (n : Nat) (u : UInt8) : same n u ++ [u] = same (n + 1) u := by
  simp [same, List.replicate_succ']

set_option maxHeartbeats 400000 in
theorem fill_no (w : World) (b g : Nat) (bs sp : List UInt8) (m : MemAt 163 5 w b g bs sp) (o n x : Int) (h : insideB bs.length o n = false) :
    Calls Tryz.prog 128 #[.pointer (some ⟨b, 0, none⟩), .int .i64 o, .int .i64 n, .int .u8 x] w fun e w' => e = .returned (.int .i64 11) ∧ w' = w := by
  have hc := inside_no w b g bs sp m o n h
  clear h
  go_enter Tryz.func128, Tryz.ntmps128
  go_wp2_with fail
  refine hc.mono ?_
  rintro e w' ⟨rfl, rfl⟩
  go_wp2_with fail
  go_ret
  exact ⟨rfl, rfl⟩

set_option maxHeartbeats 400000 in
theorem fill_zero (w : World) (b g : Nat) (bs sp : List UInt8) (m : MemAt 163 5 w b g bs sp) (o n : Nat) (h : o + n ≤ bs.length) :
    Calls Tryz.prog 128 #[.pointer (some ⟨b, 0, none⟩), .int .i64 (o : Int), .int .i64 (n : Int), .int .u8 0] w fun e w' => WritePost w b g (splice bs o (zeros n)) sp e w' := by
  have hc := inside_yes w b g bs sp m o n (insideB_mk h)
  have hs1 := span_any w b g bs sp m o n h
  obtain ⟨q, hq, hv⟩ := spanVal_eq g (bs.length + sp.length) o n
  rw [hv] at hs1
  obtain ⟨w2, hcl, m2, k2⟩ := mem_clear (P := Tryz.prog) 134 5 Tryz.underlying134 Tryz.infoE m (l := o) (q := q) (n := n) (c := bs.length + sp.length - o) h hq
  clear m hv hq
  go_enter Tryz.func128, Tryz.ntmps128
  go_wp2_with fail
  refine hc.mono ?_
  rintro e w' ⟨rfl, rfl⟩
  clear hc
  go_wp2_with fail
  refine hs1.mono ?_
  rintro e w' ⟨rfl, rfl⟩
  clear hs1
  go_wp2_with fail
  go_ret
  exact ⟨rfl, m2, k2⟩

set_option maxHeartbeats 1000000 in
theorem fill_other (w : World) (b g : Nat) (bs sp : List UInt8) (m : MemAt 163 5 w b g bs sp) (o n : Nat) (h : o + n ≤ bs.length) (u : UInt8) (hu : ((u.toNat : Int) == 0) = false) :
    Calls Tryz.prog 128 #[.pointer (some ⟨b, 0, none⟩), .int .i64 (o : Int), .int .i64 (n : Int), .int .u8 (u.toNat : Int)] w fun e w' => WritePost w b g (splice bs o (same n u)) sp e w' := by
  have hl : bs.length + sp.length ≤ 134217728 := m.hmax
  have hc := inside_yes w b g bs sp m o n (insideB_mk h)
  have hs1 := span_any w b g bs sp m o n h
  obtain ⟨q, hq, hv⟩ := spanVal_eq g (bs.length + sp.length) o n
  rw [hv] at hs1
  clear hv
  go_enter Tryz.func128, Tryz.ntmps128
  go_wp2_with fail
  refine hc.mono ?_
  rintro e w' ⟨rfl, rfl⟩
  clear hc
  go_wp2_with fail
  refine hs1.mono ?_
  rintro e w' ⟨rfl, rfl⟩
  clear hs1
  go_wp2_with fail
  go_loopw [25] (fun i wr => ∃ k : Nat, k ≤ n ∧ i = .int .i64 (k : Int) ∧ MemAt 163 5 wr b g (splice bs o (same k u)) sp ∧ Keeps w' wr (fun i => i = g)) (fun i _ => n - (intOf i).toNat)
  case atStart => exact ⟨0, Nat.zero_le _, rfl, by rw [show same 0 u = [] from rfl, splice_nil]; exact m, Keeps.refl _ _⟩
  case round =>
    obtain ⟨k, hk, rfl, mk, kk⟩ := hrel
    have hsl := same_length k u
    by_cases hlt : k < n
    · have hqo : q = o := by
        rcases hq with hq | ⟨_, hz⟩
        · exact hq
        · omega
      have hlen : (splice bs o (same k u)).length = bs.length := splice_length (by omega)
      obtain ⟨v0, hv0⟩ := mk.gcell_any (q + k) (by rw [hlen]; omega)
      have hfz := mk.gfrozen (q + k)
      have hst := mk.store (q + k) (by rw [hlen]; omega) u
      rw [show q + k = o + k from by omega, splice_set hsl (by omega), same_succ, ← show q + k = o + k from by omega] at hst
      have K2 := kk.trans hst.2 (fun _ _ x => x)
      have M2 := hst.1
      clear hst mk kk hsl hlen hqo hq
      go_wp2
      go_roundw
      case rel => exact ⟨k + 1, by omega, by go_num, M2, K2⟩
      case measure => simp [intOf]; omega
    · have hall : k = n := by omega
      subst hall
      go_wp2
      go_ret
      exact ⟨rfl, mk, kk⟩

theorem fill_yes (w : World) (b g : Nat) (bs sp : List UInt8) (m : MemAt 163 5 w b g bs sp) (o n : Nat) (h : o + n ≤ bs.length) (u : UInt8) :
    Calls Tryz.prog 128 #[.pointer (some ⟨b, 0, none⟩), .int .i64 (o : Int), .int .i64 (n : Int), .int .u8 (u.toNat : Int)] w fun e w' => WritePost w b g (splice bs o (same n u)) sp e w' := by
  by_cases hu : u = 0
  · subst hu
    exact fill_zero w b g bs sp m o n h
  · refine fill_other w b g bs sp m o n h u (beq_eq_false_iff_ne.2 ?_)
    intro h0
    apply hu
    apply UInt8.toNat_inj.1
    have : (0 : UInt8).toNat = 0 := rfl
    omega
end Go.Proofs.YtgckinldnnckoaaGreatDoor
/-
  Plain laws on growing a memory.
-/
namespace Go.Proofs.YtgckinldnnckoaaGreatDoor
open Go.RowKit

/-- The slice's length turns, within the room. -/
theorem MemAt.reslice {T E : TypeId} {w : World} {b g : Nat} {bs sp : List UInt8} (m : MemAt T E w b g bs sp) (s : Nat) (h1 : bs.length ≤ s) (h2 : s ≤ bs.length + sp.length) :
    MemAt T E (w.setCell ⟨b, 0, none⟩ (.slice (some ⟨g, 0, none⟩) s (bs.length + sp.length))) b g (bs ++ sp.take (s - bs.length)) (sp.drop (s - bs.length)) ∧
      Keeps w (w.setCell ⟨b, 0, none⟩ (.slice (some ⟨g, 0, none⟩) s (bs.length + sp.length))) (fun i => i = b) := by
  have e1 : (bs ++ sp.take (s - bs.length)).length = s := by simp; omega
  have e2 : s + (sp.drop (s - bs.length)).length = bs.length + sp.length := by simp; omega
  refine ⟨⟨?_, ?_, ?_, m.hne⟩, (Keeps.refl w (fun i => i = b)).setCell _ (fun _ => rfl) _⟩
  · rw [heap_setCell_zero m.hb, e1, e2]
  · rw [Below.heap_setCell _ _ _ _ (fun e => m.hne e.symm), m.hg, List.append_assoc, List.take_append_drop]
  · rw [e1, e2]; exact m.hmax

/-- The bytes lie in a new block g2 with more room; the struct is told. -/
theorem MemAt.moved {T E : TypeId} {w w2 : World} {b g g2 room : Nat} {bs sp : List UInt8} (m : MemAt T E w b g bs sp) (k : Keeps w w2 (fun _ => False)) (hg2 : w2.heap[g2]? = some (.cells (rowOf (bs ++ zeros (room - bs.length))) E)) (hlt : w.heap.size ≤ g2) (h1 : bs.length ≤ room) (h2 : room ≤ 134217728) :
    MemAt T E (w2.setCell ⟨b, 0, none⟩ (.slice (some ⟨g2, 0, none⟩) bs.length room)) b g2 bs (zeros (room - bs.length)) ∧
      Keeps w (w2.setCell ⟨b, 0, none⟩ (.slice (some ⟨g2, 0, none⟩) bs.length room)) (fun i => i = b) := by
  have hbl := heap_lt m.hb
  have hb2 := (k.block b hbl id).trans m.hb
  have e1 : bs.length + (zeros (room - bs.length)).length = room := by rw [zeros_length]; omega
  refine ⟨⟨?_, ?_, ?_, by omega⟩, (k.mono (S1 := fun i => i = b) (fun _ _ x => x.elim)).setCell _ (fun _ => rfl) _⟩
  · rw [heap_setCell_zero hb2, e1]
  · rw [Below.heap_setCell _ _ _ _ (by show g2 ≠ b; omega), hg2]
  · rw [e1]; exact h2

section
variable {P : Program}
theorem run_slice_head (w : World) (t e : TypeId) (ht : P.underlying t = some (.slice e)) (hi : (P.info? e).map (fun i => (i.zero, i.size, i.bytes)) = some (some (.int .u8 0), 1, 1)) (g len cap h : Nat) (hh : h ≤ cap) :
    (Instr.slice t (.slice (some ⟨g, 0, none⟩) len cap) none (some (.int .i64 (h : Int))) none).run P w = .ok (.slice (some ⟨g, 0, none⟩) h cap) w := by
  have ht' : P.underlying t = some (.slice (P.elem t)) := by simp [Program.elem, ht]
  have he : P.elem t = e := by simp [Program.elem, ht]
  rw [run_slice_h w t _ _ _ ht' .i64 _ (by omega) (by omega), he, run_sizeOf_byte w e hi]
  simp [Result.andThen, sliced, Addr.add]

/-- The copy of move. -/
theorem move_copy (t sT : TypeId) {T : TypeId} (E : TypeId) (hu : P.underlying t = some (.slice E)) (hi : (P.info? E).map (fun i => (i.zero, i.size, i.bytes)) = some (some (.int .u8 0), 1, 1))
    {w : World} {b g : Nat} {bs sp : List UInt8} (m : MemAt T E w b g bs sp) {room : Nat} (h1 : bs.length ≤ room) :
    ∃ w2, (∀ ty, (Builtin.copy_ #[t, sT] ty #[.slice (some ⟨w.heap.size, 0, none⟩) bs.length room, .slice (some ⟨g, 0, none⟩) bs.length (bs.length + sp.length)]).run P (w.alloc (.cells (rowOf (zeros room)) E)) = .ok (goInt bs.length) w2) ∧
      Keeps w w2 (fun _ => False) ∧ w2.heap[w.heap.size]? = some (.cells (rowOf (bs ++ zeros (room - bs.length))) E) := by
  have m1 : MemAt T E (w.alloc (.cells (rowOf (zeros room)) E)) b g bs sp := m.keeps ((Keeps.refl _ (fun _ => False)).alloc _) id id
  have hsrc : ∀ j (h : j < bs.length), (w.alloc (.cells (rowOf (zeros room)) E)).cell? ((⟨g, 0, none⟩ : Addr).add j) = some (.int .u8 (bs[j].toNat : Int)) := fun j h => by
    rw [addr_add, Nat.zero_add]
    exact m1.gcell j h
  have h := fun ty => run_copy_bytes (P := P) (w.alloc (.cells (rowOf (zeros room)) E)) t sT ty E hu hi w.heap.size 0 bs.length room ⟨g, 0, none⟩ bs.length (bs.length + sp.length) (zeros room) bs
    (heap_alloc_new _ _) (Nat.min_self _).symm hsrc (by rw [zeros_length]; omega)
  refine ⟨_, h, ((Keeps.refl _ _).alloc _).setRow _ (fun h => absurd h (Nat.lt_irrefl _)) _, ?_⟩
  rw [heap_setRow_same (heap_alloc_new w (.cells (rowOf (zeros room)) E))]
  have e : (zeros room).take 0 ++ bs ++ (zeros room).drop (0 + bs.length) = bs ++ zeros (room - bs.length) := by
    simp [zeros]
  rw [e]
end
/-- What move leaves. -/
def MovePost (T E : TypeId) (w : World) (b : Nat) (bs : List UInt8) (room : Nat) (e : Ending) (w' : World) : Prop :=
  ∃ g2, w.heap.size ≤ g2 ∧ e = .returned (.tuple #[]) ∧ MemAt T E w' b g2 bs (zeros (room - bs.length)) ∧ Keeps w w' (fun i => i = b)
theorem splice_grown (bs x : List UInt8) (n : Nat) (h : x.length = n) : splice (bs ++ x) bs.length (zeros n) = bs ++ zeros n := by
  unfold splice
  rw [List.take_left' rfl, List.drop_of_length_le (by rw [zeros_length, List.length_append]; omega), List.append_nil]
end Go.Proofs.YtgckinldnnckoaaGreatDoor
namespace Go.Proofs.YtgckinldnnckoaaGreatDoor
open Go.RowKit

def roomOf (s o : Nat) : Nat := min (max s (2 * o)) 134217728
theorem roomOf_ge {s o : Nat} (h : s ≤ 134217728) : s ≤ roomOf s o ∧ roomOf s o ≤ 134217728 := by unfold roomOf; omega

set_option maxHeartbeats 400000 in
theorem room_any (w : World) (s o : Nat) (h1 : s ≤ 134217728) (h2 : o ≤ 134217728) :
    Calls Tryz.prog 190 #[.int .i64 (s : Int), .int .i64 (o : Int)] w fun e w' => e = .returned (.int .i64 (roomOf s o : Int)) ∧ w' = w := by
  go_enter Tryz.func190, Tryz.ntmps190
  go_wp2
  all_goals go_ret
  all_goals refine ⟨congrArg (fun z => Ending.returned (Value.int .i64 z)) ?_, rfl⟩
  all_goals unfold roomOf
  all_goals omega

set_option maxHeartbeats 400000 in
theorem move_any (w : World) (b g : Nat) (bs sp : List UInt8) (m : MemAt 163 5 w b g bs sp) (room : Nat) (h1 : bs.length ≤ room) (h2 : room ≤ 134217728) :
    Calls Tryz.prog 189 #[.pointer (some ⟨b, 0, none⟩), .int .i64 (room : Int)] w fun e w' => MovePost 163 5 w b bs room e w' := by
  have hc := m.cell
  have hmk := run_make_room (P := Tryz.prog) w 134 5 Tryz.underlying134 Tryz.infoE bs.length room h1 h2
  have m1 : MemAt 163 5 (w.alloc (.cells (rowOf (zeros room)) 5)) b g bs sp := m.keeps ((Keeps.refl _ (fun _ => False)).alloc _) id id
  have hc1 := m1.cell
  obtain ⟨w2, hcp, k2, hg2⟩ := move_copy (P := Tryz.prog) 134 134 5 Tryz.underlying134 Tryz.infoE m h1
  have m2 := m.keeps k2 id id
  have hc2 := m2.cell
  have hf2 := m2.frozen
  have hmv := m.moved k2 hg2 (Nat.le_refl _) h1 h2
  clear m m1 m2 k2 hg2
  go_enter Tryz.func189, Tryz.ntmps189
  go_wp2
  go_end0
  exact ⟨_, Nat.le_refl _, rfl, hmv.1, hmv.2⟩

def GrowPost (w : World) (b g : Nat) (bs : List UInt8) (e : Ending) (w' : World) : Prop :=
  ∃ g' sp', e = .returned (.int .i64 0) ∧ (g' = g ∨ w.heap.size ≤ g') ∧ MemAt 163 5 w' b g' bs sp' ∧ Keeps w w' (fun i => i = b ∨ i = g)

set_option maxHeartbeats 400000 in
theorem grow_no (w : World) (b g : Nat) (bs sp : List UInt8) (m : MemAt 163 5 w b g bs sp) (s : Int) (h : s < bs.length ∨ 134217728 < s) :
    Calls Tryz.prog 171 #[.pointer (some ⟨b, 0, none⟩), .int .i64 s] w fun e w' => e = .returned (.int .i64 12) ∧ w' = w := by
  have hc := m.cell
  have hl : bs.length + sp.length ≤ 134217728 := m.hmax
  clear m
  rcases h with h | h
  · go_enter Tryz.func171, Tryz.ntmps171
    go_wp2
    go_ret
    exact ⟨rfl, rfl⟩
  · have h0 : ¬ s < (bs.length : Int) := by omega
    go_enter Tryz.func171, Tryz.ntmps171
    go_wp2
    go_ret
    exact ⟨rfl, rfl⟩

set_option maxHeartbeats 1000000 in
theorem grow_fit (w : World) (b g : Nat) (bs sp : List UInt8) (m : MemAt 163 5 w b g bs sp) (s : Nat) (h1 : bs.length ≤ s) (h2 : s ≤ bs.length + sp.length) :
    Calls Tryz.prog 171 #[.pointer (some ⟨b, 0, none⟩), .int .i64 (s : Int)] w fun e w' => GrowPost w b g (bs ++ zeros (s - bs.length)) e w' := by
  have hc := m.cell
  have hf := m.frozen
  have hl : bs.length + sp.length ≤ 134217728 := m.hmax
  have hhd := run_slice_head (P := Tryz.prog) w 134 5 Tryz.underlying134 Tryz.infoE g bs.length (bs.length + sp.length) s h2
  obtain ⟨m1, k1⟩ := m.reslice s h1 h2
  have e1 : (bs ++ sp.take (s - bs.length)).length = s := by simp; omega
  have e2 : s + (sp.drop (s - bs.length)).length = bs.length + sp.length := by simp; omega
  obtain ⟨q, hq, hv⟩ := tailVal_eq g s (bs.length + sp.length) bs.length
  have htl := run_slice_tail (P := Tryz.prog) (w.setCell ⟨b, 0, none⟩ (.slice (some ⟨g, 0, none⟩) s (bs.length + sp.length))) 134 5 Tryz.underlying134 Tryz.infoE g s (bs.length + sp.length) bs.length h1
  rw [hv, Nat.add_sub_cancel_left] at htl
  obtain ⟨w2, hcl, m2, k2⟩ := mem_clear (P := Tryz.prog) 134 5 Tryz.underlying134 Tryz.infoE m1 (l := bs.length) (q := q) (n := s - bs.length) (c := sp.length) (by rw [e1]; omega) (by rw [e1, e2]; exact hq)
  rw [splice_grown _ _ _ (by simp; omega)] at m2
  have K := (k1.mono (S1 := fun i => i = b ∨ i = g) (fun _ _ x => Or.inl x)).trans k2 (fun _ _ x => Or.inr x)
  have h3 : ¬ (s : Int) < (bs.length : Int) := by omega
  have h4 : ¬ (134217728 : Int) < (s : Int) := by omega
  have h5 : ¬ ((bs.length : Int) + (sp.length : Int)) < (s : Int) := by omega
  clear m m1 k1 k2 e1 e2 hq hv
  go_enter Tryz.func171, Tryz.ntmps171
  go_wp2
  go_ret
  exact ⟨g, _, rfl, Or.inl rfl, m2, K⟩

set_option maxHeartbeats 1000000 in
theorem grow_more (w : World) (b g : Nat) (bs sp : List UInt8) (m : MemAt 163 5 w b g bs sp) (s : Nat) (h1 : bs.length + sp.length < s) (h2 : s ≤ 134217728) :
    Calls Tryz.prog 171 #[.pointer (some ⟨b, 0, none⟩), .int .i64 (s : Int)] w fun e w' => GrowPost w b g (bs ++ zeros (s - bs.length)) e w' := by
  have hc := m.cell
  have hl : bs.length + sp.length ≤ 134217728 := m.hmax
  have hroom := room_any w s bs.length h2 (by omega)
  have hge := roomOf_ge (o := bs.length) h2
  have hmv := move_any w b g bs sp m (roomOf s bs.length) (by omega) (by omega)
  generalize roomOf s bs.length = R at *
  have h3 : ¬ (s : Int) < (bs.length : Int) := by omega
  have h4 : ¬ (134217728 : Int) < (s : Int) := by omega
  have h5 : ((bs.length : Int) + (sp.length : Int)) < (s : Int) := by omega
  clear m
  go_enter Tryz.func171, Tryz.ntmps171
  go_wp2_with fail
  refine hroom.mono ?_
  rintro e w' ⟨rfl, rfl⟩
  clear hroom
  go_wp2_with fail
  refine hmv.mono ?_
  rintro e w1 ⟨g2, hg2, rfl, m, k⟩
  clear hmv hc
  have hb1 : w'.heap.size ≤ w1.heap.size := k.size
  have hc := m.cell
  have hf := m.frozen
  have hz : (zeros (R - bs.length)).length = R - bs.length := zeros_length _
  have hR : bs.length + (R - bs.length) = R := by omega
  rw [hz, hR] at hc
  have hhd := run_slice_head (P := Tryz.prog) w1 134 5 Tryz.underlying134 Tryz.infoE g2 bs.length R s hge.1
  obtain ⟨m1, k1⟩ := m.reslice s (by omega) (by omega)
  rw [hz, hR] at m1 k1
  have e1 : (bs ++ (zeros (R - bs.length)).take (s - bs.length)).length = s := by simp [zeros]; omega
  have e2 : s + ((zeros (R - bs.length)).drop (s - bs.length)).length = R := by simp [zeros]; omega
  obtain ⟨q, hq, hv⟩ := tailVal_eq g2 s R bs.length
  have htl := run_slice_tail (P := Tryz.prog) (w1.setCell ⟨b, 0, none⟩ (.slice (some ⟨g2, 0, none⟩) s R)) 134 5 Tryz.underlying134 Tryz.infoE g2 s R bs.length (by omega)
  rw [hv] at htl
  obtain ⟨w2, hcl, m2, k2⟩ := mem_clear (P := Tryz.prog) 134 5 Tryz.underlying134 Tryz.infoE m1 (l := bs.length) (q := q) (n := s - bs.length) (c := R - bs.length) (by rw [e1]; omega) (by rw [e1, e2]; exact hq)
  rw [splice_grown _ _ _ (by simp [zeros]; omega)] at m2
  have K := ((k.mono (S1 := fun i => i = b ∨ i = g) (fun _ _ x => Or.inl x)).trans k1 (fun _ _ x => Or.inl x)).trans k2 (fun i hi x => by omega)
  clear m m1 k k1 k2 e1 e2 hq hv hz hR hb1 hge
  go_wp2
  go_ret
  exact ⟨g2, _, rfl, Or.inr hg2, m2, K⟩

theorem grow_yes (w : World) (b g : Nat) (bs sp : List UInt8) (m : MemAt 163 5 w b g bs sp) (s : Nat) (h1 : bs.length ≤ s) (h2 : s ≤ 134217728) :
    Calls Tryz.prog 171 #[.pointer (some ⟨b, 0, none⟩), .int .i64 (s : Int)] w fun e w' => GrowPost w b g (bs ++ zeros (s - bs.length)) e w' := by
  by_cases h : s ≤ bs.length + sp.length
  · exact grow_fit w b g bs sp m s h1 h
  · exact grow_more w b g bs sp m s (by omega) h2
end Go.Proofs.YtgckinldnnckoaaGreatDoor
