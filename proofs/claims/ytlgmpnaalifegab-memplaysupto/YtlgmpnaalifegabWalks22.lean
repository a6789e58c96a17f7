import Derived.Test.YtlgmpnaalifegabWalks17
namespace Go.Proofs.Ytlgmpnaalifegab
open Go.RowKit

/-- A write that the reference remembers. -/
structure ActD where
  k : Nat
  off : Nat
  n : Nat
  src : Nat
  u : UInt8
  s : ByteArray
def actVal (k off n src : Nat) (u : UInt8) (s : ByteArray) : Array Value :=
  #[.int .i64 (k : Int), .int .i64 (off : Int), .int .i64 (n : Int), .int .i64 (src : Int), .int .u8 (u.toNat : Int), .string s]
def ActD.cells (a : ActD) : List Value := (actVal a.k a.off a.n a.src a.u a.s).toList
def actCells (xs : List ActD) : List Value := xs.flatMap ActD.cells
theorem ActD.cells_length (p : ActD) : p.cells.length = 6 := rfl
theorem actCells_get (ps : List ActD) (i j : Nat) (h : i < ps.length) (hj : j < 6) : (actCells ps)[i * 6 + j]? = ps[i].cells[j]? := by
  induction ps generalizing i with
  | nil => simp at h
  | cons p r ih =>
    have e : actCells (p :: r) = p.cells ++ actCells r := by simp [actCells]
    rw [e]
    cases i with
    | zero =>
      rw [List.getElem?_append_left (by rw [ActD.cells_length]; omega)]
      simp
    | succ i =>
      have hi : i < r.length := by simpa using h
      rw [List.getElem?_append_right (by rw [ActD.cells_length]; omega), ActD.cells_length, show (i + 1) * 6 + j - 6 = i * 6 + j from by omega, ih i hi]
      simp

/-- The byte at p, sought from the latest act (the first of the list) back. -/
def lookB : List ActD → Nat → UInt8
  | [], _ => 0
  | a :: r, p => if a.off ≤ p ∧ p < a.off + a.n then (if a.k = 1 then a.u else if a.k = 2 then a.s.data.toList.getD (p - a.off) 0 else lookB r (a.src + (p - a.off))) else lookB r p
def ActD.ok (a : ActD) (sz : Nat) : Prop := a.off + a.n ≤ sz ∧ a.src + a.n ≤ sz ∧ (a.k = 2 → a.s.size = a.n) ∧ a.k ≤ 3

/-- The reference's memory: block rb. -/
structure RefAt (B : Nat) (w : World) (rb sz : Nat) (av : Value) (xs : List ActD) : Prop where
  hb : w.heap[rb]? = some (.cells #[.int .i64 (sz : Int), av] 75)
  own : w.ownsRow B 82 6 av xs.length (actCells xs)
  hsz : sz ≤ 134217728
  hlen : xs.length ≤ 1048576
  hok : ∀ a ∈ xs, a.ok sz
theorem RefAt.own_ne {B : Nat} {w : World} {rb sz : Nat} {av : Value} {xs : List ActD} (r : RefAt B w rb sz av xs) {k : Nat} (h : av.ownBlock = some k) {c : Array Value} {t : TypeId} {f : Nat × Nat} (hk : w.heap[k]? = some (.cells c t f)) : t = 82 := by
  obtain ⟨_, cur, hc⟩ := ownsRow_block r.own h
  rw [hk] at hc
  injection hc with hc
  injection hc
theorem RefAt.keeps {B : Nat} {w w' : World} {rb sz : Nat} {av : Value} {xs : List ActD} {S : Nat → Prop} (r : RefAt B w rb sz av xs) (k : Keeps w w' S) (h1 : ¬ S rb) (h2 : ∀ g, av.ownBlock = some g → ¬ S g) : RefAt B w' rb sz av xs :=
  ⟨(k.block rb (heap_lt r.hb) h1).trans r.hb, ownsRow_keeps r.own k h2, r.hsz, r.hlen, r.hok⟩
theorem RefAt.keepsNone {B : Nat} {w w' : World} {rb sz : Nat} {av : Value} {xs : List ActD} (r : RefAt B w rb sz av xs) (k : Keeps w w' (fun _ => False)) : RefAt B w' rb sz av xs := r.keeps k id (fun _ _ => id)
theorem RefAt.cell0 {B : Nat} {w : World} {rb sz : Nat} {av : Value} {xs : List ActD} (r : RefAt B w rb sz av xs) : w.cell? ⟨rb, 0, none⟩ = some (.int .i64 (sz : Int)) := by
  simp [World.cell?, r.hb]
theorem RefAt.cell1 {B : Nat} {w : World} {rb sz : Nat} {av : Value} {xs : List ActD} (r : RefAt B w rb sz av xs) : w.cell? ⟨rb, 1, none⟩ = some av := by
  simp [World.cell?, r.hb]
theorem RefAt.frozen {B : Nat} {w : World} {rb sz : Nat} {av : Value} {xs : List ActD} (r : RefAt B w rb sz av xs) (j : Nat) : w.frozen? ⟨rb, j, none⟩ = false := by
  simp [World.frozen?, r.hb]

set_option maxHeartbeats 400000 in
theorem rin_yes (w : World) (rb sz : Nat) (hc : w.cell? ⟨rb, 0, none⟩ = some (.int .i64 (sz : Int))) (hl : sz ≤ 134217728) (off n : Int) (h : insideB sz off n = true) :
    Calls Try.prog 47 #[.pointer (some ⟨rb, 0, none⟩), .int .i64 off, .int .i64 n] w fun e w' => e = .returned (.bool true) ∧ w' = w := by
  obtain ⟨h1, h2, h3, h4⟩ := insideB_true h
  clear h
  go_enter Try.func47, Try.ntmps47
  go_wp2
  go_ret
  exact ⟨rfl, rfl⟩

set_option maxHeartbeats 400000 in
theorem rin_no (w : World) (rb sz : Nat) (hc : w.cell? ⟨rb, 0, none⟩ = some (.int .i64 (sz : Int))) (hl : sz ≤ 134217728) (off n : Int) (h : insideB sz off n = false) :
    Calls Try.prog 47 #[.pointer (some ⟨rb, 0, none⟩), .int .i64 off, .int .i64 n] w fun e w' => e = .returned (.bool false) ∧ w' = w := by
  have hn := insideB_false h
  clear h
  by_cases h1 : 0 ≤ off
  · by_cases h2 : 0 ≤ n
    · by_cases h3 : n ≤ sz
      · have h4 : ¬ off ≤ sz - n := fun h4 => hn ⟨h1, h2, h3, h4⟩
        clear hn
        go_enter Try.func47, Try.ntmps47
        go_wp2
        go_ret
        exact ⟨rfl, rfl⟩
      · clear hn
        go_enter Try.func47, Try.ntmps47
        go_wp2
        go_ret
        exact ⟨rfl, rfl⟩
    · clear hn
      go_enter Try.func47, Try.ntmps47
      go_wp2
      go_ret
      exact ⟨rfl, rfl⟩
  · clear hn
    go_enter Try.func47, Try.ntmps47
    go_wp2
    go_ret
    exact ⟨rfl, rfl⟩
theorem rin_any (w : World) (rb sz : Nat) (hc : w.cell? ⟨rb, 0, none⟩ = some (.int .i64 (sz : Int))) (hl : sz ≤ 134217728) (off n : Int) :
    Calls Try.prog 47 #[.pointer (some ⟨rb, 0, none⟩), .int .i64 off, .int .i64 n] w fun e w' => e = .returned (.bool (insideB sz off n)) ∧ w' = w := by
  cases h : insideB sz off n
  · exact rin_no w rb sz hc hl off n h
  · exact rin_yes w rb sz hc hl off n h

set_option maxHeartbeats 400000 in
theorem rwidth_any (w : World) (n : Int) :
    Calls Try.prog 46 #[.int .i64 n] w fun e w' => e = .returned (.bool (widthB n)) ∧ w' = w := by
  cases h : widthB n
  · obtain ⟨h1, h2, h3, h4⟩ := widthB_false h
    have b1 : (n == 1) = false := beq_eq_false_iff_ne.2 h1
    have b2 : (n == 2) = false := beq_eq_false_iff_ne.2 h2
    have b3 : (n == 4) = false := beq_eq_false_iff_ne.2 h3
    have b4 : (n == 8) = false := beq_eq_false_iff_ne.2 h4
    clear h h1 h2 h3 h4
    go_enter Try.func46, Try.ntmps46
    go_wp2
    go_ret
    exact ⟨rfl, rfl⟩
  · rcases widthB_true h with rfl | rfl | rfl | rfl
    all_goals
      clear h
      go_enter Try.func46, Try.ntmps46
      go_wp2
      go_ret
      exact ⟨rfl, rfl⟩

set_option maxHeartbeats 400000 in
theorem rnew_no (n : Int) (w : World) (h : n < 0 ∨ 134217728 < n) :
    Calls Try.prog 20 #[.int .i64 n] w fun e w' => e = .returned (.tuple #[.pointer none, .int .i64 12]) ∧ w' = w := by
  rcases h with h | h
  · go_enter Try.func20, Try.ntmps20
    go_wp2
    go_ret2
    exact ⟨rfl, rfl⟩
  · have h0 : ¬ n < 0 := by omega
    go_enter Try.func20, Try.ntmps20
    go_wp2
    go_ret2
    exact ⟨rfl, rfl⟩

def RNewPost (B : Nat) (w : World) (n : Nat) (e : Ending) (w' : World) : Prop :=
  ∃ rb, w.heap.size ≤ rb ∧ e = .returned (.tuple #[.pointer (some ⟨rb, 0, none⟩), .int .i64 0]) ∧ RefAt B w' rb n (.slice none 0 0) [] ∧ Keeps w w' (fun _ => False)
set_option maxHeartbeats 400000 in
theorem rnew_yes (B : Nat) (n : Nat) (w : World) (h : n ≤ 134217728) :
    Calls Try.prog 20 #[.int .i64 (n : Int)] w fun e w' => RNewPost B w n e w' := by
  have h0 : ¬ (n : Int) < 0 := by omega
  have h1 : ¬ (134217728 : Int) < (n : Int) := by omega
  go_enter Try.func20, Try.ntmps20
  go_wp2
  go_ret2
  exact ⟨w.heap.size, Nat.le_refl _, rfl, ⟨heap_alloc_new _ _, World.ownsRow_nil _ _ _ _, h, by simp, fun a ha => by cases ha⟩, (Keeps.refl _ _).alloc _⟩

set_option maxHeartbeats 400000 in
theorem rgrow_no (w : World) (rb sz : Nat) (hc : w.cell? ⟨rb, 0, none⟩ = some (.int .i64 (sz : Int))) (s : Int) (h : s < sz ∨ 134217728 < s) :
    Calls Try.prog 34 #[.pointer (some ⟨rb, 0, none⟩), .int .i64 s] w fun e w' => e = .returned (.int .i64 12) ∧ w' = w := by
  by_cases h1 : s < sz
  · clear h
    go_enter Try.func34, Try.ntmps34
    go_wp2
    go_ret
    exact ⟨rfl, rfl⟩
  · have h2 : 134217728 < s := by omega
    clear h
    go_enter Try.func34, Try.ntmps34
    go_wp2
    go_ret
    exact ⟨rfl, rfl⟩
theorem heap_setCell_two {w : World} {b : Nat} {u0 u1 v : Value} {t : TypeId} (hb : w.heap[b]? = some (.cells #[u0, u1] t)) : (w.setCell ⟨b, 0, none⟩ v).heap[b]? = some (.cells #[v, u1] t) ∧ (w.setCell ⟨b, 1, none⟩ v).heap[b]? = some (.cells #[u0, v] t) := by
  have hlt := heap_lt hb
  have hv := (Array.getElem?_eq_some_iff.1 hb).2
  simp only [World.setCell, Array.getElem?_modify]
  simp [hlt, hv]
def RGrowPost (B : Nat) (w : World) (rb s : Nat) (av : Value) (xs : List ActD) (e : Ending) (w' : World) : Prop :=
  e = .returned (.int .i64 0) ∧ RefAt B w' rb s av xs ∧ Keeps w w' (fun k => k = rb)
set_option maxHeartbeats 400000 in
theorem rgrow_yes {B : Nat} {w : World} {rb sz : Nat} {av : Value} {xs : List ActD} (r : RefAt B w rb sz av xs) (s : Nat) (h1 : sz ≤ s) (h2 : s ≤ 134217728) :
    Calls Try.prog 34 #[.pointer (some ⟨rb, 0, none⟩), .int .i64 (s : Int)] w fun e w' => RGrowPost B w rb s av xs e w' := by
  have hc := r.cell0
  have hfz := r.frozen 0
  have hl := r.hsz
  have g1 : ¬ (s : Int) < (sz : Int) := by omega
  have g2 : ¬ (134217728 : Int) < (s : Int) := by omega
  have R : Hid (RefAt B w rb sz av xs) := r
  clear r
  go_enter Try.func34, Try.ntmps34
  go_wp2
  go_ret
  have r := R.out
  have k : Keeps w (w.setCell ⟨rb, 0, none⟩ (.int .i64 (s : Int))) (fun k => k = rb) := Keeps.setCell (S := fun k => k = rb) (Keeps.refl _ _) ⟨rb, 0, none⟩ (fun _ => rfl) _
  refine ⟨rfl, ⟨(heap_setCell_two r.hb).1, ownsRow_keeps r.own k (fun g hg e => ?_), h2, r.hlen, fun a ha => ?_⟩, k⟩
  · subst e
    exact absurd (r.own_ne hg r.hb) (by decide)
  · have := r.hok a ha
    unfold ActD.ok at this ⊢
    omega
end Go.Proofs.Ytlgmpnaalifegab
