/-
  TableRanges: what holds ahead of each round of its second and third range: the table stays.
-/
import Derived.Test.YtmdnknbolgedgaaGreatDoorHT30
namespace Go.Proofs.YtmdnknbolgedgaaGreatDoor
open Go.RowKit Go.Shelf Ly Ct
set_option linter.unusedVariables false

structure R2 (V2 X : World) (M : Nat) (o : Option Nat) (nw wi : Int) : Prop where
  k : Keeps V2 X (fun q => q = M ∨ q = M + 1)
  n : X.heap[M]? = some (.cells #[.int .i64 nw] 3)
  i : X.heap[M + 1]? = some (.cells #[.int .i64 wi] 3)
  d : X.heap[V2.heap.size]? = some (.deferred (some []))
  ob : ∀ q, o = some q → V2.heap.size + 2 ≤ q ∧ q < X.heap.size
section
variable {V2 X X' : World} {M : Nat} {o : Option Nat} {nw wi : Int}
theorem R2.stay (h : R2 V2 X M o nw wi) (k : Keeps X X' (fun _ => False)) : R2 V2 X' M o nw wi := ⟨h.k.trans k (fun _ _ e => e.elim), k.blk h.n, k.blk h.i, k.blk h.d, fun q e => ⟨(h.ob q e).1, Nat.lt_of_lt_of_le (h.ob q e).2 k.size⟩⟩
theorem R2.put (h : R2 V2 X M o nw wi) (hz : V2.heap.size = M + 2) {l : Nat} (hl : V2.heap.size + 1 ≤ l) (y : Obj) : R2 V2 (X.putObj l y) M o nw wi := by
  have kp : Keeps X (X.putObj l y) (fun q => q = l) := keeps_putX (X := fun q => q = l) rfl y
  exact ⟨h.k.trans kp (fun q hq e => by omega), putBlk h.n (by omega), putBlk h.i (by omega), putBlk h.d (by omega), fun q e => ⟨(h.ob q e).1, Nat.lt_of_lt_of_le (h.ob q e).2 kp.size⟩⟩
theorem R2.setN (h : R2 V2 X M o nw wi) (hz : V2.heap.size = M + 2) (x : Int) : R2 V2 (X.setCell ⟨M, 0, none⟩ (.int .i64 x)) M o x wi := by
  have ks : Keeps X (X.setCell ⟨M, 0, none⟩ (.int .i64 x)) (fun q => q = M) := Keeps.setCell (S := fun q => q = M) (Keeps.refl X _) ⟨M, 0, none⟩ (fun _ => rfl) _
  exact ⟨h.k.trans ks (fun q hq e => Or.inl e), set_one' h.n 0 _ (by simp), ks.blkS h.i (by omega), ks.blkS h.d (by omega), fun q e => ⟨(h.ob q e).1, Nat.lt_of_lt_of_le (h.ob q e).2 ks.size⟩⟩
theorem R2.setI (h : R2 V2 X M o nw wi) (hz : V2.heap.size = M + 2) (x : Int) : R2 V2 (X.setCell ⟨M + 1, 0, none⟩ (.int .i64 x)) M o nw x := by
  have ks : Keeps X (X.setCell ⟨M + 1, 0, none⟩ (.int .i64 x)) (fun q => q = M + 1) := Keeps.setCell (S := fun q => q = M + 1) (Keeps.refl X _) ⟨M + 1, 0, none⟩ (fun _ => rfl) _
  exact ⟨h.k.trans ks (fun q hq e => Or.inr e), ks.blkS h.n (by omega), set_one' h.i 0 _ (by simp), ks.blkS h.d (by omega), fun q e => ⟨(h.ob q e).1, Nat.lt_of_lt_of_le (h.ob q e).2 ks.size⟩⟩
theorem R2.blk (h : R2 V2 X M o nw wi) {q : Nat} {y : Obj} (hq : V2.heap[q]? = some y) (h1 : q ≠ M) (h2 : q ≠ M + 1) : X.heap[q]? = some y := h.k.blkS hq (fun e => e.elim h1 h2)
theorem R2.sw {W0 : World} {p : Nat} {Y : Nat → Prop} {l : Lay} {G : Nat} {d : AD} {f : Nat → Int} {c : Nat → GC} (h : R2 V2 X M o nw wi) (hS : SW W0 V2 p Y l G d f c) (h1 : Y M) (h2 : Y (M + 1)) (hY : ∀ q, Y q → W0.heap.size ≤ q) : SW W0 X p Y l G d f c :=
  hS.swap (h.k.mono (fun q _ e => e.elim (fun e => e ▸ h1) (fun e => e ▸ h2))) hY
/-- How often the third range has been through. -/
def wiN (n H : Nat) : Int := ((min n 2 * H : Nat) : Int)
theorem wiN_lt {n H : Nat} (h : n < 2) : wiN (n + 1) H = wiN n H + (H : Int) := by
  unfold wiN
  rw [Nat.min_eq_left (by omega), Nat.min_eq_left (by omega), Nat.succ_mul]
  omega
theorem wiN_ge {n H : Nat} (h : 2 ≤ n) : wiN (n + 1) H = wiN n H := by
  unfold wiN
  rw [Nat.min_eq_right (by omega), Nat.min_eq_right (by omega)]
theorem wiN_bound {n H : Nat} (hH : H ≤ 1024) : 0 ≤ wiN n H ∧ wiN n H ≤ 2048 := by
  unfold wiN
  have h2 : min n 2 ≤ 2 := Nat.min_le_right _ _
  have := Nat.mul_le_mul h2 hH
  omega
theorem wr_int {x : Int} (h0 : 0 ≤ x) (h1 : x ≤ 100000) : wrap64 (x + 1) = x + 1 ∧ IntKind.i64.wrap (x + 1) = x + 1 := by
  constructor
  · unfold wrap64; omega
  · rw [IntKind.wrap_i64]; omega
/-- One round more. -/
theorem R2.step (h : R2 V2 X M o nw wi) (hz : V2.heap.size = M + 2) {Z : World} (k : Keeps Z X (fun q => q = M + 1)) (x : Int) : R2 V2 (X.setCell ⟨M + 1, 0, none⟩ (.int .i64 x)) M o nw x ∧ Keeps Z (X.setCell ⟨M + 1, 0, none⟩ (.int .i64 x)) (fun q => q = M + 1) ∧ ∀ q, q ≠ M + 1 → q < X.heap.size → (X.setCell ⟨M + 1, 0, none⟩ (.int .i64 x)).heap[q]? = X.heap[q]? ∧ X.heap.size ≤ (X.setCell ⟨M + 1, 0, none⟩ (.int .i64 x)).heap.size := by
  have ks : Keeps X (X.setCell ⟨M + 1, 0, none⟩ (.int .i64 x)) (fun q => q = M + 1) := Keeps.setCell (S := fun q => q = M + 1) (Keeps.refl X _) ⟨M + 1, 0, none⟩ (fun _ => rfl) _
  exact ⟨h.setI hz x, k.trans ks (fun _ _ e => e), fun q h1 h2 => ⟨ks.block q h2 h1, ks.size⟩⟩
theorem wiN_end {H : Nat} (h : H ≤ 1024) : (wiN H H == wrap64 (min (H : Int) 2 * (H : Int))) = true := by
  have e : min (H : Int) 2 * (H : Int) = wiN H H := by
    unfold wiN
    rcases Nat.lt_or_ge H 2 with q | q
    · rw [Nat.min_eq_left (by omega), Int.min_eq_left (by omega)]
      simp
    · rw [Nat.min_eq_right (by omega), Int.min_eq_right (by omega)]
      simp
  have hb := wiN_bound (n := H) h
  rw [e]
  have : wrap64 (wiN H H) = wiN H H := by
    generalize wiN H H = x at *
    unfold wrap64
    omega
  rw [this]
  simp
end
end Go.Proofs.YtmdnknbolgedgaaGreatDoor
