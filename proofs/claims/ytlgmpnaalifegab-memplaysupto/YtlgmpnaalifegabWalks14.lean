import Derived.Test.YtlgmpnaalifegabWalks13
import Derived.Test.YtlgmpnaalifegabWalks7
import Derived.Test.YtlgmpnaalifegabBase6
namespace Go.Proofs.Ytlgmpnaalifegab
open Go.RowKit

/-- n marks, and behind them the next k numbers. -/
def ups (u : UInt8) (k : Nat) : List UInt8 := (List.range k).map (fun i => u + UInt8.ofNat (i + 1))
theorem ups_length (u : UInt8) (k : Nat) : (ups u k).length = k := by simp [ups]
def marks (n : Nat) (u : UInt8) (k : Nat) : List UInt8 := same n u ++ ups u k
theorem marks_length (n : Nat) (u : UInt8) (k : Nat) : (marks n u k).length = n + k := by simp [marks, same_length, ups_length]

/-- A list that goes on behind a list without room: new memory. -/
theorem append_more {P : Program} (t E : TypeId) (ht : P.underlying t = some (.slice E)) (hi : (P.info? E).map (fun i => (i.zero, i.size, i.bytes)) = some (some (.int .u8 0), 1, 1))
    {w : World} {h p n k : Nat} {x z : List UInt8} {fz fp : Nat × Nat} {ut : TypeId} (hr : w.heap[h]? = some (.cells (rowOf x) E fz)) (hn : n = x.length) (hz : z.length = k) (hk : 0 < k) (hk3 : k ≤ 8) (hp : w.heap[p]? = some (.cells (rowOf z) ut fp)) (hx : x.length ≤ 1099511627776) :
    ∃ g c w2 y, (∀ ty, (Builtin.append_ #[t, t] ty #[.slice (some ⟨h, 0, none⟩) n n, .slice (some ⟨p, 0, none⟩) k k]).run P w = .ok (.slice (some ⟨g, 0, none⟩) (n + k) c) w2) ∧
      w2.heap[g]? = some (.cells (rowOf (x ++ z ++ y)) E) ∧ Keeps w w2 (fun _ => False) ∧ g = w.heap.size := by
  subst hn
  subst hz
  obtain ⟨i, h1, h2, h3, h4⟩ := info_parts hi
  have cells_of : ∀ {b : Nat} {l : List UInt8} {T : TypeId} {f : Nat × Nat}, w.heap[b]? = some (.cells (rowOf l) T f) → ∀ j v, (cellsOf l)[j]? = some v → w.cell? ((⟨b, 0, none⟩ : Addr).add j) = some v := fun hb j v hj => by
    rw [addr_add, Nat.zero_add]
    simp only [World.cell?, hb]
    simpa [rowOf] using hj
  have hg := fun ty => run_append_grow (P := P) w t ty E i (.int .u8 0) ht h1 h2 ⟨h, 0, none⟩ x.length x.length (cellsOf x) (by rw [h3, cellsOf_length, Nat.mul_one]) (cells_of hr) ⟨p, 0, none⟩ z.length z.length (cellsOf z) (by rw [h3, cellsOf_length, Nat.mul_one]) (cells_of hp) (by omega) (by omega)
    (by have := nextslicecap_le (need := x.length + z.length) (old := x.length) (by omega); rw [h4]; omega)
  refine ⟨w.heap.size, _, _, zeros (grownCap w (x.length + z.length) x.length E - (x.length + z.length)), hg, ?_, ((Keeps.refl _ _).drew).alloc _, rfl⟩
  have hnew := heap_alloc_new w.drew (.cells ((cellsOf x).toArray ++ (cellsOf z).toArray ++ Builtin.zeroCells (Value.int .u8 0).cells (grownCap w (x.length + z.length) x.length E - (x.length + z.length))) E)
  refine Eq.trans hnew ?_
  congr 2
  apply Array.ext'
  rw [rowOf_toList]
  simp [cellsOf, cellOf, zeros, Builtin.zeroCells, Value.cells]
  apply List.ext_getElem
  · simp
  · intro j a b
    simp [Nat.mod_one]

/-- A page: the list and the three that go on behind it. -/
structure PageAt (E : TypeId) (w : World) (n : Nat) (u : UInt8) (h a1 a2 a3 : Nat) : Prop where
  p0 : ∃ f, w.heap[h]? = some (.cells (rowOf (same n u)) E f)
  p1 : ∃ y f, w.heap[a1]? = some (.cells (rowOf (marks n u 1 ++ y)) E f)
  p2 : ∃ y f, w.heap[a2]? = some (.cells (rowOf (marks n u 2 ++ y)) E f)
  p3 : ∃ y f, w.heap[a3]? = some (.cells (rowOf (marks n u 3 ++ y)) E f)
def pageVal (n : Nat) (u : UInt8) (h a1 a2 a3 c1 c2 c3 : Nat) : Array Value :=
  #[.slice (some ⟨h, 0, none⟩) n n, .slice (some ⟨a1, 0, none⟩) (n + 1) c1, .slice (some ⟨a2, 0, none⟩) (n + 2) c2, .slice (some ⟨a3, 0, none⟩) (n + 3) c3, .int .u8 (u.toNat : Int)]
theorem PageAt.keeps {E : TypeId} {w w' : World} {n : Nat} {u : UInt8} {h a1 a2 a3 : Nat} {S : Nat → Prop} (p : PageAt E w n u h a1 a2 a3) (k : Keeps w w' S) (h0 : ¬ S h) (h1 : ¬ S a1) (h2 : ¬ S a2) (h3 : ¬ S a3) : PageAt E w' n u h a1 a2 a3 := by
  obtain ⟨⟨f0, p0⟩, ⟨y1, f1, p1⟩, ⟨y2, f2, p2⟩, ⟨y3, f3, p3⟩⟩ := p
  exact ⟨⟨f0, (k.block _ (heap_lt p0) h0).trans p0⟩, ⟨y1, f1, (k.block _ (heap_lt p1) h1).trans p1⟩, ⟨y2, f2, (k.block _ (heap_lt p2) h2).trans p2⟩, ⟨y3, f3, (k.block _ (heap_lt p3) h3).trans p3⟩⟩

def TurnedPost (w : World) (n : Nat) (u : UInt8) (h : Nat) (e : Ending) (w' : World) : Prop :=
  ∃ a1 a2 a3 c1 c2 c3, e = .returned (.agg (pageVal n u h a1 a2 a3 c1 c2 c3)) ∧ w.heap.size ≤ a1 ∧ w.heap.size ≤ a2 ∧ w.heap.size ≤ a3 ∧ PageAt 5 w' n u h a1 a2 a3 ∧ Keeps w w' (fun k => k = h)

/-- The marks are laid one by one. -/
theorem same_drop_set (x : List UInt8) (k : Nat) (u : UInt8) (h : k < x.length) : (same k u ++ x.drop k).set k u = same (k + 1) u ++ x.drop (k + 1) := by
  rw [← same_succ, List.set_append_right _ _ (by rw [same_length]; exact Nat.le_refl _), same_length, Nat.sub_self, List.append_assoc]
  congr 1
  rw [List.drop_eq_getElem_cons h]
  rfl
theorem row_store {w : World} {h : Nat} {x : List UInt8} {E : TypeId} {f : Nat × Nat} (hr : w.heap[h]? = some (.cells (rowOf x) E f)) (j : Nat) (u : UInt8) : (w.setCell ⟨h, j, none⟩ (.int .u8 (u.toNat : Int))).heap[h]? = some (.cells (rowOf (x.set j u)) E f) := by
  rw [setCell_eq_setRow w h j _ E f _ hr, heap_setRow_same hr]
  congr 2
  apply Array.ext'
  rw [Array.toList_setIfInBounds, rowOf_toList, rowOf_toList]
  simp [cellsOf, cellOf]

theorem ups1 (u : UInt8) : (#[.int .u8 (((u.toNat : Int) + 1) % 256)] : Array Value) = rowOf (ups u 1) := by
  apply Array.ext'
  simp [rowOf, cellsOf, ups, cellOf]
theorem ups2 (u : UInt8) : (#[.int .u8 (((u.toNat : Int) + 1) % 256), .int .u8 (((u.toNat : Int) + 2) % 256)] : Array Value) = rowOf (ups u 2) := by
  apply Array.ext'
  simp [rowOf, cellsOf, ups, cellOf, List.range_succ]
theorem ups3 (u : UInt8) : (#[.int .u8 (((u.toNat : Int) + 1) % 256), .int .u8 (((u.toNat : Int) + 2) % 256), .int .u8 (((u.toNat : Int) + 3) % 256)] : Array Value) = rowOf (ups u 3) := by
  apply Array.ext'
  simp [rowOf, cellsOf, ups, cellOf, List.range_succ]

theorem turned_rows {P : Program} (t E : TypeId) (ht : P.underlying t = some (.slice E)) (hi : (P.info? E).map (fun i => (i.zero, i.size, i.bytes)) = some (some (.int .u8 0), 1, 1))
    {wr : World} {h n : Nat} {u : UInt8} {f : Nat × Nat} (hr : wr.heap[h]? = some (.cells (rowOf (same n u)) E f)) (hx : n ≤ 134217728) :
    ∃ w1 a1 c1 w2 a2 c2 w3 a3 c3,
      (∀ ty, (Builtin.append_ #[t, t] ty #[.slice (some ⟨h, 0, none⟩) n n, .slice (some ⟨wr.heap.size, 0, none⟩) 1 1]).run P (wr.alloc (.cells #[.int .u8 (((u.toNat : Int) + 1) % 256)] E)) = .ok (.slice (some ⟨a1, 0, none⟩) (n + 1) c1) w1) ∧
      (∀ ty, (Builtin.append_ #[t, t] ty #[.slice (some ⟨h, 0, none⟩) n n, .slice (some ⟨w1.heap.size, 0, none⟩) 2 2]).run P (w1.alloc (.cells #[.int .u8 (((u.toNat : Int) + 1) % 256), .int .u8 (((u.toNat : Int) + 2) % 256)] E)) = .ok (.slice (some ⟨a2, 0, none⟩) (n + 2) c2) w2) ∧
      (∀ ty, (Builtin.append_ #[t, t] ty #[.slice (some ⟨h, 0, none⟩) n n, .slice (some ⟨w2.heap.size, 0, none⟩) 3 3]).run P (w2.alloc (.cells #[.int .u8 (((u.toNat : Int) + 1) % 256), .int .u8 (((u.toNat : Int) + 2) % 256), .int .u8 (((u.toNat : Int) + 3) % 256)] E)) = .ok (.slice (some ⟨a3, 0, none⟩) (n + 3) c3) w3) ∧
      wr.heap.size ≤ a1 ∧ wr.heap.size ≤ a2 ∧ wr.heap.size ≤ a3 ∧ PageAt E w3 n u h a1 a2 a3 ∧ Keeps wr w3 (fun _ => False) := by
  rw [ups1, ups2, ups3]
  have hs : n = (same n u).length := (same_length n u).symm
  have step : ∀ (w : World) (k : Nat), 0 < k → k ≤ 8 → Keeps wr w (fun _ => False) → ∃ w1 a c, (∀ ty, (Builtin.append_ #[t, t] ty #[.slice (some ⟨h, 0, none⟩) n n, .slice (some ⟨w.heap.size, 0, none⟩) k k]).run P (w.alloc (.cells (rowOf (ups u k)) E)) = .ok (.slice (some ⟨a, 0, none⟩) (n + k) c) w1) ∧ wr.heap.size ≤ a ∧
      (∃ y f, w1.heap[a]? = some (.cells (rowOf (marks n u k ++ y)) E f)) ∧ Keeps w w1 (fun _ => False) := fun w k hk hk8 K => by
    have K1 : Keeps wr (w.alloc (.cells (rowOf (ups u k)) E)) (fun _ => False) := K.alloc _
    have hr1 := (K1.block h (heap_lt hr) id).trans hr
    obtain ⟨g, c, w2, y, e1, e2, e3, e4⟩ := append_more (P := P) t E ht hi hr1 hs (ups_length u k) hk hk8 (heap_alloc_new w (.cells (rowOf (ups u k)) E)) (by rw [← hs]; omega)
    refine ⟨w2, g, c, e1, by rw [e4]; have := K1.size; exact this, ⟨y, (0, 0), e2⟩, ?_⟩
    exact ((Keeps.refl w (fun _ => False)).alloc _).trans e3 (fun _ _ x => x)
  obtain ⟨w1, a1, c1, r1, l1, p1, k1⟩ := step wr 1 (by omega) (by omega) (Keeps.refl _ _)
  obtain ⟨w2, a2, c2, r2, l2, p2, k2⟩ := step w1 2 (by omega) (by omega) k1
  have K2 := k1.trans k2 (fun _ _ x => x)
  obtain ⟨w3, a3, c3, r3, l3, p3, k3⟩ := step w2 3 (by omega) (by omega) K2
  have K3 := K2.trans k3 (fun _ _ x => x)
  refine ⟨w1, a1, c1, w2, a2, c2, w3, a3, c3, r1, r2, r3, l1, l2, l3, ⟨⟨f, (K3.block h (heap_lt hr) id).trans hr⟩, ?_, ?_, p3⟩, K3⟩
  · obtain ⟨y, f, e⟩ := p1
    have e2 := (k2.block a1 (heap_lt e) id).trans e
    exact ⟨y, f, (k3.block a1 (heap_lt e2) id).trans e2⟩
  · obtain ⟨y, f, e⟩ := p2
    exact ⟨y, f, (k3.block a2 (heap_lt e) id).trans e⟩

set_option maxHeartbeats 2000000 in
theorem turned_any (w : World) (h n : Nat) (x : List UInt8) (hr : w.heap[h]? = some (.cells (rowOf x) 5)) (hn : Hid (x.length = n)) (hx : n ≤ 134217728) (u : UInt8) :
    Calls Try.prog 31 #[.slice (some ⟨h, 0, none⟩) n n, .int .u8 (u.toNat : Int)] w fun e w' => TurnedPost w n u h e w' := by
  have hh := heap_lt hr
  have K0 : Keeps w (w.alloc (.cells #[.slice none 0 0, .slice none 0 0, .slice none 0 0, .slice none 0 0, .int .u8 0] 70)) (fun k => k = h) := (Keeps.refl _ _).alloc _
  have hr0 : (w.alloc (.cells #[.slice none 0 0, .slice none 0 0, .slice none 0 0, .slice none 0 0, .int .u8 0] 70)).heap[h]? = some (.cells (rowOf x) 5) := by
    rw [Below.heap_alloc _ _ _ hh]
    exact hr
  have hb0 : (w.alloc (.cells #[.slice none 0 0, .slice none 0 0, .slice none 0 0, .slice none 0 0, .int .u8 0] 70)).heap[w.heap.size]? = some (.cells #[.slice none 0 0, .slice none 0 0, .slice none 0 0, .slice none 0 0, .int .u8 0] 70) := heap_alloc_new _ _
  have hR : w.heap.size ≠ h := by omega
  go_enter Try.func31, Try.ntmps31
  go_wp2_with fail
  go_loopw [11] (fun i wr => ∃ k : Nat, k ≤ n ∧ i = .int .i64 (k : Int) ∧ wr.heap[h]? = some (.cells (rowOf (same k u ++ x.drop k)) 5) ∧ wr.heap[w.heap.size]? = some (.cells #[.slice none 0 0, .slice none 0 0, .slice none 0 0, .slice none 0 0, .int .u8 0] 70) ∧ Keeps w wr (fun k => k = h)) (fun i _ => n - (intOf i).toNat)
  case atStart => exact ⟨0, Nat.zero_le _, rfl, hr0, hb0, K0⟩
  case round =>
    obtain ⟨k, hk, rfl, hrk, hbk, kk⟩ := hrel
    clear hr hr0 hb0 K0
    by_cases hlt : k < n
    · have hxl : k < x.length := by rw [hn.out]; exact hlt
      have hcell : wr.cell? ⟨h, k, none⟩ = some (.int .u8 (x[k].toNat : Int)) := by
        have := rowOf_get (same k u ++ x.drop k) k (by simp [same_length]; omega)
        simp only [World.cell?, hrk]
        simpa [same, List.getElem_append_right] using this
      have hfz : wr.frozen? ⟨h, k, none⟩ = false := by simp [World.frozen?, hrk]
      have hst := row_store hrk k u
      rw [same_drop_set x k u hxl] at hst
      have hb' : (wr.setCell ⟨h, k, none⟩ (.int .u8 (u.toNat : Int))).heap[w.heap.size]? = some (.cells #[.slice none 0 0, .slice none 0 0, .slice none 0 0, .slice none 0 0, .int .u8 0] 70) := by
        rw [Below.heap_setCell _ _ _ _ hR]
        exact hbk
      have K' := kk.setCell ⟨h, k, none⟩ (fun _ => rfl) (.int .u8 (u.toNat : Int))
      generalize x[k] = xk at *
      have S1 : Hid ((wr.setCell ⟨h, k, none⟩ (.int .u8 (u.toNat : Int))).heap[h]? = some (.cells (rowOf (same (k + 1) u ++ x.drop (k + 1))) 5)) := hst
      have S2 : Hid ((wr.setCell ⟨h, k, none⟩ (.int .u8 (u.toNat : Int))).heap[w.heap.size]? = some (.cells #[.slice none 0 0, .slice none 0 0, .slice none 0 0, .slice none 0 0, .int .u8 0] 70)) := hb'
      clear hrk hbk kk hxl hst hb'
      go_wp2
      go_roundw
      case rel => exact ⟨k + 1, by omega, by go_num, S1.out, S2.out, K'⟩
      case measure => simp [intOf]; omega
    · have hall : k = n := by omega
      subst hall
      rw [List.drop_of_length_le (by rw [hn.out]; exact Nat.le_refl _), List.append_nil] at hrk
      obtain ⟨w1, a1, c1, w2, a2, c2, w3, a3, c3, r1, r2, r3, l1, l2, l3, pg, K3⟩ := turned_rows (P := Try.prog) 30 5 Try.underlying30 Try.infoE hrk hx
      have hsz := heap_lt hbk
      have hb3 := (K3.block _ (heap_lt hbk) id).trans hbk
      have q0 : w3.cell? ⟨w.heap.size, 0, none⟩ = some (.slice none 0 0) := by simp [World.cell?, hb3]
      have q1 : w3.cell? ⟨w.heap.size, 1, none⟩ = some (.slice none 0 0) := by simp [World.cell?, hb3]
      have q2 : w3.cell? ⟨w.heap.size, 2, none⟩ = some (.slice none 0 0) := by simp [World.cell?, hb3]
      have q3 : w3.cell? ⟨w.heap.size, 3, none⟩ = some (.slice none 0 0) := by simp [World.cell?, hb3]
      have q4 : w3.cell? ⟨w.heap.size, 4, none⟩ = some (.int .u8 0) := by simp [World.cell?, hb3]
      have qf : ∀ j, w3.frozen? ⟨w.heap.size, j, none⟩ = false := fun j => by simp [World.frozen?, hb3]
      have K := kk.trans K3 (fun _ _ x => x.elim)
      clear hrk hbk kk K3 hb3
      go_wp2_with (first
        | (at_builtin; have _t := r1; refine wpList_append_run _ rfl (.tmp 19) (.tmp 22) 30 rfl rfl rfl r1 ?_; clear r1)
        | (at_builtin; have _t := r2; refine wpList_append_run _ rfl (.tmp 24) (.tmp 29) 30 rfl rfl rfl r2 ?_; clear r2)
        | (at_builtin; have _t := r3; refine wpList_append_run _ rfl (.tmp 31) (.tmp 38) 30 rfl rfl rfl r3 ?_; clear r3))
      refine bodyPost_ret (v := .agg (pageVal k u h a1 a2 a3 c1 c2 c3)) (by simp [results, Try.results31, go_sem, pageVal, q0, q1, q2, q3, q4]) rfl ?_
      have K5 := ((((K.setCell ⟨w.heap.size, 0, none⟩ (fun e => absurd e (Nat.lt_irrefl _)) (.slice (some ⟨h, 0, none⟩) k k)).setCell ⟨w.heap.size, 1, none⟩ (fun e => absurd e (Nat.lt_irrefl _)) (.slice (some ⟨a1, 0, none⟩) (k + 1) c1)).setCell ⟨w.heap.size, 2, none⟩ (fun e => absurd e (Nat.lt_irrefl _)) (.slice (some ⟨a2, 0, none⟩) (k + 2) c2)).setCell ⟨w.heap.size, 3, none⟩ (fun e => absurd e (Nat.lt_irrefl _)) (.slice (some ⟨a3, 0, none⟩) (k + 3) c3)).setCell ⟨w.heap.size, 4, none⟩ (fun e => absurd e (Nat.lt_irrefl _)) (.int .u8 (u.toNat : Int))
      have Kp := (((((Keeps.refl w3 (fun i => i = w.heap.size)).setCell ⟨w.heap.size, 0, none⟩ (fun _ => rfl) (.slice (some ⟨h, 0, none⟩) k k)).setCell ⟨w.heap.size, 1, none⟩ (fun _ => rfl) (.slice (some ⟨a1, 0, none⟩) (k + 1) c1)).setCell ⟨w.heap.size, 2, none⟩ (fun _ => rfl) (.slice (some ⟨a2, 0, none⟩) (k + 2) c2)).setCell ⟨w.heap.size, 3, none⟩ (fun _ => rfl) (.slice (some ⟨a3, 0, none⟩) (k + 3) c3)).setCell ⟨w.heap.size, 4, none⟩ (fun _ => rfl) (.int .u8 (u.toNat : Int))
      exact ⟨a1, a2, a3, c1, c2, c3, rfl, by omega, by omega, by omega, pg.keeps Kp (fun e => hR e.symm) (by omega) (by omega) (by omega), K5⟩
end Go.Proofs.Ytlgmpnaalifegab
