import Derived.Test.YtlgmpnaalifegabWalks15
namespace Go.Proofs.Ytlgmpnaalifegab
open Go.RowKit

structure Pg where
  n : Nat
  u : UInt8
  h : Nat
  a1 : Nat
  a2 : Nat
  a3 : Nat
  c1 : Nat
  c2 : Nat
  c3 : Nat
def Pg.cells (p : Pg) : List Value := (pageVal p.n p.u p.h p.a1 p.a2 p.a3 p.c1 p.c2 p.c3).toList
def bookCells (ps : List Pg) : List Value := ps.flatMap Pg.cells
theorem Pg.cells_length (p : Pg) : p.cells.length = 5 := rfl
theorem bookCells_length (ps : List Pg) : (bookCells ps).length = ps.length * 5 := by
  induction ps with
  | nil => rfl
  | cons p r ih =>
    have : bookCells (p :: r) = p.cells ++ bookCells r := by simp [bookCells]
    rw [this, List.length_append, ih, Pg.cells_length, List.length_cons]
    omega
theorem bookCells_get (ps : List Pg) (i j : Nat) (h : i < ps.length) (hj : j < 5) : (bookCells ps)[i * 5 + j]? = ps[i].cells[j]? := by
  induction ps generalizing i with
  | nil => simp at h
  | cons p r ih =>
    have e : bookCells (p :: r) = p.cells ++ bookCells r := by simp [bookCells]
    rw [e]
    cases i with
    | zero =>
      rw [List.getElem?_append_left (by rw [Pg.cells_length]; omega)]
      simp
    | succ i =>
      have hi : i < r.length := by simpa using h
      rw [List.getElem?_append_right (by rw [Pg.cells_length]; omega), Pg.cells_length, show (i + 1) * 5 + j - 5 = i * 5 + j from by omega, ih i hi]
      simp
/-- A page's four lists are as they were left. -/
def Pg.ok (p : Pg) (w : World) : Prop := p.n ≤ 134217728 ∧ PageAt 5 w p.n p.u p.h p.a1 p.a2 p.a3
theorem Pg.ok_keeps {p : Pg} {w w' : World} {S : Nat → Prop} (h : p.ok w) (k : Keeps w w' S) (h0 : ¬ S p.h) (h1 : ¬ S p.a1) (h2 : ¬ S p.a2) (h3 : ¬ S p.a3) : p.ok w' := ⟨h.1, h.2.keeps k h0 h1 h2 h3⟩

def HoldsPost (w : World) (e : Ending) (w' : World) : Prop := e = .returned (.bool true) ∧ Keeps w w' (fun _ => False)

set_option maxHeartbeats 4000000 in
theorem holds_true (w : World) (bk c : Nat) (ps : List Pg) (hlt : bk < w.heap.size) (hm : ps.length ≤ 1099511627776)
    (hcell : ∀ i (h : i < ps.length) j, j < 5 → w.cell? ⟨bk, i * 5 + j, none⟩ = ps[i].cells[j]?) (hok : ∀ p ∈ ps, p.ok w) :
    Calls Try.prog 18 #[.slice (some ⟨bk, 0, none⟩) ps.length c] w fun e w' => HoldsPost w e w' := by
  have HC : Hid (∀ i (h : i < ps.length) j, j < 5 → w.cell? ⟨bk, i * 5 + j, none⟩ = ps[i].cells[j]?) := hcell
  clear hcell
  go_enter Try.func18, Try.ntmps18
  go_wp2_with fail
  go_loopw [8] (fun i wr => ∃ k : Nat, k ≤ ps.length ∧ i = .int .i64 (k : Int) ∧ Keeps w wr (fun _ => False)) (fun i _ => ps.length - (intOf i).toNat)
  case atStart => exact ⟨0, Nat.zero_le _, rfl, Keeps.refl _ _⟩
  case round =>
    obtain ⟨k, hk, rfl, K⟩ := hrel
    by_cases hlt2 : k < ps.length
    · have hp := (hok _ (List.getElem_mem hlt2)).2
      have hpn := (hok _ (List.getElem_mem hlt2)).1
      have hc := fun j (hj : j < 5) => (World.cell?_of_block (w := w) (a := ⟨bk, k * 5 + j, none⟩) (K.block bk hlt id)).trans (HC.out k hlt2 j hj)
      have d0 := hc 0 (by omega)
      have d1 := hc 1 (by omega)
      have d2 := hc 2 (by omega)
      have d3 := hc 3 (by omega)
      have d4 := hc 4 (by omega)
      clear hc HC hok
      generalize ps[k] = p at *
      simp only [Pg.cells, pageVal, List.getElem?_cons_zero, List.getElem?_cons_succ] at d0 d1 d2 d3 d4
      replace hp := hp.keeps K id id id id
      obtain ⟨n, u, h, a1, a2, a3, c1, c2, c3⟩ := p
      simp only at *
      rw [Nat.add_zero] at d0
      obtain ⟨⟨f0, p0⟩, ⟨y1, f1, p1⟩, ⟨y2, f2, p2⟩, ⟨y3, f3, p3⟩⟩ := hp
      have K1 : Keeps wr (wr.alloc (.cells #[.slice (some ⟨h, 0, none⟩) n n, .slice (some ⟨a1, 0, none⟩) (n + 1) c1, .slice (some ⟨a2, 0, none⟩) (n + 2) c2, .slice (some ⟨a3, 0, none⟩) (n + 3) c3, .int .u8 (u.toNat : Int)] 70)) (fun _ => False) := (Keeps.refl _ _).alloc _
      have e0 := all_true _ h n 0 n u [] f0 (by rw [show marks n u 0 ++ [] = same n u from by simp [marks, ups]]; exact (K1.block h (heap_lt p0) id).trans p0) hpn (by omega)
      have e1 := all_true _ a1 n 1 c1 u y1 f1 ((K1.block a1 (heap_lt p1) id).trans p1) hpn (by omega)
      have e2 := all_true _ a2 n 2 c2 u y2 f2 ((K1.block a2 (heap_lt p2) id).trans p2) hpn (by omega)
      have e3 := all_true _ a3 n 3 c3 u y3 f3 ((K1.block a3 (heap_lt p3) id).trans p3) hpn (by omega)
      rw [Nat.add_zero, show ((0 : Nat) : Int) = 0 from rfl] at e0
      rw [show ((1 : Nat) : Int) = 1 from rfl] at e1
      rw [show ((2 : Nat) : Int) = 2 from rfl] at e2
      rw [show ((3 : Nat) : Int) = 3 from rfl] at e3
      have K2 := K.trans K1 (fun _ _ x => x)
      clear p0 p1 p2 p3 K1 K
      go_wp2_with fail
      refine e0.mono ?_
      rintro e w' ⟨rfl, rfl⟩
      clear e0
      go_wp2_with fail
      refine e1.mono ?_
      rintro e w' ⟨rfl, rfl⟩
      clear e1
      go_wp2_with fail
      refine e2.mono ?_
      rintro e w' ⟨rfl, rfl⟩
      clear e2
      go_wp2_with fail
      refine e3.mono ?_
      rintro e w' ⟨rfl, rfl⟩
      clear e3
      go_wp2_with fail
      go_roundw
      case rel => exact ⟨k + 1, by omega, by go_num, K2⟩
      case measure => simp [intOf]; omega
    · go_wp2
      go_ret
      exact ⟨rfl, K⟩
end Go.Proofs.Ytlgmpnaalifegab
