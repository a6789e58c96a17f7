import Derived.Test.YtlgmpnaalifegabWalks22
namespace Go.Proofs.Ytlgmpnaalifegab
open Go.RowKit

theorem RefAt.act {B : Nat} {w : World} {rb sz : Nat} {g c l : Nat} {xs : List ActD} (r : RefAt B w rb sz (.slice (some ⟨g, 0, none⟩) l c) xs) : g < w.heap.size ∧ ∀ i (h : i < xs.length) j, j < 6 → w.cell? ⟨g, i * 6 + j, none⟩ = xs[i].cells[j]? := by
  refine ⟨own_lt r.own rfl, fun i h j hj => ?_⟩
  have e := actCells_get xs i j h hj
  have hl : j < xs[i].cells.length := by rw [ActD.cells_length]; exact hj
  rw [List.getElem?_eq_getElem hl] at e ⊢
  have := r.own.cells (g := g) rfl _ _ e
  rwa [addr_add, Nat.zero_add] at this

def RAtPost (w : World) (x : UInt8) (e : Ending) (w' : World) : Prop := e = .returned (.int .u8 (x.toNat : Int)) ∧ Keeps w w' (fun _ => False)

set_option maxHeartbeats 4000000 in
theorem rat_any (w : World) (rb g c sz : Nat) (xs : List ActD) (p : Nat) (hp : p ≤ 134217728) (hlen : xs.length ≤ 1048576) (hsz : sz ≤ 134217728) (hok : ∀ a ∈ xs, a.ok sz)
    (hc1 : w.cell? ⟨rb, 1, none⟩ = some (.slice (some ⟨g, 0, none⟩) xs.length c)) (hrb : rb < w.heap.size) (hg : g < w.heap.size)
    (hcell : ∀ i (h : i < xs.length) j, j < 6 → w.cell? ⟨g, i * 6 + j, none⟩ = xs[i].cells[j]?) :
    Calls Try.prog 48 #[.pointer (some ⟨rb, 0, none⟩), .int .i64 (p : Int)] w fun e w' => RAtPost w (lookB xs.reverse p) e w' := by
  have HC : Hid (∀ i (h : i < xs.length) j, j < 6 → w.cell? ⟨g, i * 6 + j, none⟩ = xs[i].cells[j]?) := hcell
  clear hcell
  go_enter Try.func48, Try.ntmps48
  go_wp2_with fail
  go_loopw [1, 5] (fun v i wr => ∃ k q : Nat, k ≤ xs.length ∧ i = .int .i64 ((k : Int) - 1) ∧ v = .int .i64 (q : Int) ∧ q ≤ 134217728 ∧ Hid (lookB (xs.take k).reverse q = lookB xs.reverse p) ∧ Keeps w wr (fun _ => False)) (fun _ i _ => (intOf i + 1).toNat)
  case atStart => exact ⟨xs.length, p, Nat.le_refl _, rfl, rfl, hp, (show lookB (xs.take xs.length).reverse p = lookB xs.reverse p by simp), Keeps.refl _ _⟩
  case round =>
    obtain ⟨k, q, hk, rfl, rfl, hq, hlook, K⟩ := hrel
    have c1 := (World.cell?_of_block (w := w) (a := ⟨rb, 1, none⟩) (K.block rb hrb id)).trans hc1
    by_cases hk0 : k = 0
    · subst hk0
      have hz : (0 : UInt8) = lookB xs.reverse p := hlook.out
      go_wp2
      go_ret
      exact ⟨by rw [← hz]; rfl, K⟩
    · obtain ⟨k, rfl⟩ : ∃ k', k = k' + 1 := ⟨k - 1, by omega⟩
      have hlt2 : k < xs.length := by omega
      have ha := hok _ (List.getElem_mem hlt2)
      have hl : lookB (xs[k] :: (xs.take k).reverse) q = lookB xs.reverse p := by
        have := hlook.out
        rwa [List.take_succ_eq_append_getElem hlt2, List.reverse_append, List.reverse_singleton, List.singleton_append] at this
      have hc := fun j (hj : j < 6) => (World.cell?_of_block (w := w) (a := ⟨g, k * 6 + j, none⟩) (K.block g hg id)).trans (HC.out k hlt2 j hj)
      have d0 := hc 0 (by omega)
      have d1 := hc 1 (by omega)
      have d2 := hc 2 (by omega)
      have d3 := hc 3 (by omega)
      have d4 := hc 4 (by omega)
      have d5 := hc 5 (by omega)
      clear hc HC hok hlook
      generalize xs[k] = a at *
      simp only [ActD.cells, actVal, List.getElem?_cons_zero, List.getElem?_cons_succ] at d0 d1 d2 d3 d4 d5
      obtain ⟨ak, off, n, src, u, s⟩ := a
      obtain ⟨o1, o2, o3, o4⟩ := ha
      simp only [lookB] at *
      rw [Nat.add_zero] at d0
      rw [show ((k + 1 : Nat) : Int) - 1 = (k : Int) from by omega]
      have K2 := K.alloc (.cells (actVal ak off n src u s) 82)
      unfold actVal at K2
      clear K
      by_cases g1 : q < off
      · have hl2 : Hid (lookB (xs.take k).reverse q = lookB xs.reverse p) := (show lookB (xs.take k).reverse q = lookB xs.reverse p by rwa [if_neg (by omega)] at hl)
        clear hl
        go_wp2_with fail
        go_roundw
        case rel => exact ⟨k, q, by omega, by go_num, rfl, hq, hl2, K2⟩
        case measure => simp [intOf]
      · by_cases g2 : n ≤ q - off
        · have hl2 : Hid (lookB (xs.take k).reverse q = lookB xs.reverse p) := (show lookB (xs.take k).reverse q = lookB xs.reverse p by rwa [if_neg (by omega)] at hl)
          clear hl
          go_wp2_with fail
          go_roundw
          case rel => exact ⟨k, q, by omega, by go_num, rfl, hq, hl2, K2⟩
          case measure => simp [intOf]
        · rw [if_pos (by omega)] at hl
          by_cases g3 : ak = 1
          · subst g3
            have hu : Hid (u = lookB xs.reverse p) := (show u = lookB xs.reverse p by simpa using hl)
            clear hl
            go_wp2_with fail
            go_ret
            exact ⟨by rw [← hu.out]; rfl, K2⟩
          · by_cases g4 : ak = 2
            · subst g4
              have hs := o3 rfl
              have hlen2 : s.data.toList.length = s.size := by simp
              have hu : Hid (s.data.toList.getD (q - off) 0 = lookB xs.reverse p) := (show s.data.toList.getD (q - off) 0 = lookB xs.reverse p by simpa using hl)
              clear hl
              go_wp2_with fail
              go_ret
              refine ⟨?_, K2⟩
              rw [← hu.out, List.getD_eq_getElem?_getD, List.getElem?_eq_getElem (by omega), Option.getD_some]
              rfl
            · have hl2 : Hid (lookB (xs.take k).reverse (src + (q - off)) = lookB xs.reverse p) := (show lookB (xs.take k).reverse (src + (q - off)) = lookB xs.reverse p by rwa [if_neg g3, if_neg g4] at hl)
              have e3 : ((ak : Int) == 1) = false := beq_eq_false_iff_ne.2 (by omega)
              have e4 : ((ak : Int) == 2) = false := beq_eq_false_iff_ne.2 (by omega)
              clear hl
              go_wp2_with fail
              go_roundw
              case rel => exact ⟨k, src + (q - off), by omega, by go_num, by go_num, by omega, hl2, K2⟩
              case measure => simp [intOf]
/-- The reference's memory: its acts lie in a row, or there is none. -/
theorem RefAt.form {B : Nat} {w : World} {rb sz : Nat} {av : Value} {xs : List ActD} (r : RefAt B w rb sz av xs) (h : 0 < xs.length) : ∃ g c, av = .slice (some ⟨g, 0, none⟩) xs.length c := by
  obtain ⟨g, c, e, _⟩ := r.own.form h
  exact ⟨g, c, e⟩
set_option maxHeartbeats 400000 in
theorem rat_none (w : World) (rb c : Nat) (ao : Option Addr) (p : Nat) (hc1 : w.cell? ⟨rb, 1, none⟩ = some (.slice ao 0 c)) :
    Calls Try.prog 48 #[.pointer (some ⟨rb, 0, none⟩), .int .i64 (p : Int)] w fun e w' => RAtPost w 0 e w' := by
  go_enter Try.func48, Try.ntmps48
  go_wp2_with fail
  go_loopw [1, 5] (fun v i wr => i = .int .i64 (-1) ∧ wr = w) (fun _ i _ => 0)
  case atStart => exact ⟨rfl, rfl⟩
  case round =>
    obtain ⟨rfl, rfl⟩ := hrel
    go_wp2
    go_ret
    exact ⟨rfl, Keeps.refl _ _⟩
theorem rat_ref {B : Nat} {w : World} {rb sz : Nat} {av : Value} {xs : List ActD} (r : RefAt B w rb sz av xs) (p : Nat) (hp : p ≤ 134217728) :
    Calls Try.prog 48 #[.pointer (some ⟨rb, 0, none⟩), .int .i64 (p : Int)] w fun e w' => RAtPost w (lookB xs.reverse p) e w' := by
  by_cases h : 0 < xs.length
  · obtain ⟨g, c, rfl⟩ := r.form h
    exact rat_any w rb g c sz xs p hp r.hlen r.hsz r.hok r.cell1 (heap_lt r.hb) r.act.1 r.act.2
  · obtain rfl : xs = [] := List.eq_nil_of_length_eq_zero (by omega)
    have hc := r.cell1
    rcases r.own.2 with ⟨e, _⟩ | ⟨g, c, _, e, _⟩
    · rw [e] at hc
      exact rat_none w rb 0 none p hc
    · rw [e] at hc
      exact rat_none w rb c (some ⟨g, 0, none⟩) p hc
end Go.Proofs.Ytlgmpnaalifegab
