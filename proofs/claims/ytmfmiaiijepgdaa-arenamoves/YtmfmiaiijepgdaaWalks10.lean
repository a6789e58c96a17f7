import Derived.Test.YtmfmiaiijepgdaaWalks6
import Derived.Test.YtmfmiaiijepgdaaBase5
namespace Go.Proofs.Ytmfmiaiijepgdaa
open Go.RowKit

/-- A number may have 1, 2, 4 or 8 bytes. -/
def widthB (n : Int) : Bool := decide (n = 1 ∨ n = 2 ∨ n = 4 ∨ n = 8)
theorem widthB_true {n : Int} (h : widthB n = true) : n = 1 ∨ n = 2 ∨ n = 4 ∨ n = 8 := of_decide_eq_true h
theorem widthB_false {n : Int} (h : widthB n = false) : n ≠ 1 ∧ n ≠ 2 ∧ n ≠ 4 ∧ n ≠ 8 := by
  have := of_decide_eq_false h
  omega

set_option maxHeartbeats 400000 in
theorem number_width (w : World) (p : Value) (off n : Int) (h : widthB n = false) :
    Calls Try.prog 65 #[p, .int .i64 off, .int .i64 n] w fun e w' => e = .returned (.int .i64 10) ∧ w' = w := by
  obtain ⟨h1, h2, h3, h4⟩ := widthB_false h
  have b1 : (n != 1) = true := bne_iff_ne.2 h1
  have b2 : (n != 2) = true := bne_iff_ne.2 h2
  have b3 : (n != 4) = true := bne_iff_ne.2 h3
  have b4 : (n != 8) = true := bne_iff_ne.2 h4
  clear h h1 h2 h3 h4
  go_enter Try.func65, Try.ntmps65
  go_wp2_with fail
  go_ret
  exact ⟨rfl, rfl⟩

set_option maxHeartbeats 400000 in
theorem number_out (w : World) (b g : Nat) (bs sp : List UInt8) (m : MemAt 98 5 w b g bs sp) (off n : Int) (h : widthB n = true) (h2 : insideB bs.length off n = false) :
    Calls Try.prog 65 #[.pointer (some ⟨b, 0, none⟩), .int .i64 off, .int .i64 n] w fun e w' => e = .returned (.int .i64 11) ∧ w' = w := by
  have hin := inside_no w b g bs sp m off n h2
  clear h2 m
  rcases widthB_true h with rfl | rfl | rfl | rfl
  all_goals
    clear h
    go_enter Try.func65, Try.ntmps65
    go_wp2_with fail
    refine hin.mono ?_
    rintro e w' ⟨rfl, rfl⟩
    clear hin
    go_wp2_with fail
    go_ret
    exact ⟨rfl, rfl⟩

set_option maxHeartbeats 400000 in
theorem number_yes (w : World) (b g : Nat) (bs sp : List UInt8) (m : MemAt 98 5 w b g bs sp) (off n : Int) (h : widthB n = true) (h2 : insideB bs.length off n = true) :
    Calls Try.prog 65 #[.pointer (some ⟨b, 0, none⟩), .int .i64 off, .int .i64 n] w fun e w' => e = .returned (.int .i64 0) ∧ w' = w := by
  have hin := inside_yes w b g bs sp m off n h2
  clear h2 m
  rcases widthB_true h with rfl | rfl | rfl | rfl
  all_goals
    clear h
    go_enter Try.func65, Try.ntmps65
    go_wp2_with fail
    refine hin.mono ?_
    rintro e w' ⟨rfl, rfl⟩
    clear hin
    go_wp2_with fail
    go_ret
    exact ⟨rfl, rfl⟩

set_option maxHeartbeats 400000 in
theorem load_width (w : World) (p : Value) (off n : Int) (h : widthB n = false) :
    Calls Try.prog 46 #[p, .int .i64 off, .int .i64 n] w fun e w' => e = .returned (.tuple #[.int .u64 0, .int .i64 10]) ∧ w' = w := by
  go_enter Try.func46, Try.ntmps46
  go_wp2_with fail
  refine (number_width _ _ _ _ h).mono ?_
  rintro e w' ⟨rfl, rfl⟩
  go_wp2_with fail
  go_ret2
  exact ⟨rfl, rfl⟩

set_option maxHeartbeats 400000 in
theorem load_out (w : World) (b g : Nat) (bs sp : List UInt8) (m : MemAt 98 5 w b g bs sp) (off n : Int) (h : widthB n = true) (h2 : insideB bs.length off n = false) :
    Calls Try.prog 46 #[.pointer (some ⟨b, 0, none⟩), .int .i64 off, .int .i64 n] w fun e w' => e = .returned (.tuple #[.int .u64 0, .int .i64 11]) ∧ w' = w := by
  go_enter Try.func46, Try.ntmps46
  go_wp2_with fail
  refine (number_out _ b g bs sp m _ _ h h2).mono ?_
  rintro e w' ⟨rfl, rfl⟩
  go_wp2_with fail
  go_ret2
  exact ⟨rfl, rfl⟩

set_option maxHeartbeats 1000000 in
theorem load_yes (w : World) (b g : Nat) (bs sp : List UInt8) (m : MemAt 98 5 w b g bs sp) (o n : Nat) (h : widthB (n : Int) = true) (h2 : o + n ≤ bs.length) :
    Calls Try.prog 46 #[.pointer (some ⟨b, 0, none⟩), .int .i64 (o : Int), .int .i64 (n : Int)] w fun e w' => e = .returned (.tuple #[.int .u64 (numOf ((bs.drop o).take n) : Int), .int .i64 0]) ∧ w' = w := by
  have hl : bs.length + sp.length ≤ 134217728 := m.hmax
  have hnum := number_yes w b g bs sp m o n h (insideB_mk h2)
  have hs1 := span_any w b g bs sp m o n h2
  obtain ⟨q, hq, hv⟩ := spanVal_eq g (bs.length + sp.length) o n
  rw [hv] at hs1
  have hn8 : n ≤ 8 := by have := widthB_true h; omega
  have hcell := fun j hj => m.gcell j hj
  clear hv m
  go_enter Try.func46, Try.ntmps46
  go_wp2_with fail
  refine hnum.mono ?_
  rintro e w' ⟨rfl, rfl⟩
  clear hnum
  go_wp2_with fail
  refine hs1.mono ?_
  rintro e w' ⟨rfl, rfl⟩
  clear hs1
  go_wp2_with fail
  go_loop [9, 24] (fun v i => ∃ k : Nat, k ≤ n ∧ i = .int .i64 (k : Int) ∧ v = .int .u64 (numOf ((bs.drop o).take k) : Int)) (fun _ i => n - (intOf i).toNat)
  case atStart => exact ⟨0, Nat.zero_le _, rfl, rfl⟩
  case round =>
    obtain ⟨k, hk, rfl, rfl⟩ := hrel
    by_cases hlt : k < n
    · have hqo : q = o := by
        rcases hq with hq | ⟨_, hz⟩
        · exact hq
        · omega
      have hc := hcell (q + k) (by omega)
      clear hcell
      have hstep : numOf ((bs.drop o).take (k + 1)) = numOf ((bs.drop o).take k) + (bs[q + k]'(by omega)).toNat * 256 ^ k := by
        have hl1 : ((bs.drop o).take k).length = k := by simp; omega
        have ht : (bs.drop o).take (k + 1) = (bs.drop o).take k ++ [bs[q + k]'(by omega)] := by
          rw [List.take_succ_eq_append_getElem (by simp; omega)]
          simp [hqo]
        rw [ht, numOf_snoc, hl1]
      have hlt8 := numOf_lt ((bs.drop o).take k)
      rw [show ((bs.drop o).take k).length = k from by simp; omega] at hlt8
      have HS : Hid (numOf ((bs.drop o).take (k + 1)) = numOf ((bs.drop o).take k) + (bs[q + k]'(by omega)).toNat * 256 ^ k) := hstep
      clear hstep
      generalize bs[q + k]'(by omega) = x at *
      generalize hN : numOf ((bs.drop o).take k) = N at *
      have hor := or_step N k x hlt8 (by omega)
      have HO : Hid (bits .or .u64 (N : Int) (IntKind.u64.wrap ((x.toNat : Int) * 2 ^ (8 * k))) = ((N + x.toNat * 256 ^ k : Nat) : Int)) := hor
      have hx := x.toNat_lt
      clear hN hqo hq h hlt8 hor
      go_wp2
      go_round
      case rel => exact ⟨k + 1, by omega, by go_num, by rw [HO.out, HS.out]⟩
      case measure => simp [intOf]; omega
    · have hall : k = n := by omega
      subst hall
      go_wp2
      go_ret2
      exact ⟨rfl, rfl⟩
end Go.Proofs.Ytmfmiaiijepgdaa
