import Derived.Test.YtlgmpnaalifegabWalks14
namespace Go.Proofs.Ytlgmpnaalifegab
open Go.RowKit

theorem marks_lo (n : Nat) (u : UInt8) (k j : Nat) (h : j < n) (h' : j < (marks n u k).length) : (marks n u k)[j] = u := by
  apply Option.some.inj
  rw [← List.getElem?_eq_getElem]
  unfold marks
  rw [List.getElem?_append_left (by rw [same_length]; exact h), same, List.getElem?_replicate, if_pos h]
theorem marks_hi (n : Nat) (u : UInt8) (k j : Nat) (h : n ≤ j) (h' : j < (marks n u k).length) : (((marks n u k)[j]).toNat : Int) = ((u.toNat : Int) + ((j : Int) - (n : Int) + 1) % 256) % 256 := by
  have hl : j < n + k := by rw [marks_length] at h'; exact h'
  have e : (marks n u k)[j] = u + UInt8.ofNat (j - n + 1) := by
    apply Option.some.inj
    rw [← List.getElem?_eq_getElem]
    unfold marks
    rw [List.getElem?_append_right (by rw [same_length]; exact h), same_length, ups, List.getElem?_map, List.getElem?_range (by omega)]
    rfl
  rw [e, UInt8.toNat_add, UInt8.toNat_ofNat']
  have := u.toNat_lt
  omega

set_option maxHeartbeats 2000000 in
theorem all_true (w : World) (a n k c : Nat) (u : UInt8) (y : List UInt8) (f : Nat × Nat) (hr : w.heap[a]? = some (.cells (rowOf (marks n u k ++ y)) 5 f)) (hn : n ≤ 134217728) (hk : k ≤ 8) :
    Calls Try.prog 32 #[.slice (some ⟨a, 0, none⟩) (n + k) c, .int .u8 (u.toNat : Int), .int .i64 (n : Int), .int .i64 (k : Int)] w fun e w' => e = .returned (.bool true) ∧ w' = w := by
  have hml := marks_length n u k
  have hcell : ∀ j (h : j < n + k), w.cell? ⟨a, j, none⟩ = some (.int .u8 (((marks n u k)[j]'(by rw [hml]; exact h)).toNat : Int)) := fun j h => by
    have := rowOf_get (marks n u k ++ y) j (by simp [hml]; omega)
    simp only [World.cell?, hr]
    simpa [List.getElem_append_left (show j < (marks n u k).length by rw [hml]; exact h)] using this
  have HC : Hid (∀ j (h : j < n + k), w.cell? ⟨a, j, none⟩ = some (.int .u8 (((marks n u k)[j]'(by rw [hml]; exact h)).toNat : Int))) := hcell
  have hu := u.toNat_lt
  clear hr hcell
  go_enter Try.func32, Try.ntmps32
  go_wp2_with fail
  go_loop [19] (fun i => ∃ j : Nat, j ≤ n + k ∧ i = .int .i64 (j : Int)) (fun i => n + k - (intOf i).toNat)
  case atStart => exact ⟨0, Nat.zero_le _, rfl⟩
  case round =>
    obtain ⟨j, hj, rfl⟩ := hrel
    by_cases hlt : j < n + k
    · have hc := HC.out j hlt
      clear HC
      by_cases hjn : j < n
      · rw [marks_lo n u k j hjn] at hc
        have hi1 : (j : Int) < (n : Int) := by omega
        have hi2 : ¬ (n : Int) ≤ (j : Int) := by omega
        go_wp2
        go_round
        case rel => exact ⟨j + 1, by omega, by go_num⟩
        case measure => simp [intOf]; omega
      · rw [marks_hi n u k j (by omega)] at hc
        have hi1 : ¬ (j : Int) < (n : Int) := by omega
        have hi2 : (n : Int) ≤ (j : Int) := by omega
        go_wp2
        go_round
        case rel => exact ⟨j + 1, by omega, by go_num⟩
        case measure => simp [intOf]; omega
    · clear HC
      go_wp2
      go_ret
      exact ⟨rfl, rfl⟩
end Go.Proofs.Ytlgmpnaalifegab
