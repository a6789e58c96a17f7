import Derived.Test.YtmfmiaiijepgdaaAW16
namespace Go.Proofs.Ytmfmiaiijepgdaa
open Go.RowKit Go.Shelf

/-- The byte u n times, as the statements make it. -/
def RepPost (w : World) (n : Nat) (u : UInt8) (e : Ending) (w' : World) : Prop := e = .returned (.string (strOf (same n u))) ∧ Keeps w w' (fun _ => False)
theorem same_mix (n k : Nat) (u : UInt8) (h : k < n) : (rowOf (same k u ++ zeros (n - k))).setIfInBounds k (.int .u8 (u.toNat : Int)) = rowOf (same (k + 1) u ++ zeros (n - (k + 1))) := by
  apply Array.ext'
  obtain ⟨m, hm⟩ : ∃ m, n - k = m + 1 := ⟨n - k - 1, by omega⟩
  have hm' : n - (k + 1) = m := by omega
  rw [Array.toList_setIfInBounds, rowOf_toList, rowOf_toList, hm, hm']
  have e1 : cellsOf (same k u ++ zeros (m + 1)) = cellsOf (same k u) ++ (.int .u8 0 :: cellsOf (zeros m)) := by
    rw [cellsOf_append]
    rfl
  have e2 : cellsOf (same (k + 1) u ++ zeros m) = cellsOf (same k u) ++ (.int .u8 (u.toNat : Int) :: cellsOf (zeros m)) := by
    rw [← same_succ, List.append_assoc, cellsOf_append]
    rfl
  have hl : (cellsOf (same k u)).length = k := by rw [cellsOf_length, same_length]
  rw [e1, e2, List.set_append_right _ _ (by omega), hl, Nat.sub_self]
  rfl

set_option maxHeartbeats 1000000 in
theorem repeat_any (u : UInt8) (n : Nat) (w : World) (hn : n ≤ 134217728) : Calls Try.prog 23 #[.int .u8 (u.toNat : Int), .int .i64 (n : Int)] w fun e w' => RepPost w n u e w' := by
  have hmk := run_make_bytes (P := Try.prog) w 91 5 Try.underlying91 Try.infoE n hn
  have hu := u.toNat_lt
  obtain ⟨S, hS⟩ : ∃ S, strOf (same n u) = S := ⟨_, rfl⟩
  unfold RepPost
  rw [hS]
  go_enter Try.func23, Try.ntmps23
  go_wp2_with fail
  go_loopw [6] (fun i wr => ∃ k : Nat, i = .int .i64 (k : Int) ∧ k ≤ n ∧ wr.heap[w.heap.size]? = some (.cells (rowOf (same k u ++ zeros (n - k))) 5) ∧ Keeps w wr (fun _ => False)) (fun i _ => n - (intOf i).toNat)
  case atStart => exact ⟨0, rfl, Nat.zero_le _, heap_alloc_new _ _, (Keeps.refl _ _).alloc _⟩
  case round =>
    obtain ⟨k, rfl, hk, hr, K⟩ := hrel
    clear hmk
    by_cases hlt : k < n
    · have hlt' : (k : Int) < (n : Int) := by omega
      have hc : wr.cell? ⟨w.heap.size, k, none⟩ = some (.int .u8 ((((same k u ++ zeros (n - k))[k]'(by simp [same_length, zeros_length]; omega)).toNat : Int))) := by
        have := rowOf_get (same k u ++ zeros (n - k)) k (by simp [same_length, zeros_length]; omega)
        simp only [World.cell?, hr]
        simpa using this
      have hf : wr.frozen? ⟨w.heap.size, k, none⟩ = false := by simp [World.frozen?, hr]
      have hr2 : (wr.setCell ⟨w.heap.size, k, none⟩ (.int .u8 (u.toNat : Int))).heap[w.heap.size]? = some (.cells (rowOf (same (k + 1) u ++ zeros (n - (k + 1)))) 5) := by
        rw [setCell_eq_setRow wr w.heap.size k _ 5 (0, 0) _ hr, heap_setRow_same hr, same_mix n k u hlt]
      have K2 : Keeps w (wr.setCell ⟨w.heap.size, k, none⟩ (.int .u8 (u.toNat : Int))) (fun _ => False) := K.setCell ⟨w.heap.size, k, none⟩ (fun h => absurd h (Nat.lt_irrefl _)) _
      generalize ((same k u ++ zeros (n - k))[k]'(by simp [same_length, zeros_length]; omega)).toNat = old at *
      clear hr K
      go_wp2_with fail
      go_roundw
      case rel => exact ⟨k + 1, by go_num, by omega, hr2, K2⟩
      case measure => simp [intOf]; omega
    · have hkn : k = n := by omega
      subst hkn
      have hlt' : ¬ (k : Int) < (k : Int) := by omega
      have htx := run_text wr ⟨w.heap.size, 0, none⟩ k k (same k u) (same_length k u) (fun j hj => by
        rw [addr_add, Nat.zero_add]
        have := rowOf_get (same k u ++ zeros (k - k)) j (by simp; omega)
        simp only [World.cell?, hr]
        simpa [List.getElem_append_left hj] using this)
      rw [hS] at htx
      have K2 := hide K
      clear hr K hS
      go_wp2_with fail
      go_ret
      exact ⟨rfl, K2.out⟩
end Go.Proofs.Ytmfmiaiijepgdaa
