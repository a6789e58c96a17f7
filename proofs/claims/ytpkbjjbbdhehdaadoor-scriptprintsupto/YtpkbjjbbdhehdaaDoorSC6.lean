/-
  script: the reference's Rows and Name.
-/
import Derived.Test.YtpkbjjbbdhehdaaDoorSC5
namespace Go.Proofs.YtpkbjjbbdhehdaaDoor
open Go.RowKit
set_option linter.unusedVariables false

set_option maxRecDepth 100000 in
set_option maxHeartbeats 2000000 in
theorem rrows_any (w : World) : Calls Tryd.prog 30 #[] w fun e w' => ∃ cs : Array Value, e = .returned (.slice (some ⟨w.heap.size, 0, none⟩) 16 16) ∧ w' = w.alloc (.cells cs 72) ∧ ∀ i, i < 16 → cs[i * 4]? = some (.string (nmN i)) ∧ cs[i * 4 + 1]? = some (.int .i64 (oN i)) := by
  go_enter Tryd.func30, Tryd.ntmps30
  go_wp2_with fail
  go_ret
  refine ⟨_, rfl, rfl, ?_⟩
  intro i hi
  iterate 16 (rcases i with _ | i; exact ⟨rfl, rfl⟩)
  omega
theorem hit2 {i : Nat} {op : Int} (hi : i < 16) (h1 : 0 < op) (h2 : oN i = op) : nameD op = nmN i := by
  refine (hit hi ?_ h2).1
  unfold oN at h2
  unfold kN
  split at h2
  · omega
  · rw [if_neg (by omega), if_neg (by omega)]
theorem nohit2 {op : Int} (h : ∀ j, j < 16 → ¬ (0 < op ∧ oN j = op)) : nameD op = ⟨#[]⟩ := by
  refine (nohit fun j hj q => h j hj ⟨?_, q.2⟩).1
  have h1 := q.1
  have h2 := q.2
  unfold kN at h1
  unfold oN at h2
  split at h1
  · omega
  · split at h1
    · omega
    · rw [if_neg (by omega)] at h2
      omega
set_option maxRecDepth 100000 in
set_option maxHeartbeats 2000000 in
theorem rname_any (op : Int) (w : World) : Calls Tryd.prog 21 #[.int .i64 op] w fun e w' => e = .returned (.string (nameD op)) ∧ Keeps w w' (fun _ => False) := by
  have HH : Hid (∀ i, i < 16 → 0 < op → oN i = op → nameD op = nmN i) := fun i a b c => hit2 a b c
  have HN : Hid ((∀ j, j < 16 → ¬ (0 < op ∧ oN j = op)) → nameD op = ⟨#[]⟩) := nohit2
  generalize nameD op = ND at *
  have hRR := rrows_any w
  go_enter Tryd.func21, Tryd.ntmps21
  go_wp2_with fail
  (with_reducible refine hRR.mono ?_)
  rintro e w1 ⟨cs, rfl, rfl, hcs⟩
  have hb := heap_alloc_new w (.cells cs 72)
  have Hcs := hide hcs
  have K1 : Hid (Keeps w (w.alloc (.cells cs 72)) (fun _ => False)) := (Keeps.refl _ _).alloc _
  generalize w.alloc (.cells cs 72) = w1 at *
  clear hRR hcs
  go_wp2_with fail
  go_loopw [4] (fun v4 wr => ∃ i : Nat, v4 = .int .i64 (i : Int) ∧ i ≤ 16 ∧ Hid (∀ j, j < i → ¬ (0 < op ∧ oN j = op)) ∧ wr = w1) (fun v4 _ => 16 - (intOf v4).toNat)
  case atStart => exact ⟨0, rfl, Nat.zero_le _, fun j hj => by omega, rfl⟩
  case round =>
    obtain ⟨i, rfl, hi, hno, rfl⟩ := hrel
    by_cases hlt : i < 16
    · have hlt' : (i : Int) < 16 := by omega
      obtain ⟨c1, c2⟩ := Hcs.out i hlt
      have d1 : wr.cell? ⟨w.heap.size, i * 4, none⟩ = some (.string (nmN i)) := by simp [World.cell?, hb, c1]
      have d2 : wr.cell? ⟨w.heap.size, i * 4 + 1, none⟩ = some (.int .i64 (oN i)) := by simp [World.cell?, hb, c2]
      have hi5 : i ≤ 1099511627776 := by omega
      have Hms : Hid (15 - i < 16 - i) := by show 15 - i < 16 - i; omega
      have Hnx : Hid (¬ (0 < op ∧ oN i = op) → ∀ j, j < i + 1 → ¬ (0 < op ∧ oN j = op)) := fun q j hj => by
        by_cases e : j = i
        · rw [e]; exact q
        · exact hno.out j (by omega)
      obtain ⟨a6, a7⟩ := wr64s hi5
      clear c1 c2 hi5 hb
      by_cases h1 : 0 < op
      · by_cases h2 : oN i = op
        · have e2 : (oN i == op) = true := by simp [h2]
          have n1 := HH.out i hlt h1 h2
          rw [← n1] at d1
          clear h2 hno Hnx a6 a7 n1 HH HN
          generalize oN i = oo at *
          go_wp2_with fail
          go_ret
          exact ⟨rfl, K1.out⟩
        · have e2 : (oN i == op) = false := beq_eq_false_iff_ne.2 h2
          have HX := hide (Hnx.out (fun q => h2 q.2))
          clear h2 hno Hnx d1
          generalize oN i = oo at *
          go_wp2_with fail
          go_roundw
          case rel => exact ⟨i + 1, by go_num, hlt, HX, by first | rfl | trivial⟩
          case measure => simp [intOf]; exact Hms.out
      · have HX := hide (Hnx.out (fun q => h1 q.1))
        clear hno Hnx d1 d2
        go_wp2_with fail
        go_roundw
        case rel => exact ⟨i + 1, by go_num, hlt, HX, by first | rfl | trivial⟩
        case measure => simp [intOf]; exact Hms.out
    · obtain rfl : i = 16 := by omega
      have N1 := hide (HN.out hno.out)
      clear hno HN HH
      go_wp2_with fail
      go_ret
      exact ⟨congrArg (fun z => Ending.returned (Value.string z)) N1.out.symm, K1.out⟩
end Go.Proofs.YtpkbjjbbdhehdaaDoor
