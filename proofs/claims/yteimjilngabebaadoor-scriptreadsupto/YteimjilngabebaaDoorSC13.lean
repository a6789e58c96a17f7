/-
  script: rowNamed, digit.
-/
import Derived.Test.YteimjilngabebaaDoorSC12
namespace Go.Proofs.YteimjilngabebaaDoor
open Go.RowKit
set_option linter.unusedVariables false

theorem str_yes {a b : ByteArray} (h : a = b) : (a.toList == b.toList) = true := by simp [h]
theorem str_no {a b : ByteArray} (h : a ≠ b) : (a.toList == b.toList) = false := by
  simp only [beq_eq_false_iff_ne, ne_eq]
  exact fun e => h (ByteArray.ext (Array.toList_inj.1 (by simpa [ByteArray.toList_eq] using e)))
set_option maxRecDepth 100000 in
set_option maxHeartbeats 2000000 in
theorem rowNamed_any (name : ByteArray) (w : World) (hR : RowsAt w) : Calls Tryd.prog 14 #[.string name] w fun e w' => ((∃ i f, i < 16 ∧ nmN i = name ∧ e = .returned (.tuple #[.agg #[.string name, .int .i64 (kN i), .int .i64 (oN i), .string f], .bool true])) ∨ ((∀ i, i < 16 → nmN i ≠ name) ∧ e = .returned (.tuple #[.agg #[.string ⟨#[]⟩, .int .i64 0, .int .i64 0, .string ⟨#[]⟩], .bool false]))) ∧ Keeps w w' (fun _ => False) := by
  have HR := hide hR
  clear hR
  go_enter Tryd.func14, Tryd.ntmps14
  go_wp2_with fail
  go_loopw [5] (fun v5 wr => ∃ i : Nat, v5 = .int .i64 (i : Int) ∧ i ≤ 16 ∧ Hid (∀ j, j < i → nmN j ≠ name) ∧ wr.heap[w.heap.size]? = some (.cells #[.string ⟨#[]⟩, .int .i64 0, .int .i64 0, .string ⟨#[]⟩] 35) ∧ Hid (Keeps w wr (fun _ => False))) (fun v5 _ => 16 - (intOf v5).toNat)
  case atStart => exact ⟨0, rfl, Nat.zero_le _, fun j hj => by omega, heap_alloc_new _ _, (Keeps.refl _ _).alloc _⟩
  case round =>
    obtain ⟨i, rfl, hi, hno, hb, HK⟩ := hrel
    have d0 : wr.cell? ⟨w.heap.size, 0, none⟩ = some (.string ⟨#[]⟩) := by simp [World.cell?, hb]
    have d1 : wr.cell? ⟨w.heap.size, 1, none⟩ = some (.int .i64 0) := by simp [World.cell?, hb]
    have d2 : wr.cell? ⟨w.heap.size, 2, none⟩ = some (.int .i64 0) := by simp [World.cell?, hb]
    have d3 : wr.cell? ⟨w.heap.size, 3, none⟩ = some (.string ⟨#[]⟩) := by simp [World.cell?, hb]
    have f0 : wr.frozen? ⟨w.heap.size, 0, none⟩ = false := by simp [World.frozen?, hb]
    have f1 : wr.frozen? ⟨w.heap.size, 1, none⟩ = false := by simp [World.frozen?, hb]
    have f2 : wr.frozen? ⟨w.heap.size, 2, none⟩ = false := by simp [World.frozen?, hb]
    have f3 : wr.frozen? ⟨w.heap.size, 3, none⟩ = false := by simp [World.frozen?, hb]
    by_cases hlt : i < 16
    · have hlt' : (i : Int) < 16 := by omega
      obtain ⟨c1, c2, c3, f, c4⟩ := (HR.out.keeps HK.out) i hlt
      have hi5 : i ≤ 1099511627776 := by omega
      have Hms : Hid (15 - i < 16 - i) := by show 15 - i < 16 - i; omega
      have Hnx : Hid (nmN i ≠ name → ∀ j, j < i + 1 → nmN j ≠ name) := fun q j hj => by
        by_cases e : j = i
        · rw [e]; exact q
        · exact hno.out j (by omega)
      by_cases h1 : nmN i = name
      · have H1 := hide h1
        rw [h1] at c1
        have e1 : (name.toList == name.toList) = true := by simp
        have hk : Keeps w ((((wr.setCell ⟨w.heap.size, 0, none⟩ (.string name)).setCell ⟨w.heap.size, 1, none⟩ (.int .i64 (kN i))).setCell ⟨w.heap.size, 2, none⟩ (.int .i64 (oN i))).setCell ⟨w.heap.size, 3, none⟩ (.string f)) (fun _ => False) := (((HK.out.setCell ⟨w.heap.size, 0, none⟩ (fun h => absurd h (Nat.lt_irrefl _)) _).setCell ⟨w.heap.size, 1, none⟩ (fun h => absurd h (Nat.lt_irrefl _)) _).setCell ⟨w.heap.size, 2, none⟩ (fun h => absurd h (Nat.lt_irrefl _)) _).setCell ⟨w.heap.size, 3, none⟩ (fun h => absurd h (Nat.lt_irrefl _)) _
        have Hk := hide hk
        have Hlt := hide hlt
        clear h1 hno Hnx hi5 hk
        have HF : Hid (∃ j g, j < 16 ∧ nmN j = name ∧ (Ending.returned (.tuple #[.agg #[.string name, .int .i64 (kN i), .int .i64 (oN i), .string f], .bool true])) = .returned (.tuple #[.agg #[.string name, .int .i64 (kN j), .int .i64 (oN j), .string g], .bool true])) := ⟨i, f, hlt, H1.out, rfl⟩
        generalize kN i = kk at *
        generalize oN i = oo at *
        go_wp2_with fail
        refine bodyPost_ret (v := .tuple #[.agg #[.string name, .int .i64 kk, .int .i64 oo, .string f], .bool true]) ?_ rfl ?_
        · simp [results, Tryd.results14, go_sem, d0, d1, d2, d3]
        · exact ⟨Or.inl HF.out, Hk.out⟩
      · have e1 := str_no h1
        have HX := hide (Hnx.out h1)
        have hb' := hide hb
        obtain ⟨a6, a7⟩ := wr64s hi5
        clear h1 hno Hnx hi5 d0 d1 d2 d3 f0 f1 f2 f3 c2 c3 c4 hb
        generalize nmN i = nn at *
        go_wp2_with fail
        go_roundw
        case rel => exact ⟨i + 1, by go_num, hlt, HX, hb'.out, HK⟩
        case measure => simp [intOf]; exact Hms.out
    · obtain rfl : i = 16 := by omega
      have hk : Keeps w ((((wr.setCell ⟨w.heap.size, 0, none⟩ (.string ⟨#[]⟩)).setCell ⟨w.heap.size, 1, none⟩ (.int .i64 0)).setCell ⟨w.heap.size, 2, none⟩ (.int .i64 0)).setCell ⟨w.heap.size, 3, none⟩ (.string ⟨#[]⟩)) (fun _ => False) := (((HK.out.setCell ⟨w.heap.size, 0, none⟩ (fun h => absurd h (Nat.lt_irrefl _)) _).setCell ⟨w.heap.size, 1, none⟩ (fun h => absurd h (Nat.lt_irrefl _)) _).setCell ⟨w.heap.size, 2, none⟩ (fun h => absurd h (Nat.lt_irrefl _)) _).setCell ⟨w.heap.size, 3, none⟩ (fun h => absurd h (Nat.lt_irrefl _)) _
      have Hk := hide hk
      clear hk
      go_wp2_with fail
      refine bodyPost_ret (v := .tuple #[.agg #[.string ⟨#[]⟩, .int .i64 0, .int .i64 0, .string ⟨#[]⟩], .bool false]) ?_ rfl ?_
      · simp [results, Tryd.results14, go_sem, d0, d1, d2, d3]
      · exact ⟨Or.inr ⟨hno.out, rfl⟩, Hk.out⟩
/-- What a digit is worth. -/
def digD (c : Int) : Int := if c < 48 then 16 else if c ≤ 57 then c - 48 else if c < 65 then 16 else if c ≤ 70 then c - 65 + 10 else if c < 97 then 16 else if c ≤ 102 then c - 97 + 10 else 16
set_option maxRecDepth 100000 in
set_option maxHeartbeats 2000000 in
theorem digit_any (c : Int) (w : World) : Calls Tryd.prog 56 #[.int .i32 c] w fun e w' => e = .returned (.int .i64 (digD c)) ∧ w' = w := by
  obtain ⟨D, hD⟩ : ∃ D, digD c = D := ⟨_, rfl⟩
  rw [hD]
  unfold digD at hD
  by_cases h0 : c < 48
  · rw [if_pos h0] at hD
    subst hD
    go_enter Tryd.func56, Tryd.ntmps56
    go_wp2_with fail
    go_ret
    exact ⟨rfl, rfl⟩
  by_cases h1 : c ≤ 57
  · rw [if_neg h0, if_pos h1] at hD
    subst hD
    go_enter Tryd.func56, Tryd.ntmps56
    go_wp2_with fail
    go_ret
    exact ⟨rfl, rfl⟩
  by_cases h2 : c < 65
  · rw [if_neg h0, if_neg h1, if_pos h2] at hD
    subst hD
    go_enter Tryd.func56, Tryd.ntmps56
    go_wp2_with fail
    go_ret
    exact ⟨rfl, rfl⟩
  by_cases h3 : c ≤ 70
  · rw [if_neg h0, if_neg h1, if_neg h2, if_pos h3] at hD
    subst hD
    go_enter Tryd.func56, Tryd.ntmps56
    go_wp2_with fail
    go_ret
    exact ⟨rfl, rfl⟩
  by_cases h4 : c < 97
  · rw [if_neg h0, if_neg h1, if_neg h2, if_neg h3, if_pos h4] at hD
    subst hD
    go_enter Tryd.func56, Tryd.ntmps56
    go_wp2_with fail
    go_ret
    exact ⟨rfl, rfl⟩
  by_cases h5 : c ≤ 102
  · rw [if_neg h0, if_neg h1, if_neg h2, if_neg h3, if_neg h4, if_pos h5] at hD
    subst hD
    go_enter Tryd.func56, Tryd.ntmps56
    go_wp2_with fail
    go_ret
    exact ⟨rfl, rfl⟩
  rw [if_neg h0, if_neg h1, if_neg h2, if_neg h3, if_neg h4, if_neg h5] at hD
  subst hD
  go_enter Tryd.func56, Tryd.ntmps56
  go_wp2_with fail
  go_ret
  exact ⟨rfl, rfl⟩
end Go.Proofs.YteimjilngabebaaDoor
