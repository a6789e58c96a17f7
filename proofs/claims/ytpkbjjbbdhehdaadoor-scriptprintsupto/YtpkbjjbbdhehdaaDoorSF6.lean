/-
  script: rowOf, whole.
-/
import Derived.Test.YtpkbjjbbdhehdaaDoorSF5
namespace Go.Proofs.YtpkbjjbbdhehdaaDoor
open Go.RowKit
set_option linter.unusedVariables false
def fmL : List ByteArray := [⟨#[78]⟩, ⟨#[75, 85]⟩, ⟨#[85, 78, 70]⟩, ⟨#[72, 75]⟩, ⟨#[72, 75, 69]⟩, ⟨#[72, 75]⟩, ⟨#[72]⟩, ⟨#[72, 85]⟩, ⟨#[72]⟩, ⟨#[72, 85, 86]⟩, ⟨#[72]⟩, ⟨#[83]⟩, ⟨#[]⟩, ⟨#[72, 75]⟩, ⟨#[72]⟩, ⟨#[]⟩]
def fmN (i : Nat) : ByteArray := fmL.getD i ⟨#[]⟩
/-- The table of rows, whole. -/
def RowsF (w : World) : Prop := ∀ i, i < 16 → w.cell? ⟨0, i * 4, none⟩ = some (.string (nmN i)) ∧ w.cell? ⟨0, i * 4 + 1, none⟩ = some (.int .i64 (kN i)) ∧ w.cell? ⟨0, i * 4 + 2, none⟩ = some (.int .i64 (oN i)) ∧ w.cell? ⟨0, i * 4 + 3, none⟩ = some (.string (fmN i))
theorem RowsF.keeps {w w' : World} (h : RowsF w) (k : Keeps w w' (fun _ => False)) : RowsF w' := fun i hi => by
  obtain ⟨a, b, c, d⟩ := h i hi
  exact ⟨keeps_cell k a, keeps_cell k b, keeps_cell k c, keeps_cell k d⟩
set_option maxRecDepth 100000 in
set_option maxHeartbeats 2000000 in
theorem rowOfF_any (kd op : Int) (w : World) (hR : RowsF w) : Calls Tryd.prog 17 #[.int .i64 kd, .int .i64 op] w fun e w' => ((∃ i, i < 16 ∧ kN i = kd ∧ oN i = op ∧ e = .returned (.tuple #[.agg #[.string (nmN i), .int .i64 (kN i), .int .i64 (oN i), .string (fmN i)], .bool true])) ∨ ((∀ j, j < 16 → ¬ (kN j = kd ∧ oN j = op)) ∧ e = .returned (.tuple #[.agg #[.string ⟨#[]⟩, .int .i64 0, .int .i64 0, .string ⟨#[]⟩], .bool false]))) ∧ Keeps w w' (fun _ => False) := by
  have HR := hide hR
  clear hR
  go_enter Tryd.func17, Tryd.ntmps17
  go_wp2_with fail
  go_loopw [7] (fun v7 wr => ∃ i : Nat, v7 = .int .i64 (i : Int) ∧ i ≤ 16 ∧ Hid (∀ j, j < i → ¬ (kN j = kd ∧ oN j = op)) ∧ wr.heap[w.heap.size]? = some (.cells #[.string ⟨#[]⟩, .int .i64 0, .int .i64 0, .string ⟨#[]⟩] 54) ∧ Hid (Keeps w wr (fun _ => False))) (fun v7 _ => 16 - (intOf v7).toNat)
  case atStart => exact ⟨0, rfl, Nat.zero_le _, fun j hj => by omega, heap_alloc_new _ _, (Keeps.refl _ _).alloc _⟩
  case round =>
    obtain ⟨i, rfl, hi, hno, hb, HK⟩ := hrel
    have d0 : wr.cell? ⟨w.heap.size, 0, none⟩ = some (.string ⟨#[]⟩) := by simp [World.cell?, hb]
    have d1 : wr.cell? ⟨w.heap.size, 1, none⟩ = some (.int .i64 0) := by simp [World.cell?, hb]
    have d2 : wr.cell? ⟨w.heap.size, 2, none⟩ = some (.int .i64 0) := by simp [World.cell?, hb]
    have d3 : wr.cell? ⟨w.heap.size, 3, none⟩ = some (.string ⟨#[]⟩) := by simp [World.cell?, hb]
    have f0 : wr.frozen? ⟨w.heap.size, 0, none⟩ = false := by simp [World.frozen?, hb]
    have f1 : wr.frozen? ⟨w.heap.size, 1, none⟩ = false := by simp [World.frozen?, hb]
    have f2 : wr.frozen? ⟨w.heap.size, 2, none⟩ = false := by simp [World.frozen?, hb]
    have f3 : wr.frozen? ⟨w.heap.size, 3, none⟩ = false := by simp [World.frozen?, hb]
    by_cases hlt : i < 16
    · have hlt' : (i : Int) < 16 := by omega
      obtain ⟨c1, c2, c3, c4⟩ := (HR.out.keeps HK.out) i hlt
      obtain ⟨f, hf⟩ : ∃ f, fmN i = f := ⟨_, rfl⟩
      rw [hf] at c4
      have hi5 : i ≤ 1099511627776 := by omega
      have Hms : Hid (15 - i < 16 - i) := by show 15 - i < 16 - i; omega
      have Hnx : Hid (¬ (kN i = kd ∧ oN i = op) → ∀ j, j < i + 1 → ¬ (kN j = kd ∧ oN j = op)) := fun q j hj => by
        by_cases e : j = i
        · rw [e]; exact q
        · exact hno.out j (by omega)
      obtain ⟨a6, a7⟩ := wr64s hi5
      by_cases h1 : kN i = kd
      · have e1 : (kN i == kd) = true := by simp [h1]
        by_cases h2 : oN i = op
        · have e2 : (oN i == op) = true := by simp [h2]
          obtain ⟨ND, hND⟩ : ∃ ND, nmN i = ND := ⟨_, rfl⟩
          rw [hND] at c1
          have HF : Hid (∃ j, j < 16 ∧ kN j = kd ∧ oN j = op ∧ (Ending.returned (.tuple #[.agg #[.string ND, .int .i64 (kN i), .int .i64 (oN i), .string f], .bool true])) = .returned (.tuple #[.agg #[.string (nmN j), .int .i64 (kN j), .int .i64 (oN j), .string (fmN j)], .bool true])) := ⟨i, hlt, h1, h2, by rw [hND, hf]⟩
          clear h1 h2 hno Hnx a6 a7 hi5 hND hf
          generalize kN i = kk at *
          generalize oN i = oo at *
          have hk : Keeps w ((((wr.setCell ⟨w.heap.size, 0, none⟩ (.string ND)).setCell ⟨w.heap.size, 1, none⟩ (.int .i64 kk)).setCell ⟨w.heap.size, 2, none⟩ (.int .i64 oo)).setCell ⟨w.heap.size, 3, none⟩ (.string f)) (fun _ => False) := (((HK.out.setCell ⟨w.heap.size, 0, none⟩ (fun h => absurd h (Nat.lt_irrefl _)) _).setCell ⟨w.heap.size, 1, none⟩ (fun h => absurd h (Nat.lt_irrefl _)) _).setCell ⟨w.heap.size, 2, none⟩ (fun h => absurd h (Nat.lt_irrefl _)) _).setCell ⟨w.heap.size, 3, none⟩ (fun h => absurd h (Nat.lt_irrefl _)) _
          have Hk := hide hk
          clear hk
          go_wp2_with fail
          refine bodyPost_ret (v := .tuple #[.agg #[.string ND, .int .i64 kk, .int .i64 oo, .string f], .bool true]) ?_ rfl ?_
          · simp [results, Tryd.results17, go_sem, d0, d1, d2, d3]
          · exact ⟨Or.inl HF.out, Hk.out⟩
        · have e2 : (oN i == op) = false := beq_eq_false_iff_ne.2 h2
          have HX := hide (Hnx.out (fun q => h2 q.2))
          have hb' := hide hb
          clear h1 h2 hno Hnx hi5 d0 d1 d2 d3 f0 f1 f2 f3 c1 c4 hb
          generalize kN i = kk at *
          generalize oN i = oo at *
          go_wp2_with fail
          go_roundw
          case rel => exact ⟨i + 1, by go_num, hlt, HX, hb'.out, HK⟩
          case measure => simp [intOf]; exact Hms.out
      · have e1 : (kN i == kd) = false := beq_eq_false_iff_ne.2 h1
        have HX := hide (Hnx.out (fun q => h1 q.1))
        have hb' := hide hb
        clear h1 hno Hnx hi5 d0 d1 d2 d3 f0 f1 f2 f3 c1 c4 hb c3
        generalize kN i = kk at *
        go_wp2_with fail
        go_roundw
        case rel => exact ⟨i + 1, by go_num, hlt, HX, hb'.out, HK⟩
        case measure => simp [intOf]; exact Hms.out
    · obtain rfl : i = 16 := by omega
      have hk : Keeps w ((((wr.setCell ⟨w.heap.size, 0, none⟩ (.string ⟨#[]⟩)).setCell ⟨w.heap.size, 1, none⟩ (.int .i64 0)).setCell ⟨w.heap.size, 2, none⟩ (.int .i64 0)).setCell ⟨w.heap.size, 3, none⟩ (.string ⟨#[]⟩)) (fun _ => False) := (((HK.out.setCell ⟨w.heap.size, 0, none⟩ (fun h => absurd h (Nat.lt_irrefl _)) _).setCell ⟨w.heap.size, 1, none⟩ (fun h => absurd h (Nat.lt_irrefl _)) _).setCell ⟨w.heap.size, 2, none⟩ (fun h => absurd h (Nat.lt_irrefl _)) _).setCell ⟨w.heap.size, 3, none⟩ (fun h => absurd h (Nat.lt_irrefl _)) _
      have Hk := hide hk
      clear hk
      go_wp2_with fail
      refine bodyPost_ret (v := .tuple #[.agg #[.string ⟨#[]⟩, .int .i64 0, .int .i64 0, .string ⟨#[]⟩], .bool false]) ?_ rfl ?_
      · simp [results, Tryd.results17, go_sem, d0, d1, d2, d3]
      · exact ⟨Or.inr ⟨hno.out, rfl⟩, Hk.out⟩
end Go.Proofs.YtpkbjjbbdhehdaaDoor
