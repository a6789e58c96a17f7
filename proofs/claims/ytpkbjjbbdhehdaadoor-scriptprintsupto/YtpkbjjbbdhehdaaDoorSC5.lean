/-
  script: numberText; the table of rows, rowOf.
-/
import Derived.Test.YtpkbjjbbdhehdaaDoorSC4
import Derived.Test.YtpkbjjbbdhehdaaDoorShelf4
import Derived.Lib.AppendIntMem
import Derived.Lib.LaidTab
namespace Go.Proofs.YtpkbjjbbdhehdaaDoor
open Go.RowKit
set_option linter.unusedVariables false

theorem keeps_of_below {w w' : World} (h : Below w.heap.size w w') : Keeps w w' (fun _ => False) := ⟨h.os, h.tape, h.output, h.size, fun k hk _ => h.block k hk⟩
def TabW (w : World) : Prop := Lib.TabIs Tryd.prog w "internal/strconv.uint64pow10" .u64 Lib.pow10Tab
theorem gPow : Tryd.prog.globalNamed "internal/strconv.uint64pow10" = some 2 := by kernel_rfl
theorem TabW.keeps {w w' : World} (h : TabW w) (k : Keeps w w' (fun _ => False)) : TabW w' := by
  unfold TabW Lib.TabIs World.var? at h ⊢
  rw [gPow] at h ⊢
  simp only [Option.bind_some] at h ⊢
  have hlt : 2 < w.heap.size := by
    rcases Nat.lt_or_ge 2 w.heap.size with h' | h'
    · exact h'
    · rw [Array.getElem?_eq_none h'] at h; cases h
  rw [k.block 2 hlt id]
  exact h
theorem keeps_cell {w w' : World} (k : Keeps w w' (fun _ => False)) {a : Addr} {v : Value} (h : w.cell? a = some v) : w'.cell? a = some v :=
  ((k.below (Nat.le_refl _) (fun _ _ e => e)).cell (World.block_lt_of_cell? w a h)).trans h
theorem ntext_any (n : Int) (h0 : -9223372036854775808 ≤ n) (h1 : n ≤ 9223372036854775807) (w : World) (ht : TabW w) : Calls Tryd.prog 25 #[.int .i64 n] w fun e w' => e = .returned (.string (numD n)) ∧ Keeps w w' (fun _ => False) := by
  have hI := Tryd.strconv_Itoa n h0 h1 w ht
  rw [show (⟨(Lib.itoa n).toArray⟩ : ByteArray) = numD n from rfl] at hI
  generalize numD n = S at *
  go_enter Tryd.func25, Tryd.ntmps25
  go_wp2_with fail
  (with_reducible refine hI.mono ?_)
  rintro e w1 ⟨rfl, k, os, rfl⟩
  go_wp2_with fail
  go_ret
  exact ⟨rfl, keeps_of_below (Lib.below_grow _ w (Nat.le_refl _) k os)⟩

def nmL : List ByteArray := [⟨#[108, 105, 109, 105, 116]⟩, ⟨#[104, 97, 115, 104]⟩, ⟨#[109, 97, 107, 101]⟩, ⟨#[103, 101, 116]⟩, ⟨#[112, 117, 116]⟩, ⟨#[100, 101, 108, 101, 116, 101]⟩, ⟨#[108, 101, 110]⟩, ⟨#[99, 108, 101, 97, 114]⟩, ⟨#[99, 108, 111, 110, 101]⟩, ⟨#[111, 112, 101, 110]⟩, ⟨#[110, 101, 120, 116]⟩, ⟨#[114, 101, 108, 101, 97, 115, 101]⟩, ⟨#[108, 105, 118, 101]⟩, ⟨#[112, 114, 111, 98, 101, 115]⟩, ⟨#[115, 108, 111, 116, 115]⟩, ⟨#[97, 117, 100, 105, 116]⟩]
def nmN (i : Nat) : ByteArray := nmL.getD i ⟨#[]⟩
def kN (i : Nat) : Int := if i = 0 then 1 else if i = 1 then 2 else 3
def oN (i : Nat) : Int := if i < 2 then 0 else (i : Int) - 1
/-- Is it a command's number? -/
def isOp (op : Int) : Bool := decide (1 ≤ op ∧ op ≤ 14)
def nameD (op : Int) : ByteArray := if 1 ≤ op ∧ op ≤ 14 then nmN (op.toNat + 1) else ⟨#[]⟩
theorem hit {i : Nat} {op : Int} (hi : i < 16) (h1 : kN i = 3) (h2 : oN i = op) : nameD op = nmN i ∧ isOp op = true := by
  unfold kN at h1
  unfold oN at h2
  have h3 : 2 ≤ i := by
    split at h1
    · omega
    · split at h1
      · omega
      · omega
  rw [if_neg (by omega)] at h2
  have h4 : 1 ≤ op ∧ op ≤ 14 := by omega
  unfold nameD isOp
  rw [if_pos h4, show op.toNat + 1 = i by omega]
  exact ⟨rfl, decide_eq_true h4⟩
theorem nohit {op : Int} (h : ∀ j, j < 16 → ¬ (kN j = 3 ∧ oN j = op)) : nameD op = ⟨#[]⟩ ∧ isOp op = false := by
  have h4 : ¬ (1 ≤ op ∧ op ≤ 14) := fun q => by
    refine h (op.toNat + 1) (by omega) ⟨?_, ?_⟩
    · unfold kN
      rw [if_neg (by omega), if_neg (by omega)]
    · unfold oN
      rw [if_neg (by omega)]
      omega
  unfold nameD isOp
  exact ⟨if_neg h4, decide_eq_false h4⟩
def RowsAt (w : World) : Prop := ∀ i, i < 16 → w.cell? ⟨0, i * 4, none⟩ = some (.string (nmN i)) ∧ w.cell? ⟨0, i * 4 + 1, none⟩ = some (.int .i64 (kN i)) ∧ w.cell? ⟨0, i * 4 + 2, none⟩ = some (.int .i64 (oN i)) ∧ ∃ f, w.cell? ⟨0, i * 4 + 3, none⟩ = some (.string f)
theorem RowsAt.keeps {w w' : World} (h : RowsAt w) (k : Keeps w w' (fun _ => False)) : RowsAt w' := fun i hi => by
  obtain ⟨h1, h2, h3, f, h4⟩ := h i hi
  exact ⟨keeps_cell k h1, keeps_cell k h2, keeps_cell k h3, f, keeps_cell k h4⟩
set_option maxRecDepth 100000 in
set_option maxHeartbeats 2000000 in
theorem rowOf_any (op : Int) (w : World) (hR : RowsAt w) : Calls Tryd.prog 17 #[.int .i64 3, .int .i64 op] w fun e w' => (∃ k o f, e = .returned (.tuple #[.agg #[.string (nameD op), .int .i64 k, .int .i64 o, .string f], .bool (isOp op)])) ∧ Keeps w w' (fun _ => False) := by
  have HR := hide hR
  have HH : Hid (∀ i, i < 16 → kN i = 3 → oN i = op → nameD op = nmN i ∧ isOp op = true) := fun i a b c => hit a b c
  have HN : Hid ((∀ j, j < 16 → ¬ (kN j = 3 ∧ oN j = op)) → nameD op = ⟨#[]⟩ ∧ isOp op = false) := nohit
  generalize nameD op = ND at *
  generalize isOp op = IsO at *
  clear hR
  go_enter Tryd.func17, Tryd.ntmps17
  go_wp2_with fail
  go_loopw [7] (fun v7 wr => ∃ i : Nat, v7 = .int .i64 (i : Int) ∧ i ≤ 16 ∧ Hid (∀ j, j < i → ¬ (kN j = 3 ∧ oN j = op)) ∧ wr.heap[w.heap.size]? = some (.cells #[.string ⟨#[]⟩, .int .i64 0, .int .i64 0, .string ⟨#[]⟩] 54) ∧ Hid (Keeps w wr (fun _ => False))) (fun v7 _ => 16 - (intOf v7).toNat)
  case atStart => exact ⟨0, rfl, Nat.zero_le _, fun j hj => by omega, heap_alloc_new _ _, (Keeps.refl _ _).alloc _⟩
  case round =>
    obtain ⟨i, rfl, hi, hno, hb, HK⟩ := hrel
    have d0 : wr.cell? ⟨w.heap.size, 0, none⟩ = some (.string ⟨#[]⟩) := by simp [World.cell?, hb]
    have d1 : wr.cell? ⟨w.heap.size, 1, none⟩ = some (.int .i64 0) := by simp [World.cell?, hb]
    have d2 : wr.cell? ⟨w.heap.size, 2, none⟩ = some (.int .i64 0) := by simp [World.cell?, hb]
    have d3 : wr.cell? ⟨w.heap.size, 3, none⟩ = some (.string ⟨#[]⟩) := by simp [World.cell?, hb]
    have f0 : wr.frozen? ⟨w.heap.size, 0, none⟩ = false := by simp [World.frozen?, hb]
    have f1 : wr.frozen? ⟨w.heap.size, 1, none⟩ = false := by simp [World.frozen?, hb]
    have f2 : wr.frozen? ⟨w.heap.size, 2, none⟩ = false := by simp [World.frozen?, hb]
    have f3 : wr.frozen? ⟨w.heap.size, 3, none⟩ = false := by simp [World.frozen?, hb]
    by_cases hlt : i < 16
    · have hlt' : (i : Int) < 16 := by omega
      obtain ⟨c1, c2, c3, f, c4⟩ := (HR.out.keeps HK.out) i hlt
      have hi5 : i ≤ 1099511627776 := by omega
      have Hms : Hid (15 - i < 16 - i) := by show 15 - i < 16 - i; omega
      have Hnx : Hid (¬ (kN i = 3 ∧ oN i = op) → ∀ j, j < i + 1 → ¬ (kN j = 3 ∧ oN j = op)) := fun q j hj => by
        by_cases e : j = i
        · rw [e]; exact q
        · exact hno.out j (by omega)
      obtain ⟨a6, a7⟩ := wr64s hi5
      by_cases h1 : kN i = 3
      · have e1 : (kN i == 3) = true := by simp [h1]
        by_cases h2 : oN i = op
        · have e2 : (oN i == op) = true := by simp [h2]
          obtain ⟨n1, n2⟩ := HH.out i hlt h1 h2
          rw [← n1] at c1
          have N2 := hide n2
          clear h1 h2 hno Hnx a6 a7 n1 n2 hi5
          generalize kN i = kk at *
          generalize oN i = oo at *
          have hk : Keeps w ((((wr.setCell ⟨w.heap.size, 0, none⟩ (.string ND)).setCell ⟨w.heap.size, 1, none⟩ (.int .i64 kk)).setCell ⟨w.heap.size, 2, none⟩ (.int .i64 oo)).setCell ⟨w.heap.size, 3, none⟩ (.string f)) (fun _ => False) := (((HK.out.setCell ⟨w.heap.size, 0, none⟩ (fun h => absurd h (Nat.lt_irrefl _)) _).setCell ⟨w.heap.size, 1, none⟩ (fun h => absurd h (Nat.lt_irrefl _)) _).setCell ⟨w.heap.size, 2, none⟩ (fun h => absurd h (Nat.lt_irrefl _)) _).setCell ⟨w.heap.size, 3, none⟩ (fun h => absurd h (Nat.lt_irrefl _)) _
          have Hk := hide hk
          clear hk
          go_wp2_with fail
          refine bodyPost_ret (v := .tuple #[.agg #[.string ND, .int .i64 kk, .int .i64 oo, .string f], .bool true]) ?_ rfl ?_
          · simp [results, Tryd.results17, go_sem, d0, d1, d2, d3]
          · rw [N2.out]
            exact ⟨⟨kk, oo, f, rfl⟩, Hk.out⟩
        · have e2 : (oN i == op) = false := beq_eq_false_iff_ne.2 h2
          have HX := hide (Hnx.out (fun q => h2 q.2))
          have hb' := hide hb
          clear h1 h2 hno Hnx hi5 d0 d1 d2 d3 f0 f1 f2 f3 c1 c4 hb
          generalize kN i = kk at *
          generalize oN i = oo at *
          go_wp2_with fail
          go_roundw
          case rel => exact ⟨i + 1, by go_num, hlt, HX, hb'.out, HK⟩
          case measure => simp [intOf]; exact Hms.out
      · have e1 : (kN i == 3) = false := beq_eq_false_iff_ne.2 h1
        have HX := hide (Hnx.out (fun q => h1 q.1))
        have hb' := hide hb
        clear h1 hno Hnx hi5 d0 d1 d2 d3 f0 f1 f2 f3 c1 c4 hb c3
        generalize kN i = kk at *
        go_wp2_with fail
        go_roundw
        case rel => exact ⟨i + 1, by go_num, hlt, HX, hb'.out, HK⟩
        case measure => simp [intOf]; exact Hms.out
    · obtain rfl : i = 16 := by omega
      obtain ⟨n1, n2⟩ := HN.out hno.out
      have N1 := hide n1
      have N2 := hide n2
      clear n1 n2 hno HN HH
      have hk : Keeps w ((((wr.setCell ⟨w.heap.size, 0, none⟩ (.string ⟨#[]⟩)).setCell ⟨w.heap.size, 1, none⟩ (.int .i64 0)).setCell ⟨w.heap.size, 2, none⟩ (.int .i64 0)).setCell ⟨w.heap.size, 3, none⟩ (.string ⟨#[]⟩)) (fun _ => False) := (((HK.out.setCell ⟨w.heap.size, 0, none⟩ (fun h => absurd h (Nat.lt_irrefl _)) _).setCell ⟨w.heap.size, 1, none⟩ (fun h => absurd h (Nat.lt_irrefl _)) _).setCell ⟨w.heap.size, 2, none⟩ (fun h => absurd h (Nat.lt_irrefl _)) _).setCell ⟨w.heap.size, 3, none⟩ (fun h => absurd h (Nat.lt_irrefl _)) _
      have Hk := hide hk
      clear hk
      go_wp2_with fail
      refine bodyPost_ret (v := .tuple #[.agg #[.string ⟨#[]⟩, .int .i64 0, .int .i64 0, .string ⟨#[]⟩], .bool false]) ?_ rfl ?_
      · simp [results, Tryd.results17, go_sem, d0, d1, d2, d3]
      · rw [N1.out, N2.out]
        exact ⟨⟨0, 0, _, rfl⟩, Hk.out⟩
end Go.Proofs.YtpkbjjbbdhehdaaDoor
