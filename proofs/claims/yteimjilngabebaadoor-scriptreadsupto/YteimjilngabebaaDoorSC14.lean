/-
  script: allDigits.
-/
import Derived.Test.YteimjilngabebaaDoorSC13
import Derived.Laws.RangeString
import Derived.Deep.LoopGhost
namespace Go.Proofs.YteimjilngabebaaDoor
open Go.RowKit
set_option linter.unusedVariables false

theorem run_next_any {P : Program} (w : World) (s : ByteArray) (pos : Nat) (ty : TypeId) (h : pos < s.size) :
    (Instr.next (.pointer (some ⟨w.heap.size, 0, none⟩)) true ty).run P (w.iter s pos) =
      .ok (.tuple #[.bool true, .int .i64 pos, .int .i32 (Utf8.decode s pos).1]) (w.iter s (pos + (Utf8.decode s pos).2)) := by
  simp only [Instr.next, getObj, setObj, Sem.run_bind, Sem.run, World.iter_heap, Result.andThen, h, if_true, World.iter_set]
  simp [goInt]
theorem decode_big (s : ByteArray) (pos : Nat) (h : pos < s.size) (ha : ¬ (s[pos]'h).toNat < 128) : 128 ≤ (Utf8.decode s pos).1 := by
  have e : s.get! (pos + 0) = s[pos]'h := by
    show s.get! pos = _
    simp [ByteArray.get!, getElem!_pos, h]
    rfl
  have hr : 128 ≤ Utf8.runeError := by decide
  unfold Utf8.decode
  simp only [e]
  rw [if_neg ha]
  split
  · split
    · assumption
    · exact hr
  · split
    · split
      · rename_i q
        simp only [Bool.and_eq_true, decide_eq_true_eq] at q
        exact Nat.le_trans (by decide) q.1
      · exact hr
    · split
      · split
        · rename_i q
          simp only [Bool.and_eq_true, decide_eq_true_eq] at q
          exact Nat.le_trans (by decide) q.1
        · exact hr
      · exact hr
theorem digD_big {c : Int} (h : 128 ≤ c) : digD c = 16 := by
  unfold digD
  rw [if_neg (by omega), if_neg (by omega), if_neg (by omega), if_neg (by omega), if_neg (by omega), if_neg (by omega)]
/-- Are they digits, all of them? -/
def allB (b : Int) (l : List UInt8) : Prop := ∀ x, x ∈ l → digD (x.toNat : Int) < b
def allD (b : Int) (l : List UInt8) : Bool := !l.isEmpty && l.all (fun x => decide (digD (x.toNat : Int) < b))
theorem allD_iff {b : Int} {l : List UInt8} : allD b l = true ↔ l ≠ [] ∧ allB b l := by
  unfold allD allB
  simp [List.all_eq_true]
theorem small_ascii {x : UInt8} {b : Int} (h : digD (x.toNat : Int) < b) (hb : b ≤ 16) : x.toNat < 128 := by
  rcases Nat.lt_or_ge x.toNat 128 with q | q
  · exact q
  · rw [digD_big (by omega)] at h
    omega
set_option maxRecDepth 100000 in
set_option maxHeartbeats 2000000 in
theorem allDigits_any (s : ByteArray) (b : Int) (hb : b ≤ 16) (w : World) : Calls Tryd.prog 39 #[.string s, .int .i64 b] w fun e w' => e = .returned (.bool (allD b s.data.toList)) ∧ Keeps w w' (fun _ => False) := by
  have HY : Hid (s.data.toList ≠ [] → allB b s.data.toList → allD b s.data.toList = true) := fun a c => allD_iff.2 ⟨a, c⟩
  have HN : Hid (¬ (s.data.toList ≠ [] ∧ allB b s.data.toList) → allD b s.data.toList = false) := fun a => by
    cases h : allD b s.data.toList with
    | true => exact absurd (allD_iff.1 h) a
    | false => rfl
  generalize allD b s.data.toList = A at *
  have hsz : s.data.toList.length = s.size := rfl
  go_enter Tryd.func39, Tryd.ntmps39
  go_wp2_with fail
  go_loopg [6] s.size (fun gm v6 wr => ∃ pos : Nat, gm = s.size - pos ∧ pos ≤ s.size ∧ wr = w.iter s pos ∧ Hid (allB b (s.data.toList.take pos)))
  case atStart => exact ⟨0, rfl, Nat.zero_le _, rfl, fun x hx => by simp at hx⟩
  case round =>
    obtain ⟨pos, rfl, hp, rfl, hal⟩ := hrel
    have HK : Hid (∀ p, Keeps w (w.iter s p) (fun _ => False)) := fun p => (Keeps.refl _ _).alloc _
    by_cases hlt : pos < s.size
    · by_cases h128 : (s[pos]'hlt).toNat < 128
      · have hN := fun ty => run_next_ascii (P := Tryd.prog) w s pos ty hlt h128
        obtain ⟨x, hx⟩ : ∃ x, s[pos] = x := ⟨_, rfl⟩
        have hxl : s.data.toList[pos]'(by omega) = x := hx
        rw [hx] at hN
        have hD := fun W => digit_any (x.toNat : Int) W
        have hms : s.size - (pos + 1) < s.size - pos := by omega
        by_cases hd : digD (x.toNat : Int) < b
        · have hd' : ¬ b ≤ digD (x.toNat : Int) := by omega
          have HX : Hid (allB b (s.data.toList.take (pos + 1))) := fun y hy => by
            rw [List.take_succ_eq_append_getElem (by omega), List.mem_append] at hy
            rcases hy with hy | hy
            · exact hal.out y hy
            · rw [List.mem_singleton.1 hy, hxl]; exact hd
          clear hal hd
          generalize digD (x.toNat : Int) = dd at *
          go_wp2_with fail
          refine (hD _).mono ?_
          rintro e w2 ⟨rfl, rfl⟩
          go_wp2_with fail
          go_roundg (s.size - (pos + 1))
          case measure => exact hms
          case rel => exact ⟨pos + 1, rfl, hlt, rfl, HX⟩
        · have hd' : b ≤ digD (x.toNat : Int) := by omega
          have HF := hide (HN.out (fun q => hd (q.2 x (hxl ▸ List.getElem_mem _))))
          clear hal hd
          generalize digD (x.toNat : Int) = dd at *
          go_wp2_with fail
          refine (hD _).mono ?_
          rintro e w2 ⟨rfl, rfl⟩
          go_wp2_with fail
          go_ret
          exact ⟨congrArg (fun z => Ending.returned (Value.bool z)) HF.out.symm, HK.out _⟩
      · have hN := fun ty => run_next_any (P := Tryd.prog) w s pos ty hlt
        have hbig := decode_big s pos hlt h128
        obtain ⟨r, hr⟩ : ∃ r, (Utf8.decode s pos).1 = r := ⟨_, rfl⟩
        obtain ⟨k, hk⟩ : ∃ k, (Utf8.decode s pos).2 = k := ⟨_, rfl⟩
        rw [hr] at hN hbig
        rw [hk] at hN
        have hD := fun W => digit_any (r : Int) W
        rw [digD_big (c := (r : Int)) (by omega)] at hD
        have hd' : b ≤ 16 := hb
        have HF := hide (HN.out (fun q => h128 (small_ascii (q.2 _ (List.getElem_mem (l := s.data.toList) (n := pos) (by omega))) hb)))
        clear hal hr hk h128 hbig
        go_wp2_with fail
        refine (hD _).mono ?_
        rintro e w2 ⟨rfl, rfl⟩
        go_wp2_with fail
        go_ret
        exact ⟨congrArg (fun z => Ending.returned (Value.bool z)) HF.out.symm, HK.out _⟩
    · obtain rfl : pos = s.size := by omega
      have hN := fun ty => run_next_end (P := Tryd.prog) w s s.size ty hlt
      rw [List.take_of_length_le (Nat.le_of_eq hsz)] at hal
      by_cases h0 : s.data.toList = []
      · have HF := hide (HN.out (fun q => q.1 h0))
        have hne : s.toList.isEmpty = true := by rw [ByteArray.toList_eq, h0]; rfl
        clear h0 hal
        go_wp2_with fail
        go_ret
        exact ⟨congrArg (fun z => Ending.returned (Value.bool z)) HF.out.symm, HK.out _⟩
      · have HF := hide (HY.out h0 hal.out)
        have hne : s.toList.isEmpty = false := by
          rw [ByteArray.toList_eq, List.isEmpty_eq_false_iff]
          exact h0
        clear h0 hal
        go_wp2_with fail
        go_ret
        exact ⟨congrArg (fun z => Ending.returned (Value.bool z)) HF.out.symm, HK.out _⟩
end Go.Proofs.YteimjilngabebaaDoor
