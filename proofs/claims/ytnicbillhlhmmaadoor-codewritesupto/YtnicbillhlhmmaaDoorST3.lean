/-
  script: linesOf.
-/
import Derived.Test.YtnicbillhlhmmaaDoorST2
import Derived.RangeFuncRecord
import Derived.Laws.RangeString
import Derived.Deep.LoopGhost
namespace Go.Proofs.YtnicbillhlhmmaaDoor
open Go.RowKit
set_option linter.unusedVariables false
theorem nextT_any {P : Program} {W : World} {B : Nat} {s : ByteArray} {pos : Nat} (ty : TypeId) (hB : W.heap[B]? = some (.stringIter s pos)) (h : pos < s.size) :
    (Instr.next (.pointer (some ⟨B, 0, none⟩)) true ty).run P W = .ok (.tuple #[.bool true, .int .i64 pos, .int .i32 (Utf8.decode s pos).1]) (W.putObj B (.stringIter s (pos + (Utf8.decode s pos).2))) := by
  simp only [Instr.next, getObj, setObj, Sem.run_bind, Sem.run, hB, Result.andThen, h, if_true]
  simp [goInt, World.putObj]
theorem nextT_end {P : Program} {W : World} {B : Nat} {s : ByteArray} {pos : Nat} (ty : TypeId) (hB : W.heap[B]? = some (.stringIter s pos)) (h : ¬ pos < s.size) :
    (Instr.next (.pointer (some ⟨B, 0, none⟩)) true ty).run P W = .ok (.tuple #[.bool false]) W := by
  simp [Instr.next, getObj, Sem.run, hB, h]
theorem TextsO.put {lo : Nat} {W : World} {r : Value} {ls : List (List UInt8)} (h : TextsO lo W r ls) {B : Nat} {s : ByteArray} {pos : Nat} (hB : W.heap[B]? = some (.stringIter s pos)) (o : Obj) : TextsO lo (W.putObj B o) r ls := by
  refine ⟨h.1, ?_⟩
  rcases h.2 with h2 | ⟨g, cap, cur, e1, e2, e3, r⟩
  · exact Or.inl h2
  · refine Or.inr ⟨g, cap, cur, e1, e2, ?_, r⟩
    rw [World.putObj_heap_other (fun e => ?_)]
    · exact e3
    · rw [e, hB] at e3
      cases e3
theorem Keeps.putT {w W : World} (k : Keeps w W (fun _ => False)) {B : Nat} (hB : w.heap.size ≤ B) (o : Obj) : Keeps w (W.putObj B o) (fun _ => False) := ⟨k.os, k.tape, k.output, Nat.le_trans k.size (by simp [World.putObj]), fun q hq hn => (World.putObj_heap_other (by omega)).trans (k.block q hq hn)⟩
/-- What stands in each round of a range over a text. -/
structure ItS (w : World) (B : Nat) (s : ByteArray) (pos : Nat) (v : Value) (ls : List (List UInt8)) (W : World) : Prop where
  it : W.heap[B]? = some (.stringIter s pos)
  row : TextsO w.heap.size W v ls
  keeps : Keeps w W (fun _ => False)
theorem ItS.next {w W : World} {B : Nat} {s : ByteArray} {pos : Nat} {v : Value} {ls : List (List UInt8)} (h : ItS w B s pos v ls W) (hB : w.heap.size ≤ B) (p2 : Nat) : ItS w B s p2 v ls (W.putObj B (.stringIter s p2)) :=
  ⟨World.putObj_heap_same (heap_lt h.it), h.row.put h.it _, h.keeps.putT hB _⟩
theorem ItS.more {w W : World} {B : Nat} {s : ByteArray} {pos : Nat} {v : Value} {ls : List (List UInt8)} (h : ItS w B s pos v ls W) (x : List UInt8) (hn : ls.length ≤ 8388608) :
    ∃ g c w', (∀ ty, (Builtin.append_ #[46, 46] ty #[v, .slice (some ⟨W.heap.size, 0, none⟩) 1 1]).run Tryd.prog (W.alloc (.cells #[strV x] 9)) = .ok (.slice (some ⟨g, 0, none⟩) (ls.length + 1) c) w') ∧ ItS w B s pos (.slice (some ⟨g, 0, none⟩) (ls.length + 1) c) (ls ++ [x]) w' := by
  obtain ⟨g, c, w', h1, h2, h3⟩ := h.row.more x hn h.keeps.size
  have hnb : ¬ v.ownBlock = some B := fun e => by
    obtain ⟨-, cur, hc⟩ := ownsRow_block h.row e
    rw [h.it] at hc
    cases hc
  exact ⟨g, c, w', h1, (h3.block _ (heap_lt h.it) hnb).trans h.it, h2, h.keeps.trans h3 (fun q hq e => by
    have := (ownsRow_block h.row e).1
    omega)⟩
theorem decode_ten (s : ByteArray) (pos : Nat) (h : pos < s.size) (c : Nat) (hc : c < 128) : ((Utf8.decode s pos).1 = c ↔ (s[pos]'h).toNat = c) ∧ ((s[pos]'h).toNat < 128 → (Utf8.decode s pos).2 = 1) := by
  by_cases h128 : (s[pos]'h).toNat < 128
  · rw [decode_ascii s pos h h128]
    exact ⟨Iff.rfl, fun _ => rfl⟩
  · refine ⟨⟨fun e => ?_, fun e => by omega⟩, fun e => absurd e h128⟩
    exfalso
    have hb : 128 ≤ (Utf8.decode s pos).1 := by
      have e0 : s.get! (pos + 0) = s[pos]'h := get_at s pos h
      have hr : 128 ≤ Utf8.runeError := by decide
      unfold Utf8.decode
      simp only [e0]
      rw [if_neg h128]
      split
      · split
        · assumption
        · exact hr
      · split
        · split
          · rename_i q
            simp only [Bool.and_eq_true, decide_eq_true_eq] at q
            exact Nat.le_trans (by decide) q.1
          · exact hr
        · split
          · split
            · rename_i q
              simp only [Bool.and_eq_true, decide_eq_true_eq] at q
              exact Nat.le_trans (by decide) q.1
            · exact hr
          · exact hr
    omega
end Go.Proofs.YtnicbillhlhmmaaDoor
