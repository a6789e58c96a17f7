import Derived.Test.YteokfhccfmeffaaL10
namespace Go.Proofs.Yteokfhccfmeffaa
open Go.RowKit

/-- All blocks but q are as they were. -/
structure Kq (q : Nat) (w w' : World) : Prop where
  os : w'.os = w.os
  tape : w'.tape = w.tape
  output : w'.output = w.output
  size : w.heap.size ≤ w'.heap.size
  block : ∀ k, k < w.heap.size → k ≠ q → w'.heap[k]? = w.heap[k]?
theorem Kq.refl (q : Nat) (w : World) : Kq q w w := ⟨rfl, rfl, rfl, Nat.le_refl _, fun _ _ _ => rfl⟩
theorem Kq.trans {q : Nat} {w w1 w2 : World} (h : Kq q w w1) (k : Kq q w1 w2) : Kq q w w2 :=
  ⟨k.os.trans h.os, k.tape.trans h.tape, k.output.trans h.output, Nat.le_trans h.size k.size, fun i hi hn => (k.block i (Nat.lt_of_lt_of_le hi h.size) hn).trans (h.block i hi hn)⟩
theorem Kq.set {q : Nat} {w w1 : World} (h : Kq q w w1) (i : Nat) (v : Value) : Kq q w (w1.setCell ⟨q, i, none⟩ v) :=
  h.trans ⟨rfl, rfl, rfl, by simp [World.setCell], fun k _ hn => Below.heap_setCell _ ⟨q, i, none⟩ _ k hn⟩
theorem Kq.of {q : Nat} {w w1 : World} (h : Kp w w1) : Kq q w w1 := ⟨h.os, h.tape, h.output, h.size, fun k hk _ => h.block k hk⟩
theorem Kq.kp {q : Nat} {w0 w w1 : World} (h : Kq q w w1) (k : Kp w0 w) (hq : w0.heap.size ≤ q) : Kp w0 w1 :=
  ⟨h.os.trans k.os, h.tape.trans k.tape, h.output.trans k.output, Nat.le_trans k.size h.size, fun i hi => (h.block i (Nat.lt_of_lt_of_le hi k.size) (by omega)).trans (k.block i hi)⟩
theorem Kq.blk {q b : Nat} {w w1 : World} {x : Obj} (h : Kq q w w1) (hb : w.heap[b]? = some x) (hn : b ≠ q) : w1.heap[b]? = some x :=
  (h.block b (Array.getElem?_eq_some_iff.1 hb).1 hn).trans hb

/-- A row of N bools at q; those from p on are false. -/
def Owned (w : World) (q N p : Nat) : Prop := ∃ cs : Array Value, w.heap[q]? = some (.cells cs 4) ∧ cs.size = N ∧ (∀ j, j < N → ∃ v : Bool, cs[j]? = some (.bool v)) ∧ ∀ j, p ≤ j → j < N → cs[j]? = some (.bool false)
theorem Owned.cell {w : World} {q N p : Nat} (h : Owned w q N p) {j : Nat} (h1 : p ≤ j) (h2 : j < N) : w.cell? ⟨q, j, none⟩ = some (.bool false) := by
  obtain ⟨cs, hb, _, _, hf⟩ := h
  exact cell_blk hb (hf j h1 h2)
theorem Owned.frozen {w : World} {q N p : Nat} (h : Owned w q N p) (j : Nat) : w.frozen? ⟨q, j, none⟩ = false := by
  obtain ⟨cs, hb, _⟩ := h
  simp [World.frozen?, hb]
theorem Owned.more {w : World} {q N p p' : Nat} (h : Owned w q N p) (hp : p ≤ p') : Owned w q N p' := by
  obtain ⟨cs, hb, hs, hv, hf⟩ := h
  exact ⟨cs, hb, hs, hv, fun j h1 h2 => hf j (by omega) h2⟩
theorem Owned.set {w : World} {q N p : Nat} (h : Owned w q N p) (hp : p < N) : Owned (w.setCell ⟨q, p, none⟩ (.bool true)) q N (p + 1) := by
  obtain ⟨cs, hb, hs, hv, hf⟩ := h
  refine ⟨_, set_one hb p (.bool true) (by omega), by simp [hs], fun j hj => ?_, fun j h1 h2 => ?_⟩
  · rw [Array.getElem?_set]
    split
    · exact ⟨true, rfl⟩
    · exact hv j hj
  · rw [Array.getElem?_set, if_neg (by omega)]
    exact hf j (by omega) h2
theorem Owned.kp {w w1 : World} {q N p : Nat} (h : Owned w q N p) (k : Kp w w1) : Owned w1 q N p := by
  obtain ⟨cs, hb, h⟩ := h
  exact ⟨cs, k.blk hb, h⟩

set_option maxHeartbeats 2000000 in
theorem mark_any (q N p off n : Nat) (w : World) (h : Owned w q N p) (h1 : p ≤ off) (h2 : off + n ≤ N) (hN : N ≤ 4096) :
    Calls Try.prog 21 #[.slice (some ⟨q, 0, none⟩) N N, .int .i64 (off : Int), .int .i64 (n : Int)] w fun r w' => r = .returned (.bool true) ∧ Owned w' q N (off + n) ∧ Kq q w w' := by
  have g1 : ¬ (off : Int) < 0 := by omega
  have g2 : ¬ (N : Int) - (n : Int) < (off : Int) := by omega
  replace h := h.more h1
  go_enter Try.func21, Try.ntmps21
  go_wp2_with fail
  go_loopw [7] (fun v wr => ∃ i : Nat, v = .int .i64 (i : Int) ∧ off ≤ i ∧ i ≤ off + n ∧ Owned wr q N i ∧ Kq q w wr) (fun v _ => off + n - (intOf v).toNat)
  case atStart => exact ⟨off, rfl, by omega, by omega, h, Kq.refl _ _⟩
  case round =>
    obtain ⟨i, rfl, i1, i2, ho, kr⟩ := hrel
    by_cases hlt : i < off + n
    · have hlt' : (i : Int) < (off : Int) + (n : Int) := by omega
      have hiN : i < N := by omega
      have hc := ho.cell (Nat.le_refl i) hiN
      have hz := ho.frozen i
      go_wp2_with fail
      go_roundw
      case rel => exact ⟨i + 1, rfl, by omega, by omega, ho.set hiN, kr.set _ _⟩
      case measure => simp [intOf]; omega
    · have hlt' : ¬ (i : Int) < (off : Int) + (n : Int) := by omega
      have hie : i = off + n := by omega
      subst hie
      go_wp2_with fail
      go_ret
      exact ⟨rfl, ho, kr⟩
end Go.Proofs.Yteokfhccfmeffaa
