/-
  script: Split by a blank, as data.
-/
import Derived.Test.YtomlmbhbadicbaaDoorSC19
namespace Go.Proofs.YtomlmbhbadicbaaDoor
open Go.RowKit
set_option linter.unusedVariables false
def blk : ByteArray := ⟨#[32]⟩
def wordsOf (s : ByteArray) : List ByteArray := Lib.splitB blk 0 (Lib.countB s blk) s
theorem words_len (s : ByteArray) : (wordsOf s).length = Lib.countB s blk + 1 := Lib.splitB_all blk (by decide) 0 _ s rfl
theorem splitB_small : ∀ (k : Nat) (s x : ByteArray), x ∈ Lib.splitB blk 0 k s → x.size ≤ s.size
  | 0, s, x, h => by
    rw [Lib.splitB_zero] at h
    simp at h
    rw [h]
    exact Nat.le_refl _
  | k + 1, s, x, h => by
    rw [Lib.splitB] at h
    split at h
    · simp at h
      rw [h]
      exact Nat.le_refl _
    · rcases List.mem_cons.1 h with h | h
      · rw [h, ByteArray.size_extract]
        omega
      · have := splitB_small k _ x h
        rw [ByteArray.size_extract] at this
        omega
theorem word_small (s x : ByteArray) (h : x ∈ wordsOf s) : x.size ≤ s.size := splitB_small _ s x h
def line0 : ByteArray := ⟨#[110, 101, 120, 116, 32, 112, 97, 105, 114, 32, 54, 49, 32, 45]⟩
theorem words_line0 : wordsOf line0 = [⟨#[110, 101, 120, 116]⟩, ⟨#[112, 97, 105, 114]⟩, ⟨#[54, 49]⟩, ⟨#[45]⟩] := by decide +kernel

theorem words_most (s : ByteArray) (hs : s.size ≤ 8388608) : Lib.countB s blk ≤ 8388608 := Nat.le_trans (Lib.countB_le blk (by decide) _ s (Nat.le_refl _)) hs
theorem words_cons (s : ByteArray) : ∃ x xs, wordsOf s = x :: xs ∧ xs.length = Lib.countB s blk := by
  have h := words_len s
  cases hw : wordsOf s with
  | nil => rw [hw] at h; simp at h
  | cons x xs => exact ⟨x, xs, rfl, by rw [hw] at h; simpa using h⟩
end Go.Proofs.YtomlmbhbadicbaaDoor
