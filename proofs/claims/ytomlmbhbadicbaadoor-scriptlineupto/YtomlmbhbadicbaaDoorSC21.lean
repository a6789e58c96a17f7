/-
  script: Read.
-/
import Derived.Test.YtomlmbhbadicbaaDoorSD2
namespace Go.Proofs.YtomlmbhbadicbaaDoor
open Go.RowKit
set_option linter.unusedVariables false

theorem alloc1 {w : World} {o1 : Obj} {P : World → Prop} (h : ∀ W0, W0.heap[w.heap.size]? = some o1 → W0.heap.size = w.heap.size + 1 → Keeps w W0 (fun _ => False) → P W0) : P (w.alloc o1) :=
  h _ (heap_alloc_new w o1) (by simp) ((Keeps.refl _ _).alloc _)
theorem heap_new_drew (w : World) (o : Obj) : ((w.alloc o).drew).heap[w.heap.size]? = some o := heap_alloc_new w o
/-- Split of a line, by a blank. -/
theorem split_any (line : ByteArray) (hs : line.size ≤ 8388608) (W : World) (he : ErrW W) : Calls Tryd.prog 15 #[.string line, .string ⟨#[32]⟩] W fun e w' => ∃ x xs, wordsOf line = x :: xs ∧ e = .returned (.slice (some ⟨W.heap.size, 0, none⟩) (xs.length + 1) (xs.length + 1)) ∧ w'.heap[W.heap.size]? = some (.cells ((x :: xs).map Value.string).toArray 9) ∧ Keeps W w' (fun _ => False) ∧ w'.heap.size = W.heap.size + 1 := by
  obtain ⟨x, xs, hw, hl⟩ := words_cons line
  obtain ⟨m, hm⟩ := he.max
  refine (Tryd.strings_Split line ⟨#[32]⟩ m W (by omega) hm (by decide)).mono ?_
  rintro e w' ⟨rfl, rfl⟩
  refine ⟨x, xs, hw, ?_, ?_, (Keeps.refl _ _).alloc _, by simp⟩
  · rw [hl]
    rfl
  · rw [← hw]
    exact heap_alloc_new W _
/-- What Read answers. -/
def ReadD (line : ByteArray) (v : Value) (er : Int) : Prop :=
  ((∃ op err n off yes key elem, v = .agg #[.int .i64 op, .int .i64 err, .int .i64 n, .int .i64 off, .bool yes, .string key, .string elem] ∧ Fit err ∧ Fit n ∧ Fit off ∧ key.size ≤ 8388608 ∧ elem.size ≤ 8388608 ∧ showD op err n off yes key elem = line ∧ er = 0 ∧ 1 ≤ op ∧ op ≤ 14) ∨
  (v = .agg #[.int .i64 0, .int .i64 0, .int .i64 0, .int .i64 0, .bool false, .string ⟨#[]⟩, .string ⟨#[]⟩] ∧ er = 160)) ∧
  ∀ op err n off yes key elem, Told line op err n off yes key elem → v = .agg #[.int .i64 op, .int .i64 err, .int .i64 (tN op err n), .int .i64 (tOff op err n off), .bool (tYes op err yes), .string (tKey op err yes key), .string (tElem op err yes elem)] ∧ er = 0
theorem show_line0 : showD 9 0 0 0 true ⟨#[97]⟩ ⟨#[]⟩ = line0 := by decide +kernel
theorem told_row {line x : ByteArray} {xs : List ByteArray} (hw : wordsOf line = x :: xs) {op err n off : Int} {yes : Bool} {key elem : ByteArray} (h : Told line op err n off yes key elem) : x = nameD op ∧ xs = restD op err n off yes key elem := by
  obtain ⟨ho, -, -, -, e⟩ := h
  rw [e, words_show ho] at hw
  injection hw with a b
  exact ⟨a.symm, b.symm⟩
theorem row_op {i : Nat} (hi : i < 16) (hk : kN i = 3) {oo : Int} (hoo : oN i = oo) : 1 ≤ oo ∧ oo ≤ 14 := by
  unfold kN at hk
  unfold oN at hoo
  split at hk
  · omega
  · split at hk
    · omega
    · rw [if_neg (by omega)] at hoo
      omega
theorem three_words (xs : List ByteArray) : ∃ x0 x1 x2 r, xs ++ emp3 = x0 :: x1 :: x2 :: r ∧ ∀ x, x = x0 ∨ x = x1 ∨ x = x2 → x ∈ xs ∨ x = ⟨#[]⟩ := by
  rcases xs with _ | ⟨a, _ | ⟨b, _ | ⟨c, r⟩⟩⟩
  · exact ⟨_, _, _, _, rfl, by simp⟩
  · exact ⟨_, _, _, _, rfl, by simp⟩
  · exact ⟨_, _, _, _, rfl, by simp⟩
  · exact ⟨_, _, _, _, rfl, by simp⟩
end Go.Proofs.YtomlmbhbadicbaaDoor
