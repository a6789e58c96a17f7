/-
  script: Read.
-/
import Derived.Test.YtomlmbhbadicbaaDoorSC20
namespace Go.Proofs.YtomlmbhbadicbaaDoor
open Go.RowKit
set_option linter.unusedVariables false

theorem alloc1 {w : World} {o1 : Obj} {P : World → Prop} (h : ∀ W0, W0.heap[w.heap.size]? = some o1 → W0.heap.size = w.heap.size + 1 → Keeps w W0 (fun _ => False) → P W0) : P (w.alloc o1) :=
  h _ (heap_alloc_new w o1) (by simp) ((Keeps.refl _ _).alloc _)
theorem heap_new_drew (w : World) (o : Obj) : ((w.alloc o).drew).heap[w.heap.size]? = some o := heap_alloc_new w o
/-- Split of a line, by a blank. -/
theorem split_any (line : ByteArray) (hs : line.size ≤ 1048576) (W : World) (he : ErrW W) : Calls Tryd.prog 15 #[.string line, .string ⟨#[32]⟩] W fun e w' => ∃ x xs, wordsOf line = x :: xs ∧ e = .returned (.slice (some ⟨W.heap.size, 0, none⟩) (xs.length + 1) (xs.length + 1)) ∧ w'.heap[W.heap.size]? = some (.cells ((x :: xs).map Value.string).toArray 9) ∧ Keeps W w' (fun _ => False) ∧ w'.heap.size = W.heap.size + 1 := by
  obtain ⟨x, xs, hw, hl⟩ := words_cons line
  obtain ⟨m, hm⟩ := he.max
  refine (Tryd.strings_Split line ⟨#[32]⟩ m W (by omega) hm (by decide)).mono ?_
  rintro e w' ⟨rfl, rfl⟩
  refine ⟨x, xs, hw, ?_, ?_, (Keeps.refl _ _).alloc _, by simp⟩
  · rw [hl]
    rfl
  · rw [← hw]
    exact heap_alloc_new W _
/-- What Read answers. -/
def ReadD (line : ByteArray) (v : Value) (er : Int) : Prop :=
  (∃ op err n off yes key elem, v = .agg #[.int .i64 op, .int .i64 err, .int .i64 n, .int .i64 off, .bool yes, .string key, .string elem] ∧ Fit err ∧ Fit n ∧ Fit off ∧ key.size ≤ 1048576 ∧ elem.size ≤ 1048576 ∧ showD op err n off yes key elem = line ∧ er = 0 ∧ (line = line0 → op = 9 ∧ yes = true ∧ key = ⟨#[97]⟩ ∧ elem = ⟨#[]⟩)) ∨
  (line ≠ line0 ∧ v = .agg #[.int .i64 0, .int .i64 0, .int .i64 0, .int .i64 0, .bool false, .string ⟨#[]⟩, .string ⟨#[]⟩] ∧ er = 160)
def nextB : ByteArray := ⟨#[110, 101, 120, 116]⟩
theorem next_row : ∀ i, i < 16 → nmN i = nextB → kN i = 3 ∧ oN i = 9 := by
  intro i hi
  have : ∀ k : Fin 16, nmN k.1 = nextB → kN k.1 = 3 ∧ oN k.1 = 9 := by decide
  exact this ⟨i, hi⟩
theorem next_there : nmN 10 = nextB := by decide
theorem show_line0 : showD 9 0 0 0 true ⟨#[97]⟩ ⟨#[]⟩ = line0 := by decide +kernel
theorem three_words (xs : List ByteArray) : ∃ x0 x1 x2 r, xs ++ emp3 = x0 :: x1 :: x2 :: r ∧ ∀ x, x = x0 ∨ x = x1 ∨ x = x2 → x ∈ xs ∨ x = ⟨#[]⟩ := by
  rcases xs with _ | ⟨a, _ | ⟨b, _ | ⟨c, r⟩⟩⟩
  · exact ⟨_, _, _, _, rfl, by simp⟩
  · exact ⟨_, _, _, _, rfl, by simp⟩
  · exact ⟨_, _, _, _, rfl, by simp⟩
  · exact ⟨_, _, _, _, rfl, by simp⟩
end Go.Proofs.YtomlmbhbadicbaaDoor
