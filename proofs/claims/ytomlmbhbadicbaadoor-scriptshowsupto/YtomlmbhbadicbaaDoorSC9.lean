/-
  script: Show.
-/
import Derived.Test.YtomlmbhbadicbaaDoorSC8
import Derived.Test.YtomlmbhbadicbaaDoorShelf
import Derived.Laws.AppendOwnNone
namespace Go.Proofs.YtomlmbhbadicbaaDoor
open Go.RowKit
set_option linter.unusedVariables false

def ansC (op err n off : Int) (yes : Bool) (key elem : ByteArray) : Array Value := #[.int .i64 op, .int .i64 err, .int .i64 n, .int .i64 off, .bool yes, .string key, .string elem]
theorem ans_cells {W : World} {b : Nat} {op err n off : Int} {yes : Bool} {key elem : ByteArray} {t : TypeId} (h : W.heap[b]? = some (.cells #[.int .i64 op, .int .i64 err, .int .i64 n, .int .i64 off, .bool yes, .string key, .string elem] t)) : W.cell? ⟨b, 0, none⟩ = some (.int .i64 op) ∧ W.cell? ⟨b, 1, none⟩ = some (.int .i64 err) ∧ W.cell? ⟨b, 2, none⟩ = some (.int .i64 n) ∧ W.cell? ⟨b, 3, none⟩ = some (.int .i64 off) ∧ W.cell? ⟨b, 4, none⟩ = some (.bool yes) ∧ W.cell? ⟨b, 5, none⟩ = some (.string key) ∧ W.cell? ⟨b, 6, none⟩ = some (.string elem) := by
  simp only [World.cell?, h]
  exact ⟨rfl, rfl, rfl, rfl, rfl, rfl, rfl⟩
theorem Tryd.infoS : (Tryd.prog.info? 9).map (fun i => (i.zero, i.size, i.bytes)) = some (some (.string ⟨#[]⟩), 1, 16) := by kernel_rfl
/-- The words behind the name. -/
def restD (op err n off : Int) (yes : Bool) (key elem : ByteArray) : List ByteArray := if err = 0 then wordsD op n off yes key elem else [⟨#[101, 114, 114, 111, 114]⟩, numD err]
def showD (op err n off : Int) (yes : Bool) (key elem : ByteArray) : ByteArray := if isOp op = true then joinD (nameD op) (restD op err n off yes key elem) else ⟨#[]⟩
/-- A row of words joined. -/
theorem join_row {W : World} {base : Nat} {g cap : Nat} {x : ByteArray} {r : List ByteArray} (h : W.ownsRow base 9 1 (.slice (some ⟨g, 0, none⟩) (r.length + 1) cap) (r.length + 1) ((x :: r).map Value.string)) (hx : x.size ≤ 16777216) (hr : Sml r) : Calls Tryd.prog 11 #[.slice (some ⟨g, 0, none⟩) (r.length + 1) cap, .string ⟨#[32]⟩] W fun e w' => e = .returned (.string (joinD x r)) ∧ Keeps W w' (fun _ => False) := by
  have hcap : r.length + 1 ≤ cap ∧ g < W.heap.size := by
    rcases h.2 with ⟨e, -⟩ | ⟨g', cap', cur, e, -, hg, hle, -⟩
    · cases e
    · injection e with e1 _ e3
      injection Option.some.inj e1 with e4 _ _
      subst e3 e4
      exact ⟨hle, heap_lt hg⟩
  have hl := hr.1
  have := Tryd.strings_Join g 0 cap (x :: r) ⟨#[32]⟩ W (fun j y hj => by
    have hj2 : j < r.length + 1 := by
      have := (List.getElem?_eq_some_iff.1 hj).1
      simpa using this
    rw [Nat.zero_add]
    have hc := h.cellAt j (by omega)
    rw [hc, List.getElem?_map, hj]
    rfl) hcap.2 (by simp; omega) (by simpa using hcap.1) (join_small x r hx hl hr.2)
  refine this.mono ?_
  rintro e w' ⟨rfl, hb⟩
  exact ⟨rfl, keeps_of_below hb⟩
end Go.Proofs.YtomlmbhbadicbaaDoor
