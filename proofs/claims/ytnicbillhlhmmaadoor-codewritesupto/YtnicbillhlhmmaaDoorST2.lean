/-
  script: the reference's Lines.
-/
import Derived.Test.YtnicbillhlhmmaaDoorST1
import Derived.Laws.AppendOwnNone
namespace Go.Proofs.YtnicbillhlhmmaaDoor
open Go.RowKit
set_option linter.unusedVariables false
theorem Tryd.infoT : (Tryd.prog.info? 9).map (fun i => (i.zero, i.size, i.bytes)) = some (some (.string ⟨#[]⟩), 1, 16) := by kernel_rfl
def strV (x : List UInt8) : Value := .string (strOf x)
/-- A list of texts of one's own. -/
def TextsO (lo : Nat) (w : World) (r : Value) (ls : List (List UInt8)) : Prop := w.ownsRow lo 9 1 r ls.length (ls.map strV)
theorem extract_eq (s : ByteArray) (a b : Nat) : s.extract a b = strOf ((s.data.toList.take b).drop a) := by
  apply ByteArray.ext
  apply Array.toList_inj.1
  rw [ByteArray.data_extract, strOf_data]
  simp [List.drop_take]
/-- One text more. -/
theorem TextsO.more {lo : Nat} {w : World} {r : Value} {ls : List (List UInt8)} (h : TextsO lo w r ls) (x : List UInt8) (hn : ls.length ≤ 8388608) (hlo : lo ≤ w.heap.size) :
    ∃ g c w', (∀ ty, (Builtin.append_ #[46, 46] ty #[r, .slice (some ⟨w.heap.size, 0, none⟩) 1 1]).run Tryd.prog (w.alloc (.cells #[strV x] 9)) = .ok (.slice (some ⟨g, 0, none⟩) (ls.length + 1) c) w') ∧ TextsO lo w' (.slice (some ⟨g, 0, none⟩) (ls.length + 1) c) (ls ++ [x]) ∧ Keeps w w' (fun k => r.ownBlock = some k) := by
  obtain ⟨g, c, w', h1, h2, h3, -⟩ := append_one (P := Tryd.prog) 46 9 (.string ⟨#[]⟩) 16 Tryd.underlying46 Tryd.infoT rfl (World.ownsRow.alloc h (.cells #[strV x] 9)) (heap_alloc_new w (.cells #[strV x] 9)) rfl (by omega) (by simp only [maxLen]; omega) (by rw [World.size_alloc]; omega)
  refine ⟨g, c, w', h1, ?_, (((Keeps.refl w (fun k => r.ownBlock = some k)).alloc _)).trans h3 (fun _ _ e => e)⟩
  unfold TextsO
  rw [List.length_append, List.map_append]
  exact h2
theorem TextsO.keeps {lo : Nat} {w w' : World} {r : Value} {ls : List (List UInt8)} (h : TextsO lo w r ls) (k : Keeps w w' (fun _ => False)) : TextsO lo w' r ls := ownsRow_keeps h k (fun _ _ e => e)
/-- What a splitting answers. -/
def TextsP (ls : List (List UInt8)) (w : World) (e : Ending) (w' : World) : Prop := ∃ r, e = .returned r ∧ TextsO w.heap.size w' r ls ∧ Keeps w w' (fun _ => False)
end Go.Proofs.YtnicbillhlhmmaaDoor
