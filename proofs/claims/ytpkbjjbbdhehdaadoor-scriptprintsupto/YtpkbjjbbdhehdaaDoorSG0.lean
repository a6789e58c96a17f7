/-
  script: the library's Builder, written and read, out of what is laid for Join.
-/
import Derived.Test.YtpkbjjbbdhehdaaDoorSF8
import Derived.Test.YtpkbjjbbdhehdaaDoorShelf
import Derived.Shelf.Strings.Builder1
namespace Go.Proofs
open Go.Shelf
theorem Tryd.laysW : Go.Proofs.Lays.n166 Tryd.prog Tryd.lays156_ren := { Tryd.lays156 with }
theorem Tryd.laysS : Go.Proofs.Lays.n169 Tryd.prog Tryd.lays156_ren := { Tryd.lays156 with }
end Go.Proofs
namespace Go.Proofs.YtpkbjjbbdhehdaaDoor
open Go.RowKit
theorem bld_write (B b : Nat) (l : List UInt8) (s : ByteArray) (w : World) (h : Lib.IsBuilder 41 5 B b (Lib.byteCells l) w) (hlen : l.length + s.size ≤ 140737488355328) (hBw : B ≤ w.heap.size) :
    Calls Tryd.prog 8 #[.pointer (some ⟨b, 0, none⟩), .string s] w fun e w' => e = .returned (.tuple #[.int .i64 s.size, .nilIface]) ∧ Lib.IsBuilder 41 5 B b (Lib.byteCells (l ++ s.data.toList)) w' ∧ Below B w w' := by
  have := Any.Builder_WriteString Tryd.laysW Tryd.Builder_Extra_156 B b (Lib.byteCells l) s w h (by simpa [Lib.byteCells] using hlen) hBw
  refine Calls.mono this ?_
  rintro e w' ⟨h1, h2, h3⟩
  refine ⟨h1, Or.inr ?_, h3⟩
  have e2 : Lib.byteCells l ++ Lib.strCells s = Lib.byteCells (l ++ s.data.toList) := by simp [Lib.byteCells, Lib.strCells]
  rw [← e2]
  exact h2
/-- What keeps all blocks keeps a builder. -/
theorem bld_keeps {T e : TypeId} {B b : Nat} {bs : List Value} {w w' : World} (h : Lib.IsBuilder T e B b bs w) (k : Keeps w w' (fun _ => False)) : Lib.IsBuilder T e B b bs w' := by
  rcases h with ⟨hB, v, hb, hown, hne⟩ | ⟨hB, v, hb, hown, hne⟩
  · exact Or.inl ⟨hB, v, (k.block b (heap_lt hb) id).trans hb, ownsRow_keeps hown k (fun _ _ e => e), hne⟩
  · exact Or.inr ⟨hB, v, (k.block b (heap_lt hb) id).trans hb, ownsRow_keeps hown k (fun _ _ e => e), hne⟩
theorem keeps_under {w w1 w2 : World} {B : Nat} (k : Keeps w w1 (fun _ => False)) (b : Below B w1 w2) (hB : w.heap.size ≤ B) : Keeps w w2 (fun _ => False) :=
  ⟨b.os.trans k.os, b.tape.trans k.tape, b.output.trans k.output, Nat.le_trans k.size b.size, fun i hi hn => (b.block i (by omega)).trans (k.block i hi hn)⟩
theorem bld_string (B b : Nat) (l : List UInt8) (w : World) (h : Lib.IsBuilder 41 5 B b (Lib.byteCells l) w) (hBw : B ≤ w.heap.size) :
    Calls Tryd.prog 10 #[.pointer (some ⟨b, 0, none⟩)] w fun e w' => e = .returned (.string ⟨l.toArray⟩) ∧ Below B w w' := Any.Builder_String_any Tryd.laysS Tryd.Builder_Extra_156 B b l w h hBw
end Go.Proofs.YtpkbjjbbdhehdaaDoor
