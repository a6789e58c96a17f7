/-
  code: Builder's WriteString, WriteByte and String.
-/
import Derived.Test.YtnicbillhlhmmaaDoorCW1
import Derived.Test.YtnicbillhlhmmaaDoorShelfC1
import Derived.Shelf.Strings.BuilderK
namespace Go.Proofs
open Go.Shelf
def Tryd.laysB_ren : Go.Shelf.Ren := ⟨fun | 166 => 31 | 167 => 32 | 240 => 51 | 276 => 65 | n => n, fun | 0 => 0 | 3 => 3 | 4 => 4 | 5 => 5 | 9 => 9 | 20 => 20 | 37 => 38 | 70 => 37 | 72 => 40 | 75 => 71 | 80 => 43 | 164 => 137 | n => n, fun | n => n⟩
theorem Tryd.laysB166 : Go.Proofs.Lays.n166 Tryd.prog Tryd.laysB_ren := {
  mixed := by kernel_rfl
  f166 := Tryd.func31.trans (congrArg some (by kernel_rfl))
  f240 := Tryd.func51.trans (congrArg some (by kernel_rfl))
  f276 := Tryd.func65.trans (congrArg some (by kernel_rfl))
  t0 := Tryd.underlying0
  a0 := Tryd.isAgg0
  z0 := Tryd.sizeOf0
  v0 := Tryd.zeroValue0
  t3 := Tryd.underlying3
  a3 := Tryd.isAgg3
  z3 := Tryd.sizeOf3
  v3 := Tryd.zeroValue3
  t4 := Tryd.underlying4
  a4 := Tryd.isAgg4
  z4 := Tryd.sizeOf4
  v4 := Tryd.zeroValue4
  t9 := Tryd.underlying9
  a9 := Tryd.isAgg9
  z9 := Tryd.sizeOf9
  v9 := Tryd.zeroValue9
  t20 := Tryd.underlying20
  a20 := Tryd.isAgg20
  z20 := Tryd.sizeOf20
  v20 := Tryd.zeroValue20
  t37 := Tryd.underlying38
  a37 := Tryd.isAgg38
  z37 := Tryd.sizeOf38
  v37 := Tryd.zeroValue38
  t70 := Tryd.underlying37
  a70 := Tryd.isAgg37
  z70 := Tryd.sizeOf37
  v70 := Tryd.zeroValue37
  t72 := Tryd.underlying40
  a72 := Tryd.isAgg40
  z72 := Tryd.sizeOf40
  v72 := Tryd.zeroValue40
  t75 := Tryd.underlying71
  a75 := Tryd.isAgg71
  z75 := Tryd.sizeOf71
  v75 := Tryd.zeroValue71
  t164 := Tryd.underlying137
  a164 := Tryd.isAgg137
  z164 := Tryd.sizeOf137
  v164 := Tryd.zeroValue137 }
theorem Tryd.laysB167 : Go.Proofs.Lays.n167 Tryd.prog Tryd.laysB_ren := {
  mixed := by kernel_rfl
  f167 := Tryd.func32.trans (congrArg some (by kernel_rfl))
  f240 := Tryd.func51.trans (congrArg some (by kernel_rfl))
  f276 := Tryd.func65.trans (congrArg some (by kernel_rfl))
  t0 := Tryd.underlying0
  a0 := Tryd.isAgg0
  z0 := Tryd.sizeOf0
  v0 := Tryd.zeroValue0
  t4 := Tryd.underlying4
  a4 := Tryd.isAgg4
  z4 := Tryd.sizeOf4
  v4 := Tryd.zeroValue4
  t5 := Tryd.underlying5
  a5 := Tryd.isAgg5
  z5 := Tryd.sizeOf5
  v5 := Tryd.zeroValue5
  t9 := Tryd.underlying9
  a9 := Tryd.isAgg9
  z9 := Tryd.sizeOf9
  v9 := Tryd.zeroValue9
  t20 := Tryd.underlying20
  a20 := Tryd.isAgg20
  z20 := Tryd.sizeOf20
  v20 := Tryd.zeroValue20
  t37 := Tryd.underlying38
  a37 := Tryd.isAgg38
  z37 := Tryd.sizeOf38
  v37 := Tryd.zeroValue38
  t70 := Tryd.underlying37
  a70 := Tryd.isAgg37
  z70 := Tryd.sizeOf37
  v70 := Tryd.zeroValue37
  t72 := Tryd.underlying40
  a72 := Tryd.isAgg40
  z72 := Tryd.sizeOf40
  v72 := Tryd.zeroValue40
  t75 := Tryd.underlying71
  a75 := Tryd.isAgg71
  z75 := Tryd.sizeOf71
  v75 := Tryd.zeroValue71
  t164 := Tryd.underlying137
  a164 := Tryd.isAgg137
  z164 := Tryd.sizeOf137
  v164 := Tryd.zeroValue137 }
theorem Tryd.Builder_ExtraB : Builder.Extra Tryd.prog Tryd.laysB_ren := {
  sizeBuilder := by kernel_rfl
  liesBuilder := by kernel_rfl
  t5 := Tryd.underlying5
  a5 := Tryd.isAgg5
  z5 := Tryd.sizeOf5
  v5 := Tryd.zeroValue5
  infoByte := by kernel_rfl
  cellsByte := by kernel_rfl
  sizeByte := by kernel_rfl
  neB5 := by decide }
end Go.Proofs
namespace Go.Proofs.YtnicbillhlhmmaaDoor
namespace Cw
open Go.RowKit
set_option linter.unusedVariables false
abbrev BldF (B b : Nat) (l : Bs) (w : World) : Prop := Lib.IsBuilderF 40 5 B b (Lib.byteCells l) w
abbrev Oth (b : Nat) (w w' : World) : Prop := Lib.OthersKept 5 (some b) w w'
theorem bld_write (B b : Nat) (l : Bs) (s : Bs) (w : World) (h : BldF B b l w) (hlen : l.length + s.length ≤ 140737488355328) (hBw : B ≤ w.heap.size) :
    Calls Tryd.prog 31 #[.pointer (some ⟨b, 0, none⟩), .string (sB s)] w fun e w' => (∃ z, e = .returned z) ∧ BldF B b (l ++ s) w' ∧ Below B w w' ∧ Oth b w w' := by
  have := Any.Builder_WriteString_k Tryd.laysB166 Tryd.Builder_ExtraB B b (Lib.byteCells l) (sB s) w h (by simpa [Lib.byteCells, sB_size] using hlen) hBw
  refine Calls.mono this ?_
  rintro e w' ⟨h1, h2, h3, h4⟩
  refine ⟨⟨_, h1⟩, Or.inr ?_, h3, h4⟩
  have e2 : Lib.byteCells l ++ Lib.strCells (sB s) = Lib.byteCells (l ++ s) := by simp [Lib.byteCells, Lib.strCells, sB]
  rw [← e2]
  exact h2
theorem bld_byte (B b : Nat) (l : Bs) (c : UInt8) (n : Int) (hc : n = (c.toNat : Int)) (w : World) (h : BldF B b l w) (hlen : l.length + 1 ≤ 140737488355328) (hBw : B ≤ w.heap.size) :
    Calls Tryd.prog 32 #[.pointer (some ⟨b, 0, none⟩), .int .u8 n] w fun e w' => (∃ z, e = .returned z) ∧ BldF B b (l ++ [c]) w' ∧ Below B w w' ∧ Oth b w w' := by
  subst hc
  have := Any.Builder_WriteByte_k Tryd.laysB167 Tryd.Builder_ExtraB B b (Lib.byteCells l) (c.toNat : Int) w h (by simpa [Lib.byteCells] using hlen) hBw
  refine Calls.mono this ?_
  rintro e w' ⟨h1, h2, h3, h4⟩
  refine ⟨⟨_, h1⟩, Or.inr ?_, h3, h4⟩
  have e2 : Lib.byteCells l ++ [.int .u8 (c.toNat : Int)] = Lib.byteCells (l ++ [c]) := by simp [Lib.byteCells]
  rw [← e2]
  exact h2
theorem ownsRowF_keeps {w w' : World} {base : Nat} {e : TypeId} {size : Nat} {v : Value} {n : Nat} {xs : List Value} (h : w.ownsRowF base e size v n xs) (k : Keeps w w' (fun _ => False)) : w'.ownsRowF base e size v n xs := by
  refine ⟨h.1, ?_⟩
  rcases h.2 with h2 | ⟨g, cap, cur, fz, e1, e2, e3, r⟩
  · exact Or.inl h2
  · exact Or.inr ⟨g, cap, cur, fz, e1, e2, (k.block g (heap_lt e3) id).trans e3, r⟩
/-- What keeps all blocks keeps a builder. -/
theorem bld_keeps {B b : Nat} {l : Bs} {w w' : World} (h : BldF B b l w) (k : Keeps w w' (fun _ => False)) : BldF B b l w' := by
  rcases h with ⟨hB, v, hb, hown, hne⟩ | ⟨hB, v, hb, hown, hne⟩
  · exact Or.inl ⟨hB, v, (k.block b (heap_lt hb) id).trans hb, ownsRowF_keeps hown k, hne⟩
  · exact Or.inr ⟨hB, v, (k.block b (heap_lt hb) id).trans hb, ownsRowF_keeps hown k, hne⟩
theorem oth_keeps {b : Nat} {w w' : World} (k : Keeps w w' (fun _ => False)) : Oth b w w' := fun i o hi _ _ => (k.block i (heap_lt hi) id).trans hi
theorem keeps_under {w w1 w2 : World} {B : Nat} (k : Keeps w w1 (fun _ => False)) (b : Below B w1 w2) (hB : w.heap.size ≤ B) : Keeps w w2 (fun _ => False) :=
  ⟨b.os.trans k.os, b.tape.trans k.tape, b.output.trans k.output, Nat.le_trans k.size b.size, fun i hi hn => (b.block i (by omega)).trans (k.block i hi hn)⟩
theorem keeps_below {w w' : World} (k : Keeps w w' (fun _ => False)) {B : Nat} (hB : B ≤ w.heap.size) : Below B w w' := k.below hB (fun _ _ e => e)
theorem bld_string (B b : Nat) (l : Bs) (w : World) (h : BldF B b l w) (hBw : B ≤ w.heap.size) :
    Calls Tryd.prog 16 #[.pointer (some ⟨b, 0, none⟩)] w fun e w' => e = .returned (.string (sB l)) ∧ Below B w w' := (Any.Builder_String_any_k Tryd.lays169 Tryd.Builder_Extra_169 B b l w h hBw).mono fun e w' ⟨h1, _, h3, _⟩ => ⟨h1, h3⟩
end Cw
end Go.Proofs.YtnicbillhlhmmaaDoor
