/-
  script: lineText.
-/
import Derived.Test.YtpkbjjbbdhehdaaDoorSF6
import Derived.RangeFuncRecord
import Derived.Laws.RangeString
import Derived.Deep.LoopGhost
import Derived.Laws.AppendOwnNone
namespace Go.Proofs.YtpkbjjbbdhehdaaDoor
open Go.RowKit
set_option linter.unusedVariables false
theorem nextF_at {P : Program} {W : World} {B : Nat} {s : ByteArray} {pos : Nat} (ty : TypeId) (hB : W.heap[B]? = some (.stringIter s pos)) (h : pos < s.size) (ha : (s[pos]'h).toNat < 128) :
    (Instr.next (.pointer (some ⟨B, 0, none⟩)) true ty).run P W = .ok (.tuple #[.bool true, .int .i64 pos, .int .i32 (s[pos]'h).toNat]) (W.putObj B (.stringIter s (pos + 1))) := by
  simp only [Instr.next, getObj, setObj, Sem.run_bind, Sem.run, hB, Result.andThen, h, if_true, decode_ascii s pos h ha]
  simp [goInt, World.putObj]
theorem nextF_end {P : Program} {W : World} {B : Nat} {s : ByteArray} {pos : Nat} (ty : TypeId) (hB : W.heap[B]? = some (.stringIter s pos)) (h : ¬ pos < s.size) :
    (Instr.next (.pointer (some ⟨B, 0, none⟩)) true ty).run P W = .ok (.tuple #[.bool false]) W := by
  simp [Instr.next, getObj, Sem.run, hB, h]
theorem rowF_put {W : World} {base : Nat} {v : Value} {n : Nat} {xs : List Value} (h : W.ownsRow base 9 1 v n xs) {B : Nat} {s : ByteArray} {pos : Nat} (hB : W.heap[B]? = some (.stringIter s pos)) (o : Obj) : (W.putObj B o).ownsRow base 9 1 v n xs := by
  refine ⟨h.1, ?_⟩
  rcases h.2 with h2 | ⟨g, cap, cur, e1, e2, e3, r⟩
  · exact Or.inl h2
  · refine Or.inr ⟨g, cap, cur, e1, e2, ?_, r⟩
    rw [World.putObj_heap_other (fun e => ?_)]
    · exact e3
    · rw [e, hB] at e3
      cases e3
/-- Several words are appended: their cells lie in block h. -/
theorem append_words {w : World} {base : Nat} {v : Value} {n : Nat} {xs : List Value} (hown : w.ownsRow base 9 1 v n xs) {h m c : Nat} {us : List ByteArray} (hu : ∀ j u, (us.map Value.string)[j]? = some u → w.cell? ⟨h, j, none⟩ = some u) (hm : us.length = m) (h0 : 0 < m) (hbytes : (n + m) * 16 ≤ 140737488355328) (hbn : n + m ≤ maxLen) (hbase : base ≤ w.heap.size) :
    ∃ g cap w', (∀ ty, (Builtin.append_ #[57, 57] ty #[v, .slice (some ⟨h, 0, none⟩) m c]).run Tryd.prog w = .ok (.slice (some ⟨g, 0, none⟩) (n + m) cap) w') ∧
      w'.ownsRow base 9 1 (.slice (some ⟨g, 0, none⟩) (n + m) cap) (n + m) (xs ++ us.map Value.string) ∧ Keeps w w' (fun k => v.ownBlock = some k) := by
  obtain ⟨i, hi1, hi2, hi3, hi4⟩ := info_parts Tryd.infoS4
  obtain ⟨g, cap, w', hr, h2, h3, h4, _⟩ := run_append_lies (P := Tryd.prog) w 57 0 base 9 i (.string ⟨#[]⟩) 1 16 Tryd.underlying57 hi1 hi2 hi3 hi4 rfl (by omega) v n xs hown ⟨h, 0, none⟩ m c (us.map Value.string) (by simp [hm])
    (fun j x hj => by
      rw [addr_add, Nat.zero_add]
      exact hu j x hj) (fun u hu => by
      obtain ⟨z, -, rfl⟩ := List.mem_map.1 hu
      rfl) h0 hbn hbytes hbase w.heap.size rfl
  exact ⟨g, cap, w', fun ty => hr, h2, Keeps.ofGrown h3⟩
theorem CmdIn.keeps {w w' : World} {c : CmdD} {fs hs : Value} (h : CmdIn w c fs hs) (k : Keeps w w' (fun _ => False)) : CmdIn w' c fs hs :=
  ⟨h.f.keeps k, h.s.keeps k, h.lf, h.ls, h.h, h.n, h.u, h.v, h.key, h.elem⟩
/-- The words behind a line's name. -/
def fldsD (c : CmdD) (l : List UInt8) : List ByteArray := l.flatMap fun x => fldD c (x.toNat : Int)
theorem fldsD_take {c : CmdD} {l : List UInt8} {i : Nat} (h : i < l.length) : fldsD c (l.take (i + 1)) = fldsD c (l.take i) ++ fldD c (l[i].toNat : Int) := by
  unfold fldsD
  rw [List.take_succ_eq_append_getElem h, List.flatMap_append]
  simp
def lineI (i : Nat) (c : CmdD) : ByteArray := ⟨(Lib.join ((nmN i :: fldsD c (fmN i).data.toList).map (·.data.toList)) [32]).toArray⟩ ++ ⟨#[10]⟩
theorem fld_few {w : World} {c : CmdD} {fs hs : Value} (h : CmdIn w c fs hs) (p : Int) : (fldD c p).length ≤ 8388608 := by
  have := h.lf
  have := h.ls
  unfold fldD
  repeat' split
  all_goals simp <;> omega
theorem flds_few {w : World} {c : CmdD} {fs hs : Value} (h : CmdIn w c fs hs) : ∀ l : List UInt8, (fldsD c l).length ≤ 8388608 * l.length
  | [] => by simp [fldsD]
  | x :: r => by
    have ih := flds_few h r
    have := fld_few h (x.toNat : Int)
    unfold fldsD at ih ⊢
    rw [List.flatMap_cons, List.length_append, List.length_cons]
    omega
theorem form_few (i : Nat) (hi : i < 16) : (fmN i).data.toList.length ≤ 3 ∧ ∀ x, x ∈ (fmN i).data.toList → x.toNat < 128 := by
  have : ∀ k : Fin 16, (fmN k.1).data.toList.length ≤ 3 ∧ ∀ x, x ∈ (fmN k.1).data.toList → x.toNat < 128 := by decide +kernel
  exact this ⟨i, hi⟩
end Go.Proofs.YtpkbjjbbdhehdaaDoor
