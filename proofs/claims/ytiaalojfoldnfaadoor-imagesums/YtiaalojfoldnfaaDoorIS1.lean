/-
  image: a list of bytes that came in: its text, its copy.
-/
import Derived.Test.YtiaalojfoldnfaaDoorBase6
import Derived.Test.YtiaalojfoldnfaaDoorOM2
import Derived.Laws.IdiomStrings
import Derived.Laws.BytesArg
import Derived.Laws.AppendOwnNone
namespace Go.Proofs.YtiaalojfoldnfaaDoor
open Go.RowKit
set_option linter.unusedVariables false

def strOf (x : List UInt8) : ByteArray := ⟨x.toArray⟩
theorem strOf_data (x : List UInt8) : (strOf x).data.toList = x := by simp [strOf]
theorem strOf_append (x y : List UInt8) : strOf x ++ strOf y = strOf (x ++ y) := by
  apply ByteArray.ext
  simp [strOf]
theorem strOf_size (x : List UInt8) : (strOf x).size = x.length := by simp [strOf, ByteArray.size]
theorem run_text (w : World) (a : Addr) (c n : Nat) (x : List UInt8) (hn : x.length = n) (h : ∀ j (hj : j < x.length), w.cell? (a.add j) = some (.int .u8 (x[j].toNat : Int))) :
    (convert 22 9 (.slice (some a) n c)).run Tryd.prog w = .ok (.string (strOf x)) w := by
  subst hn
  exact run_convert_bytes_back (P := Tryd.prog) w 22 9 5 a c x Tryd.underlying22 Tryd.underlying5 Tryd.underlying9 h
theorem app_run {P : Program} (w : World) {ops : Array Oper} {rest : List Oper} {o : Oper} {a : Act} {Q : Exit → Act → World → Prop}
    (hgd : o.guard = none) (s x : Operand) (t : TypeId) (hop : o.op = Op.call { callee := Callee.builtin Builtin.append, args := #[s, x], argTypes := #[t, t] }) {v u v' : Value} {w' : World} (hs : a.eval s = v) (hx : a.eval x = u)
    (hrun : ∀ ty, (Builtin.append_ #[t, t] ty #[v, u]).run P w = .ok v' w') (hK : wpList P ops Q rest (a.put o.dst v') w') : wpList P ops Q (o :: rest) a w := by
  refine wpList_plain hgd fun K hK' => ?_
  unfold Oper.wp
  simp [execOp, hop, resolve, invoke, builtin, hs, hx, hrun, Result.andThen]
  exact hK' _ _ hK

/-- A list of bytes that came in. -/
def InB (w : World) (v : Value) (xs : List UInt8) : Prop := (v = .slice none 0 0 ∧ xs = []) ∨ ∃ (a : Addr) (cap : Nat), v = .slice (some a) xs.length cap ∧ (∀ j (h : j < xs.length), w.cell? (a.add j) = some (.int .u8 (xs[j].toNat : Int))) ∧ (0 < xs.length → ∃ b o, a = ⟨b, o, none⟩ ∧ b < w.heap.size)
theorem InB.keeps {w W : World} {v : Value} {xs : List UInt8} (h : InB w v xs) (k : Keeps w W (fun _ => False)) : InB W v xs := by
  rcases h with h | ⟨a, cap, rfl, hc, hb⟩
  · exact Or.inl h
  · refine Or.inr ⟨a, cap, rfl, fun j hj => ?_, fun h0 => ?_⟩
    · obtain ⟨b, o, rfl, hlt⟩ := hb (by omega)
      have := hc j hj
      rw [addr_add] at this ⊢
      exact (World.cell?_of_block (w := w) (k.block b hlt id)).trans this
    · obtain ⟨b, o, e, hlt⟩ := hb h0
      exact ⟨b, o, e, Nat.lt_of_lt_of_le hlt k.size⟩
theorem InB.len {w : World} {v : Value} {xs : List UInt8} (h : InB w v xs) : ∃ so cap, v = .slice so xs.length cap := by
  rcases h with ⟨rfl, rfl⟩ | ⟨a, cap, rfl, hc, hb⟩
  · exact ⟨none, 0, rfl⟩
  · exact ⟨some a, cap, rfl⟩
theorem InB.text {w : World} {v : Value} {xs : List UInt8} (h : InB w v xs) : (convert 22 9 v).run Tryd.prog w = .ok (.string (strOf xs)) w := by
  rcases h with ⟨rfl, rfl⟩ | ⟨a, cap, rfl, hc, hb⟩
  · exact run_convert_bytes_nil (P := Tryd.prog) (w := w) 22 5 Tryd.underlying22 Tryd.underlying5 0 0 9 Tryd.underlying9
  · exact run_text w a cap xs.length xs rfl hc
theorem InB.copy {W : World} {v : Value} {xs : List UInt8} (h : InB W v xs) (hn : xs.length ≤ 140737488351232) :
    ∃ a c W', (∀ ty, (Builtin.append_ #[22, 22] ty #[.slice (some ⟨W.heap.size, 0, none⟩) 0 0, v]).run Tryd.prog (W.alloc (.cells #[] 5)) = .ok (.slice (some ⟨a, 0, none⟩) xs.length c) W') ∧ W'.ownsRow W.heap.size 5 1 (.slice (some ⟨a, 0, none⟩) xs.length c) xs.length (cellsOf xs) ∧ W.heap.size ≤ a ∧ Keeps W W' (fun _ => False) := by
  have hi : (Tryd.prog.info? 5).map (fun i => (i.zero, i.size, i.bytes)) = some (some (.int .u8 0), 1, 1) := by kernel_rfl
  obtain ⟨i, q1, q2, q3, q4⟩ := info_parts hi
  have k0 : Keeps W (W.alloc (.cells #[] 5)) (fun _ => False) := (Keeps.refl _ _).alloc _
  have own0 : (W.alloc (.cells #[] 5)).ownsRow W.heap.size 5 1 (.slice (some ⟨W.heap.size, 0, none⟩) 0 0) 0 [] := World.ownsRow_made W #[] 0 (Nat.le_refl _) (by simp only [maxLen]; omega) (by simp)
  have h0 := h.keeps k0
  rcases h0 with ⟨rfl, rfl⟩ | ⟨a, cap, rfl, hc, _⟩
  · have r1 := fun ty => run_append_owned_none (P := Tryd.prog) (w := W.alloc (.cells #[] 5)) W.heap.size 22 ty 5 i 1 Tryd.underlying22 q1 _ 0 [] own0
    exact ⟨_, _, _, r1, own0, Nat.le_refl _, k0⟩
  · obtain ⟨v', w2, hr, hown, hgr, hnil, hloc⟩ := run_append_own_at (P := Tryd.prog) (W.alloc (.cells #[] 5)) W.heap.size 22 0 5 i (.int .u8 0) 1 1 Tryd.underlying22 q1 q2 q3 q4 rfl (by omega) _ 0 [] own0 a xs.length cap (cellsOf xs) (by simp [cellsOf])
      (fun j u hu => by
        unfold cellsOf at hu
        rw [List.getElem?_map] at hu
        obtain ⟨z, hz, rfl⟩ := Option.map_eq_some_iff.1 hu
        obtain ⟨hj, rfl⟩ := List.getElem?_eq_some_iff.1 hz
        exact hc j hj) cellsOf_one (by simp only [maxLen]; omega) (by omega) (by simp)
    rw [Nat.zero_add, List.nil_append] at hown
    have K : Keeps W w2 (fun _ => False) := k0.trans ((Keeps.ofGrown hgr).mono (fun i hi e => by
      have e' : W.heap.size = i := by simpa [Value.ownBlock] using e
      exact e'.symm)) (fun i hi e => by
        have e' : i = W.heap.size := e
        omega)
    obtain ⟨_, hh | ⟨g', cap', cur', e1, g2, _⟩⟩ := id hown
    · exact absurd (hnil.1 hh.1).1 (by simp)
    · subst e1
      exact ⟨g', cap', w2, fun ty => hr, hown, g2, K⟩
/-- Several bytes are appended: their cells lie in block h. -/
theorem append_list {P : Program} (t e : TypeId) (z : Value) (bytes : Nat) (ht : P.underlying t = some (.slice e)) (hi : (P.info? e).map (fun i => (i.zero, i.size, i.bytes)) = some (some z, 1, bytes)) (hz1 : z.cells.size = 1)
    {w : World} {base : Nat} {v : Value} {n : Nat} {xs : List Value} (hown : w.ownsRow base e 1 v n xs) {h m : Nat} {us : List Value} {ut : TypeId} {fz : Nat × Nat} (hu : w.heap[h]? = some (.cells us.toArray ut fz)) (hm : us.length = m) (h0 : 0 < m) (h1 : ∀ u ∈ us, u.oneCell' = true) (c : Nat)
    (hbytes : (n + m) * bytes ≤ 140737488355328) (hbn : n + m ≤ maxLen) (hbase : base ≤ w.heap.size) :
    ∃ g cap w', (∀ ty, (Builtin.append_ #[t, t] ty #[v, .slice (some ⟨h, 0, none⟩) m c]).run P w = .ok (.slice (some ⟨g, 0, none⟩) (n + m) cap) w') ∧
      w'.ownsRow base e 1 (.slice (some ⟨g, 0, none⟩) (n + m) cap) (n + m) (xs ++ us) ∧ Keeps w w' (fun k => v.ownBlock = some k) ∧ (v.ownBlock = some g ∨ g = w.heap.size) := by
  obtain ⟨i, hi1, hi2, hi3, hi4⟩ := info_parts hi
  obtain ⟨g, cap, w', hr, h2, h3, h4, _⟩ := run_append_lies (P := P) w t 0 base e i z 1 bytes ht hi1 hi2 hi3 hi4 hz1 (by omega) v n xs hown ⟨h, 0, none⟩ m c us (by omega)
    (fun j x hj => by
      rw [addr_add, Nat.zero_add]
      simp only [World.cell?, hu]
      simpa using hj) h1 h0 hbn hbytes hbase w.heap.size rfl
  exact ⟨g, cap, w', fun ty => hr, h2, Keeps.ofGrown h3, h4⟩
theorem Keeps.kp {w w' : World} (k : Keeps w w' (fun _ => False)) : Kp w w' := k.below (Nat.le_refl _) (fun _ _ e => e)
theorem Keeps.of_kp {w w' : World} (k : Kp w w') : Keeps w w' (fun _ => False) := ⟨k.os, k.tape, k.output, k.size, fun i hi _ => k.block i hi⟩
theorem OddAt.keeps {w w' : World} (h : OddAt w) (k : Keeps w w' (fun _ => False)) : OddAt w' := ⟨k.kp.cell h.1, k.kp.cell h.2⟩
end Go.Proofs.YtiaalojfoldnfaaDoor
