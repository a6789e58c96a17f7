/-
  script: the reference's read: a line whose fields do not fit.
-/
import Derived.Test.YtfpiibccggjjpaaDoorHSVB
import Derived.Test.YtfpiibccggjjpaaDoorUn13
namespace Go.Proofs.YtfpiibccggjjpaaDoor
open Go.RowKit
set_option linter.unusedVariables false
/-- The fields, wherever they lie. -/
structure FlV (lo : Nat) (f : FlD) (vn vw vb : Value) (W : World) : Prop where
  n : W.ownsRow lo 3 1 vn f.n.length (f.n.map cellI)
  w : W.ownsRow lo 31 1 vw f.w.length (f.w.map cellW)
  b : W.ownsRow lo 9 1 vb f.b.length (f.b.map Value.string)
theorem FlV.keeps {lo : Nat} {f : FlD} {vn vw vb : Value} {W W' : World} (h : FlV lo f vn vw vb W) (k : Keeps W W' (fun _ => False)) : FlV lo f vn vw vb W' := ⟨ownsRow_keeps h.n k (fun _ _ e => e), ownsRow_keeps h.w k (fun _ _ e => e), ownsRow_keeps h.b k (fun _ _ e => e)⟩
theorem FlV.zero (lo : Nat) (W : World) : FlV lo FlD.zero (.slice none 0 0) (.slice none 0 0) (.slice none 0 0) W := ⟨⟨rfl, Or.inl ⟨rfl, rfl⟩⟩, ⟨rfl, Or.inl ⟨rfl, rfl⟩⟩, ⟨rfl, Or.inl ⟨rfl, rfl⟩⟩⟩
/-- What read answers. -/
def RrP (R : FlD × Int) (w : World) (e : Ending) (w' : World) : Prop := ∃ vn vw vb, e = .returned (.tuple #[.agg #[vn, vw, vb], .int .i64 R.2]) ∧ FlV w.heap.size R.1 vn vw vb w' ∧ Keeps w w' (fun _ => False)
theorem at4r {W : World} {q : Nat} {a0 a1 a2 a3 : Value} {t : TypeId} (h : W.heap[q]? = some (.cells #[a0, a1, a2, a3] t)) : W.cell? ⟨q, 0, none⟩ = some a0 ∧ W.cell? ⟨q, 1, none⟩ = some a1 ∧ W.cell? ⟨q, 2, none⟩ = some a2 ∧ W.cell? ⟨q, 3, none⟩ = some a3 := by
  simp [World.cell?, h]
theorem rd_end {w W0 : World} {b1 : Nat} (h1 : w.heap.size ≤ b1) {x0 x1 x2 : Value} (hb1 : W0.heap[b1]? = some (.cells #[x0, x1, x2] 86)) (k0 : Keeps w W0 (fun _ => False)) {P : World → Prop} {a0 a1 a2 : Value}
    (hP : ∀ W', W'.heap[b1]? = some (.cells #[a0, a1, a2] 86) → Keeps w W' (fun _ => False) → P W') : P (((W0.setCell ⟨b1, 0, none⟩ a0).setCell ⟨b1, 1, none⟩ a1).setCell ⟨b1, 2, none⟩ a2) :=
  set3r hb1 (P := P) fun W' e k => hP W' e (k0.trans k (fun i hi e => by omega))
set_option maxRecDepth 100000 in
set_option maxHeartbeats 4000000 in
theorem rread_less (nm F : ByteArray) (op : Int) (m : Bool) (so : Option Addr) (n c : Nat) (w : World) (h : n < F.size) : Calls Tryd.prog 41 #[.agg #[.string nm, .int .i64 op, .string F, .bool m], .slice so n c] w fun e w' => RrP (FlD.zero, 160) w e w' := by
  have h' : (n : Int) < (F.size : Int) := by omega
  clear h
  go_enter Tryd.func41, Tryd.ntmps41
  go_upto_region 2 with fail
  refine alloc3r (P := fun W => Code.wp _ _ _ _ W) fun W0 hb0 hb1 hb2 k0 => ?_
  obtain ⟨e0, e1, e2, e3⟩ := at4r hb0
  obtain ⟨g0, g1, g2⟩ := three_cells9 hb1
  obtain ⟨f0, f1, f2⟩ := fro3 hb1
  have Hb1 := hide hb1
  have K0 := hide k0
  clear hb0 hb1 hb2 k0
  go_wp2_with fail
  refine rd_end (P := bodyPost Tryd.prog _ _ Exit.ret _) (b1 := w.heap.size + 1) (Nat.le_succ _) Hb1.out K0.out fun W' hb k => ?_
  obtain ⟨t0, t1, t2⟩ := three_cells9 hb
  refine bodyPost_ret (v := .tuple #[.agg #[.slice none 0 0, .slice none 0 0, .slice none 0 0], .int .i64 160]) (by simp [results, Tryd.results41, go_sem, t0, t1, t2]) rfl ?_
  exact ⟨_, _, _, rfl, FlV.zero _ _, k⟩
set_option maxRecDepth 100000 in
set_option maxHeartbeats 4000000 in
theorem rread_more (nm F : ByteArray) (op : Int) (so : Option Addr) (n c : Nat) (w : World) (h : F.size < n) : Calls Tryd.prog 41 #[.agg #[.string nm, .int .i64 op, .string F, .bool false], .slice so n c] w fun e w' => RrP (FlD.zero, 160) w e w' := by
  have h' : (F.size : Int) < (n : Int) := by omega
  have h'' : ¬ (n : Int) < (F.size : Int) := by omega
  clear h
  go_enter Tryd.func41, Tryd.ntmps41
  go_upto_region 2 with fail
  refine alloc3r (P := fun W => Code.wp _ _ _ _ W) fun W0 hb0 hb1 hb2 k0 => ?_
  obtain ⟨e0, e1, e2, e3⟩ := at4r hb0
  obtain ⟨g0, g1, g2⟩ := three_cells9 hb1
  obtain ⟨f0, f1, f2⟩ := fro3 hb1
  have Hb1 := hide hb1
  have K0 := hide k0
  clear hb0 hb1 hb2 k0
  go_wp2_with fail
  refine rd_end (P := bodyPost Tryd.prog _ _ Exit.ret _) (b1 := w.heap.size + 1) (Nat.le_succ _) Hb1.out K0.out fun W' hb k => ?_
  obtain ⟨t0, t1, t2⟩ := three_cells9 hb
  refine bodyPost_ret (v := .tuple #[.agg #[.slice none 0 0, .slice none 0 0, .slice none 0 0], .int .i64 160]) (by simp [results, Tryd.results41, go_sem, t0, t1, t2]) rfl ?_
  exact ⟨_, _, _, rfl, FlV.zero _ _, k⟩
end Go.Proofs.YtfpiibccggjjpaaDoor
