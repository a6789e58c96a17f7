/-
  The end of the lists of parts, and what a call that is handed them needs.
-/
import Derived.Test.YtlgmpnaalifegabBase7
import Derived.Lib.SlBytesConst
namespace Go.Proofs.Ytlgmpnaalifegab
open Go.RowKit

def behindRow : List UInt8 := [98, 101, 104, 105, 110, 100]
/-- Both lists are whole: behind the parts the one that is handed in has one list more. -/
structure Laid (E TB : TypeId) (B : Nat) (w : World) (gl cl : Nat) (wv : Value) (xs : List (List UInt8)) (hs : List Nat) (vs ws : List Value) (bh : Nat) : Prop where
  ol : w.ownsRow B TB 1 (.slice (some ⟨gl, 0, none⟩) (xs.length + 1) cl) (xs.length + 1) (vs ++ [.slice (some ⟨bh, 0, none⟩) 6 6])
  ow : w.ownsRow B TB 1 wv xs.length ws
  apart : ¬ wv.ownBlock = some gl
  len : hs.length = xs.length
  nodup : hs.Nodup
  part : ∀ j (h : j < xs.length), ∃ hb c1 c2 y f, hs[j]? = some hb ∧ vs[j]? = some (.slice (some ⟨hb, 0, none⟩) xs[j].length c1) ∧ ws[j]? = some (.slice (some ⟨hb, 0, none⟩) (xs[j].length + 1) c2) ∧ B ≤ hb ∧
    w.heap[hb]? = some (.cells (rowOf (xs[j] ++ [165] ++ y)) E f) ∧ (f = (0, 0) ∨ xs[j].length + 1 ≤ f.1)
  beh : ∃ f, w.heap[bh]? = some (.cells (rowOf behindRow) E f)
  behB : B ≤ bh
  behN : bh ∉ hs

theorem Laid.vlen {E TB : TypeId} {B : Nat} {w : World} {gl cl : Nat} {wv : Value} {xs : List (List UInt8)} {hs : List Nat} {vs ws : List Value} {bh : Nat} (L : Laid E TB B w gl cl wv xs hs vs ws bh) : vs.length = xs.length := by
  have := L.ol.1
  simp at this
  omega

/-- The list that is handed in, as parts, outside of an old block. -/
theorem Laid.parts {E TB : TypeId} {B : Nat} {w : World} {gl cl : Nat} {wv : Value} {xs : List (List UInt8)} {hs : List Nat} {vs ws : List Value} {bh : Nat} (L : Laid E TB B w gl cl wv xs hs vs ws bh) (hx : ∀ x ∈ xs, x.length ≤ 140737488355328) {g : Nat} (hg : g < B) : PartsAt w g gl xs := by
  obtain ⟨hB, cur, hcur⟩ := ownsRow_block (g := gl) L.ol rfl
  refine ⟨heap_lt hcur, by omega, fun j hj => ?_⟩
  obtain ⟨hb, c1, c2, y, f, _, e2, _, e4, e5, _⟩ := L.part j hj
  refine ⟨_, ?_, part_of_row (c := c1) (y := [165] ++ y) (by rw [← List.append_assoc]; exact e5) (by omega) (hx _ (List.getElem_mem hj))⟩
  have hc := L.ol.cells (g := gl) rfl j _ (by rw [List.getElem?_append_left (by rw [L.vlen]; exact hj)]; exact e2)
  rw [addr_add, Nat.zero_add] at hc
  exact hc

section
variable {P : Program}
theorem roomy_end (E TB TP : TypeId) (hE : P.underlying E = some (.int .u8)) (hTB : P.underlying TB = some (.slice E)) (hTP : P.underlying TP = some (.slice TB))
    (hiB : (P.info? TB).map (fun i => (i.zero, i.size, i.bytes)) = some (some (.slice none 0 0), 1, 24)) (hne : E ≠ TB)
    {B : Nat} {wr : World} {lv wv : Value} {xs : List (List UInt8)} {hs : List Nat} {vs ws : List Value} (R : Parted E TB B wr lv wv xs hs vs ws) (hB : B ≤ wr.heap.size) (hn1 : xs.length ≤ 1099511627776) :
    ∃ w1 w3 gl cl, (convert TB TB (.slice (some ⟨wr.heap.size, 0, none⟩) 6 6)).run P (wr.alloc (.cells #[.int .u8 98, .int .u8 101, .int .u8 104, .int .u8 105, .int .u8 110, .int .u8 100] E)) = .ok (.slice (some ⟨wr.heap.size, 0, none⟩) 6 6) w1 ∧
      (∀ ty, (Builtin.append_ #[TP, TP] ty #[lv, .slice (some ⟨w1.heap.size, 0, none⟩) 1 1]).run P (w1.alloc (.cells #[.slice (some ⟨wr.heap.size, 0, none⟩) 6 6] TB)) = .ok (.slice (some ⟨gl, 0, none⟩) (xs.length + 1) cl) w3) ∧
      Laid E TB B w3 gl cl wv xs hs vs ws wr.heap.size ∧ Keeps wr w3 (fun k => B ≤ k) := by
  have hcv := Lib.run_convert_bytes_const (P := P) wr TB E #[.int .u8 98, .int .u8 101, .int .u8 104, .int .u8 105, .int .u8 110, .int .u8 100] 6 6 hTB hE
  have hrow : (#[.int .u8 98, .int .u8 101, .int .u8 104, .int .u8 105, .int .u8 110, .int .u8 100] : Array Value) = rowOf behindRow := rfl
  generalize hw1 : wr.alloc (.cells #[.int .u8 98, .int .u8 101, .int .u8 104, .int .u8 105, .int .u8 110, .int .u8 100] E ((#[.int .u8 98, .int .u8 101, .int .u8 104, .int .u8 105, .int .u8 110, .int .u8 100] : Array Value).size, (#[.int .u8 98, .int .u8 101, .int .u8 104, .int .u8 105, .int .u8 110, .int .u8 100] : Array Value).size + 1)) = w1 at hcv
  have k1 : Keeps wr w1 (fun _ => False) := by rw [← hw1]; exact (Keeps.refl _ _).alloc _
  have hb1 : ∃ f, w1.heap[wr.heap.size]? = some (.cells (rowOf behindRow) E f) := by
    rw [← hw1, ← hrow]
    exact ⟨_, heap_alloc_new _ _⟩
  clear hw1
  obtain ⟨f1, hb1⟩ := hb1
  have k2 : Keeps wr (w1.alloc (.cells #[.slice (some ⟨wr.heap.size, 0, none⟩) 6 6] TB)) (fun _ => False) := k1.alloc _
  have lv2 := ownsRow_keeps R.ol k2 (fun _ _ => id)
  obtain ⟨gl, cl, w3, happ, ol3, k3, hgl⟩ := append_one (P := P) TP TB (.slice none 0 0) 24 hTP hiB rfl lv2 (h := w1.heap.size) (heap_alloc_new _ _) rfl (by omega) (by unfold maxLen; omega) (by have := k2.size; omega)
  have hsz2 : (w1.alloc (.cells #[.slice (some ⟨wr.heap.size, 0, none⟩) 6 6] TB)).heap.size = w1.heap.size + 1 := by simp
  have K3 : Keeps wr w3 (fun k => lv.ownBlock = some k) := (k2.mono (fun _ _ x => x.elim)).trans k3 (fun _ _ x => x)
  have hbl : ¬ lv.ownBlock = some wr.heap.size := fun e => by have := own_lt R.ol e; omega
  have hb3 : w3.heap[wr.heap.size]? = some (.cells (rowOf behindRow) E f1) := by
    have hb2 : (w1.alloc (.cells #[.slice (some ⟨wr.heap.size, 0, none⟩) 6 6] TB)).heap[wr.heap.size]? = some (.cells (rowOf behindRow) E f1) := by
      rw [Below.heap_alloc _ _ _ (heap_lt hb1)]
      exact hb1
    exact (k3.block _ (heap_lt hb2) hbl).trans hb2
  refine ⟨w1, w3, gl, cl, hcv, happ, ⟨ol3, ownsRow_keeps R.ow K3 (fun k h1 h2 => R.apart k h2 h1), ?_, R.len, R.nodup, ?_, ⟨f1, hb3⟩, hB, ?_⟩, ?_⟩
  · intro e
    rcases hgl with hgl | hgl
    · exact R.apart gl hgl e
    · have := own_lt R.ow e
      have := k1.size
      omega
  · intro j hj
    obtain ⟨hb, c1, c2', y, f, e1, e2, e3, e4, e5, e6⟩ := R.part j hj
    refine ⟨hb, c1, c2', y, f, e1, e2, e3, e4, ?_, e6⟩
    refine (K3.block hb (heap_lt e5) ?_).trans e5
    intro e
    obtain ⟨_, cur, hc⟩ := ownsRow_block R.ol e
    rw [hc] at e5
    injection e5 with e5
    injection e5 with _ e5
    exact hne e5.symm
  · intro hm
    obtain ⟨j, hj, e⟩ := List.mem_iff_getElem.1 hm
    obtain ⟨hb, _, _, _, _, e1, _, _, _, e5, _⟩ := R.part j (by rw [← R.len]; exact hj)
    rw [List.getElem?_eq_getElem hj] at e1
    have e1' : hs[j] = hb := Option.some.inj e1
    have := heap_lt e5
    omega
  · exact K3.mono (fun i hi e => (ownsRow_block R.ol e).1)
end
/-- A builtin append whose run is known. -/
theorem wpList_append_run {P : Program} (w : World) {ops : Array Oper} {rest : List Oper} {o : Oper} {a : Act} {Q : Exit → Act → World → Prop}
    (hgd : o.guard = none) (s x : Operand) (t : TypeId) (hop : o.op = Op.call { callee := Callee.builtin Builtin.append, args := #[s, x], argTypes := #[t, t] }) {v u v' : Value} {w' : World} (hs : a.eval s = v) (hx : a.eval x = u)
    (hrun : ∀ ty, (Builtin.append_ #[t, t] ty #[v, u]).run P w = .ok v' w') (hK : wpList P ops Q rest (a.put o.dst v') w') : wpList P ops Q (o :: rest) a w := by
  refine wpList_plain hgd fun K hK' => ?_
  unfold Oper.wp
  simp [execOp, hop, resolve, invoke, builtin, hs, hx, hrun, Result.andThen]
  exact hK' _ _ hK
/-- A list of texts that came in. -/
def StrsAt (w : World) (B : Nat) (ao : Option Addr) (ts : List ByteArray) : Prop :=
  ∀ i (h : i < ts.length), ∃ bb oo, ao = some ⟨bb, oo, none⟩ ∧ bb < B ∧ w.cell? ⟨bb, oo + i, none⟩ = some (.string ts[i])
theorem StrsAt.keeps {w w' : World} {B : Nat} {ao : Option Addr} {ts : List ByteArray} (h : StrsAt w B ao ts) (hB : B ≤ w.heap.size) (k : Keeps w w' (fun k => B ≤ k)) : StrsAt w' B ao ts := by
  intro i hi
  obtain ⟨bb, oo, e1, e2, e3⟩ := h i hi
  exact ⟨bb, oo, e1, e2, (World.cell?_of_block (w := w) (k.block bb (by omega) (by omega))).trans e3⟩
def bytesOf (ts : List ByteArray) : List (List UInt8) := ts.map (fun t => t.data.toList)
theorem bytesOf_length (ts : List ByteArray) : (bytesOf ts).length = ts.length := by simp [bytesOf]
theorem bytesOf_take (ts : List ByteArray) (k : Nat) (h : k < ts.length) : (bytesOf ts).take (k + 1) = (bytesOf ts).take k ++ [ts[k].data.toList] := by
  rw [List.take_succ_eq_append_getElem (by rw [bytesOf_length]; exact h)]
  simp [bytesOf]
end Go.Proofs.Ytlgmpnaalifegab
