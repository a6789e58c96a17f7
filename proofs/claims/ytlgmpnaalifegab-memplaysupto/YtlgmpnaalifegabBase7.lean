/-
  The lists of parts that the statements make: one list that is handed in, one that keeps each part with a mark behind it.
-/
import Derived.Test.YtlgmpnaalifegabBase6
import Derived.Test.YtlgmpnaalifegabBase4
namespace Go.Proofs.Ytlgmpnaalifegab
open Go.RowKit

/-- Part j: block hs[j] holds the bytes xs[j], the mark 165 and some room; both lists point there. -/
structure Parted (E TB : TypeId) (B : Nat) (w : World) (lv wv : Value) (xs : List (List UInt8)) (hs : List Nat) (vs ws : List Value) : Prop where
  ol : w.ownsRow B TB 1 lv xs.length vs
  ow : w.ownsRow B TB 1 wv xs.length ws
  apart : ∀ g, lv.ownBlock = some g → wv.ownBlock = some g → False
  len : hs.length = xs.length
  nodup : hs.Nodup
  part : ∀ j (h : j < xs.length), ∃ hb c1 c2 y f, hs[j]? = some hb ∧ vs[j]? = some (.slice (some ⟨hb, 0, none⟩) xs[j].length c1) ∧ ws[j]? = some (.slice (some ⟨hb, 0, none⟩) (xs[j].length + 1) c2) ∧ B ≤ hb ∧
    w.heap[hb]? = some (.cells (rowOf (xs[j] ++ [165] ++ y)) E f) ∧ (f = (0, 0) ∨ xs[j].length + 1 ≤ f.1)

theorem Parted.nil (E TB : TypeId) (B : Nat) (w : World) : Parted E TB B w (.slice none 0 0) (.slice none 0 0) [] [] [] [] :=
  ⟨World.ownsRow_nil _ _ _ _, World.ownsRow_nil _ _ _ _, (fun g h _ => by cases h), rfl, List.nodup_nil, (fun j h => by simp at h)⟩

theorem own_lt {w : World} {base : Nat} {e : TypeId} {size : Nat} {v : Value} {n : Nat} {xs : List Value} (h : w.ownsRow base e size v n xs) {g : Nat} (hv : v.ownBlock = some g) : g < w.heap.size := by
  obtain ⟨_, cur, hg⟩ := ownsRow_block h hv
  exact heap_lt hg

section
variable {P : Program}
theorem roomy_round (S E TB TP : TypeId) (hS : P.underlying S = some .string) (hE : P.underlying E = some (.int .u8)) (hTB : P.underlying TB = some (.slice E)) (hTP : P.underlying TP = some (.slice TB))
    (hiE : (P.info? E).map (fun i => (i.zero, i.size, i.bytes)) = some (some (.int .u8 0), 1, 1)) (hiB : (P.info? TB).map (fun i => (i.zero, i.size, i.bytes)) = some (some (.slice none 0 0), 1, 24)) (hne : E ≠ TB)
    {B : Nat} {wr : World} {lv wv : Value} {xs : List (List UInt8)} {hs : List Nat} {vs ws : List Value} (R : Parted E TB B wr lv wv xs hs vs ws) (hB : B ≤ wr.heap.size) (s : ByteArray) (hs1 : s.size ≤ 1099511627776) (hn1 : xs.length ≤ 1099511627776) :
    ∃ w1 c w3 g c2 w5 gw cw w7 gl cl, (convert S TB (.string s)).run P wr = .ok (.slice (some ⟨wr.heap.size, 0, none⟩) s.size c) w1 ∧
      (∀ ty, (Builtin.append_ #[TB, TB] ty #[.slice (some ⟨wr.heap.size, 0, none⟩) s.size c, .slice (some ⟨w1.heap.size, 0, none⟩) 1 1]).run P (w1.alloc (.cells #[.int .u8 165] E)) = .ok (.slice (some ⟨g, 0, none⟩) (s.size + 1) c2) w3) ∧
      (∀ ty, (Builtin.append_ #[TP, TP] ty #[wv, .slice (some ⟨w3.heap.size, 0, none⟩) 1 1]).run P (w3.alloc (.cells #[.slice (some ⟨g, 0, none⟩) (s.size + 1) c2] TB)) = .ok (.slice (some ⟨gw, 0, none⟩) (xs.length + 1) cw) w5) ∧
      (Instr.slice TB (.slice (some ⟨g, 0, none⟩) (s.size + 1) c2) none (some (.int .i64 (s.size : Int))) none).run P w5 = .ok (.slice (some ⟨g, 0, none⟩) s.size c2) w5 ∧
      (∀ ty, (Builtin.append_ #[TP, TP] ty #[lv, .slice (some ⟨w5.heap.size, 0, none⟩) 1 1]).run P (w5.alloc (.cells #[.slice (some ⟨g, 0, none⟩) s.size c2] TB)) = .ok (.slice (some ⟨gl, 0, none⟩) (xs.length + 1) cl) w7) ∧
      (∃ vs' ws', Parted E TB B w7 (.slice (some ⟨gl, 0, none⟩) (xs.length + 1) cl) (.slice (some ⟨gw, 0, none⟩) (xs.length + 1) cw) (xs ++ [s.data.toList]) (hs ++ [g]) vs' ws') ∧ Keeps wr w7 (fun k => B ≤ k) := by
  have hsx : s.size = s.data.toList.length := by simp
  obtain ⟨w1, c, fz, hconv, k1, hs1', hcs, hcf, hr1⟩ := bytes_of_room (P := P) wr S TB E s hS hTB hE
  have k2 : Keeps wr (w1.alloc (.cells #[.int .u8 165] E)) (fun _ => False) := k1.alloc _
  have hr2 : (w1.alloc (.cells #[.int .u8 165] E)).heap[wr.heap.size]? = some (.cells (rowOf (s.data.toList ++ zeros (c - s.size))) E fz) := by
    rw [Below.heap_alloc _ _ _ (heap_lt hr1)]
    exact hr1
  have hu2 : (w1.alloc (.cells #[.int .u8 165] E)).heap[w1.heap.size]? = some (.cells #[.int .u8 (((165 : UInt8).toNat : Nat) : Int)] E) := heap_alloc_new _ _
  obtain ⟨g, c2, w3, y2, f2, happ, hg3, k3, hgn, hgc, hgf⟩ := append_byte (P := P) TB E hTB hiE hr2 hsx (by rw [zeros_length, ← hsx]; omega) hcf hu2 (by rw [← hsx]; exact hs1)
  have hsz2 : (w1.alloc (.cells #[.int .u8 165] E)).heap.size = wr.heap.size + 2 := by simp; omega
  have K3 : Keeps wr w3 (fun _ => False) := k2.trans k3 (fun i hi e => by omega)
  have hg0 : wr.heap.size ≤ g := by rcases hgn with e | e <;> omega
  have hglt : g < w3.heap.size := heap_lt hg3
  -- the list of whole parts
  have K4 : Keeps wr (w3.alloc (.cells #[.slice (some ⟨g, 0, none⟩) (s.size + 1) c2] TB)) (fun _ => False) := K3.alloc _
  have wv4 := ownsRow_keeps R.ow K4 (fun _ _ => id)
  obtain ⟨gw, cw, w5, happw, ow5, k5, hgw⟩ := append_one (P := P) TP TB (.slice none 0 0) 24 hTP hiB rfl wv4 (h := w3.heap.size) (heap_alloc_new _ _) rfl (by omega) (by unfold maxLen; omega) (by have := K4.size; omega)
  have hg4 : (w3.alloc (.cells #[.slice (some ⟨g, 0, none⟩) (s.size + 1) c2] TB)).heap[g]? = some (.cells (rowOf (s.data.toList ++ [165] ++ y2)) E f2) := by
    rw [Below.heap_alloc _ _ _ hglt]
    exact hg3
  have hsz4 : (w3.alloc (.cells #[.slice (some ⟨g, 0, none⟩) (s.size + 1) c2] TB)).heap.size = w3.heap.size + 1 := by simp
  have hgwv : ¬ wv.ownBlock = some g := fun e => by have := own_lt R.ow e; omega
  have hg5 : w5.heap[g]? = some (.cells (rowOf (s.data.toList ++ [165] ++ y2)) E f2) := (k5.block g (heap_lt hg4) hgwv).trans hg4
  have hhd := run_slice_head (P := P) w5 TB E hTB hiE g (s.size + 1) c2 s.size (by omega)
  -- the list that is handed in
  have K5 : Keeps wr (w5.alloc (.cells #[.slice (some ⟨g, 0, none⟩) s.size c2] TB)) (fun k => wv.ownBlock = some k) := ((K4.mono (fun _ _ x => x.elim)).trans k5 (fun _ _ x => x)).alloc _
  have lv6 := ownsRow_keeps R.ol K5 (fun k h1 h2 => R.apart k h1 h2)
  obtain ⟨gl, cl, w7, happl, ol7, k7, hgl⟩ := append_one (P := P) TP TB (.slice none 0 0) 24 hTP hiB rfl lv6 (h := w5.heap.size) (heap_alloc_new _ _) rfl (by omega) (by unfold maxLen; omega) (by have := K5.size; omega)
  have hsz6 : (w5.alloc (.cells #[.slice (some ⟨g, 0, none⟩) s.size c2] TB)).heap.size = w5.heap.size + 1 := by simp
  have hs5 : wr.heap.size ≤ w5.heap.size := by have := K5.size; have := k5.size; have := K4.size; omega
  have hg6 : (w5.alloc (.cells #[.slice (some ⟨g, 0, none⟩) s.size c2] TB)).heap[g]? = some (.cells (rowOf (s.data.toList ++ [165] ++ y2)) E f2) := by
    rw [Below.heap_alloc _ _ _ (heap_lt hg5)]
    exact hg5
  have hglv : ¬ lv.ownBlock = some g := fun e => by have := own_lt R.ol e; omega
  have hg7 : w7.heap[g]? = some (.cells (rowOf (s.data.toList ++ [165] ++ y2)) E f2) := (k7.block g (heap_lt hg6) hglv).trans hg6
  have K7 : Keeps wr w7 (fun k => wv.ownBlock = some k ∨ lv.ownBlock = some k) := (K5.mono (fun _ _ x => Or.inl x)).trans k7 (fun _ _ x => Or.inr x)
  have hgw5 : gw < w5.heap.size := own_lt ow5 rfl
  have owl : ∀ k, Value.ownBlock (.slice (some ⟨gw, 0, none⟩) (xs.length + 1) cw) = some k → ¬ lv.ownBlock = some k := fun k hk e => by
    have hk' : gw = k := by simpa [Value.ownBlock] using hk
    subst hk'
    rcases hgw with hgw | hgw
    · exact R.apart gw e hgw
    · have := own_lt R.ol e
      have := K3.size
      omega
  have ow7 := ownsRow_keeps (ownsRow_keeps ow5 ((Keeps.refl w5 (fun _ => False)).alloc (.cells #[.slice (some ⟨g, 0, none⟩) s.size c2] TB)) (fun _ _ => id)) k7 owl
  refine ⟨w1, c, w3, g, c2, w5, gw, cw, w7, gl, cl, hconv, happ, happw, hhd, happl, ⟨_, _, ⟨by simpa using ol7, by simpa using ow7, ?_, by simp [R.len], ?_, ?_⟩⟩, ?_⟩
  · intro k h1 h2
    have e1 : gl = k := by simpa [Value.ownBlock] using h1
    have e2 : gw = k := by simpa [Value.ownBlock] using h2
    subst e1
    rcases hgl with hgl | hgl
    · exact owl gl h2 hgl
    · omega
  · rw [List.nodup_append]
    refine ⟨R.nodup, by simp, fun a ha b hb => ?_⟩
    have hb' : b = g := by simpa using hb
    subst hb'
    obtain ⟨j, hj, rfl⟩ := List.mem_iff_getElem.1 ha
    obtain ⟨hb, _, _, _, _, e1, _, _, _, e5, _⟩ := R.part j (by rw [← R.len]; exact hj)
    rw [List.getElem?_eq_getElem hj] at e1
    have e1' : hs[j] = hb := Option.some.inj e1
    have := heap_lt e5
    omega
  · intro j hj
    have hvl : vs.length = xs.length := by have := R.ol.1; omega
    have hwl : ws.length = xs.length := by have := R.ow.1; omega
    by_cases hlt : j < xs.length
    · obtain ⟨hb, c1, c2', y, f, e1, e2, e3, e4, e5, e6⟩ := R.part j hlt
      have ex : (xs ++ [s.data.toList])[j] = xs[j] := List.getElem_append_left hlt
      rw [ex]
      refine ⟨hb, c1, c2', y, f, ?_, ?_, ?_, e4, ?_, e6⟩
      · rw [List.getElem?_append_left (by rw [R.len]; exact hlt)]; exact e1
      · rw [List.getElem?_append_left (by rw [hvl]; exact hlt)]; exact e2
      · rw [List.getElem?_append_left (by rw [hwl]; exact hlt)]; exact e3
      · refine (K7.block hb (heap_lt e5) ?_).trans e5
        rintro (e | e)
        · obtain ⟨_, cur, hc⟩ := ownsRow_block R.ow e
          rw [hc] at e5
          injection e5 with e5
          injection e5 with _ e5
          exact hne e5.symm
        · obtain ⟨_, cur, hc⟩ := ownsRow_block R.ol e
          rw [hc] at e5
          injection e5 with e5
          injection e5 with _ e5
          exact hne e5.symm
    · have hj' : j = xs.length := by simp at hj; omega
      subst hj'
      have ex : (xs ++ [s.data.toList])[xs.length] = s.data.toList := by simp
      rw [ex, ← hsx]
      refine ⟨g, c2, c2, y2, f2, ?_, ?_, ?_, by omega, hg7, hgf⟩
      · rw [← R.len]; simp
      · rw [← hvl]; simp
      · rw [← hwl]; simp
  · refine K7.mono (fun i hi e => ?_)
    rcases e with e | e
    · exact (ownsRow_block R.ow e).1
    · exact (ownsRow_block R.ol e).1
end
end Go.Proofs.Ytlgmpnaalifegab
