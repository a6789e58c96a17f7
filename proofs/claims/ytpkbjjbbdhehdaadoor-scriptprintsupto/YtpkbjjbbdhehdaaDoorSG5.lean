/-
  script: the reference's Line as data; rows of bytes that grow.
-/
import Derived.Test.YtpkbjjbbdhehdaaDoorSG4
import Derived.Deep.AppendSrc
namespace Go.Proofs.YtpkbjjbbdhehdaaDoor
open Go.RowKit
set_option linter.unusedVariables false

def lnD (c : CmdD) : List UInt8 := if 1 ≤ c.op ∧ c.op ≤ 14 then lineW (c.op.toNat + 1) c else []
theorem bext {a b : ByteArray} (h : a.data.toList = b.data.toList) : a = b := ByteArray.ext (Array.toList_inj.1 h)
theorem nums_tail (l : List Int) : tailD (l.map numD) = numsL l := by
  induction l with
  | nil => rfl
  | cons n r ih =>
    have e : tailD ((n :: r).map numD) = (32 :: (numD n).data.toList) ++ tailD (r.map numD) := rfl
    have e2 : numsL (n :: r) = (32 :: Lib.itoa n) ++ numsL r := rfl
    rw [e, e2, ih, numD, strOf_data]
theorem ln_eq {w : World} {c : CmdD} {fs hs : Value} (hc : CmdIn w c fs hs) : Calls Tryd.prog 14 #[.agg (c.vals fs hs)] w fun e w' => e = .returned (.string (strOf (lnD c))) ∧ Keeps w w' (fun _ => False) := by
  obtain ⟨sf, nf, cf, rfl⟩ := hc.f.slice
  obtain ⟨sh, nh, ch, rfl⟩ := hc.s.slice
  obtain ⟨op, h, u, v, n, key, elem, fl, hl⟩ := c
  by_cases hno : ¬ (1 ≤ op ∧ op ≤ 14)
  · have e : lnD ⟨op, h, u, v, n, key, elem, fl, hl⟩ = [] := if_neg hno
    have e2 : nameD op = ⟨#[]⟩ := if_neg hno
    rw [e]
    have := rl_no op h n u v key elem fl hl sf sh nf cf nh ch w hc hno
    rw [e2] at this
    exact this
  · have hyes : 1 ≤ op ∧ op ≤ 14 := Decidable.not_not.1 hno
    have e : lnD ⟨op, h, u, v, n, key, elem, fl, hl⟩ = lineW (op.toNat + 1) ⟨op, h, u, v, n, key, elem, fl, hl⟩ := if_pos hyes
    rw [e]
    have hcase : op = 1 ∨ op = 2 ∨ op = 3 ∨ op = 4 ∨ op = 5 ∨ op = 6 ∨ op = 7 ∨ op = 8 ∨ op = 9 ∨ op = 10 ∨ op = 11 ∨ op = 12 ∨ op = 13 ∨ op = 14 := by omega
    clear hno hyes e
    rcases hcase with rfl | rfl | rfl | rfl | rfl | rfl | rfl | rfl | rfl | rfl | rfl | rfl | rfl | rfl
    · refine (rl_1 h n u v key elem fl hl sf sh nf cf nh ch w hc).mono ?_
      rintro r w' ⟨rfl, k⟩
      refine ⟨?_, k⟩
      have e2 : lineW 2 ⟨1, h, u, v, n, key, elem, fl, hl⟩ = (nameD 1).data.toList ++ (tailD [wordD u] ++ (tailD [numD n] ++ tailD (fl.map numD))) := by
        rw [← tail_append, ← tail_append]
        show (nmN 2).data.toList ++ tailD ([wordD u] ++ ([numD n] ++ (fl.map numD ++ []))) = _
        rw [List.append_nil]
        rfl
      congr 2
      apply bext
      show _ = (strOf (lineW 2 _)).data.toList
      rw [strOf_data, e2, nums_tail]
      simp [tailD, strOf]
    · refine (rl_2 h n u v key elem fl hl sf sh nf cf nh ch w hc).mono ?_
      rintro r w' ⟨rfl, k⟩
      refine ⟨?_, k⟩
      have e2 : lineW 3 ⟨2, h, u, v, n, key, elem, fl, hl⟩ = (nameD 2).data.toList ++ tailD [numD h, bytesD key] := rfl
      congr 2
      apply bext
      show _ = (strOf (lineW 3 _)).data.toList
      rw [strOf_data, e2]
      simp [tailD]
    · refine (rl_3 h n u v key elem fl hl sf sh nf cf nh ch w hc).mono ?_
      rintro r w' ⟨rfl, k⟩
      refine ⟨?_, k⟩
      have e2 : lineW 4 ⟨3, h, u, v, n, key, elem, fl, hl⟩ = (nameD 3).data.toList ++ tailD [numD h, bytesD key, bytesD elem] := rfl
      congr 2
      apply bext
      show _ = (strOf (lineW 4 _)).data.toList
      rw [strOf_data, e2]
      simp [tailD]
    · refine (rl_4 h n u v key elem fl hl sf sh nf cf nh ch w hc).mono ?_
      rintro r w' ⟨rfl, k⟩
      refine ⟨?_, k⟩
      have e2 : lineW 5 ⟨4, h, u, v, n, key, elem, fl, hl⟩ = (nameD 4).data.toList ++ tailD [numD h, bytesD key] := rfl
      congr 2
      apply bext
      show _ = (strOf (lineW 5 _)).data.toList
      rw [strOf_data, e2]
      simp [tailD]
    · refine (rl_5 h n u v key elem fl hl sf sh nf cf nh ch w hc).mono ?_
      rintro r w' ⟨rfl, k⟩
      refine ⟨?_, k⟩
      have e2 : lineW 6 ⟨5, h, u, v, n, key, elem, fl, hl⟩ = (nameD 5).data.toList ++ tailD [numD h] := rfl
      congr 2
      apply bext
      show _ = (strOf (lineW 6 _)).data.toList
      rw [strOf_data, e2]
      simp [tailD]
    · refine (rl_6 h n u v key elem fl hl sf sh nf cf nh ch w hc).mono ?_
      rintro r w' ⟨rfl, k⟩
      refine ⟨?_, k⟩
      have e2 : lineW 7 ⟨6, h, u, v, n, key, elem, fl, hl⟩ = (nameD 6).data.toList ++ tailD [numD h, wordD u] := rfl
      congr 2
      apply bext
      show _ = (strOf (lineW 7 _)).data.toList
      rw [strOf_data, e2]
      simp [tailD]
    · refine (rl_7 h n u v key elem fl hl sf sh nf cf nh ch w hc).mono ?_
      rintro r w' ⟨rfl, k⟩
      refine ⟨?_, k⟩
      have e2 : lineW 8 ⟨7, h, u, v, n, key, elem, fl, hl⟩ = (nameD 7).data.toList ++ tailD [numD h] := rfl
      congr 2
      apply bext
      show _ = (strOf (lineW 8 _)).data.toList
      rw [strOf_data, e2]
      simp [tailD]
    · refine (rl_8 h n u v key elem fl hl sf sh nf cf nh ch w hc).mono ?_
      rintro r w' ⟨rfl, k⟩
      refine ⟨?_, k⟩
      have e2 : lineW 9 ⟨8, h, u, v, n, key, elem, fl, hl⟩ = (nameD 8).data.toList ++ tailD [numD h, wordD u, wordD v] := rfl
      congr 2
      apply bext
      show _ = (strOf (lineW 9 _)).data.toList
      rw [strOf_data, e2]
      simp [tailD]
    · refine (rl_9 h n u v key elem fl hl sf sh nf cf nh ch w hc).mono ?_
      rintro r w' ⟨rfl, k⟩
      refine ⟨?_, k⟩
      have e2 : lineW 10 ⟨9, h, u, v, n, key, elem, fl, hl⟩ = (nameD 9).data.toList ++ tailD [numD h] := rfl
      congr 2
      apply bext
      show _ = (strOf (lineW 10 _)).data.toList
      rw [strOf_data, e2]
      simp [tailD]
    · refine (rl_10 h n u v key elem fl hl sf sh nf cf nh ch w hc).mono ?_
      rintro r w' ⟨rfl, k⟩
      refine ⟨?_, k⟩
      have e2 : lineW 11 ⟨10, h, u, v, n, key, elem, fl, hl⟩ = (nameD 10).data.toList ++ tailD (hl.map numD) := by
        show (nmN 11).data.toList ++ tailD (hl.map numD ++ []) = _
        rw [List.append_nil]
        rfl
      congr 2
      apply bext
      show _ = (strOf (lineW 11 _)).data.toList
      rw [strOf_data, e2, nums_tail]
      simp [strOf]
    · refine (rl_11 h n u v key elem fl hl sf sh nf cf nh ch w hc).mono ?_
      rintro r w' ⟨rfl, k⟩
      refine ⟨?_, k⟩
      congr 2
    · refine (rl_12 h n u v key elem fl hl sf sh nf cf nh ch w hc).mono ?_
      rintro r w' ⟨rfl, k⟩
      refine ⟨?_, k⟩
      have e2 : lineW 13 ⟨12, h, u, v, n, key, elem, fl, hl⟩ = (nameD 12).data.toList ++ tailD [numD h, bytesD key] := rfl
      congr 2
      apply bext
      show _ = (strOf (lineW 13 _)).data.toList
      rw [strOf_data, e2]
      simp [tailD]
    · refine (rl_13 h n u v key elem fl hl sf sh nf cf nh ch w hc).mono ?_
      rintro r w' ⟨rfl, k⟩
      refine ⟨?_, k⟩
      have e2 : lineW 14 ⟨13, h, u, v, n, key, elem, fl, hl⟩ = (nameD 13).data.toList ++ tailD [numD h] := rfl
      congr 2
      apply bext
      show _ = (strOf (lineW 14 _)).data.toList
      rw [strOf_data, e2]
      simp [tailD]
    · refine (rl_14 h n u v key elem fl hl sf sh nf cf nh ch w hc).mono ?_
      rintro r w' ⟨rfl, k⟩
      refine ⟨?_, k⟩
      congr 2

/-- A row of bytes of one's own, from block lo on; the room behind it may be written. -/
def BRow (lo : Nat) (W : World) (v : Value) (l : List UInt8) : Prop := ∃ h c, v = .slice (some ⟨h, 0, none⟩) l.length c ∧ lo ≤ h ∧ l.length ≤ c ∧ (∀ j (hj : j < l.length), W.cell? ⟨h, j, none⟩ = some (.int .u8 (l[j].toNat : Int))) ∧ ∀ j, l.length ≤ j → j < c → (W.cell? ⟨h, j, none⟩).isSome = true ∧ W.frozen? ⟨h, j, none⟩ = false
theorem cell_lt {w : World} {b j : Nat} (h : (w.cell? ⟨b, j, none⟩).isSome = true) : b < w.heap.size := by
  rcases Nat.lt_or_ge b w.heap.size with h1 | h1
  · exact h1
  · simp [World.cell?, Array.getElem?_eq_none h1] at h
theorem frozen_keeps {w w' : World} (k : Keeps w w' (fun _ => False)) {b j : Nat} (hb : b < w.heap.size) : w'.frozen? ⟨b, j, none⟩ = w.frozen? ⟨b, j, none⟩ := by
  simp only [World.frozen?, k.block b hb id]
theorem BRow.keeps {lo : Nat} {W W' : World} {v : Value} {l : List UInt8} (h : BRow lo W v l) (k : Keeps W W' (fun _ => False)) : BRow lo W' v l := by
  obtain ⟨b, c, rfl, h1, h2, h3, h4⟩ := h
  refine ⟨b, c, rfl, h1, h2, fun j hj => keeps_cell k (h3 j hj), fun j hj hc => ?_⟩
  obtain ⟨e1, e2⟩ := h4 j hj hc
  obtain ⟨u, hu⟩ := Option.isSome_iff_exists.1 e1
  exact ⟨by rw [keeps_cell k hu]; rfl, (frozen_keeps k (cell_lt e1)).trans e2⟩
theorem BRow.made {W W2 : World} {s : List UInt8} {c : Nat} {fz : Nat × Nat} {lo : Nat} (hlo : lo ≤ W.heap.size) (h : W2.heap[W.heap.size]? = some (.cells (rowOf (s ++ zeros (c - s.length))) 5 fz)) (hc : s.length ≤ c) (hfz : c ≤ fz.1) : BRow lo W2 (.slice (some ⟨W.heap.size, 0, none⟩) s.length c) s := by
  have hlen : (s ++ zeros (c - s.length)).length = c := by
    rw [List.length_append, zeros_length]
    omega
  refine ⟨_, _, rfl, hlo, hc, fun j hj => ?_, fun j hj hjc => ⟨?_, ?_⟩⟩
  · have := rowOf_get (s ++ zeros (c - s.length)) j (by omega)
    rw [List.getElem_append_left hj] at this
    simp only [World.cell?, h]
    exact this
  · have := rowOf_get (s ++ zeros (c - s.length)) j (by omega)
    simp only [World.cell?, h]
    rw [this]
    rfl
  · simp only [World.frozen?, h]
    rw [Bool.and_eq_false_iff]
    left
    rw [decide_eq_false_iff_not]
    omega
theorem keeps_setCells {W : World} {h lo : Nat} (hlo : lo ≤ h) (vs : List Value) (o : Nat) : Keeps W (W.setCells h o vs) (fun k => lo ≤ k) := by
  induction vs generalizing W o with
  | nil => exact Keeps.refl _ _
  | cons v r ih => exact ((Keeps.refl W (fun k => lo ≤ k)).setCell ⟨h, o, none⟩ (fun _ => hlo) v).trans (ih (o + 1)) (fun _ _ e => e)
/-- Several bytes behind a row of one's own. -/
theorem BRow.more {lo : Nat} {W : World} {v : Value} {l : List UInt8} (h : BRow lo W v l) (hlo : lo ≤ W.heap.size) {p c2 : Nat} {us : List UInt8} (hu : ∀ j (hj : j < us.length), W.cell? ⟨p, j, none⟩ = some (.int .u8 (us[j].toNat : Int))) (hl : l.length + us.length ≤ 1099511627776) :
    ∃ v' W', (∀ ty, (Builtin.append_ #[39, 39] ty #[v, .slice (some ⟨p, 0, none⟩) us.length c2]).run Tryd.prog W = .ok v' W') ∧ BRow lo W' v' (l ++ us) ∧ Keeps W W' (fun k => lo ≤ k) := by
  obtain ⟨g, c, rfl, h1, h2, h3, h4⟩ := h
  obtain ⟨i, hi1, hi2, hi3, hi4⟩ := info_parts Tryd.infoE
  have hsrc : Src Tryd.prog i.size 39 (.slice (some ⟨p, 0, none⟩) us.length c2) us.length (cellsOf us) W := Src.ofSlice W Tryd.underlying39 ⟨p, 0, none⟩ us.length c2 (cellsOf us) (by rw [hi3, cellsOf_length, Nat.mul_one]) (fun j u hj => by
    unfold cellsOf at hj
    rw [List.getElem?_map] at hj
    obtain ⟨z, hz, rfl⟩ := Option.map_eq_some_iff.1 hj
    obtain ⟨hj2, rfl⟩ := List.getElem?_eq_some_iff.1 hz
    rw [addr_add, Nat.zero_add]
    exact hu j hj2) cellsOf_one
  by_cases hroom : l.length + us.length ≤ c
  · have hr := fun ty => run_append_room_src (P := Tryd.prog) W 39 39 ty 5 i Tryd.underlying39 hi1 g 0 l.length c _ us.length (cellsOf us) hsrc hroom
      (fun j hj => by
        rw [cellsOf_length] at hj
        rw [hi3]
        exact (h4 (0 + l.length * 1 + j) (by omega) (by omega)).1)
      (fun j hj => by
        rw [cellsOf_length] at hj
        rw [hi3]
        exact (h4 (0 + l.length * 1 + j) (by omega) (by omega)).2)
    rw [hi3, show 0 + l.length * 1 = l.length by omega] at hr
    refine ⟨_, _, hr, ⟨g, c, by rw [List.length_append], h1, by rw [List.length_append]; exact hroom, fun j hj => ?_, fun j hj hc => ?_⟩, keeps_setCells h1 _ _⟩
    · by_cases hjl : j < l.length
      · rw [World.cell?_setCells_out g (cellsOf us) l.length W ⟨g, j, none⟩ (fun _ _ => Or.inl hjl), h3 j hjl, List.getElem_append_left hjl]
      · have hj2 : j - l.length < us.length := by
          rw [List.length_append] at hj
          omega
        have := World.cell?_setCells_in g (cellsOf us) l.length W (fun m hm => by
          rw [cellsOf_length] at hm
          exact (h4 (l.length + m) (by omega) (by omega)).1) (j - l.length) (by rw [cellsOf_length]; exact hj2)
        rw [show l.length + (j - l.length) = j by omega] at this
        rw [this, List.getElem_append_right (by omega)]
        simp [cellsOf, cellOf]
    · rw [List.length_append] at hj
      obtain ⟨e1, e2⟩ := h4 j (by omega) hc
      refine ⟨?_, ?_⟩
      · rw [World.cell?_setCells_out g (cellsOf us) l.length W ⟨g, j, none⟩ (fun _ _ => Or.inr (by rw [cellsOf_length]; exact hj))]
        exact e1
      · rw [World.frozen?_setCells]
        exact e2
  · have hold : ∀ j u, (cellsOf l)[j]? = some u → W.drew.cell? ((⟨g, 0, none⟩ : Addr).add j) = some u := fun j u hj => by
      unfold cellsOf at hj
      rw [List.getElem?_map] at hj
      obtain ⟨z, hz, rfl⟩ := Option.map_eq_some_iff.1 hj
      obtain ⟨hj2, rfl⟩ := List.getElem?_eq_some_iff.1 hz
      rw [addr_add, Nat.zero_add]
      exact h3 j hj2
    have hr := fun ty => run_append_grow_src (P := Tryd.prog) W 39 39 ty 5 i (.int .u8 0) Tryd.underlying39 hi1 hi2 (some ⟨g, 0, none⟩) l.length c (cellsOf l) (run_firstCells_some (P := Tryd.prog) W.drew i.size l.length ⟨g, 0, none⟩ l.length c (cellsOf l) (by rw [hi3, cellsOf_length, Nat.mul_one]) hold) _ us.length (cellsOf us) hsrc (by omega) (by omega)
      (by have := nextslicecap_le (need := l.length + us.length) (old := c) (by omega); rw [hi4]; omega)
    have hge := grownCap_ge W (l.length + us.length) c 5
    have hnew := heap_alloc_new W.drew (.cells ((cellsOf l ++ cellsOf us).toArray ++ Builtin.zeroCells (Value.int .u8 0).cells (grownCap W (l.length + us.length) c 5 - (l.length + us.length))) 5)
    have hrow : (cellsOf l ++ cellsOf us).toArray ++ Builtin.zeroCells (Value.int .u8 0).cells (grownCap W (l.length + us.length) c 5 - (l.length + us.length)) = rowOf ((l ++ us) ++ zeros (grownCap W (l.length + us.length) c 5 - (l ++ us).length)) := by
      apply Array.ext'
      rw [rowOf_toList]
      simp [cellsOf, cellOf, zeros, Builtin.zeroCells, Value.cells]
      apply List.ext_getElem
      · simp
      · intro j a b
        simp [Nat.mod_one]
    rw [hrow] at hnew hr
    have hlen : ((l ++ us) ++ zeros (grownCap W (l.length + us.length) c 5 - (l ++ us).length)).length = grownCap W (l.length + us.length) c 5 := by
      rw [List.length_append, zeros_length, List.length_append]
      omega
    refine ⟨_, _, hr, ⟨W.heap.size, _, by rw [List.length_append], hlo, by rw [List.length_append]; exact hge, fun j hj => ?_, fun j hj hc => ⟨?_, ?_⟩⟩, (((Keeps.refl W _).drew).alloc _)⟩
    · have := rowOf_get ((l ++ us) ++ zeros (grownCap W (l.length + us.length) c 5 - (l ++ us).length)) j (by rw [List.length_append]; omega)
      rw [List.getElem_append_left hj] at this
      simp only [World.cell?]
      rw [show (W.drew.alloc _).heap[W.heap.size]? = _ from hnew]
      exact this
    · have := rowOf_get ((l ++ us) ++ zeros (grownCap W (l.length + us.length) c 5 - (l ++ us).length)) j (by rw [hlen]; exact hc)
      simp only [World.cell?]
      rw [show (W.drew.alloc _).heap[W.heap.size]? = _ from hnew]
      show ((rowOf _)[j]?).isSome = true
      rw [this]
      rfl
    · simp only [World.frozen?]
      rw [show (W.drew.alloc _).heap[W.heap.size]? = _ from hnew]
      simp
end Go.Proofs.YtpkbjjbbdhehdaaDoor
