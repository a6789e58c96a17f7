/-
  script: pairsOfDigits.
-/
import Derived.Test.YtomlmbhbadicbaaDoorSC15
import Derived.RangeFuncRecord
namespace Go.Proofs.YtomlmbhbadicbaaDoor
open Go.RowKit
set_option linter.unusedVariables false

def pairB (a b : UInt8) : UInt8 := UInt8.ofNat (16 * (digD (a.toNat : Int)).toNat + (digD (b.toNat : Int)).toNat)
def pairsD : List UInt8 → List UInt8
  | a :: b :: r => pairB a b :: pairsD r
  | _ => []
theorem pairs_odd : ∀ (k : Nat) (l : List UInt8), 2 * k + 1 ≤ l.length → pairsD (l.take (2 * k + 1)) = pairsD (l.take (2 * k))
  | 0, a :: r, _ => by simp [pairsD]
  | 0, [], h => by simp at h
  | k + 1, a :: b :: r, h => by
    have ih := pairs_odd k r (by simp at h; omega)
    rw [show 2 * (k + 1) + 1 = 2 * k + 1 + 1 + 1 by omega, show 2 * (k + 1) = 2 * k + 1 + 1 by omega, List.take_succ_cons, List.take_succ_cons, List.take_succ_cons, List.take_succ_cons, pairsD, pairsD, ih]
  | k + 1, [a], h => by simp at h
  | k + 1, [], h => by simp at h
theorem pairs_even : ∀ (k : Nat) (l : List UInt8) (h : 2 * k + 1 < l.length), pairsD (l.take (2 * k + 2)) = pairsD (l.take (2 * k)) ++ [pairB l[2 * k] l[2 * k + 1]]
  | 0, a :: b :: r, _ => by simp [pairsD]
  | 0, [a], h => by simp at h
  | 0, [], h => by simp at h
  | k + 1, a :: b :: r, h => by
    have ih := pairs_even k r (by simp at h; omega)
    rw [show 2 * (k + 1) + 2 = 2 * k + 2 + 1 + 1 by omega, List.take_succ_cons, List.take_succ_cons, pairsD, ih]
    simp only [show 2 * (k + 1) = 2 * k + 1 + 1 by omega, List.take_succ_cons, pairsD, List.cons_append]
    rfl
  | k + 1, [a], h => by simp at h
  | k + 1, [], h => by simp at h
theorem pairs_len : ∀ l : List UInt8, (pairsD l).length = l.length / 2
  | a :: b :: r => by
    rw [pairsD, List.length_cons, pairs_len r]
    simp
    omega
  | [a] => by simp [pairsD]
  | [] => by simp [pairsD]
theorem digD_pos (c : Int) (h : 0 ≤ c) : 0 ≤ digD c := by
  unfold digD
  repeat' split
  all_goals omega
theorem pairB_val {a b : UInt8} (ha : digD (a.toNat : Int) < 16) (hb : digD (b.toNat : Int) < 16) : ((pairB a b).toNat : Int) = 16 * digD (a.toNat : Int) + digD (b.toNat : Int) := by
  have h1 := digD_pos (a.toNat : Int) (by omega)
  have h2 := digD_pos (b.toNat : Int) (by omega)
  unfold pairB
  rw [UInt8.toNat_ofNat']
  omega
theorem run_next_at {P : Program} {W : World} {B : Nat} {s : ByteArray} {pos : Nat} (ty : TypeId) (hB : W.heap[B]? = some (.stringIter s pos)) (h : pos < s.size) (ha : (s[pos]'h).toNat < 128) :
    (Instr.next (.pointer (some ⟨B, 0, none⟩)) true ty).run P W = .ok (.tuple #[.bool true, .int .i64 pos, .int .i32 (s[pos]'h).toNat]) (W.putObj B (.stringIter s (pos + 1))) := by
  simp only [Instr.next, getObj, setObj, Sem.run_bind, Sem.run, hB, Result.andThen, h, if_true, decode_ascii s pos h ha]
  simp [goInt, World.putObj]
theorem run_next_end_at {P : Program} {W : World} {B : Nat} {s : ByteArray} {pos : Nat} (ty : TypeId) (hB : W.heap[B]? = some (.stringIter s pos)) (h : ¬ pos < s.size) :
    (Instr.next (.pointer (some ⟨B, 0, none⟩)) true ty).run P W = .ok (.tuple #[.bool false]) W := by
  simp [Instr.next, getObj, Sem.run, hB, h]
theorem Keeps.put {w W : World} (k : Keeps w W (fun _ => False)) {B : Nat} (hB : w.heap.size ≤ B) (o : Obj) : Keeps w (W.putObj B o) (fun _ => False) :=
  ⟨k.os, k.tape, k.output, Nat.le_trans k.size (by simp [World.putObj]), fun q hq hn => (World.putObj_heap_other (by omega)).trans (k.block q hq hn)⟩
theorem row_put {W : World} {base : Nat} {v : Value} {n : Nat} {xs : List Value} (h : W.ownsRow base 5 1 v n xs) {B : Nat} {s : ByteArray} {pos : Nat} (hB : W.heap[B]? = some (.stringIter s pos)) (o : Obj) : (W.putObj B o).ownsRow base 5 1 v n xs := by
  refine ⟨h.1, ?_⟩
  rcases h.2 with h2 | ⟨g, cap, cur, e1, e2, e3, r⟩
  · exact Or.inl h2
  · refine Or.inr ⟨g, cap, cur, e1, e2, ?_, r⟩
    rw [World.putObj_heap_other (fun e => ?_)]
    · exact e3
    · rw [e, hB] at e3
      cases e3
set_option maxRecDepth 100000 in
set_option maxHeartbeats 2000000 in
theorem pairs_any (s : ByteArray) (hs : s.size ≤ 8388608) (hall : allB 16 s.data.toList) (w : World) : Calls Tryd.prog 38 #[.string s] w fun e w' => e = .returned (.string (strOf (pairsD s.data.toList))) ∧ Keeps w w' (fun _ => False) := by
  obtain ⟨S, hS⟩ : ∃ S, strOf (pairsD s.data.toList) = S := ⟨_, rfl⟩
  rw [hS]
  have hsz : s.data.toList.length = s.size := rfl
  obtain ⟨i5, q1, q2, q3, q4⟩ := info_parts Tryd.infoE
  obtain ⟨c0, hc0⟩ : ∃ c0, s.size / 2 = c0 := ⟨_, rfl⟩
  obtain ⟨w0, hmk, hown0, hgr0⟩ := run_make_own (P := Tryd.prog) w w.heap.size 44 5 i5 (.int .u8 0) 1 Tryd.underlying44 q1 q2 q3 .i64 .i64 c0 (by rw [q4]; omega) (by simp only [maxLen]; omega) (Nat.le_refl _)
  have K0 : Keeps w w0 (fun _ => False) := (Keeps.ofGrown hgr0).mono (fun _ _ e => by cases e)
  have e2 : (c0 : Int) = (s.size : Int) / 2 := by omega
  rw [e2] at hmk
  have HO := hide hown0
  have HK0 := hide K0
  have HA := hide hall
  have HS := hide hS
  clear hown0 K0 hgr0 e2 q1 q2 q3 q4 hall hS
  go_enter Tryd.func38, Tryd.ntmps38
  go_wp2_with fail
  clear hmk
  go_loopg [3, 4] s.size (fun gm v3 v4 wr => ∃ (pos g c m : Nat) (hi : Int), gm = s.size - pos ∧ pos ≤ s.size ∧ Hid (m = pos / 2) ∧ v3 = .slice (some ⟨g, 0, none⟩) m c ∧ v4 = .int .i64 hi ∧ Hid (∀ k, pos = 2 * k + 1 → ∃ hk, hi = digD (((s.data.toList[2 * k]'hk).toNat : Nat) : Int)) ∧ wr.heap[w0.heap.size]? = some (.stringIter s pos) ∧ Hid (wr.ownsRow w.heap.size 5 1 (.slice (some ⟨g, 0, none⟩) m c) m (cellsOf (pairsD (s.data.toList.take pos)))) ∧ Hid (Keeps w wr (fun _ => False)))
  case atStart => exact ⟨0, w.heap.size, c0, 0, 0, rfl, Nat.zero_le _, rfl, rfl, rfl, fun k h => by omega, World.iter_heap _ _ _, HO.out.alloc _, HK0.out.alloc _⟩
  case round =>
    obtain ⟨pos, g, c, m, hi, rfl, hp, Hm, rfl, rfl, Hhi, hit, HR, HK⟩ := hrel
    have hB0 : w.heap.size ≤ w0.heap.size := HK0.out.size
    by_cases hlt : pos < s.size
    · obtain ⟨x, hx⟩ : ∃ x, s[pos] = x := ⟨_, rfl⟩
      have hxl : s.data.toList[pos]'(by omega) = x := hx
      have hdx : digD (x.toNat : Int) < 16 := HA.out x (hxl ▸ List.getElem_mem _)
      have h128 : (s[pos]'hlt).toNat < 128 := by rw [hx]; exact small_ascii hdx (by omega)
      have hN := fun ty => run_next_at (P := Tryd.prog) ty hit hlt h128
      rw [hx] at hN
      have hD := fun W => digit_any (x.toNat : Int) W
      have hms : s.size - (pos + 1) < s.size - pos := by omega
      have hit2 : (wr.putObj w0.heap.size (.stringIter s (pos + 1))).heap[w0.heap.size]? = some (.stringIter s (pos + 1)) := World.putObj_heap_same (heap_lt hit)
      have HR2 := hide (row_put HR.out hit (.stringIter s (pos + 1)))
      have HK2 := hide (HK.out.put hB0 (.stringIter s (pos + 1)))
      have Hit2 := hide hit2
      clear hit2 HR HK h128
      rcases Nat.mod_two_eq_zero_or_one pos with hm | hm
      · have e0 : ((pos : Int) % 2 == 0) = true := by
          have : (pos : Int) % 2 = 0 := by omega
          simp [this]
        obtain ⟨k, rfl⟩ : ∃ k, pos = 2 * k := ⟨pos / 2, by omega⟩
        have HX : Hid (∀ j, 2 * k + 1 = 2 * j + 1 → ∃ hk, digD (x.toNat : Int) = digD (((s.data.toList[2 * j]'hk).toNat : Nat) : Int)) := fun j hj => by
          obtain rfl : k = j := by omega
          exact ⟨by omega, by rw [hxl]⟩
        have HR3 : Hid ((wr.putObj w0.heap.size (.stringIter s (2 * k + 1))).ownsRow w.heap.size 5 1 (.slice (some ⟨g, 0, none⟩) m c) m (cellsOf (pairsD (s.data.toList.take (2 * k + 1))))) := by
          have := HR2.out
          rw [pairs_odd k _ (by omega)]
          exact this
        have Hm2 : Hid (m = (2 * k + 1) / 2) := by
          have := Hm.out
          show m = (2 * k + 1) / 2
          omega
        clear HR2 hdx hm Hhi
        generalize digD (x.toNat : Int) = dd at *
        go_wp2_with fail
        refine (hD _).mono ?_
        rintro e w2 ⟨rfl, rfl⟩
        go_wp2_with fail
        go_roundg (s.size - (2 * k + 1))
        case measure => exact hms
        case rel => exact ⟨2 * k + 1, g, c, m, dd, rfl, hlt, Hm2, rfl, rfl, HX, Hit2.out, HR3, HK2⟩
      · have e0 : ((pos : Int) % 2 == 0) = false := by
          have : (pos : Int) % 2 = 1 := by omega
          simp [this]
        obtain ⟨k, rfl⟩ : ∃ k, pos = 2 * k + 1 := ⟨pos / 2, by omega⟩
        have HXX : Hid (∀ j, 2 * k + 1 + 1 ≠ 2 * j + 1) := fun j hj => by omega
        have Hm2 : Hid (m + 1 = (2 * k + 1 + 1) / 2) := by
          have := Hm.out
          show m + 1 = (2 * k + 1 + 1) / 2
          omega
        have hmz : m + 1 ≤ 8388608 := by
          have := Hm.out
          omega
        obtain ⟨hk, rfl⟩ := Hhi.out k rfl
        obtain ⟨y, hy⟩ : ∃ y, s.data.toList[2 * k]'hk = y := ⟨_, rfl⟩
        have hdy : digD (y.toNat : Int) < 16 := HA.out y (hy ▸ List.getElem_mem _)
        have Hval := hide (pairB_val hdy hdx)
        have hp1 := digD_pos (y.toNat : Int) (by omega)
        have hp2 := digD_pos (x.toNat : Int) (by omega)
        have hev := pairs_even k s.data.toList (by omega)
        rw [hy, hxl] at hev
        have Hev := hide hev
        rw [hy]
        clear hev
        generalize digD (y.toNat : Int) = dh at *
        generalize digD (x.toNat : Int) = dd at *
        obtain ⟨g1, c1, w1, hap, hown1, k1, hg1⟩ := append_one (P := Tryd.prog) 44 5 (.int .u8 0) 1 Tryd.underlying44 Tryd.infoE rfl (HR2.out.alloc (.cells #[.int .u8 (16 * dh + dd)] 5)) (heap_alloc_new (wr.putObj w0.heap.size (.stringIter s (2 * k + 1 + 1))) (.cells #[.int .u8 (16 * dh + dd)] 5)) rfl (by omega) (by simp only [maxLen]; omega) (by rw [World.size_alloc]; have := HK2.out.size; omega)
        have hBne : (Value.slice (some ⟨g, 0, none⟩) m c).ownBlock ≠ some w0.heap.size := fun e => by
          obtain ⟨-, cur, hc⟩ := ownsRow_block HR2.out e
          rw [Hit2.out] at hc
          cases hc
        have Hit3 : Hid (w1.heap[w0.heap.size]? = some (.stringIter s (2 * k + 1 + 1))) := by
          have h1 : ((wr.putObj w0.heap.size (.stringIter s (2 * k + 1 + 1))).alloc (.cells #[.int .u8 (16 * dh + dd)] 5)).heap[w0.heap.size]? = some (.stringIter s (2 * k + 1 + 1)) := (((Keeps.refl _ (fun _ => False)).alloc _).blk Hit2.out)
          exact (k1.block _ (heap_lt h1) hBne).trans h1
        have HK3 : Hid (Keeps w w1 (fun _ => False)) := (HK2.out.alloc _).trans k1 (fun q hq e => by
          have := (ownsRow_block HR2.out e).1
          omega)
        have HR3 : Hid (w1.ownsRow w.heap.size 5 1 (.slice (some ⟨g1, 0, none⟩) (m + 1) c1) (m + 1) (cellsOf (pairsD (s.data.toList.take (2 * k + 1 + 1))))) := by
          rw [show 2 * k + 1 + 1 = 2 * k + 2 by omega, Hev.out]
          have h1 := hown1
          rw [pairs_odd k _ (by omega)] at h1
          show World.ownsRow _ _ _ _ _ _ _
          simpa [cellsOf, cellOf, Hval.out] using h1
        have HX : Hid (∀ j, 2 * k + 1 + 1 = 2 * j + 1 → ∃ hk, dh = digD (((s.data.toList[2 * j]'hk).toNat : Nat) : Int)) := fun j hj => absurd hj (HXX.out j)
        clear HR2 HK2 Hit2 hown1 k1 hg1 hBne Hval Hev hm Hhi
        have hsp : (wr.putObj w0.heap.size (.stringIter s (2 * k + 1 + 1))).heap.size = wr.heap.size := by simp [World.putObj]
        rw [hsp] at hap
        clear hsp
        go_wp2_with fail
        refine (hD _).mono ?_
        rintro e w2 ⟨rfl, rfl⟩
        go_wp2_with (at_builtin; have _t := hap; refine app_run _ rfl (.tmp 22) (.tmp 29) 44 rfl rfl rfl hap ?_; clear hap)
        go_roundg (s.size - (2 * k + 1 + 1))
        case measure => exact hms
        case rel => exact ⟨2 * k + 1 + 1, g1, c1, m + 1, dh, rfl, hlt, Hm2, rfl, rfl, HX, Hit3.out, HR3, HK3⟩
    · obtain rfl : pos = s.size := by omega
      have hN := fun ty => run_next_end_at (P := Tryd.prog) ty hit hlt
      have hrow := HR.out
      rw [List.take_of_length_le (Nat.le_of_eq hsz)] at hrow
      have hlen : (pairsD s.data.toList).length = s.size / 2 := by rw [pairs_len, hsz]
      have hlen2 : (pairsD s.data.toList).length = m := by rw [hlen, Hm.out]
      have htx := run_text wr ⟨g, 0, none⟩ c m (pairsD s.data.toList) hlen2 (fun j hj => by
        rw [addr_add, Nat.zero_add]
        have := hrow.cellAt j (by omega)
        rw [this]
        simp only [cellsOf, List.getElem?_map, List.getElem?_eq_getElem hj, Option.map_some, cellOf])
      rw [HS.out] at htx
      clear hrow hlen hlen2 HR Hhi hit hc0
      go_wp2_with fail
      go_ret
      exact ⟨rfl, HK.out⟩
end Go.Proofs.YtomlmbhbadicbaaDoor
