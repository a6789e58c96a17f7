import Derived.Lib.AtoiErrMem
import Derived.RangeFuncRecord
import Derived.Laws.BitsAllLaws
import Derived.Test.YtfpiibccggjjpaaDoorUn2
/-
  script: number.
-/
namespace Go.Proofs.YtfpiibccggjjpaaDoor
open Go.RowKit
set_option linter.unusedVariables false

/-- The library's two errors and the longest search: some values. -/
structure ErrW (w : World) : Prop where
  syn : ∃ ev, w.cell? ⟨2, 0, none⟩ = some ev ∧ (ev = .nilIface ∨ ∃ te pe, ev = .iface te pe)
  rng : ∃ ev, w.cell? ⟨3, 0, none⟩ = some ev ∧ (ev = .nilIface ∨ ∃ te pe, ev = .iface te pe)
  max : ∃ m, w.cell? ⟨1, 0, none⟩ = some (.int .i64 m)
theorem ErrW.keeps {w w' : World} (h : ErrW w) (k : Keeps w w' (fun _ => False)) : ErrW w' := by
  obtain ⟨e1, a1, b1⟩ := h.syn
  obtain ⟨e2, a2, b2⟩ := h.rng
  obtain ⟨m, a3⟩ := h.max
  exact ⟨⟨e1, keeps_cell k a1, b1⟩, ⟨e2, keeps_cell k a2, b2⟩, ⟨m, keeps_cell k a3⟩⟩
theorem parse_fits {l : List UInt8} {v : Int} (h : Lib.parseIntB 64 l = .ok v) : -9223372036854775808 ≤ v ∧ v ≤ 9223372036854775807 := by
  unfold Lib.parseIntB at h
  split at h
  · cases h
  · dsimp only at h
    split at h
    · cases h
    · cases h
    · rename_i u heq
      split at h
      · cases h
      · rename_i q1
        split at h
        · cases h
        · rename_i q2
          injection h with h
          subst h
          split
          · rename_i q3
            have : ¬ 2 ^ (64 - 1) < u := fun z => q2 ⟨q3, z⟩
            have e : (2 : Nat) ^ (64 - 1) = 9223372036854775808 := by decide
            omega
          · rename_i q3
            have : ¬ 2 ^ (64 - 1) ≤ u := fun z => q1 ⟨q3, z⟩
            have e : (2 : Nat) ^ (64 - 1) = 9223372036854775808 := by decide
            omega
theorem bytesWorld_keeps (w : World) (e : TypeId) (t : ByteArray) : Keeps w (Lib.bytesWorld w e t) (fun _ => False) := keeps_of_below (Lib.bytesWorld_below w e t)
/-- ParseInt: a number, or some error. -/
theorem parse_any (s : ByteArray) (hs : s.size ≤ 8388608) (w : World) (he : ErrW w) : Calls Tryd.prog 61 #[.string s, .int .i64 10, .int .i64 64] w fun e w' => ((∃ n, e = .returned (.tuple #[.int .i64 n, .nilIface]) ∧ Fit n ∧ Lib.parseIntB 64 s.data.toList = .ok n) ∨ ∃ n te pe, e = .returned (.tuple #[.int .i64 n, .iface te pe]) ∧ ∀ v, Lib.parseIntB 64 s.data.toList ≠ .ok v) ∧ Keeps w w' (fun _ => False) := by
  cases h : Lib.parseIntB 64 s.data.toList with
  | ok v =>
    refine (Tryd.strconv_ParseInt_10_at64_ok s (by omega) v h w).mono ?_
    rintro e w' ⟨rfl, hw⟩
    refine ⟨Or.inl ⟨v, rfl, parse_fits h, rfl⟩, ?_⟩
    rcases hw with rfl | ⟨t, rfl⟩
    · exact Keeps.refl _ _
    · exact bytesWorld_keeps w 5 t
  | «syntax» =>
    obtain ⟨ev, h1, h2⟩ := he.syn
    refine (Tryd.strconv_ParseInt_10_at64_syntax s (by omega) h ev w h1 h2).mono ?_
    rintro e w' ⟨N, rfl, -, -, hb⟩
    exact ⟨Or.inr ⟨_, _, _, rfl, fun v e => by cases e⟩, keeps_of_below hb⟩
  | range =>
    obtain ⟨ev, h1, h2⟩ := he.rng
    refine (Tryd.strconv_ParseInt_10_at64_range s (by omega) h ev w h1 h2).mono ?_
    rintro e w' ⟨N, rfl, -, -, hb⟩
    exact ⟨Or.inr ⟨_, _, _, rfl, fun v e => by cases e⟩, keeps_of_below hb⟩
set_option maxRecDepth 100000 in
set_option maxHeartbeats 2000000 in
/-- number: what its text tells. -/
theorem number_any (s : ByteArray) (hs : s.size ≤ 8388608) (w : World) (he : ErrW w) : Calls Tryd.prog 44 #[.string s] w fun e w' => (∃ n er, e = .returned (.tuple #[.int .i64 n, .int .i64 er]) ∧ NumR s n) ∧ Keeps w w' (fun _ => False) := by
  have hT := Tryd.strings_TrimPrefix s ⟨#[45]⟩ w
  have hA := fun (t : ByteArray) (W : World) => allDigits_any t 10 (by omega) W
  have hP := fun (W : World) (k : Keeps w W (fun _ => False)) => parse_any s hs W (he.keeps k)
  have hN : ∀ m, s = numD m → allD 10 (⟨(Lib.trimPrefix s.data.toList (⟨#[45]⟩ : ByteArray).data.toList).toArray⟩ : ByteArray).data.toList = true := fun m e => by
    rw [e]
    show allD 10 (Lib.trimPrefix (strOf (Lib.itoa m)).data.toList [45]).toArray.toList = true
    rw [strOf_data]
    exact all_itoa m
  have hZ : s = ⟨#[]⟩ → allD 10 (⟨(Lib.trimPrefix s.data.toList (⟨#[45]⟩ : ByteArray).data.toList).toArray⟩ : ByteArray).data.toList = false := fun e => by
    rw [e]
    decide
  generalize (⟨(Lib.trimPrefix s.data.toList (⟨#[45]⟩ : ByteArray).data.toList).toArray⟩ : ByteArray) = T at *
  have HP := hide hP
  have hA1 := hA T w
  generalize allD 10 T.data.toList = A at *
  have HN := hide hN
  have HZ := hide hZ
  clear hP hA hN hZ
  go_enter Tryd.func44, Tryd.ntmps44
  go_wp2_with fail
  (with_reducible refine hT.mono ?_)
  rintro e w0 ⟨rfl, rfl⟩
  go_wp2_with fail
  (with_reducible refine hA1.mono ?_)
  rintro e w1 ⟨rfl, k1⟩
  have K1 := hide k1
  clear hT hA1 k1
  cases A with
  | false =>
    go_wp2_with fail
    refine bodyPost_ret (v := .tuple #[.int .i64 0, .int .i64 160]) (by simp [results, Tryd.results44, go_sem]) rfl ?_
    exact ⟨⟨0, 160, rfl, ⟨by omega, by omega⟩, fun m _ e => absurd (HN.out m e) (by decide), fun _ => rfl⟩, K1.out⟩
  | true =>
    go_wp2_with fail
    (with_reducible refine (HP.out _ K1.out).mono ?_)
    rintro e w2 ⟨⟨n, rfl, b1, b2⟩ | ⟨n, te, pe, rfl, b1⟩, k2⟩
    · have K2 := hide (K1.out.trans k2 (fun _ _ e => e))
      have B := hide (And.intro b1 b2)
      clear k2 b1 b2
      go_wp2_with fail
      refine bodyPost_ret (v := .tuple #[.int .i64 n, .int .i64 0]) (by simp [results, Tryd.results44, go_sem]) rfl ?_
      refine ⟨⟨n, 0, rfl, B.out.1, fun m hm e => ?_, fun e => absurd (HZ.out e) (by decide)⟩, K2.out⟩
      have h := B.out.2
      rw [e] at h
      have h2 : Lib.parseIntB 64 (numD m).data.toList = .ok m := by
        unfold numD
        rw [strOf_data]
        exact parse_itoa m hm
      rw [h2] at h
      injection h with h
      exact h.symm
    · have K2 := hide (K1.out.trans k2 (fun _ _ e => e))
      have B := hide b1
      clear k2 b1
      go_wp2_with fail
      refine bodyPost_ret (v := .tuple #[.int .i64 0, .int .i64 161]) (by simp [results, Tryd.results44, go_sem]) rfl ?_
      refine ⟨⟨0, 161, rfl, ⟨by omega, by omega⟩, fun m hm e => ?_, fun e => absurd (HZ.out e) (by decide)⟩, K2.out⟩
      refine absurd ?_ (B.out m)
      rw [e]
      unfold numD
      rw [strOf_data]
      exact parse_itoa m hm
end Go.Proofs.YtfpiibccggjjpaaDoor
/-
  script: pairsOfDigits.
-/
namespace Go.Proofs.YtfpiibccggjjpaaDoor
open Go.RowKit
set_option linter.unusedVariables false

def pairB (a b : UInt8) : UInt8 := UInt8.ofNat (16 * (digD (a.toNat : Int)).toNat + (digD (b.toNat : Int)).toNat)
def pairsD : List UInt8 → List UInt8
  | a :: b :: r => pairB a b :: pairsD r
  | _ => []
theorem pairs_odd : ∀ (k : Nat) (l : List UInt8), 2 * k + 1 ≤ l.length → pairsD (l.take (2 * k + 1)) = pairsD (l.take (2 * k))
  | 0, a :: r, _ => by simp [pairsD]
  | 0, [], h => by simp at h
  | k + 1, a :: b :: r, h => by
    have ih := pairs_odd k r (by simp at h; omega)
    rw [show 2 * (k + 1) + 1 = 2 * k + 1 + 1 + 1 by omega, show 2 * (k + 1) = 2 * k + 1 + 1 by omega, List.take_succ_cons, List.take_succ_cons, List.take_succ_cons, List.take_succ_cons, pairsD, pairsD, ih]
  | k + 1, [a], h => by simp at h
  | k + 1, [], h => by simp at h
theorem pairs_even : ∀ (k : Nat) (l : List UInt8) (h : 2 * k + 1 < l.length), pairsD (l.take (2 * k + 2)) = pairsD (l.take (2 * k)) ++ [pairB l[2 * k] l[2 * k + 1]]
  | 0, a :: b :: r, _ => by simp [pairsD]
  | 0, [a], h => by simp at h
  | 0, [], h => by simp at h
  | k + 1, a :: b :: r, h => by
    have ih := pairs_even k r (by simp at h; omega)
    rw [show 2 * (k + 1) + 2 = 2 * k + 2 + 1 + 1 by omega, List.take_succ_cons, List.take_succ_cons, pairsD, ih]
    simp only [show 2 * (k + 1) = 2 * k + 1 + 1 by omega, List.take_succ_cons, pairsD, List.cons_append]
    rfl
  | k + 1, [a], h => by simp at h
  | k + 1, [], h => by simp at h
theorem pairs_len : ∀ l : List UInt8, (pairsD l).length = l.length / 2
  | a :: b :: r => by
    rw [pairsD, List.length_cons, pairs_len r]
    simp
    omega
  | [a] => by simp [pairsD]
  | [] => by simp [pairsD]
theorem digD_pos (c : Int) (h : 0 ≤ c) : 0 ≤ digD c := by
  unfold digD
  repeat' split
  all_goals omega
theorem pairB_val {a b : UInt8} (ha : digD (a.toNat : Int) < 16) (hb : digD (b.toNat : Int) < 16) : ((pairB a b).toNat : Int) = 16 * digD (a.toNat : Int) + digD (b.toNat : Int) := by
  have h1 := digD_pos (a.toNat : Int) (by omega)
  have h2 := digD_pos (b.toNat : Int) (by omega)
  unfold pairB
  rw [UInt8.toNat_ofNat']
  omega
theorem run_next_at {P : Program} {W : World} {B : Nat} {s : ByteArray} {pos : Nat} (ty : TypeId) (hB : W.heap[B]? = some (.stringIter s pos)) (h : pos < s.size) (ha : (s[pos]'h).toNat < 128) :
    (Instr.next (.pointer (some ⟨B, 0, none⟩)) true ty).run P W = .ok (.tuple #[.bool true, .int .i64 pos, .int .i32 (s[pos]'h).toNat]) (W.putObj B (.stringIter s (pos + 1))) := by
  simp only [Instr.next, getObj, setObj, Sem.run_bind, Sem.run, hB, Result.andThen, h, if_true, decode_ascii s pos h ha]
  simp [goInt, World.putObj]
theorem run_next_end_at {P : Program} {W : World} {B : Nat} {s : ByteArray} {pos : Nat} (ty : TypeId) (hB : W.heap[B]? = some (.stringIter s pos)) (h : ¬ pos < s.size) :
    (Instr.next (.pointer (some ⟨B, 0, none⟩)) true ty).run P W = .ok (.tuple #[.bool false]) W := by
  simp [Instr.next, getObj, Sem.run, hB, h]
theorem Keeps.put {w W : World} (k : Keeps w W (fun _ => False)) {B : Nat} (hB : w.heap.size ≤ B) (o : Obj) : Keeps w (W.putObj B o) (fun _ => False) :=
  ⟨k.os, k.tape, k.output, Nat.le_trans k.size (by simp [World.putObj]), fun q hq hn => (World.putObj_heap_other (by omega)).trans (k.block q hq hn)⟩
theorem row_put {W : World} {base : Nat} {v : Value} {n : Nat} {xs : List Value} (h : W.ownsRow base 5 1 v n xs) {B : Nat} {s : ByteArray} {pos : Nat} (hB : W.heap[B]? = some (.stringIter s pos)) (o : Obj) : (W.putObj B o).ownsRow base 5 1 v n xs := by
  refine ⟨h.1, ?_⟩
  rcases h.2 with h2 | ⟨g, cap, cur, e1, e2, e3, r⟩
  · exact Or.inl h2
  · refine Or.inr ⟨g, cap, cur, e1, e2, ?_, r⟩
    rw [World.putObj_heap_other (fun e => ?_)]
    · exact e3
    · rw [e, hB] at e3
      cases e3
set_option maxRecDepth 100000 in
set_option maxHeartbeats 2000000 in
theorem pairs_any (s : ByteArray) (hs : s.size ≤ 8388608) (hall : allB 16 s.data.toList) (w : World) : Calls Tryd.prog 65 #[.string s] w fun e w' => e = .returned (.string (strOf (pairsD s.data.toList))) ∧ Keeps w w' (fun _ => False) := by
  obtain ⟨S, hS⟩ : ∃ S, strOf (pairsD s.data.toList) = S := ⟨_, rfl⟩
  rw [hS]
  have hsz : s.data.toList.length = s.size := rfl
  obtain ⟨i5, q1, q2, q3, q4⟩ := info_parts Tryd.infoE
  obtain ⟨c0, hc0⟩ : ∃ c0, s.size / 2 = c0 := ⟨_, rfl⟩
  obtain ⟨w0, hmk, hown0, hgr0⟩ := run_make_own (P := Tryd.prog) w w.heap.size 54 5 i5 (.int .u8 0) 1 Tryd.underlying54 q1 q2 q3 .i64 .i64 c0 (by rw [q4]; omega) (by simp only [maxLen]; omega) (Nat.le_refl _)
  have K0 : Keeps w w0 (fun _ => False) := (Keeps.ofGrown hgr0).mono (fun _ _ e => by cases e)
  have e2 : (c0 : Int) = (s.size : Int) / 2 := by omega
  rw [e2] at hmk
  have HO := hide hown0
  have HK0 := hide K0
  have HA := hide hall
  have HS := hide hS
  clear hown0 K0 hgr0 e2 q1 q2 q3 q4 hall hS
  go_enter Tryd.func65, Tryd.ntmps65
  go_wp2_with fail
  clear hmk
  go_loopg [3, 4] s.size (fun gm v3 v4 wr => ∃ (pos g c m : Nat) (hi : Int), gm = s.size - pos ∧ pos ≤ s.size ∧ Hid (m = pos / 2) ∧ v3 = .slice (some ⟨g, 0, none⟩) m c ∧ v4 = .int .i64 hi ∧ Hid (∀ k, pos = 2 * k + 1 → ∃ hk, hi = digD (((s.data.toList[2 * k]'hk).toNat : Nat) : Int)) ∧ wr.heap[w0.heap.size]? = some (.stringIter s pos) ∧ Hid (wr.ownsRow w.heap.size 5 1 (.slice (some ⟨g, 0, none⟩) m c) m (cellsOf (pairsD (s.data.toList.take pos)))) ∧ Hid (Keeps w wr (fun _ => False)))
  case atStart => exact ⟨0, w.heap.size, c0, 0, 0, rfl, Nat.zero_le _, rfl, rfl, rfl, fun k h => by omega, World.iter_heap _ _ _, HO.out.alloc _, HK0.out.alloc _⟩
  case round =>
    obtain ⟨pos, g, c, m, hi, rfl, hp, Hm, rfl, rfl, Hhi, hit, HR, HK⟩ := hrel
    have hB0 : w.heap.size ≤ w0.heap.size := HK0.out.size
    by_cases hlt : pos < s.size
    · obtain ⟨x, hx⟩ : ∃ x, s[pos] = x := ⟨_, rfl⟩
      have hxl : s.data.toList[pos]'(by omega) = x := hx
      have hdx : digD (x.toNat : Int) < 16 := HA.out x (hxl ▸ List.getElem_mem _)
      have h128 : (s[pos]'hlt).toNat < 128 := by rw [hx]; exact small_ascii hdx (by omega)
      have hN := fun ty => run_next_at (P := Tryd.prog) ty hit hlt h128
      rw [hx] at hN
      have hD := fun W => digit_any (x.toNat : Int) W
      have hms : s.size - (pos + 1) < s.size - pos := by omega
      have hit2 : (wr.putObj w0.heap.size (.stringIter s (pos + 1))).heap[w0.heap.size]? = some (.stringIter s (pos + 1)) := World.putObj_heap_same (heap_lt hit)
      have HR2 := hide (row_put HR.out hit (.stringIter s (pos + 1)))
      have HK2 := hide (HK.out.put hB0 (.stringIter s (pos + 1)))
      have Hit2 := hide hit2
      clear hit2 HR HK h128
      rcases Nat.mod_two_eq_zero_or_one pos with hm | hm
      · have e0 : ((pos : Int) % 2 == 0) = true := by
          have : (pos : Int) % 2 = 0 := by omega
          simp [this]
        obtain ⟨k, rfl⟩ : ∃ k, pos = 2 * k := ⟨pos / 2, by omega⟩
        have HX : Hid (∀ j, 2 * k + 1 = 2 * j + 1 → ∃ hk, digD (x.toNat : Int) = digD (((s.data.toList[2 * j]'hk).toNat : Nat) : Int)) := fun j hj => by
          obtain rfl : k = j := by omega
          exact ⟨by omega, by rw [hxl]⟩
        have HR3 : Hid ((wr.putObj w0.heap.size (.stringIter s (2 * k + 1))).ownsRow w.heap.size 5 1 (.slice (some ⟨g, 0, none⟩) m c) m (cellsOf (pairsD (s.data.toList.take (2 * k + 1))))) := by
          have := HR2.out
          rw [pairs_odd k _ (by omega)]
          exact this
        have Hm2 : Hid (m = (2 * k + 1) / 2) := by
          have := Hm.out
          show m = (2 * k + 1) / 2
          omega
        clear HR2 hdx hm Hhi
        generalize digD (x.toNat : Int) = dd at *
        go_wp2_with fail
        refine (hD _).mono ?_
        rintro e w2 ⟨rfl, rfl⟩
        go_wp2_with fail
        go_roundg (s.size - (2 * k + 1))
        case measure => exact hms
        case rel => exact ⟨2 * k + 1, g, c, m, dd, rfl, hlt, Hm2, rfl, rfl, HX, Hit2.out, HR3, HK2⟩
      · have e0 : ((pos : Int) % 2 == 0) = false := by
          have : (pos : Int) % 2 = 1 := by omega
          simp [this]
        obtain ⟨k, rfl⟩ : ∃ k, pos = 2 * k + 1 := ⟨pos / 2, by omega⟩
        have HXX : Hid (∀ j, 2 * k + 1 + 1 ≠ 2 * j + 1) := fun j hj => by omega
        have Hm2 : Hid (m + 1 = (2 * k + 1 + 1) / 2) := by
          have := Hm.out
          show m + 1 = (2 * k + 1 + 1) / 2
          omega
        have hmz : m + 1 ≤ 8388608 := by
          have := Hm.out
          omega
        obtain ⟨hk, rfl⟩ := Hhi.out k rfl
        obtain ⟨y, hy⟩ : ∃ y, s.data.toList[2 * k]'hk = y := ⟨_, rfl⟩
        have hdy : digD (y.toNat : Int) < 16 := HA.out y (hy ▸ List.getElem_mem _)
        have Hval := hide (pairB_val hdy hdx)
        have hp1 := digD_pos (y.toNat : Int) (by omega)
        have hp2 := digD_pos (x.toNat : Int) (by omega)
        have hev := pairs_even k s.data.toList (by omega)
        rw [hy, hxl] at hev
        have Hev := hide hev
        rw [hy]
        clear hev
        generalize digD (y.toNat : Int) = dh at *
        generalize digD (x.toNat : Int) = dd at *
        obtain ⟨g1, c1, w1, hap, hown1, k1, hg1⟩ := append_one (P := Tryd.prog) 54 5 (.int .u8 0) 1 Tryd.underlying54 Tryd.infoE rfl (HR2.out.alloc (.cells #[.int .u8 (16 * dh + dd)] 5)) (heap_alloc_new (wr.putObj w0.heap.size (.stringIter s (2 * k + 1 + 1))) (.cells #[.int .u8 (16 * dh + dd)] 5)) rfl (by omega) (by simp only [maxLen]; omega) (by rw [World.size_alloc]; have := HK2.out.size; omega)
        have hBne : (Value.slice (some ⟨g, 0, none⟩) m c).ownBlock ≠ some w0.heap.size := fun e => by
          obtain ⟨-, cur, hc⟩ := ownsRow_block HR2.out e
          rw [Hit2.out] at hc
          cases hc
        have Hit3 : Hid (w1.heap[w0.heap.size]? = some (.stringIter s (2 * k + 1 + 1))) := by
          have h1 : ((wr.putObj w0.heap.size (.stringIter s (2 * k + 1 + 1))).alloc (.cells #[.int .u8 (16 * dh + dd)] 5)).heap[w0.heap.size]? = some (.stringIter s (2 * k + 1 + 1)) := (((Keeps.refl _ (fun _ => False)).alloc _).blk Hit2.out)
          exact (k1.block _ (heap_lt h1) hBne).trans h1
        have HK3 : Hid (Keeps w w1 (fun _ => False)) := (HK2.out.alloc _).trans k1 (fun q hq e => by
          have := (ownsRow_block HR2.out e).1
          omega)
        have HR3 : Hid (w1.ownsRow w.heap.size 5 1 (.slice (some ⟨g1, 0, none⟩) (m + 1) c1) (m + 1) (cellsOf (pairsD (s.data.toList.take (2 * k + 1 + 1))))) := by
          rw [show 2 * k + 1 + 1 = 2 * k + 2 by omega, Hev.out]
          have h1 := hown1
          rw [pairs_odd k _ (by omega)] at h1
          show World.ownsRow _ _ _ _ _ _ _
          simpa [cellsOf, cellOf, Hval.out] using h1
        have HX : Hid (∀ j, 2 * k + 1 + 1 = 2 * j + 1 → ∃ hk, dh = digD (((s.data.toList[2 * j]'hk).toNat : Nat) : Int)) := fun j hj => absurd hj (HXX.out j)
        clear HR2 HK2 Hit2 hown1 k1 hg1 hBne Hval Hev hm Hhi
        have hsp : (wr.putObj w0.heap.size (.stringIter s (2 * k + 1 + 1))).heap.size = wr.heap.size := by simp [World.putObj]
        rw [hsp] at hap
        clear hsp
        go_wp2_with fail
        refine (hD _).mono ?_
        rintro e w2 ⟨rfl, rfl⟩
        go_wp2_with (at_builtin; have _t := hap; refine app_run _ rfl (.tmp 22) (.tmp 29) 54 rfl rfl rfl hap ?_; clear hap)
        go_roundg (s.size - (2 * k + 1 + 1))
        case measure => exact hms
        case rel => exact ⟨2 * k + 1 + 1, g1, c1, m + 1, dh, rfl, hlt, Hm2, rfl, rfl, HX, Hit3.out, HR3, HK3⟩
    · obtain rfl : pos = s.size := by omega
      have hN := fun ty => run_next_end_at (P := Tryd.prog) ty hit hlt
      have hrow := HR.out
      rw [List.take_of_length_le (Nat.le_of_eq hsz)] at hrow
      have hlen : (pairsD s.data.toList).length = s.size / 2 := by rw [pairs_len, hsz]
      have hlen2 : (pairsD s.data.toList).length = m := by rw [hlen, Hm.out]
      have htx := run_text wr ⟨g, 0, none⟩ c m (pairsD s.data.toList) hlen2 (fun j hj => by
        rw [addr_add, Nat.zero_add]
        have := hrow.cellAt j (by omega)
        rw [this]
        simp only [cellsOf, List.getElem?_map, List.getElem?_eq_getElem hj, Option.map_some, cellOf])
      rw [HS.out] at htx
      clear hrow hlen hlen2 HR Hhi hit hc0
      go_wp2_with fail
      go_ret
      exact ⟨rfl, HK.out⟩
end Go.Proofs.YtfpiibccggjjpaaDoor
/-
  script: bytesOf.
-/
namespace Go.Proofs.YtfpiibccggjjpaaDoor
open Go.RowKit
set_option linter.unusedVariables false

set_option maxRecDepth 100000 in
set_option maxHeartbeats 2000000 in
theorem clone_any (s : ByteArray) (hs : s.size ≤ 8388608) (w : World) : Calls Tryd.prog 64 #[.string s] w fun e w' => e = .returned (.string s) ∧ Keeps w w' (fun _ => False) := by
  have hC := Tryd.stringslite_Clone s w (by omega)
  go_enter Tryd.func64, Tryd.ntmps64
  go_wp2_with fail
  refine hC.mono ?_
  rintro e w1 ⟨rfl, hb⟩
  go_wp2_with fail
  go_ret
  exact ⟨rfl, keeps_of_below hb⟩

def bytD (s : ByteArray) : ByteArray × Int :=
  if s = ⟨#[45]⟩ then (⟨#[]⟩, 0)
  else if 1 < s.size ∧ s.data.toList[0]? = some 39 then (s.extract 1 s.size, 0)
  else if s.size % 2 = 0 ∧ allD 16 s.data.toList = true then (strOf (pairsD s.data.toList), 0)
  else (⟨#[]⟩, 160)
set_option maxRecDepth 100000 in
set_option maxHeartbeats 2000000 in
theorem bytes_any (s : ByteArray) (hs : s.size ≤ 8388608) (w : World) : Calls Tryd.prog 46 #[.string s] w fun e w' => e = .returned (.tuple #[.string (bytD s).1, .int .i64 (bytD s).2]) ∧ Keeps w w' (fun _ => False) := by
  by_cases h0 : s = ⟨#[45]⟩
  · subst h0
    have e1 : bytD ⟨#[45]⟩ = (⟨#[]⟩, 0) := by simp [bytD]
    rw [e1]
    go_enter Tryd.func46, Tryd.ntmps46
    go_wp2_with fail
    refine bodyPost_ret (v := .tuple #[.string ⟨#[]⟩, .int .i64 0]) (by simp [results, Tryd.results46, go_sem]) rfl ?_
    exact ⟨rfl, Keeps.refl _ _⟩
  · have n0 : (s.toList == [45]) = false := by
      have h := str_no h0
      rw [show (⟨#[45]⟩ : ByteArray).toList = [45] from by simp [ByteArray.toList_eq]] at h
      exact h
    by_cases h1 : 1 < s.size ∧ s.data.toList[0]? = some 39
    · have e1 : bytD s = (s.extract 1 s.size, 0) := by rw [bytD, if_neg h0, if_pos h1]
      rw [e1]
      obtain ⟨h1, h2⟩ := h1
      have hC := fun W => clone_any (s.extract 1 s.size) (by rw [ByteArray.size_extract]; omega) W
      have hp : 0 < s.size := by omega
      have e2 : (((s[0]'hp).toNat : Int) == 39) = true := by
        have hl : s.data.toList[0]? = some (s[0]'hp) := by
          rw [List.getElem?_eq_getElem (show 0 < s.data.toList.length from hp)]
          rfl
        rw [hl] at h2
        injection h2 with h2
        rw [h2]
        decide
      clear h2 e1
      go_enter Tryd.func46, Tryd.ntmps46
      go_wp2_with fail
      refine (hC _).mono ?_
      rintro e w1 ⟨rfl, k1⟩
      have K1 := hide k1
      clear k1
      go_wp2_with fail
      refine bodyPost_ret (v := .tuple #[.string (s.extract 1 s.size), .int .i64 0]) (by simp [results, Tryd.results46, go_sem]) rfl ?_
      exact ⟨rfl, K1.out⟩
    · obtain ⟨T, hT⟩ : ∃ T, bytD s = T := ⟨_, rfl⟩
      have hA := fun W => allDigits_any s 16 (by omega) W
      have hP := fun (h : allD 16 s.data.toList = true) W => pairs_any s hs (allD_iff.1 h).2 W
      have hq : (1 < s.size ∧ ∃ hp : 0 < s.size, (((s[0]'hp).toNat : Int) == 39) = false) ∨ s.size ≤ 1 := by
        rcases Nat.lt_or_ge 1 s.size with q | q
        · have hp : 0 < s.size := by omega
          refine Or.inl ⟨q, hp, ?_⟩
          have hl : s.data.toList[0]? = some (s[0]'hp) := by
            rw [List.getElem?_eq_getElem (show 0 < s.data.toList.length from hp)]
            rfl
          have h3 : (s[0]'hp) ≠ 39 := fun e => h1 ⟨q, by rw [hl, e]⟩
          simp only [beq_eq_false_iff_ne, ne_eq]
          exact fun e => h3 (UInt8.toNat_inj.1 (by rw [show (39 : UInt8).toNat = 39 from rfl]; omega))
        · exact Or.inr q
      have hD : bytD s = if s.size % 2 = 0 ∧ allD 16 s.data.toList = true then (strOf (pairsD s.data.toList), 0) else (⟨#[]⟩, 160) := by rw [bytD, if_neg h0, if_neg h1]
      rw [hD]
      clear hD hT h1 h0
      generalize strOf (pairsD s.data.toList) = S at *
      generalize allD 16 s.data.toList = A at *
      have HP := hide hP
      clear hP
      rcases hq with ⟨q, hp, e2⟩ | q
      all_goals
        rcases Nat.mod_two_eq_zero_or_one s.size with hm | hm
        · have e3 : ((s.size : Int) % 2 == 0) = true := by
            have : (s.size : Int) % 2 = 0 := by omega
            simp [this]
          cases A with
          | true =>
            rw [if_pos ⟨hm, rfl⟩]
            go_enter Tryd.func46, Tryd.ntmps46
            go_wp2_with fail
            refine (hA _).mono ?_
            rintro e w1 ⟨rfl, k1⟩
            have K1 := hide k1
            clear k1
            go_wp2_with fail
            refine (HP.out (by first | trivial | rfl) _).mono ?_
            rintro e w2 ⟨rfl, k2⟩
            have K2 := hide (K1.out.trans k2 (fun _ _ e => e))
            clear k2
            go_wp2_with fail
            refine bodyPost_ret (v := .tuple #[.string S, .int .i64 0]) (by simp [results, Tryd.results46, go_sem]) rfl ?_
            exact ⟨rfl, K2.out⟩
          | false =>
            rw [if_neg (fun h => by cases h.2)]
            go_enter Tryd.func46, Tryd.ntmps46
            go_wp2_with fail
            refine (hA _).mono ?_
            rintro e w1 ⟨rfl, k1⟩
            have K1 := hide k1
            clear k1
            go_wp2_with fail
            refine bodyPost_ret (v := .tuple #[.string ⟨#[]⟩, .int .i64 160]) (by simp [results, Tryd.results46, go_sem]) rfl ?_
            exact ⟨rfl, K1.out⟩
        · have e3 : ((s.size : Int) % 2 == 0) = false := by
            have : (s.size : Int) % 2 = 1 := by omega
            simp [this]
          rw [if_neg (fun h => by omega)]
          go_enter Tryd.func46, Tryd.ntmps46
          go_wp2_with fail
          refine bodyPost_ret (v := .tuple #[.string ⟨#[]⟩, .int .i64 160]) (by simp [results, Tryd.results46, go_sem]) rfl ?_
          exact ⟨rfl, Keeps.refl _ _⟩
theorem bytD_small (s : ByteArray) : (bytD s).1.size ≤ s.size := by
  unfold bytD
  split
  · exact Nat.zero_le _
  · split
    · show (s.extract 1 s.size).size ≤ s.size
      rw [ByteArray.size_extract]
      omega
    · split
      · show (pairsD s.data.toList).toArray.size ≤ s.size
        rw [List.size_toArray, pairs_len]
        have : s.data.toList.length = s.size := rfl
        omega
      · exact Nat.zero_le _
theorem bytD_dash : bytD ⟨#[45]⟩ = (⟨#[]⟩, 0) := by decide
theorem bytD_61 : bytD ⟨#[54, 49]⟩ = (⟨#[97]⟩, 0) := by decide
end Go.Proofs.YtfpiibccggjjpaaDoor
/-
  script: bytes as they are told and read, numbers without a blank (as data).
-/
namespace Go.Proofs.YtfpiibccggjjpaaDoor
open Go.RowKit
set_option linter.unusedVariables false

theorem pair_hex (x : UInt8) : pairB (hexC (x.toNat / 16)) (hexC (x.toNat % 16)) = x := by
  have h : ∀ n : Fin 256, pairB (hexC (n.1 / 16)) (hexC (n.1 % 16)) = UInt8.ofNat n.1 := by decide +kernel
  have := h ⟨x.toNat, x.toNat_lt⟩
  rw [this]
  simp
theorem pairs_hex (s : List UInt8) : pairsD (hexL s) = s := by
  induction s with
  | nil => rfl
  | cons x r ih =>
    have : hexL (x :: r) = hexC (x.toNat / 16) :: hexC (x.toNat % 16) :: hexL r := rfl
    rw [this, pairsD, ih, pair_hex]
theorem hexC_fine {v : Nat} (h : v < 16) : digD ((hexC v).toNat : Int) < 16 ∧ (hexC v) ≠ 39 ∧ (hexC v) ≠ 32 := by
  have : ∀ n : Fin 16, digD ((hexC n.1).toNat : Int) < 16 ∧ (hexC n.1) ≠ 39 ∧ (hexC n.1) ≠ 32 := by decide +kernel
  exact this ⟨v, h⟩
theorem hex_mem {s : List UInt8} {y : UInt8} (h : y ∈ hexL s) : ∃ v, v < 16 ∧ y = hexC v := by
  unfold hexL at h
  obtain ⟨x, -, hy⟩ := List.mem_flatMap.1 h
  have := x.toNat_lt
  simp only [hexD, List.mem_cons, List.not_mem_nil, or_false] at hy
  rcases hy with rfl | rfl
  · exact ⟨_, by omega, rfl⟩
  · exact ⟨_, Nat.mod_lt _ (by decide), rfl⟩
theorem bytD_bytesD (s : ByteArray) : bytD (bytesD s) = (s, 0) := by
  unfold bytesD
  split
  · rename_i h
    have : s = ⟨#[]⟩ := ByteArray.ext (Array.toList_inj.1 h)
    rw [this]
    decide
  · rename_i h
    have hd : (strOf (hexL s.data.toList)).data.toList = hexL s.data.toList := strOf_data _
    have hlen : (strOf (hexL s.data.toList)).size = 2 * s.data.toList.length := by
      show (strOf (hexL s.data.toList)).data.toList.length = _
      rw [hd, hexL_length]
    have hpos : 0 < s.data.toList.length := List.length_pos_iff.2 h
    have n1 : ¬ strOf (hexL s.data.toList) = ⟨#[45]⟩ := fun e => by
      have := congrArg ByteArray.size e
      rw [hlen] at this
      have z : (⟨#[45]⟩ : ByteArray).size = 1 := rfl
      omega
    have n2 : ¬ (1 < (strOf (hexL s.data.toList)).size ∧ (strOf (hexL s.data.toList)).data.toList[0]? = some 39) := fun e => by
      rw [hd] at e
      obtain ⟨v, hv, hy⟩ := hex_mem (List.mem_of_getElem? e.2)
      exact (hexC_fine hv).2.1 hy.symm
    have n3 : (strOf (hexL s.data.toList)).size % 2 = 0 ∧ allD 16 (strOf (hexL s.data.toList)).data.toList = true := by
      refine ⟨by rw [hlen]; omega, ?_⟩
      rw [hd]
      refine allD_iff.2 ⟨fun e => ?_, fun y hy => ?_⟩
      · have := congrArg List.length e
        rw [hexL_length] at this
        have z : ([] : List UInt8).length = 0 := rfl
        omega
      · obtain ⟨v, hv, rfl⟩ := hex_mem hy
        exact (hexC_fine hv).1
    unfold bytD
    rw [if_neg n1, if_neg n2, if_pos n3, hd, pairs_hex, strOf_self]
/-- No blank in it. -/
def NB (x : ByteArray) : Prop := (32 : UInt8) ∉ x.data.toList
theorem nb_bytes (s : ByteArray) : NB (bytesD s) := by
  unfold bytesD
  split
  · unfold NB
    decide
  · unfold NB
    rw [strOf_data]
    intro h
    obtain ⟨v, hv, e⟩ := hex_mem h
    exact (hexC_fine hv).2.2 e.symm
theorem nb_dec (u : Nat) : (32 : UInt8) ∉ Lib.decDigits u := fun h => by
  have := dec_dig _ u (Nat.le_refl _) 32 h
  have z : (32 : UInt8).toNat = 32 := rfl
  omega
theorem nb_num (n : Int) : NB (numD n) := by
  unfold NB numD
  rw [strOf_data]
  unfold Lib.itoa
  split
  · intro h
    rcases List.mem_cons.1 h with h | h
    · cases h
    · exact nb_dec _ h
  · exact nb_dec _
end Go.Proofs.YtfpiibccggjjpaaDoor
/-
  script: a word of 64 bits as it is told; the reference's word.
-/
namespace Go.Proofs.YtfpiibccggjjpaaDoor
open Go.RowKit
set_option linter.unusedVariables false

/-- The digits of a word to the base 16. -/
def hexW (u : Nat) : List UInt8 := if h : u < 16 then [hexC u] else hexW (u / 16) ++ [hexC (u % 16)]
termination_by u
decreasing_by omega

theorem hexW_small {u : Nat} (h : u < 16) : hexW u = [hexC u] := by rw [hexW, dif_pos h]

theorem hexW_big {u : Nat} (h : ¬ u < 16) : hexW u = hexW (u / 16) ++ [hexC (u % 16)] := by rw [hexW, dif_neg h]

theorem hexW_len : ∀ (k u : Nat), u < 16 ^ (k + 1) → (hexW u).length ≤ k + 1
  | 0, u, h => by
    rw [hexW_small (by omega)]
    simp
  | k + 1, u, h => by
    by_cases h16 : u < 16
    · rw [hexW_small h16]
      simp
    · rw [hexW_big h16, List.length_append]
      have := hexW_len k (u / 16) (by rw [Nat.pow_succ] at h; omega)
      simp
      omega

theorem wrapu {q : Nat} (h : q < 18446744073709551616) : IntKind.u64.wrap (q : Int) = (q : Int) := by
  rw [IntKind.wrap_u64]
  omega

theorem quo16 (v p : Nat) (h : v / 16 = p) : ((v : Int)).tdiv 16 = (p : Int) ∧ (v : Int) / 16 = (p : Int) := by
  constructor
  · rw [Int.tdiv_eq_ediv_of_nonneg (by omega)]
    omega
  · omega

theorem rem16 (p : Nat) : ((p : Int)).tmod 16 = ((p % 16 : Nat) : Int) ∧ (p : Int) % 16 = ((p % 16 : Nat) : Int) := by
  constructor
  · rw [Int.tmod_eq_emod_of_nonneg (by omega)]
    omega
  · omega

def wordD (u : Nat) : ByteArray := strOf (48 :: 120 :: hexW u)

theorem one_text (w : World) (x : UInt8) : (convert 54 9 (.slice (some ⟨w.heap.size, 0, none⟩) 1 1)).run Tryd.prog (w.alloc (.cells #[.int .u8 (x.toNat : Int)] 5)) = .ok (.string (strOf [x])) (w.alloc (.cells #[.int .u8 (x.toNat : Int)] 5)) :=
  run_text (w.alloc (.cells #[.int .u8 (x.toNat : Int)] 5)) ⟨w.heap.size, 0, none⟩ 1 1 [x] rfl (fun j hj => by
    obtain rfl : j = 0 := by simpa using hj
    rw [addr_add]
    have := heap_alloc_new w (.cells #[.int .u8 (x.toNat : Int)] 5)
    simp only [World.cell?, this]
    simp)
end Go.Proofs.YtfpiibccggjjpaaDoor
/-
  script: FormatUint to the base 16.
-/
namespace Go.Proofs.YtfpiibccggjjpaaDoor
open Go.RowKit
set_option linter.unusedVariables false
/-- The cell of the table of math/bits that is read for 16. -/
def Deb (w : World) : Prop := w.cell? ⟨6, 15, none⟩ = some (.int .u8 4)
set_option maxRecDepth 100000 in
theorem tz64_16 (w : World) (hD : Deb w) : Calls Tryd.prog 110 #[.int .u64 16] w fun e w' => e = .returned (.int .i64 4) ∧ w' = w := by
  have hD' : w.cell? ⟨6, 15, none⟩ = some (.int .u8 4) := hD
  have h1 : bits BinOp.and IntKind.u64 16 (IntKind.u64.wrap (-16)) = 16 := by decide +kernel
  have h2 : IntKind.u64.wrap 4573923408821661840 = 4573923408821661840 := by decide +kernel
  go_enter Tryd.func110, Tryd.ntmps110
  go_wp2_with fail
  go_ret
  exact ⟨rfl, rfl⟩
set_option maxRecDepth 100000 in
theorem tz_16 (w : World) (hD : Deb w) : Calls Tryd.prog 107 #[.int .u64 16] w fun e w' => e = .returned (.int .i64 4) ∧ w' = w := by
  have h := tz64_16 w hD
  go_enter Tryd.func107, Tryd.ntmps107
  go_wp2_with fail
  (with_reducible refine h.mono ?_)
  rintro e w1 ⟨rfl, rfl⟩
  go_wp2_with fail
  go_ret
  exact ⟨rfl, rfl⟩
set_option maxRecDepth 100000 in
theorem pow2_16 (w : World) : Calls Tryd.prog 106 #[.int .i64 16] w fun e w' => e = .returned (.bool true) ∧ w' = w := by
  go_enter Tryd.func106, Tryd.ntmps106
  go_wp2_with fail
  go_ret
  exact ⟨by first | rfl | decide | simp, rfl⟩
theorem zero65 : ∃ Z : Array Value, (∀ W : World, Sem.run Tryd.prog (zeroValue 158) W = .ok (.agg Z) W) ∧ Z.size = 65 :=
  ⟨Array.replicate 65 (.int .u8 0), fun W => by kernel_rfl, by simp⟩
theorem and15w (v : Nat) (h : v < 18446744073709551616) : bits BinOp.and IntKind.u64 (v : Int) 15 = ((v % 16 : Nat) : Int) := by
  have e2 := u64_and_nat v 15 h (by decide)
  rw [show ((15 : Nat) : Int) = 15 from rfl] at e2
  rw [e2]
  have := Nat.and_two_pow_sub_one_eq_mod v 4
  rw [show (2 : Nat) ^ 4 - 1 = 15 from rfl, show (2 : Nat) ^ 4 = 16 from rfl] at this
  rw [this]
def dig36 : ByteArray := ⟨#[48, 49, 50, 51, 52, 53, 54, 55, 56, 57, 97, 98, 99, 100, 101, 102, 103, 104, 105, 106, 107, 108, 109, 110, 111, 112, 113, 114, 115, 116, 117, 118, 119, 120, 121, 122]⟩
theorem dig36_get {q : Nat} (h : q < 16) (h2 : q < dig36.size) : dig36[q] = hexC q := by
  have : ∀ q : Fin 16, dig36[q.1]'(by have := q.2; exact Nat.lt_trans this (by decide)) = hexC q.1 := by decide
  exact this ⟨q, h⟩
/-- The digits so far, at the end of the array. -/
def AtEnd (cs : Array Value) (k : Nat) (S : List UInt8) : Prop := cs.size = 65 ∧ k + S.length = 65 ∧ ∀ j (hj : j < S.length), cs[k + j]? = some (.int .u8 (S[j].toNat : Int))
theorem AtEnd.more {cs : Array Value} {k : Nat} {S : List UInt8} (h : AtEnd cs (k + 1) S) (x : UInt8) : AtEnd (cs.setIfInBounds k (.int .u8 (x.toNat : Int))) k (x :: S) := by
  obtain ⟨h1, h2, h3⟩ := h
  refine ⟨by simpa using h1, by simp; omega, fun j hj => ?_⟩
  rw [Array.getElem?_setIfInBounds]
  cases j with
  | zero =>
    simp
    omega
  | succ j =>
    rw [if_neg (by omega)]
    have := h3 j (by simp at hj; omega)
    rw [show k + (j + 1) = k + 1 + j by omega, this]
    simp
theorem set_blk {w : World} {q : Nat} {cs : Array Value} {t : TypeId} (h : w.heap[q]? = some (.cells cs t)) (i : Nat) (v : Value) : (w.setCell ⟨q, i, none⟩ v).heap[q]? = some (.cells (cs.setIfInBounds i v) t) := by
  have hlt := (Array.getElem?_eq_some_iff.1 h).1
  have hv := (Array.getElem?_eq_some_iff.1 h).2
  simp only [World.setCell, Array.getElem?_modify]
  simp [hlt, hv]
theorem hexW_pos (v : Nat) : 1 ≤ (hexW v).length := by
  by_cases h : v < 16
  · rw [hexW_small h]
    simp
  · rw [hexW_big h]
    simp
theorem AtEnd.text {cs : Array Value} {k : Nat} {S : List UInt8} (h : AtEnd cs k S) {W : World} {q : Nat} (hb : W.heap[q]? = some (.cells cs 158)) (n : Nat) (hn : S.length = n) : (convert 54 9 (.slice (some ⟨q, k, none⟩) n n)).run Tryd.prog W = .ok (.string (strOf S)) W :=
  run_text W ⟨q, k, none⟩ n n S hn (fun j hj => by
    rw [addr_add]
    simp only [World.cell?, hb]
    exact h.2.2 j hj)
theorem len65 : Tryd.prog.arrayLen 158 = 65 := by kernel_rfl
theorem und65 : Tryd.prog.underlying 158 = some (.array (Tryd.prog.arrayLen 158) (Tryd.prog.elem 158)) := by kernel_rfl
theorem size65 (W : World) : (sizeOf (Tryd.prog.elem 158)).run Tryd.prog W = .ok 1 W := by kernel_rfl
theorem sl65 (W : World) (q k : Nat) (hk : k < 65) : Sem.run Tryd.prog (Instr.sliceAt 158 (.pointer (some ⟨q, 0, none⟩)) (some (.int .i64 (k : Int))) none none) W = .ok (.slice (some ⟨q, k, none⟩) (65 - k) (65 - k)) W := by
  rw [run_sliceAt_array_l W 158 ⟨q, 0, none⟩ und65 .i64 (k : Int) (by omega) (by rw [len65]; omega), size65, len65]
  simp only [Result.andThen_ok, slicedAt, Int.toNat_natCast]
  rw [if_neg (by omega), addr_add]
  simp
set_option maxRecDepth 100000 in
set_option maxHeartbeats 2000000 in
theorem fbits_any (u : Nat) (hu : u < 18446744073709551616) (w : World) (hD : Deb w) : Calls Tryd.prog 100 #[.slice none 0 0, .int .u64 (u : Int), .int .i64 16, .bool false, .bool false] w fun e w' => e = .returned (.tuple #[.slice none 0 0, .string (strOf (hexW u))]) ∧ Keeps w w' (fun _ => False) := by
  have hP := fun W => pow2_16 W
  have hT := fun (W : World) (k : Keeps w W (fun _ => False)) => tz_16 W (keeps_cell k hD)
  have HT := hide hT
  clear hT
  obtain ⟨Z, hZ, hZs⟩ := zero65
  go_enter Tryd.func100, Tryd.ntmps100
  go_wp2_with fail
  have k0 : Keeps w (w.alloc (.cells Z 158)) (fun _ => False) := (Keeps.refl _ _).alloc _
  (with_reducible refine (hP _).mono ?_)
  rintro e w1 ⟨rfl, e1⟩
  subst e1
  go_wp2_with fail
  (with_reducible refine (HT.out _ k0).mono ?_)
  rintro e w1 ⟨rfl, e1⟩
  subst e1
  go_wp2_with fail
  go_loopw [1, 13] (fun v1 v13 wr => ∃ (v k : Nat) (S : List UInt8) (cs : Array Value), v1 = .int .u64 (v : Int) ∧ v ≤ u ∧ v13 = .int .i64 (k : Int) ∧ wr.heap[w.heap.size]? = some (.cells cs 158) ∧ Hid (AtEnd cs k S ∧ hexW u = hexW v ++ S) ∧ Keeps w wr (fun _ => False)) (fun v1 _ _ => (intOf v1).toNat)
  case atStart => exact ⟨u, 65, [], Z, rfl, Nat.le_refl _, rfl, heap_alloc_new _ _, ⟨⟨hZs, rfl, fun j hj => by simp at hj⟩, by simp⟩, k0⟩
  case round =>
    obtain ⟨v, k, S, cs, rfl, hv, rfl, hb, HI, K⟩ := hrel
    by_cases h16 : v < 16
    · have h16' : ¬ (16 : Int) ≤ (v : Int) := by omega
      have hlen := hexW_len 15 u (by omega)
      have hpos := hexW_pos v
      have hS : S.length ≤ 15 := by
        rw [HI.out.2, List.length_append] at hlen
        omega
      have hk65 := HI.out.1.2.1
      have hcs := HI.out.1.1
      obtain ⟨k, rfl⟩ : ∃ k', k = k' + 1 := ⟨k - 1, by omega⟩
      have hk1 : k < 65 := by omega
      have hk' : (k : Int) < 65 := by omega
      have hk0 : (0 : Int) ≤ (k : Int) := by omega
      have a1 : wrap64 (k : Int) = (k : Int) := by unfold wrap64; omega
      have a2 : IntKind.i64.wrap (k : Int) = (k : Int) := by rw [IntKind.wrap_i64]; omega
      have hcell : wr.cell? ⟨w.heap.size, k, none⟩ = some (cs[k]'(by omega)) := by
        simp only [World.cell?, hb]
        exact Array.getElem?_eq_getElem _
      have hfz : wr.frozen? ⟨w.heap.size, k, none⟩ = false := by simp [World.frozen?, hb]
      obtain ⟨old, hold⟩ : ∃ old, cs[k]'(by omega) = old := ⟨_, rfl⟩
      rw [hold] at hcell
      have g1 : ∀ h, (⟨#[48, 49, 50, 51, 52, 53, 54, 55, 56, 57, 97, 98, 99, 100, 101, 102, 103, 104, 105, 106, 107, 108, 109, 110, 111, 112, 113, 114, 115, 116, 117, 118, 119, 120, 121, 122]⟩ : ByteArray)[v]'h = hexC v := fun h => dig36_get h16 h
      have i1 : (0 : Int) ≤ (v : Int) := by omega
      have i2 : (v : Int) < 36 := by omega
      obtain ⟨c, hc⟩ : ∃ c, hexC v = c := ⟨_, rfl⟩
      have hA := HI.out.1.more c
      have hW2 : hexW u = c :: S := by rw [HI.out.2, hexW_small h16, hc]; rfl
      have hb2 := set_blk hb k (.int .u8 (c.toNat : Int))
      have htx := hA.text hb2 (65 - k) (by simp; omega)
      have hK : Keeps w (wr.setCell ⟨w.heap.size, k, none⟩ (.int .u8 (c.toNat : Int))) (fun _ => False) := K.setCell _ (fun e => by simp at e) _
      have HK := hide hK
      have HW := hide hW2
      simp only [hc] at g1
      obtain ⟨R, hR⟩ : ∃ R, strOf (c :: S) = R := ⟨_, rfl⟩
      rw [hR] at htx
      have HR := hide hR
      clear hlen hpos hS hA hW2 hb2 hK hR HI K hb hcs hold hc
      have hsl := sl65 (wr.setCell ⟨w.heap.size, k, none⟩ (.int .u8 (c.toNat : Int))) w.heap.size k hk1
      generalize 65 - k = nn at *
      go_wp2_with fail
      refine bodyPost_ret (v := .tuple #[.slice none 0 0, .string R]) (by simp [results, Tryd.results100, go_sem]) rfl ?_
      refine ⟨?_, HK.out⟩
      rw [HW.out, HR.out]
    · have h16' : (16 : Int) ≤ (v : Int) := by omega
      have hlen := hexW_len 15 u (by omega)
      have hpos := hexW_pos v
      have hS : S.length ≤ 15 := by
        rw [HI.out.2, List.length_append] at hlen
        omega
      have hk65 := HI.out.1.2.1
      have hcs := HI.out.1.1
      obtain ⟨k, rfl⟩ : ∃ k', k = k' + 1 := ⟨k - 1, by omega⟩
      have hk1 : k < 65 := by omega
      have hk' : (k : Int) < 65 := by omega
      have hk0 : (0 : Int) ≤ (k : Int) := by omega
      have a1 : wrap64 (k : Int) = (k : Int) := by unfold wrap64; omega
      have a2 : IntKind.i64.wrap (k : Int) = (k : Int) := by rw [IntKind.wrap_i64]; omega
      have hcell : wr.cell? ⟨w.heap.size, k, none⟩ = some (cs[k]'(by omega)) := by
        simp only [World.cell?, hb]
        exact Array.getElem?_eq_getElem _
      have hfz : wr.frozen? ⟨w.heap.size, k, none⟩ = false := by simp [World.frozen?, hb]
      obtain ⟨old, hold⟩ : ∃ old, cs[k]'(by omega) = old := ⟨_, rfl⟩
      rw [hold] at hcell
      have hq2 : v % 16 < 16 := Nat.mod_lt _ (by decide)
      have hv64 : v < 18446744073709551616 := Nat.lt_of_le_of_lt hv hu
      have hand := and15w v hv64
      have g1 : ∀ h, (⟨#[48, 49, 50, 51, 52, 53, 54, 55, 56, 57, 97, 98, 99, 100, 101, 102, 103, 104, 105, 106, 107, 108, 109, 110, 111, 112, 113, 114, 115, 116, 117, 118, 119, 120, 121, 122]⟩ : ByteArray)[v % 16]'h = hexC (v % 16) := fun h => dig36_get hq2 h
      have i1 : (0 : Int) ≤ ((v % 16 : Nat) : Int) := Int.natCast_nonneg _
      have i2 : ((v % 16 : Nat) : Int) < 36 := Int.ofNat_lt.2 (Nat.lt_trans hq2 (by decide))
      obtain ⟨c, hc⟩ : ∃ c, hexC (v % 16) = c := ⟨_, rfl⟩
      have hA := HI.out.1.more c
      have hW2 : hexW u = hexW (v / 16) ++ (c :: S) := by rw [HI.out.2, hexW_big h16, hc, List.append_assoc]; rfl
      have hb2 := set_blk hb k (.int .u8 (c.toNat : Int))
      have hK : Keeps w (wr.setCell ⟨w.heap.size, k, none⟩ (.int .u8 (c.toNat : Int))) (fun _ => False) := K.setCell _ (fun e => by simp at e) _
      obtain ⟨p, hp⟩ : ∃ p, v / 16 = p := ⟨_, rfl⟩
      have hpl : p ≤ u := Nat.le_trans (hp ▸ Nat.div_le_self v 16) hv
      have hpv : p < v := hp ▸ Nat.div_lt_self (by omega) (by decide)
      obtain ⟨-, b2⟩ := quo16 v p hp
      have b5 := wrapu (q := p) (Nat.lt_of_le_of_lt hpl hu)
      rw [hp] at hW2
      simp only [hc] at g1
      have HN := hide (And.intro hb2 (And.intro (And.intro hA hW2) hK))
      have Hms := hide hpv
      have Hpl := hide hpl
      clear hlen hpos hS hA hW2 hb2 hK HI K hb hcs hold hc hp hpv hpl hv64 hZ hZs hP HT hD k0
      generalize v % 16 = q at *
      go_wp2_with fail
      refine ⟨⟨p, k, c :: S, _, rfl, Hpl.out, rfl, HN.out.1, HN.out.2.1, HN.out.2.2⟩, ?_⟩
      simp [intOf]
      exact Hms.out
end Go.Proofs.YtfpiibccggjjpaaDoor
/-
  script: word64Text; numbers as texts.
-/
namespace Go.Proofs.YtfpiibccggjjpaaDoor
open Go.RowKit
set_option linter.unusedVariables false
theorem Deb.keeps {w W : World} (h : Deb w) (k : Keeps w W (fun _ => False)) : Deb W := keeps_cell k h
set_option maxRecDepth 100000 in
set_option maxHeartbeats 2000000 in
theorem ifuint_any (u : Nat) (hu : u < 18446744073709551616) (w : World) (hD : Deb w) : Calls Tryd.prog 84 #[.int .u64 (u : Int), .int .i64 16] w fun e w' => e = .returned (.string (strOf (hexW u))) ∧ Keeps w w' (fun _ => False) := by
  have h := fbits_any u hu w hD
  go_enter Tryd.func84, Tryd.ntmps84
  go_wp2_with fail
  (with_reducible refine h.mono ?_)
  rintro e w1 ⟨rfl, k1⟩
  go_wp2_with fail
  go_ret
  exact ⟨rfl, k1⟩
set_option maxRecDepth 100000 in
set_option maxHeartbeats 2000000 in
theorem fuint_any (u : Nat) (hu : u < 18446744073709551616) (w : World) (hD : Deb w) : Calls Tryd.prog 67 #[.int .u64 (u : Int), .int .i64 16] w fun e w' => e = .returned (.string (strOf (hexW u))) ∧ Keeps w w' (fun _ => False) := by
  have h := ifuint_any u hu w hD
  go_enter Tryd.func67, Tryd.ntmps67
  go_wp2_with fail
  (with_reducible refine h.mono ?_)
  rintro e w1 ⟨rfl, k1⟩
  go_wp2_with fail
  go_ret
  exact ⟨rfl, k1⟩
set_option maxRecDepth 100000 in
set_option maxHeartbeats 2000000 in
theorem wtext_any (u : Nat) (hu : u < 18446744073709551616) (w : World) (hD : Deb w) : Calls Tryd.prog 50 #[.int .u64 (u : Int)] w fun e w' => e = .returned (.string (wordD u)) ∧ Keeps w w' (fun _ => False) := by
  have h := fuint_any u hu w hD
  have hX : ⟨#[48, 120]⟩ ++ strOf (hexW u) = wordD u := strOf_append [48, 120] (hexW u)
  have hlen := hexW_len 15 u (by omega)
  have hsz : (strOf (hexW u)).size = (hexW u).length := strOf_size _
  rw [← hX]
  obtain ⟨R, hR⟩ : ∃ R, strOf (hexW u) = R := ⟨_, rfl⟩
  rw [hR] at h hsz ⊢
  have hsum : 2 + R.size ≤ 9223372036854775807 := by omega
  clear hX hlen hsz hR
  go_enter Tryd.func50, Tryd.ntmps50
  go_wp2_with fail
  (with_reducible refine h.mono ?_)
  rintro e w1 ⟨rfl, k1⟩
  go_wp2_with fail
  go_ret
  exact ⟨rfl, k1⟩
end Go.Proofs.YtfpiibccggjjpaaDoor
/-
  script: lists of numbers as texts: the reference's numbers.
-/
namespace Go.Proofs.YtfpiibccggjjpaaDoor
open Go.RowKit
set_option linter.unusedVariables false

/-- A list of ints that lies somewhere. -/
structure IntsIn (w : World) (v : Value) (l : List Int) : Prop where
  form : (v = .slice none 0 0 ∧ l = []) ∨ ∃ a c, v = .slice (some a) l.length c ∧ ∀ j (hj : j < l.length), w.cell? (a.add j) = some (.int .i64 l[j])
  fits : ∀ n, n ∈ l → -9223372036854775808 ≤ n ∧ n ≤ 9223372036854775807

def numsL (l : List Int) : List UInt8 := l.flatMap (fun n => 32 :: Lib.itoa n)

theorem numsL_take {l : List Int} {i : Nat} (h : i < l.length) : numsL (l.take (i + 1)) = numsL (l.take i) ++ (32 :: Lib.itoa l[i]) := by
  unfold numsL
  rw [List.take_succ_eq_append_getElem h, List.flatMap_append]
  simp

theorem numsL_len : ∀ l : List Int, (∀ n, n ∈ l → -9223372036854775808 ≤ n ∧ n ≤ 9223372036854775807) → (numsL l).length ≤ 22 * l.length
  | [], _ => by simp [numsL]
  | n :: r, h => by
    have ih := numsL_len r (fun m hm => h m (List.mem_cons_of_mem _ hm))
    obtain ⟨h1, h2⟩ := h n List.mem_cons_self
    have hz := num_size n h1 h2
    unfold numD at hz
    rw [strOf_size] at hz
    unfold numsL at ih ⊢
    rw [List.flatMap_cons, List.length_append, List.length_cons, List.length_cons]
    omega

theorem Tryd.infoS4 : (Tryd.prog.info? 9).map (fun i => (i.zero, i.size, i.bytes)) = some (some (.string ⟨#[]⟩), 1, 16) := by kernel_rfl

/-- The texts of a list of numbers. -/
def TextsR (w : World) (l : List Int) (e : Ending) (w' : World) : Prop := ∃ r, e = .returned r ∧ w'.ownsRow w.heap.size 9 1 r l.length (l.map fun n => Value.string (numD n)) ∧ (l.length = 0 → r = .slice none 0 0) ∧ Keeps w w' (fun _ => False)

set_option maxRecDepth 100000 in
set_option maxHeartbeats 2000000 in
theorem ntexts_any (v : Value) (l : List Int) (hl : l.length ≤ 8388608) (w : World) (h : IntsIn w v l) (ht : TabW w) : Calls Tryd.prog 52 #[v] w fun e w' => TextsR w l e w' := by
  have hfit := h.fits
  rcases h.form with ⟨rfl, rfl⟩ | ⟨a, c, rfl, hcell⟩
  · go_enter Tryd.func52, Tryd.ntmps52
    go_wp2_with fail
    go_loopw [3, 8] (fun v3 v8 wr => v3 = .slice none 0 0 ∧ v8 = .int .i64 0 ∧ wr = w) (fun _ _ _ => 0)
    case atStart => exact ⟨rfl, rfl, rfl⟩
    case round =>
      obtain ⟨rfl, rfl, rfl⟩ := hrel
      go_wp2_with fail
      go_ret
      exact ⟨_, rfl, ⟨rfl, Or.inl ⟨rfl, rfl⟩⟩, fun _ => rfl, Keeps.refl _ _⟩
  · have Hcell := hide hcell
    have Hfit := hide hfit
    have HT := hide ht
    clear h hcell hfit ht
    go_enter Tryd.func52, Tryd.ntmps52
    go_wp2_with fail
    go_loopw [3, 8] (fun v3 v8 wr => ∃ i : Nat, v8 = .int .i64 (i : Int) ∧ i ≤ l.length ∧ wr.ownsRow w.heap.size 9 1 v3 i ((l.take i).map fun n => Value.string (numD n)) ∧ (i = 0 → v3 = .slice none 0 0) ∧ Keeps w wr (fun _ => False)) (fun _ v8 _ => l.length - (intOf v8).toNat)
    case atStart => exact ⟨0, rfl, Nat.zero_le _, ⟨rfl, Or.inl ⟨rfl, rfl⟩⟩, fun _ => rfl, Keeps.refl _ _⟩
    case round =>
      obtain ⟨i, rfl, hi, hrow, hz0, K⟩ := hrel
      have HZ0 := hide hz0
      clear hz0
      by_cases hlt : i < l.length
      · have hlt' : (i : Int) < (l.length : Int) := by omega
        have hc := keeps_cell K (Hcell.out i hlt)
        obtain ⟨f1, f2⟩ := Hfit.out l[i] (List.getElem_mem _)
        obtain ⟨n, hn⟩ : ∃ n, l[i] = n := ⟨_, rfl⟩
        rw [hn] at hc f1 f2
        have hT : (l.take (i + 1)).map (fun n => Value.string (numD n)) = (l.take i).map (fun n => Value.string (numD n)) ++ [Value.string (numD n)] := by
          rw [List.take_succ_eq_append_getElem hlt, List.map_append, hn]
          rfl
        have hD := ntext_any n f1 f2 wr (HT.out.keeps K)
        obtain ⟨D, hDD⟩ : ∃ D, numD n = D := ⟨_, rfl⟩
        rw [hDD] at hD hT
        obtain ⟨a6, a7⟩ := wr64s (n := i) (by omega)
        have Hms : Hid (l.length - (i + 1) < l.length - i) := by show l.length - (i + 1) < l.length - i; omega
        have HK := hide K
        have HRow := hide hrow
        have HTk := hide hT
        clear K hrow hT hDD hn f1 f2 Hfit HT
        go_wp2_with fail
        (with_reducible refine hD.mono ?_)
        rintro e w1 ⟨rfl, k1⟩
        clear hD
        have hrow1 := ownsRow_keeps HRow.out k1 (fun _ _ e => e)
        have hz1 := (HK.out.trans k1 (fun _ _ e => e)).size
        obtain ⟨g1, c1, w2, hr1, hown1, kk1, -⟩ := append_one (P := Tryd.prog) 42 9 (.string ⟨#[]⟩) 16 Tryd.underlying42 Tryd.infoS4 rfl (hrow1.alloc (.cells #[.string D] 9)) (heap_alloc_new w1 (.cells #[.string D] 9)) rfl (by omega) (by simp only [maxLen]; omega) (by rw [World.size_alloc]; omega)
        have HN : Hid (w2.ownsRow w.heap.size 9 1 (.slice (some ⟨g1, 0, none⟩) (i + 1) c1) (i + 1) ((l.take (i + 1)).map fun n => Value.string (numD n)) ∧ Keeps w w2 (fun _ => False)) := by
          refine ⟨by rw [HTk.out]; exact hown1, ((HK.out.trans k1 (fun _ _ e => e)).alloc _).trans kk1 (fun q hq e => ?_)⟩
          have := (ownsRow_block hrow1 e).1
          omega
        clear hrow1 hown1 kk1 k1 hz1 HK HRow HTk
        go_wp2_with (first | (at_builtin; have _t := hr1; refine app_run _ rfl (.tmp 12) (.tmp 15) 42 rfl rfl rfl hr1 ?_; clear hr1))
        go_roundw
        case rel => exact ⟨i + 1, by go_num, hlt, HN.out.1, fun e => by omega, HN.out.2⟩
        case measure => simp [intOf]; exact Hms.out
      · obtain rfl : i = l.length := by omega
        have hlt' : ¬ (l.length : Int) < (l.length : Int) := by omega
        rw [List.take_of_length_le (Nat.le_refl _)] at hrow
        have HRow := hide hrow
        have HK := hide K
        clear K hrow
        go_wp2_with fail
        go_ret
        exact ⟨_, rfl, HRow.out, HZ0.out, HK.out⟩
end Go.Proofs.YtfpiibccggjjpaaDoor
