import Derived.Test.YtlgmpnaalifegabWalks13
namespace Go.Proofs.Ytlgmpnaalifegab
namespace memWrites
open Go.RowKit

def Post (w : World) (e : Ending) (w' : World) : Prop := e = .returned (.bool true) ∧ Below w.heap.size w w'
/-- The first k texts, one behind the other. -/
def catS (ts : List ByteArray) (k : Nat) : ByteArray := strOf (catTo (bytesOf ts) k)
theorem catS_zero (ts : List ByteArray) : catS ts 0 = ⟨#[]⟩ := by simp [catS, catTo, strOf]
theorem catS_succ (ts : List ByteArray) (k : Nat) (h : k < ts.length) : catS ts k ++ ts[k] = catS ts (k + 1) := by
  have e := catTo_succ (bytesOf ts) k (by rw [bytesOf_length]; exact h)
  unfold catS
  rw [e]
  apply ByteArray.ext
  simp [strOf, bytesOf]
theorem catS_data (ts : List ByteArray) (k : Nat) : (catS ts k).data.toList = catTo (bytesOf ts) k := by simp [catS, strOf]
theorem catS_size (ts : List ByteArray) (k : Nat) : (catS ts k).size = (catTo (bytesOf ts) k).length := by
  have := catS_data ts k
  rw [← this]
  simp
theorem catS_all (ts : List ByteArray) : (catS ts ts.length).data.toList = catAll (bytesOf ts) := by
  rw [catS_data, ← catTo_all', bytesOf_length]
set_option maxHeartbeats 400000 in
theorem walk_big (s : ByteArray) (o : Int) (pv : Value) (w : World) (hs : s.size ≤ maxLen) (h : 134217728 < s.size) :
    Calls Try.prog 3 #[.string s, .int .i64 o, pv] w fun e w' => Post w e w' := by
  have hm := made_no s w hs h
  have hd : (134217728 : Int) < (s.size : Int) := by omega
  unfold maxLen at hs
  go_enter Try.func3, Try.ntmps3
  go_wp2_with fail
  refine hm.mono ?_
  rintro e w' ⟨rfl, rfl⟩
  clear hm
  go_wp2_with fail
  go_ret
  exact ⟨rfl, Below.refl _ _⟩

set_option maxHeartbeats 2000000 in
theorem yes (t : ByteArray) (o : Nat) (ao : Option Addr) (cap : Nat) (ts : List ByteArray) (w : World) (h : t.size ≤ 134217728) (hts : StrsAt w w.heap.size ao ts) (hn : ts.length ≤ 1048576) (hz : ∀ x ∈ ts, x.size ≤ 1048576) (hc : (catAll (bytesOf ts)).length ≤ 1048576) (hin : o + (catAll (bytesOf ts)).length ≤ t.size) :
    Calls Try.prog 3 #[.string t, .int .i64 (o : Int), .slice ao ts.length cap] w fun e w' => Post w e w' := by
  have hm := made_yes t w h
  have hl : t.data.toList.length = t.size := by simp
  have hcs : (catS ts ts.length).size = (catAll (bytesOf ts)).length := by rw [catS_size, ← catTo_all', bytesOf_length]
  have hli := fun W => lawin_yes W t.size (by omega) o (catAll (bytesOf ts)).length (insideB_mk hin)
  rw [← hcs] at hli
  go_enter Try.func3, Try.ntmps3
  go_wp2_with fail
  refine hm.mono ?_
  rintro e w1 ⟨b, g, hb, hg, rfl, m, k⟩
  clear hm
  have hts1 : StrsAt w1 w.heap.size ao ts := hts.keeps (Nat.le_refl _) (k.mono (fun _ _ x => x.elim))
  have hlen1 : w.heap.size ≤ w1.heap.size := k.size
  have hby := bytes_any w1 ao cap ts (hts1.mono hlen1) hn hz
  clear hts hz
  go_wp2_with fail
  go_loop [8, 24] (fun s i => ∃ k : Nat, k ≤ ts.length ∧ i = .int .i64 (k : Int) ∧ s = .string (catS ts k)) (fun _ i => ts.length - (intOf i).toNat)
  case atStart => exact ⟨0, Nat.zero_le _, rfl, by rw [catS_zero]⟩
  case round =>
    obtain ⟨kk, hk, rfl, rfl⟩ := hrel
    by_cases hlt : kk < ts.length
    · obtain ⟨bb, oo, rfl, hbb, hcell⟩ := hts1 kk hlt
      have HS : Hid (catS ts kk ++ ts[kk] = catS ts (kk + 1)) := catS_succ ts kk hlt
      have hsum : (catS ts kk).size + (ts[kk]).size ≤ 1048576 := by
        have h1 := catTo_le' (bytesOf ts) (kk + 1)
        rw [← catS_size, ← catS_succ ts kk hlt] at h1
        simp at h1
        omega
      clear hts1 hby m k hcs hc
      generalize ts[kk] = tk at *
      generalize catS ts kk = sk at *
      go_wp2
      go_round
      case rel => exact ⟨kk + 1, by omega, by go_num, by rw [← HS.out]⟩
      case measure => simp [intOf]; omega
    · have hall : kk = ts.length := by omega
      subst hall
      clear hts1
      have hsd := catS_all ts
      generalize catS ts ts.length = S at *
      have HC : Hid (S.size = (catAll (bytesOf ts)).length) := hcs
      have HD : Hid (S.data.toList = catAll (bytesOf ts)) := hsd
      have hS : S.size ≤ 1048576 := by omega
      clear hcs hsd
      go_wp2_with fail
      refine hby.mono ?_
      rintro e w2 ⟨gl, cl, rfl, hps, k2⟩
      clear hby
      replace hps := hps g (heap_lt m.hg)
      replace m := m.keeps k2 (by have := heap_lt m.hb; omega) (by have := heap_lt m.hg; omega)
      replace k := k.trans k2 (fun i hi e => by omega)
      clear k2
      have hbl := bytesOf_length ts
      have hwr := write_yes w2 b g gl cl t.data.toList [] (bytesOf ts) m o (by rw [hbl]; omega) hps (by rw [hl]; exact hin)
      have hbl2 : (splice t.data.toList o (catAll (bytesOf ts))).length = t.size := by rw [splice_length (by rw [hl]; exact hin), hl]
      have hB := splice_text t S o S.size (catAll (bytesOf ts)) HD.out.symm rfl (by rw [HC.out]; exact hin)
      have HB : Hid (splice t.data.toList o (catAll (bytesOf ts)) = (t.extract 0 o ++ S ++ t.extract (o + S.size) t.size).data.toList) := hB
      clear hB m
      generalize splice t.data.toList o (catAll (bytesOf ts)) = bs at *
      clear hps
      rw [hbl] at hwr ⊢
      go_wp2_with fail
      refine hwr.mono ?_
      rintro e w3 ⟨rfl, m, k3⟩
      replace k := k.trans k3 (fun i hi e => by omega)
      clear k3
      clear hwr
      go_wp2_with fail
      refine (hli _).mono ?_
      rintro e w5 ⟨rfl, rfl⟩
      clear hli
      have hin2 : o + S.size ≤ t.size := by rw [HC.out]; exact hin
      go_wp2_with fail
      go_quiet (fail)
      have hrd := fun n => read_yes (w5.drewN n) b g bs [] (m.drewN n) 0 t.size (by rw [hbl2]; omega)
      rw [show ((0 : Nat) : Int) = 0 from rfl] at hrd
      go_wp2_with fail
      refine (hrd _).mono ?_
      rintro e w6 ⟨l, hlt, rfl, hrow, k6⟩
      clear hrd m
      have K6 := (k.drewN _).trans k6 (fun _ _ x => x)
      have t1 := row_text (w := w6) (n := t.size) (c := t.size) (y := []) (s := t.extract 0 o ++ S ++ t.extract (o + S.size) t.size) (by rw [List.append_nil]; exact hrow) (by simp; omega) (by rw [List.drop_zero, List.take_of_length_le (by omega)]; exact HB.out)
      have htw := fun W => twice_any t S (o : Int) W h (by omega)
      clear hrow k k6
      go_wp2_with fail
      refine (htw _).mono ?_
      rintro e w7 ⟨rfl, k7⟩
      clear htw
      go_wp2_with fail
      go_ret
      exact ⟨rfl, (K6.trans k7 (fun _ _ x => x)).below (Nat.le_refl _) (fun _ _ => id)⟩

set_option maxHeartbeats 2000000 in
theorem out (t : ByteArray) (o : Int) (ao : Option Addr) (cap : Nat) (ts : List ByteArray) (w : World) (h : t.size ≤ 134217728) (hts : StrsAt w w.heap.size ao ts) (hn : ts.length ≤ 1048576) (hz : ∀ x ∈ ts, x.size ≤ 1048576) (hc : (catAll (bytesOf ts)).length ≤ 1048576) (hin : insideB t.size o 0 = false) :
    Calls Try.prog 3 #[.string t, .int .i64 o, .slice ao ts.length cap] w fun e w' => Post w e w' := by
  have hm := made_yes t w h
  have hl : t.data.toList.length = t.size := by simp
  have hcs : (catS ts ts.length).size = (catAll (bytesOf ts)).length := by rw [catS_size, ← catTo_all', bytesOf_length]
  have hno : insideB t.size o (catS ts ts.length).size = false := by
    have := insideB_false hin
    unfold insideB
    exact decide_eq_false (by omega)
  have hli := fun W => lawin_no W t.size (by omega) o (catS ts ts.length).size hno
  have HI : Hid (insideB t.size o 0 = false) := hin
  clear hin hno
  go_enter Try.func3, Try.ntmps3
  go_wp2_with fail
  refine hm.mono ?_
  rintro e w1 ⟨b, g, hb, hg, rfl, m, k⟩
  clear hm
  have hts1 : StrsAt w1 w.heap.size ao ts := hts.keeps (Nat.le_refl _) (k.mono (fun _ _ x => x.elim))
  have hlen1 : w.heap.size ≤ w1.heap.size := k.size
  have hby := bytes_any w1 ao cap ts (hts1.mono hlen1) hn hz
  clear hts hz
  go_wp2_with fail
  go_loop [8, 24] (fun s i => ∃ k : Nat, k ≤ ts.length ∧ i = .int .i64 (k : Int) ∧ s = .string (catS ts k)) (fun _ i => ts.length - (intOf i).toNat)
  case atStart => exact ⟨0, Nat.zero_le _, rfl, by rw [catS_zero]⟩
  case round =>
    obtain ⟨kk, hk, rfl, rfl⟩ := hrel
    by_cases hlt : kk < ts.length
    · obtain ⟨bb, oo, rfl, hbb, hcell⟩ := hts1 kk hlt
      have HS : Hid (catS ts kk ++ ts[kk] = catS ts (kk + 1)) := catS_succ ts kk hlt
      have hsum : (catS ts kk).size + (ts[kk]).size ≤ 1048576 := by
        have h1 := catTo_le' (bytesOf ts) (kk + 1)
        rw [← catS_size, ← catS_succ ts kk hlt] at h1
        simp at h1
        omega
      clear hts1 hby m k hcs hc
      generalize ts[kk] = tk at *
      generalize catS ts kk = sk at *
      go_wp2
      go_round
      case rel => exact ⟨kk + 1, by omega, by go_num, by rw [← HS.out]⟩
      case measure => simp [intOf]; omega
    · have hall : kk = ts.length := by omega
      subst hall
      clear hts1
      have hsd := catS_all ts
      generalize catS ts ts.length = S at *
      have HC : Hid (S.size = (catAll (bytesOf ts)).length) := hcs
      have HD : Hid (S.data.toList = catAll (bytesOf ts)) := hsd
      have hS : S.size ≤ 1048576 := by omega
      clear hcs hsd
      go_wp2_with fail
      refine hby.mono ?_
      rintro e w2 ⟨gl, cl, rfl, hps, k2⟩
      clear hby
      replace hps := hps g (heap_lt m.hg)
      replace m := m.keeps k2 (by have := heap_lt m.hb; omega) (by have := heap_lt m.hg; omega)
      replace k := k.trans k2 (fun i hi e => by omega)
      clear k2
      have hbl := bytesOf_length ts
      have hwr := write_out w2 b g t.data.toList [] m o (.slice (some ⟨gl, 0, none⟩) (bytesOf ts).length cl) (by rw [hl]; exact HI.out)
      clear hps
      rw [hbl] at hwr ⊢
      go_wp2_with fail
      refine hwr.mono ?_
      rintro e w3 ⟨rfl, rfl⟩
      clear hwr
      go_wp2_with fail
      refine (hli _).mono ?_
      rintro e w5 ⟨rfl, rfl⟩
      clear hli
      have hrd := read_yes _ b g t.data.toList [] m 0 t.size (by rw [hl]; omega)
      rw [show ((0 : Nat) : Int) = 0 from rfl] at hrd
      go_wp2_with fail
      refine hrd.mono ?_
      rintro e w6 ⟨l, hlt, rfl, hrow, k6⟩
      clear hrd m
      have K6 := k.trans k6 (fun _ _ x => x)
      have t1 := row_text (w := w6) (n := t.size) (c := t.size) (y := []) (s := t) (by rw [List.append_nil]; exact hrow) (by simp) (by rw [List.drop_zero, List.take_of_length_le (by omega)])
      have htw := fun W => twice_any t S o W h (by omega)
      clear hrow k k6
      go_wp2_with fail
      refine (htw _).mono ?_
      rintro e w7 ⟨rfl, k7⟩
      clear htw
      go_wp2_with fail
      go_ret
      exact ⟨rfl, (K6.trans k7 (fun _ _ x => x)).below (Nat.le_refl _) (fun _ _ => id)⟩

set_option maxHeartbeats 2000000 in
theorem no (t : ByteArray) (o : Nat) (ao : Option Addr) (cap : Nat) (ts : List ByteArray) (w : World) (h : t.size ≤ 134217728) (hts : StrsAt w w.heap.size ao ts) (hn : ts.length ≤ 1048576) (hz : ∀ x ∈ ts, x.size ≤ 1048576) (hc : (catAll (bytesOf ts)).length ≤ 1048576) (ho : o ≤ t.size) (hin : t.size < o + (catAll (bytesOf ts)).length) :
    Calls Try.prog 3 #[.string t, .int .i64 (o : Int), .slice ao ts.length cap] w fun e w' => Post w e w' := by
  have hm := made_yes t w h
  have hl : t.data.toList.length = t.size := by simp
  have hcs : (catS ts ts.length).size = (catAll (bytesOf ts)).length := by rw [catS_size, ← catTo_all', bytesOf_length]
  have hno : insideB t.size o (catS ts ts.length).size = false := by
    unfold insideB
    exact decide_eq_false (by omega)
  have hli := fun W => lawin_no W t.size (by omega) o (catS ts ts.length).size hno
  clear hno
  go_enter Try.func3, Try.ntmps3
  go_wp2_with fail
  refine hm.mono ?_
  rintro e w1 ⟨b, g, hb, hg, rfl, m, k⟩
  clear hm
  have hts1 : StrsAt w1 w.heap.size ao ts := hts.keeps (Nat.le_refl _) (k.mono (fun _ _ x => x.elim))
  have hlen1 : w.heap.size ≤ w1.heap.size := k.size
  have hby := bytes_any w1 ao cap ts (hts1.mono hlen1) hn hz
  clear hts hz
  go_wp2_with fail
  go_loop [8, 24] (fun s i => ∃ k : Nat, k ≤ ts.length ∧ i = .int .i64 (k : Int) ∧ s = .string (catS ts k)) (fun _ i => ts.length - (intOf i).toNat)
  case atStart => exact ⟨0, Nat.zero_le _, rfl, by rw [catS_zero]⟩
  case round =>
    obtain ⟨kk, hk, rfl, rfl⟩ := hrel
    by_cases hlt : kk < ts.length
    · obtain ⟨bb, oo, rfl, hbb, hcell⟩ := hts1 kk hlt
      have HS : Hid (catS ts kk ++ ts[kk] = catS ts (kk + 1)) := catS_succ ts kk hlt
      have hsum : (catS ts kk).size + (ts[kk]).size ≤ 1048576 := by
        have h1 := catTo_le' (bytesOf ts) (kk + 1)
        rw [← catS_size, ← catS_succ ts kk hlt] at h1
        simp at h1
        omega
      clear hts1 hby m k hcs hc
      generalize ts[kk] = tk at *
      generalize catS ts kk = sk at *
      go_wp2
      go_round
      case rel => exact ⟨kk + 1, by omega, by go_num, by rw [← HS.out]⟩
      case measure => simp [intOf]; omega
    · have hall : kk = ts.length := by omega
      subst hall
      clear hts1
      have hsd := catS_all ts
      generalize catS ts ts.length = S at *
      have HC : Hid (S.size = (catAll (bytesOf ts)).length) := hcs
      have HD : Hid (S.data.toList = catAll (bytesOf ts)) := hsd
      have hS : S.size ≤ 1048576 := by omega
      clear hcs hsd
      go_wp2_with fail
      refine hby.mono ?_
      rintro e w2 ⟨gl, cl, rfl, hps, k2⟩
      clear hby
      replace hps := hps g (heap_lt m.hg)
      replace m := m.keeps k2 (by have := heap_lt m.hb; omega) (by have := heap_lt m.hg; omega)
      replace k := k.trans k2 (fun i hi e => by omega)
      clear k2
      have hbl := bytesOf_length ts
      have hwr := write_no w2 b g gl cl t.data.toList [] (bytesOf ts) m o (by rw [hl]; exact ho) (by rw [hbl]; omega) hps (by rw [hl]; exact hin)
      clear hps
      rw [hbl] at hwr ⊢
      go_wp2_with fail
      refine hwr.mono ?_
      rintro e w3 ⟨rfl, rfl⟩
      clear hwr
      go_wp2_with fail
      refine (hli _).mono ?_
      rintro e w5 ⟨rfl, rfl⟩
      clear hli
      have hrd := read_yes _ b g t.data.toList [] m 0 t.size (by rw [hl]; omega)
      rw [show ((0 : Nat) : Int) = 0 from rfl] at hrd
      go_wp2_with fail
      refine hrd.mono ?_
      rintro e w6 ⟨l, hlt, rfl, hrow, k6⟩
      clear hrd m
      have K6 := k.trans k6 (fun _ _ x => x)
      have t1 := row_text (w := w6) (n := t.size) (c := t.size) (y := []) (s := t) (by rw [List.append_nil]; exact hrow) (by simp) (by rw [List.drop_zero, List.take_of_length_le (by omega)])
      have htw := fun W => twice_any t S (o : Int) W h (by omega)
      clear hrow k k6
      go_wp2_with fail
      refine (htw _).mono ?_
      rintro e w7 ⟨rfl, k7⟩
      clear htw
      go_wp2_with fail
      go_ret
      exact ⟨rfl, (K6.trans k7 (fun _ _ x => x)).below (Nat.le_refl _) (fun _ _ => id)⟩

theorem walk (t : ByteArray) (o : Int) (ao : Option Addr) (cap : Nat) (ts : List ByteArray) (w : World) (hs : t.size ≤ maxLen) (hts : StrsAt w w.heap.size ao ts) (hn : ts.length ≤ 1048576) (hz : ∀ x ∈ ts, x.size ≤ 1048576) (hc : (catAll (bytesOf ts)).length ≤ 1048576) :
    Calls Try.prog 3 #[.string t, .int .i64 o, .slice ao ts.length cap] w fun e w' => e = .returned (.bool true) ∧ Below w.heap.size w w' := by
  by_cases h : 134217728 < t.size
  · exact walk_big t o _ w hs h
  replace h : t.size ≤ 134217728 := by omega
  cases h0 : insideB t.size o 0
  · exact out t o ao cap ts w h hts hn hz hc h0
  · obtain ⟨q, n, rfl, hn0, hq⟩ := insideB_nat h0
    by_cases h1 : q + (catAll (bytesOf ts)).length ≤ t.size
    · exact yes t q ao cap ts w h hts hn hz hc h1
    · exact no t q ao cap ts w h hts hn hz hc (by omega) (by omega)
end memWrites
end Go.Proofs.Ytlgmpnaalifegab
