import Derived.Test.YtlgmpnaalifegabWalks12
import Derived.Test.YtlgmpnaalifegabWalks9
import Derived.Test.YtlgmpnaalifegabWalks6
namespace Go.Proofs.Ytlgmpnaalifegab
open Go.RowKit

theorem parts_two {w : World} {g pb h n c : Nat} {x y : List UInt8} {e t : TypeId} {fz : Nat × Nat} (hr : w.heap[h]? = some (.cells (rowOf (x ++ y)) e fz)) (hg : h ≠ g) (hn : n = x.length) (hx : x.length ≤ 140737488355328) (hpb : pb = w.heap.size) (hpg : pb ≠ g) :
    PartsAt (w.alloc (.cells #[.slice (some ⟨h, 0, none⟩) n c, .slice (some ⟨h, 0, none⟩) n c] t)) g pb [x, x] := by
  subst hpb
  subst hn
  have hp : PartAt (w.alloc (.cells #[.slice (some ⟨h, 0, none⟩) x.length c, .slice (some ⟨h, 0, none⟩) x.length c] t)) g (.slice (some ⟨h, 0, none⟩) x.length c) x := by
    refine part_of_row (y := y) (e := e) (fz := fz) ?_ hg hx
    rw [Below.heap_alloc _ _ _ (heap_lt hr)]
    exact hr
  refine ⟨by simp, hpg, fun j hj => ?_⟩
  have h0 : j = 0 ∨ j = 1 := by simp at hj; omega
  rcases h0 with h0 | h0
  · subst h0
    refine ⟨_, ?_, hp⟩
    simp only [World.cell?, heap_alloc_new]
    simp
  · subst h0
    refine ⟨_, ?_, hp⟩
    simp only [World.cell?, heap_alloc_new]
    simp
theorem catAll_two (x : List UInt8) : catAll [x, x] = x ++ x := by simp [catAll]

theorem MemAt.drewN {T E : TypeId} {w : World} {b g : Nat} {bs sp : List UInt8} (m : MemAt T E w b g bs sp) (n : Nat) : MemAt T E (w.drewN n) b g bs sp := ⟨m.hb, m.hg, m.hmax, m.hne⟩
theorem strOf_data (s : ByteArray) : strOf s.data.toList = s := by
  apply ByteArray.ext
  simp [strOf]
theorem extract_toList' (s : ByteArray) (a b : Nat) : (s.extract a b).data.toList = (s.data.toList.drop a).take (b - a) := Lib.extract_data s a b
theorem strOf_eq {x : List UInt8} {s : ByteArray} (h : x = s.data.toList) : strOf x = s := by
  subst h
  exact strOf_data s
/-- The text of a list of bytes in a row of its own. -/
theorem row_text {w : World} {h n c : Nat} {x y : List UInt8} {e : TypeId} {fz : Nat × Nat} {s : ByteArray} (hr : w.heap[h]? = some (.cells (rowOf (x ++ y)) e fz)) (hn : x.length = n) (hs : x = s.data.toList) :
    (convert 30 9 (.slice (some ⟨h, 0, none⟩) n c)).run Try.prog w = .ok (.string s) w := by
  rw [← strOf_eq hs]
  refine run_text w ⟨h, 0, none⟩ c n x hn (fun j hj => ?_)
  rw [addr_add, Nat.zero_add]
  have := rowOf_get (x ++ y) j (by simp; omega)
  simp only [World.cell?, hr]
  simpa [List.getElem_append_left hj] using this
theorem splice_text (t s : ByteArray) (o n : Nat) (x : List UInt8) (hx : x = s.data.toList) (hn : s.size = n) (h : o + n ≤ t.size) : splice t.data.toList o x = (t.extract 0 o ++ s ++ t.extract (o + n) t.size).data.toList := by
  subst hx
  subst hn
  have hl : t.data.toList.length = t.size := by simp
  have hsl : s.data.toList.length = s.size := by simp
  simp only [ByteArray.data_append, Array.toList_append, extract_toList']
  unfold splice
  rw [hsl]
  simp only [List.drop_zero, Nat.sub_zero]
  congr 1
  rw [List.take_of_length_le (by simp)]

def TwicePost (w : World) (e : Ending) (w' : World) : Prop := e = .returned (.bool true) ∧ Keeps w w' (fun _ => False)

set_option maxHeartbeats 2000000 in
theorem twice_yes (t s : ByteArray) (o : Nat) (w : World) (h : t.size ≤ 134217728) (hs : s.size ≤ 1099511627776) (hin : o + 2 * s.size ≤ t.size) :
    Calls Try.prog 12 #[.string t, .int .i64 (o : Int), .string s] w fun e w' => TwicePost w e w' := by
  have hm := made_yes t w h
  have hl : t.data.toList.length = t.size := by simp
  have hsl : s.data.toList.length = s.size := by simp
  have hli := fun W => lawin_yes W t.size (by omega) o (2 * s.size : Nat) (insideB_mk hin)
  go_enter Try.func12, Try.ntmps12
  go_wp2_with fail
  refine hm.mono ?_
  rintro e w1 ⟨b, g, hb, hg, rfl, m, k⟩
  clear hm
  obtain ⟨w3, c, fz, hconv, k3, hs3, hr3⟩ := bytes_of (P := Try.prog) w1 9 30 5 s Try.underlying9 Try.underlying30 Try.underlying5
  have m3 := m.keeps k3 id id
  have hne : w1.heap.size ≠ g := by have := heap_lt m.hg; omega
  have hps := parts_two (g := g) (pb := w3.heap.size) (c := c) (t := 30) hr3 hne hsl.symm (by rw [hsl]; omega) rfl (by have := heap_lt m3.hg; omega)
  have hr4 : (w3.alloc (.cells #[.slice (some ⟨w1.heap.size, 0, none⟩) s.size c, .slice (some ⟨w1.heap.size, 0, none⟩) s.size c] 30)).heap[w1.heap.size]? = some (.cells (rowOf (s.data.toList ++ zeros (c - s.size))) 5 fz) := by
    rw [Below.heap_alloc _ _ _ (heap_lt hr3)]
    exact hr3
  have K4 : Keeps w (w3.alloc (.cells #[.slice (some ⟨w1.heap.size, 0, none⟩) s.size c, .slice (some ⟨w1.heap.size, 0, none⟩) s.size c] 30)) (fun _ => False) := (k.trans k3 (fun _ _ x => x)).alloc _
  have hwr := write_yes (w3.alloc (.cells #[.slice (some ⟨w1.heap.size, 0, none⟩) s.size c, .slice (some ⟨w1.heap.size, 0, none⟩) s.size c] 30)) b g w3.heap.size 2 t.data.toList [] [s.data.toList, s.data.toList] (m3.keeps ((Keeps.refl _ (fun _ => False)).alloc _) id id) o (by simp) hps (by rw [catAll_two, List.length_append, hsl, hl]; omega)
  rw [catAll_two] at hwr
  have hbl : (splice t.data.toList o (s.data.toList ++ s.data.toList)).length = t.size := by rw [splice_length (by rw [List.length_append, hsl, hl]; omega), hl]
  clear m m3 k k3 hs3 hr3 hps
  go_wp2_with fail
  refine hwr.mono ?_
  rintro e w4 ⟨rfl, m4, k4⟩
  clear hwr
  have K5 := K4.trans k4 (fun i hi e => by omega)
  replace hr4 := (k4.block _ (heap_lt hr4) hne).trans hr4
  clear K4 k4
  have hB := splice_text t (s ++ s) o (2 * s.size) (s.data.toList ++ s.data.toList) (by simp) (by simp; omega) hin
  rw [← ByteArray.append_assoc] at hB
  generalize splice t.data.toList o (s.data.toList ++ s.data.toList) = bs at *
  have HB : Hid (bs = (t.extract 0 o ++ s ++ s ++ t.extract (o + 2 * s.size) t.size).data.toList) := hB
  clear hB
  go_wp2_with fail
  refine (hli _).mono ?_
  rintro e w5 ⟨rfl, rfl⟩
  clear hli
  go_wp2_with fail
  go_quiet (fail)
  have hrd := fun n => read_yes (w5.drewN n) b g bs [] (m4.drewN n) 0 t.size (by rw [hbl]; omega)
  rw [show ((0 : Nat) : Int) = 0 from rfl] at hrd
  go_wp2_with fail
  refine (hrd _).mono ?_
  rintro e w6 ⟨l, hlt, rfl, hrow, k6⟩
  clear hrd m4
  replace hr4 := (k6.block _ (heap_lt hr4) id).trans hr4
  have K6 := (K5.drewN nq).trans k6 (fun _ _ x => x)
  have t1 := row_text (w := w6) (n := t.size) (c := t.size) (y := []) (s := t.extract 0 o ++ s ++ s ++ t.extract (o + 2 * s.size) t.size) (by rw [List.append_nil]; exact hrow) (by simp; omega) (by rw [List.drop_zero, List.take_of_length_le (by omega)]; exact HB.out)
  have t2 := row_text (w := w6) (n := s.size) (c := c) (s := s) hr4 hsl rfl
  clear hrow hr4 K5 k6
  go_wp2_with fail
  go_ret
  exact ⟨rfl, K6⟩
set_option maxHeartbeats 2000000 in
theorem twice_out (t s : ByteArray) (o : Int) (w : World) (h : t.size ≤ 134217728) (hs : s.size ≤ 1099511627776) (hin : insideB t.size o 0 = false) :
    Calls Try.prog 12 #[.string t, .int .i64 o, .string s] w fun e w' => TwicePost w e w' := by
  have hm := made_yes t w h
  have hl : t.data.toList.length = t.size := by simp
  have hsl : s.data.toList.length = s.size := by simp
  have hno : insideB t.size o (2 * s.size : Nat) = false := by
    have := insideB_false hin
    unfold insideB
    exact decide_eq_false (by omega)
  have hli := fun W => lawin_no W t.size (by omega) o (2 * s.size : Nat) hno
  have HI : Hid (insideB t.size o 0 = false) := hin
  clear hin hno
  go_enter Try.func12, Try.ntmps12
  go_wp2_with fail
  refine hm.mono ?_
  rintro e w1 ⟨b, g, hb, hg, rfl, m, k⟩
  clear hm
  obtain ⟨w3, c, fz, hconv, k3, hs3, hr3⟩ := bytes_of (P := Try.prog) w1 9 30 5 s Try.underlying9 Try.underlying30 Try.underlying5
  have m3 := m.keeps k3 id id
  have hne : w1.heap.size ≠ g := by have := heap_lt m.hg; omega
  have hr4 : (w3.alloc (.cells #[.slice (some ⟨w1.heap.size, 0, none⟩) s.size c, .slice (some ⟨w1.heap.size, 0, none⟩) s.size c] 30)).heap[w1.heap.size]? = some (.cells (rowOf (s.data.toList ++ zeros (c - s.size))) 5 fz) := by
    rw [Below.heap_alloc _ _ _ (heap_lt hr3)]
    exact hr3
  have K4 : Keeps w (w3.alloc (.cells #[.slice (some ⟨w1.heap.size, 0, none⟩) s.size c, .slice (some ⟨w1.heap.size, 0, none⟩) s.size c] 30)) (fun _ => False) := (k.trans k3 (fun _ _ x => x)).alloc _
  have hwr := write_out (w3.alloc (.cells #[.slice (some ⟨w1.heap.size, 0, none⟩) s.size c, .slice (some ⟨w1.heap.size, 0, none⟩) s.size c] 30)) b g t.data.toList [] (m3.keeps ((Keeps.refl _ (fun _ => False)).alloc _) id id) o (.slice (some ⟨w3.heap.size, 0, none⟩) 2 2) (by rw [hl]; exact HI.out)
  have hbl : t.data.toList.length = t.size := hl
  have m4 := m3.keeps ((Keeps.refl _ (fun _ => False)).alloc (.cells #[.slice (some ⟨w1.heap.size, 0, none⟩) s.size c, .slice (some ⟨w1.heap.size, 0, none⟩) s.size c] 30)) id id
  clear m m3 k k3 hs3 hr3
  go_wp2_with fail
  refine hwr.mono ?_
  rintro e w4 ⟨rfl, rfl⟩
  clear hwr
  have K5 := K4
  clear K4
  go_wp2_with fail
  refine (hli _).mono ?_
  rintro e w5 ⟨rfl, rfl⟩
  clear hli
  have hrd := read_yes _ b g t.data.toList [] m4 0 t.size (by rw [hbl]; omega)
  rw [show ((0 : Nat) : Int) = 0 from rfl] at hrd
  go_wp2_with fail
  refine hrd.mono ?_
  rintro e w6 ⟨l, hlt, rfl, hrow, k6⟩
  clear hrd m4
  replace hr4 := (k6.block _ (heap_lt hr4) id).trans hr4
  have K6 := K5.trans k6 (fun _ _ x => x)
  have t1 := row_text (w := w6) (n := t.size) (c := t.size) (y := []) (s := t) (by rw [List.append_nil]; exact hrow) (by simp) (by rw [List.drop_zero, List.take_of_length_le (by omega)])
  have t2 := row_text (w := w6) (n := s.size) (c := c) (s := s) hr4 hsl rfl
  clear hrow hr4 K5 k6
  go_wp2_with fail
  go_ret
  exact ⟨rfl, K6⟩

set_option maxHeartbeats 2000000 in
theorem twice_no (t s : ByteArray) (o : Nat) (w : World) (h : t.size ≤ 134217728) (hs : s.size ≤ 1099511627776) (ho : o ≤ t.size) (hin : t.size < o + 2 * s.size) :
    Calls Try.prog 12 #[.string t, .int .i64 (o : Int), .string s] w fun e w' => TwicePost w e w' := by
  have hm := made_yes t w h
  have hl : t.data.toList.length = t.size := by simp
  have hsl : s.data.toList.length = s.size := by simp
  have hno : insideB t.size o (2 * s.size : Nat) = false := by
    unfold insideB
    exact decide_eq_false (by omega)
  have hli := fun W => lawin_no W t.size (by omega) o (2 * s.size : Nat) hno
  clear hno
  go_enter Try.func12, Try.ntmps12
  go_wp2_with fail
  refine hm.mono ?_
  rintro e w1 ⟨b, g, hb, hg, rfl, m, k⟩
  clear hm
  obtain ⟨w3, c, fz, hconv, k3, hs3, hr3⟩ := bytes_of (P := Try.prog) w1 9 30 5 s Try.underlying9 Try.underlying30 Try.underlying5
  have m3 := m.keeps k3 id id
  have hne : w1.heap.size ≠ g := by have := heap_lt m.hg; omega
  have hps := parts_two (g := g) (pb := w3.heap.size) (c := c) (t := 30) hr3 hne hsl.symm (by rw [hsl]; omega) rfl (by have := heap_lt m3.hg; omega)
  have hr4 : (w3.alloc (.cells #[.slice (some ⟨w1.heap.size, 0, none⟩) s.size c, .slice (some ⟨w1.heap.size, 0, none⟩) s.size c] 30)).heap[w1.heap.size]? = some (.cells (rowOf (s.data.toList ++ zeros (c - s.size))) 5 fz) := by
    rw [Below.heap_alloc _ _ _ (heap_lt hr3)]
    exact hr3
  have K4 : Keeps w (w3.alloc (.cells #[.slice (some ⟨w1.heap.size, 0, none⟩) s.size c, .slice (some ⟨w1.heap.size, 0, none⟩) s.size c] 30)) (fun _ => False) := (k.trans k3 (fun _ _ x => x)).alloc _
  have hwr := write_no (w3.alloc (.cells #[.slice (some ⟨w1.heap.size, 0, none⟩) s.size c, .slice (some ⟨w1.heap.size, 0, none⟩) s.size c] 30)) b g w3.heap.size 2 t.data.toList [] [s.data.toList, s.data.toList] (m3.keeps ((Keeps.refl _ (fun _ => False)).alloc _) id id) o (by rw [hl]; exact ho) (by simp) hps (by rw [catAll_two, List.length_append, hsl, hl]; omega)
  have hbl : t.data.toList.length = t.size := hl
  have m4 := m3.keeps ((Keeps.refl _ (fun _ => False)).alloc (.cells #[.slice (some ⟨w1.heap.size, 0, none⟩) s.size c, .slice (some ⟨w1.heap.size, 0, none⟩) s.size c] 30)) id id
  clear m m3 k k3 hs3 hr3 hps
  go_wp2_with fail
  refine hwr.mono ?_
  rintro e w4 ⟨rfl, rfl⟩
  clear hwr
  have K5 := K4
  clear K4
  go_wp2_with fail
  refine (hli _).mono ?_
  rintro e w5 ⟨rfl, rfl⟩
  clear hli
  have hrd := read_yes _ b g t.data.toList [] m4 0 t.size (by rw [hbl]; omega)
  rw [show ((0 : Nat) : Int) = 0 from rfl] at hrd
  go_wp2_with fail
  refine hrd.mono ?_
  rintro e w6 ⟨l, hlt, rfl, hrow, k6⟩
  clear hrd m4
  replace hr4 := (k6.block _ (heap_lt hr4) id).trans hr4
  have K6 := K5.trans k6 (fun _ _ x => x)
  have t1 := row_text (w := w6) (n := t.size) (c := t.size) (y := []) (s := t) (by rw [List.append_nil]; exact hrow) (by simp) (by rw [List.drop_zero, List.take_of_length_le (by omega)])
  have t2 := row_text (w := w6) (n := s.size) (c := c) (s := s) hr4 hsl rfl
  clear hrow hr4 K5 k6
  go_wp2_with fail
  go_ret
  exact ⟨rfl, K6⟩

theorem twice_any (t s : ByteArray) (o : Int) (w : World) (h : t.size ≤ 134217728) (hs : s.size ≤ 1099511627776) :
    Calls Try.prog 12 #[.string t, .int .i64 o, .string s] w fun e w' => TwicePost w e w' := by
  cases h0 : insideB t.size o 0
  · exact twice_out t s o w h hs h0
  · obtain ⟨q, n, rfl, hn, hq⟩ := insideB_nat h0
    by_cases h1 : q + 2 * s.size ≤ t.size
    · exact twice_yes t s q w h hs h1
    · exact twice_no t s q w h hs (by omega) (by omega)
end Go.Proofs.Ytlgmpnaalifegab
