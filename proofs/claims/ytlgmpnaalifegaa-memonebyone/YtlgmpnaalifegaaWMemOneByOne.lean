import Derived.Test.YtlgmpnaalifegaaWalks10
namespace Go.Proofs.Ytlgmpnaalifegaa
namespace memOneByOne
open Go.RowKit

def Post (w : World) (e : Ending) (w' : World) : Prop := e = .returned (.bool true) ∧ Below w.heap.size w w'

set_option maxHeartbeats 400000 in
theorem walk_big (s : ByteArray) (o : Int) (p : Int) (w : World) (hs : s.size ≤ maxLen) (h : 134217728 < s.size) :
    Calls Try.prog 6 #[.string s, .int .i64 o, .int .i64 p] w fun e w' => Post w e w' := by
  have hm := made_no s w hs h
  have hd : (134217728 : Int) < (s.size : Int) := by omega
  unfold maxLen at hs
  go_enter Try.func6, Try.ntmps6
  go_wp2_with fail
  refine hm.mono ?_
  rintro e w' ⟨rfl, rfl⟩
  clear hm
  go_wp2_with fail
  go_ret
  exact ⟨rfl, Below.refl _ _⟩

set_option maxHeartbeats 1000000 in
theorem one_neg (s : ByteArray) (o : Int) (w : World) (h : s.size ≤ 134217728) (hp : o < 0) :
    Calls Try.prog 6 #[.string s, .int .i64 o, .int .i64 1] w fun e w' => Post w e w' := by
  have hm := made_yes s w h
  have hl : s.data.toList.length = s.size := by simp
  have hin : insideB s.size o 1 = false := by unfold insideB; exact decide_eq_false (by omega)
  go_enter Try.func6, Try.ntmps6
  go_wp2_with fail
  refine hm.mono ?_
  rintro e w1 ⟨b, g, hb, hg, rfl, m, k⟩
  clear hm
  go_wp2_with fail
  refine (load_out _ b g _ _ m o 1 rfl (by rw [hl]; exact hin)).mono ?_
  rintro e w2 ⟨rfl, rfl⟩
  clear m
  go_wp2_with fail
  go_ret
  exact ⟨rfl, k.below (Nat.le_refl _) (fun _ _ => id)⟩

set_option maxHeartbeats 1000000 in
theorem one_big (s : ByteArray) (o : Int) (w : World) (h : s.size ≤ 134217728) (hp : (s.size : Int) ≤ o) :
    Calls Try.prog 6 #[.string s, .int .i64 o, .int .i64 1] w fun e w' => Post w e w' := by
  have hm := made_yes s w h
  have hl : s.data.toList.length = s.size := by simp
  have hp0 : ¬ o < 0 := by omega
  have hin : insideB s.size o 1 = false := by unfold insideB; exact decide_eq_false (by omega)
  go_enter Try.func6, Try.ntmps6
  go_wp2_with fail
  refine hm.mono ?_
  rintro e w1 ⟨b, g, hb, hg, rfl, m, k⟩
  clear hm
  go_wp2_with fail
  refine (load_out _ b g _ _ m o 1 rfl (by rw [hl]; exact hin)).mono ?_
  rintro e w2 ⟨rfl, rfl⟩
  clear m
  go_wp2_with fail
  go_ret
  exact ⟨rfl, k.below (Nat.le_refl _) (fun _ _ => id)⟩

set_option maxHeartbeats 1000000 in
theorem one_in (s : ByteArray) (q : Nat) (w : World) (h : s.size ≤ 134217728) (hq : q < s.size) :
    Calls Try.prog 6 #[.string s, .int .i64 (q : Int), .int .i64 1] w fun e w' => Post w e w' := by
  have hm := made_yes s w h
  have hl : s.data.toList.length = s.size := by simp
  have hp0 : ¬ (q : Int) < 0 := by omega
  have hp1 : ¬ (s.size : Int) ≤ (q : Int) := by omega
  have hnum : numOf ((s.data.toList.drop q).take 1) = (s[q]'hq).toNat := by
    have : (s.data.toList.drop q).take 1 = [s[q]'hq] := by
      rw [List.take_succ_eq_append_getElem (by simp; omega)]
      simp
      rfl
    rw [this]
    simp [numOf]
  have hwu : IntKind.u64.wrap ((s[q]'hq).toNat : Int) = ((s[q]'hq).toNat : Int) := by
    have := (s[q]'hq).toNat_lt
    rw [IntKind.wrap_u64]
    omega
  have hx256 := (s[q]'hq).toNat_lt
  go_enter Try.func6, Try.ntmps6
  go_wp2_with fail
  refine hm.mono ?_
  rintro e w1 ⟨b, g, hb, hg, rfl, m, k⟩
  clear hm
  go_wp2_with fail
  have hld := load_yes _ b g _ _ m q 1 rfl (by rw [hl]; exact hq)
  rw [hnum, show ((1 : Nat) : Int) = 1 from rfl] at hld
  refine hld.mono ?_
  rintro e w2 ⟨rfl, rfl⟩
  clear m hld hnum
  go_wp2_with fail
  go_ret
  exact ⟨rfl, k.below (Nat.le_refl _) (fun _ _ => id)⟩

set_option maxHeartbeats 1000000 in
theorem bad (s : ByteArray) (o n : Int) (w : World) (h : s.size ≤ 134217728) (hn : widthB n = false) :
    Calls Try.prog 6 #[.string s, .int .i64 o, .int .i64 n] w fun e w' => Post w e w' := by
  have hm := made_yes s w h
  have hl : s.data.toList.length = s.size := by simp
  obtain ⟨h1, h2, h3, h4⟩ := widthB_false hn
  have b1 : (n == 1) = false := beq_eq_false_iff_ne.2 h1
  have b2 : (n != 2) = true := bne_iff_ne.2 h2
  have b3 : (n != 4) = true := bne_iff_ne.2 h3
  have b4 : (n != 8) = true := bne_iff_ne.2 h4
  clear h1 h2 h3 h4
  go_enter Try.func6, Try.ntmps6
  go_wp2_with fail
  refine hm.mono ?_
  rintro e w1 ⟨b, g, hb, hg, rfl, m, k⟩
  clear hm
  go_wp2_with fail
  refine (load_width _ _ o n hn).mono ?_
  rintro e w2 ⟨rfl, rfl⟩
  clear m
  go_wp2_with fail
  go_ret
  exact ⟨rfl, k.below (Nat.le_refl _) (fun _ _ => id)⟩

set_option maxHeartbeats 1000000 in
theorem out2 (s : ByteArray) (o : Int) (w : World) (h : s.size ≤ 134217728) (hin : insideB s.size o 2 = false) :
    Calls Try.prog 6 #[.string s, .int .i64 o, .int .i64 2] w fun e w' => Post w e w' := by
  have hm := made_yes s w h
  have hl : s.data.toList.length = s.size := by simp
  have hli := fun W => lawin_no W s.size (by omega) o 2 hin
  have HI : Hid (insideB s.size o 2 = false) := hin
  clear hin
  go_enter Try.func6, Try.ntmps6
  go_wp2_with fail
  refine hm.mono ?_
  rintro e w1 ⟨b, g, hb, hg, rfl, m, k⟩
  clear hm
  go_wp2_with fail
  refine (load_out _ b g _ _ m o 2 rfl (by rw [hl]; exact HI.out)).mono ?_
  rintro e w2 ⟨rfl, rfl⟩
  clear m
  go_wp2_with fail
  refine (hli _).mono ?_
  rintro e w2 ⟨rfl, rfl⟩
  clear hli
  go_wp2_with fail
  go_ret
  exact ⟨rfl, k.below (Nat.le_refl _) (fun _ _ => id)⟩

set_option maxHeartbeats 1000000 in
theorem in2 (s : ByteArray) (q : Nat) (w : World) (h : s.size ≤ 134217728) (hq : q + 2 ≤ s.size) :
    Calls Try.prog 6 #[.string s, .int .i64 (q : Int), .int .i64 2] w fun e w' => Post w e w' := by
  have hm := made_yes s w h
  have hl : s.data.toList.length = s.size := by simp
  have hli := fun W => lawin_yes W s.size (by omega) q 2 (insideB_mk (k := 2) hq)
  have hV : numOf ((s.data.toList.drop q).take 2) = numOf ((s.data.toList.drop q).take 1) + 256 * numOf ((s.data.toList.drop (q + 1)).take 1) := by
    have e : (s.data.toList.drop q).take 2 = (s.data.toList.drop q).take 1 ++ (s.data.toList.drop (q + 1)).take 1 := by
      rw [← List.drop_drop, show 2 = 1 + 1 from rfl, List.take_add]
    have el : ((s.data.toList.drop q).take 1).length = 1 := by simp; omega
    rw [e, numOf_append, el]
  have hB := numOf_lt ((s.data.toList.drop q).take 2)
  rw [show ((s.data.toList.drop q).take 2).length = 2 from by simp; omega] at hB
  go_enter Try.func6, Try.ntmps6
  go_wp2_with fail
  refine hm.mono ?_
  rintro e w1 ⟨b, g, hb, hg, rfl, m, k⟩
  clear hm
  go_wp2_with fail
  have l1 := load_yes _ b g _ _ m q 2 rfl (by rw [hl]; exact hq)
  have l2 := load_yes _ b g _ _ m q 1 rfl (by rw [hl]; omega)
  have l3 := load_yes _ b g _ _ m (q + 1) 1 rfl (by rw [hl]; omega)
  rw [show ((2 : Nat) : Int) = 2 from rfl] at l1
  rw [show ((1 : Nat) : Int) = 1 from rfl] at l2
  rw [Int.natCast_add, show ((1 : Nat) : Int) = 1 from rfl] at l3
  generalize numOf ((s.data.toList.drop q).take 2) = V at *
  generalize numOf ((s.data.toList.drop q).take 1) = A at *
  generalize numOf ((s.data.toList.drop (q + 1)).take 1) = C at *
  have HV : Hid (V = A + 256 * C) := hV
  have HB : Hid (V < 256 ^ 2) := hB
  clear hV hB m
  refine l1.mono ?_
  rintro e w2 ⟨rfl, rfl⟩
  clear l1
  go_wp2_with fail
  refine (hli _).mono ?_
  rintro e w2 ⟨rfl, rfl⟩
  clear hli
  go_wp2_with fail
  refine l2.mono ?_
  rintro e w2 ⟨rfl, rfl⟩
  clear l2
  go_wp2_with fail
  refine l3.mono ?_
  rintro e w2 ⟨rfl, rfl⟩
  clear l3
  go_wp2_with fail
  go_ret
  refine ⟨?_, k.below (Nat.le_refl _) (fun _ _ => id)⟩
  have hv := HV.out
  have hb : V < 18446744073709551616 := Nat.lt_of_lt_of_le HB.out (by decide)
  have e : ((V : Int) == IntKind.u64.wrap ((A : Int) + IntKind.u64.wrap ((C : Int) * 256))) = true := by
    rw [beq_iff_eq, IntKind.wrap_u64, IntKind.wrap_u64]
    omega
  exact congrArg (fun z => Ending.returned (Value.bool z)) e

set_option maxHeartbeats 1000000 in
theorem out4 (s : ByteArray) (o : Int) (w : World) (h : s.size ≤ 134217728) (hin : insideB s.size o 4 = false) :
    Calls Try.prog 6 #[.string s, .int .i64 o, .int .i64 4] w fun e w' => Post w e w' := by
  have hm := made_yes s w h
  have hl : s.data.toList.length = s.size := by simp
  have hli := fun W => lawin_no W s.size (by omega) o 4 hin
  have HI : Hid (insideB s.size o 4 = false) := hin
  clear hin
  go_enter Try.func6, Try.ntmps6
  go_wp2_with fail
  refine hm.mono ?_
  rintro e w1 ⟨b, g, hb, hg, rfl, m, k⟩
  clear hm
  go_wp2_with fail
  refine (load_out _ b g _ _ m o 4 rfl (by rw [hl]; exact HI.out)).mono ?_
  rintro e w2 ⟨rfl, rfl⟩
  clear m
  go_wp2_with fail
  refine (hli _).mono ?_
  rintro e w2 ⟨rfl, rfl⟩
  clear hli
  go_wp2_with fail
  go_ret
  exact ⟨rfl, k.below (Nat.le_refl _) (fun _ _ => id)⟩

set_option maxHeartbeats 1000000 in
theorem in4 (s : ByteArray) (q : Nat) (w : World) (h : s.size ≤ 134217728) (hq : q + 4 ≤ s.size) :
    Calls Try.prog 6 #[.string s, .int .i64 (q : Int), .int .i64 4] w fun e w' => Post w e w' := by
  have hm := made_yes s w h
  have hl : s.data.toList.length = s.size := by simp
  have hli := fun W => lawin_yes W s.size (by omega) q 4 (insideB_mk (k := 4) hq)
  have hV : numOf ((s.data.toList.drop q).take 4) = numOf ((s.data.toList.drop q).take 2) + 65536 * numOf ((s.data.toList.drop (q + 2)).take 2) := by
    have e : (s.data.toList.drop q).take 4 = (s.data.toList.drop q).take 2 ++ (s.data.toList.drop (q + 2)).take 2 := by
      rw [← List.drop_drop, show 4 = 2 + 2 from rfl, List.take_add]
    have el : ((s.data.toList.drop q).take 2).length = 2 := by simp; omega
    rw [e, numOf_append, el]
  have hB := numOf_lt ((s.data.toList.drop q).take 4)
  rw [show ((s.data.toList.drop q).take 4).length = 4 from by simp; omega] at hB
  go_enter Try.func6, Try.ntmps6
  go_wp2_with fail
  refine hm.mono ?_
  rintro e w1 ⟨b, g, hb, hg, rfl, m, k⟩
  clear hm
  go_wp2_with fail
  have l1 := load_yes _ b g _ _ m q 4 rfl (by rw [hl]; exact hq)
  have l2 := load_yes _ b g _ _ m q 2 rfl (by rw [hl]; omega)
  have l3 := load_yes _ b g _ _ m (q + 2) 2 rfl (by rw [hl]; omega)
  rw [show ((4 : Nat) : Int) = 4 from rfl] at l1
  rw [show ((2 : Nat) : Int) = 2 from rfl] at l2
  rw [Int.natCast_add, show ((2 : Nat) : Int) = 2 from rfl] at l3
  generalize numOf ((s.data.toList.drop q).take 4) = V at *
  generalize numOf ((s.data.toList.drop q).take 2) = A at *
  generalize numOf ((s.data.toList.drop (q + 2)).take 2) = C at *
  have HV : Hid (V = A + 65536 * C) := hV
  have HB : Hid (V < 256 ^ 4) := hB
  clear hV hB m
  refine l1.mono ?_
  rintro e w2 ⟨rfl, rfl⟩
  clear l1
  go_wp2_with fail
  refine (hli _).mono ?_
  rintro e w2 ⟨rfl, rfl⟩
  clear hli
  go_wp2_with fail
  refine l2.mono ?_
  rintro e w2 ⟨rfl, rfl⟩
  clear l2
  go_wp2_with fail
  refine l3.mono ?_
  rintro e w2 ⟨rfl, rfl⟩
  clear l3
  go_wp2_with fail
  go_ret
  refine ⟨?_, k.below (Nat.le_refl _) (fun _ _ => id)⟩
  have hv := HV.out
  have hb : V < 18446744073709551616 := Nat.lt_of_lt_of_le HB.out (by decide)
  have e : ((V : Int) == IntKind.u64.wrap ((A : Int) + IntKind.u64.wrap ((C : Int) * 65536))) = true := by
    rw [beq_iff_eq, IntKind.wrap_u64, IntKind.wrap_u64]
    omega
  exact congrArg (fun z => Ending.returned (Value.bool z)) e

set_option maxHeartbeats 1000000 in
theorem out8 (s : ByteArray) (o : Int) (w : World) (h : s.size ≤ 134217728) (hin : insideB s.size o 8 = false) :
    Calls Try.prog 6 #[.string s, .int .i64 o, .int .i64 8] w fun e w' => Post w e w' := by
  have hm := made_yes s w h
  have hl : s.data.toList.length = s.size := by simp
  have hli := fun W => lawin_no W s.size (by omega) o 8 hin
  have HI : Hid (insideB s.size o 8 = false) := hin
  clear hin
  go_enter Try.func6, Try.ntmps6
  go_wp2_with fail
  refine hm.mono ?_
  rintro e w1 ⟨b, g, hb, hg, rfl, m, k⟩
  clear hm
  go_wp2_with fail
  refine (load_out _ b g _ _ m o 8 rfl (by rw [hl]; exact HI.out)).mono ?_
  rintro e w2 ⟨rfl, rfl⟩
  clear m
  go_wp2_with fail
  refine (hli _).mono ?_
  rintro e w2 ⟨rfl, rfl⟩
  clear hli
  go_wp2_with fail
  go_ret
  exact ⟨rfl, k.below (Nat.le_refl _) (fun _ _ => id)⟩

set_option maxHeartbeats 1000000 in
theorem in8 (s : ByteArray) (q : Nat) (w : World) (h : s.size ≤ 134217728) (hq : q + 8 ≤ s.size) :
    Calls Try.prog 6 #[.string s, .int .i64 (q : Int), .int .i64 8] w fun e w' => Post w e w' := by
  have hm := made_yes s w h
  have hl : s.data.toList.length = s.size := by simp
  have hli := fun W => lawin_yes W s.size (by omega) q 8 (insideB_mk (k := 8) hq)
  have hV : numOf ((s.data.toList.drop q).take 8) = numOf ((s.data.toList.drop q).take 4) + 4294967296 * numOf ((s.data.toList.drop (q + 4)).take 4) := by
    have e : (s.data.toList.drop q).take 8 = (s.data.toList.drop q).take 4 ++ (s.data.toList.drop (q + 4)).take 4 := by
      rw [← List.drop_drop, show 8 = 4 + 4 from rfl, List.take_add]
    have el : ((s.data.toList.drop q).take 4).length = 4 := by simp; omega
    rw [e, numOf_append, el]
  have hB := numOf_lt ((s.data.toList.drop q).take 8)
  rw [show ((s.data.toList.drop q).take 8).length = 8 from by simp; omega] at hB
  go_enter Try.func6, Try.ntmps6
  go_wp2_with fail
  refine hm.mono ?_
  rintro e w1 ⟨b, g, hb, hg, rfl, m, k⟩
  clear hm
  go_wp2_with fail
  have l1 := load_yes _ b g _ _ m q 8 rfl (by rw [hl]; exact hq)
  have l2 := load_yes _ b g _ _ m q 4 rfl (by rw [hl]; omega)
  have l3 := load_yes _ b g _ _ m (q + 4) 4 rfl (by rw [hl]; omega)
  rw [show ((8 : Nat) : Int) = 8 from rfl] at l1
  rw [show ((4 : Nat) : Int) = 4 from rfl] at l2
  rw [Int.natCast_add, show ((4 : Nat) : Int) = 4 from rfl] at l3
  generalize numOf ((s.data.toList.drop q).take 8) = V at *
  generalize numOf ((s.data.toList.drop q).take 4) = A at *
  generalize numOf ((s.data.toList.drop (q + 4)).take 4) = C at *
  have HV : Hid (V = A + 4294967296 * C) := hV
  have HB : Hid (V < 256 ^ 8) := hB
  clear hV hB m
  refine l1.mono ?_
  rintro e w2 ⟨rfl, rfl⟩
  clear l1
  go_wp2_with fail
  refine (hli _).mono ?_
  rintro e w2 ⟨rfl, rfl⟩
  clear hli
  go_wp2_with fail
  refine l2.mono ?_
  rintro e w2 ⟨rfl, rfl⟩
  clear l2
  go_wp2_with fail
  refine l3.mono ?_
  rintro e w2 ⟨rfl, rfl⟩
  clear l3
  go_wp2_with fail
  go_ret
  refine ⟨?_, k.below (Nat.le_refl _) (fun _ _ => id)⟩
  have hv := HV.out
  have hb : V < 18446744073709551616 := Nat.lt_of_lt_of_le HB.out (by decide)
  have e : ((V : Int) == IntKind.u64.wrap ((A : Int) + IntKind.u64.wrap ((C : Int) * 4294967296))) = true := by
    rw [beq_iff_eq, IntKind.wrap_u64, IntKind.wrap_u64]
    omega
  exact congrArg (fun z => Ending.returned (Value.bool z)) e

theorem walk (a0 : ByteArray) (a1 : Int) (a2 : Int) (w0 : a0.size ≤ maxLen) (_ : (Lit.int .i64 a1).wf = true) (_ : (Lit.int .i64 a2).wf = true) (w : World) :
    Calls Try.prog 6 #[.string a0, .int .i64 a1, .int .i64 a2] w fun e w' => e = .returned (.bool true) ∧ Below w.heap.size w w' := by
  by_cases h : 134217728 < a0.size
  · exact walk_big a0 a1 a2 w w0 h
  replace h : a0.size ≤ 134217728 := by omega
  cases hn : widthB a2
  · exact bad a0 a1 a2 w h hn
  rcases widthB_true hn with rfl | rfl | rfl | rfl
  · by_cases h1 : a1 < 0
    · exact one_neg a0 a1 w h h1
    · by_cases h2 : (a0.size : Int) ≤ a1
      · exact one_big a0 a1 w h h2
      · obtain ⟨q, rfl⟩ := Int.eq_ofNat_of_zero_le (show 0 ≤ a1 by omega)
        exact one_in a0 q w h (by omega)
  · cases hi : insideB a0.size a1 2
    · exact out2 a0 a1 w h hi
    · obtain ⟨q, n, rfl, hn, hq⟩ := insideB_nat hi
      exact in2 a0 q w h (by omega)
  · cases hi : insideB a0.size a1 4
    · exact out4 a0 a1 w h hi
    · obtain ⟨q, n, rfl, hn, hq⟩ := insideB_nat hi
      exact in4 a0 q w h (by omega)
  · cases hi : insideB a0.size a1 8
    · exact out8 a0 a1 w h hi
    · obtain ⟨q, n, rfl, hn, hq⟩ := insideB_nat hi
      exact in8 a0 q w h (by omega)
end memOneByOne
end Go.Proofs.Ytlgmpnaalifegaa
