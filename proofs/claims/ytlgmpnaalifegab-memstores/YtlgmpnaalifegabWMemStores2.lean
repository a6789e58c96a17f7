import Derived.Test.YtlgmpnaalifegabWMemStoresA
import Derived.Deep.RegionHeld3
import Derived.Deep.QuietTactic
import Derived.BigQuiet
import Derived.Test.YtlgmpnaalifegabWalks9
namespace Go.Proofs.Ytlgmpnaalifegab
namespace memStores
open Go.RowKit

namespace y2
set_option maxRecDepth 100000 in
set_option maxHeartbeats 1000000 in
theorem neg (s : ByteArray) (o v : Nat) (p : Int) (w : World) (h : s.size ≤ 134217728) (hv : v < 18446744073709551616) (ho : o + 2 ≤ s.size) (hp : p < 0) :
    Calls Try.prog 4 #[.string s, .int .i64 (o : Int), .int .i64 2, .int .u64 (v : Int), .int .i64 p] w fun e w' => Post w e w' := by
  have hm := made_yes s w h
  have hl : s.data.toList.length = s.size := by simp
  have hli := fun W => lawin_yes W s.size (by omega) o 2 (insideB_mk (k := 2) ho)
  have hbl : (leBytes v 2).length = 2 := leBytes_length v 2
  have hsl : (splice s.data.toList o (leBytes v 2)).length = s.size := by rw [splice_length (by rw [hbl, hl]; exact ho), hl]
  have hnum : (numOf (((splice s.data.toList o (leBytes v 2)).drop o).take 2) : Int) = (v : Int) % 65536 := by
    rw [splice_take hbl (by rw [hl]; exact ho), numOf_le]
    rw [show 256 ^ 2 = 65536 from rfl]
    omega
  generalize hbs : splice s.data.toList o (leBytes v 2) = bs at *
  have HB : Hid (splice s.data.toList o (leBytes v 2) = bs) := hbs
  have HN : Hid ((numOf ((bs.drop o).take 2) : Int) = (v : Int) % 65536) := hnum
  clear hbs hbl hnum
  go_enter Try.func4, Try.ntmps4
  go_wp2_with fail
  refine hm.mono ?_
  rintro e w1 ⟨b, g, hb, hg, rfl, m, k⟩
  clear hm
  go_wp2_with fail
  have hst := store_yes _ b g _ _ m o 2 v rfl (by rw [hl]; exact ho)
  rw [HB.out, show ((2 : Nat) : Int) = 2 from rfl] at hst
  refine hst.mono ?_
  rintro e w2 ⟨rfl, m2, k2⟩
  clear hst
  replace k := k.trans k2 (fun i hi e => by omega)
  clear m k2
  have m := m2
  clear m2
  have hld := load_yes _ b g _ _ m o 2 rfl (by rw [hsl]; exact ho)
  rw [HN.out, show ((2 : Nat) : Int) = 2 from rfl] at hld
  go_wp2_with fail
  refine hld.mono ?_
  rintro e w2 ⟨rfl, rfl⟩
  clear hld
  go_wp2_with fail
  refine (hli _).mono ?_
  rintro e w2 ⟨rfl, rfl⟩
  clear hli
  clear m
  go_wp2_with fail
  go_quiet (fail)
  go_wp2_with fail
  go_ret
  exact ⟨rfl, (k.drewN _).below (Nat.le_refl _) (fun _ _ => id)⟩

set_option maxRecDepth 100000 in
set_option maxHeartbeats 1000000 in
theorem big (s : ByteArray) (o v : Nat) (p : Int) (w : World) (h : s.size ≤ 134217728) (hv : v < 18446744073709551616) (ho : o + 2 ≤ s.size) (hp : (s.size : Int) ≤ p) :
    Calls Try.prog 4 #[.string s, .int .i64 (o : Int), .int .i64 2, .int .u64 (v : Int), .int .i64 p] w fun e w' => Post w e w' := by
  have hm := made_yes s w h
  have hl : s.data.toList.length = s.size := by simp
  have hp0 : ¬ p < 0 := by omega
  have hd0 : decide (p < 0) = false := decide_eq_false hp0
  have hd1 : decide ((s.size : Int) ≤ p) = true := decide_eq_true hp
  have hli := fun W => lawin_yes W s.size (by omega) o 2 (insideB_mk (k := 2) ho)
  have hbl : (leBytes v 2).length = 2 := leBytes_length v 2
  have hsl : (splice s.data.toList o (leBytes v 2)).length = s.size := by rw [splice_length (by rw [hbl, hl]; exact ho), hl]
  have hnum : (numOf (((splice s.data.toList o (leBytes v 2)).drop o).take 2) : Int) = (v : Int) % 65536 := by
    rw [splice_take hbl (by rw [hl]; exact ho), numOf_le]
    rw [show 256 ^ 2 = 65536 from rfl]
    omega
  generalize hbs : splice s.data.toList o (leBytes v 2) = bs at *
  have HB : Hid (splice s.data.toList o (leBytes v 2) = bs) := hbs
  have HN : Hid ((numOf ((bs.drop o).take 2) : Int) = (v : Int) % 65536) := hnum
  clear hbs hbl hnum
  go_enter Try.func4, Try.ntmps4
  go_wp2_with fail
  refine hm.mono ?_
  rintro e w1 ⟨b, g, hb, hg, rfl, m, k⟩
  clear hm
  go_wp2_with fail
  have hst := store_yes _ b g _ _ m o 2 v rfl (by rw [hl]; exact ho)
  rw [HB.out, show ((2 : Nat) : Int) = 2 from rfl] at hst
  refine hst.mono ?_
  rintro e w2 ⟨rfl, m2, k2⟩
  clear hst
  replace k := k.trans k2 (fun i hi e => by omega)
  clear m k2
  have m := m2
  clear m2
  have hld := load_yes _ b g _ _ m o 2 rfl (by rw [hsl]; exact ho)
  rw [HN.out, show ((2 : Nat) : Int) = 2 from rfl] at hld
  go_wp2_with fail
  refine hld.mono ?_
  rintro e w2 ⟨rfl, rfl⟩
  clear hld
  go_wp2_with fail
  refine (hli _).mono ?_
  rintro e w2 ⟨rfl, rfl⟩
  clear hli
  clear m
  go_wp2_with fail
  go_quiet (fail)
  go_wp2_with fail
  go_ret
  exact ⟨rfl, (k.drewN _).below (Nat.le_refl _) (fun _ _ => id)⟩

set_option maxRecDepth 100000 in
set_option maxHeartbeats 1000000 in
theorem lo (s : ByteArray) (o v : Nat) (q : Nat) (w : World) (h : s.size ≤ 134217728) (hv : v < 18446744073709551616) (ho : o + 2 ≤ s.size) (hq : q < s.size) (hqo : q < o) :
    Calls Try.prog 4 #[.string s, .int .i64 (o : Int), .int .i64 2, .int .u64 (v : Int), .int .i64 (q : Int)] w fun e w' => Post w e w' := by
  have hm := made_yes s w h
  have hl : s.data.toList.length = s.size := by simp
  have hp0 : ¬ (q : Int) < 0 := by omega
  have hp1 : ¬ (s.size : Int) ≤ (q : Int) := by omega
  have hd0 : decide ((q : Int) < 0) = false := decide_eq_false hp0
  have hd1 : decide ((s.size : Int) ≤ (q : Int)) = false := decide_eq_false hp1
  have hp4 : ¬ s.size ≤ q := by omega
  have hd2 : decide (s.size ≤ q) = false := decide_eq_false hp4
  have hw8 := wrap_byte (s[q]'hq)
  have hp2 : ¬ (o : Int) ≤ (q : Int) := by omega
  have hli := fun W => lawin_yes W s.size (by omega) o 2 (insideB_mk (k := 2) ho)
  have hbl : (leBytes v 2).length = 2 := leBytes_length v 2
  have hsl : (splice s.data.toList o (leBytes v 2)).length = s.size := by rw [splice_length (by rw [hbl, hl]; exact ho), hl]
  have hnum : (numOf (((splice s.data.toList o (leBytes v 2)).drop o).take 2) : Int) = (v : Int) % 65536 := by
    rw [splice_take hbl (by rw [hl]; exact ho), numOf_le]
    rw [show 256 ^ 2 = 65536 from rfl]
    omega
  have HX : Hid ((splice s.data.toList o (leBytes v 2))[q]'(by rw [hsl]; exact hq) = s[q]'hq) := by
    apply Option.some.inj
    rw [← List.getElem?_eq_getElem, splice_get (by rw [hbl, hl]; exact ho), if_neg (by rw [hbl]; omega), List.getElem?_eq_getElem (by rw [hl]; exact hq), byte_get s q hq]
  generalize hbs : splice s.data.toList o (leBytes v 2) = bs at *
  have HB : Hid (splice s.data.toList o (leBytes v 2) = bs) := hbs
  have HN : Hid ((numOf ((bs.drop o).take 2) : Int) = (v : Int) % 65536) := hnum
  clear hbs hbl hnum
  go_enter Try.func4, Try.ntmps4
  go_wp2_with fail
  refine hm.mono ?_
  rintro e w1 ⟨b, g, hb, hg, rfl, m, k⟩
  clear hm
  go_wp2_with fail
  have hst := store_yes _ b g _ _ m o 2 v rfl (by rw [hl]; exact ho)
  rw [HB.out, show ((2 : Nat) : Int) = 2 from rfl] at hst
  refine hst.mono ?_
  rintro e w2 ⟨rfl, m2, k2⟩
  clear hst
  replace k := k.trans k2 (fun i hi e => by omega)
  clear m k2
  have m := m2
  clear m2
  have hld := load_yes _ b g _ _ m o 2 rfl (by rw [hsl]; exact ho)
  rw [HN.out, show ((2 : Nat) : Int) = 2 from rfl] at hld
  go_wp2_with fail
  refine hld.mono ?_
  rintro e w2 ⟨rfl, rfl⟩
  clear hld
  go_wp2_with fail
  refine (hli _).mono ?_
  rintro e w2 ⟨rfl, rfl⟩
  clear hli
  have hat := fun W (mW : MemAt 60 5 W b g bs []) => at_yes W b g bs [] mW q (by rw [hsl]; exact hq) (s[q]'hq) (HX)
  go_wp2_with fail
  go_region_held3 (fun w' => MemAt 60 5 w' b g bs [] ∧ Keeps w w' (fun _ => False)) (first | exact ⟨m.drew, k.drew⟩ | exact ⟨m.drew.keeps k3 id id, (k.drew).trans k3 (fun _ _ x => x)⟩) (first | (go_at_call 15; refine (hat _ ?_).mono ?_; exact m.drew; rintro e w3 ⟨rfl, k3⟩))
  all_goals clear hat
  all_goals go_wp2
  all_goals go_ret
  all_goals refine ⟨?_, ((k.drew).trans k3 (fun _ _ x => x)).below (Nat.le_refl _) (fun _ _ => id)⟩
  all_goals first | rfl | (simp [Act.put, hw8]; done)

set_option maxRecDepth 100000 in
set_option maxHeartbeats 1000000 in
theorem hi (s : ByteArray) (o v : Nat) (q : Nat) (w : World) (h : s.size ≤ 134217728) (hv : v < 18446744073709551616) (ho : o + 2 ≤ s.size) (hq : q < s.size) (hqo : o + 2 ≤ q) :
    Calls Try.prog 4 #[.string s, .int .i64 (o : Int), .int .i64 2, .int .u64 (v : Int), .int .i64 (q : Int)] w fun e w' => Post w e w' := by
  have hm := made_yes s w h
  have hl : s.data.toList.length = s.size := by simp
  have hp0 : ¬ (q : Int) < 0 := by omega
  have hp1 : ¬ (s.size : Int) ≤ (q : Int) := by omega
  have hd0 : decide ((q : Int) < 0) = false := decide_eq_false hp0
  have hd1 : decide ((s.size : Int) ≤ (q : Int)) = false := decide_eq_false hp1
  have hp4 : ¬ s.size ≤ q := by omega
  have hd2 : decide (s.size ≤ q) = false := decide_eq_false hp4
  have hw8 := wrap_byte (s[q]'hq)
  have hp2 : (o : Int) ≤ (q : Int) := by omega
  have hp3 : ¬ (q : Int) < (o : Int) + 2 := by omega
  have hli := fun W => lawin_yes W s.size (by omega) o 2 (insideB_mk (k := 2) ho)
  have hbl : (leBytes v 2).length = 2 := leBytes_length v 2
  have hsl : (splice s.data.toList o (leBytes v 2)).length = s.size := by rw [splice_length (by rw [hbl, hl]; exact ho), hl]
  have hnum : (numOf (((splice s.data.toList o (leBytes v 2)).drop o).take 2) : Int) = (v : Int) % 65536 := by
    rw [splice_take hbl (by rw [hl]; exact ho), numOf_le]
    rw [show 256 ^ 2 = 65536 from rfl]
    omega
  have HX : Hid ((splice s.data.toList o (leBytes v 2))[q]'(by rw [hsl]; exact hq) = s[q]'hq) := by
    apply Option.some.inj
    rw [← List.getElem?_eq_getElem, splice_get (by rw [hbl, hl]; exact ho), if_neg (by rw [hbl]; omega), List.getElem?_eq_getElem (by rw [hl]; exact hq), byte_get s q hq]
  generalize hbs : splice s.data.toList o (leBytes v 2) = bs at *
  have HB : Hid (splice s.data.toList o (leBytes v 2) = bs) := hbs
  have HN : Hid ((numOf ((bs.drop o).take 2) : Int) = (v : Int) % 65536) := hnum
  clear hbs hbl hnum
  go_enter Try.func4, Try.ntmps4
  go_wp2_with fail
  refine hm.mono ?_
  rintro e w1 ⟨b, g, hb, hg, rfl, m, k⟩
  clear hm
  go_wp2_with fail
  have hst := store_yes _ b g _ _ m o 2 v rfl (by rw [hl]; exact ho)
  rw [HB.out, show ((2 : Nat) : Int) = 2 from rfl] at hst
  refine hst.mono ?_
  rintro e w2 ⟨rfl, m2, k2⟩
  clear hst
  replace k := k.trans k2 (fun i hi e => by omega)
  clear m k2
  have m := m2
  clear m2
  have hld := load_yes _ b g _ _ m o 2 rfl (by rw [hsl]; exact ho)
  rw [HN.out, show ((2 : Nat) : Int) = 2 from rfl] at hld
  go_wp2_with fail
  refine hld.mono ?_
  rintro e w2 ⟨rfl, rfl⟩
  clear hld
  go_wp2_with fail
  refine (hli _).mono ?_
  rintro e w2 ⟨rfl, rfl⟩
  clear hli
  have hat := fun W (mW : MemAt 60 5 W b g bs []) => at_yes W b g bs [] mW q (by rw [hsl]; exact hq) (s[q]'hq) (HX)
  go_wp2_with fail
  go_region_held3 (fun w' => MemAt 60 5 w' b g bs [] ∧ Keeps w w' (fun _ => False)) (first | exact ⟨m.drew, k.drew⟩ | exact ⟨m.drew.keeps k3 id id, (k.drew).trans k3 (fun _ _ x => x)⟩) (first | (go_at_call 15; refine (hat _ ?_).mono ?_; exact m.drew; rintro e w3 ⟨rfl, k3⟩))
  all_goals clear hat
  all_goals go_wp2
  all_goals go_ret
  all_goals refine ⟨?_, ((k.drew).trans k3 (fun _ _ x => x)).below (Nat.le_refl _) (fun _ _ => id)⟩
  all_goals first | rfl | (simp [Act.put, hw8]; done)

set_option maxRecDepth 100000 in
set_option maxHeartbeats 1000000 in
theorem span (s : ByteArray) (o v : Nat) (i : Nat) (w : World) (h : s.size ≤ 134217728) (hv : v < 18446744073709551616) (ho : o + 2 ≤ s.size) (hi : i < 2) :
    Calls Try.prog 4 #[.string s, .int .i64 (o : Int), .int .i64 2, .int .u64 (v : Int), .int .i64 ((o : Int) + (i : Int))] w fun e w' => Post w e w' := by
  have hm := made_yes s w h
  have hl : s.data.toList.length = s.size := by simp
  have hp0 : ¬ (o : Int) + (i : Int) < 0 := by omega
  have hp1 : ¬ (s.size : Int) ≤ (o : Int) + (i : Int) := by omega
  have hp2 : (o : Int) ≤ (o : Int) + (i : Int) := by omega
  have hp3 : (o : Int) + (i : Int) < (o : Int) + 2 := by omega
  have hli := fun W => lawin_yes W s.size (by omega) o 2 (insideB_mk (k := 2) ho)
  have hbl : (leBytes v 2).length = 2 := leBytes_length v 2
  have hsl : (splice s.data.toList o (leBytes v 2)).length = s.size := by rw [splice_length (by rw [hbl, hl]; exact ho), hl]
  have hnum : (numOf (((splice s.data.toList o (leBytes v 2)).drop o).take 2) : Int) = (v : Int) % 65536 := by
    rw [splice_take hbl (by rw [hl]; exact ho), numOf_le]
    rw [show 256 ^ 2 = 65536 from rfl]
    omega
  have hoi : o + i < s.size := by omega
  have HX : Hid ((splice s.data.toList o (leBytes v 2))[o + i]'(by rw [hsl]; exact hoi) = lowB v i) := by
    apply Option.some.inj
    rw [← List.getElem?_eq_getElem, splice_get (by rw [hbl, hl]; exact ho), if_pos (by rw [hbl]; omega), show o + i - o = i from by omega, leBytes, List.getElem?_map, List.getElem?_range (by omega)]
    rfl
  generalize hbs : splice s.data.toList o (leBytes v 2) = bs at *
  have HB : Hid (splice s.data.toList o (leBytes v 2) = bs) := hbs
  have HN : Hid ((numOf ((bs.drop o).take 2) : Int) = (v : Int) % 65536) := hnum
  clear hbs hbl hnum
  go_enter Try.func4, Try.ntmps4
  go_wp2_with fail
  refine hm.mono ?_
  rintro e w1 ⟨b, g, hb, hg, rfl, m, k⟩
  clear hm
  go_wp2_with fail
  have hst := store_yes _ b g _ _ m o 2 v rfl (by rw [hl]; exact ho)
  rw [HB.out, show ((2 : Nat) : Int) = 2 from rfl] at hst
  refine hst.mono ?_
  rintro e w2 ⟨rfl, m2, k2⟩
  clear hst
  replace k := k.trans k2 (fun i hi e => by omega)
  clear m k2
  have m := m2
  clear m2
  have hld := load_yes _ b g _ _ m o 2 rfl (by rw [hsl]; exact ho)
  rw [HN.out, show ((2 : Nat) : Int) = 2 from rfl] at hld
  go_wp2_with fail
  refine hld.mono ?_
  rintro e w2 ⟨rfl, rfl⟩
  clear hld
  go_wp2_with fail
  refine (hli _).mono ?_
  rintro e w2 ⟨rfl, rfl⟩
  clear hli
  have hat := fun W (mW : MemAt 60 5 W b g bs []) => at_yes W b g bs [] mW (o + i) (by rw [hsl]; exact hoi) (lowB v i) HX
  rw [Int.natCast_add] at hat
  have hwi : IntKind.i64.wrap (i : Int) = (i : Int) := by rw [IntKind.wrap_i64]; omega
  have hw8i : IntKind.i64.wrap (8 * (i : Int)) = 8 * (i : Int) := by rw [IntKind.wrap_i64]; omega
  have hwoi : IntKind.i64.wrap ((o : Int) + (i : Int) - (o : Int)) = (i : Int) := by rw [IntKind.wrap_i64]; omega
  go_wp2_with fail
  go_region_held3 (fun w' => MemAt 60 5 w' b g bs [] ∧ Keeps w w' (fun _ => False)) (first | exact ⟨m.drew, k.drew⟩ | exact ⟨m.drew.keeps k3 id id, (k.drew).trans k3 (fun _ _ x => x)⟩) (first | (go_at_call 15; refine (hat _ ?_).mono ?_; exact m.drew; rintro e w3 ⟨rfl, k3⟩))
  all_goals clear hat
  all_goals go_wp2
  all_goals go_ret
  all_goals refine ⟨?_, ((k.drew).trans k3 (fun _ _ x => x)).below (Nat.le_refl _) (fun _ _ => id)⟩
  all_goals exact congrArg (fun z => Ending.returned (Value.bool z)) (span_low v i 2 65536 rfl hi)

end y2
end memStores
end Go.Proofs.Ytlgmpnaalifegab
