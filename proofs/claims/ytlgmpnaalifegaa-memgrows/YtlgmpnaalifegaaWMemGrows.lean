import Derived.Test.YtlgmpnaalifegaaWalks8
import Derived.Deep.RegionWith
namespace Go.Proofs.Ytlgmpnaalifegaa
namespace memGrows
open Go.RowKit

def Post (w : World) (e : Ending) (w' : World) : Prop := e = .returned (.bool true) ∧ Below w.heap.size w w'

set_option maxHeartbeats 400000 in
theorem walk_big (s : ByteArray) (z : Int) (p : Int) (w : World) (hs : s.size ≤ maxLen) (h : 134217728 < s.size) :
    Calls Try.prog 4 #[.string s, .int .i64 z, .int .i64 p] w fun e w' => Post w e w' := by
  have hm := made_no s w hs h
  have hd : (134217728 : Int) < (s.size : Int) := by omega
  unfold maxLen at hs
  go_enter Try.func4, Try.ntmps4
  go_wp2_with fail
  refine hm.mono ?_
  rintro e w' ⟨rfl, rfl⟩
  clear hm
  go_wp2_with fail
  go_ret
  exact ⟨rfl, Below.refl _ _⟩

set_option maxHeartbeats 1000000 in
theorem no_lo (s : ByteArray) (z p : Int) (w : World) (h : s.size ≤ 134217728) (hz : z < (s.size : Int)) :
    Calls Try.prog 4 #[.string s, .int .i64 z, .int .i64 p] w fun e w' => Post w e w' := by
  have hm := made_yes s w h
  have hl : s.data.toList.length = s.size := by simp
  go_enter Try.func4, Try.ntmps4
  go_wp2_with fail
  refine hm.mono ?_
  rintro e w1 ⟨b, g, hb, hg, rfl, m, k⟩
  clear hm
  go_wp2_with fail
  refine (at_any _ b g _ _ m p).mono ?_
  rintro e w2 ⟨rfl, k2⟩
  have K2 := k.trans k2 (fun _ _ x => x)
  replace m := m.keeps k2 id id
  clear k k2
  go_wp2_with fail
  refine (grow_no _ b g _ _ m z (by rw [hl]; omega)).mono ?_
  rintro e w3 ⟨rfl, rfl⟩
  go_wp2_with fail
  refine (len_any _ b g _ _ m).mono ?_
  rintro e w4 ⟨rfl, rfl⟩
  rw [hl]
  go_wp2_with fail
  refine (at_any _ b g _ _ m p).mono ?_
  rintro e w5 ⟨rfl, k5⟩
  have K := K2.trans k5 (fun _ _ x => x)
  clear m K2 k5
  go_wp2_with fail
  go_ret
  exact ⟨rfl, K.below (Nat.le_refl _) (fun _ _ => id)⟩

set_option maxHeartbeats 1000000 in
theorem no_hi (s : ByteArray) (z p : Int) (w : World) (h : s.size ≤ 134217728) (hz : 134217728 < z) :
    Calls Try.prog 4 #[.string s, .int .i64 z, .int .i64 p] w fun e w' => Post w e w' := by
  have hm := made_yes s w h
  have hl : s.data.toList.length = s.size := by simp
  have hz0 : ¬ z < (s.size : Int) := by omega
  go_enter Try.func4, Try.ntmps4
  go_wp2_with fail
  refine hm.mono ?_
  rintro e w1 ⟨b, g, hb, hg, rfl, m, k⟩
  clear hm
  go_wp2_with fail
  refine (at_any _ b g _ _ m p).mono ?_
  rintro e w2 ⟨rfl, k2⟩
  have K2 := k.trans k2 (fun _ _ x => x)
  replace m := m.keeps k2 id id
  clear k k2
  go_wp2_with fail
  refine (grow_no _ b g _ _ m z (by rw [hl]; omega)).mono ?_
  rintro e w3 ⟨rfl, rfl⟩
  go_wp2_with fail
  refine (len_any _ b g _ _ m).mono ?_
  rintro e w4 ⟨rfl, rfl⟩
  rw [hl]
  go_wp2_with fail
  refine (at_any _ b g _ _ m p).mono ?_
  rintro e w5 ⟨rfl, k5⟩
  have K := K2.trans k5 (fun _ _ x => x)
  clear m K2 k5
  go_wp2_with fail
  go_ret
  exact ⟨rfl, K.below (Nat.le_refl _) (fun _ _ => id)⟩

set_option maxHeartbeats 1000000 in
theorem yes_neg (s : ByteArray) (z : Nat) (p : Int) (w : World) (h : s.size ≤ 134217728) (hz : s.size ≤ z) (hz2 : z ≤ 134217728) (hp : p < 0) :
    Calls Try.prog 4 #[.string s, .int .i64 (z : Int), .int .i64 p] w fun e w' => Post w e w' := by
  have hm := made_yes s w h
  have hl : s.data.toList.length = s.size := by simp
  have hz0 : ¬ (z : Int) < (s.size : Int) := by omega
  have hz1 : ¬ 134217728 < (z : Int) := by omega
  have hzl : (s.data.toList ++ zeros (z - s.data.toList.length)).length = z := by rw [List.length_append, zeros_length, hl]; omega
  generalize hbs : s.data.toList ++ zeros (z - s.data.toList.length) = bs at *
  have HB : Hid (s.data.toList ++ zeros (z - s.data.toList.length) = bs) := hbs
  clear hbs
  go_enter Try.func4, Try.ntmps4
  go_wp2_with fail
  refine hm.mono ?_
  rintro e w1 ⟨b, g, hb, hg, rfl, m, k⟩
  clear hm
  go_wp2_with fail
  refine (at_any _ b g _ _ m p).mono ?_
  rintro e w2 ⟨rfl, k2⟩
  have K2 := k.trans k2 (fun _ _ x => x)
  replace m := m.keeps k2 id id
  clear k k2
  have hgy := grow_yes _ b g _ _ m z (by rw [hl]; exact hz) hz2
  rw [HB.out] at hgy
  clear m
  go_wp2_with fail
  refine hgy.mono ?_
  rintro e w3 ⟨g', sp', rfl, hg', m, k3⟩
  clear hgy
  replace K2 := K2.trans k3 (fun i hi x => by omega)
  clear k3
  go_wp2_with fail
  refine (len_any _ b g' _ _ m).mono ?_
  rintro e w4 ⟨rfl, rfl⟩
  rw [hzl]
  have hat := at_no _ b g' _ _ m p (by omega)
  go_wp2_with fail
  refine hat.mono ?_
  rintro e w5 ⟨rfl, k5⟩
  have K := K2.trans k5 (fun _ _ x => x)
  clear m K2 k5 hat
  go_wp2_with fail
  go_ret
  exact ⟨rfl, K.below (Nat.le_refl _) (fun _ _ => id)⟩

set_option maxHeartbeats 1000000 in
theorem yes_big (s : ByteArray) (z : Nat) (p : Int) (w : World) (h : s.size ≤ 134217728) (hz : s.size ≤ z) (hz2 : z ≤ 134217728) (hp : (z : Int) ≤ p) :
    Calls Try.prog 4 #[.string s, .int .i64 (z : Int), .int .i64 p] w fun e w' => Post w e w' := by
  have hm := made_yes s w h
  have hl : s.data.toList.length = s.size := by simp
  have hp0 : ¬ p < 0 := by omega
  have hz0 : ¬ (z : Int) < (s.size : Int) := by omega
  have hz1 : ¬ 134217728 < (z : Int) := by omega
  have hzl : (s.data.toList ++ zeros (z - s.data.toList.length)).length = z := by rw [List.length_append, zeros_length, hl]; omega
  generalize hbs : s.data.toList ++ zeros (z - s.data.toList.length) = bs at *
  have HB : Hid (s.data.toList ++ zeros (z - s.data.toList.length) = bs) := hbs
  clear hbs
  go_enter Try.func4, Try.ntmps4
  go_wp2_with fail
  refine hm.mono ?_
  rintro e w1 ⟨b, g, hb, hg, rfl, m, k⟩
  clear hm
  go_wp2_with fail
  refine (at_any _ b g _ _ m p).mono ?_
  rintro e w2 ⟨rfl, k2⟩
  have K2 := k.trans k2 (fun _ _ x => x)
  replace m := m.keeps k2 id id
  clear k k2
  have hgy := grow_yes _ b g _ _ m z (by rw [hl]; exact hz) hz2
  rw [HB.out] at hgy
  clear m
  go_wp2_with fail
  refine hgy.mono ?_
  rintro e w3 ⟨g', sp', rfl, hg', m, k3⟩
  clear hgy
  replace K2 := K2.trans k3 (fun i hi x => by omega)
  clear k3
  go_wp2_with fail
  refine (len_any _ b g' _ _ m).mono ?_
  rintro e w4 ⟨rfl, rfl⟩
  rw [hzl]
  have hat := at_no _ b g' _ _ m p (by rw [hzl]; omega)
  go_wp2_with fail
  refine hat.mono ?_
  rintro e w5 ⟨rfl, k5⟩
  have K := K2.trans k5 (fun _ _ x => x)
  clear m K2 k5 hat
  go_wp2_with fail
  go_ret
  exact ⟨rfl, K.below (Nat.le_refl _) (fun _ _ => id)⟩

set_option maxHeartbeats 1000000 in
theorem yes_old (s : ByteArray) (z : Nat) (q : Nat) (w : World) (h : s.size ≤ 134217728) (hz : s.size ≤ z) (hz2 : z ≤ 134217728) (hq : q < s.size) :
    Calls Try.prog 4 #[.string s, .int .i64 (z : Int), .int .i64 (q : Int)] w fun e w' => Post w e w' := by
  have hm := made_yes s w h
  have hl : s.data.toList.length = s.size := by simp
  have hp0 : ¬ (q : Int) < 0 := by omega
  have hp1 : ¬ (z : Int) ≤ (q : Int) := by omega
  have hp2 : (q : Int) < (s.size : Int) := by omega
  have hw8 := wrap_byte (s[q]'hq)
  have hz0 : ¬ (z : Int) < (s.size : Int) := by omega
  have hz1 : ¬ 134217728 < (z : Int) := by omega
  have hzl : (s.data.toList ++ zeros (z - s.data.toList.length)).length = z := by rw [List.length_append, zeros_length, hl]; omega
  have HX : Hid ((s.data.toList ++ zeros (z - s.data.toList.length))[q]'(by rw [hzl]; exact Nat.lt_of_lt_of_le hq hz) = s[q]'hq) := by
    show _ = _
    rw [List.getElem_append_left (by rw [hl]; exact hq), byte_get s q hq]
  generalize hbs : s.data.toList ++ zeros (z - s.data.toList.length) = bs at *
  have HB : Hid (s.data.toList ++ zeros (z - s.data.toList.length) = bs) := hbs
  clear hbs
  go_enter Try.func4, Try.ntmps4
  go_wp2_with fail
  refine hm.mono ?_
  rintro e w1 ⟨b, g, hb, hg, rfl, m, k⟩
  clear hm
  go_wp2_with fail
  refine (at_yes _ b g _ _ m q (by rw [hl]; exact hq) (s[q]'hq) (byte_get s q hq _)).mono ?_
  rintro e w2 ⟨rfl, k2⟩
  have K2 := k.trans k2 (fun _ _ x => x)
  replace m := m.keeps k2 id id
  clear k k2
  have hgy := grow_yes _ b g _ _ m z (by rw [hl]; exact hz) hz2
  rw [HB.out] at hgy
  clear m
  go_wp2_with fail
  refine hgy.mono ?_
  rintro e w3 ⟨g', sp', rfl, hg', m, k3⟩
  clear hgy
  replace K2 := K2.trans k3 (fun i hi x => by omega)
  clear k3
  go_wp2_with fail
  refine (len_any _ b g' _ _ m).mono ?_
  rintro e w4 ⟨rfl, rfl⟩
  rw [hzl]
  have hat := fun W (mW : MemAt 47 5 W b g' bs sp') => at_yes W b g' bs sp' mW q (by rw [hzl]; omega) (s[q]'hq) HX
  clear HX HB hzl
  go_wp2_with fail
  go_region_with (go_at_call 13; refine (hat _ ?_).mono ?_; exact m.drew; rintro e w5 ⟨rfl, k5⟩)
  all_goals clear hat
  all_goals go_wp2
  all_goals go_ret
  all_goals refine ⟨?_, ((K2.drew).trans k5 (fun _ _ x => x)).below (Nat.le_refl _) (fun _ _ => id)⟩
  all_goals first | rfl | (simp [Act.put, hw8]; done)

set_option maxHeartbeats 1000000 in
theorem yes_new (s : ByteArray) (z : Nat) (q : Nat) (w : World) (h : s.size ≤ 134217728) (hz : s.size ≤ z) (hz2 : z ≤ 134217728) (hq : s.size ≤ q) (hqz : q < z) :
    Calls Try.prog 4 #[.string s, .int .i64 (z : Int), .int .i64 (q : Int)] w fun e w' => Post w e w' := by
  have hm := made_yes s w h
  have hl : s.data.toList.length = s.size := by simp
  have hp0 : ¬ (q : Int) < 0 := by omega
  have hp1 : ¬ (z : Int) ≤ (q : Int) := by omega
  have hp2 : ¬ (q : Int) < (s.size : Int) := by omega
  have hz0 : ¬ (z : Int) < (s.size : Int) := by omega
  have hz1 : ¬ 134217728 < (z : Int) := by omega
  have hzl : (s.data.toList ++ zeros (z - s.data.toList.length)).length = z := by rw [List.length_append, zeros_length, hl]; omega
  have HX : Hid ((s.data.toList ++ zeros (z - s.data.toList.length))[q]'(by rw [hzl]; exact hqz) = 0) := by
    show _ = _
    rw [List.getElem_append_right (by rw [hl]; exact hq)]
    simp [zeros]
  generalize hbs : s.data.toList ++ zeros (z - s.data.toList.length) = bs at *
  have HB : Hid (s.data.toList ++ zeros (z - s.data.toList.length) = bs) := hbs
  clear hbs
  go_enter Try.func4, Try.ntmps4
  go_wp2_with fail
  refine hm.mono ?_
  rintro e w1 ⟨b, g, hb, hg, rfl, m, k⟩
  clear hm
  go_wp2_with fail
  refine (at_any _ b g _ _ m (q : Int)).mono ?_
  rintro e w2 ⟨rfl, k2⟩
  have K2 := k.trans k2 (fun _ _ x => x)
  replace m := m.keeps k2 id id
  clear k k2
  have hgy := grow_yes _ b g _ _ m z (by rw [hl]; exact hz) hz2
  rw [HB.out] at hgy
  clear m
  go_wp2_with fail
  refine hgy.mono ?_
  rintro e w3 ⟨g', sp', rfl, hg', m, k3⟩
  clear hgy
  replace K2 := K2.trans k3 (fun i hi x => by omega)
  clear k3
  go_wp2_with fail
  refine (len_any _ b g' _ _ m).mono ?_
  rintro e w4 ⟨rfl, rfl⟩
  rw [hzl]
  have hat := at_yes _ b g' _ _ m q (by rw [hzl]; exact hqz) 0 HX
  go_wp2_with fail
  refine hat.mono ?_
  rintro e w5 ⟨rfl, k5⟩
  have K := K2.trans k5 (fun _ _ x => x)
  clear m K2 k5 hat
  go_wp2_with fail
  go_ret
  exact ⟨rfl, K.below (Nat.le_refl _) (fun _ _ => id)⟩

theorem walk (a0 : ByteArray) (a1 : Int) (a2 : Int) (w0 : a0.size ≤ maxLen) (_ : (Lit.int .i64 a1).wf = true) (_ : (Lit.int .i64 a2).wf = true) (w : World) :
    Calls Try.prog 4 #[.string a0, .int .i64 a1, .int .i64 a2] w fun e w' => e = .returned (.bool true) ∧ Below w.heap.size w w' := by
  by_cases h : 134217728 < a0.size
  · exact walk_big a0 a1 a2 w w0 h
  replace h : a0.size ≤ 134217728 := by omega
  by_cases h1 : a1 < (a0.size : Int)
  · exact no_lo a0 a1 a2 w h h1
  by_cases h2 : 134217728 < a1
  · exact no_hi a0 a1 a2 w h h2
  obtain ⟨z, rfl⟩ := Int.eq_ofNat_of_zero_le (show 0 ≤ a1 by omega)
  by_cases h3 : a2 < 0
  · exact yes_neg a0 z a2 w h (by omega) (by omega) h3
  by_cases h4 : (z : Int) ≤ a2
  · exact yes_big a0 z a2 w h (by omega) (by omega) h4
  obtain ⟨q, rfl⟩ := Int.eq_ofNat_of_zero_le (show 0 ≤ a2 by omega)
  by_cases h5 : q < a0.size
  · exact yes_old a0 z q w h (by omega) (by omega) h5
  · exact yes_new a0 z q w h (by omega) (by omega) (by omega) (by omega)
end memGrows
end Go.Proofs.Ytlgmpnaalifegaa
