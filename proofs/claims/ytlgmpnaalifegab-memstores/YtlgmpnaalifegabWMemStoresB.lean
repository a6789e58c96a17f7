import Derived.Test.YtlgmpnaalifegabWMemStoresA
import Derived.Deep.RegionHeld3
import Derived.Deep.QuietTactic
import Derived.BigQuiet
import Derived.Test.YtlgmpnaalifegabWalks9
namespace Go.Proofs.Ytlgmpnaalifegab
namespace memStores
open Go.RowKit

set_option maxRecDepth 100000 in
set_option maxHeartbeats 1000000 in
theorem out1_neg (s : ByteArray) (o v : Int) (p : Int) (w : World) (h : s.size ≤ 134217728) (hi : insideB s.size o 1 = false) (hp : p < 0) :
    Calls Try.prog 4 #[.string s, .int .i64 o, .int .i64 1, .int .u64 v, .int .i64 p] w fun e w' => Post w e w' := by
  have hm := made_yes s w h
  have hl : s.data.toList.length = s.size := by simp
  have hli := fun W => lawin_no W s.size (by omega) o 1 hi
  have HI : Hid (insideB s.size o 1 = false) := hi
  clear hi
  go_enter Try.func4, Try.ntmps4
  go_wp2_with fail
  refine hm.mono ?_
  rintro e w1 ⟨b, g, hb, hg, rfl, m, k⟩
  clear hm
  go_wp2_with fail
  refine (store_out _ b g _ _ m o 1 v rfl (by rw [hl]; exact HI.out)).mono ?_
  rintro e w2 ⟨rfl, rfl⟩
  go_wp2_with fail
  refine (load_out _ b g _ _ m o 1 rfl (by rw [hl]; exact HI.out)).mono ?_
  rintro e w2 ⟨rfl, rfl⟩
  go_wp2_with fail
  refine (hli _).mono ?_
  rintro e w2 ⟨rfl, rfl⟩
  clear hli
  go_wp2_with fail
  go_quiet (fail)
  go_wp2_with fail
  go_ret
  exact ⟨rfl, (k.drewN _).below (Nat.le_refl _) (fun _ _ => id)⟩

set_option maxRecDepth 100000 in
set_option maxHeartbeats 1000000 in
theorem out1_big (s : ByteArray) (o v : Int) (p : Int) (w : World) (h : s.size ≤ 134217728) (hi : insideB s.size o 1 = false) (hp : (s.size : Int) ≤ p) :
    Calls Try.prog 4 #[.string s, .int .i64 o, .int .i64 1, .int .u64 v, .int .i64 p] w fun e w' => Post w e w' := by
  have hm := made_yes s w h
  have hl : s.data.toList.length = s.size := by simp
  have hp0 : ¬ p < 0 := by omega
  have hd0 : decide (p < 0) = false := decide_eq_false hp0
  have hd1 : decide ((s.size : Int) ≤ p) = true := decide_eq_true hp
  have hli := fun W => lawin_no W s.size (by omega) o 1 hi
  have HI : Hid (insideB s.size o 1 = false) := hi
  clear hi
  go_enter Try.func4, Try.ntmps4
  go_wp2_with fail
  refine hm.mono ?_
  rintro e w1 ⟨b, g, hb, hg, rfl, m, k⟩
  clear hm
  go_wp2_with fail
  refine (store_out _ b g _ _ m o 1 v rfl (by rw [hl]; exact HI.out)).mono ?_
  rintro e w2 ⟨rfl, rfl⟩
  go_wp2_with fail
  refine (load_out _ b g _ _ m o 1 rfl (by rw [hl]; exact HI.out)).mono ?_
  rintro e w2 ⟨rfl, rfl⟩
  go_wp2_with fail
  refine (hli _).mono ?_
  rintro e w2 ⟨rfl, rfl⟩
  clear hli
  go_wp2_with fail
  go_quiet (fail)
  go_wp2_with fail
  go_ret
  exact ⟨rfl, (k.drewN _).below (Nat.le_refl _) (fun _ _ => id)⟩

set_option maxRecDepth 100000 in
set_option maxHeartbeats 1000000 in
theorem out1_in (s : ByteArray) (o v : Int) (q : Nat) (w : World) (h : s.size ≤ 134217728) (hi : insideB s.size o 1 = false) (hq : q < s.size) :
    Calls Try.prog 4 #[.string s, .int .i64 o, .int .i64 1, .int .u64 v, .int .i64 (q : Int)] w fun e w' => Post w e w' := by
  have hm := made_yes s w h
  have hl : s.data.toList.length = s.size := by simp
  have hp0 : ¬ (q : Int) < 0 := by omega
  have hp1 : ¬ (s.size : Int) ≤ (q : Int) := by omega
  have hd0 : decide ((q : Int) < 0) = false := decide_eq_false hp0
  have hd1 : decide ((s.size : Int) ≤ (q : Int)) = false := decide_eq_false hp1
  have hp4 : ¬ s.size ≤ q := by omega
  have hd2 : decide (s.size ≤ q) = false := decide_eq_false hp4
  have hw8 := wrap_byte (s[q]'hq)
  have hli := fun W => lawin_no W s.size (by omega) o 1 hi
  have HI : Hid (insideB s.size o 1 = false) := hi
  clear hi
  go_enter Try.func4, Try.ntmps4
  go_wp2_with fail
  refine hm.mono ?_
  rintro e w1 ⟨b, g, hb, hg, rfl, m, k⟩
  clear hm
  go_wp2_with fail
  refine (store_out _ b g _ _ m o 1 v rfl (by rw [hl]; exact HI.out)).mono ?_
  rintro e w2 ⟨rfl, rfl⟩
  go_wp2_with fail
  refine (load_out _ b g _ _ m o 1 rfl (by rw [hl]; exact HI.out)).mono ?_
  rintro e w2 ⟨rfl, rfl⟩
  go_wp2_with fail
  refine (hli _).mono ?_
  rintro e w2 ⟨rfl, rfl⟩
  clear hli
  have hat := fun W (mW : MemAt 60 5 W b g s.data.toList []) => at_yes W b g s.data.toList [] mW q (by rw [hl]; exact hq) (s[q]'hq) (byte_get s q hq _)
  go_wp2_with fail
  go_region_held3 (fun w' => MemAt 60 5 w' b g s.data.toList [] ∧ Keeps w w' (fun _ => False)) (first | exact ⟨m.drew, k.drew⟩ | exact ⟨m.drew.keeps k3 id id, (k.drew).trans k3 (fun _ _ x => x)⟩) (first | (go_at_call 15; refine (hat _ ?_).mono ?_; exact m.drew; rintro e w3 ⟨rfl, k3⟩))
  all_goals clear hat
  all_goals go_wp2
  all_goals go_ret
  all_goals refine ⟨?_, ((k.drew).trans k3 (fun _ _ x => x)).below (Nat.le_refl _) (fun _ _ => id)⟩
  all_goals first | rfl | (simp [Act.put, hw8]; done)

set_option maxRecDepth 100000 in
set_option maxHeartbeats 1000000 in
theorem out2_neg (s : ByteArray) (o v : Int) (p : Int) (w : World) (h : s.size ≤ 134217728) (hi : insideB s.size o 2 = false) (hp : p < 0) :
    Calls Try.prog 4 #[.string s, .int .i64 o, .int .i64 2, .int .u64 v, .int .i64 p] w fun e w' => Post w e w' := by
  have hm := made_yes s w h
  have hl : s.data.toList.length = s.size := by simp
  have hli := fun W => lawin_no W s.size (by omega) o 2 hi
  have HI : Hid (insideB s.size o 2 = false) := hi
  clear hi
  go_enter Try.func4, Try.ntmps4
  go_wp2_with fail
  refine hm.mono ?_
  rintro e w1 ⟨b, g, hb, hg, rfl, m, k⟩
  clear hm
  go_wp2_with fail
  refine (store_out _ b g _ _ m o 2 v rfl (by rw [hl]; exact HI.out)).mono ?_
  rintro e w2 ⟨rfl, rfl⟩
  go_wp2_with fail
  refine (load_out _ b g _ _ m o 2 rfl (by rw [hl]; exact HI.out)).mono ?_
  rintro e w2 ⟨rfl, rfl⟩
  go_wp2_with fail
  refine (hli _).mono ?_
  rintro e w2 ⟨rfl, rfl⟩
  clear hli
  go_wp2_with fail
  go_quiet (fail)
  go_wp2_with fail
  go_ret
  exact ⟨rfl, (k.drewN _).below (Nat.le_refl _) (fun _ _ => id)⟩

set_option maxRecDepth 100000 in
set_option maxHeartbeats 1000000 in
theorem out2_big (s : ByteArray) (o v : Int) (p : Int) (w : World) (h : s.size ≤ 134217728) (hi : insideB s.size o 2 = false) (hp : (s.size : Int) ≤ p) :
    Calls Try.prog 4 #[.string s, .int .i64 o, .int .i64 2, .int .u64 v, .int .i64 p] w fun e w' => Post w e w' := by
  have hm := made_yes s w h
  have hl : s.data.toList.length = s.size := by simp
  have hp0 : ¬ p < 0 := by omega
  have hd0 : decide (p < 0) = false := decide_eq_false hp0
  have hd1 : decide ((s.size : Int) ≤ p) = true := decide_eq_true hp
  have hli := fun W => lawin_no W s.size (by omega) o 2 hi
  have HI : Hid (insideB s.size o 2 = false) := hi
  clear hi
  go_enter Try.func4, Try.ntmps4
  go_wp2_with fail
  refine hm.mono ?_
  rintro e w1 ⟨b, g, hb, hg, rfl, m, k⟩
  clear hm
  go_wp2_with fail
  refine (store_out _ b g _ _ m o 2 v rfl (by rw [hl]; exact HI.out)).mono ?_
  rintro e w2 ⟨rfl, rfl⟩
  go_wp2_with fail
  refine (load_out _ b g _ _ m o 2 rfl (by rw [hl]; exact HI.out)).mono ?_
  rintro e w2 ⟨rfl, rfl⟩
  go_wp2_with fail
  refine (hli _).mono ?_
  rintro e w2 ⟨rfl, rfl⟩
  clear hli
  go_wp2_with fail
  go_quiet (fail)
  go_wp2_with fail
  go_ret
  exact ⟨rfl, (k.drewN _).below (Nat.le_refl _) (fun _ _ => id)⟩

set_option maxRecDepth 100000 in
set_option maxHeartbeats 1000000 in
theorem out2_in (s : ByteArray) (o v : Int) (q : Nat) (w : World) (h : s.size ≤ 134217728) (hi : insideB s.size o 2 = false) (hq : q < s.size) :
    Calls Try.prog 4 #[.string s, .int .i64 o, .int .i64 2, .int .u64 v, .int .i64 (q : Int)] w fun e w' => Post w e w' := by
  have hm := made_yes s w h
  have hl : s.data.toList.length = s.size := by simp
  have hp0 : ¬ (q : Int) < 0 := by omega
  have hp1 : ¬ (s.size : Int) ≤ (q : Int) := by omega
  have hd0 : decide ((q : Int) < 0) = false := decide_eq_false hp0
  have hd1 : decide ((s.size : Int) ≤ (q : Int)) = false := decide_eq_false hp1
  have hp4 : ¬ s.size ≤ q := by omega
  have hd2 : decide (s.size ≤ q) = false := decide_eq_false hp4
  have hw8 := wrap_byte (s[q]'hq)
  have hli := fun W => lawin_no W s.size (by omega) o 2 hi
  have HI : Hid (insideB s.size o 2 = false) := hi
  clear hi
  go_enter Try.func4, Try.ntmps4
  go_wp2_with fail
  refine hm.mono ?_
  rintro e w1 ⟨b, g, hb, hg, rfl, m, k⟩
  clear hm
  go_wp2_with fail
  refine (store_out _ b g _ _ m o 2 v rfl (by rw [hl]; exact HI.out)).mono ?_
  rintro e w2 ⟨rfl, rfl⟩
  go_wp2_with fail
  refine (load_out _ b g _ _ m o 2 rfl (by rw [hl]; exact HI.out)).mono ?_
  rintro e w2 ⟨rfl, rfl⟩
  go_wp2_with fail
  refine (hli _).mono ?_
  rintro e w2 ⟨rfl, rfl⟩
  clear hli
  have hat := fun W (mW : MemAt 60 5 W b g s.data.toList []) => at_yes W b g s.data.toList [] mW q (by rw [hl]; exact hq) (s[q]'hq) (byte_get s q hq _)
  go_wp2_with fail
  go_region_held3 (fun w' => MemAt 60 5 w' b g s.data.toList [] ∧ Keeps w w' (fun _ => False)) (first | exact ⟨m.drew, k.drew⟩ | exact ⟨m.drew.keeps k3 id id, (k.drew).trans k3 (fun _ _ x => x)⟩) (first | (go_at_call 15; refine (hat _ ?_).mono ?_; exact m.drew; rintro e w3 ⟨rfl, k3⟩))
  all_goals clear hat
  all_goals go_wp2
  all_goals go_ret
  all_goals refine ⟨?_, ((k.drew).trans k3 (fun _ _ x => x)).below (Nat.le_refl _) (fun _ _ => id)⟩
  all_goals first | rfl | (simp [Act.put, hw8]; done)

set_option maxRecDepth 100000 in
set_option maxHeartbeats 1000000 in
theorem out4_neg (s : ByteArray) (o v : Int) (p : Int) (w : World) (h : s.size ≤ 134217728) (hi : insideB s.size o 4 = false) (hp : p < 0) :
    Calls Try.prog 4 #[.string s, .int .i64 o, .int .i64 4, .int .u64 v, .int .i64 p] w fun e w' => Post w e w' := by
  have hm := made_yes s w h
  have hl : s.data.toList.length = s.size := by simp
  have hli := fun W => lawin_no W s.size (by omega) o 4 hi
  have HI : Hid (insideB s.size o 4 = false) := hi
  clear hi
  go_enter Try.func4, Try.ntmps4
  go_wp2_with fail
  refine hm.mono ?_
  rintro e w1 ⟨b, g, hb, hg, rfl, m, k⟩
  clear hm
  go_wp2_with fail
  refine (store_out _ b g _ _ m o 4 v rfl (by rw [hl]; exact HI.out)).mono ?_
  rintro e w2 ⟨rfl, rfl⟩
  go_wp2_with fail
  refine (load_out _ b g _ _ m o 4 rfl (by rw [hl]; exact HI.out)).mono ?_
  rintro e w2 ⟨rfl, rfl⟩
  go_wp2_with fail
  refine (hli _).mono ?_
  rintro e w2 ⟨rfl, rfl⟩
  clear hli
  go_wp2_with fail
  go_quiet (fail)
  go_wp2_with fail
  go_ret
  exact ⟨rfl, (k.drewN _).below (Nat.le_refl _) (fun _ _ => id)⟩

set_option maxRecDepth 100000 in
set_option maxHeartbeats 1000000 in
theorem out4_big (s : ByteArray) (o v : Int) (p : Int) (w : World) (h : s.size ≤ 134217728) (hi : insideB s.size o 4 = false) (hp : (s.size : Int) ≤ p) :
    Calls Try.prog 4 #[.string s, .int .i64 o, .int .i64 4, .int .u64 v, .int .i64 p] w fun e w' => Post w e w' := by
  have hm := made_yes s w h
  have hl : s.data.toList.length = s.size := by simp
  have hp0 : ¬ p < 0 := by omega
  have hd0 : decide (p < 0) = false := decide_eq_false hp0
  have hd1 : decide ((s.size : Int) ≤ p) = true := decide_eq_true hp
  have hli := fun W => lawin_no W s.size (by omega) o 4 hi
  have HI : Hid (insideB s.size o 4 = false) := hi
  clear hi
  go_enter Try.func4, Try.ntmps4
  go_wp2_with fail
  refine hm.mono ?_
  rintro e w1 ⟨b, g, hb, hg, rfl, m, k⟩
  clear hm
  go_wp2_with fail
  refine (store_out _ b g _ _ m o 4 v rfl (by rw [hl]; exact HI.out)).mono ?_
  rintro e w2 ⟨rfl, rfl⟩
  go_wp2_with fail
  refine (load_out _ b g _ _ m o 4 rfl (by rw [hl]; exact HI.out)).mono ?_
  rintro e w2 ⟨rfl, rfl⟩
  go_wp2_with fail
  refine (hli _).mono ?_
  rintro e w2 ⟨rfl, rfl⟩
  clear hli
  go_wp2_with fail
  go_quiet (fail)
  go_wp2_with fail
  go_ret
  exact ⟨rfl, (k.drewN _).below (Nat.le_refl _) (fun _ _ => id)⟩

set_option maxRecDepth 100000 in
set_option maxHeartbeats 1000000 in
theorem out4_in (s : ByteArray) (o v : Int) (q : Nat) (w : World) (h : s.size ≤ 134217728) (hi : insideB s.size o 4 = false) (hq : q < s.size) :
    Calls Try.prog 4 #[.string s, .int .i64 o, .int .i64 4, .int .u64 v, .int .i64 (q : Int)] w fun e w' => Post w e w' := by
  have hm := made_yes s w h
  have hl : s.data.toList.length = s.size := by simp
  have hp0 : ¬ (q : Int) < 0 := by omega
  have hp1 : ¬ (s.size : Int) ≤ (q : Int) := by omega
  have hd0 : decide ((q : Int) < 0) = false := decide_eq_false hp0
  have hd1 : decide ((s.size : Int) ≤ (q : Int)) = false := decide_eq_false hp1
  have hp4 : ¬ s.size ≤ q := by omega
  have hd2 : decide (s.size ≤ q) = false := decide_eq_false hp4
  have hw8 := wrap_byte (s[q]'hq)
  have hli := fun W => lawin_no W s.size (by omega) o 4 hi
  have HI : Hid (insideB s.size o 4 = false) := hi
  clear hi
  go_enter Try.func4, Try.ntmps4
  go_wp2_with fail
  refine hm.mono ?_
  rintro e w1 ⟨b, g, hb, hg, rfl, m, k⟩
  clear hm
  go_wp2_with fail
  refine (store_out _ b g _ _ m o 4 v rfl (by rw [hl]; exact HI.out)).mono ?_
  rintro e w2 ⟨rfl, rfl⟩
  go_wp2_with fail
  refine (load_out _ b g _ _ m o 4 rfl (by rw [hl]; exact HI.out)).mono ?_
  rintro e w2 ⟨rfl, rfl⟩
  go_wp2_with fail
  refine (hli _).mono ?_
  rintro e w2 ⟨rfl, rfl⟩
  clear hli
  have hat := fun W (mW : MemAt 60 5 W b g s.data.toList []) => at_yes W b g s.data.toList [] mW q (by rw [hl]; exact hq) (s[q]'hq) (byte_get s q hq _)
  go_wp2_with fail
  go_region_held3 (fun w' => MemAt 60 5 w' b g s.data.toList [] ∧ Keeps w w' (fun _ => False)) (first | exact ⟨m.drew, k.drew⟩ | exact ⟨m.drew.keeps k3 id id, (k.drew).trans k3 (fun _ _ x => x)⟩) (first | (go_at_call 15; refine (hat _ ?_).mono ?_; exact m.drew; rintro e w3 ⟨rfl, k3⟩))
  all_goals clear hat
  all_goals go_wp2
  all_goals go_ret
  all_goals refine ⟨?_, ((k.drew).trans k3 (fun _ _ x => x)).below (Nat.le_refl _) (fun _ _ => id)⟩
  all_goals first | rfl | (simp [Act.put, hw8]; done)

set_option maxRecDepth 100000 in
set_option maxHeartbeats 1000000 in
theorem out8_neg (s : ByteArray) (o v : Int) (p : Int) (w : World) (h : s.size ≤ 134217728) (hi : insideB s.size o 8 = false) (hp : p < 0) :
    Calls Try.prog 4 #[.string s, .int .i64 o, .int .i64 8, .int .u64 v, .int .i64 p] w fun e w' => Post w e w' := by
  have hm := made_yes s w h
  have hl : s.data.toList.length = s.size := by simp
  have hli := fun W => lawin_no W s.size (by omega) o 8 hi
  have HI : Hid (insideB s.size o 8 = false) := hi
  clear hi
  go_enter Try.func4, Try.ntmps4
  go_wp2_with fail
  refine hm.mono ?_
  rintro e w1 ⟨b, g, hb, hg, rfl, m, k⟩
  clear hm
  go_wp2_with fail
  refine (store_out _ b g _ _ m o 8 v rfl (by rw [hl]; exact HI.out)).mono ?_
  rintro e w2 ⟨rfl, rfl⟩
  go_wp2_with fail
  refine (load_out _ b g _ _ m o 8 rfl (by rw [hl]; exact HI.out)).mono ?_
  rintro e w2 ⟨rfl, rfl⟩
  go_wp2_with fail
  refine (hli _).mono ?_
  rintro e w2 ⟨rfl, rfl⟩
  clear hli
  go_wp2_with fail
  go_quiet (fail)
  go_wp2_with fail
  go_ret
  exact ⟨rfl, (k.drewN _).below (Nat.le_refl _) (fun _ _ => id)⟩

set_option maxRecDepth 100000 in
set_option maxHeartbeats 1000000 in
theorem out8_big (s : ByteArray) (o v : Int) (p : Int) (w : World) (h : s.size ≤ 134217728) (hi : insideB s.size o 8 = false) (hp : (s.size : Int) ≤ p) :
    Calls Try.prog 4 #[.string s, .int .i64 o, .int .i64 8, .int .u64 v, .int .i64 p] w fun e w' => Post w e w' := by
  have hm := made_yes s w h
  have hl : s.data.toList.length = s.size := by simp
  have hp0 : ¬ p < 0 := by omega
  have hd0 : decide (p < 0) = false := decide_eq_false hp0
  have hd1 : decide ((s.size : Int) ≤ p) = true := decide_eq_true hp
  have hli := fun W => lawin_no W s.size (by omega) o 8 hi
  have HI : Hid (insideB s.size o 8 = false) := hi
  clear hi
  go_enter Try.func4, Try.ntmps4
  go_wp2_with fail
  refine hm.mono ?_
  rintro e w1 ⟨b, g, hb, hg, rfl, m, k⟩
  clear hm
  go_wp2_with fail
  refine (store_out _ b g _ _ m o 8 v rfl (by rw [hl]; exact HI.out)).mono ?_
  rintro e w2 ⟨rfl, rfl⟩
  go_wp2_with fail
  refine (load_out _ b g _ _ m o 8 rfl (by rw [hl]; exact HI.out)).mono ?_
  rintro e w2 ⟨rfl, rfl⟩
  go_wp2_with fail
  refine (hli _).mono ?_
  rintro e w2 ⟨rfl, rfl⟩
  clear hli
  go_wp2_with fail
  go_quiet (fail)
  go_wp2_with fail
  go_ret
  exact ⟨rfl, (k.drewN _).below (Nat.le_refl _) (fun _ _ => id)⟩

set_option maxRecDepth 100000 in
set_option maxHeartbeats 1000000 in
theorem out8_in (s : ByteArray) (o v : Int) (q : Nat) (w : World) (h : s.size ≤ 134217728) (hi : insideB s.size o 8 = false) (hq : q < s.size) :
    Calls Try.prog 4 #[.string s, .int .i64 o, .int .i64 8, .int .u64 v, .int .i64 (q : Int)] w fun e w' => Post w e w' := by
  have hm := made_yes s w h
  have hl : s.data.toList.length = s.size := by simp
  have hp0 : ¬ (q : Int) < 0 := by omega
  have hp1 : ¬ (s.size : Int) ≤ (q : Int) := by omega
  have hd0 : decide ((q : Int) < 0) = false := decide_eq_false hp0
  have hd1 : decide ((s.size : Int) ≤ (q : Int)) = false := decide_eq_false hp1
  have hp4 : ¬ s.size ≤ q := by omega
  have hd2 : decide (s.size ≤ q) = false := decide_eq_false hp4
  have hw8 := wrap_byte (s[q]'hq)
  have hli := fun W => lawin_no W s.size (by omega) o 8 hi
  have HI : Hid (insideB s.size o 8 = false) := hi
  clear hi
  go_enter Try.func4, Try.ntmps4
  go_wp2_with fail
  refine hm.mono ?_
  rintro e w1 ⟨b, g, hb, hg, rfl, m, k⟩
  clear hm
  go_wp2_with fail
  refine (store_out _ b g _ _ m o 8 v rfl (by rw [hl]; exact HI.out)).mono ?_
  rintro e w2 ⟨rfl, rfl⟩
  go_wp2_with fail
  refine (load_out _ b g _ _ m o 8 rfl (by rw [hl]; exact HI.out)).mono ?_
  rintro e w2 ⟨rfl, rfl⟩
  go_wp2_with fail
  refine (hli _).mono ?_
  rintro e w2 ⟨rfl, rfl⟩
  clear hli
  have hat := fun W (mW : MemAt 60 5 W b g s.data.toList []) => at_yes W b g s.data.toList [] mW q (by rw [hl]; exact hq) (s[q]'hq) (byte_get s q hq _)
  go_wp2_with fail
  go_region_held3 (fun w' => MemAt 60 5 w' b g s.data.toList [] ∧ Keeps w w' (fun _ => False)) (first | exact ⟨m.drew, k.drew⟩ | exact ⟨m.drew.keeps k3 id id, (k.drew).trans k3 (fun _ _ x => x)⟩) (first | (go_at_call 15; refine (hat _ ?_).mono ?_; exact m.drew; rintro e w3 ⟨rfl, k3⟩))
  all_goals clear hat
  all_goals go_wp2
  all_goals go_ret
  all_goals refine ⟨?_, ((k.drew).trans k3 (fun _ _ x => x)).below (Nat.le_refl _) (fun _ _ => id)⟩
  all_goals first | rfl | (simp [Act.put, hw8]; done)

end memStores
end Go.Proofs.Ytlgmpnaalifegab
