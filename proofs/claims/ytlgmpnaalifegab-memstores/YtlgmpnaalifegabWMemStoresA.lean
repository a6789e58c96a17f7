import Derived.Test.YtlgmpnaalifegabWalks11
import Derived.Deep.RegionHeld3
import Derived.Deep.QuietTactic
import Derived.BigQuiet
import Derived.Test.YtlgmpnaalifegabWalks9
namespace Go.Proofs.Ytlgmpnaalifegab
namespace memStores
open Go.RowKit

theorem low_cut (v i n : Nat) (hi : i < n) : v % 256 ^ n / 256 ^ i % 256 = v / 256 ^ i % 256 := by
  have e : (256 : Nat) ^ n = 256 ^ i * 256 ^ (n - i) := by rw [← Nat.pow_add]; congr 1; omega
  rw [e, Nat.mod_mul_right_div_self, Nat.mod_mod_of_dvd]
  obtain ⟨d, hd⟩ : ∃ d, n - i = d + 1 := ⟨n - i - 1, by omega⟩
  rw [hd, Nat.pow_succ]
  exact Nat.dvd_mul_left _ _
theorem span_nat (N v i : Nat) (h : N / 256 ^ i % 256 = v / 256 ^ i % 256) : (((lowB v i).toNat : Int) == IntKind.i64.wrap (((N : Int) / 2 ^ (8 * (i : Int)).toNat).tmod 256)) = true := by
  have e : (8 * (i : Int)).toNat = 8 * i := by omega
  have e2 : ((N : Int) / 2 ^ (8 * i)) = ((N / 256 ^ i : Nat) : Int) := by rw [← pow_byte]; simp
  rw [beq_iff_eq, e, e2, lowB_toNat, ← h, Int.tmod_eq_emod_of_nonneg (Int.natCast_nonneg _), IntKind.wrap_i64]
  omega
theorem span_low (v i n C : Nat) (hC : 256 ^ n = C) (hi : i < n) : (((lowB v i).toNat : Int) == IntKind.i64.wrap (((v : Int) % (C : Int) / 2 ^ (8 * (i : Int)).toNat).tmod 256)) = true := by
  subst hC
  have := span_nat (v % 256 ^ n) v i (low_cut v i n hi)
  rwa [Int.natCast_emod] at this
theorem span_low8 (v i : Nat) : (((lowB v i).toNat : Int) == IntKind.i64.wrap (((v : Int) / 2 ^ (8 * (i : Int)).toNat).tmod 256)) = true := span_nat v v i rfl

def Post (w : World) (e : Ending) (w' : World) : Prop := e = .returned (.bool true) ∧ Below w.heap.size w w'

set_option maxHeartbeats 400000 in
theorem walk_big (s : ByteArray) (o n v p : Int) (w : World) (hs : s.size ≤ maxLen) (h : 134217728 < s.size) :
    Calls Try.prog 4 #[.string s, .int .i64 o, .int .i64 n, .int .u64 v, .int .i64 p] w fun e w' => Post w e w' := by
  have hm := made_no s w hs h
  have hd : (134217728 : Int) < (s.size : Int) := by omega
  unfold maxLen at hs
  go_enter Try.func4, Try.ntmps4
  go_wp2_with fail
  refine hm.mono ?_
  rintro e w' ⟨rfl, rfl⟩
  clear hm
  go_wp2_with fail
  go_ret
  exact ⟨rfl, Below.refl _ _⟩

set_option maxRecDepth 100000 in
set_option maxHeartbeats 1000000 in
theorem bad_neg (s : ByteArray) (o n v : Int) (p : Int) (w : World) (h : s.size ≤ 134217728) (hn : widthB n = false) (hp : p < 0) :
    Calls Try.prog 4 #[.string s, .int .i64 o, .int .i64 n, .int .u64 v, .int .i64 p] w fun e w' => Post w e w' := by
  have hm := made_yes s w h
  have hl : s.data.toList.length = s.size := by simp
  obtain ⟨h1, h2, h3, h4⟩ := widthB_false hn
  have b1 : (n == 1) = false := beq_eq_false_iff_ne.2 h1
  have b2 : (n == 2) = false := beq_eq_false_iff_ne.2 h2
  have b3 : (n == 4) = false := beq_eq_false_iff_ne.2 h3
  have b4 : (n == 8) = false := beq_eq_false_iff_ne.2 h4
  have hli := fun W => lawin_any W s.size (by omega) o n
  generalize insideB s.size o n = B at *
  clear h1 h2 h3 h4
  go_enter Try.func4, Try.ntmps4
  go_wp2_with fail
  refine hm.mono ?_
  rintro e w1 ⟨b, g, hb, hg, rfl, m, k⟩
  clear hm
  go_wp2_with fail
  refine (store_width _ _ o n v hn).mono ?_
  rintro e w2 ⟨rfl, rfl⟩
  go_wp2_with fail
  refine (load_width _ _ o n hn).mono ?_
  rintro e w2 ⟨rfl, rfl⟩
  go_wp2_with fail
  refine (hli _).mono ?_
  rintro e w2 ⟨rfl, rfl⟩
  clear hli
  go_wp2_with fail
  go_quiet (fail)
  go_wp2_with fail
  go_ret
  exact ⟨rfl, (k.drewN _).below (Nat.le_refl _) (fun _ _ => id)⟩

set_option maxRecDepth 100000 in
set_option maxHeartbeats 1000000 in
theorem bad_big (s : ByteArray) (o n v : Int) (p : Int) (w : World) (h : s.size ≤ 134217728) (hn : widthB n = false) (hp : (s.size : Int) ≤ p) :
    Calls Try.prog 4 #[.string s, .int .i64 o, .int .i64 n, .int .u64 v, .int .i64 p] w fun e w' => Post w e w' := by
  have hm := made_yes s w h
  have hl : s.data.toList.length = s.size := by simp
  have hp0 : ¬ p < 0 := by omega
  have hd0 : decide (p < 0) = false := decide_eq_false hp0
  have hd1 : decide ((s.size : Int) ≤ p) = true := decide_eq_true hp
  obtain ⟨h1, h2, h3, h4⟩ := widthB_false hn
  have b1 : (n == 1) = false := beq_eq_false_iff_ne.2 h1
  have b2 : (n == 2) = false := beq_eq_false_iff_ne.2 h2
  have b3 : (n == 4) = false := beq_eq_false_iff_ne.2 h3
  have b4 : (n == 8) = false := beq_eq_false_iff_ne.2 h4
  have hli := fun W => lawin_any W s.size (by omega) o n
  generalize insideB s.size o n = B at *
  clear h1 h2 h3 h4
  go_enter Try.func4, Try.ntmps4
  go_wp2_with fail
  refine hm.mono ?_
  rintro e w1 ⟨b, g, hb, hg, rfl, m, k⟩
  clear hm
  go_wp2_with fail
  refine (store_width _ _ o n v hn).mono ?_
  rintro e w2 ⟨rfl, rfl⟩
  go_wp2_with fail
  refine (load_width _ _ o n hn).mono ?_
  rintro e w2 ⟨rfl, rfl⟩
  go_wp2_with fail
  refine (hli _).mono ?_
  rintro e w2 ⟨rfl, rfl⟩
  clear hli
  go_wp2_with fail
  go_quiet (fail)
  go_wp2_with fail
  go_ret
  exact ⟨rfl, (k.drewN _).below (Nat.le_refl _) (fun _ _ => id)⟩

set_option maxRecDepth 100000 in
set_option maxHeartbeats 1000000 in
theorem bad_in (s : ByteArray) (o n v : Int) (q : Nat) (w : World) (h : s.size ≤ 134217728) (hn : widthB n = false) (hq : q < s.size) :
    Calls Try.prog 4 #[.string s, .int .i64 o, .int .i64 n, .int .u64 v, .int .i64 (q : Int)] w fun e w' => Post w e w' := by
  have hm := made_yes s w h
  have hl : s.data.toList.length = s.size := by simp
  have hp0 : ¬ (q : Int) < 0 := by omega
  have hp1 : ¬ (s.size : Int) ≤ (q : Int) := by omega
  have hd0 : decide ((q : Int) < 0) = false := decide_eq_false hp0
  have hd1 : decide ((s.size : Int) ≤ (q : Int)) = false := decide_eq_false hp1
  have hp4 : ¬ s.size ≤ q := by omega
  have hd2 : decide (s.size ≤ q) = false := decide_eq_false hp4
  have hw8 := wrap_byte (s[q]'hq)
  obtain ⟨h1, h2, h3, h4⟩ := widthB_false hn
  have b1 : (n == 1) = false := beq_eq_false_iff_ne.2 h1
  have b2 : (n == 2) = false := beq_eq_false_iff_ne.2 h2
  have b3 : (n == 4) = false := beq_eq_false_iff_ne.2 h3
  have b4 : (n == 8) = false := beq_eq_false_iff_ne.2 h4
  have hli := fun W => lawin_any W s.size (by omega) o n
  generalize insideB s.size o n = B at *
  clear h1 h2 h3 h4
  go_enter Try.func4, Try.ntmps4
  go_wp2_with fail
  refine hm.mono ?_
  rintro e w1 ⟨b, g, hb, hg, rfl, m, k⟩
  clear hm
  go_wp2_with fail
  refine (store_width _ _ o n v hn).mono ?_
  rintro e w2 ⟨rfl, rfl⟩
  go_wp2_with fail
  refine (load_width _ _ o n hn).mono ?_
  rintro e w2 ⟨rfl, rfl⟩
  go_wp2_with fail
  refine (hli _).mono ?_
  rintro e w2 ⟨rfl, rfl⟩
  clear hli
  have hat := fun W (mW : MemAt 60 5 W b g s.data.toList []) => at_yes W b g s.data.toList [] mW q (by rw [hl]; exact hq) (s[q]'hq) (byte_get s q hq _)
  go_wp2_with fail
  go_region_held3 (fun w' => MemAt 60 5 w' b g s.data.toList [] ∧ Keeps w w' (fun _ => False)) (first | exact ⟨m.drew, k.drew⟩ | exact ⟨m.drew.keeps k3 id id, (k.drew).trans k3 (fun _ _ x => x)⟩) (first | (go_at_call 15; refine (hat _ ?_).mono ?_; exact m.drew; rintro e w3 ⟨rfl, k3⟩))
  all_goals clear hat
  all_goals go_wp2
  all_goals go_ret
  all_goals refine ⟨?_, ((k.drew).trans k3 (fun _ _ x => x)).below (Nat.le_refl _) (fun _ _ => id)⟩
  all_goals first | rfl | (simp [Act.put, hw8]; done)

end memStores
end Go.Proofs.Ytlgmpnaalifegab
