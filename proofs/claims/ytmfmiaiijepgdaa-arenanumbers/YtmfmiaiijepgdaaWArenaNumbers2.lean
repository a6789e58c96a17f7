import Derived.Test.YtmfmiaiijepgdaaWArenaNumbers1
namespace Go.Proofs.Ytmfmiaiijepgdaa
open Go.RowKit Go.Shelf
namespace arenaNumbers

theorem str_get (u : UInt8) (a k v : Nat) (h : a + k ≤ 16) (S : ByteArray) (hS : strOf (row3 u a k v) = S) : ∀ i, i < 16 → ∀ (h : i < S.size), (S[i]'h).toNat = (if a ≤ i ∧ i < a + k then (lowB v (i - a)).toNat else u.toNat) := by
  intro i hi hs
  have e := row3_get u a k v h i hi
  have e2 : (row3 u a k v)[i]? = some (S[i]'hs) := by
    subst hS
    rw [List.getElem?_eq_getElem (by rw [row3_length u a k v h]; exact hi)]
    rfl
  rw [e] at e2
  have e3 := Option.some.inj e2
  rw [← e3]
  split <;> rfl

set_option maxHeartbeats 4000000 in
set_option maxRecDepth 100000 in
theorem yes1 (a v : Nat) (u : UInt8) (w : World) (ha : a + 1 ≤ 16) (hv : v < 18446744073709551616) : Calls Try.prog 6 #[.agg #[.int .i64 (a : Int), .int .i64 1, .int .u64 (v : Int), .int .u8 (u.toNat : Int)]] w fun e w' => Post w e w' := by
  have hu := u.toNat_lt
  have h0 : ¬ (a : Int) < 0 := by omega
  have h1 : ¬ (16 : Int) - 1 < (a : Int) := by omega
  obtain ⟨S, hS⟩ : ∃ S, strOf (row3 u a 1 v) = S := ⟨_, rfl⟩
  have hsz : S.size = 16 := by rw [← hS]; simp [strOf, ByteArray.size, row3_length u a 1 v ha]
  have HB := hide (str_get u a 1 v ha S hS)
  go_enter Try.func6, Try.ntmps6
  go_wp2_with (first | (go_at_call 11; refine (num_any _ _).mono ?_; rintro e w' ⟨rfl, rfl⟩) | fail)
  go_quiet (fail)
  go_wp2_with (first | (go_at_call 11; refine (num_any _ _).mono ?_; rintro e w' ⟨rfl, rfl⟩) | fail)
  refine (own_new 1024 (by omega)).mono ?_
  rintro e w1 ⟨p, rfl, hO⟩
  have K0 := hide (Keeps.drewN ((Keeps.refl w (fun _ => False)).alloc (.cells #[.int .i64 (a : Int), .int .i64 1, .int .u64 (v : Int), .int .u8 (u.toNat : Int)] 52)) nq)
  generalize (w.alloc (.cells #[.int .i64 (a : Int), .int .i64 1, .int .u64 (v : Int), .int .u8 (u.toNat : Int)] 52)).drewN nq = W0 at *
  have hal := own_alloc hO (AD.fresh_fine (by omega)) newOK (newG_fresh 1024) 16 (by omega) (by omega) (by rw [class16]; simp [AD.fresh])
  rw [class16, new_eq] at hal
  go_wp2_with (first | (go_at_call 11; refine (num_any _ _).mono ?_; rintro e w' ⟨rfl, rfl⟩) | fail)
  refine hal.mono ?_
  rintro e w2 ⟨rfl, ht⟩
  have hO2 : Own W0 w2 p (fun _ => False) d1 := hO.turn ht (fun _ e => e.elim)
  clear hal ht hO
  have hfl := own_fill hO2 d1_fine 16 16 u (fitsI_mk (by omega) (by omega)) (fitsI_mk (by omega) (by omega))
  rw [fill_eq] at hfl
  go_wp2_with (first | (go_at_call 11; refine (num_any _ _).mono ?_; rintro e w' ⟨rfl, rfl⟩) | fail)
  refine hfl.mono ?_
  rintro e w3 ⟨rfl, ht⟩
  have hO3 : Own W0 w3 p (fun _ => False) (d1.bytes (bs2 u)) := hO2.turn ht (fun _ e => e.elim)
  clear hfl ht hO2
  have hst := own_store hO3 (fine2 u) (16 + (a : Int)) 1 v (fitsI_mk (by omega) (by omega)) (fitsI_mk (by omega) (by omega))
  have hse := store_eq u a 1 v (by decide) ha
  rw [show ((1 : Nat) : Int) = 1 from rfl] at hse
  rw [hse] at hst
  clear hse
  go_wp2_with (first | (go_at_call 11; refine (num_any _ _).mono ?_; rintro e w' ⟨rfl, rfl⟩) | fail)
  refine hst.mono ?_
  rintro e w4 ⟨rfl, ht⟩
  have hO4 : Own W0 w4 p (fun _ => False) (d1.bytes (bs3 u a 1 v)) := hO3.turn ht (fun _ e => e.elim)
  clear hst ht hO3
  have hrd := own_read hO4 (fine3 u a 1 v ha) 16 16 (fitsI_mk (by omega) (by omega)) (fitsI_mk (by omega) (by omega))
  rw [read_eq, hS] at hrd
  clear hS
  go_wp2_with (first | (go_at_call 11; refine (num_any _ _).mono ?_; rintro e w' ⟨rfl, rfl⟩) | fail)
  refine hrd.mono ?_
  rintro e w5 ⟨rfl, k5⟩
  have hO5 := hO4.stay k5
  clear hrd k5 hO4
  go_wp2_with (first | (go_at_call 11; refine (num_any _ _).mono ?_; rintro e w' ⟨rfl, rfl⟩) | fail)
  go_loop [13, 14] (fun r i => ∃ j : Nat, i = .int .i64 (j : Int) ∧ r = .int .u64 ((v / 256 ^ (min (j - a) 1) : Nat) : Int) ∧ j ≤ 16) (fun _ i => 16 - (intOf i).toNat)
  case atStart => exact ⟨0, rfl, by simp, by omega⟩
  case round =>
    obtain ⟨j, rfl, rfl, hj⟩ := hrel
    by_cases hlt : j < 16
    · have hlt' : (j : Int) < 16 := by omega
      have hjs : j < S.size := by omega
      have hx := HB.out j hlt hjs
      by_cases hin : a ≤ j ∧ j < a + 1
      · have hin1 : (a : Int) ≤ (j : Int) := by omega
        have hin2 : (j : Int) < (a : Int) + 1 := by omega
        rw [if_pos hin] at hx
        obtain ⟨t, ht⟩ : ∃ t, j - a = t := ⟨_, rfl⟩
        have hmin : min (j - a) 1 = t := by omega
        have hmin2 : min (j + 1 - a) 1 = t + 1 := by omega
        rw [hmin]
        rw [ht, lowB_toNat] at hx
        go_wp2_with (first | (go_at_call 11; refine (num_any _ _).mono ?_; rintro e w' ⟨rfl, rfl⟩) | fail)
        go_round
        case rel => exact ⟨j + 1, by go_num, by rw [hmin2, Nat.pow_succ, ← Nat.div_div_eq_div_mul]; simp, by omega⟩
        case measure => simp [intOf]; omega
      · rw [if_neg hin] at hx
        have hmin : min (j + 1 - a) 1 = min (j - a) 1 := by omega
        by_cases hin1 : a ≤ j
        · have hin1' : (a : Int) ≤ (j : Int) := by omega
          have hin2 : ¬ (j : Int) < (a : Int) + 1 := by omega
          go_wp2_with (first | (go_at_call 11; refine (num_any _ _).mono ?_; rintro e w' ⟨rfl, rfl⟩) | fail)
          go_round
          case rel => exact ⟨j + 1, by go_num, by rw [hmin], by omega⟩
          case measure => simp [intOf]; omega
        · have hin1' : ¬ (a : Int) ≤ (j : Int) := by omega
          go_wp2_with (first | (go_at_call 11; refine (num_any _ _).mono ?_; rintro e w' ⟨rfl, rfl⟩) | fail)
          go_round
          case rel => exact ⟨j + 1, by go_num, by rw [hmin], by omega⟩
          case measure => simp [intOf]; omega
    · have hj16 : j = 16 := by omega
      subst hj16
      clear HB
      have hld := own_load hO5 (fine3 u a 1 v ha) (16 + (a : Int) + ((0 : Nat) : Int)) ((1 : Nat) : Int) (fitsI_mk (by omega) (by omega)) (fitsI_mk (by omega) (by omega))
      rw [load_eq u a 1 v 0 1 (by decide) ha (by omega), Nat.pow_zero, Nat.div_one] at hld
      simp only [Int.ofNat_zero, Int.add_zero] at hld
      rw [show (256 : Nat) ^ 1 = 256 from rfl] at hld
      have hand : bits .and .u64 (v : Int) 255 = ((v % 256 : Nat) : Int) := and_mask v 8 (by omega) (by omega)
      go_wp2_with (first | (go_at_call 11; refine (num_any _ _).mono ?_; rintro e w' ⟨rfl, rfl⟩) | fail)
      refine hld.mono ?_
      rintro e w6 ⟨rfl, k6⟩
      have hO6 := hO5.stay k6
      clear hld k6 hO5 hsz
      go_wp2_with (first | (go_at_call 11; refine (num_any _ _).mono ?_; rintro e w' ⟨rfl, rfl⟩) | fail)
      go_ret
      exact ⟨rfl, hO6.below K0.out⟩

set_option maxHeartbeats 4000000 in
set_option maxRecDepth 100000 in
theorem yes2 (a v : Nat) (u : UInt8) (w : World) (ha : a + 2 ≤ 16) (hv : v < 18446744073709551616) : Calls Try.prog 6 #[.agg #[.int .i64 (a : Int), .int .i64 2, .int .u64 (v : Int), .int .u8 (u.toNat : Int)]] w fun e w' => Post w e w' := by
  have hu := u.toNat_lt
  have h0 : ¬ (a : Int) < 0 := by omega
  have h1 : ¬ (16 : Int) - 2 < (a : Int) := by omega
  obtain ⟨S, hS⟩ : ∃ S, strOf (row3 u a 2 v) = S := ⟨_, rfl⟩
  have hsz : S.size = 16 := by rw [← hS]; simp [strOf, ByteArray.size, row3_length u a 2 v ha]
  have HB := hide (str_get u a 2 v ha S hS)
  go_enter Try.func6, Try.ntmps6
  go_wp2_with (first | (go_at_call 11; refine (num_any _ _).mono ?_; rintro e w' ⟨rfl, rfl⟩) | fail)
  go_quiet (fail)
  go_wp2_with (first | (go_at_call 11; refine (num_any _ _).mono ?_; rintro e w' ⟨rfl, rfl⟩) | fail)
  refine (own_new 1024 (by omega)).mono ?_
  rintro e w1 ⟨p, rfl, hO⟩
  have K0 := hide (Keeps.drewN ((Keeps.refl w (fun _ => False)).alloc (.cells #[.int .i64 (a : Int), .int .i64 2, .int .u64 (v : Int), .int .u8 (u.toNat : Int)] 52)) nq)
  generalize (w.alloc (.cells #[.int .i64 (a : Int), .int .i64 2, .int .u64 (v : Int), .int .u8 (u.toNat : Int)] 52)).drewN nq = W0 at *
  have hal := own_alloc hO (AD.fresh_fine (by omega)) newOK (newG_fresh 1024) 16 (by omega) (by omega) (by rw [class16]; simp [AD.fresh])
  rw [class16, new_eq] at hal
  go_wp2_with (first | (go_at_call 11; refine (num_any _ _).mono ?_; rintro e w' ⟨rfl, rfl⟩) | fail)
  refine hal.mono ?_
  rintro e w2 ⟨rfl, ht⟩
  have hO2 : Own W0 w2 p (fun _ => False) d1 := hO.turn ht (fun _ e => e.elim)
  clear hal ht hO
  have hfl := own_fill hO2 d1_fine 16 16 u (fitsI_mk (by omega) (by omega)) (fitsI_mk (by omega) (by omega))
  rw [fill_eq] at hfl
  go_wp2_with (first | (go_at_call 11; refine (num_any _ _).mono ?_; rintro e w' ⟨rfl, rfl⟩) | fail)
  refine hfl.mono ?_
  rintro e w3 ⟨rfl, ht⟩
  have hO3 : Own W0 w3 p (fun _ => False) (d1.bytes (bs2 u)) := hO2.turn ht (fun _ e => e.elim)
  clear hfl ht hO2
  have hst := own_store hO3 (fine2 u) (16 + (a : Int)) 2 v (fitsI_mk (by omega) (by omega)) (fitsI_mk (by omega) (by omega))
  have hse := store_eq u a 2 v (by decide) ha
  rw [show ((2 : Nat) : Int) = 2 from rfl] at hse
  rw [hse] at hst
  clear hse
  go_wp2_with (first | (go_at_call 11; refine (num_any _ _).mono ?_; rintro e w' ⟨rfl, rfl⟩) | fail)
  refine hst.mono ?_
  rintro e w4 ⟨rfl, ht⟩
  have hO4 : Own W0 w4 p (fun _ => False) (d1.bytes (bs3 u a 2 v)) := hO3.turn ht (fun _ e => e.elim)
  clear hst ht hO3
  have hrd := own_read hO4 (fine3 u a 2 v ha) 16 16 (fitsI_mk (by omega) (by omega)) (fitsI_mk (by omega) (by omega))
  rw [read_eq, hS] at hrd
  clear hS
  go_wp2_with (first | (go_at_call 11; refine (num_any _ _).mono ?_; rintro e w' ⟨rfl, rfl⟩) | fail)
  refine hrd.mono ?_
  rintro e w5 ⟨rfl, k5⟩
  have hO5 := hO4.stay k5
  clear hrd k5 hO4
  go_wp2_with (first | (go_at_call 11; refine (num_any _ _).mono ?_; rintro e w' ⟨rfl, rfl⟩) | fail)
  go_loop [13, 14] (fun r i => ∃ j : Nat, i = .int .i64 (j : Int) ∧ r = .int .u64 ((v / 256 ^ (min (j - a) 2) : Nat) : Int) ∧ j ≤ 16) (fun _ i => 16 - (intOf i).toNat)
  case atStart => exact ⟨0, rfl, by simp, by omega⟩
  case round =>
    obtain ⟨j, rfl, rfl, hj⟩ := hrel
    by_cases hlt : j < 16
    · have hlt' : (j : Int) < 16 := by omega
      have hjs : j < S.size := by omega
      have hx := HB.out j hlt hjs
      by_cases hin : a ≤ j ∧ j < a + 2
      · have hin1 : (a : Int) ≤ (j : Int) := by omega
        have hin2 : (j : Int) < (a : Int) + 2 := by omega
        rw [if_pos hin] at hx
        obtain ⟨t, ht⟩ : ∃ t, j - a = t := ⟨_, rfl⟩
        have hmin : min (j - a) 2 = t := by omega
        have hmin2 : min (j + 1 - a) 2 = t + 1 := by omega
        rw [hmin]
        rw [ht, lowB_toNat] at hx
        go_wp2_with (first | (go_at_call 11; refine (num_any _ _).mono ?_; rintro e w' ⟨rfl, rfl⟩) | fail)
        go_round
        case rel => exact ⟨j + 1, by go_num, by rw [hmin2, Nat.pow_succ, ← Nat.div_div_eq_div_mul]; simp, by omega⟩
        case measure => simp [intOf]; omega
      · rw [if_neg hin] at hx
        have hmin : min (j + 1 - a) 2 = min (j - a) 2 := by omega
        by_cases hin1 : a ≤ j
        · have hin1' : (a : Int) ≤ (j : Int) := by omega
          have hin2 : ¬ (j : Int) < (a : Int) + 2 := by omega
          go_wp2_with (first | (go_at_call 11; refine (num_any _ _).mono ?_; rintro e w' ⟨rfl, rfl⟩) | fail)
          go_round
          case rel => exact ⟨j + 1, by go_num, by rw [hmin], by omega⟩
          case measure => simp [intOf]; omega
        · have hin1' : ¬ (a : Int) ≤ (j : Int) := by omega
          go_wp2_with (first | (go_at_call 11; refine (num_any _ _).mono ?_; rintro e w' ⟨rfl, rfl⟩) | fail)
          go_round
          case rel => exact ⟨j + 1, by go_num, by rw [hmin], by omega⟩
          case measure => simp [intOf]; omega
    · have hj16 : j = 16 := by omega
      subst hj16
      clear HB
      have hld := own_load hO5 (fine3 u a 2 v ha) (16 + (a : Int) + ((0 : Nat) : Int)) ((2 : Nat) : Int) (fitsI_mk (by omega) (by omega)) (fitsI_mk (by omega) (by omega))
      rw [load_eq u a 2 v 0 2 (by decide) ha (by omega), Nat.pow_zero, Nat.div_one] at hld
      simp only [Int.ofNat_zero, Int.add_zero] at hld
      rw [show (256 : Nat) ^ 2 = 65536 from rfl] at hld
      have hand : bits .and .u64 (v : Int) 65535 = ((v % 65536 : Nat) : Int) := and_mask v 16 (by omega) (by omega)
      go_wp2_with (first | (go_at_call 11; refine (num_any _ _).mono ?_; rintro e w' ⟨rfl, rfl⟩) | fail)
      refine hld.mono ?_
      rintro e w6 ⟨rfl, k6⟩
      have hO6 := hO5.stay k6
      clear hld k6 hO5 hsz
      have hl1 := own_load hO6 (fine3 u a 2 v ha) (16 + (a : Int) + ((0 : Nat) : Int)) ((1 : Nat) : Int) (fitsI_mk (by omega) (by omega)) (fitsI_mk (by omega) (by omega))
      rw [load_eq u a 2 v 0 1 (by decide) ha (by omega), Nat.pow_zero, Nat.div_one, show (256 : Nat) ^ 1 = 256 from rfl] at hl1
      simp only [Int.ofNat_zero, Int.add_zero] at hl1
      go_wp2_with (first | (go_at_call 11; refine (num_any _ _).mono ?_; rintro e w' ⟨rfl, rfl⟩) | fail)
      refine hl1.mono ?_
      rintro e w7 ⟨rfl, k7⟩
      have hO7 := hO6.stay k7
      clear hl1 k7 hO6
      have hl2 := own_load hO7 (fine3 u a 2 v ha) (16 + (a : Int) + ((1 : Nat) : Int)) ((1 : Nat) : Int) (fitsI_mk (by omega) (by omega)) (fitsI_mk (by omega) (by omega))
      rw [load_eq u a 2 v 1 1 (by decide) ha (by omega), show (256 : Nat) ^ 1 = 256 from rfl] at hl2
      go_wp2_with (first | (go_at_call 11; refine (num_any _ _).mono ?_; rintro e w' ⟨rfl, rfl⟩) | fail)
      refine hl2.mono ?_
      rintro e w8 ⟨rfl, k8⟩
      have hO8 := hO7.stay k8
      clear hl2 k8 hO7
      have hq : ((v : Int) % 65536 == (v : Int) % 256 + (v : Int) / 256 % 256 * 256) = true := beq_iff_eq.2 (by omega)
      go_wp2_with (first | (go_at_call 11; refine (num_any _ _).mono ?_; rintro e w' ⟨rfl, rfl⟩) | fail)
      go_ret
      exact ⟨rfl, hO8.below K0.out⟩

set_option maxHeartbeats 4000000 in
set_option maxRecDepth 100000 in
theorem yes4 (a v : Nat) (u : UInt8) (w : World) (ha : a + 4 ≤ 16) (hv : v < 18446744073709551616) : Calls Try.prog 6 #[.agg #[.int .i64 (a : Int), .int .i64 4, .int .u64 (v : Int), .int .u8 (u.toNat : Int)]] w fun e w' => Post w e w' := by
  have hu := u.toNat_lt
  have h0 : ¬ (a : Int) < 0 := by omega
  have h1 : ¬ (16 : Int) - 4 < (a : Int) := by omega
  obtain ⟨S, hS⟩ : ∃ S, strOf (row3 u a 4 v) = S := ⟨_, rfl⟩
  have hsz : S.size = 16 := by rw [← hS]; simp [strOf, ByteArray.size, row3_length u a 4 v ha]
  have HB := hide (str_get u a 4 v ha S hS)
  go_enter Try.func6, Try.ntmps6
  go_wp2_with (first | (go_at_call 11; refine (num_any _ _).mono ?_; rintro e w' ⟨rfl, rfl⟩) | fail)
  go_quiet (fail)
  go_wp2_with (first | (go_at_call 11; refine (num_any _ _).mono ?_; rintro e w' ⟨rfl, rfl⟩) | fail)
  refine (own_new 1024 (by omega)).mono ?_
  rintro e w1 ⟨p, rfl, hO⟩
  have K0 := hide (Keeps.drewN ((Keeps.refl w (fun _ => False)).alloc (.cells #[.int .i64 (a : Int), .int .i64 4, .int .u64 (v : Int), .int .u8 (u.toNat : Int)] 52)) nq)
  generalize (w.alloc (.cells #[.int .i64 (a : Int), .int .i64 4, .int .u64 (v : Int), .int .u8 (u.toNat : Int)] 52)).drewN nq = W0 at *
  have hal := own_alloc hO (AD.fresh_fine (by omega)) newOK (newG_fresh 1024) 16 (by omega) (by omega) (by rw [class16]; simp [AD.fresh])
  rw [class16, new_eq] at hal
  go_wp2_with (first | (go_at_call 11; refine (num_any _ _).mono ?_; rintro e w' ⟨rfl, rfl⟩) | fail)
  refine hal.mono ?_
  rintro e w2 ⟨rfl, ht⟩
  have hO2 : Own W0 w2 p (fun _ => False) d1 := hO.turn ht (fun _ e => e.elim)
  clear hal ht hO
  have hfl := own_fill hO2 d1_fine 16 16 u (fitsI_mk (by omega) (by omega)) (fitsI_mk (by omega) (by omega))
  rw [fill_eq] at hfl
  go_wp2_with (first | (go_at_call 11; refine (num_any _ _).mono ?_; rintro e w' ⟨rfl, rfl⟩) | fail)
  refine hfl.mono ?_
  rintro e w3 ⟨rfl, ht⟩
  have hO3 : Own W0 w3 p (fun _ => False) (d1.bytes (bs2 u)) := hO2.turn ht (fun _ e => e.elim)
  clear hfl ht hO2
  have hst := own_store hO3 (fine2 u) (16 + (a : Int)) 4 v (fitsI_mk (by omega) (by omega)) (fitsI_mk (by omega) (by omega))
  have hse := store_eq u a 4 v (by decide) ha
  rw [show ((4 : Nat) : Int) = 4 from rfl] at hse
  rw [hse] at hst
  clear hse
  go_wp2_with (first | (go_at_call 11; refine (num_any _ _).mono ?_; rintro e w' ⟨rfl, rfl⟩) | fail)
  refine hst.mono ?_
  rintro e w4 ⟨rfl, ht⟩
  have hO4 : Own W0 w4 p (fun _ => False) (d1.bytes (bs3 u a 4 v)) := hO3.turn ht (fun _ e => e.elim)
  clear hst ht hO3
  have hrd := own_read hO4 (fine3 u a 4 v ha) 16 16 (fitsI_mk (by omega) (by omega)) (fitsI_mk (by omega) (by omega))
  rw [read_eq, hS] at hrd
  clear hS
  go_wp2_with (first | (go_at_call 11; refine (num_any _ _).mono ?_; rintro e w' ⟨rfl, rfl⟩) | fail)
  refine hrd.mono ?_
  rintro e w5 ⟨rfl, k5⟩
  have hO5 := hO4.stay k5
  clear hrd k5 hO4
  go_wp2_with (first | (go_at_call 11; refine (num_any _ _).mono ?_; rintro e w' ⟨rfl, rfl⟩) | fail)
  go_loop [13, 14] (fun r i => ∃ j : Nat, i = .int .i64 (j : Int) ∧ r = .int .u64 ((v / 256 ^ (min (j - a) 4) : Nat) : Int) ∧ j ≤ 16) (fun _ i => 16 - (intOf i).toNat)
  case atStart => exact ⟨0, rfl, by simp, by omega⟩
  case round =>
    obtain ⟨j, rfl, rfl, hj⟩ := hrel
    by_cases hlt : j < 16
    · have hlt' : (j : Int) < 16 := by omega
      have hjs : j < S.size := by omega
      have hx := HB.out j hlt hjs
      by_cases hin : a ≤ j ∧ j < a + 4
      · have hin1 : (a : Int) ≤ (j : Int) := by omega
        have hin2 : (j : Int) < (a : Int) + 4 := by omega
        rw [if_pos hin] at hx
        obtain ⟨t, ht⟩ : ∃ t, j - a = t := ⟨_, rfl⟩
        have hmin : min (j - a) 4 = t := by omega
        have hmin2 : min (j + 1 - a) 4 = t + 1 := by omega
        rw [hmin]
        rw [ht, lowB_toNat] at hx
        go_wp2_with (first | (go_at_call 11; refine (num_any _ _).mono ?_; rintro e w' ⟨rfl, rfl⟩) | fail)
        go_round
        case rel => exact ⟨j + 1, by go_num, by rw [hmin2, Nat.pow_succ, ← Nat.div_div_eq_div_mul]; simp, by omega⟩
        case measure => simp [intOf]; omega
      · rw [if_neg hin] at hx
        have hmin : min (j + 1 - a) 4 = min (j - a) 4 := by omega
        by_cases hin1 : a ≤ j
        · have hin1' : (a : Int) ≤ (j : Int) := by omega
          have hin2 : ¬ (j : Int) < (a : Int) + 4 := by omega
          go_wp2_with (first | (go_at_call 11; refine (num_any _ _).mono ?_; rintro e w' ⟨rfl, rfl⟩) | fail)
          go_round
          case rel => exact ⟨j + 1, by go_num, by rw [hmin], by omega⟩
          case measure => simp [intOf]; omega
        · have hin1' : ¬ (a : Int) ≤ (j : Int) := by omega
          go_wp2_with (first | (go_at_call 11; refine (num_any _ _).mono ?_; rintro e w' ⟨rfl, rfl⟩) | fail)
          go_round
          case rel => exact ⟨j + 1, by go_num, by rw [hmin], by omega⟩
          case measure => simp [intOf]; omega
    · have hj16 : j = 16 := by omega
      subst hj16
      clear HB
      have hld := own_load hO5 (fine3 u a 4 v ha) (16 + (a : Int) + ((0 : Nat) : Int)) ((4 : Nat) : Int) (fitsI_mk (by omega) (by omega)) (fitsI_mk (by omega) (by omega))
      rw [load_eq u a 4 v 0 4 (by decide) ha (by omega), Nat.pow_zero, Nat.div_one] at hld
      simp only [Int.ofNat_zero, Int.add_zero] at hld
      rw [show (256 : Nat) ^ 4 = 4294967296 from rfl] at hld
      have hand : bits .and .u64 (v : Int) 4294967295 = ((v % 4294967296 : Nat) : Int) := and_mask v 32 (by omega) (by omega)
      go_wp2_with (first | (go_at_call 11; refine (num_any _ _).mono ?_; rintro e w' ⟨rfl, rfl⟩) | fail)
      refine hld.mono ?_
      rintro e w6 ⟨rfl, k6⟩
      have hO6 := hO5.stay k6
      clear hld k6 hO5 hsz
      have hl1 := own_load hO6 (fine3 u a 4 v ha) (16 + (a : Int) + ((0 : Nat) : Int)) ((2 : Nat) : Int) (fitsI_mk (by omega) (by omega)) (fitsI_mk (by omega) (by omega))
      rw [load_eq u a 4 v 0 2 (by decide) ha (by omega), Nat.pow_zero, Nat.div_one, show (256 : Nat) ^ 2 = 65536 from rfl] at hl1
      simp only [Int.ofNat_zero, Int.add_zero] at hl1
      go_wp2_with (first | (go_at_call 11; refine (num_any _ _).mono ?_; rintro e w' ⟨rfl, rfl⟩) | fail)
      refine hl1.mono ?_
      rintro e w7 ⟨rfl, k7⟩
      have hO7 := hO6.stay k7
      clear hl1 k7 hO6
      have hl2 := own_load hO7 (fine3 u a 4 v ha) (16 + (a : Int) + ((2 : Nat) : Int)) ((2 : Nat) : Int) (fitsI_mk (by omega) (by omega)) (fitsI_mk (by omega) (by omega))
      rw [load_eq u a 4 v 2 2 (by decide) ha (by omega), show (256 : Nat) ^ 2 = 65536 from rfl] at hl2
      go_wp2_with (first | (go_at_call 11; refine (num_any _ _).mono ?_; rintro e w' ⟨rfl, rfl⟩) | fail)
      refine hl2.mono ?_
      rintro e w8 ⟨rfl, k8⟩
      have hO8 := hO7.stay k8
      clear hl2 k8 hO7
      have hq : ((v : Int) % 4294967296 == (v : Int) % 65536 + (v : Int) / 65536 % 65536 * 65536) = true := beq_iff_eq.2 (by omega)
      go_wp2_with (first | (go_at_call 11; refine (num_any _ _).mono ?_; rintro e w' ⟨rfl, rfl⟩) | fail)
      go_ret
      exact ⟨rfl, hO8.below K0.out⟩

set_option maxHeartbeats 4000000 in
set_option maxRecDepth 100000 in
theorem yes8 (a v : Nat) (u : UInt8) (w : World) (ha : a + 8 ≤ 16) (hv : v < 18446744073709551616) : Calls Try.prog 6 #[.agg #[.int .i64 (a : Int), .int .i64 8, .int .u64 (v : Int), .int .u8 (u.toNat : Int)]] w fun e w' => Post w e w' := by
  have hu := u.toNat_lt
  have h0 : ¬ (a : Int) < 0 := by omega
  have h1 : ¬ (16 : Int) - 8 < (a : Int) := by omega
  obtain ⟨S, hS⟩ : ∃ S, strOf (row3 u a 8 v) = S := ⟨_, rfl⟩
  have hsz : S.size = 16 := by rw [← hS]; simp [strOf, ByteArray.size, row3_length u a 8 v ha]
  have HB := hide (str_get u a 8 v ha S hS)
  go_enter Try.func6, Try.ntmps6
  go_wp2_with (first | (go_at_call 11; refine (num_any _ _).mono ?_; rintro e w' ⟨rfl, rfl⟩) | fail)
  go_quiet (fail)
  go_wp2_with (first | (go_at_call 11; refine (num_any _ _).mono ?_; rintro e w' ⟨rfl, rfl⟩) | fail)
  refine (own_new 1024 (by omega)).mono ?_
  rintro e w1 ⟨p, rfl, hO⟩
  have K0 := hide (Keeps.drewN ((Keeps.refl w (fun _ => False)).alloc (.cells #[.int .i64 (a : Int), .int .i64 8, .int .u64 (v : Int), .int .u8 (u.toNat : Int)] 52)) nq)
  generalize (w.alloc (.cells #[.int .i64 (a : Int), .int .i64 8, .int .u64 (v : Int), .int .u8 (u.toNat : Int)] 52)).drewN nq = W0 at *
  have hal := own_alloc hO (AD.fresh_fine (by omega)) newOK (newG_fresh 1024) 16 (by omega) (by omega) (by rw [class16]; simp [AD.fresh])
  rw [class16, new_eq] at hal
  go_wp2_with (first | (go_at_call 11; refine (num_any _ _).mono ?_; rintro e w' ⟨rfl, rfl⟩) | fail)
  refine hal.mono ?_
  rintro e w2 ⟨rfl, ht⟩
  have hO2 : Own W0 w2 p (fun _ => False) d1 := hO.turn ht (fun _ e => e.elim)
  clear hal ht hO
  have hfl := own_fill hO2 d1_fine 16 16 u (fitsI_mk (by omega) (by omega)) (fitsI_mk (by omega) (by omega))
  rw [fill_eq] at hfl
  go_wp2_with (first | (go_at_call 11; refine (num_any _ _).mono ?_; rintro e w' ⟨rfl, rfl⟩) | fail)
  refine hfl.mono ?_
  rintro e w3 ⟨rfl, ht⟩
  have hO3 : Own W0 w3 p (fun _ => False) (d1.bytes (bs2 u)) := hO2.turn ht (fun _ e => e.elim)
  clear hfl ht hO2
  have hst := own_store hO3 (fine2 u) (16 + (a : Int)) 8 v (fitsI_mk (by omega) (by omega)) (fitsI_mk (by omega) (by omega))
  have hse := store_eq u a 8 v (by decide) ha
  rw [show ((8 : Nat) : Int) = 8 from rfl] at hse
  rw [hse] at hst
  clear hse
  go_wp2_with (first | (go_at_call 11; refine (num_any _ _).mono ?_; rintro e w' ⟨rfl, rfl⟩) | fail)
  refine hst.mono ?_
  rintro e w4 ⟨rfl, ht⟩
  have hO4 : Own W0 w4 p (fun _ => False) (d1.bytes (bs3 u a 8 v)) := hO3.turn ht (fun _ e => e.elim)
  clear hst ht hO3
  have hrd := own_read hO4 (fine3 u a 8 v ha) 16 16 (fitsI_mk (by omega) (by omega)) (fitsI_mk (by omega) (by omega))
  rw [read_eq, hS] at hrd
  clear hS
  go_wp2_with (first | (go_at_call 11; refine (num_any _ _).mono ?_; rintro e w' ⟨rfl, rfl⟩) | fail)
  refine hrd.mono ?_
  rintro e w5 ⟨rfl, k5⟩
  have hO5 := hO4.stay k5
  clear hrd k5 hO4
  go_wp2_with (first | (go_at_call 11; refine (num_any _ _).mono ?_; rintro e w' ⟨rfl, rfl⟩) | fail)
  go_loop [13, 14] (fun r i => ∃ j : Nat, i = .int .i64 (j : Int) ∧ r = .int .u64 ((v / 256 ^ (min (j - a) 8) : Nat) : Int) ∧ j ≤ 16) (fun _ i => 16 - (intOf i).toNat)
  case atStart => exact ⟨0, rfl, by simp, by omega⟩
  case round =>
    obtain ⟨j, rfl, rfl, hj⟩ := hrel
    by_cases hlt : j < 16
    · have hlt' : (j : Int) < 16 := by omega
      have hjs : j < S.size := by omega
      have hx := HB.out j hlt hjs
      by_cases hin : a ≤ j ∧ j < a + 8
      · have hin1 : (a : Int) ≤ (j : Int) := by omega
        have hin2 : (j : Int) < (a : Int) + 8 := by omega
        rw [if_pos hin] at hx
        obtain ⟨t, ht⟩ : ∃ t, j - a = t := ⟨_, rfl⟩
        have hmin : min (j - a) 8 = t := by omega
        have hmin2 : min (j + 1 - a) 8 = t + 1 := by omega
        rw [hmin]
        rw [ht, lowB_toNat] at hx
        go_wp2_with (first | (go_at_call 11; refine (num_any _ _).mono ?_; rintro e w' ⟨rfl, rfl⟩) | fail)
        go_round
        case rel => exact ⟨j + 1, by go_num, by rw [hmin2, Nat.pow_succ, ← Nat.div_div_eq_div_mul]; simp, by omega⟩
        case measure => simp [intOf]; omega
      · rw [if_neg hin] at hx
        have hmin : min (j + 1 - a) 8 = min (j - a) 8 := by omega
        by_cases hin1 : a ≤ j
        · have hin1' : (a : Int) ≤ (j : Int) := by omega
          have hin2 : ¬ (j : Int) < (a : Int) + 8 := by omega
          go_wp2_with (first | (go_at_call 11; refine (num_any _ _).mono ?_; rintro e w' ⟨rfl, rfl⟩) | fail)
          go_round
          case rel => exact ⟨j + 1, by go_num, by rw [hmin], by omega⟩
          case measure => simp [intOf]; omega
        · have hin1' : ¬ (a : Int) ≤ (j : Int) := by omega
          go_wp2_with (first | (go_at_call 11; refine (num_any _ _).mono ?_; rintro e w' ⟨rfl, rfl⟩) | fail)
          go_round
          case rel => exact ⟨j + 1, by go_num, by rw [hmin], by omega⟩
          case measure => simp [intOf]; omega
    · have hj16 : j = 16 := by omega
      subst hj16
      clear HB
      have hld := own_load hO5 (fine3 u a 8 v ha) (16 + (a : Int) + ((0 : Nat) : Int)) ((8 : Nat) : Int) (fitsI_mk (by omega) (by omega)) (fitsI_mk (by omega) (by omega))
      rw [load_eq u a 8 v 0 8 (by decide) ha (by omega), Nat.pow_zero, Nat.div_one] at hld
      simp only [Int.ofNat_zero, Int.add_zero] at hld
      rw [show (256 : Nat) ^ 8 = 18446744073709551616 from rfl] at hld
      rw [Nat.mod_eq_of_lt hv] at hld
      go_wp2_with (first | (go_at_call 11; refine (num_any _ _).mono ?_; rintro e w' ⟨rfl, rfl⟩) | fail)
      refine hld.mono ?_
      rintro e w6 ⟨rfl, k6⟩
      have hO6 := hO5.stay k6
      clear hld k6 hO5 hsz
      have hl1 := own_load hO6 (fine3 u a 8 v ha) (16 + (a : Int) + ((0 : Nat) : Int)) ((4 : Nat) : Int) (fitsI_mk (by omega) (by omega)) (fitsI_mk (by omega) (by omega))
      rw [load_eq u a 8 v 0 4 (by decide) ha (by omega), Nat.pow_zero, Nat.div_one, show (256 : Nat) ^ 4 = 4294967296 from rfl] at hl1
      simp only [Int.ofNat_zero, Int.add_zero] at hl1
      go_wp2_with (first | (go_at_call 11; refine (num_any _ _).mono ?_; rintro e w' ⟨rfl, rfl⟩) | fail)
      refine hl1.mono ?_
      rintro e w7 ⟨rfl, k7⟩
      have hO7 := hO6.stay k7
      clear hl1 k7 hO6
      have hl2 := own_load hO7 (fine3 u a 8 v ha) (16 + (a : Int) + ((4 : Nat) : Int)) ((4 : Nat) : Int) (fitsI_mk (by omega) (by omega)) (fitsI_mk (by omega) (by omega))
      rw [load_eq u a 8 v 4 4 (by decide) ha (by omega), show (256 : Nat) ^ 4 = 4294967296 from rfl] at hl2
      go_wp2_with (first | (go_at_call 11; refine (num_any _ _).mono ?_; rintro e w' ⟨rfl, rfl⟩) | fail)
      refine hl2.mono ?_
      rintro e w8 ⟨rfl, k8⟩
      have hO8 := hO7.stay k8
      clear hl2 k8 hO7
      have hq : ((v : Int) == (v : Int) % 4294967296 + (v : Int) / 4294967296 % 4294967296 * 4294967296) = true := beq_iff_eq.2 (by omega)
      go_wp2_with (first | (go_at_call 11; refine (num_any _ _).mono ?_; rintro e w' ⟨rfl, rfl⟩) | fail)
      go_ret
      exact ⟨rfl, hO8.below K0.out⟩
end arenaNumbers
end Go.Proofs.Ytmfmiaiijepgdaa
