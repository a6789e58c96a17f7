import Derived.Test.YtmfmiaiijepgdaaWArenaNumbers0
namespace Go.Proofs.Ytmfmiaiijepgdaa
open Go.RowKit Go.Shelf
namespace arenaNumbers
theorem new_eq : newT (AD.fresh 1024) 16 = (16, d1) := rfl

set_option maxHeartbeats 4000000 in
set_option maxRecDepth 100000 in
theorem no_width (at0 wd v : Int) (u : UInt8) (w : World) (hbad : widthB wd = false) : Calls Try.prog 6 #[.agg #[.int .i64 at0, .int .i64 wd, .int .u64 v, .int .u8 (u.toNat : Int)]] w fun e w' => Post w e w' := by
  have hu := u.toNat_lt
  obtain ⟨h1, h2, h3, h4⟩ := widthB_false hbad
  have b1 : (wd != 1) = true := bne_iff_ne.2 h1
  have b2 : (wd != 2) = true := bne_iff_ne.2 h2
  have b3 : (wd != 4) = true := bne_iff_ne.2 h3
  have b4 : (wd != 8) = true := bne_iff_ne.2 h4
  clear h1 h2 h3 h4 hbad
  go_enter Try.func6, Try.ntmps6
  go_wp2_with (first | (go_at_call 11; refine (num_any _ _).mono ?_; rintro e w' ⟨rfl, rfl⟩) | fail)
  go_quiet (fail)
  go_wp2_with (first | (go_at_call 11; refine (num_any _ _).mono ?_; rintro e w' ⟨rfl, rfl⟩) | fail)
  refine (own_new 1024 (by omega)).mono ?_
  rintro e w1 ⟨p, rfl, hO⟩
  have K0 := hide (Keeps.drewN ((Keeps.refl w (fun _ => False)).alloc (.cells #[.int .i64 at0, .int .i64 wd, .int .u64 v, .int .u8 (u.toNat : Int)] 52)) nq)
  generalize (w.alloc (.cells #[.int .i64 at0, .int .i64 wd, .int .u64 v, .int .u8 (u.toNat : Int)] 52)).drewN nq = W0 at *
  have hal := own_alloc hO (AD.fresh_fine (by omega)) newOK (newG_fresh 1024) 16 (by omega) (by omega) (by rw [class16]; simp [AD.fresh])
  rw [class16, new_eq] at hal
  go_wp2_with (first | (go_at_call 11; refine (num_any _ _).mono ?_; rintro e w' ⟨rfl, rfl⟩) | fail)
  refine hal.mono ?_
  rintro e w2 ⟨rfl, ht⟩
  have hO2 : Own W0 w2 p (fun _ => False) d1 := hO.turn ht (fun _ e => e.elim)
  clear hal ht hO
  have hfl := own_fill hO2 d1_fine 16 16 u (fitsI_mk (by omega) (by omega)) (fitsI_mk (by omega) (by omega))
  rw [fill_eq] at hfl
  go_wp2_with (first | (go_at_call 11; refine (num_any _ _).mono ?_; rintro e w' ⟨rfl, rfl⟩) | fail)
  refine hfl.mono ?_
  rintro e w3 ⟨rfl, ht⟩
  have hO3 : Own W0 w3 p (fun _ => False) (d1.bytes (bs2 u)) := hO2.turn ht (fun _ e => e.elim)
  clear hfl ht hO2
  go_wp2_with (first | (go_at_call 11; refine (num_any _ _).mono ?_; rintro e w' ⟨rfl, rfl⟩) | fail)
  go_ret
  exact ⟨rfl, hO3.below K0.out⟩

set_option maxHeartbeats 4000000 in
set_option maxRecDepth 100000 in
theorem no_low1 (at0 v : Int) (u : UInt8) (w : World) (hbad : at0 < 0) : Calls Try.prog 6 #[.agg #[.int .i64 at0, .int .i64 1, .int .u64 v, .int .u8 (u.toNat : Int)]] w fun e w' => Post w e w' := by
  have hu := u.toNat_lt
  go_enter Try.func6, Try.ntmps6
  go_wp2_with (first | (go_at_call 11; refine (num_any _ _).mono ?_; rintro e w' ⟨rfl, rfl⟩) | fail)
  go_quiet (fail)
  go_wp2_with (first | (go_at_call 11; refine (num_any _ _).mono ?_; rintro e w' ⟨rfl, rfl⟩) | fail)
  refine (own_new 1024 (by omega)).mono ?_
  rintro e w1 ⟨p, rfl, hO⟩
  have K0 := hide (Keeps.drewN ((Keeps.refl w (fun _ => False)).alloc (.cells #[.int .i64 at0, .int .i64 1, .int .u64 v, .int .u8 (u.toNat : Int)] 52)) nq)
  generalize (w.alloc (.cells #[.int .i64 at0, .int .i64 1, .int .u64 v, .int .u8 (u.toNat : Int)] 52)).drewN nq = W0 at *
  have hal := own_alloc hO (AD.fresh_fine (by omega)) newOK (newG_fresh 1024) 16 (by omega) (by omega) (by rw [class16]; simp [AD.fresh])
  rw [class16, new_eq] at hal
  go_wp2_with (first | (go_at_call 11; refine (num_any _ _).mono ?_; rintro e w' ⟨rfl, rfl⟩) | fail)
  refine hal.mono ?_
  rintro e w2 ⟨rfl, ht⟩
  have hO2 : Own W0 w2 p (fun _ => False) d1 := hO.turn ht (fun _ e => e.elim)
  clear hal ht hO
  have hfl := own_fill hO2 d1_fine 16 16 u (fitsI_mk (by omega) (by omega)) (fitsI_mk (by omega) (by omega))
  rw [fill_eq] at hfl
  go_wp2_with (first | (go_at_call 11; refine (num_any _ _).mono ?_; rintro e w' ⟨rfl, rfl⟩) | fail)
  refine hfl.mono ?_
  rintro e w3 ⟨rfl, ht⟩
  have hO3 : Own W0 w3 p (fun _ => False) (d1.bytes (bs2 u)) := hO2.turn ht (fun _ e => e.elim)
  clear hfl ht hO2
  go_wp2_with (first | (go_at_call 11; refine (num_any _ _).mono ?_; rintro e w' ⟨rfl, rfl⟩) | fail)
  go_ret
  exact ⟨rfl, hO3.below K0.out⟩

set_option maxHeartbeats 4000000 in
set_option maxRecDepth 100000 in
theorem no_high1 (at0 v : Int) (u : UInt8) (w : World) (hbad : 15 < at0) : Calls Try.prog 6 #[.agg #[.int .i64 at0, .int .i64 1, .int .u64 v, .int .u8 (u.toNat : Int)]] w fun e w' => Post w e w' := by
  have hu := u.toNat_lt
  have h0 : ¬ at0 < 0 := by omega
  go_enter Try.func6, Try.ntmps6
  go_wp2_with (first | (go_at_call 11; refine (num_any _ _).mono ?_; rintro e w' ⟨rfl, rfl⟩) | fail)
  go_quiet (fail)
  go_wp2_with (first | (go_at_call 11; refine (num_any _ _).mono ?_; rintro e w' ⟨rfl, rfl⟩) | fail)
  refine (own_new 1024 (by omega)).mono ?_
  rintro e w1 ⟨p, rfl, hO⟩
  have K0 := hide (Keeps.drewN ((Keeps.refl w (fun _ => False)).alloc (.cells #[.int .i64 at0, .int .i64 1, .int .u64 v, .int .u8 (u.toNat : Int)] 52)) nq)
  generalize (w.alloc (.cells #[.int .i64 at0, .int .i64 1, .int .u64 v, .int .u8 (u.toNat : Int)] 52)).drewN nq = W0 at *
  have hal := own_alloc hO (AD.fresh_fine (by omega)) newOK (newG_fresh 1024) 16 (by omega) (by omega) (by rw [class16]; simp [AD.fresh])
  rw [class16, new_eq] at hal
  go_wp2_with (first | (go_at_call 11; refine (num_any _ _).mono ?_; rintro e w' ⟨rfl, rfl⟩) | fail)
  refine hal.mono ?_
  rintro e w2 ⟨rfl, ht⟩
  have hO2 : Own W0 w2 p (fun _ => False) d1 := hO.turn ht (fun _ e => e.elim)
  clear hal ht hO
  have hfl := own_fill hO2 d1_fine 16 16 u (fitsI_mk (by omega) (by omega)) (fitsI_mk (by omega) (by omega))
  rw [fill_eq] at hfl
  go_wp2_with (first | (go_at_call 11; refine (num_any _ _).mono ?_; rintro e w' ⟨rfl, rfl⟩) | fail)
  refine hfl.mono ?_
  rintro e w3 ⟨rfl, ht⟩
  have hO3 : Own W0 w3 p (fun _ => False) (d1.bytes (bs2 u)) := hO2.turn ht (fun _ e => e.elim)
  clear hfl ht hO2
  go_wp2_with (first | (go_at_call 11; refine (num_any _ _).mono ?_; rintro e w' ⟨rfl, rfl⟩) | fail)
  go_ret
  exact ⟨rfl, hO3.below K0.out⟩

set_option maxHeartbeats 4000000 in
set_option maxRecDepth 100000 in
theorem no_low2 (at0 v : Int) (u : UInt8) (w : World) (hbad : at0 < 0) : Calls Try.prog 6 #[.agg #[.int .i64 at0, .int .i64 2, .int .u64 v, .int .u8 (u.toNat : Int)]] w fun e w' => Post w e w' := by
  have hu := u.toNat_lt
  go_enter Try.func6, Try.ntmps6
  go_wp2_with (first | (go_at_call 11; refine (num_any _ _).mono ?_; rintro e w' ⟨rfl, rfl⟩) | fail)
  go_quiet (fail)
  go_wp2_with (first | (go_at_call 11; refine (num_any _ _).mono ?_; rintro e w' ⟨rfl, rfl⟩) | fail)
  refine (own_new 1024 (by omega)).mono ?_
  rintro e w1 ⟨p, rfl, hO⟩
  have K0 := hide (Keeps.drewN ((Keeps.refl w (fun _ => False)).alloc (.cells #[.int .i64 at0, .int .i64 2, .int .u64 v, .int .u8 (u.toNat : Int)] 52)) nq)
  generalize (w.alloc (.cells #[.int .i64 at0, .int .i64 2, .int .u64 v, .int .u8 (u.toNat : Int)] 52)).drewN nq = W0 at *
  have hal := own_alloc hO (AD.fresh_fine (by omega)) newOK (newG_fresh 1024) 16 (by omega) (by omega) (by rw [class16]; simp [AD.fresh])
  rw [class16, new_eq] at hal
  go_wp2_with (first | (go_at_call 11; refine (num_any _ _).mono ?_; rintro e w' ⟨rfl, rfl⟩) | fail)
  refine hal.mono ?_
  rintro e w2 ⟨rfl, ht⟩
  have hO2 : Own W0 w2 p (fun _ => False) d1 := hO.turn ht (fun _ e => e.elim)
  clear hal ht hO
  have hfl := own_fill hO2 d1_fine 16 16 u (fitsI_mk (by omega) (by omega)) (fitsI_mk (by omega) (by omega))
  rw [fill_eq] at hfl
  go_wp2_with (first | (go_at_call 11; refine (num_any _ _).mono ?_; rintro e w' ⟨rfl, rfl⟩) | fail)
  refine hfl.mono ?_
  rintro e w3 ⟨rfl, ht⟩
  have hO3 : Own W0 w3 p (fun _ => False) (d1.bytes (bs2 u)) := hO2.turn ht (fun _ e => e.elim)
  clear hfl ht hO2
  go_wp2_with (first | (go_at_call 11; refine (num_any _ _).mono ?_; rintro e w' ⟨rfl, rfl⟩) | fail)
  go_ret
  exact ⟨rfl, hO3.below K0.out⟩

set_option maxHeartbeats 4000000 in
set_option maxRecDepth 100000 in
theorem no_high2 (at0 v : Int) (u : UInt8) (w : World) (hbad : 14 < at0) : Calls Try.prog 6 #[.agg #[.int .i64 at0, .int .i64 2, .int .u64 v, .int .u8 (u.toNat : Int)]] w fun e w' => Post w e w' := by
  have hu := u.toNat_lt
  have h0 : ¬ at0 < 0 := by omega
  go_enter Try.func6, Try.ntmps6
  go_wp2_with (first | (go_at_call 11; refine (num_any _ _).mono ?_; rintro e w' ⟨rfl, rfl⟩) | fail)
  go_quiet (fail)
  go_wp2_with (first | (go_at_call 11; refine (num_any _ _).mono ?_; rintro e w' ⟨rfl, rfl⟩) | fail)
  refine (own_new 1024 (by omega)).mono ?_
  rintro e w1 ⟨p, rfl, hO⟩
  have K0 := hide (Keeps.drewN ((Keeps.refl w (fun _ => False)).alloc (.cells #[.int .i64 at0, .int .i64 2, .int .u64 v, .int .u8 (u.toNat : Int)] 52)) nq)
  generalize (w.alloc (.cells #[.int .i64 at0, .int .i64 2, .int .u64 v, .int .u8 (u.toNat : Int)] 52)).drewN nq = W0 at *
  have hal := own_alloc hO (AD.fresh_fine (by omega)) newOK (newG_fresh 1024) 16 (by omega) (by omega) (by rw [class16]; simp [AD.fresh])
  rw [class16, new_eq] at hal
  go_wp2_with (first | (go_at_call 11; refine (num_any _ _).mono ?_; rintro e w' ⟨rfl, rfl⟩) | fail)
  refine hal.mono ?_
  rintro e w2 ⟨rfl, ht⟩
  have hO2 : Own W0 w2 p (fun _ => False) d1 := hO.turn ht (fun _ e => e.elim)
  clear hal ht hO
  have hfl := own_fill hO2 d1_fine 16 16 u (fitsI_mk (by omega) (by omega)) (fitsI_mk (by omega) (by omega))
  rw [fill_eq] at hfl
  go_wp2_with (first | (go_at_call 11; refine (num_any _ _).mono ?_; rintro e w' ⟨rfl, rfl⟩) | fail)
  refine hfl.mono ?_
  rintro e w3 ⟨rfl, ht⟩
  have hO3 : Own W0 w3 p (fun _ => False) (d1.bytes (bs2 u)) := hO2.turn ht (fun _ e => e.elim)
  clear hfl ht hO2
  go_wp2_with (first | (go_at_call 11; refine (num_any _ _).mono ?_; rintro e w' ⟨rfl, rfl⟩) | fail)
  go_ret
  exact ⟨rfl, hO3.below K0.out⟩

set_option maxHeartbeats 4000000 in
set_option maxRecDepth 100000 in
theorem no_low4 (at0 v : Int) (u : UInt8) (w : World) (hbad : at0 < 0) : Calls Try.prog 6 #[.agg #[.int .i64 at0, .int .i64 4, .int .u64 v, .int .u8 (u.toNat : Int)]] w fun e w' => Post w e w' := by
  have hu := u.toNat_lt
  go_enter Try.func6, Try.ntmps6
  go_wp2_with (first | (go_at_call 11; refine (num_any _ _).mono ?_; rintro e w' ⟨rfl, rfl⟩) | fail)
  go_quiet (fail)
  go_wp2_with (first | (go_at_call 11; refine (num_any _ _).mono ?_; rintro e w' ⟨rfl, rfl⟩) | fail)
  refine (own_new 1024 (by omega)).mono ?_
  rintro e w1 ⟨p, rfl, hO⟩
  have K0 := hide (Keeps.drewN ((Keeps.refl w (fun _ => False)).alloc (.cells #[.int .i64 at0, .int .i64 4, .int .u64 v, .int .u8 (u.toNat : Int)] 52)) nq)
  generalize (w.alloc (.cells #[.int .i64 at0, .int .i64 4, .int .u64 v, .int .u8 (u.toNat : Int)] 52)).drewN nq = W0 at *
  have hal := own_alloc hO (AD.fresh_fine (by omega)) newOK (newG_fresh 1024) 16 (by omega) (by omega) (by rw [class16]; simp [AD.fresh])
  rw [class16, new_eq] at hal
  go_wp2_with (first | (go_at_call 11; refine (num_any _ _).mono ?_; rintro e w' ⟨rfl, rfl⟩) | fail)
  refine hal.mono ?_
  rintro e w2 ⟨rfl, ht⟩
  have hO2 : Own W0 w2 p (fun _ => False) d1 := hO.turn ht (fun _ e => e.elim)
  clear hal ht hO
  have hfl := own_fill hO2 d1_fine 16 16 u (fitsI_mk (by omega) (by omega)) (fitsI_mk (by omega) (by omega))
  rw [fill_eq] at hfl
  go_wp2_with (first | (go_at_call 11; refine (num_any _ _).mono ?_; rintro e w' ⟨rfl, rfl⟩) | fail)
  refine hfl.mono ?_
  rintro e w3 ⟨rfl, ht⟩
  have hO3 : Own W0 w3 p (fun _ => False) (d1.bytes (bs2 u)) := hO2.turn ht (fun _ e => e.elim)
  clear hfl ht hO2
  go_wp2_with (first | (go_at_call 11; refine (num_any _ _).mono ?_; rintro e w' ⟨rfl, rfl⟩) | fail)
  go_ret
  exact ⟨rfl, hO3.below K0.out⟩

set_option maxHeartbeats 4000000 in
set_option maxRecDepth 100000 in
theorem no_high4 (at0 v : Int) (u : UInt8) (w : World) (hbad : 12 < at0) : Calls Try.prog 6 #[.agg #[.int .i64 at0, .int .i64 4, .int .u64 v, .int .u8 (u.toNat : Int)]] w fun e w' => Post w e w' := by
  have hu := u.toNat_lt
  have h0 : ¬ at0 < 0 := by omega
  go_enter Try.func6, Try.ntmps6
  go_wp2_with (first | (go_at_call 11; refine (num_any _ _).mono ?_; rintro e w' ⟨rfl, rfl⟩) | fail)
  go_quiet (fail)
  go_wp2_with (first | (go_at_call 11; refine (num_any _ _).mono ?_; rintro e w' ⟨rfl, rfl⟩) | fail)
  refine (own_new 1024 (by omega)).mono ?_
  rintro e w1 ⟨p, rfl, hO⟩
  have K0 := hide (Keeps.drewN ((Keeps.refl w (fun _ => False)).alloc (.cells #[.int .i64 at0, .int .i64 4, .int .u64 v, .int .u8 (u.toNat : Int)] 52)) nq)
  generalize (w.alloc (.cells #[.int .i64 at0, .int .i64 4, .int .u64 v, .int .u8 (u.toNat : Int)] 52)).drewN nq = W0 at *
  have hal := own_alloc hO (AD.fresh_fine (by omega)) newOK (newG_fresh 1024) 16 (by omega) (by omega) (by rw [class16]; simp [AD.fresh])
  rw [class16, new_eq] at hal
  go_wp2_with (first | (go_at_call 11; refine (num_any _ _).mono ?_; rintro e w' ⟨rfl, rfl⟩) | fail)
  refine hal.mono ?_
  rintro e w2 ⟨rfl, ht⟩
  have hO2 : Own W0 w2 p (fun _ => False) d1 := hO.turn ht (fun _ e => e.elim)
  clear hal ht hO
  have hfl := own_fill hO2 d1_fine 16 16 u (fitsI_mk (by omega) (by omega)) (fitsI_mk (by omega) (by omega))
  rw [fill_eq] at hfl
  go_wp2_with (first | (go_at_call 11; refine (num_any _ _).mono ?_; rintro e w' ⟨rfl, rfl⟩) | fail)
  refine hfl.mono ?_
  rintro e w3 ⟨rfl, ht⟩
  have hO3 : Own W0 w3 p (fun _ => False) (d1.bytes (bs2 u)) := hO2.turn ht (fun _ e => e.elim)
  clear hfl ht hO2
  go_wp2_with (first | (go_at_call 11; refine (num_any _ _).mono ?_; rintro e w' ⟨rfl, rfl⟩) | fail)
  go_ret
  exact ⟨rfl, hO3.below K0.out⟩

set_option maxHeartbeats 4000000 in
set_option maxRecDepth 100000 in
theorem no_low8 (at0 v : Int) (u : UInt8) (w : World) (hbad : at0 < 0) : Calls Try.prog 6 #[.agg #[.int .i64 at0, .int .i64 8, .int .u64 v, .int .u8 (u.toNat : Int)]] w fun e w' => Post w e w' := by
  have hu := u.toNat_lt
  go_enter Try.func6, Try.ntmps6
  go_wp2_with (first | (go_at_call 11; refine (num_any _ _).mono ?_; rintro e w' ⟨rfl, rfl⟩) | fail)
  go_quiet (fail)
  go_wp2_with (first | (go_at_call 11; refine (num_any _ _).mono ?_; rintro e w' ⟨rfl, rfl⟩) | fail)
  refine (own_new 1024 (by omega)).mono ?_
  rintro e w1 ⟨p, rfl, hO⟩
  have K0 := hide (Keeps.drewN ((Keeps.refl w (fun _ => False)).alloc (.cells #[.int .i64 at0, .int .i64 8, .int .u64 v, .int .u8 (u.toNat : Int)] 52)) nq)
  generalize (w.alloc (.cells #[.int .i64 at0, .int .i64 8, .int .u64 v, .int .u8 (u.toNat : Int)] 52)).drewN nq = W0 at *
  have hal := own_alloc hO (AD.fresh_fine (by omega)) newOK (newG_fresh 1024) 16 (by omega) (by omega) (by rw [class16]; simp [AD.fresh])
  rw [class16, new_eq] at hal
  go_wp2_with (first | (go_at_call 11; refine (num_any _ _).mono ?_; rintro e w' ⟨rfl, rfl⟩) | fail)
  refine hal.mono ?_
  rintro e w2 ⟨rfl, ht⟩
  have hO2 : Own W0 w2 p (fun _ => False) d1 := hO.turn ht (fun _ e => e.elim)
  clear hal ht hO
  have hfl := own_fill hO2 d1_fine 16 16 u (fitsI_mk (by omega) (by omega)) (fitsI_mk (by omega) (by omega))
  rw [fill_eq] at hfl
  go_wp2_with (first | (go_at_call 11; refine (num_any _ _).mono ?_; rintro e w' ⟨rfl, rfl⟩) | fail)
  refine hfl.mono ?_
  rintro e w3 ⟨rfl, ht⟩
  have hO3 : Own W0 w3 p (fun _ => False) (d1.bytes (bs2 u)) := hO2.turn ht (fun _ e => e.elim)
  clear hfl ht hO2
  go_wp2_with (first | (go_at_call 11; refine (num_any _ _).mono ?_; rintro e w' ⟨rfl, rfl⟩) | fail)
  go_ret
  exact ⟨rfl, hO3.below K0.out⟩

set_option maxHeartbeats 4000000 in
set_option maxRecDepth 100000 in
theorem no_high8 (at0 v : Int) (u : UInt8) (w : World) (hbad : 8 < at0) : Calls Try.prog 6 #[.agg #[.int .i64 at0, .int .i64 8, .int .u64 v, .int .u8 (u.toNat : Int)]] w fun e w' => Post w e w' := by
  have hu := u.toNat_lt
  have h0 : ¬ at0 < 0 := by omega
  go_enter Try.func6, Try.ntmps6
  go_wp2_with (first | (go_at_call 11; refine (num_any _ _).mono ?_; rintro e w' ⟨rfl, rfl⟩) | fail)
  go_quiet (fail)
  go_wp2_with (first | (go_at_call 11; refine (num_any _ _).mono ?_; rintro e w' ⟨rfl, rfl⟩) | fail)
  refine (own_new 1024 (by omega)).mono ?_
  rintro e w1 ⟨p, rfl, hO⟩
  have K0 := hide (Keeps.drewN ((Keeps.refl w (fun _ => False)).alloc (.cells #[.int .i64 at0, .int .i64 8, .int .u64 v, .int .u8 (u.toNat : Int)] 52)) nq)
  generalize (w.alloc (.cells #[.int .i64 at0, .int .i64 8, .int .u64 v, .int .u8 (u.toNat : Int)] 52)).drewN nq = W0 at *
  have hal := own_alloc hO (AD.fresh_fine (by omega)) newOK (newG_fresh 1024) 16 (by omega) (by omega) (by rw [class16]; simp [AD.fresh])
  rw [class16, new_eq] at hal
  go_wp2_with (first | (go_at_call 11; refine (num_any _ _).mono ?_; rintro e w' ⟨rfl, rfl⟩) | fail)
  refine hal.mono ?_
  rintro e w2 ⟨rfl, ht⟩
  have hO2 : Own W0 w2 p (fun _ => False) d1 := hO.turn ht (fun _ e => e.elim)
  clear hal ht hO
  have hfl := own_fill hO2 d1_fine 16 16 u (fitsI_mk (by omega) (by omega)) (fitsI_mk (by omega) (by omega))
  rw [fill_eq] at hfl
  go_wp2_with (first | (go_at_call 11; refine (num_any _ _).mono ?_; rintro e w' ⟨rfl, rfl⟩) | fail)
  refine hfl.mono ?_
  rintro e w3 ⟨rfl, ht⟩
  have hO3 : Own W0 w3 p (fun _ => False) (d1.bytes (bs2 u)) := hO2.turn ht (fun _ e => e.elim)
  clear hfl ht hO2
  go_wp2_with (first | (go_at_call 11; refine (num_any _ _).mono ?_; rintro e w' ⟨rfl, rfl⟩) | fail)
  go_ret
  exact ⟨rfl, hO3.below K0.out⟩
end arenaNumbers
end Go.Proofs.Ytmfmiaiijepgdaa
