import Derived.Test.YtmfmiaiijepgdaaWArenaMoves2
namespace Go.Proofs.Ytmfmiaiijepgdaa
open Go.RowKit Go.Shelf
namespace arenaMoves

set_option maxHeartbeats 4000000 in
set_option maxRecDepth 100000 in
theorem yes (s : ByteArray) (x y k : Nat) (u : UInt8) (w : World) (h1 : 1 ≤ s.size) (h2 : s.size ≤ 4096) (hx : x + k ≤ s.size) (hy : y + k ≤ s.size) :
    Calls Try.prog 5 #[.agg #[.string s, .int .i64 (x : Int), .int .i64 (y : Int), .int .i64 (k : Int), .int .u8 (u.toNat : Int)]] w fun e w' => Post w e w' := by
  have hu := u.toNat_lt
  have g1 : ¬ (s.size : Int) < 1 := by omega
  have g2 : ¬ (4096 : Int) < (s.size : Int) := by omega
  obtain ⟨C, hC⟩ : ∃ C, classN s.size = C := ⟨_, rfl⟩
  have hcl := class_le s.size h1 (by omega)
  have htk := take_eq s.size h1 h2
  have hft := fits_eq s.size h1 h2
  rw [hC] at hcl htk
  clear hC
  obtain ⟨T, hTe⟩ : ∃ T, s.data.toList = T := ⟨_, rfl⟩
  have hTl : T.length = s.size := by rw [← hTe]; simp
  have hC0 : 0 < C := by omega
  have hCm : C ≤ 1048576 := hcl.2.2.1
  have hTC : T.length ≤ C := by omega
  have hwe := write_eq hC0 hCm [s.extract 0 (s.size / 2), ByteArray.empty, s.extract (s.size / 2) s.size] T (by rw [joined_three, hTe]) hTC
  clear hcl
  have hb1 : (0 : Int) ≤ (s.size : Int) / 2 := by omega
  have hb2 : (s.size : Int) / 2 ≤ (s.size : Int) := by omega
  have q1 : ¬ (x : Int) < 0 := by omega
  have q2 : ¬ (y : Int) < 0 := by omega
  have q3 : ¬ (k : Int) < 0 := by omega
  have q4 : ¬ (s.size : Int) - (k : Int) < (x : Int) := by omega
  have q5 : ¬ (s.size : Int) - (k : Int) < (y : Int) := by omega
  go_enter Try.func5, Try.ntmps5
  go_wp2_with (first | (go_at_call 11; refine (num_any _ _).mono ?_; rintro e w' ⟨rfl, rfl⟩) | fail)
  go_quiet (fail)
  go_wp2_with (first | (go_at_call 11; refine (num_any _ _).mono ?_; rintro e w' ⟨rfl, rfl⟩) | fail)
  refine (own_new 2097152 (by omega)).mono ?_
  rintro e w1 ⟨p, rfl, hO⟩
  have K0 := hide (Keeps.drewN ((Keeps.refl w (fun _ => False)).alloc (.cells #[.string s, .int .i64 (x : Int), .int .i64 (y : Int), .int .i64 (k : Int), .int .u8 (u.toNat : Int)] 39)) nq)
  generalize (w.alloc (.cells #[.string s, .int .i64 (x : Int), .int .i64 (y : Int), .int .i64 (k : Int), .int .u8 (u.toNat : Int)] 39)).drewN nq = W0 at *
  have hal := own_allocAll newOK hO (newG_fresh 2097152) (AD.fresh_fine (by omega)) [16, (s.size : Int), 16] #[.int .i64 16, .int .i64 (s.size : Int), .int .i64 16] rfl (by simp) (fun z hz => by simp at hz; omega) hft 3 rfl
  rw [htk] at hal
  clear htk hft hO
  go_wp2_with (first | (go_at_call 11; refine (num_any _ _).mono ?_; rintro e w' ⟨rfl, rfl⟩) | fail)
  refine hal.mono ?_
  rintro e w2 ⟨hh, rfl, hO2⟩
  clear hal
  have c1 : w2.cell? ⟨hh, 1, none⟩ = some (.int .i64 32) := by simp [World.cell?, hO2.row, cellI]
  have hz1 : (s.extract 0 (s.size / 2)).size ≤ 4096 := by rw [ByteArray.size_extract]; omega
  have hz2 : (s.extract (s.size / 2) s.size).size ≤ 4096 := by rw [ByteArray.size_extract]; omega
  have hwr := own_write3 hO2 (d3_fine hC0 hCm) (d3_small hCm (d3 C).bs) 32 (fitsI_mk (by omega) (by omega)) (s.extract 0 (s.size / 2)) ByteArray.empty (s.extract (s.size / 2) s.size) hz1 (by simp) hz2
  rw [hwe] at hwr
  clear hwe hz1 hz2
  go_wp2_with (first | (go_at_call 11; refine (num_any _ _).mono ?_; rintro e w' ⟨rfl, rfl⟩) | fail)
  go_region_held (fun _ => True) (trivial) (first
    | (go_at_call 18; refine (hwr _ _ ?_ ?_).mono ?_; (first | exact ((Keeps.refl _ _).drew).alloc _ | exact ((Keeps.refl _ _).alloc _).drew); (first | exact heap_alloc_new _ _ | (simp; done)); rintro e w3 ⟨rfl, hO3⟩)
    | (go_at_call 11; refine (num_any _ _).mono ?_; rintro e w' ⟨rfl, rfl⟩))
  clear hwr c1 hO2
  have heq := own_equal hO3.own (dT_fine hC0 hCm hTC) (32 + (x : Int)) (32 + (y : Int)) (k : Int) (fitsI_mk (by omega) (by omega)) (fitsI_mk (by omega) (by omega)) (fitsI_mk (by omega) (by omega))
  rw [equal_eq hC0 hTC x y k (by omega) (by omega), ← hTe, extract_eq, extract_eq] at heq
  have cut1 := fun W => run_cut W s x k hx
  have cut2 := fun W => run_cut W s y k hy
  obtain ⟨A, hAe⟩ : ∃ A, s.extract x (x + k) = A := ⟨_, rfl⟩
  obtain ⟨B, hBe⟩ : ∃ B, s.extract y (y + k) = B := ⟨_, rfl⟩
  rw [hAe, hBe] at heq
  rw [hAe] at cut1
  rw [hBe] at cut2
  unfold eqS at heq
  go_wp2_with (first | (go_at_call 11; refine (num_any _ _).mono ?_; rintro e w' ⟨rfl, rfl⟩) | fail)
  refine heq.mono ?_
  rintro e w4 ⟨rfl, k4⟩
  have hO4 := hO3.stay k4
  clear heq k4 hO3
  have hcp := fun W (kW : Keeps w4 W (fun _ => False)) => own_copy (hO4.stay kW).own (dT_fine hC0 hCm hTC) (32 + (x : Int)) (32 + (y : Int)) (k : Int) (fitsI_mk (by omega) (by omega)) (fitsI_mk (by omega) (by omega)) (fitsI_mk (by omega) (by omega))
  rw [copy_eq hC0 hTC x y k (by omega) (by omega)] at hcp
  have hW1 : IntKind.i64.wrap ((x : Int) + (k : Int)) = (x : Int) + (k : Int) := by rw [IntKind.wrap_i64]; omega
  have hW2 : IntKind.i64.wrap ((y : Int) + (k : Int)) = (y : Int) + (k : Int) := by rw [IntKind.wrap_i64]; omega
  have hW3 : IntKind.i64.wrap (32 + (x : Int)) = 32 + (x : Int) := by rw [IntKind.wrap_i64]; omega
  have hW4 : IntKind.i64.wrap (32 + (y : Int)) = 32 + (y : Int) := by rw [IntKind.wrap_i64]; omega
  have b3 : (0 : Int) ≤ (x : Int) := by omega
  have b4 : (x : Int) ≤ (x : Int) + (k : Int) := by omega
  have b5 : (x : Int) + (k : Int) ≤ (s.size : Int) := by omega
  have b6 : (0 : Int) ≤ (y : Int) := by omega
  have b7 : (y : Int) ≤ (y : Int) + (k : Int) := by omega
  have b8 : (y : Int) + (k : Int) ≤ (s.size : Int) := by omega
  have hne : ((A.toList == B.toList) != (A.toList == B.toList)) = false := by simp
  go_wp2_with (first | (go_at_call 11; refine (num_any _ _).mono ?_; rintro e w' ⟨rfl, rfl⟩) | fail)
  go_region_held (fun _ => True) (trivial) (first
    | (go_at_call 11; refine (num_any _ _).mono ?_; rintro e w' ⟨rfl, rfl⟩)
    | (go_at_call 20; refine (hcp _ ?_).mono ?_; exact (Keeps.refl _ _).drew; rintro e w5 ⟨rfl, ht⟩; have hO5 := (hO4.stay (Keeps.refl w4 (fun _ => False)).drew).turn ht))
  go_wp2_with (first | (go_at_call 11; refine (num_any _ _).mono ?_; rintro e w' ⟨rfl, rfl⟩) | fail)
  clear hcp hne hO4
  have hM : (splice T x ((T.drop y).take k)).length = T.length := splice_length (by simp; omega)
  have hMC : (splice T x ((T.drop y).take k)).length ≤ C := by omega
  have hBs : B.size = k := by rw [← hBe, ByteArray.size_extract]; omega
  have hBd : (T.drop y).take k = B.data.toList := by rw [← hBe, ← hTe, extract_list, Nat.add_sub_cancel_left]
  have hMV := strOf_splice s B x k ((T.drop y).take k) T hTe hBd hBs hx
  have b9 : (x : Int) ≤ (s.size : Int) := by omega
  go_quiet (fail)
  generalize hV : s.extract 0 x ++ B ++ s.extract (x + k) s.size = V at *
  have hVd : V.data.toList = splice T x ((T.drop y).take k) := by rw [← hMV, data_strOf]
  have hVs : V.size = s.size := by
    have : V.data.toList.length = V.size := by simp
    rw [← this, hVd, hM, hTl]
  have hrd := fun W (kW : Keeps _ W (fun _ => False)) => own_read (hO5.stay kW).own (dT_fine hC0 hCm hMC) 32 (s.size : Int) (fitsI_mk (by omega) (by omega)) (fitsI_mk (by omega) (by omega))
  rw [read_eq hC0 hMC s.size (by omega), hMV] at hrd
  go_wp2_with (first | (go_at_call 11; refine (num_any _ _).mono ?_; rintro e w' ⟨rfl, rfl⟩) | fail)
  refine (hrd _ ?_).mono ?_
  · exact (Keeps.refl _ _).drewN _
  rintro e w6 ⟨rfl, k6⟩
  have hO6 := (hO5.stay ((Keeps.refl _ (fun _ => False)).drewN _)).stay k6
  clear hrd k6 hO5
  have hfl := fun W (kW : Keeps _ W (fun _ => False)) => own_fill (hO6.stay kW).own (dT_fine hC0 hCm hMC) (32 + (y : Int)) (k : Int) u (fitsI_mk (by omega) (by omega)) (fitsI_mk (by omega) (by omega))
  rw [fill_eq hC0 hMC y k u (by omega)] at hfl
  go_wp2_with (first | (go_at_call 11; refine (num_any _ _).mono ?_; rintro e w' ⟨rfl, rfl⟩) | fail)
  refine (hfl _ (Keeps.refl _ _)).mono ?_
  rintro e w7 ⟨rfl, ht⟩
  have hO7 := (hO6.stay (Keeps.refl _ (fun _ => False))).turn ht
  clear hfl ht hO6
  have hR : (strOf (same k u)).size = k := by simp [strOf, ByteArray.size, same_length]
  have hM2 : (splice (splice T x ((T.drop y).take k)) y (same k u)).length = T.length := by rw [splice_length (by rw [same_length]; omega), hM]
  have hM2C : (splice (splice T x ((T.drop y).take k)) y (same k u)).length ≤ C := by omega
  have hMV2 := strOf_splice V (strOf (same k u)) y k (same k u) (splice T x ((T.drop y).take k)) hVd (by rw [data_strOf]) hR (by omega)
  have hrd := own_read hO7.own (dT_fine hC0 hCm hM2C) 32 (s.size : Int) (fitsI_mk (by omega) (by omega)) (fitsI_mk (by omega) (by omega))
  rw [read_eq hC0 hM2C s.size (by omega), hMV2] at hrd
  go_wp2_with (first | (go_at_call 11; refine (num_any _ _).mono ?_; rintro e w' ⟨rfl, rfl⟩) | fail)
  refine hrd.mono ?_
  rintro e w8 ⟨rfl, k8⟩
  have hO8 := hO7.stay k8
  clear hrd k8 hO7
  have c0 : w8.cell? ⟨hh, 0, none⟩ = some (.int .i64 16) := by simp [World.cell?, hO8.row, cellI]
  have hr0 := own_read hO8.own (dT_fine hC0 hCm hM2C) 16 16 (fitsI_mk (by omega) (by omega)) (fitsI_mk (by omega) (by omega))
  rw [read_first hC0 hM2C] at hr0
  go_wp2_with (first | (go_at_call 11; refine (num_any _ _).mono ?_; rintro e w' ⟨rfl, rfl⟩) | fail)
  refine hr0.mono ?_
  rintro e w9 ⟨rfl, k9⟩
  have hO9 := hO8.stay k9
  clear hr0 k9 hO8 c0
  have c2 : w9.cell? ⟨hh, 2, none⟩ = some (.int .i64 ((32 + C : Nat) : Int)) := by simp [World.cell?, hO9.row, cellI]
  have hr2 := own_read hO9.own (dT_fine hC0 hCm hM2C) ((32 + C : Nat) : Int) 16 (fitsI_mk (by omega) (by omega)) (fitsI_mk (by omega) (by omega))
  rw [read_last hC0 hM2C] at hr2
  go_wp2_with (first | (go_at_call 11; refine (num_any _ _).mono ?_; rintro e w' ⟨rfl, rfl⟩) | fail)
  refine hr2.mono ?_
  rintro e w10 ⟨rfl, k10⟩
  have hO10 := hO9.stay k10
  clear hr2 k10 hO9 c2
  have hrep : ∀ W, Calls Try.prog 23 #[.int .u8 0, .int .i64 16] W fun e w' => e = .returned (.string (strOf (zeros 16))) ∧ Keeps W w' (fun _ => False) := fun W => repeat_any 0 16 W (by omega)
  have hrepu : ∀ W, Calls Try.prog 23 #[.int .u8 (u.toNat : Int), .int .i64 (k : Int)] W fun e w' => e = .returned (.string (strOf (same k u))) ∧ Keeps W w' (fun _ => False) := fun W => repeat_any u k W (by omega)
  generalize strOf (zeros 16) = Z at *
  generalize strOf (same k u) = R at *
  go_wp2_with (first | (go_at_call 11; refine (num_any _ _).mono ?_; rintro e w' ⟨rfl, rfl⟩) | fail)
  refine (hrep _).mono ?_
  rintro e w11 ⟨rfl, k11⟩
  have hO11 := hO10.stay k11
  clear k11 hO10
  go_wp2_with (first | (go_at_call 11; refine (num_any _ _).mono ?_; rintro e w' ⟨rfl, rfl⟩) | fail)
  refine (hrep _).mono ?_
  rintro e w12 ⟨rfl, k12⟩
  have hO12 := hO11.stay k12
  clear k12 hO11 hrep
  have b10 : (0 : Int) ≤ (y : Int) := by omega
  have b11 : (y : Int) ≤ (V.size : Int) := by omega
  have b12 : (y : Int) + (k : Int) ≤ (V.size : Int) := by omega
  have b13 : (0 : Int) ≤ (y : Int) + (k : Int) := by omega
  go_wp2_with (first | (go_at_call 11; refine (num_any _ _).mono ?_; rintro e w' ⟨rfl, rfl⟩) | fail)
  go_region_held (fun _ => True) (trivial) (first
    | (go_at_call 23; refine (hrepu _).mono ?_; rintro e w13 ⟨rfl, k13⟩))
  all_goals go_wp2_with (first | (go_at_call 11; refine (num_any _ _).mono ?_; rintro e w' ⟨rfl, rfl⟩) | fail)
  all_goals go_ret
  all_goals refine ⟨?_, ((hO12.stay (Keeps.refl _ (fun _ => False)).drew).stay k13).own.below K0.out⟩
  all_goals rfl
end arenaMoves
end Go.Proofs.Ytmfmiaiijepgdaa
