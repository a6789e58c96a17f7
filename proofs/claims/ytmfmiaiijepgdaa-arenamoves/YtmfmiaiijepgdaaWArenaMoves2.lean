import Derived.Test.YtmfmiaiijepgdaaWArenaMoves1
namespace Go.Proofs.Ytmfmiaiijepgdaa
open Go.RowKit Go.Shelf
namespace arenaMoves

set_option maxHeartbeats 4000000 in
set_option maxRecDepth 100000 in
theorem out_a (s : ByteArray) (dst src n : Int) (u : UInt8) (w : World) (h1 : 1 ≤ s.size) (h2 : s.size ≤ 4096) (hx : dst < 0) :
    Calls Try.prog 5 #[.agg #[.string s, .int .i64 dst, .int .i64 src, .int .i64 n, .int .u8 (u.toNat : Int)]] w fun e w' => Post w e w' := by
  have hu := u.toNat_lt
  have g1 : ¬ (s.size : Int) < 1 := by omega
  have g2 : ¬ (4096 : Int) < (s.size : Int) := by omega
  obtain ⟨C, hC⟩ : ∃ C, classN s.size = C := ⟨_, rfl⟩
  have hcl := class_le s.size h1 (by omega)
  have htk := take_eq s.size h1 h2
  have hft := fits_eq s.size h1 h2
  rw [hC] at hcl htk
  clear hC
  obtain ⟨T, hTe⟩ : ∃ T, s.data.toList = T := ⟨_, rfl⟩
  have hTl : T.length = s.size := by rw [← hTe]; simp
  have hC0 : 0 < C := by omega
  have hCm : C ≤ 1048576 := hcl.2.2.1
  have hTC : T.length ≤ C := by omega
  have hwe := write_eq hC0 hCm [s.extract 0 (s.size / 2), ByteArray.empty, s.extract (s.size / 2) s.size] T (by rw [joined_three, hTe]) hTC
  clear hcl
  have hb1 : (0 : Int) ≤ (s.size : Int) / 2 := by omega
  have hb2 : (s.size : Int) / 2 ≤ (s.size : Int) := by omega
  go_enter Try.func5, Try.ntmps5
  go_wp2_with (first | (go_at_call 11; refine (num_any _ _).mono ?_; rintro e w' ⟨rfl, rfl⟩) | fail)
  go_quiet (fail)
  go_wp2_with (first | (go_at_call 11; refine (num_any _ _).mono ?_; rintro e w' ⟨rfl, rfl⟩) | fail)
  refine (own_new 2097152 (by omega)).mono ?_
  rintro e w1 ⟨p, rfl, hO⟩
  have K0 := hide (Keeps.drewN ((Keeps.refl w (fun _ => False)).alloc (.cells #[.string s, .int .i64 dst, .int .i64 src, .int .i64 n, .int .u8 (u.toNat : Int)] 39)) nq)
  generalize (w.alloc (.cells #[.string s, .int .i64 dst, .int .i64 src, .int .i64 n, .int .u8 (u.toNat : Int)] 39)).drewN nq = W0 at *
  have hal := own_allocAll newOK hO (newG_fresh 2097152) (AD.fresh_fine (by omega)) [16, (s.size : Int), 16] #[.int .i64 16, .int .i64 (s.size : Int), .int .i64 16] rfl (by simp) (fun z hz => by simp at hz; omega) hft 3 rfl
  rw [htk] at hal
  clear htk hft hO
  go_wp2_with (first | (go_at_call 11; refine (num_any _ _).mono ?_; rintro e w' ⟨rfl, rfl⟩) | fail)
  refine hal.mono ?_
  rintro e w2 ⟨hh, rfl, hO2⟩
  clear hal
  have c1 : w2.cell? ⟨hh, 1, none⟩ = some (.int .i64 32) := by simp [World.cell?, hO2.row, cellI]
  have hz1 : (s.extract 0 (s.size / 2)).size ≤ 4096 := by rw [ByteArray.size_extract]; omega
  have hz2 : (s.extract (s.size / 2) s.size).size ≤ 4096 := by rw [ByteArray.size_extract]; omega
  have hwr := own_write3 hO2 (d3_fine hC0 hCm) (d3_small hCm (d3 C).bs) 32 (fitsI_mk (by omega) (by omega)) (s.extract 0 (s.size / 2)) ByteArray.empty (s.extract (s.size / 2) s.size) hz1 (by simp) hz2
  rw [hwe] at hwr
  clear hwe hz1 hz2
  go_wp2_with (first | (go_at_call 11; refine (num_any _ _).mono ?_; rintro e w' ⟨rfl, rfl⟩) | fail)
  go_region_held (fun _ => True) (trivial) (first
    | (go_at_call 18; refine (hwr _ _ ?_ ?_).mono ?_; (first | exact ((Keeps.refl _ _).drew).alloc _ | exact ((Keeps.refl _ _).alloc _).drew); (first | exact heap_alloc_new _ _ | (simp; done)); rintro e w3 ⟨rfl, hO3⟩)
    | (go_at_call 11; refine (num_any _ _).mono ?_; rintro e w' ⟨rfl, rfl⟩))
  go_wp2_with (first | (go_at_call 11; refine (num_any _ _).mono ?_; rintro e w' ⟨rfl, rfl⟩) | fail)
  go_ret
  exact ⟨rfl, hO3.own.below K0.out⟩

set_option maxHeartbeats 4000000 in
set_option maxRecDepth 100000 in
theorem out_b (s : ByteArray) (dst src n : Int) (u : UInt8) (w : World) (h1 : 1 ≤ s.size) (h2 : s.size ≤ 4096) (hx : src < 0) :
    Calls Try.prog 5 #[.agg #[.string s, .int .i64 dst, .int .i64 src, .int .i64 n, .int .u8 (u.toNat : Int)]] w fun e w' => Post w e w' := by
  have hu := u.toNat_lt
  have g1 : ¬ (s.size : Int) < 1 := by omega
  have g2 : ¬ (4096 : Int) < (s.size : Int) := by omega
  obtain ⟨C, hC⟩ : ∃ C, classN s.size = C := ⟨_, rfl⟩
  have hcl := class_le s.size h1 (by omega)
  have htk := take_eq s.size h1 h2
  have hft := fits_eq s.size h1 h2
  rw [hC] at hcl htk
  clear hC
  obtain ⟨T, hTe⟩ : ∃ T, s.data.toList = T := ⟨_, rfl⟩
  have hTl : T.length = s.size := by rw [← hTe]; simp
  have hC0 : 0 < C := by omega
  have hCm : C ≤ 1048576 := hcl.2.2.1
  have hTC : T.length ≤ C := by omega
  have hwe := write_eq hC0 hCm [s.extract 0 (s.size / 2), ByteArray.empty, s.extract (s.size / 2) s.size] T (by rw [joined_three, hTe]) hTC
  clear hcl
  have hb1 : (0 : Int) ≤ (s.size : Int) / 2 := by omega
  have hb2 : (s.size : Int) / 2 ≤ (s.size : Int) := by omega
  by_cases hx0 : dst < 0
  · exact out_a s dst src n u w h1 h2 hx0
  go_enter Try.func5, Try.ntmps5
  go_wp2_with (first | (go_at_call 11; refine (num_any _ _).mono ?_; rintro e w' ⟨rfl, rfl⟩) | fail)
  go_quiet (fail)
  go_wp2_with (first | (go_at_call 11; refine (num_any _ _).mono ?_; rintro e w' ⟨rfl, rfl⟩) | fail)
  refine (own_new 2097152 (by omega)).mono ?_
  rintro e w1 ⟨p, rfl, hO⟩
  have K0 := hide (Keeps.drewN ((Keeps.refl w (fun _ => False)).alloc (.cells #[.string s, .int .i64 dst, .int .i64 src, .int .i64 n, .int .u8 (u.toNat : Int)] 39)) nq)
  generalize (w.alloc (.cells #[.string s, .int .i64 dst, .int .i64 src, .int .i64 n, .int .u8 (u.toNat : Int)] 39)).drewN nq = W0 at *
  have hal := own_allocAll newOK hO (newG_fresh 2097152) (AD.fresh_fine (by omega)) [16, (s.size : Int), 16] #[.int .i64 16, .int .i64 (s.size : Int), .int .i64 16] rfl (by simp) (fun z hz => by simp at hz; omega) hft 3 rfl
  rw [htk] at hal
  clear htk hft hO
  go_wp2_with (first | (go_at_call 11; refine (num_any _ _).mono ?_; rintro e w' ⟨rfl, rfl⟩) | fail)
  refine hal.mono ?_
  rintro e w2 ⟨hh, rfl, hO2⟩
  clear hal
  have c1 : w2.cell? ⟨hh, 1, none⟩ = some (.int .i64 32) := by simp [World.cell?, hO2.row, cellI]
  have hz1 : (s.extract 0 (s.size / 2)).size ≤ 4096 := by rw [ByteArray.size_extract]; omega
  have hz2 : (s.extract (s.size / 2) s.size).size ≤ 4096 := by rw [ByteArray.size_extract]; omega
  have hwr := own_write3 hO2 (d3_fine hC0 hCm) (d3_small hCm (d3 C).bs) 32 (fitsI_mk (by omega) (by omega)) (s.extract 0 (s.size / 2)) ByteArray.empty (s.extract (s.size / 2) s.size) hz1 (by simp) hz2
  rw [hwe] at hwr
  clear hwe hz1 hz2
  go_wp2_with (first | (go_at_call 11; refine (num_any _ _).mono ?_; rintro e w' ⟨rfl, rfl⟩) | fail)
  go_region_held (fun _ => True) (trivial) (first
    | (go_at_call 18; refine (hwr _ _ ?_ ?_).mono ?_; (first | exact ((Keeps.refl _ _).drew).alloc _ | exact ((Keeps.refl _ _).alloc _).drew); (first | exact heap_alloc_new _ _ | (simp; done)); rintro e w3 ⟨rfl, hO3⟩)
    | (go_at_call 11; refine (num_any _ _).mono ?_; rintro e w' ⟨rfl, rfl⟩))
  go_wp2_with (first | (go_at_call 11; refine (num_any _ _).mono ?_; rintro e w' ⟨rfl, rfl⟩) | fail)
  go_ret
  exact ⟨rfl, hO3.own.below K0.out⟩

set_option maxHeartbeats 4000000 in
set_option maxRecDepth 100000 in
theorem out_c (s : ByteArray) (dst src n : Int) (u : UInt8) (w : World) (h1 : 1 ≤ s.size) (h2 : s.size ≤ 4096) (hx : n < 0) :
    Calls Try.prog 5 #[.agg #[.string s, .int .i64 dst, .int .i64 src, .int .i64 n, .int .u8 (u.toNat : Int)]] w fun e w' => Post w e w' := by
  have hu := u.toNat_lt
  have g1 : ¬ (s.size : Int) < 1 := by omega
  have g2 : ¬ (4096 : Int) < (s.size : Int) := by omega
  obtain ⟨C, hC⟩ : ∃ C, classN s.size = C := ⟨_, rfl⟩
  have hcl := class_le s.size h1 (by omega)
  have htk := take_eq s.size h1 h2
  have hft := fits_eq s.size h1 h2
  rw [hC] at hcl htk
  clear hC
  obtain ⟨T, hTe⟩ : ∃ T, s.data.toList = T := ⟨_, rfl⟩
  have hTl : T.length = s.size := by rw [← hTe]; simp
  have hC0 : 0 < C := by omega
  have hCm : C ≤ 1048576 := hcl.2.2.1
  have hTC : T.length ≤ C := by omega
  have hwe := write_eq hC0 hCm [s.extract 0 (s.size / 2), ByteArray.empty, s.extract (s.size / 2) s.size] T (by rw [joined_three, hTe]) hTC
  clear hcl
  have hb1 : (0 : Int) ≤ (s.size : Int) / 2 := by omega
  have hb2 : (s.size : Int) / 2 ≤ (s.size : Int) := by omega
  by_cases hx0 : dst < 0
  · exact out_a s dst src n u w h1 h2 hx0
  by_cases hx1 : src < 0
  · exact out_b s dst src n u w h1 h2 hx1
  go_enter Try.func5, Try.ntmps5
  go_wp2_with (first | (go_at_call 11; refine (num_any _ _).mono ?_; rintro e w' ⟨rfl, rfl⟩) | fail)
  go_quiet (fail)
  go_wp2_with (first | (go_at_call 11; refine (num_any _ _).mono ?_; rintro e w' ⟨rfl, rfl⟩) | fail)
  refine (own_new 2097152 (by omega)).mono ?_
  rintro e w1 ⟨p, rfl, hO⟩
  have K0 := hide (Keeps.drewN ((Keeps.refl w (fun _ => False)).alloc (.cells #[.string s, .int .i64 dst, .int .i64 src, .int .i64 n, .int .u8 (u.toNat : Int)] 39)) nq)
  generalize (w.alloc (.cells #[.string s, .int .i64 dst, .int .i64 src, .int .i64 n, .int .u8 (u.toNat : Int)] 39)).drewN nq = W0 at *
  have hal := own_allocAll newOK hO (newG_fresh 2097152) (AD.fresh_fine (by omega)) [16, (s.size : Int), 16] #[.int .i64 16, .int .i64 (s.size : Int), .int .i64 16] rfl (by simp) (fun z hz => by simp at hz; omega) hft 3 rfl
  rw [htk] at hal
  clear htk hft hO
  go_wp2_with (first | (go_at_call 11; refine (num_any _ _).mono ?_; rintro e w' ⟨rfl, rfl⟩) | fail)
  refine hal.mono ?_
  rintro e w2 ⟨hh, rfl, hO2⟩
  clear hal
  have c1 : w2.cell? ⟨hh, 1, none⟩ = some (.int .i64 32) := by simp [World.cell?, hO2.row, cellI]
  have hz1 : (s.extract 0 (s.size / 2)).size ≤ 4096 := by rw [ByteArray.size_extract]; omega
  have hz2 : (s.extract (s.size / 2) s.size).size ≤ 4096 := by rw [ByteArray.size_extract]; omega
  have hwr := own_write3 hO2 (d3_fine hC0 hCm) (d3_small hCm (d3 C).bs) 32 (fitsI_mk (by omega) (by omega)) (s.extract 0 (s.size / 2)) ByteArray.empty (s.extract (s.size / 2) s.size) hz1 (by simp) hz2
  rw [hwe] at hwr
  clear hwe hz1 hz2
  go_wp2_with (first | (go_at_call 11; refine (num_any _ _).mono ?_; rintro e w' ⟨rfl, rfl⟩) | fail)
  go_region_held (fun _ => True) (trivial) (first
    | (go_at_call 18; refine (hwr _ _ ?_ ?_).mono ?_; (first | exact ((Keeps.refl _ _).drew).alloc _ | exact ((Keeps.refl _ _).alloc _).drew); (first | exact heap_alloc_new _ _ | (simp; done)); rintro e w3 ⟨rfl, hO3⟩)
    | (go_at_call 11; refine (num_any _ _).mono ?_; rintro e w' ⟨rfl, rfl⟩))
  go_wp2_with (first | (go_at_call 11; refine (num_any _ _).mono ?_; rintro e w' ⟨rfl, rfl⟩) | fail)
  go_ret
  exact ⟨rfl, hO3.own.below K0.out⟩

set_option maxHeartbeats 4000000 in
set_option maxRecDepth 100000 in
theorem out_d (s : ByteArray) (dst src n : Int) (u : UInt8) (w : World) (h1 : 1 ≤ s.size) (h2 : s.size ≤ 4096) (hn : 0 ≤ n) (hn2 : n ≤ 9223372036854775807) (hx : (s.size : Int) - n < dst) :
    Calls Try.prog 5 #[.agg #[.string s, .int .i64 dst, .int .i64 src, .int .i64 n, .int .u8 (u.toNat : Int)]] w fun e w' => Post w e w' := by
  have hu := u.toNat_lt
  have g1 : ¬ (s.size : Int) < 1 := by omega
  have g2 : ¬ (4096 : Int) < (s.size : Int) := by omega
  obtain ⟨C, hC⟩ : ∃ C, classN s.size = C := ⟨_, rfl⟩
  have hcl := class_le s.size h1 (by omega)
  have htk := take_eq s.size h1 h2
  have hft := fits_eq s.size h1 h2
  rw [hC] at hcl htk
  clear hC
  obtain ⟨T, hTe⟩ : ∃ T, s.data.toList = T := ⟨_, rfl⟩
  have hTl : T.length = s.size := by rw [← hTe]; simp
  have hC0 : 0 < C := by omega
  have hCm : C ≤ 1048576 := hcl.2.2.1
  have hTC : T.length ≤ C := by omega
  have hwe := write_eq hC0 hCm [s.extract 0 (s.size / 2), ByteArray.empty, s.extract (s.size / 2) s.size] T (by rw [joined_three, hTe]) hTC
  clear hcl
  have hb1 : (0 : Int) ≤ (s.size : Int) / 2 := by omega
  have hb2 : (s.size : Int) / 2 ≤ (s.size : Int) := by omega
  by_cases hx0 : dst < 0
  · exact out_a s dst src n u w h1 h2 hx0
  by_cases hx1 : src < 0
  · exact out_b s dst src n u w h1 h2 hx1
  have hx2 : ¬ n < 0 := by omega
  have hwn : IntKind.i64.wrap ((s.size : Int) - n) = (s.size : Int) - n := by rw [IntKind.wrap_i64]; omega
  go_enter Try.func5, Try.ntmps5
  go_wp2_with (first | (go_at_call 11; refine (num_any _ _).mono ?_; rintro e w' ⟨rfl, rfl⟩) | fail)
  go_quiet (fail)
  go_wp2_with (first | (go_at_call 11; refine (num_any _ _).mono ?_; rintro e w' ⟨rfl, rfl⟩) | fail)
  refine (own_new 2097152 (by omega)).mono ?_
  rintro e w1 ⟨p, rfl, hO⟩
  have K0 := hide (Keeps.drewN ((Keeps.refl w (fun _ => False)).alloc (.cells #[.string s, .int .i64 dst, .int .i64 src, .int .i64 n, .int .u8 (u.toNat : Int)] 39)) nq)
  generalize (w.alloc (.cells #[.string s, .int .i64 dst, .int .i64 src, .int .i64 n, .int .u8 (u.toNat : Int)] 39)).drewN nq = W0 at *
  have hal := own_allocAll newOK hO (newG_fresh 2097152) (AD.fresh_fine (by omega)) [16, (s.size : Int), 16] #[.int .i64 16, .int .i64 (s.size : Int), .int .i64 16] rfl (by simp) (fun z hz => by simp at hz; omega) hft 3 rfl
  rw [htk] at hal
  clear htk hft hO
  go_wp2_with (first | (go_at_call 11; refine (num_any _ _).mono ?_; rintro e w' ⟨rfl, rfl⟩) | fail)
  refine hal.mono ?_
  rintro e w2 ⟨hh, rfl, hO2⟩
  clear hal
  have c1 : w2.cell? ⟨hh, 1, none⟩ = some (.int .i64 32) := by simp [World.cell?, hO2.row, cellI]
  have hz1 : (s.extract 0 (s.size / 2)).size ≤ 4096 := by rw [ByteArray.size_extract]; omega
  have hz2 : (s.extract (s.size / 2) s.size).size ≤ 4096 := by rw [ByteArray.size_extract]; omega
  have hwr := own_write3 hO2 (d3_fine hC0 hCm) (d3_small hCm (d3 C).bs) 32 (fitsI_mk (by omega) (by omega)) (s.extract 0 (s.size / 2)) ByteArray.empty (s.extract (s.size / 2) s.size) hz1 (by simp) hz2
  rw [hwe] at hwr
  clear hwe hz1 hz2
  go_wp2_with (first | (go_at_call 11; refine (num_any _ _).mono ?_; rintro e w' ⟨rfl, rfl⟩) | fail)
  go_region_held (fun _ => True) (trivial) (first
    | (go_at_call 18; refine (hwr _ _ ?_ ?_).mono ?_; (first | exact ((Keeps.refl _ _).drew).alloc _ | exact ((Keeps.refl _ _).alloc _).drew); (first | exact heap_alloc_new _ _ | (simp; done)); rintro e w3 ⟨rfl, hO3⟩)
    | (go_at_call 11; refine (num_any _ _).mono ?_; rintro e w' ⟨rfl, rfl⟩))
  go_wp2_with (first | (go_at_call 11; refine (num_any _ _).mono ?_; rintro e w' ⟨rfl, rfl⟩) | fail)
  go_ret
  exact ⟨rfl, hO3.own.below K0.out⟩

set_option maxHeartbeats 4000000 in
set_option maxRecDepth 100000 in
theorem out_e (s : ByteArray) (dst src n : Int) (u : UInt8) (w : World) (h1 : 1 ≤ s.size) (h2 : s.size ≤ 4096) (hn : 0 ≤ n) (hn2 : n ≤ 9223372036854775807) (hx : (s.size : Int) - n < src) :
    Calls Try.prog 5 #[.agg #[.string s, .int .i64 dst, .int .i64 src, .int .i64 n, .int .u8 (u.toNat : Int)]] w fun e w' => Post w e w' := by
  have hu := u.toNat_lt
  have g1 : ¬ (s.size : Int) < 1 := by omega
  have g2 : ¬ (4096 : Int) < (s.size : Int) := by omega
  obtain ⟨C, hC⟩ : ∃ C, classN s.size = C := ⟨_, rfl⟩
  have hcl := class_le s.size h1 (by omega)
  have htk := take_eq s.size h1 h2
  have hft := fits_eq s.size h1 h2
  rw [hC] at hcl htk
  clear hC
  obtain ⟨T, hTe⟩ : ∃ T, s.data.toList = T := ⟨_, rfl⟩
  have hTl : T.length = s.size := by rw [← hTe]; simp
  have hC0 : 0 < C := by omega
  have hCm : C ≤ 1048576 := hcl.2.2.1
  have hTC : T.length ≤ C := by omega
  have hwe := write_eq hC0 hCm [s.extract 0 (s.size / 2), ByteArray.empty, s.extract (s.size / 2) s.size] T (by rw [joined_three, hTe]) hTC
  clear hcl
  have hb1 : (0 : Int) ≤ (s.size : Int) / 2 := by omega
  have hb2 : (s.size : Int) / 2 ≤ (s.size : Int) := by omega
  by_cases hx0 : dst < 0
  · exact out_a s dst src n u w h1 h2 hx0
  by_cases hx1 : src < 0
  · exact out_b s dst src n u w h1 h2 hx1
  have hx2 : ¬ n < 0 := by omega
  have hwn : IntKind.i64.wrap ((s.size : Int) - n) = (s.size : Int) - n := by rw [IntKind.wrap_i64]; omega
  by_cases hx3 : (s.size : Int) - n < dst
  · exact out_d s dst src n u w h1 h2 hn hn2 hx3
  go_enter Try.func5, Try.ntmps5
  go_wp2_with (first | (go_at_call 11; refine (num_any _ _).mono ?_; rintro e w' ⟨rfl, rfl⟩) | fail)
  go_quiet (fail)
  go_wp2_with (first | (go_at_call 11; refine (num_any _ _).mono ?_; rintro e w' ⟨rfl, rfl⟩) | fail)
  refine (own_new 2097152 (by omega)).mono ?_
  rintro e w1 ⟨p, rfl, hO⟩
  have K0 := hide (Keeps.drewN ((Keeps.refl w (fun _ => False)).alloc (.cells #[.string s, .int .i64 dst, .int .i64 src, .int .i64 n, .int .u8 (u.toNat : Int)] 39)) nq)
  generalize (w.alloc (.cells #[.string s, .int .i64 dst, .int .i64 src, .int .i64 n, .int .u8 (u.toNat : Int)] 39)).drewN nq = W0 at *
  have hal := own_allocAll newOK hO (newG_fresh 2097152) (AD.fresh_fine (by omega)) [16, (s.size : Int), 16] #[.int .i64 16, .int .i64 (s.size : Int), .int .i64 16] rfl (by simp) (fun z hz => by simp at hz; omega) hft 3 rfl
  rw [htk] at hal
  clear htk hft hO
  go_wp2_with (first | (go_at_call 11; refine (num_any _ _).mono ?_; rintro e w' ⟨rfl, rfl⟩) | fail)
  refine hal.mono ?_
  rintro e w2 ⟨hh, rfl, hO2⟩
  clear hal
  have c1 : w2.cell? ⟨hh, 1, none⟩ = some (.int .i64 32) := by simp [World.cell?, hO2.row, cellI]
  have hz1 : (s.extract 0 (s.size / 2)).size ≤ 4096 := by rw [ByteArray.size_extract]; omega
  have hz2 : (s.extract (s.size / 2) s.size).size ≤ 4096 := by rw [ByteArray.size_extract]; omega
  have hwr := own_write3 hO2 (d3_fine hC0 hCm) (d3_small hCm (d3 C).bs) 32 (fitsI_mk (by omega) (by omega)) (s.extract 0 (s.size / 2)) ByteArray.empty (s.extract (s.size / 2) s.size) hz1 (by simp) hz2
  rw [hwe] at hwr
  clear hwe hz1 hz2
  go_wp2_with (first | (go_at_call 11; refine (num_any _ _).mono ?_; rintro e w' ⟨rfl, rfl⟩) | fail)
  go_region_held (fun _ => True) (trivial) (first
    | (go_at_call 18; refine (hwr _ _ ?_ ?_).mono ?_; (first | exact ((Keeps.refl _ _).drew).alloc _ | exact ((Keeps.refl _ _).alloc _).drew); (first | exact heap_alloc_new _ _ | (simp; done)); rintro e w3 ⟨rfl, hO3⟩)
    | (go_at_call 11; refine (num_any _ _).mono ?_; rintro e w' ⟨rfl, rfl⟩))
  go_wp2_with (first | (go_at_call 11; refine (num_any _ _).mono ?_; rintro e w' ⟨rfl, rfl⟩) | fail)
  go_ret
  exact ⟨rfl, hO3.own.below K0.out⟩
end arenaMoves
end Go.Proofs.Ytmfmiaiijepgdaa
