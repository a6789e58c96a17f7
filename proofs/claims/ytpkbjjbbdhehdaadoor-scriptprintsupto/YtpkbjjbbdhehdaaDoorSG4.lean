/-
  script: the reference's Line (made by gensg4.py).
-/
import Derived.Test.YtpkbjjbbdhehdaaDoorSG3
import Derived.Test.YtpkbjjbbdhehdaaDoorSC6
namespace Go.Proofs.YtpkbjjbbdhehdaaDoor
open Go.RowKit
set_option linter.unusedVariables false
theorem nine_cells {W : World} {q : Nat} {a0 a1 a2 a3 a4 a5 a6 a7 a8 : Value} {t : TypeId} (h : W.heap[q]? = some (.cells #[a0, a1, a2, a3, a4, a5, a6, a7, a8] t)) : W.cell? ⟨q, 0, none⟩ = some a0 ∧ W.cell? ⟨q, 1, none⟩ = some a1 ∧ W.cell? ⟨q, 2, none⟩ = some a2 ∧ W.cell? ⟨q, 3, none⟩ = some a3 ∧ W.cell? ⟨q, 4, none⟩ = some a4 ∧ W.cell? ⟨q, 5, none⟩ = some a5 ∧ W.cell? ⟨q, 6, none⟩ = some a6 ∧ W.cell? ⟨q, 7, none⟩ = some a7 ∧ W.cell? ⟨q, 8, none⟩ = some a8 := by
  simp [World.cell?, h]
theorem nm_size (op : Int) : (nameD op).size ≤ 7 := by
  unfold nameD
  split
  · rename_i h
    have : ∀ k : Fin 16, (nmN k.1).size ≤ 7 := by decide +kernel
    exact this ⟨op.toNat + 1, by omega⟩
  · exact Nat.zero_le _
theorem nums_size {l : List Int} (h : ∀ n, n ∈ l → -9223372036854775808 ≤ n ∧ n ≤ 9223372036854775807) (hl : l.length ≤ 8388608) : (strOf (numsL l)).size ≤ 200000000 := by
  have := numsL_len l h
  rw [strOf_size]
  omega
set_option maxRecDepth 100000 in
set_option maxHeartbeats 4000000 in
theorem rl_5 (h n : Int) (u v : Nat) (key elem : ByteArray) (fl hl : List Int) (sf sh : Option Addr) (nf cf nh ch : Nat) (w : World) (hc : CmdIn w ⟨5, h, u, v, n, key, elem, fl, hl⟩ (.slice sf nf cf) (.slice sh nh ch)) :
    Calls Tryd.prog 14 #[.agg #[.int .i64 5, .int .i64 h, .slice sf nf cf, .slice sh nh ch, .int .u64 (u : Int), .int .u64 (v : Int), .int .i64 n, .string key, .string elem]] w fun e w' => e = .returned (.string (nameD 5 ++ (⟨#[32]⟩ ++ numD h))) ∧ Keeps w w' (fun _ => False) := by
  have hNm := fun (W : World) => rname_any 5 W
  have hNs := nm_size 5
  have hDh := fun (W : World) => dec_any h hc.h.1 hc.h.2 W
  have hHs := num_size h hc.h.1 hc.h.2
  have HNm := hide hNm
  have HDh := hide hDh
  clear hNm hDh
  clear hc
  generalize nameD 5 = ND at *
  generalize numD h = HD at *
  obtain ⟨H1, hH1⟩ : ∃ H1, (⟨#[32]⟩ : ByteArray) ++ HD = H1 := ⟨_, rfl⟩
  have hHz : H1.size ≤ 21 := by
    rw [← hH1, ByteArray.size_append]
    show 1 + HD.size ≤ 21
    omega
  rw [hH1]
  have HH1 := hide hH1
  clear hH1
  go_enter Tryd.func14, Tryd.ntmps14
  go_upto_region 1 with fail
  refine alloc1 (P := fun W => Code.wp _ _ _ _ W) fun W0 hb hz k0 => ?_
  obtain ⟨c0, c1, -, -, -, -, -, -, -⟩ := nine_cells hb
  have HK0 := hide k0
  have HB := hide hb
  clear hb hz k0
  go_wp2_with fail
  (with_reducible refine (HNm.out _).mono ?_)
  rintro e w1 ⟨rfl, k1⟩
  have HK1 := hide (HK0.out.trans k1 (fun _ _ e => e))
  have HB1 := hide (k1.blk8 HB.out)
  replace c0 := keeps_cell k1 c0
  replace c1 := keeps_cell k1 c1
  clear HNm HK0 HB k1
  go_wp2_with fail
  (with_reducible refine (HDh.out _).mono ?_)
  rintro e w2 ⟨rfl, k2⟩
  have HK2 := hide (HK1.out.trans k2 (fun _ _ e => e))
  have hB2 := k2.blk8 HB1.out
  clear HDh HK1 HB1 k2 c0 c1
  have hh1 := HH1.out
  go_upto_region 3 with fail
  clear hh1 HH1 hHs
  obtain ⟨c0, c1, c2, c3, c4, c5, c6, c7, c8⟩ := nine_cells hB2
  clear hB2
  go_wp2_with fail
  go_ret
  exact ⟨rfl, HK2.out⟩
set_option maxRecDepth 100000 in
set_option maxHeartbeats 4000000 in
theorem rl_7 (h n : Int) (u v : Nat) (key elem : ByteArray) (fl hl : List Int) (sf sh : Option Addr) (nf cf nh ch : Nat) (w : World) (hc : CmdIn w ⟨7, h, u, v, n, key, elem, fl, hl⟩ (.slice sf nf cf) (.slice sh nh ch)) :
    Calls Tryd.prog 14 #[.agg #[.int .i64 7, .int .i64 h, .slice sf nf cf, .slice sh nh ch, .int .u64 (u : Int), .int .u64 (v : Int), .int .i64 n, .string key, .string elem]] w fun e w' => e = .returned (.string (nameD 7 ++ (⟨#[32]⟩ ++ numD h))) ∧ Keeps w w' (fun _ => False) := by
  have hNm := fun (W : World) => rname_any 7 W
  have hNs := nm_size 7
  have hDh := fun (W : World) => dec_any h hc.h.1 hc.h.2 W
  have hHs := num_size h hc.h.1 hc.h.2
  have HNm := hide hNm
  have HDh := hide hDh
  clear hNm hDh
  clear hc
  generalize nameD 7 = ND at *
  generalize numD h = HD at *
  obtain ⟨H1, hH1⟩ : ∃ H1, (⟨#[32]⟩ : ByteArray) ++ HD = H1 := ⟨_, rfl⟩
  have hHz : H1.size ≤ 21 := by
    rw [← hH1, ByteArray.size_append]
    show 1 + HD.size ≤ 21
    omega
  rw [hH1]
  have HH1 := hide hH1
  clear hH1
  go_enter Tryd.func14, Tryd.ntmps14
  go_upto_region 1 with fail
  refine alloc1 (P := fun W => Code.wp _ _ _ _ W) fun W0 hb hz k0 => ?_
  obtain ⟨c0, c1, -, -, -, -, -, -, -⟩ := nine_cells hb
  have HK0 := hide k0
  have HB := hide hb
  clear hb hz k0
  go_wp2_with fail
  (with_reducible refine (HNm.out _).mono ?_)
  rintro e w1 ⟨rfl, k1⟩
  have HK1 := hide (HK0.out.trans k1 (fun _ _ e => e))
  have HB1 := hide (k1.blk8 HB.out)
  replace c0 := keeps_cell k1 c0
  replace c1 := keeps_cell k1 c1
  clear HNm HK0 HB k1
  go_wp2_with fail
  (with_reducible refine (HDh.out _).mono ?_)
  rintro e w2 ⟨rfl, k2⟩
  have HK2 := hide (HK1.out.trans k2 (fun _ _ e => e))
  have hB2 := k2.blk8 HB1.out
  clear HDh HK1 HB1 k2 c0 c1
  have hh1 := HH1.out
  go_upto_region 3 with fail
  clear hh1 HH1 hHs
  obtain ⟨c0, c1, c2, c3, c4, c5, c6, c7, c8⟩ := nine_cells hB2
  clear hB2
  go_wp2_with fail
  go_ret
  exact ⟨rfl, HK2.out⟩
set_option maxRecDepth 100000 in
set_option maxHeartbeats 4000000 in
theorem rl_9 (h n : Int) (u v : Nat) (key elem : ByteArray) (fl hl : List Int) (sf sh : Option Addr) (nf cf nh ch : Nat) (w : World) (hc : CmdIn w ⟨9, h, u, v, n, key, elem, fl, hl⟩ (.slice sf nf cf) (.slice sh nh ch)) :
    Calls Tryd.prog 14 #[.agg #[.int .i64 9, .int .i64 h, .slice sf nf cf, .slice sh nh ch, .int .u64 (u : Int), .int .u64 (v : Int), .int .i64 n, .string key, .string elem]] w fun e w' => e = .returned (.string (nameD 9 ++ (⟨#[32]⟩ ++ numD h))) ∧ Keeps w w' (fun _ => False) := by
  have hNm := fun (W : World) => rname_any 9 W
  have hNs := nm_size 9
  have hDh := fun (W : World) => dec_any h hc.h.1 hc.h.2 W
  have hHs := num_size h hc.h.1 hc.h.2
  have HNm := hide hNm
  have HDh := hide hDh
  clear hNm hDh
  clear hc
  generalize nameD 9 = ND at *
  generalize numD h = HD at *
  obtain ⟨H1, hH1⟩ : ∃ H1, (⟨#[32]⟩ : ByteArray) ++ HD = H1 := ⟨_, rfl⟩
  have hHz : H1.size ≤ 21 := by
    rw [← hH1, ByteArray.size_append]
    show 1 + HD.size ≤ 21
    omega
  rw [hH1]
  have HH1 := hide hH1
  clear hH1
  go_enter Tryd.func14, Tryd.ntmps14
  go_upto_region 1 with fail
  refine alloc1 (P := fun W => Code.wp _ _ _ _ W) fun W0 hb hz k0 => ?_
  obtain ⟨c0, c1, -, -, -, -, -, -, -⟩ := nine_cells hb
  have HK0 := hide k0
  have HB := hide hb
  clear hb hz k0
  go_wp2_with fail
  (with_reducible refine (HNm.out _).mono ?_)
  rintro e w1 ⟨rfl, k1⟩
  have HK1 := hide (HK0.out.trans k1 (fun _ _ e => e))
  have HB1 := hide (k1.blk8 HB.out)
  replace c0 := keeps_cell k1 c0
  replace c1 := keeps_cell k1 c1
  clear HNm HK0 HB k1
  go_wp2_with fail
  (with_reducible refine (HDh.out _).mono ?_)
  rintro e w2 ⟨rfl, k2⟩
  have HK2 := hide (HK1.out.trans k2 (fun _ _ e => e))
  have hB2 := k2.blk8 HB1.out
  clear HDh HK1 HB1 k2 c0 c1
  have hh1 := HH1.out
  go_upto_region 3 with fail
  clear hh1 HH1 hHs
  obtain ⟨c0, c1, c2, c3, c4, c5, c6, c7, c8⟩ := nine_cells hB2
  clear hB2
  go_wp2_with fail
  go_ret
  exact ⟨rfl, HK2.out⟩
set_option maxRecDepth 100000 in
set_option maxHeartbeats 4000000 in
theorem rl_13 (h n : Int) (u v : Nat) (key elem : ByteArray) (fl hl : List Int) (sf sh : Option Addr) (nf cf nh ch : Nat) (w : World) (hc : CmdIn w ⟨13, h, u, v, n, key, elem, fl, hl⟩ (.slice sf nf cf) (.slice sh nh ch)) :
    Calls Tryd.prog 14 #[.agg #[.int .i64 13, .int .i64 h, .slice sf nf cf, .slice sh nh ch, .int .u64 (u : Int), .int .u64 (v : Int), .int .i64 n, .string key, .string elem]] w fun e w' => e = .returned (.string (nameD 13 ++ (⟨#[32]⟩ ++ numD h))) ∧ Keeps w w' (fun _ => False) := by
  have hNm := fun (W : World) => rname_any 13 W
  have hNs := nm_size 13
  have hDh := fun (W : World) => dec_any h hc.h.1 hc.h.2 W
  have hHs := num_size h hc.h.1 hc.h.2
  have HNm := hide hNm
  have HDh := hide hDh
  clear hNm hDh
  clear hc
  generalize nameD 13 = ND at *
  generalize numD h = HD at *
  obtain ⟨H1, hH1⟩ : ∃ H1, (⟨#[32]⟩ : ByteArray) ++ HD = H1 := ⟨_, rfl⟩
  have hHz : H1.size ≤ 21 := by
    rw [← hH1, ByteArray.size_append]
    show 1 + HD.size ≤ 21
    omega
  rw [hH1]
  have HH1 := hide hH1
  clear hH1
  go_enter Tryd.func14, Tryd.ntmps14
  go_upto_region 1 with fail
  refine alloc1 (P := fun W => Code.wp _ _ _ _ W) fun W0 hb hz k0 => ?_
  obtain ⟨c0, c1, -, -, -, -, -, -, -⟩ := nine_cells hb
  have HK0 := hide k0
  have HB := hide hb
  clear hb hz k0
  go_wp2_with fail
  (with_reducible refine (HNm.out _).mono ?_)
  rintro e w1 ⟨rfl, k1⟩
  have HK1 := hide (HK0.out.trans k1 (fun _ _ e => e))
  have HB1 := hide (k1.blk8 HB.out)
  replace c0 := keeps_cell k1 c0
  replace c1 := keeps_cell k1 c1
  clear HNm HK0 HB k1
  go_wp2_with fail
  (with_reducible refine (HDh.out _).mono ?_)
  rintro e w2 ⟨rfl, k2⟩
  have HK2 := hide (HK1.out.trans k2 (fun _ _ e => e))
  have hB2 := k2.blk8 HB1.out
  clear HDh HK1 HB1 k2 c0 c1
  have hh1 := HH1.out
  go_upto_region 3 with fail
  clear hh1 HH1 hHs
  obtain ⟨c0, c1, c2, c3, c4, c5, c6, c7, c8⟩ := nine_cells hB2
  clear hB2
  go_wp2_with fail
  go_ret
  exact ⟨rfl, HK2.out⟩
set_option maxRecDepth 100000 in
set_option maxHeartbeats 4000000 in
theorem rl_11 (h n : Int) (u v : Nat) (key elem : ByteArray) (fl hl : List Int) (sf sh : Option Addr) (nf cf nh ch : Nat) (w : World) (hc : CmdIn w ⟨11, h, u, v, n, key, elem, fl, hl⟩ (.slice sf nf cf) (.slice sh nh ch)) :
    Calls Tryd.prog 14 #[.agg #[.int .i64 11, .int .i64 h, .slice sf nf cf, .slice sh nh ch, .int .u64 (u : Int), .int .u64 (v : Int), .int .i64 n, .string key, .string elem]] w fun e w' => e = .returned (.string (nameD 11)) ∧ Keeps w w' (fun _ => False) := by
  have hNm := fun (W : World) => rname_any 11 W
  have hNs := nm_size 11
  have hDh := fun (W : World) => dec_any h hc.h.1 hc.h.2 W
  have hHs := num_size h hc.h.1 hc.h.2
  have HNm := hide hNm
  have HDh := hide hDh
  clear hNm hDh
  clear hc
  generalize nameD 11 = ND at *
  generalize numD h = HD at *
  obtain ⟨H1, hH1⟩ : ∃ H1, (⟨#[32]⟩ : ByteArray) ++ HD = H1 := ⟨_, rfl⟩
  have hHz : H1.size ≤ 21 := by
    rw [← hH1, ByteArray.size_append]
    show 1 + HD.size ≤ 21
    omega
  have HH1 := hide hH1
  clear hH1
  go_enter Tryd.func14, Tryd.ntmps14
  go_upto_region 1 with fail
  refine alloc1 (P := fun W => Code.wp _ _ _ _ W) fun W0 hb hz k0 => ?_
  obtain ⟨c0, c1, -, -, -, -, -, -, -⟩ := nine_cells hb
  have HK0 := hide k0
  have HB := hide hb
  clear hb hz k0
  go_wp2_with fail
  (with_reducible refine (HNm.out _).mono ?_)
  rintro e w1 ⟨rfl, k1⟩
  have HK1 := hide (HK0.out.trans k1 (fun _ _ e => e))
  have HB1 := hide (k1.blk8 HB.out)
  replace c0 := keeps_cell k1 c0
  replace c1 := keeps_cell k1 c1
  clear HNm HK0 HB k1
  go_wp2_with fail
  (with_reducible refine (HDh.out _).mono ?_)
  rintro e w2 ⟨rfl, k2⟩
  have HK2 := hide (HK1.out.trans k2 (fun _ _ e => e))
  have hB2 := k2.blk8 HB1.out
  clear HDh HK1 HB1 k2 c0 c1
  have hh1 := HH1.out
  go_upto_region 3 with fail
  clear hh1 HH1 hHs
  obtain ⟨c0, c1, c2, c3, c4, c5, c6, c7, c8⟩ := nine_cells hB2
  clear hB2
  go_wp2_with fail
  go_ret
  exact ⟨rfl, HK2.out⟩
set_option maxRecDepth 100000 in
set_option maxHeartbeats 4000000 in
theorem rl_14 (h n : Int) (u v : Nat) (key elem : ByteArray) (fl hl : List Int) (sf sh : Option Addr) (nf cf nh ch : Nat) (w : World) (hc : CmdIn w ⟨14, h, u, v, n, key, elem, fl, hl⟩ (.slice sf nf cf) (.slice sh nh ch)) :
    Calls Tryd.prog 14 #[.agg #[.int .i64 14, .int .i64 h, .slice sf nf cf, .slice sh nh ch, .int .u64 (u : Int), .int .u64 (v : Int), .int .i64 n, .string key, .string elem]] w fun e w' => e = .returned (.string (nameD 14)) ∧ Keeps w w' (fun _ => False) := by
  have hNm := fun (W : World) => rname_any 14 W
  have hNs := nm_size 14
  have hDh := fun (W : World) => dec_any h hc.h.1 hc.h.2 W
  have hHs := num_size h hc.h.1 hc.h.2
  have HNm := hide hNm
  have HDh := hide hDh
  clear hNm hDh
  clear hc
  generalize nameD 14 = ND at *
  generalize numD h = HD at *
  obtain ⟨H1, hH1⟩ : ∃ H1, (⟨#[32]⟩ : ByteArray) ++ HD = H1 := ⟨_, rfl⟩
  have hHz : H1.size ≤ 21 := by
    rw [← hH1, ByteArray.size_append]
    show 1 + HD.size ≤ 21
    omega
  have HH1 := hide hH1
  clear hH1
  go_enter Tryd.func14, Tryd.ntmps14
  go_upto_region 1 with fail
  refine alloc1 (P := fun W => Code.wp _ _ _ _ W) fun W0 hb hz k0 => ?_
  obtain ⟨c0, c1, -, -, -, -, -, -, -⟩ := nine_cells hb
  have HK0 := hide k0
  have HB := hide hb
  clear hb hz k0
  go_wp2_with fail
  (with_reducible refine (HNm.out _).mono ?_)
  rintro e w1 ⟨rfl, k1⟩
  have HK1 := hide (HK0.out.trans k1 (fun _ _ e => e))
  have HB1 := hide (k1.blk8 HB.out)
  replace c0 := keeps_cell k1 c0
  replace c1 := keeps_cell k1 c1
  clear HNm HK0 HB k1
  go_wp2_with fail
  (with_reducible refine (HDh.out _).mono ?_)
  rintro e w2 ⟨rfl, k2⟩
  have HK2 := hide (HK1.out.trans k2 (fun _ _ e => e))
  have hB2 := k2.blk8 HB1.out
  clear HDh HK1 HB1 k2 c0 c1
  have hh1 := HH1.out
  go_upto_region 3 with fail
  clear hh1 HH1 hHs
  obtain ⟨c0, c1, c2, c3, c4, c5, c6, c7, c8⟩ := nine_cells hB2
  clear hB2
  go_wp2_with fail
  go_ret
  exact ⟨rfl, HK2.out⟩
set_option maxRecDepth 100000 in
set_option maxHeartbeats 4000000 in
theorem rl_2 (h n : Int) (u v : Nat) (key elem : ByteArray) (fl hl : List Int) (sf sh : Option Addr) (nf cf nh ch : Nat) (w : World) (hc : CmdIn w ⟨2, h, u, v, n, key, elem, fl, hl⟩ (.slice sf nf cf) (.slice sh nh ch)) :
    Calls Tryd.prog 14 #[.agg #[.int .i64 2, .int .i64 h, .slice sf nf cf, .slice sh nh ch, .int .u64 (u : Int), .int .u64 (v : Int), .int .i64 n, .string key, .string elem]] w fun e w' => e = .returned (.string (nameD 2 ++ (⟨#[32]⟩ ++ numD h) ++ ⟨#[32]⟩ ++ bytesD key)) ∧ Keeps w w' (fun _ => False) := by
  have hNm := fun (W : World) => rname_any 2 W
  have hNs := nm_size 2
  have hDh := fun (W : World) => dec_any h hc.h.1 hc.h.2 W
  have hHs := num_size h hc.h.1 hc.h.2
  have HNm := hide hNm
  have HDh := hide hDh
  clear hNm hDh
  have hN1 := fun (W : World) (k : Keeps w W (fun _ => False)) => rbytes_any key hc.key W
  have hz1 := byte_sz hc.key
  have HN1 := hide hN1
  clear hN1
  generalize bytesD key = E1 at *
  clear hc
  generalize nameD 2 = ND at *
  generalize numD h = HD at *
  obtain ⟨H1, hH1⟩ : ∃ H1, (⟨#[32]⟩ : ByteArray) ++ HD = H1 := ⟨_, rfl⟩
  have hHz : H1.size ≤ 21 := by
    rw [← hH1, ByteArray.size_append]
    show 1 + HD.size ≤ 21
    omega
  rw [hH1]
  have HH1 := hide hH1
  clear hH1
  go_enter Tryd.func14, Tryd.ntmps14
  go_upto_region 1 with fail
  refine alloc1 (P := fun W => Code.wp _ _ _ _ W) fun W0 hb hz k0 => ?_
  obtain ⟨c0, c1, -, -, -, -, -, -, -⟩ := nine_cells hb
  have HK0 := hide k0
  have HB := hide hb
  clear hb hz k0
  go_wp2_with fail
  (with_reducible refine (HNm.out _).mono ?_)
  rintro e w1 ⟨rfl, k1⟩
  have HK1 := hide (HK0.out.trans k1 (fun _ _ e => e))
  have HB1 := hide (k1.blk8 HB.out)
  replace c0 := keeps_cell k1 c0
  replace c1 := keeps_cell k1 c1
  clear HNm HK0 HB k1
  go_wp2_with fail
  (with_reducible refine (HDh.out _).mono ?_)
  rintro e w2 ⟨rfl, k2⟩
  have HK2 := hide (HK1.out.trans k2 (fun _ _ e => e))
  have hB2 := k2.blk8 HB1.out
  clear HDh HK1 HB1 k2 c0 c1
  have hh1 := HH1.out
  go_upto_region 3 with fail
  clear hh1 HH1 hHs
  obtain ⟨c0, c1, c2, c3, c4, c5, c6, c7, c8⟩ := nine_cells hB2
  clear hB2
  go_wp2_with fail
  (with_reducible refine (HN1.out _ HK2.out).mono ?_)
  rintro e w3 ⟨rfl, k3⟩
  have HK3 := hide (HK2.out.trans k3 (fun _ _ e => e))
  clear HN1 HK2 k3
  go_wp2_with fail
  go_ret
  exact ⟨rfl, HK3.out⟩
set_option maxRecDepth 100000 in
set_option maxHeartbeats 4000000 in
theorem rl_4 (h n : Int) (u v : Nat) (key elem : ByteArray) (fl hl : List Int) (sf sh : Option Addr) (nf cf nh ch : Nat) (w : World) (hc : CmdIn w ⟨4, h, u, v, n, key, elem, fl, hl⟩ (.slice sf nf cf) (.slice sh nh ch)) :
    Calls Tryd.prog 14 #[.agg #[.int .i64 4, .int .i64 h, .slice sf nf cf, .slice sh nh ch, .int .u64 (u : Int), .int .u64 (v : Int), .int .i64 n, .string key, .string elem]] w fun e w' => e = .returned (.string (nameD 4 ++ (⟨#[32]⟩ ++ numD h) ++ ⟨#[32]⟩ ++ bytesD key)) ∧ Keeps w w' (fun _ => False) := by
  have hNm := fun (W : World) => rname_any 4 W
  have hNs := nm_size 4
  have hDh := fun (W : World) => dec_any h hc.h.1 hc.h.2 W
  have hHs := num_size h hc.h.1 hc.h.2
  have HNm := hide hNm
  have HDh := hide hDh
  clear hNm hDh
  have hN1 := fun (W : World) (k : Keeps w W (fun _ => False)) => rbytes_any key hc.key W
  have hz1 := byte_sz hc.key
  have HN1 := hide hN1
  clear hN1
  generalize bytesD key = E1 at *
  clear hc
  generalize nameD 4 = ND at *
  generalize numD h = HD at *
  obtain ⟨H1, hH1⟩ : ∃ H1, (⟨#[32]⟩ : ByteArray) ++ HD = H1 := ⟨_, rfl⟩
  have hHz : H1.size ≤ 21 := by
    rw [← hH1, ByteArray.size_append]
    show 1 + HD.size ≤ 21
    omega
  rw [hH1]
  have HH1 := hide hH1
  clear hH1
  go_enter Tryd.func14, Tryd.ntmps14
  go_upto_region 1 with fail
  refine alloc1 (P := fun W => Code.wp _ _ _ _ W) fun W0 hb hz k0 => ?_
  obtain ⟨c0, c1, -, -, -, -, -, -, -⟩ := nine_cells hb
  have HK0 := hide k0
  have HB := hide hb
  clear hb hz k0
  go_wp2_with fail
  (with_reducible refine (HNm.out _).mono ?_)
  rintro e w1 ⟨rfl, k1⟩
  have HK1 := hide (HK0.out.trans k1 (fun _ _ e => e))
  have HB1 := hide (k1.blk8 HB.out)
  replace c0 := keeps_cell k1 c0
  replace c1 := keeps_cell k1 c1
  clear HNm HK0 HB k1
  go_wp2_with fail
  (with_reducible refine (HDh.out _).mono ?_)
  rintro e w2 ⟨rfl, k2⟩
  have HK2 := hide (HK1.out.trans k2 (fun _ _ e => e))
  have hB2 := k2.blk8 HB1.out
  clear HDh HK1 HB1 k2 c0 c1
  have hh1 := HH1.out
  go_upto_region 3 with fail
  clear hh1 HH1 hHs
  obtain ⟨c0, c1, c2, c3, c4, c5, c6, c7, c8⟩ := nine_cells hB2
  clear hB2
  go_wp2_with fail
  (with_reducible refine (HN1.out _ HK2.out).mono ?_)
  rintro e w3 ⟨rfl, k3⟩
  have HK3 := hide (HK2.out.trans k3 (fun _ _ e => e))
  clear HN1 HK2 k3
  go_wp2_with fail
  go_ret
  exact ⟨rfl, HK3.out⟩
set_option maxRecDepth 100000 in
set_option maxHeartbeats 4000000 in
theorem rl_12 (h n : Int) (u v : Nat) (key elem : ByteArray) (fl hl : List Int) (sf sh : Option Addr) (nf cf nh ch : Nat) (w : World) (hc : CmdIn w ⟨12, h, u, v, n, key, elem, fl, hl⟩ (.slice sf nf cf) (.slice sh nh ch)) :
    Calls Tryd.prog 14 #[.agg #[.int .i64 12, .int .i64 h, .slice sf nf cf, .slice sh nh ch, .int .u64 (u : Int), .int .u64 (v : Int), .int .i64 n, .string key, .string elem]] w fun e w' => e = .returned (.string (nameD 12 ++ (⟨#[32]⟩ ++ numD h) ++ ⟨#[32]⟩ ++ bytesD key)) ∧ Keeps w w' (fun _ => False) := by
  have hNm := fun (W : World) => rname_any 12 W
  have hNs := nm_size 12
  have hDh := fun (W : World) => dec_any h hc.h.1 hc.h.2 W
  have hHs := num_size h hc.h.1 hc.h.2
  have HNm := hide hNm
  have HDh := hide hDh
  clear hNm hDh
  have hN1 := fun (W : World) (k : Keeps w W (fun _ => False)) => rbytes_any key hc.key W
  have hz1 := byte_sz hc.key
  have HN1 := hide hN1
  clear hN1
  generalize bytesD key = E1 at *
  clear hc
  generalize nameD 12 = ND at *
  generalize numD h = HD at *
  obtain ⟨H1, hH1⟩ : ∃ H1, (⟨#[32]⟩ : ByteArray) ++ HD = H1 := ⟨_, rfl⟩
  have hHz : H1.size ≤ 21 := by
    rw [← hH1, ByteArray.size_append]
    show 1 + HD.size ≤ 21
    omega
  rw [hH1]
  have HH1 := hide hH1
  clear hH1
  go_enter Tryd.func14, Tryd.ntmps14
  go_upto_region 1 with fail
  refine alloc1 (P := fun W => Code.wp _ _ _ _ W) fun W0 hb hz k0 => ?_
  obtain ⟨c0, c1, -, -, -, -, -, -, -⟩ := nine_cells hb
  have HK0 := hide k0
  have HB := hide hb
  clear hb hz k0
  go_wp2_with fail
  (with_reducible refine (HNm.out _).mono ?_)
  rintro e w1 ⟨rfl, k1⟩
  have HK1 := hide (HK0.out.trans k1 (fun _ _ e => e))
  have HB1 := hide (k1.blk8 HB.out)
  replace c0 := keeps_cell k1 c0
  replace c1 := keeps_cell k1 c1
  clear HNm HK0 HB k1
  go_wp2_with fail
  (with_reducible refine (HDh.out _).mono ?_)
  rintro e w2 ⟨rfl, k2⟩
  have HK2 := hide (HK1.out.trans k2 (fun _ _ e => e))
  have hB2 := k2.blk8 HB1.out
  clear HDh HK1 HB1 k2 c0 c1
  have hh1 := HH1.out
  go_upto_region 3 with fail
  clear hh1 HH1 hHs
  obtain ⟨c0, c1, c2, c3, c4, c5, c6, c7, c8⟩ := nine_cells hB2
  clear hB2
  go_wp2_with fail
  (with_reducible refine (HN1.out _ HK2.out).mono ?_)
  rintro e w3 ⟨rfl, k3⟩
  have HK3 := hide (HK2.out.trans k3 (fun _ _ e => e))
  clear HN1 HK2 k3
  go_wp2_with fail
  go_ret
  exact ⟨rfl, HK3.out⟩
set_option maxRecDepth 100000 in
set_option maxHeartbeats 4000000 in
theorem rl_6 (h n : Int) (u v : Nat) (key elem : ByteArray) (fl hl : List Int) (sf sh : Option Addr) (nf cf nh ch : Nat) (w : World) (hc : CmdIn w ⟨6, h, u, v, n, key, elem, fl, hl⟩ (.slice sf nf cf) (.slice sh nh ch)) :
    Calls Tryd.prog 14 #[.agg #[.int .i64 6, .int .i64 h, .slice sf nf cf, .slice sh nh ch, .int .u64 (u : Int), .int .u64 (v : Int), .int .i64 n, .string key, .string elem]] w fun e w' => e = .returned (.string (nameD 6 ++ (⟨#[32]⟩ ++ numD h) ++ ⟨#[32]⟩ ++ wordD u)) ∧ Keeps w w' (fun _ => False) := by
  have hNm := fun (W : World) => rname_any 6 W
  have hNs := nm_size 6
  have hDh := fun (W : World) => dec_any h hc.h.1 hc.h.2 W
  have hHs := num_size h hc.h.1 hc.h.2
  have HNm := hide hNm
  have HDh := hide hDh
  clear hNm hDh
  have hN1 := fun (W : World) (k : Keeps w W (fun _ => False)) => rword_any u hc.u W
  have hz1 := word_sz hc.u
  have HN1 := hide hN1
  clear hN1
  generalize wordD u = E1 at *
  clear hc
  generalize nameD 6 = ND at *
  generalize numD h = HD at *
  obtain ⟨H1, hH1⟩ : ∃ H1, (⟨#[32]⟩ : ByteArray) ++ HD = H1 := ⟨_, rfl⟩
  have hHz : H1.size ≤ 21 := by
    rw [← hH1, ByteArray.size_append]
    show 1 + HD.size ≤ 21
    omega
  rw [hH1]
  have HH1 := hide hH1
  clear hH1
  go_enter Tryd.func14, Tryd.ntmps14
  go_upto_region 1 with fail
  refine alloc1 (P := fun W => Code.wp _ _ _ _ W) fun W0 hb hz k0 => ?_
  obtain ⟨c0, c1, -, -, -, -, -, -, -⟩ := nine_cells hb
  have HK0 := hide k0
  have HB := hide hb
  clear hb hz k0
  go_wp2_with fail
  (with_reducible refine (HNm.out _).mono ?_)
  rintro e w1 ⟨rfl, k1⟩
  have HK1 := hide (HK0.out.trans k1 (fun _ _ e => e))
  have HB1 := hide (k1.blk8 HB.out)
  replace c0 := keeps_cell k1 c0
  replace c1 := keeps_cell k1 c1
  clear HNm HK0 HB k1
  go_wp2_with fail
  (with_reducible refine (HDh.out _).mono ?_)
  rintro e w2 ⟨rfl, k2⟩
  have HK2 := hide (HK1.out.trans k2 (fun _ _ e => e))
  have hB2 := k2.blk8 HB1.out
  clear HDh HK1 HB1 k2 c0 c1
  have hh1 := HH1.out
  go_upto_region 3 with fail
  clear hh1 HH1 hHs
  obtain ⟨c0, c1, c2, c3, c4, c5, c6, c7, c8⟩ := nine_cells hB2
  clear hB2
  go_wp2_with fail
  (with_reducible refine (HN1.out _ HK2.out).mono ?_)
  rintro e w3 ⟨rfl, k3⟩
  have HK3 := hide (HK2.out.trans k3 (fun _ _ e => e))
  clear HN1 HK2 k3
  go_wp2_with fail
  go_ret
  exact ⟨rfl, HK3.out⟩
set_option maxRecDepth 100000 in
set_option maxHeartbeats 4000000 in
theorem rl_10 (h n : Int) (u v : Nat) (key elem : ByteArray) (fl hl : List Int) (sf sh : Option Addr) (nf cf nh ch : Nat) (w : World) (hc : CmdIn w ⟨10, h, u, v, n, key, elem, fl, hl⟩ (.slice sf nf cf) (.slice sh nh ch)) :
    Calls Tryd.prog 14 #[.agg #[.int .i64 10, .int .i64 h, .slice sf nf cf, .slice sh nh ch, .int .u64 (u : Int), .int .u64 (v : Int), .int .i64 n, .string key, .string elem]] w fun e w' => e = .returned (.string (nameD 10 ++ strOf (numsL hl))) ∧ Keeps w w' (fun _ => False) := by
  have hNm := fun (W : World) => rname_any 10 W
  have hNs := nm_size 10
  have hDh := fun (W : World) => dec_any h hc.h.1 hc.h.2 W
  have hHs := num_size h hc.h.1 hc.h.2
  have HNm := hide hNm
  have HDh := hide hDh
  clear hNm hDh
  have hN1 := fun (W : World) (k : Keeps w W (fun _ => False)) => rnums_any _ hl hc.ls W (hc.s.keeps k)
  have hz1 := nums_size hc.s.fits hc.ls
  have HN1 := hide hN1
  clear hN1
  generalize strOf (numsL hl) = E1 at *
  clear hc
  generalize nameD 10 = ND at *
  generalize numD h = HD at *
  obtain ⟨H1, hH1⟩ : ∃ H1, (⟨#[32]⟩ : ByteArray) ++ HD = H1 := ⟨_, rfl⟩
  have hHz : H1.size ≤ 21 := by
    rw [← hH1, ByteArray.size_append]
    show 1 + HD.size ≤ 21
    omega
  have HH1 := hide hH1
  clear hH1
  go_enter Tryd.func14, Tryd.ntmps14
  go_upto_region 1 with fail
  refine alloc1 (P := fun W => Code.wp _ _ _ _ W) fun W0 hb hz k0 => ?_
  obtain ⟨c0, c1, -, -, -, -, -, -, -⟩ := nine_cells hb
  have HK0 := hide k0
  have HB := hide hb
  clear hb hz k0
  go_wp2_with fail
  (with_reducible refine (HNm.out _).mono ?_)
  rintro e w1 ⟨rfl, k1⟩
  have HK1 := hide (HK0.out.trans k1 (fun _ _ e => e))
  have HB1 := hide (k1.blk8 HB.out)
  replace c0 := keeps_cell k1 c0
  replace c1 := keeps_cell k1 c1
  clear HNm HK0 HB k1
  go_wp2_with fail
  (with_reducible refine (HDh.out _).mono ?_)
  rintro e w2 ⟨rfl, k2⟩
  have HK2 := hide (HK1.out.trans k2 (fun _ _ e => e))
  have hB2 := k2.blk8 HB1.out
  clear HDh HK1 HB1 k2 c0 c1
  have hh1 := HH1.out
  go_upto_region 3 with fail
  clear hh1 HH1 hHs
  obtain ⟨c0, c1, c2, c3, c4, c5, c6, c7, c8⟩ := nine_cells hB2
  clear hB2
  go_wp2_with fail
  (with_reducible refine (HN1.out _ HK2.out).mono ?_)
  rintro e w3 ⟨rfl, k3⟩
  have HK3 := hide (HK2.out.trans k3 (fun _ _ e => e))
  clear HN1 HK2 k3
  go_wp2_with fail
  go_ret
  exact ⟨rfl, HK3.out⟩
set_option maxRecDepth 100000 in
set_option maxHeartbeats 4000000 in
theorem rl_no (op h n : Int) (u v : Nat) (key elem : ByteArray) (fl hl : List Int) (sf sh : Option Addr) (nf cf nh ch : Nat) (w : World) (hc : CmdIn w ⟨op, h, u, v, n, key, elem, fl, hl⟩ (.slice sf nf cf) (.slice sh nh ch)) (hno : ¬ (1 ≤ op ∧ op ≤ 14)) :
    Calls Tryd.prog 14 #[.agg #[.int .i64 op, .int .i64 h, .slice sf nf cf, .slice sh nh ch, .int .u64 (u : Int), .int .u64 (v : Int), .int .i64 n, .string key, .string elem]] w fun e w' => e = .returned (.string (nameD op)) ∧ Keeps w w' (fun _ => False) := by
  have e1 : (op == 1) = false := by simp; omega
  have e2 : (op == 2) = false := by simp; omega
  have e3 : (op == 3) = false := by simp; omega
  have e4 : (op == 4) = false := by simp; omega
  have e5 : (op == 5) = false := by simp; omega
  have e6 : (op == 6) = false := by simp; omega
  have e7 : (op == 7) = false := by simp; omega
  have e8 : (op == 8) = false := by simp; omega
  have e9 : (op == 9) = false := by simp; omega
  have e10 : (op == 10) = false := by simp; omega
  have e11 : (op == 11) = false := by simp; omega
  have e12 : (op == 12) = false := by simp; omega
  have e13 : (op == 13) = false := by simp; omega
  have e14 : (op == 14) = false := by simp; omega
  clear hno
  have hNm := fun (W : World) => rname_any op W
  have hNs := nm_size op
  have hDh := fun (W : World) => dec_any h hc.h.1 hc.h.2 W
  have hHs := num_size h hc.h.1 hc.h.2
  have HNm := hide hNm
  have HDh := hide hDh
  clear hNm hDh
  clear hc
  generalize nameD op = ND at *
  generalize numD h = HD at *
  obtain ⟨H1, hH1⟩ : ∃ H1, (⟨#[32]⟩ : ByteArray) ++ HD = H1 := ⟨_, rfl⟩
  have hHz : H1.size ≤ 21 := by
    rw [← hH1, ByteArray.size_append]
    show 1 + HD.size ≤ 21
    omega
  have HH1 := hide hH1
  clear hH1
  go_enter Tryd.func14, Tryd.ntmps14
  go_upto_region 1 with fail
  refine alloc1 (P := fun W => Code.wp _ _ _ _ W) fun W0 hb hz k0 => ?_
  obtain ⟨c0, c1, -, -, -, -, -, -, -⟩ := nine_cells hb
  have HK0 := hide k0
  have HB := hide hb
  clear hb hz k0
  go_wp2_with fail
  (with_reducible refine (HNm.out _).mono ?_)
  rintro e w1 ⟨rfl, k1⟩
  have HK1 := hide (HK0.out.trans k1 (fun _ _ e => e))
  have HB1 := hide (k1.blk8 HB.out)
  replace c0 := keeps_cell k1 c0
  replace c1 := keeps_cell k1 c1
  clear HNm HK0 HB k1
  go_wp2_with fail
  (with_reducible refine (HDh.out _).mono ?_)
  rintro e w2 ⟨rfl, k2⟩
  have HK2 := hide (HK1.out.trans k2 (fun _ _ e => e))
  have hB2 := k2.blk8 HB1.out
  clear HDh HK1 HB1 k2 c0 c1
  have hh1 := HH1.out
  go_upto_region 3 with fail
  clear hh1 HH1 hHs
  obtain ⟨c0, c1, c2, c3, c4, c5, c6, c7, c8⟩ := nine_cells hB2
  clear hB2
  go_wp2_with fail
  go_ret
  exact ⟨rfl, HK2.out⟩
set_option maxRecDepth 100000 in
set_option maxHeartbeats 4000000 in
theorem rl_3 (h n : Int) (u v : Nat) (key elem : ByteArray) (fl hl : List Int) (sf sh : Option Addr) (nf cf nh ch : Nat) (w : World) (hc : CmdIn w ⟨3, h, u, v, n, key, elem, fl, hl⟩ (.slice sf nf cf) (.slice sh nh ch)) :
    Calls Tryd.prog 14 #[.agg #[.int .i64 3, .int .i64 h, .slice sf nf cf, .slice sh nh ch, .int .u64 (u : Int), .int .u64 (v : Int), .int .i64 n, .string key, .string elem]] w fun e w' => e = .returned (.string (nameD 3 ++ (⟨#[32]⟩ ++ numD h) ++ ⟨#[32]⟩ ++ bytesD key ++ ⟨#[32]⟩ ++ bytesD elem)) ∧ Keeps w w' (fun _ => False) := by
  have hNm := fun (W : World) => rname_any 3 W
  have hNs := nm_size 3
  have hDh := fun (W : World) => dec_any h hc.h.1 hc.h.2 W
  have hHs := num_size h hc.h.1 hc.h.2
  have HNm := hide hNm
  have HDh := hide hDh
  clear hNm hDh
  have hN1 := fun (W : World) (k : Keeps w W (fun _ => False)) => rbytes_any key hc.key W
  have hz1 := byte_sz hc.key
  have HN1 := hide hN1
  clear hN1
  have hN2 := fun (W : World) (k : Keeps w W (fun _ => False)) => rbytes_any elem hc.elem W
  have hz2 := byte_sz hc.elem
  have HN2 := hide hN2
  clear hN2
  generalize bytesD key = E1 at *
  generalize bytesD elem = E2 at *
  clear hc
  generalize nameD 3 = ND at *
  generalize numD h = HD at *
  obtain ⟨H1, hH1⟩ : ∃ H1, (⟨#[32]⟩ : ByteArray) ++ HD = H1 := ⟨_, rfl⟩
  have hHz : H1.size ≤ 21 := by
    rw [← hH1, ByteArray.size_append]
    show 1 + HD.size ≤ 21
    omega
  rw [hH1]
  have HH1 := hide hH1
  clear hH1
  go_enter Tryd.func14, Tryd.ntmps14
  go_upto_region 1 with fail
  refine alloc1 (P := fun W => Code.wp _ _ _ _ W) fun W0 hb hz k0 => ?_
  obtain ⟨c0, c1, -, -, -, -, -, -, -⟩ := nine_cells hb
  have HK0 := hide k0
  have HB := hide hb
  clear hb hz k0
  go_wp2_with fail
  (with_reducible refine (HNm.out _).mono ?_)
  rintro e w1 ⟨rfl, k1⟩
  have HK1 := hide (HK0.out.trans k1 (fun _ _ e => e))
  have HB1 := hide (k1.blk8 HB.out)
  replace c0 := keeps_cell k1 c0
  replace c1 := keeps_cell k1 c1
  clear HNm HK0 HB k1
  go_wp2_with fail
  (with_reducible refine (HDh.out _).mono ?_)
  rintro e w2 ⟨rfl, k2⟩
  have HK2 := hide (HK1.out.trans k2 (fun _ _ e => e))
  have hB2 := k2.blk8 HB1.out
  clear HDh HK1 HB1 k2 c0 c1
  have hh1 := HH1.out
  go_upto_region 3 with fail
  clear hh1 HH1 hHs
  obtain ⟨c0, c1, c2, c3, c4, c5, c6, c7, c8⟩ := nine_cells hB2
  clear hB2
  have S0 : (fun w' : World => w'.cell? ⟨w.heap.size, 7, none⟩ = some (.string key) ∧ w'.cell? ⟨w.heap.size, 8, none⟩ = some (.string elem)) w2.drew := ⟨c7, c8⟩
  have l0 : ¬ 9223372036854775807 < ND.size + H1.size := by omega
  have m0 : ND.size + H1.size ≤ 9223372036854775807 := by omega
  have l1 : ¬ 9223372036854775807 < ND.size + H1.size + 1 := by omega
  have m1 : ND.size + H1.size + 1 ≤ 9223372036854775807 := by omega
  have l2 : ¬ 9223372036854775807 < ND.size + H1.size + 1 + E1.size := by omega
  have m2 : ND.size + H1.size + 1 + E1.size ≤ 9223372036854775807 := by omega
  have l3 : ¬ 9223372036854775807 < ND.size + H1.size + 1 + E1.size + 1 := by omega
  have m3 : ND.size + H1.size + 1 + E1.size + 1 ≤ 9223372036854775807 := by omega
  have l4 : ¬ 9223372036854775807 < ND.size + H1.size + 1 + E1.size + 1 + E2.size := by omega
  have m4 : ND.size + H1.size + 1 + E1.size + 1 + E2.size ≤ 9223372036854775807 := by omega
  go_wp2_with fail
  go_region_held3 (fun w' : World => w'.cell? ⟨w.heap.size, 7, none⟩ = some (.string key) ∧ w'.cell? ⟨w.heap.size, 8, none⟩ = some (.string elem)) (first | with_reducible exact S0 | with_reducible exact S1 | with_reducible exact S2 | with_reducible exact S3 | with_reducible assumption)
    (first | (go_at_call 12; (with_reducible refine (HN1.out _ (HK2.out.drew)).mono ?_); rintro e w3 ⟨rfl, k3⟩; have HK3 := hide (Keeps.trans (HK2.out.drew) k3 (fun _ _ e => e)); have S1 : (fun w' : World => w'.cell? ⟨w.heap.size, 7, none⟩ = some (.string key) ∧ w'.cell? ⟨w.heap.size, 8, none⟩ = some (.string elem)) w3 := ⟨keeps_cell k3 S0.1, keeps_cell k3 S0.2⟩) | (go_at_call 12; (with_reducible refine (HN2.out _ (HK3.out)).mono ?_); rintro e w4 ⟨rfl, k4⟩; have HK4 := hide (Keeps.trans (HK3.out) k4 (fun _ _ e => e)); have S2 : (fun w' : World => w'.cell? ⟨w.heap.size, 7, none⟩ = some (.string key) ∧ w'.cell? ⟨w.heap.size, 8, none⟩ = some (.string elem)) w4 := ⟨keeps_cell k4 S1.1, keeps_cell k4 S1.2⟩))
  all_goals (
    go_wp2_with fail
    go_ret
    exact ⟨rfl, HK4.out⟩)
set_option maxRecDepth 100000 in
set_option maxHeartbeats 4000000 in
theorem rl_8 (h n : Int) (u v : Nat) (key elem : ByteArray) (fl hl : List Int) (sf sh : Option Addr) (nf cf nh ch : Nat) (w : World) (hc : CmdIn w ⟨8, h, u, v, n, key, elem, fl, hl⟩ (.slice sf nf cf) (.slice sh nh ch)) :
    Calls Tryd.prog 14 #[.agg #[.int .i64 8, .int .i64 h, .slice sf nf cf, .slice sh nh ch, .int .u64 (u : Int), .int .u64 (v : Int), .int .i64 n, .string key, .string elem]] w fun e w' => e = .returned (.string (nameD 8 ++ (⟨#[32]⟩ ++ numD h) ++ ⟨#[32]⟩ ++ wordD u ++ ⟨#[32]⟩ ++ wordD v)) ∧ Keeps w w' (fun _ => False) := by
  have hNm := fun (W : World) => rname_any 8 W
  have hNs := nm_size 8
  have hDh := fun (W : World) => dec_any h hc.h.1 hc.h.2 W
  have hHs := num_size h hc.h.1 hc.h.2
  have HNm := hide hNm
  have HDh := hide hDh
  clear hNm hDh
  have hN1 := fun (W : World) (k : Keeps w W (fun _ => False)) => rword_any u hc.u W
  have hz1 := word_sz hc.u
  have HN1 := hide hN1
  clear hN1
  have hN2 := fun (W : World) (k : Keeps w W (fun _ => False)) => rword_any v hc.v W
  have hz2 := word_sz hc.v
  have HN2 := hide hN2
  clear hN2
  generalize wordD u = E1 at *
  generalize wordD v = E2 at *
  clear hc
  generalize nameD 8 = ND at *
  generalize numD h = HD at *
  obtain ⟨H1, hH1⟩ : ∃ H1, (⟨#[32]⟩ : ByteArray) ++ HD = H1 := ⟨_, rfl⟩
  have hHz : H1.size ≤ 21 := by
    rw [← hH1, ByteArray.size_append]
    show 1 + HD.size ≤ 21
    omega
  rw [hH1]
  have HH1 := hide hH1
  clear hH1
  go_enter Tryd.func14, Tryd.ntmps14
  go_upto_region 1 with fail
  refine alloc1 (P := fun W => Code.wp _ _ _ _ W) fun W0 hb hz k0 => ?_
  obtain ⟨c0, c1, -, -, -, -, -, -, -⟩ := nine_cells hb
  have HK0 := hide k0
  have HB := hide hb
  clear hb hz k0
  go_wp2_with fail
  (with_reducible refine (HNm.out _).mono ?_)
  rintro e w1 ⟨rfl, k1⟩
  have HK1 := hide (HK0.out.trans k1 (fun _ _ e => e))
  have HB1 := hide (k1.blk8 HB.out)
  replace c0 := keeps_cell k1 c0
  replace c1 := keeps_cell k1 c1
  clear HNm HK0 HB k1
  go_wp2_with fail
  (with_reducible refine (HDh.out _).mono ?_)
  rintro e w2 ⟨rfl, k2⟩
  have HK2 := hide (HK1.out.trans k2 (fun _ _ e => e))
  have hB2 := k2.blk8 HB1.out
  clear HDh HK1 HB1 k2 c0 c1
  have hh1 := HH1.out
  go_upto_region 3 with fail
  clear hh1 HH1 hHs
  obtain ⟨c0, c1, c2, c3, c4, c5, c6, c7, c8⟩ := nine_cells hB2
  clear hB2
  have S0 : (fun w' : World => w'.cell? ⟨w.heap.size, 4, none⟩ = some (.int .u64 (u : Int)) ∧ w'.cell? ⟨w.heap.size, 5, none⟩ = some (.int .u64 (v : Int))) w2.drew := ⟨c4, c5⟩
  have l0 : ¬ 9223372036854775807 < ND.size + H1.size := by omega
  have m0 : ND.size + H1.size ≤ 9223372036854775807 := by omega
  have l1 : ¬ 9223372036854775807 < ND.size + H1.size + 1 := by omega
  have m1 : ND.size + H1.size + 1 ≤ 9223372036854775807 := by omega
  have l2 : ¬ 9223372036854775807 < ND.size + H1.size + 1 + E1.size := by omega
  have m2 : ND.size + H1.size + 1 + E1.size ≤ 9223372036854775807 := by omega
  have l3 : ¬ 9223372036854775807 < ND.size + H1.size + 1 + E1.size + 1 := by omega
  have m3 : ND.size + H1.size + 1 + E1.size + 1 ≤ 9223372036854775807 := by omega
  have l4 : ¬ 9223372036854775807 < ND.size + H1.size + 1 + E1.size + 1 + E2.size := by omega
  have m4 : ND.size + H1.size + 1 + E1.size + 1 + E2.size ≤ 9223372036854775807 := by omega
  go_wp2_with fail
  go_region_held3 (fun w' : World => w'.cell? ⟨w.heap.size, 4, none⟩ = some (.int .u64 (u : Int)) ∧ w'.cell? ⟨w.heap.size, 5, none⟩ = some (.int .u64 (v : Int))) (first | with_reducible exact S0 | with_reducible exact S1 | with_reducible exact S2 | with_reducible exact S3 | with_reducible assumption)
    (first | (go_at_call 13; (with_reducible refine (HN1.out _ (HK2.out.drew)).mono ?_); rintro e w3 ⟨rfl, k3⟩; have HK3 := hide (Keeps.trans (HK2.out.drew) k3 (fun _ _ e => e)); have S1 : (fun w' : World => w'.cell? ⟨w.heap.size, 4, none⟩ = some (.int .u64 (u : Int)) ∧ w'.cell? ⟨w.heap.size, 5, none⟩ = some (.int .u64 (v : Int))) w3 := ⟨keeps_cell k3 S0.1, keeps_cell k3 S0.2⟩) | (go_at_call 13; (with_reducible refine (HN2.out _ (HK3.out)).mono ?_); rintro e w4 ⟨rfl, k4⟩; have HK4 := hide (Keeps.trans (HK3.out) k4 (fun _ _ e => e)); have S2 : (fun w' : World => w'.cell? ⟨w.heap.size, 4, none⟩ = some (.int .u64 (u : Int)) ∧ w'.cell? ⟨w.heap.size, 5, none⟩ = some (.int .u64 (v : Int))) w4 := ⟨keeps_cell k4 S1.1, keeps_cell k4 S1.2⟩))
  all_goals (
    go_wp2_with fail
    go_ret
    exact ⟨rfl, HK4.out⟩)
set_option maxRecDepth 100000 in
set_option maxHeartbeats 4000000 in
theorem rl_1 (h n : Int) (u v : Nat) (key elem : ByteArray) (fl hl : List Int) (sf sh : Option Addr) (nf cf nh ch : Nat) (w : World) (hc : CmdIn w ⟨1, h, u, v, n, key, elem, fl, hl⟩ (.slice sf nf cf) (.slice sh nh ch)) :
    Calls Tryd.prog 14 #[.agg #[.int .i64 1, .int .i64 h, .slice sf nf cf, .slice sh nh ch, .int .u64 (u : Int), .int .u64 (v : Int), .int .i64 n, .string key, .string elem]] w fun e w' => e = .returned (.string (nameD 1 ++ ⟨#[32]⟩ ++ wordD u ++ ⟨#[32]⟩ ++ numD n ++ strOf (numsL fl))) ∧ Keeps w w' (fun _ => False) := by
  have hNm := fun (W : World) => rname_any 1 W
  have hNs := nm_size 1
  have hDh := fun (W : World) => dec_any h hc.h.1 hc.h.2 W
  have hHs := num_size h hc.h.1 hc.h.2
  have HNm := hide hNm
  have HDh := hide hDh
  clear hNm hDh
  have hN1 := fun (W : World) (k : Keeps w W (fun _ => False)) => rword_any u hc.u W
  have hz1 := word_sz hc.u
  have HN1 := hide hN1
  clear hN1
  have hN2 := fun (W : World) (k : Keeps w W (fun _ => False)) => dec_any n hc.n.1 hc.n.2 W
  have hz2 := num_size n hc.n.1 hc.n.2
  have HN2 := hide hN2
  clear hN2
  have hN3 := fun (W : World) (k : Keeps w W (fun _ => False)) => rnums_any _ fl hc.lf W (hc.f.keeps k)
  have hz3 := nums_size hc.f.fits hc.lf
  have HN3 := hide hN3
  clear hN3
  generalize wordD u = E1 at *
  generalize numD n = E2 at *
  generalize strOf (numsL fl) = E3 at *
  clear hc
  generalize nameD 1 = ND at *
  generalize numD h = HD at *
  obtain ⟨H1, hH1⟩ : ∃ H1, (⟨#[32]⟩ : ByteArray) ++ HD = H1 := ⟨_, rfl⟩
  have hHz : H1.size ≤ 21 := by
    rw [← hH1, ByteArray.size_append]
    show 1 + HD.size ≤ 21
    omega
  have HH1 := hide hH1
  clear hH1
  go_enter Tryd.func14, Tryd.ntmps14
  go_upto_region 1 with fail
  refine alloc1 (P := fun W => Code.wp _ _ _ _ W) fun W0 hb hz k0 => ?_
  obtain ⟨c0, c1, -, -, -, -, -, -, -⟩ := nine_cells hb
  have HK0 := hide k0
  have HB := hide hb
  clear hb hz k0
  go_wp2_with fail
  (with_reducible refine (HNm.out _).mono ?_)
  rintro e w1 ⟨rfl, k1⟩
  have HK1 := hide (HK0.out.trans k1 (fun _ _ e => e))
  have HB1 := hide (k1.blk8 HB.out)
  replace c0 := keeps_cell k1 c0
  replace c1 := keeps_cell k1 c1
  clear HNm HK0 HB k1
  go_wp2_with fail
  (with_reducible refine (HDh.out _).mono ?_)
  rintro e w2 ⟨rfl, k2⟩
  have HK2 := hide (HK1.out.trans k2 (fun _ _ e => e))
  have hB2 := k2.blk8 HB1.out
  clear HDh HK1 HB1 k2 c0 c1
  have hh1 := HH1.out
  go_upto_region 3 with fail
  clear hh1 HH1 hHs
  obtain ⟨c0, c1, c2, c3, c4, c5, c6, c7, c8⟩ := nine_cells hB2
  clear hB2
  have S0 : (fun w' : World => w'.cell? ⟨w.heap.size, 4, none⟩ = some (.int .u64 (u : Int)) ∧ w'.cell? ⟨w.heap.size, 6, none⟩ = some (.int .i64 n) ∧ w'.cell? ⟨w.heap.size, 2, none⟩ = some (.slice sf nf cf)) w2.drew := ⟨c4, c6, c2⟩
  have l0 : ¬ 9223372036854775807 < ND.size + 1 := by omega
  have m0 : ND.size + 1 ≤ 9223372036854775807 := by omega
  have l1 : ¬ 9223372036854775807 < ND.size + 1 + E1.size := by omega
  have m1 : ND.size + 1 + E1.size ≤ 9223372036854775807 := by omega
  have l2 : ¬ 9223372036854775807 < ND.size + 1 + E1.size + 1 := by omega
  have m2 : ND.size + 1 + E1.size + 1 ≤ 9223372036854775807 := by omega
  have l3 : ¬ 9223372036854775807 < ND.size + 1 + E1.size + 1 + E2.size := by omega
  have m3 : ND.size + 1 + E1.size + 1 + E2.size ≤ 9223372036854775807 := by omega
  have l4 : ¬ 9223372036854775807 < ND.size + 1 + E1.size + 1 + E2.size + E3.size := by omega
  have m4 : ND.size + 1 + E1.size + 1 + E2.size + E3.size ≤ 9223372036854775807 := by omega
  go_wp2_with fail
  go_region_held3 (fun w' : World => w'.cell? ⟨w.heap.size, 4, none⟩ = some (.int .u64 (u : Int)) ∧ w'.cell? ⟨w.heap.size, 6, none⟩ = some (.int .i64 n) ∧ w'.cell? ⟨w.heap.size, 2, none⟩ = some (.slice sf nf cf)) (first | with_reducible exact S0 | with_reducible exact S1 | with_reducible exact S2 | with_reducible exact S3 | with_reducible assumption)
    (first | (go_at_call 13; (with_reducible refine (HN1.out _ (HK2.out.drew)).mono ?_); rintro e w3 ⟨rfl, k3⟩; have HK3 := hide (Keeps.trans (HK2.out.drew) k3 (fun _ _ e => e)); have S1 : (fun w' : World => w'.cell? ⟨w.heap.size, 4, none⟩ = some (.int .u64 (u : Int)) ∧ w'.cell? ⟨w.heap.size, 6, none⟩ = some (.int .i64 n) ∧ w'.cell? ⟨w.heap.size, 2, none⟩ = some (.slice sf nf cf)) w3 := ⟨keeps_cell k3 S0.1, keeps_cell k3 S0.2.1, keeps_cell k3 S0.2.2⟩) | (go_at_call 11; (with_reducible refine (HN2.out _ (HK3.out)).mono ?_); rintro e w4 ⟨rfl, k4⟩; have HK4 := hide (Keeps.trans (HK3.out) k4 (fun _ _ e => e)); have S2 : (fun w' : World => w'.cell? ⟨w.heap.size, 4, none⟩ = some (.int .u64 (u : Int)) ∧ w'.cell? ⟨w.heap.size, 6, none⟩ = some (.int .i64 n) ∧ w'.cell? ⟨w.heap.size, 2, none⟩ = some (.slice sf nf cf)) w4 := ⟨keeps_cell k4 S1.1, keeps_cell k4 S1.2.1, keeps_cell k4 S1.2.2⟩) | (go_at_call 22; (with_reducible refine (HN3.out _ (HK4.out)).mono ?_); rintro e w5 ⟨rfl, k5⟩; have HK5 := hide (Keeps.trans (HK4.out) k5 (fun _ _ e => e)); have S3 : (fun w' : World => w'.cell? ⟨w.heap.size, 4, none⟩ = some (.int .u64 (u : Int)) ∧ w'.cell? ⟨w.heap.size, 6, none⟩ = some (.int .i64 n) ∧ w'.cell? ⟨w.heap.size, 2, none⟩ = some (.slice sf nf cf)) w5 := ⟨keeps_cell k5 S2.1, keeps_cell k5 S2.2.1, keeps_cell k5 S2.2.2⟩))
  all_goals (
    go_wp2_with fail
    go_ret
    exact ⟨rfl, HK5.out⟩)
end Go.Proofs.YtpkbjjbbdhehdaaDoor
