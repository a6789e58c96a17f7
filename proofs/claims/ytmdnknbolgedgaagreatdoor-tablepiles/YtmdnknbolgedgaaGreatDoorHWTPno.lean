/-
  TablePiles (made by genwtp.py).
-/
import Derived.Test.YtmdnknbolgedgaaGreatDoorTn15
namespace Go.Proofs.YtmdnknbolgedgaaGreatDoor
namespace tablePiles
open Go.RowKit Go.Shelf Ly Ct
set_option linter.unusedVariables false

/-- The table's eleven cells, the hash and two widths. -/
abbrev S14 (B1 B3 B7 p H : Nat) (l : Lay) (W : World) : Prop := (C11 B7 p l (16 : Int) W) ∧ W.cell? ⟨B1, 3, none⟩ = some (.int .u64 (H : Int)) ∧ W.cell? ⟨B3, 0, none⟩ = some (.int .i64 l.k) ∧ W.cell? ⟨B3, 1, none⟩ = some (.int .i64 l.e)
theorem s14_of {w wr : World} {p B1 B3 B7 : Nat} {sl : Value} {S N : Int} {H : Nat} {l : Lay} {G k : Nat} (h : PS w wr p B1 B3 B7 sl S N H l G k) : S14 B1 B3 B7 p H l wr := by
  refine ⟨c11_of h.b7, ?_, ?_, ?_⟩
  · simp [World.cell?, h.b1]
  · simp [World.cell?, h.b3]
  · simp [World.cell?, h.b3]
theorem pow8 : ∀ n : Nat, n < 257 → 8 ≤ n → bits BinOp.and IntKind.i64 (n : Int) ((n : Int) - 1) = 0 → n = 8 ∨ n = 16 ∨ n = 32 ∨ n = 64 ∨ n = 128 ∨ n = 256 := by decide +kernel
theorem pow8' {S : Int} (h8 : 8 ≤ S) (h2 : S ≤ 256) (h : bits BinOp.and IntKind.i64 S (S - 1) = 0) : ∃ j G : Nat, j ≤ 5 ∧ G = 2 ^ j ∧ S = ((8 * G : Nat) : Int) := by
  obtain ⟨n, rfl⟩ := Int.eq_ofNat_of_zero_le (show 0 ≤ S by omega)
  rcases pow8 n (by omega) (by omega) h with rfl | rfl | rfl | rfl | rfl | rfl
  · exact ⟨0, 1, by omega, rfl, rfl⟩
  · exact ⟨1, 2, by omega, rfl, rfl⟩
  · exact ⟨2, 4, by omega, rfl, rfl⟩
  · exact ⟨3, 8, by omega, rfl, rfl⟩
  · exact ⟨4, 16, by omega, rfl, rfl⟩
  · exact ⟨5, 32, by omega, rfl, rfl⟩
theorem txk_any {l : Lay} (hv : validB l = true) (q : Nat) (hq : q < 65536) (w : World) : Calls Tryz.prog 14 #[.int .i64 (q : Int), .int .i64 l.k] w fun e w' => e = .returned (.string (txK l q)) ∧ Keeps w w' (fun _ => False) := by
  have hvm := valid_more hv
  have := text_any (q : Int) l.k.toNat w (fitsI_mk (by omega) (by omega)) (by omega)
  rw [Int.toNat_of_nonneg (by omega)] at this
  exact this
theorem txe_any {l : Lay} (hv : validB l = true) (q : Nat) (hq : q < 65536) (w : World) : Calls Tryz.prog 14 #[.int .i64 (q : Int), .int .i64 l.e] w fun e w' => e = .returned (.string (txE l q)) ∧ Keeps w w' (fun _ => False) := by
  have hvm := valid_more hv
  have := text_any (q : Int) l.e.toNat w (fitsI_mk (by omega) (by omega)) (by omega)
  rw [Int.toNat_of_nonneg (by omega)] at this
  exact this

theorem wrapG {G : Nat} (h : G ≤ 32) : wrap64 ((G : Int) * 7) = (G : Int) * 7 ∧ IntKind.i64.wrap ((G : Int) * 7) = (G : Int) * 7 := by
  obtain ⟨x, hx⟩ : ∃ x, (G : Int) * 7 = x := ⟨_, rfl⟩
  have h1 : 0 ≤ x := by omega
  have h2 : x ≤ 224 := by omega
  rw [hx]
  clear hx h
  constructor
  · unfold wrap64; omega
  · rw [IntKind.wrap_i64]; omega
theorem wrG {G : Nat} (h : G ≤ 32) : IntKind.i64.wrap (G : Int) = (G : Int) ∧ wrap64 (G : Int) = (G : Int) := by
  constructor
  · rw [IntKind.wrap_i64]; omega
  · unfold wrap64; omega
theorem wrapS {S : Int} (h8 : ¬ S < 8) (h2 : ¬ 256 < S) : IntKind.i64.wrap (S - 1) = S - 1 ∧ wrap64 (S - 1) = S - 1 := by
  constructor
  · rw [IntKind.wrap_i64]; omega
  · unfold wrap64; omega
set_option maxRecDepth 100000 in
set_option maxHeartbeats 8000000 in
theorem no0 (sl : Value) (S N : Int) (H : Nat) (hH : H < 18446744073709551616) (l : Lay) (E : Int) (w : World) (hPar : ∀ W, Keeps w W (fun _ => False) → Calls Tryz.prog 9 #[sl] W fun r w' => r = .returned (.tuple #[.agg #[.int .i64 l.k, .int .i64 l.e, .int .i64 l.a, .int .i64 l.b, .int .i64 l.c, .int .i64 l.eo, .int .i64 l.bo, .int .i64 l.s, .int .i64 l.g], .int .i64 E]) ∧ Keeps W w' (fun _ => False)) (h0 : E ≠ 0) :
    Calls Tryz.prog 3 #[.agg #[sl, .int .i64 S, .int .i64 N, .int .u64 (H : Int)]] w fun e w' => e = .returned (.bool true) ∧ Keeps w w' (fun _ => False) := by
  have e0 : (E != 0) = true := by simp [h0]
  go_enter Tryz.func3, Tryz.ntmps3
  go_wp2_with fail
  refine alloc1 (P := fun W => Calls _ _ _ W _) fun W0 hb hz K0 => ?_
  (with_reducible refine (hPar _ K0).mono ?_)
  rintro r w1 ⟨rfl, k1⟩
  have k2 : Keeps w1 (w1.alloc (.cells #[.int .i64 l.k, .int .i64 l.e, .int .i64 l.a, .int .i64 l.b, .int .i64 l.c, .int .i64 l.eo, .int .i64 l.bo, .int .i64 l.s, .int .i64 l.g] 27)) (fun _ => False) := (Keeps.refl _ _).alloc _
  have hb2 := k2.blk (k1.blk hb)
  have q0 : (w1.alloc (.cells #[.int .i64 l.k, .int .i64 l.e, .int .i64 l.a, .int .i64 l.b, .int .i64 l.c, .int .i64 l.eo, .int .i64 l.bo, .int .i64 l.s, .int .i64 l.g] 27)).cell? ⟨w.heap.size, 1, none⟩ = some (.int .i64 S) := by simp only [World.cell?, hb2]; rfl
  have q1 : (w1.alloc (.cells #[.int .i64 l.k, .int .i64 l.e, .int .i64 l.a, .int .i64 l.b, .int .i64 l.c, .int .i64 l.eo, .int .i64 l.bo, .int .i64 l.s, .int .i64 l.g] 27)).cell? ⟨w.heap.size, 2, none⟩ = some (.int .i64 N) := by simp only [World.cell?, hb2]; rfl
  have KK := hide ((K0.trans k1 (fun _ _ e => e)).trans k2 (fun _ _ e => e))
  clear hPar k1 k2 K0 hb hb2
  go_wp2_with fail
  go_ret
  exact ⟨rfl, KK.out⟩
set_option maxRecDepth 100000 in
set_option maxHeartbeats 8000000 in
theorem no1 (sl : Value) (S N : Int) (H : Nat) (hH : H < 18446744073709551616) (l : Lay) (E : Int) (w : World) (hPar : ∀ W, Keeps w W (fun _ => False) → Calls Tryz.prog 9 #[sl] W fun r w' => r = .returned (.tuple #[.agg #[.int .i64 l.k, .int .i64 l.e, .int .i64 l.a, .int .i64 l.b, .int .i64 l.c, .int .i64 l.eo, .int .i64 l.bo, .int .i64 l.s, .int .i64 l.g], .int .i64 E]) ∧ Keeps W w' (fun _ => False)) (h0 : E = 0) (h1 : S < 8) :
    Calls Tryz.prog 3 #[.agg #[sl, .int .i64 S, .int .i64 N, .int .u64 (H : Int)]] w fun e w' => e = .returned (.bool true) ∧ Keeps w w' (fun _ => False) := by
  subst h0
  go_enter Tryz.func3, Tryz.ntmps3
  go_wp2_with fail
  refine alloc1 (P := fun W => Calls _ _ _ W _) fun W0 hb hz K0 => ?_
  (with_reducible refine (hPar _ K0).mono ?_)
  rintro r w1 ⟨rfl, k1⟩
  have k2 : Keeps w1 (w1.alloc (.cells #[.int .i64 l.k, .int .i64 l.e, .int .i64 l.a, .int .i64 l.b, .int .i64 l.c, .int .i64 l.eo, .int .i64 l.bo, .int .i64 l.s, .int .i64 l.g] 27)) (fun _ => False) := (Keeps.refl _ _).alloc _
  have hb2 := k2.blk (k1.blk hb)
  have q0 : (w1.alloc (.cells #[.int .i64 l.k, .int .i64 l.e, .int .i64 l.a, .int .i64 l.b, .int .i64 l.c, .int .i64 l.eo, .int .i64 l.bo, .int .i64 l.s, .int .i64 l.g] 27)).cell? ⟨w.heap.size, 1, none⟩ = some (.int .i64 S) := by simp only [World.cell?, hb2]; rfl
  have q1 : (w1.alloc (.cells #[.int .i64 l.k, .int .i64 l.e, .int .i64 l.a, .int .i64 l.b, .int .i64 l.c, .int .i64 l.eo, .int .i64 l.bo, .int .i64 l.s, .int .i64 l.g] 27)).cell? ⟨w.heap.size, 2, none⟩ = some (.int .i64 N) := by simp only [World.cell?, hb2]; rfl
  have KK := hide ((K0.trans k1 (fun _ _ e => e)).trans k2 (fun _ _ e => e))
  clear hPar k1 k2 K0 hb hb2
  go_wp2_with fail
  go_ret
  exact ⟨rfl, KK.out⟩
set_option maxRecDepth 100000 in
set_option maxHeartbeats 8000000 in
theorem no2 (sl : Value) (S N : Int) (H : Nat) (hH : H < 18446744073709551616) (l : Lay) (E : Int) (w : World) (hPar : ∀ W, Keeps w W (fun _ => False) → Calls Tryz.prog 9 #[sl] W fun r w' => r = .returned (.tuple #[.agg #[.int .i64 l.k, .int .i64 l.e, .int .i64 l.a, .int .i64 l.b, .int .i64 l.c, .int .i64 l.eo, .int .i64 l.bo, .int .i64 l.s, .int .i64 l.g], .int .i64 E]) ∧ Keeps W w' (fun _ => False)) (h0 : E = 0) (h1 : ¬ S < 8) (h2 : 256 < S) :
    Calls Tryz.prog 3 #[.agg #[sl, .int .i64 S, .int .i64 N, .int .u64 (H : Int)]] w fun e w' => e = .returned (.bool true) ∧ Keeps w w' (fun _ => False) := by
  subst h0
  go_enter Tryz.func3, Tryz.ntmps3
  go_wp2_with fail
  refine alloc1 (P := fun W => Calls _ _ _ W _) fun W0 hb hz K0 => ?_
  (with_reducible refine (hPar _ K0).mono ?_)
  rintro r w1 ⟨rfl, k1⟩
  have k2 : Keeps w1 (w1.alloc (.cells #[.int .i64 l.k, .int .i64 l.e, .int .i64 l.a, .int .i64 l.b, .int .i64 l.c, .int .i64 l.eo, .int .i64 l.bo, .int .i64 l.s, .int .i64 l.g] 27)) (fun _ => False) := (Keeps.refl _ _).alloc _
  have hb2 := k2.blk (k1.blk hb)
  have q0 : (w1.alloc (.cells #[.int .i64 l.k, .int .i64 l.e, .int .i64 l.a, .int .i64 l.b, .int .i64 l.c, .int .i64 l.eo, .int .i64 l.bo, .int .i64 l.s, .int .i64 l.g] 27)).cell? ⟨w.heap.size, 1, none⟩ = some (.int .i64 S) := by simp only [World.cell?, hb2]; rfl
  have q1 : (w1.alloc (.cells #[.int .i64 l.k, .int .i64 l.e, .int .i64 l.a, .int .i64 l.b, .int .i64 l.c, .int .i64 l.eo, .int .i64 l.bo, .int .i64 l.s, .int .i64 l.g] 27)).cell? ⟨w.heap.size, 2, none⟩ = some (.int .i64 N) := by simp only [World.cell?, hb2]; rfl
  have KK := hide ((K0.trans k1 (fun _ _ e => e)).trans k2 (fun _ _ e => e))
  clear hPar k1 k2 K0 hb hb2
  go_wp2_with fail
  go_ret
  exact ⟨rfl, KK.out⟩
set_option maxRecDepth 100000 in
set_option maxHeartbeats 8000000 in
theorem no3 (sl : Value) (S N : Int) (H : Nat) (hH : H < 18446744073709551616) (l : Lay) (E : Int) (w : World) (hPar : ∀ W, Keeps w W (fun _ => False) → Calls Tryz.prog 9 #[sl] W fun r w' => r = .returned (.tuple #[.agg #[.int .i64 l.k, .int .i64 l.e, .int .i64 l.a, .int .i64 l.b, .int .i64 l.c, .int .i64 l.eo, .int .i64 l.bo, .int .i64 l.s, .int .i64 l.g], .int .i64 E]) ∧ Keeps W w' (fun _ => False)) (h0 : E = 0) (h1 : ¬ S < 8) (h2 : ¬ 256 < S) (h3 : bits BinOp.and IntKind.i64 S (S - 1) ≠ 0) :
    Calls Tryz.prog 3 #[.agg #[sl, .int .i64 S, .int .i64 N, .int .u64 (H : Int)]] w fun e w' => e = .returned (.bool true) ∧ Keeps w w' (fun _ => False) := by
  subst h0
  obtain ⟨wa, wb⟩ := wrapS h1 h2
  have e3 : (bits BinOp.and IntKind.i64 S (S - 1) != 0) = true := by simp [h3]
  go_enter Tryz.func3, Tryz.ntmps3
  go_wp2_with fail
  refine alloc1 (P := fun W => Calls _ _ _ W _) fun W0 hb hz K0 => ?_
  (with_reducible refine (hPar _ K0).mono ?_)
  rintro r w1 ⟨rfl, k1⟩
  have k2 : Keeps w1 (w1.alloc (.cells #[.int .i64 l.k, .int .i64 l.e, .int .i64 l.a, .int .i64 l.b, .int .i64 l.c, .int .i64 l.eo, .int .i64 l.bo, .int .i64 l.s, .int .i64 l.g] 27)) (fun _ => False) := (Keeps.refl _ _).alloc _
  have hb2 := k2.blk (k1.blk hb)
  have q0 : (w1.alloc (.cells #[.int .i64 l.k, .int .i64 l.e, .int .i64 l.a, .int .i64 l.b, .int .i64 l.c, .int .i64 l.eo, .int .i64 l.bo, .int .i64 l.s, .int .i64 l.g] 27)).cell? ⟨w.heap.size, 1, none⟩ = some (.int .i64 S) := by simp only [World.cell?, hb2]; rfl
  have q1 : (w1.alloc (.cells #[.int .i64 l.k, .int .i64 l.e, .int .i64 l.a, .int .i64 l.b, .int .i64 l.c, .int .i64 l.eo, .int .i64 l.bo, .int .i64 l.s, .int .i64 l.g] 27)).cell? ⟨w.heap.size, 2, none⟩ = some (.int .i64 N) := by simp only [World.cell?, hb2]; rfl
  have KK := hide ((K0.trans k1 (fun _ _ e => e)).trans k2 (fun _ _ e => e))
  clear hPar k1 k2 K0 hb hb2
  go_wp2_with fail
  go_ret
  exact ⟨rfl, KK.out⟩
set_option maxRecDepth 100000 in
set_option maxHeartbeats 8000000 in
theorem no4 (sl : Value) (S N : Int) (H : Nat) (hH : H < 18446744073709551616) (l : Lay) (E : Int) (w : World) (hPar : ∀ W, Keeps w W (fun _ => False) → Calls Tryz.prog 9 #[sl] W fun r w' => r = .returned (.tuple #[.agg #[.int .i64 l.k, .int .i64 l.e, .int .i64 l.a, .int .i64 l.b, .int .i64 l.c, .int .i64 l.eo, .int .i64 l.bo, .int .i64 l.s, .int .i64 l.g], .int .i64 E]) ∧ Keeps W w' (fun _ => False)) (h0 : E = 0) (h1 : ¬ S < 8) (h2 : ¬ 256 < S) (h3 : bits BinOp.and IntKind.i64 S (S - 1) = 0) (h4 : N < 0) :
    Calls Tryz.prog 3 #[.agg #[sl, .int .i64 S, .int .i64 N, .int .u64 (H : Int)]] w fun e w' => e = .returned (.bool true) ∧ Keeps w w' (fun _ => False) := by
  subst h0
  obtain ⟨wa, wb⟩ := wrapS h1 h2
  go_enter Tryz.func3, Tryz.ntmps3
  go_wp2_with fail
  refine alloc1 (P := fun W => Calls _ _ _ W _) fun W0 hb hz K0 => ?_
  (with_reducible refine (hPar _ K0).mono ?_)
  rintro r w1 ⟨rfl, k1⟩
  have k2 : Keeps w1 (w1.alloc (.cells #[.int .i64 l.k, .int .i64 l.e, .int .i64 l.a, .int .i64 l.b, .int .i64 l.c, .int .i64 l.eo, .int .i64 l.bo, .int .i64 l.s, .int .i64 l.g] 27)) (fun _ => False) := (Keeps.refl _ _).alloc _
  have hb2 := k2.blk (k1.blk hb)
  have q0 : (w1.alloc (.cells #[.int .i64 l.k, .int .i64 l.e, .int .i64 l.a, .int .i64 l.b, .int .i64 l.c, .int .i64 l.eo, .int .i64 l.bo, .int .i64 l.s, .int .i64 l.g] 27)).cell? ⟨w.heap.size, 1, none⟩ = some (.int .i64 S) := by simp only [World.cell?, hb2]; rfl
  have q1 : (w1.alloc (.cells #[.int .i64 l.k, .int .i64 l.e, .int .i64 l.a, .int .i64 l.b, .int .i64 l.c, .int .i64 l.eo, .int .i64 l.bo, .int .i64 l.s, .int .i64 l.g] 27)).cell? ⟨w.heap.size, 2, none⟩ = some (.int .i64 N) := by simp only [World.cell?, hb2]; rfl
  have KK := hide ((K0.trans k1 (fun _ _ e => e)).trans k2 (fun _ _ e => e))
  clear hPar k1 k2 K0 hb hb2
  go_wp2_with fail
  go_ret
  exact ⟨rfl, KK.out⟩
set_option maxRecDepth 100000 in
set_option maxHeartbeats 8000000 in
theorem no5 (sl : Value) (S N : Int) (H : Nat) (hH : H < 18446744073709551616) (l : Lay) (E : Int) (w : World) (hPar : ∀ W, Keeps w W (fun _ => False) → Calls Tryz.prog 9 #[sl] W fun r w' => r = .returned (.tuple #[.agg #[.int .i64 l.k, .int .i64 l.e, .int .i64 l.a, .int .i64 l.b, .int .i64 l.c, .int .i64 l.eo, .int .i64 l.bo, .int .i64 l.s, .int .i64 l.g], .int .i64 E]) ∧ Keeps W w' (fun _ => False)) (h0 : E = 0) (h1 : ¬ S < 8) (h2 : ¬ 256 < S) (h3 : bits BinOp.and IntKind.i64 S (S - 1) = 0) (h4 : ¬ N < 0) (h5 : 300 < N) :
    Calls Tryz.prog 3 #[.agg #[sl, .int .i64 S, .int .i64 N, .int .u64 (H : Int)]] w fun e w' => e = .returned (.bool true) ∧ Keeps w w' (fun _ => False) := by
  subst h0
  obtain ⟨wa, wb⟩ := wrapS h1 h2
  go_enter Tryz.func3, Tryz.ntmps3
  go_wp2_with fail
  refine alloc1 (P := fun W => Calls _ _ _ W _) fun W0 hb hz K0 => ?_
  (with_reducible refine (hPar _ K0).mono ?_)
  rintro r w1 ⟨rfl, k1⟩
  have k2 : Keeps w1 (w1.alloc (.cells #[.int .i64 l.k, .int .i64 l.e, .int .i64 l.a, .int .i64 l.b, .int .i64 l.c, .int .i64 l.eo, .int .i64 l.bo, .int .i64 l.s, .int .i64 l.g] 27)) (fun _ => False) := (Keeps.refl _ _).alloc _
  have hb2 := k2.blk (k1.blk hb)
  have q0 : (w1.alloc (.cells #[.int .i64 l.k, .int .i64 l.e, .int .i64 l.a, .int .i64 l.b, .int .i64 l.c, .int .i64 l.eo, .int .i64 l.bo, .int .i64 l.s, .int .i64 l.g] 27)).cell? ⟨w.heap.size, 1, none⟩ = some (.int .i64 S) := by simp only [World.cell?, hb2]; rfl
  have q1 : (w1.alloc (.cells #[.int .i64 l.k, .int .i64 l.e, .int .i64 l.a, .int .i64 l.b, .int .i64 l.c, .int .i64 l.eo, .int .i64 l.bo, .int .i64 l.s, .int .i64 l.g] 27)).cell? ⟨w.heap.size, 2, none⟩ = some (.int .i64 N) := by simp only [World.cell?, hb2]; rfl
  have KK := hide ((K0.trans k1 (fun _ _ e => e)).trans k2 (fun _ _ e => e))
  clear hPar k1 k2 K0 hb hb2
  go_wp2_with fail
  go_ret
  exact ⟨rfl, KK.out⟩
set_option maxRecDepth 100000 in
set_option maxHeartbeats 8000000 in
theorem no6 (sl : Value) (S N : Int) (H : Nat) (hH : H < 18446744073709551616) (l : Lay) (E : Int) (w : World) (hPar : ∀ W, Keeps w W (fun _ => False) → Calls Tryz.prog 9 #[sl] W fun r w' => r = .returned (.tuple #[.agg #[.int .i64 l.k, .int .i64 l.e, .int .i64 l.a, .int .i64 l.b, .int .i64 l.c, .int .i64 l.eo, .int .i64 l.bo, .int .i64 l.s, .int .i64 l.g], .int .i64 E]) ∧ Keeps W w' (fun _ => False)) (h0 : E = 0) (h1 : ¬ S < 8) (h2 : ¬ 256 < S) (h3 : bits BinOp.and IntKind.i64 S (S - 1) = 0) (h4 : ¬ N < 0) (h5 : ¬ 300 < N) (h6 : l.k < 2) :
    Calls Tryz.prog 3 #[.agg #[sl, .int .i64 S, .int .i64 N, .int .u64 (H : Int)]] w fun e w' => e = .returned (.bool true) ∧ Keeps w w' (fun _ => False) := by
  subst h0
  obtain ⟨wa, wb⟩ := wrapS h1 h2
  go_enter Tryz.func3, Tryz.ntmps3
  go_wp2_with fail
  refine alloc1 (P := fun W => Calls _ _ _ W _) fun W0 hb hz K0 => ?_
  (with_reducible refine (hPar _ K0).mono ?_)
  rintro r w1 ⟨rfl, k1⟩
  have k2 : Keeps w1 (w1.alloc (.cells #[.int .i64 l.k, .int .i64 l.e, .int .i64 l.a, .int .i64 l.b, .int .i64 l.c, .int .i64 l.eo, .int .i64 l.bo, .int .i64 l.s, .int .i64 l.g] 27)) (fun _ => False) := (Keeps.refl _ _).alloc _
  have hb2 := k2.blk (k1.blk hb)
  have q0 : (w1.alloc (.cells #[.int .i64 l.k, .int .i64 l.e, .int .i64 l.a, .int .i64 l.b, .int .i64 l.c, .int .i64 l.eo, .int .i64 l.bo, .int .i64 l.s, .int .i64 l.g] 27)).cell? ⟨w.heap.size, 1, none⟩ = some (.int .i64 S) := by simp only [World.cell?, hb2]; rfl
  have q1 : (w1.alloc (.cells #[.int .i64 l.k, .int .i64 l.e, .int .i64 l.a, .int .i64 l.b, .int .i64 l.c, .int .i64 l.eo, .int .i64 l.bo, .int .i64 l.s, .int .i64 l.g] 27)).cell? ⟨w.heap.size, 2, none⟩ = some (.int .i64 N) := by simp only [World.cell?, hb2]; rfl
  have KK := hide ((K0.trans k1 (fun _ _ e => e)).trans k2 (fun _ _ e => e))
  clear hPar k1 k2 K0 hb hb2
  go_wp2_with fail
  go_ret
  exact ⟨rfl, KK.out⟩
end tablePiles
end Go.Proofs.YtmdnknbolgedgaaGreatDoor
