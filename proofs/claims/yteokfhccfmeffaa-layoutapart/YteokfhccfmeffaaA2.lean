import Derived.Test.YteokfhccfmeffaaA1
namespace Go.Proofs.Yteokfhccfmeffaa
open Go.RowKit

theorem alloc_any0 {w : World} {o : Obj} {P : World → Prop} (h : ∀ W, W.heap[w.heap.size]? = some o → Kp w W → P W) : P (w.alloc o) := h _ (heap_new _ _) ((Kp.refl w).alloc _)
theorem mark_int (q N p : Nat) (off n : Int) (w : World) (h : Owned w q N p) (h1 : (p : Int) ≤ off) (h0 : 0 ≤ n) (h2 : off + n ≤ N) (hN : N ≤ 4096) :
    Calls Try.prog 21 #[.slice (some ⟨q, 0, none⟩) N N, .int .i64 off, .int .i64 n] w fun r w' => r = .returned (.bool true) ∧ Owned w' q N (off + n).toNat ∧ Kq q w w' := by
  obtain ⟨o, rfl⟩ := Int.eq_ofNat_of_zero_le (show 0 ≤ off by omega)
  obtain ⟨m, rfl⟩ := Int.eq_ofNat_of_zero_le h0
  have e : ((o : Int) + (m : Int)).toNat = o + m := by omega
  rw [e]
  exact mark_any q N p o m w h (by omega) (by omega) hN

theorem valid_facts {l : Lay} (h : validB l = true) : 1 ≤ l.k ∧ l.k ≤ 128 ∧ 0 ≤ l.e ∧ l.e ≤ 128 ∧ (l.a = 1 ∨ l.a = 2 ∨ l.a = 4 ∨ l.a = 8) ∧ (l.b = 1 ∨ l.b = 2 ∨ l.b = 4 ∨ l.b = 8) ∧ l.eo % l.b = 0 ∧ l.bo % 8 = 0 ∧ l.s = l.bo + 8 ∧ l.g = 8 + 8 * l.s ∧ l.k ≤ l.eo ∧ l.eo + l.e ≤ l.bo ∧ l.bo ≤ 270 := by
  obtain ⟨h1, h2⟩ := of_decide_eq_true h
  obtain ⟨e1, e2, e3, e4, e5, e6, e7⟩ := errN_zero h1
  have f1 : l.eo = up l.k l.b := congrArg Lay.eo h2
  have f2 : l.bo = up (up l.k l.b + l.e) 8 := congrArg Lay.bo h2
  have f3 : l.s = up (up l.k l.b + l.e) 8 + 8 := congrArg Lay.s h2
  have f4 : l.g = 8 + 8 * (up (up l.k l.b + l.e) 8 + 8) := congrArg Lay.g h2
  have hb := (al_one e6).1
  have u1 := up_bound (x := l.k) hb
  have u2 := up_bound (x := up l.k l.b + l.e) (a := 8) (by omega)
  refine ⟨e1, e2, e3, e4, (al_one e5).1, hb, ?_, ?_, ?_, ?_, ?_, ?_, ?_⟩
  · rw [f1]; exact u1.2.2
  · rw [f2]; exact u2.2.2
  · omega
  · omega
  · omega
  · omega
  · omega

theorem mod_of8 {x a : Int} (ha : a = 1 ∨ a = 2 ∨ a = 4 ∨ a = 8) (h : x % 8 = 0) : x % a = 0 := by
  rcases ha with rfl | rfl | rfl | rfl <;> omega
theorem mod_add8 {x y a : Int} (ha : a = 1 ∨ a = 2 ∨ a = 4 ∨ a = 8) (h : x % 8 = 0) (hy : y % a = 0) : (x + y) % a = 0 := by
  rcases ha with rfl | rfl | rfl | rfl <;> omega

set_option maxHeartbeats 8000000 in
theorem slot_any (q N i : Nat) (l : Lay) (w : World) (hV : validB l = true) (hi : i < 8) (hN : (N : Int) = l.g) (ho : Owned w q N (8 + i * l.s).toNat) :
    Calls Try.prog 22 #[.slice (some ⟨q, 0, none⟩) N N, .agg #[.int .i64 l.k, .int .i64 l.e, .int .i64 l.a, .int .i64 l.b, .int .i64 l.c, .int .i64 l.eo, .int .i64 l.bo, .int .i64 l.s, .int .i64 l.g], .int .i64 (i : Int)] w
      fun r w' => r = .returned (.bool true) ∧ Owned w' q N (8 + ((i + 1 : Nat) : Int) * l.s).toNat ∧ Kq q w w' := by
  obtain ⟨v1, v2, v3, v4, va, vb, v5, v6, v7, v8, v9, v10, v11⟩ := valid_facts hV
  have j1 : KeyIs l i (8 + i * l.s) := by show placeD l i 0 = _; rw [place_laid hV _ _ (by omega) (by omega)]; omega
  have j2 : ElemIs l i (8 + i * l.s + l.eo) := place_laid hV _ _ (by omega) (by omega)
  have j3 : BirthIs l i (8 + i * l.s + l.bo) := place_laid hV _ _ (by omega) (by omega)
  have m0 : 0 ≤ (i : Int) * l.s := Int.mul_nonneg (by omega) (by omega)
  have m1 : (i : Int) * l.s ≤ 7 * l.s := Int.mul_le_mul (by omega) (Int.le_refl _) (by omega) (by omega)
  have m8 : ((i : Int) * l.s) % 8 = 0 := by
    have : l.s % 8 = 0 := by omega
    rw [Int.mul_emod, this]
    simp
  have hnext : ((i + 1 : Nat) : Int) * l.s = i * l.s + l.s := by push_cast; rw [Int.add_mul]; omega
  rw [hnext]
  generalize (i : Int) * l.s = M at *
  have t1 : (8 + M) % l.a = 0 := mod_of8 va (by omega)
  have t2 : (8 + M + l.eo) % l.b = 0 := mod_add8 vb (by omega) v5
  have t3 : (8 + M + l.bo) % 8 = 0 := by omega
  have t1' : (8 + M).tmod l.a = 0 := by rw [Int.tmod_eq_emod_of_nonneg (by omega)]; exact t1
  have t2' : (8 + M + l.eo).tmod l.b = 0 := by rw [Int.tmod_eq_emod_of_nonneg (by omega)]; exact t2
  have t3' : (8 + M + l.bo).tmod 8 = 0 := by rw [Int.tmod_eq_emod_of_nonneg (by omega)]; exact t3
  have a1 : 1 ≤ l.a := by omega
  have a8 : l.a ≤ 8 := by omega
  have b1 : 1 ≤ l.b := by omega
  have b8 : l.b ≤ 8 := by omega
  have an : ¬ l.a = 0 := by omega
  have bn : ¬ l.b = 0 := by omega
  have hN' : N ≤ 4096 := by omega
  have q1 : (((8 + M).toNat : Nat) : Int) ≤ 8 + M := by omega
  have q2 : 8 + M + l.k ≤ N := by omega
  have q3 : (((8 + M + l.k).toNat : Nat) : Int) ≤ 8 + M + l.eo := by omega
  have q4 : 8 + M + l.eo + l.e ≤ N := by omega
  have q5 : (((8 + M + l.eo + l.e).toNat : Nat) : Int) ≤ 8 + M + l.bo := by omega
  have q6 : 8 + M + l.bo + 8 ≤ N := by omega
  have hqq : q < w.heap.size := by
    obtain ⟨cs, hb, _⟩ := ho
    exact (Array.getElem?_eq_some_iff.1 hb).1
  have hend : Hid (8 + (M + l.s) = 8 + M + l.bo + 8) := by show _ = _; omega
  have v3' : 0 ≤ l.e := v3
  have vk' : 0 ≤ l.k := by omega
  have hM2 : M ≤ 2000 := by omega
  have heo : l.eo ≤ 300 := by omega
  have hbo : l.bo ≤ 300 := by omega
  have heo0 : 0 ≤ l.eo := by omega
  have hbo0 : 0 ≤ l.bo := by omega
  clear v5 v6 v7 v8 v9 v10 v11 va vb hN m1 m8 hnext
  go_enter Try.func22, Try.ntmps22
  go_wp2_with fail
  refine alloc_any0 (P := fun W => Calls _ _ _ W _) fun W hB kW => ?_
  replace ho := ho.kp kW
  have hne : w.heap.size ≠ q := by omega
  have kq : Kq q w W := Kq.of kW
  clear kW
  obtain ⟨b0', b1', b2', b3, b4, b5, b6, b7, b8', -⟩ := (Kp.refl W).nine hB
  generalize w.heap.size = B at *
  refine (key_is j1 _).mono ?_
  rintro r w1 ⟨rfl, k1⟩
  replace ho := ho.kp k1
  replace hB := k1.blk hB
  replace kq := kq.trans (Kq.of k1)
  clear b0' b1' b2' b3 b4 b5 b6 b7 b8' k1
  obtain ⟨b0', b1', b2', b3, b4, b5, b6, b7, b8', -⟩ := (Kp.refl w1).nine hB
  go_wp2_with fail
  refine (elem_is j2 _).mono ?_
  rintro r w2 ⟨rfl, k1⟩
  replace ho := ho.kp k1
  replace hB := k1.blk hB
  replace kq := kq.trans (Kq.of k1)
  clear b0' b1' b2' b3 b4 b5 b6 b7 b8' k1
  obtain ⟨b0', b1', b2', b3, b4, b5, b6, b7, b8', -⟩ := (Kp.refl w2).nine hB
  go_wp2_with fail
  refine (birth_is j3 _).mono ?_
  rintro r w3 ⟨rfl, k1⟩
  replace ho := ho.kp k1
  replace hB := k1.blk hB
  replace kq := kq.trans (Kq.of k1)
  clear b0' b1' b2' b3 b4 b5 b6 b7 b8' k1
  obtain ⟨b0', b1', b2', b3, b4, b5, b6, b7, b8', -⟩ := (Kp.refl w3).nine hB
  go_wp2_with fail
  refine (mark_int q N _ (8 + M) l.k _ ho q1 vk' q2 hN').mono ?_
  rintro r w4 ⟨rfl, ho1, k1⟩
  replace hB := k1.blk hB hne
  replace kq := kq.trans k1
  clear b0' b1' b2' b3 b4 b5 b6 b7 b8' k1 ho
  obtain ⟨b0', b1', b2', b3, b4, b5, b6, b7, b8', -⟩ := (Kp.refl w4).nine hB
  have ho := ho1
  clear ho1
  go_wp2_with fail
  refine (mark_int q N _ (8 + M + l.eo) l.e _ ho q3 v3' q4 hN').mono ?_
  rintro r w5 ⟨rfl, ho1, k1⟩
  replace hB := k1.blk hB hne
  replace kq := kq.trans k1
  clear b0' b1' b2' b3 b4 b5 b6 b7 b8' k1 ho
  obtain ⟨b0', b1', b2', b3, b4, b5, b6, b7, b8', -⟩ := (Kp.refl w5).nine hB
  have ho := ho1
  clear ho1
  go_wp2_with fail
  refine (mark_int q N _ (8 + M + l.bo) 8 _ ho q5 (by omega) q6 hN').mono ?_
  rintro r w6 ⟨rfl, ho1, k1⟩
  replace hB := k1.blk hB hne
  replace kq := kq.trans k1
  clear b0' b1' b2' b3 b4 b5 b6 b7 b8' k1 ho
  obtain ⟨b0', b1', b2', b3, b4, b5, b6, b7, b8', -⟩ := (Kp.refl w6).nine hB
  have ho := ho1
  clear ho1
  go_wp2_with fail
  go_ret
  refine ⟨rfl, ?_, kq⟩
  rw [hend.out]
  exact ho
end Go.Proofs.Yteokfhccfmeffaa
