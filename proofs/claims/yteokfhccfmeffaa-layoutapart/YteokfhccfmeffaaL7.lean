import Derived.Test.YteokfhccfmeffaaL6
namespace Go.Proofs.Yteokfhccfmeffaa
open Go.RowKit

theorem mod_any (n m : Int) (w : World) (h0 : 1 ≤ m) (h1 : m ≤ 1000) (hn : (Lit.int .i64 n).wf = true) :
    Calls Try.prog 12 #[.int .i64 n, .int .i64 m] w fun r w' => r = .returned (.int .i64 (n % m)) ∧ w' = w := by
  have hne : ¬ m = 0 := by omega
  have hnb : -9223372036854775808 ≤ n ∧ n ≤ 9223372036854775807 := by
    simp [Lit.wf, IntKind.min, IntKind.max, IntKind.signed, IntKind.bits] at hn
    omega
  by_cases hs : 0 ≤ n
  · have t1 : n.tmod m = n % m := Int.tmod_eq_emod_of_nonneg hs
    have h2 : 0 ≤ n % m := Int.emod_nonneg n hne
    have h3 : n % m < m := Int.emod_lt_of_pos n (by omega)
    generalize n % m = R at *
    have h4 : ¬ R < 0 := by omega
    go_enter Try.func12, Try.ntmps12
    go_wp2_with fail
    go_ret
    exact ⟨rfl, rfl⟩
  · have t0 : n.tmod m = - ((-n) % m) := by
      have := Int.neg_tmod (-n) m
      rw [Int.neg_neg] at this
      rw [this, Int.tmod_eq_emod_of_nonneg (by omega)]
    have t2 : n % m = if m ∣ -n then 0 else (m.natAbs : Int) - (-n) % m := by
      have := Int.neg_emod (a := -n) (b := m)
      rw [Int.neg_neg] at this
      exact this
    have h2 : 0 ≤ (-n) % m := Int.emod_nonneg (-n) hne
    have h3 : (-n) % m < m := Int.emod_lt_of_pos (-n) (by omega)
    by_cases hd : m ∣ -n
    · have hz : (-n) % m = 0 := Int.emod_eq_zero_of_dvd hd
      rw [if_pos hd] at t2
      rw [hz] at t0
      rw [t2]
      have t1 : n.tmod m = 0 := t0
      clear t0 t2 h2 h3 hz
      go_enter Try.func12, Try.ntmps12
      go_wp2_with fail
      go_ret
      exact ⟨rfl, rfl⟩
    · have hz : ¬ (-n) % m = 0 := fun h => hd (Int.dvd_of_emod_eq_zero h)
      rw [if_neg hd] at t2
      generalize (-n) % m = R at *
      generalize n % m = V at *
      have hV : V = -R + m := by omega
      have h4 : -R < 0 := by omega
      have h5 : 0 < R := by omega
      subst hV
      clear t2 hz hd
      go_enter Try.func12, Try.ntmps12
      go_wp2_with fail
      go_ret
      exact ⟨rfl, rfl⟩

def ModIs (n m N : Int) : Prop := (Lit.int .i64 n).wf = true ∧ 1 ≤ m ∧ m ≤ 1000 ∧ n % m = N
theorem mod_is {n m N : Int} (h : ModIs n m N) (w : World) :
    Calls Try.prog 12 #[.int .i64 n, .int .i64 m] w fun r w' => r = .returned (.int .i64 N) ∧ w' = w := by
  obtain ⟨h1, h2, h3, rfl⟩ := h
  exact mod_any n m w h2 h3 h1

theorem pow_cases {A : Int} (h0 : 0 ≤ A) (h1 : A < 4) : ∃ ka Q : Int, wrap64 (2 ^ A.toNat) = ka ∧ (ka = 1 ∨ ka = 2 ∨ ka = 4 ∨ ka = 8) ∧ (128 : Int).tdiv ka = Q ∧ (128 : Int) / ka = Q ∧ ka * Q = 128 ∧ 1 ≤ Q ∧ Q ≤ 128 := by
  have : A = 0 ∨ A = 1 ∨ A = 2 ∨ A = 3 := by omega
  rcases this with rfl | rfl | rfl | rfl
  · exact ⟨1, 128, by decide +kernel, by decide, by decide, by decide, by decide, by decide, by decide⟩
  · exact ⟨2, 64, by decide +kernel, by decide, by decide, by decide, by decide, by decide, by decide⟩
  · exact ⟨4, 32, by decide +kernel, by decide, by decide, by decide, by decide, by decide, by decide⟩
  · exact ⟨8, 16, by decide +kernel, by decide, by decide, by decide, by decide, by decide, by decide⟩
theorem cap_cases {C : Int} (h0 : 0 ≤ C) (h1 : C < 7) : ∃ cap : Int, wrap64 (16 * 2 ^ C.toNat) = cap ∧ IntKind.i64.wrap (16 * 2 ^ C.toNat) = cap ∧ pw cap 16 1024 = true := by
  have : C = 0 ∨ C = 1 ∨ C = 2 ∨ C = 3 ∨ C = 4 ∨ C = 5 ∨ C = 6 := by omega
  rcases this with rfl | rfl | rfl | rfl | rfl | rfl | rfl
  · exact ⟨16, by decide +kernel, by decide +kernel, by decide⟩
  · exact ⟨32, by decide +kernel, by decide +kernel, by decide⟩
  · exact ⟨64, by decide +kernel, by decide +kernel, by decide⟩
  · exact ⟨128, by decide +kernel, by decide +kernel, by decide⟩
  · exact ⟨256, by decide +kernel, by decide +kernel, by decide⟩
  · exact ⟨512, by decide +kernel, by decide +kernel, by decide⟩
  · exact ⟨1024, by decide +kernel, by decide +kernel, by decide⟩

/-- Five right numbers in a new row. -/
def RightPost (w : World) (r : Ending) (w' : World) : Prop :=
  ∃ g k e a b c, errN k e a b c = 0 ∧ r = .returned (.slice (some ⟨g, 0, none⟩) 5 5) ∧ w'.heap[g]? = some (.cells #[.int .i64 k, .int .i64 e, .int .i64 a, .int .i64 b, .int .i64 c] 3) ∧ w.heap.size ≤ g ∧ Kp w w'
theorem errN_mk {k e a b c : Int} (h1 : 1 ≤ k) (h2 : k ≤ 128) (h3 : 0 ≤ e) (h4 : e ≤ 128) (h5 : al k a = true) (h6 : al e b = true) (h7 : pw c 16 1024 = true) : errN k e a b c = 0 := by
  unfold errN
  rw [if_neg (by omega), if_neg (by omega), if_neg (by rw [h5, h6]; simp), if_neg (by rw [h7]; simp)]
theorem al_mk {x a : Int} (h : a = 1 ∨ a = 2 ∨ a = 4 ∨ a = 8) (h2 : x % a = 0) : al x a = true := by
  unfold al
  rw [pw8.2 h]
  simp [h2]

set_option maxHeartbeats 4000000 in
theorem right_any (k e a b c p x : Int) (w : World) (hk : (Lit.int .i64 k).wf = true) (he : (Lit.int .i64 e).wf = true) (ha : (Lit.int .i64 a).wf = true) (hb : (Lit.int .i64 b).wf = true) (hc : (Lit.int .i64 c).wf = true) :
    Calls Try.prog 9 #[.agg #[.int .i64 k, .int .i64 e, .int .i64 a, .int .i64 b, .int .i64 c, .int .i64 p, .int .i64 x]] w fun r w' => RightPost w r w' := by
  have hA : ModIs a 4 (a % 4) := ⟨ha, by omega, by omega, rfl⟩
  have hB : ModIs b 4 (b % 4) := ⟨hb, by omega, by omega, rfl⟩
  have hC : ModIs c 7 (c % 7) := ⟨hc, by omega, by omega, rfl⟩
  have a0 : 0 ≤ a % 4 := by omega
  have a1 : a % 4 < 4 := by omega
  have b0 : 0 ≤ b % 4 := by omega
  have b1 : b % 4 < 4 := by omega
  have c0 : 0 ≤ c % 7 := by omega
  have c1 : c % 7 < 7 := by omega
  generalize a % 4 = A at *
  generalize b % 4 = B at *
  generalize c % 7 = C at *
  obtain ⟨ka, Q, p1, p2, p3, p4, p5, p6, p7⟩ := pow_cases a0 a1
  obtain ⟨ea, R, q1, q2, q3, q4, q5, q6, q7⟩ := pow_cases b0 b1
  obtain ⟨cap, r1, r2, r3⟩ := cap_cases c0 c1
  have hK : ModIs k Q (k % Q) := ⟨hk, by omega, by omega, rfl⟩
  have hE : ModIs e (R + 1) (e % (R + 1)) := ⟨he, by omega, by omega, rfl⟩
  have k0 : 0 ≤ k % Q := Int.emod_nonneg _ (by omega)
  have k1 : k % Q < Q := Int.emod_lt_of_pos _ (by omega)
  have e0 : 0 ≤ e % (R + 1) := Int.emod_nonneg _ (by omega)
  have e1 : e % (R + 1) < R + 1 := Int.emod_lt_of_pos _ (by omega)
  generalize k % Q = K at *
  generalize e % (R + 1) = E at *
  have m0 : 1 ≤ ka * (1 + K) := Int.mul_pos (by omega) (by omega)
  have m1 : ka * (1 + K) ≤ 128 := by rw [← p5]; exact Int.mul_le_mul_of_nonneg_left (by omega) (by omega)
  have n0 : 0 ≤ ea * E := Int.mul_nonneg (by omega) (by omega)
  have n1 : ea * E ≤ 128 := by rw [← q5]; exact Int.mul_le_mul_of_nonneg_left (by omega) (by omega)
  have hW : Hid (errN (ka * (1 + K)) (ea * E) ka ea cap = 0) := errN_mk m0 m1 n0 n1 (al_mk p2 (Int.mul_emod_right _ _)) (al_mk q2 (Int.mul_emod_right _ _)) r3
  have w1 : IntKind.i64.wrap (1 + K) = 1 + K := by rw [IntKind.wrap_i64]; omega
  have w2 : IntKind.i64.wrap (R + 1) = R + 1 := by rw [IntKind.wrap_i64]; omega
  have w3 : IntKind.i64.wrap (ka * (1 + K)) = ka * (1 + K) := by generalize ka * (1 + K) = Z at *; rw [IntKind.wrap_i64]; omega
  have w4 : IntKind.i64.wrap (ea * E) = ea * E := by generalize ea * E = Z at *; rw [IntKind.wrap_i64]; omega
  have wQ : IntKind.i64.wrap Q = Q := by rw [IntKind.wrap_i64]; omega
  have wR : IntKind.i64.wrap R = R := by rw [IntKind.wrap_i64]; omega
  have kne : ¬ ka = 0 := by omega
  have ene : ¬ ea = 0 := by omega
  have kb : 1 ≤ ka ∧ ka ≤ 8 := by omega
  have eb : 1 ≤ ea ∧ ea ≤ 8 := by omega
  clear p2 q2 p5 q5 r3 hk he ha hb hc
  go_enter Try.func9, Try.ntmps9
  go_wp2_with fail
  refine (mod_is hA _).mono ?_
  rintro r w5 ⟨rfl, rfl⟩
  go_wp2_with fail
  refine (mod_is hB _).mono ?_
  rintro r w5 ⟨rfl, rfl⟩
  go_wp2_with fail
  go_region_held3 (fun w' => w'.cell? ⟨w.heap.size, 0, none⟩ = some (.int .i64 k) ∧ w'.cell? ⟨w.heap.size, 1, none⟩ = some (.int .i64 e) ∧ w'.cell? ⟨w.heap.size, 4, none⟩ = some (.int .i64 c)) (go_keep) (first | (go_at_call 12; refine (mod_is (by assumption) _).mono ?_; rintro r w5 ⟨rfl, rfl⟩))
  go_wp2_with fail
  go_ret
  exact ⟨w.heap.size + 1, _, _, _, _, _, hW.out, rfl, heap_next _ _ _, by omega, (((Kp.refl w).alloc _).alloc _).drew⟩
end Go.Proofs.Yteokfhccfmeffaa
