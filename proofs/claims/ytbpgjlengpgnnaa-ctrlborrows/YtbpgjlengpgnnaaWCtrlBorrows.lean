import Derived.Test.YtbpgjlengpgnnaaC2
namespace Go.Proofs.Ytbpgjlengpgnnaa
open Go.RowKit
namespace ctrlBorrows

def Post (w : World) (e : Ending) (w' : World) : Prop := e = .returned (.bool true) ∧ Below w.heap.size w w'

theorem one (W i : Nat) (p : Nat → Bool) (hi : i < 8) : HasIs ((spread (mk p W) : Nat) : Int) (i : Int) (p (byN W i)) := Or.inl ⟨mk p W, i, rfl, rfl, hi, (hasM_mk p W hi).symm⟩

/-- The word behind i rounds. -/
def bw (M T X i : Nat) : Nat := of8 (fun j => if j < i then (if M / 2 ^ j % 2 = 1 then T else X) else 128)
theorem bw_by {M T X : Nat} (hT : T < 256) (hX : X < 256) (i j : Nat) : (if j < i then (if M / 2 ^ j % 2 = 1 then T else X) else 128) < 256 := by
  split
  · split
    · exact hT
    · exact hX
  · decide
theorem bw_lt {M T X : Nat} (hT : T < 256) (hX : X < 256) (i : Nat) : bw M T X i < 18446744073709551616 := of8_lt fun j _ => bw_by hT hX i j
theorem byN_bw {M T X : Nat} (hT : T < 256) (hX : X < 256) (i : Nat) {j : Nat} (hj : j < 8) : byN (bw M T X i) j = if j < i then (if M / 2 ^ j % 2 = 1 then T else X) else 128 := byN_of8 (f := fun j => if j < i then (if M / 2 ^ j % 2 = 1 then T else X) else 128) (fun j _ => bw_by hT hX i j) hj
theorem bw_zero (M T X : Nat) : bw M T X 0 = 9259542123273814144 := by
  unfold bw of8
  simp
theorem bw_succ {M T X : Nat} (hT : T < 256) (hX : X < 256) {i : Nat} (hi : i < 8) : setN (bw M T X i) i (if M / 2 ^ i % 2 = 1 then T else X) = bw M T X (i + 1) := by
  have hc : (if M / 2 ^ i % 2 = 1 then T else X) < 256 := by
    split
    · exact hT
    · exact hX
  refine ext8 (setN_lt _ _ _ hc) (bw_lt hT hX _) fun j hj => ?_
  rw [byN_setN _ _ _ hc hj, byN_bw hT hX _ hj, byN_bw hT hX _ hj]
  by_cases h : j = i
  · subst h
    rw [if_pos rfl, if_pos (Nat.lt_succ_self _)]
  · rw [if_neg h]
    by_cases h2 : j < i
    · rw [if_pos h2, if_pos (show j < i + 1 by omega)]
    · rw [if_neg h2, if_neg (show ¬ j < i + 1 by omega)]
theorem bw_tag {M T X : Nat} (hT : T < 128) (hX : X < 256) (hne : X ≠ T) {j : Nat} (hj : j < 8) : tagB (T : Int) (byN (bw M T X 8) j) = (M / 2 ^ j % 2 == 1) := by
  rw [byN_bw (by omega) hX _ hj, if_pos hj]
  unfold tagB
  by_cases h : M / 2 ^ j % 2 = 1
  · rw [if_pos h, h]
    exact decide_eq_true ⟨by omega, rfl⟩
  · rw [if_neg h, beq_eq_false_iff_ne.2 h]
    exact decide_eq_false (by omega)
theorem bit_toNat (x : Nat) : (x % 2 == 1).toNat = x % 2 := by
  rcases (by omega : x % 2 = 0 ∨ x % 2 = 1) with h | h <;> rw [h] <;> rfl
theorem bw_mk {M T X : Nat} (hM : M < 256) (hT : T < 128) (hX : X < 256) (hne : X ≠ T) : mk (tagB (T : Int)) (bw M T X 8) = M := by
  unfold mk
  rw [bw_tag hT hX hne (by decide), bw_tag hT hX hne (by decide), bw_tag hT hX hne (by decide), bw_tag hT hX hne (by decide), bw_tag hT hX hne (by decide), bw_tag hT hX hne (by decide), bw_tag hT hX hne (by decide), bw_tag hT hX hne (by decide)]
  simp only [bit_toNat, Nat.reducePow, Nat.div_one]
  omega
def cntTo (M : Nat) : Nat → Nat
  | 0 => 0
  | i + 1 => cntTo M i + M / 2 ^ i % 2
theorem cntTo_le (M i : Nat) : cntTo M i ≤ i := by
  induction i with
  | zero => exact Nat.le_refl _
  | succ i ih =>
    have := bit_lt M i
    unfold cntTo
    omega
theorem cntTo_all (M : Nat) : cntTo M 8 = cntM M := by
  simp only [cntTo, cntM, Nat.reducePow, Nat.div_one]
  omega
theorem flip : ∀ T, T < 128 → ∀ b, b < 8 → bits BinOp.xor IntKind.i64 ((T : Nat) : Int) (wrap64 (2 ^ b)) = ((T ^^^ 2 ^ b : Nat) : Int) ∧ T ^^^ 2 ^ b < 256 ∧ T ^^^ 2 ^ b ≠ T := by decide +kernel

theorem mask_bit (M i : Nat) (hM : M < 256) : bits BinOp.and IntKind.u8 ((M : Int) / 2 ^ i) 1 = ((M / 2 ^ i % 2 : Nat) : Int) := by
  have e : (M : Int) / 2 ^ i = ((M / 2 ^ i : Nat) : Int) := by rw [Int.natCast_ediv, Int.natCast_pow]; rfl
  have hle : M / 2 ^ i ≤ M := Nat.div_le_self _ _
  have e2 := u8_and_nat (M / 2 ^ i) 1 (by omega) (by decide)
  rw [show ((1 : Nat) : Int) = 1 from rfl] at e2
  rw [e, e2, nat_mask1]

set_option maxRecDepth 100000 in
set_option maxHeartbeats 4000000 in
theorem core (T M b : Nat) (w : World) (hT : T < 128) (hM : M < 256) (hb : b < 8) :
    Calls Try.prog 6 #[.int .i64 (T : Int), .int .u8 (M : Int), .int .i64 (b : Int)] w (Post w) := by
  obtain ⟨f1, f2, f3⟩ := flip T hT b hb
  generalize hX : T ^^^ 2 ^ b = X at *
  have a1 : ¬ (T : Int) < 0 := by omega
  have a2 : ¬ 127 < (T : Int) := by omega
  have a3 : ¬ (b : Int) < 0 := by omega
  have a4 : ¬ 7 < (b : Int) := by omega
  clear hX
  go_enter Try.func6, Try.ntmps6
  go_wp2_with fail
  refine (empty_any _).mono ?_
  rintro e w1 ⟨rfl, rfl⟩
  go_wp2_with fail
  have hlt := fun i => bw_lt (M := M) (T := T) (X := X) (by omega) f2 i
  have hsc := fun i (hi : i < 8) => bw_succ (M := M) (T := T) (X := X) (by omega) f2 hi
  go_loopw [7, 8] (fun vw vi wr => ∃ i : Nat, vi = .int .i64 (i : Int) ∧ i ≤ 8 ∧ vw = .int .u64 ((bw M T X i : Nat) : Int) ∧ Kp w1 wr) (fun _ vi _ => 8 - (intOf vi).toNat)
  case atStart => exact ⟨0, rfl, by decide, by rw [bw_zero]; rfl, Kp.refl _⟩
  case round =>
    obtain ⟨i, rfl, hi, rfl, kk⟩ := hrel
    by_cases hi8 : i < 8
    · have hi8' : (i : Int) < 8 := by omega
      have hm := mask_bit M i hM
      have q := hsc i hi8
      have hl := hlt i
      clear hsc hlt
      by_cases hb1 : M / 2 ^ i % 2 = 1
      · rw [if_pos hb1] at q
        rw [hb1] at hm
        have hS : SetIs ((bw M T X i : Nat) : Int) (i : Int) (T : Int) ((bw M T X (i + 1) : Nat) : Int) := ⟨_, hl, rfl, by rw [putN, if_pos ⟨by omega, by omega, by omega, by omega⟩, Int.toNat_natCast, Int.toNat_natCast, q]⟩
        generalize bw M T X i = W at *
        clear hb1 q
        go_wp2_with fail
        refine (set_is hS _).mono ?_
        rintro e w5 ⟨rfl, k5⟩
        go_wp2_with fail
        exact ⟨⟨i + 1, by simp, by omega, rfl, kk.trans k5⟩, by simp [intOf]; omega⟩
      · have hb0 : M / 2 ^ i % 2 = 0 := by omega
        rw [if_neg hb1] at q
        rw [hb0] at hm
        have hS : SetIs ((bw M T X i : Nat) : Int) (i : Int) (X : Int) ((bw M T X (i + 1) : Nat) : Int) := ⟨_, hl, rfl, by rw [putN, if_pos ⟨by omega, by omega, by omega, by omega⟩, Int.toNat_natCast, Int.toNat_natCast, q]⟩
        generalize bw M T X i = W at *
        clear hb1 hb0 q
        go_wp2_with fail
        refine (set_is hS _).mono ?_
        rintro e w5 ⟨rfl, k5⟩
        go_wp2_with fail
        exact ⟨⟨i + 1, by simp, by omega, rfl, kk.trans k5⟩, by simp [intOf]; omega⟩
    · have hi8' : ¬ (i : Int) < 8 := by omega
      obtain rfl : i = 8 := by omega
      have q1 : MatchIs ((bw M T X 8 : Nat) : Int) (T : Int) ((spread M : Nat) : Int) := ⟨_, hlt 8, rfl, by rw [bw_mk hM hT f2 f3]⟩
      have n1 : CntIs ((spread M : Nat) : Int) ((cntTo M 8 : Nat) : Int) := ⟨M, hM, rfl, by rw [cntTo_all]⟩
      have g1 : ∀ i : Nat, i < 8 → HasIs ((spread M : Nat) : Int) (i : Int) (M / 2 ^ i % 2 == 1) := fun i hi => Or.inl ⟨M, i, rfl, rfl, hi, rfl⟩
      generalize spread M = z1 at *
      generalize bw M T X 8 = W at *
      clear hsc hlt f1 hi
      go_wp2_with fail
      refine (match_is q1 _).mono ?_
      rintro e w5 ⟨rfl, k5⟩
      replace kk := kk.trans k5
      clear k5 q1
      go_wp2_with fail
      have c1 := new_cell w5 (.int .u64 (z1 : Int)) 29
      replace kk := kk.alloc (.cells #[.int .u64 (z1 : Int)] 29)
      generalize (w5.alloc (Obj.cells #[Value.int IntKind.u64 ↑z1] 29)) = w6 at *
      generalize w5.heap.size = B1 at *
      go_loopw [11, 12] (fun vn vi wr => ∃ i : Nat, vi = .int .i64 (i : Int) ∧ i ≤ 8 ∧ vn = .int .i64 ((cntTo M i : Nat) : Int) ∧ wr.cell? ⟨B1, 0, none⟩ = some (.int .u64 (z1 : Int)) ∧ Kp w1 wr) (fun _ vi _ => 8 - (intOf vi).toNat)
      case atStart => exact ⟨0, rfl, by decide, rfl, c1, kk⟩
      case round =>
        clear c1 kk
        obtain ⟨i, rfl, hi, rfl, c1, kk⟩ := hrel
        by_cases hi8 : i < 8
        · have hi8' : (i : Int) < 8 := by omega
          have hm := mask_bit M i hM
          replace g1 := g1 i hi8
          have hC : cntTo M (i + 1) = cntTo M i + M / 2 ^ i % 2 := rfl
          have hl := cntTo_le M i
          have hS : wr.cell? ⟨B1, 0, none⟩ = some (.int .u64 (z1 : Int)) ∧ Kp w1 wr := ⟨c1, kk⟩
          by_cases hb1 : M / 2 ^ i % 2 = 1
          · rw [hb1] at hm g1 hC
            have hC' := hide hC
            have e1 : ((1 : Nat) == 1) = true := rfl
            rw [e1] at g1
            generalize cntTo M i = C0 at *
            clear hb1 e1 hC
            go_wp2_with fail
            go_region_held3 (fun w' => w'.cell? ⟨B1, 0, none⟩ = some (.int .u64 (z1 : Int)) ∧ Kp w1 w') (first | exact hS | assumption | exact ⟨c1, kk.drew⟩ | exact ⟨k5.cell c1, (kk.drew).trans k5⟩) (first | (go_at_call 11; refine (has_is g1 _).mono ?_; rintro r w5 ⟨rfl, k5⟩))
            have hH : w5.cell? ⟨B1, 0, none⟩ = some (.int .u64 (z1 : Int)) ∧ Kp w1 w5 := by assumption
            obtain ⟨c2, kk2⟩ := hH
            go_wp2_with fail
            refine (has_is g1 _).mono ?_
            rintro e w7 ⟨rfl, k7⟩
            replace c2 := k7.cell c2
            replace kk2 := kk2.trans k7
            clear k7
            go_wp2_with fail
            exact ⟨⟨i + 1, by simp, by omega, by rw [hC'.out]; simp, c2, kk2⟩, by simp [intOf]; omega⟩
          · have hb0 : M / 2 ^ i % 2 = 0 := by omega
            rw [hb0] at hm g1 hC
            have hC' := hide hC
            have e1 : ((0 : Nat) == 1) = false := rfl
            rw [e1] at g1
            generalize cntTo M i = C0 at *
            clear hb1 hb0 e1 hC
            go_wp2_with fail
            go_region_held3 (fun w' => w'.cell? ⟨B1, 0, none⟩ = some (.int .u64 (z1 : Int)) ∧ Kp w1 w') (first | exact hS | assumption | exact ⟨c1, kk.drew⟩ | exact ⟨k5.cell c1, (kk.drew).trans k5⟩) (first | (go_at_call 11; refine (has_is g1 _).mono ?_; rintro r w5 ⟨rfl, k5⟩))
            have hH : w5.cell? ⟨B1, 0, none⟩ = some (.int .u64 (z1 : Int)) ∧ Kp w1 w5 := by assumption
            obtain ⟨c2, kk2⟩ := hH
            go_wp2_with fail
            refine (has_is g1 _).mono ?_
            rintro e w7 ⟨rfl, k7⟩
            replace c2 := k7.cell c2
            replace kk2 := kk2.trans k7
            clear k7
            go_wp2_with fail
            exact ⟨⟨i + 1, by simp, by omega, by rw [hC'.out]; simp, c2, kk2⟩, by simp [intOf]; omega⟩
        · have hi8' : ¬ (i : Int) < 8 := by omega
          obtain rfl : i = 8 := by omega
          go_wp2_with fail
          refine (count_is n1 _).mono ?_
          rintro e w7 ⟨rfl, k7⟩
          go_wp2_with fail
          go_ret
          exact ⟨rfl, kk.trans k7⟩

set_option maxHeartbeats 400000 in
theorem not_so (t m b : Int) (h : ¬ (0 ≤ t ∧ t ≤ 127 ∧ 0 ≤ b ∧ b ≤ 7)) (w : World) :
    Calls Try.prog 6 #[.int .i64 t, .int .u8 m, .int .i64 b] w (Post w) := by
  by_cases h1 : t < 0
  · clear h
    go_enter Try.func6, Try.ntmps6
    go_wp2_with fail
    go_ret
    exact ⟨rfl, Below.refl _ _⟩
  · by_cases h2 : 127 < t
    · clear h
      go_enter Try.func6, Try.ntmps6
      go_wp2_with fail
      go_ret
      exact ⟨rfl, Below.refl _ _⟩
    · by_cases h3 : b < 0
      · clear h
        go_enter Try.func6, Try.ntmps6
        go_wp2_with fail
        go_ret
        exact ⟨rfl, Below.refl _ _⟩
      · have h4 : 7 < b := by omega
        clear h
        go_enter Try.func6, Try.ntmps6
        go_wp2_with fail
        go_ret
        exact ⟨rfl, Below.refl _ _⟩

theorem walk (a0 a1 a2 : Int) (_ : (Lit.int .i64 a0).wf = true) (w1 : (Lit.int .u8 a1).wf = true) (_ : (Lit.int .i64 a2).wf = true) (W : World) :
    Calls Try.prog 6 #[.int .i64 a0, .int .u8 a1, .int .i64 a2] W fun e w' => e = .returned (.bool true) ∧ Below W.heap.size W w' := by
  have hm : 0 ≤ a1 ∧ a1 < 256 := by
    have e1 : IntKind.u8.min = 0 := rfl
    have e2 : IntKind.u8.max = 255 := rfl
    simp only [Lit.wf, decide_eq_true_eq, Bool.and_eq_true] at w1
    rw [e1, e2] at w1
    omega
  by_cases h : 0 ≤ a0 ∧ a0 ≤ 127 ∧ 0 ≤ a2 ∧ a2 ≤ 7
  · obtain ⟨T, rfl⟩ : ∃ T : Nat, a0 = (T : Int) := ⟨a0.toNat, by omega⟩
    obtain ⟨M, rfl⟩ : ∃ M : Nat, a1 = (M : Int) := ⟨a1.toNat, by omega⟩
    obtain ⟨b, rfl⟩ : ∃ b : Nat, a2 = (b : Int) := ⟨a2.toNat, by omega⟩
    exact core T M b W (by omega) (by omega) (by omega)
  · exact not_so a0 a1 a2 h W
end ctrlBorrows
end Go.Proofs.Ytbpgjlengpgnnaa
