/-
  The reference's product.
-/
import Derived.Test.YtiaalojfoldnfaaDoorON3
namespace Go.Proofs.YtiaalojfoldnfaaDoor
open Go.RowKit
set_option linter.unusedVariables false

def valN (f : Nat → Nat) : Nat := f 0 + 65536 * f 1 + 4294967296 * f 2 + 281474976710656 * f 3
theorem valN_upd (f : Nat → Nat) (k x : Nat) (hk : k < 4) : valN (updN f k x) + f k * 65536 ^ k = valN f + x * 65536 ^ k := by
  unfold valN updN
  match k, hk with
  | 0, _ => simp; omega
  | 1, _ => simp; omega
  | 2, _ => simp; omega
  | 3, _ => simp; omega
theorem valN_same {f g : Nat → Nat} (h : ∀ k, k < 4 → f k = g k) : valN f = valN g := by
  unfold valN
  rw [h 0 (by decide), h 1 (by decide), h 2 (by decide), h 3 (by decide)]
theorem valN_lt {f : Nat → Nat} (h : ∀ k, k < 4 → f k < 65536) : valN f < 18446744073709551616 := by
  unfold valN
  have := h 0 (by decide)
  have := h 1 (by decide)
  have := h 2 (by decide)
  have := h 3 (by decide)
  omega
theorem valN_dig {f : Nat → Nat} (h : ∀ k, k < 4 → f k < 65536) : ∀ k, k < 4 → f k = dig (valN f) k := by
  have h0 := h 0 (by decide)
  have h1 := h 1 (by decide)
  have h2 := h 2 (by decide)
  have h3 := h 3 (by decide)
  intro k hk
  unfold valN dig
  match k, hk with
  | 0, _ => simp; omega
  | 1, _ => simp; omega
  | 2, _ => simp; omega
  | 3, _ => simp; omega
theorem low_succ (a i : Nat) : a % 65536 ^ (i + 1) = a % 65536 ^ i + 65536 ^ i * dig a i := by
  unfold dig
  rw [Nat.pow_succ, Nat.mod_mul]
theorem inner_step {V W V' c t AB cr P : Nat} (hv : V + cr * P = W) (hu : V' + c * P = V + t % 65536 * P) (ht : t = c + AB + cr) : V' + t / 65536 * (P * 65536) = W + AB * P := by
  have e1 : t * P = (t / 65536 * 65536) * P + t % 65536 * P := by rw [← Nat.add_mul, Nat.div_add_mod']
  have e2 : t * P = c * P + AB * P + cr * P := by rw [ht, Nat.add_mul, Nat.add_mul]
  have e3 : t / 65536 * (P * 65536) = (t / 65536 * 65536) * P := by rw [Nat.mul_comm P 65536, Nat.mul_assoc]
  omega
theorem carry_lt {c A B cr : Nat} (hc : c < 65536) (hA : A < 65536) (hB : B < 65536) (hr : cr < 65536) : (c + A * B + cr) / 65536 < 65536 ∧ A * B ≤ 4294836225 := by
  have h : A * B ≤ 65535 * 65535 := Nat.mul_le_mul (by omega) (by omega)
  omega
/-- A whole row of the product. -/
theorem outer_step {a b i V V' cr : Nat} (hi : i < 4) (hV : V = a % 65536 ^ i * b % 18446744073709551616) (hV' : V' < 18446744073709551616) (h : V' + cr * 65536 ^ 4 = V + dig a i * 65536 ^ i * (b % 65536 ^ (4 - i))) :
    V' = a % 65536 ^ (i + 1) * b % 18446744073709551616 := by
  have hM : (65536 : Nat) ^ 4 = 18446744073709551616 := by decide
  have e1 : V' = (V + dig a i * 65536 ^ i * (b % 65536 ^ (4 - i))) % 18446744073709551616 := by
    rw [← h, hM]
    omega
  have e2 : dig a i * 65536 ^ i * (b % 65536 ^ (4 - i)) % 18446744073709551616 = 65536 ^ i * dig a i * b % 18446744073709551616 := by
    have hb := Nat.div_add_mod b (65536 ^ (4 - i))
    have hp : 65536 ^ i * 65536 ^ (4 - i) = 18446744073709551616 := by rw [← Nat.pow_add, show i + (4 - i) = 4 by omega]
    have e3 : 65536 ^ i * dig a i * b = 18446744073709551616 * (dig a i * (b / 65536 ^ (4 - i))) + dig a i * 65536 ^ i * (b % 65536 ^ (4 - i)) := by
      have e4 : 65536 ^ i * dig a i * (65536 ^ (4 - i) * (b / 65536 ^ (4 - i))) = 18446744073709551616 * (dig a i * (b / 65536 ^ (4 - i))) := by
        rw [← hp]
        generalize 65536 ^ i = X
        generalize 65536 ^ (4 - i) = Y
        generalize b / Y = Z
        rw [Nat.mul_assoc, Nat.mul_assoc, Nat.mul_left_comm (dig a i) Y Z]
      rw [← e4, Nat.mul_comm (dig a i) (65536 ^ i), ← Nat.mul_add, hb]
    rw [e3, Nat.mul_add_mod]
  rw [low_succ, Nat.add_mul, Nat.add_mod, ← hV, ← e2, e1, Nat.add_mod]
  have : V % 18446744073709551616 = V := by rw [hV, Nat.mod_mod]
  rw [this]

def TRel (a b : Nat) (w : World) (f : Nat → Nat) (wr : World) : Prop := NumAt wr (w.heap.size + 1 + 1 + 1) f ∧ NumAt wr (w.heap.size + 1 + 1) (fun _ => 0) ∧ NumAt wr (w.heap.size + 1) (dig b) ∧ NumAt wr w.heap.size (dig a) ∧ Kp w wr
theorem TRel.drewN {a b : Nat} {w : World} {f : Nat → Nat} {wr : World} (h : TRel a b w f wr) (n : Nat) : TRel a b w f (wr.drewN n) :=
  ⟨h.1, h.2.1, h.2.2.1, h.2.2.2.1, ⟨h.2.2.2.2.os, h.2.2.2.2.tape, h.2.2.2.2.output, h.2.2.2.2.size, h.2.2.2.2.block⟩⟩
theorem TRel.set {a b : Nat} {w : World} {f : Nat → Nat} {wr : World} (h : TRel a b w f wr) {k : Nat} (hk : k < 4) (v : Nat) : TRel a b w (updN f k v) (wr.setCell ⟨w.heap.size + 1 + 1 + 1, k, none⟩ (.int .i64 (v : Nat))) :=
  ⟨h.1.set hk v, h.2.1.other (by omega) _ _, h.2.2.1.other (by omega) _ _, h.2.2.2.1.other (by omega) _ _, h.2.2.2.2.set (by omega) _ _⟩

set_option maxRecDepth 100000 in
set_option maxHeartbeats 4000000 in
theorem times_any (a b : Nat) (ha : a < 18446744073709551616) (w : World) :
    Calls Tryd.prog 11 #[numV (dig a), numV (dig b)] w fun e w' => e = .returned (numV (dig (a * b % 18446744073709551616))) ∧ Kp w w' := by
  have hR : Hid (∀ f : Nat → Nat, (∀ k, k < 4 → f k < 65536) → valN f = a % 65536 ^ 4 * b % 18446744073709551616 → ∀ k, k < 4 → f k = dig (a * b % 18446744073709551616) k) := by
    intro f h1 h2 k hk
    rw [valN_dig h1 k hk, h2, Nat.mod_eq_of_lt (a := a) (show a < 65536 ^ 4 from ha)]
  generalize dig (a * b % 18446744073709551616) = F at *
  unfold numV numA
  go_enter Tryd.func11, Tryd.ntmps11
  go_wp2_with fail
  go_loopw [6] (fun vi wr => ∃ i : Nat, i ≤ 4 ∧ vi = .int .i64 (i : Int) ∧ ∃ f : Nat → Nat, (∀ k, k < 4 → f k < 65536) ∧ valN f = a % 65536 ^ i * b % 18446744073709551616 ∧ TRel a b w f wr) (fun vi _ => 4 - (intOf vi).toNat)
  case atStart =>
    have h3 := heap_new (((w.alloc (.cells (numA (dig a)) 30)).alloc (.cells (numA (dig b)) 30)).alloc (.cells (numA fun _ => 0) 30)) (.cells (numA fun _ => 0) 30)
    have h2 := heap_old (heap_new ((w.alloc (.cells (numA (dig a)) 30)).alloc (.cells (numA (dig b)) 30)) (.cells (numA fun _ => 0) 30)) (.cells (numA fun _ => 0) 30)
    have h1 := heap_old (heap_old (heap_new (w.alloc (.cells (numA (dig a)) 30)) (.cells (numA (dig b)) 30)) (.cells (numA fun _ => 0) 30)) (.cells (numA fun _ => 0) 30)
    have h0 := heap_old (heap_old (heap_old (heap_new w (.cells (numA (dig a)) 30)) (.cells (numA (dig b)) 30)) (.cells (numA fun _ => 0) 30)) (.cells (numA fun _ => 0) 30)
    simp only [World.size_alloc] at h3 h2 h1
    refine ⟨0, Nat.zero_le _, rfl, fun _ => 0, fun _ _ => Nat.zero_lt_succ _, ?_, h3, h2, h1, h0, ((((Kp.refl w).alloc _).alloc _).alloc _).alloc _⟩
    rw [Nat.pow_zero, Nat.mod_one, Nat.zero_mul]
    rfl
  case round =>
    obtain ⟨i, hi, rfl, f, hf, hval, ht⟩ := hrel
    by_cases hlt : i < 4
    · have hlt' : (i : Int) < 4 := by omega
      go_wp2_with fail
      go_loopw [7, 8] (fun vc vj wq => ∃ (j cr : Nat) (g : Nat → Nat), i + j ≤ 4 ∧ vj = .int .i64 (j : Int) ∧ vc = .int .i64 (cr : Int) ∧ cr < 65536 ∧ (∀ k, k < 4 → g k < 65536) ∧ valN g + cr * 65536 ^ (i + j) = valN f + dig a i * 65536 ^ i * (b % 65536 ^ j) ∧ TRel a b w g wq) (fun _ vj _ => 4 - (intOf vj).toNat)
      case atStart => exact ⟨0, 0, f, by omega, rfl, rfl, by decide, hf, by rw [Nat.zero_mul, Nat.pow_zero, Nat.mod_one, Nat.mul_zero], ht⟩
      case round =>
        clear ht
        obtain ⟨j, cr, g, hj, rfl, rfl, hcr, hg, hv, ht⟩ := hrel
        by_cases hlt2 : i + j < 4
        · have hlt2' : (i : Int) + (j : Int) < 4 := by omega
          have hj4 : (j : Int) < 4 := by omega
          have cA := ht.2.2.2.1.cell hlt
          have cB := ht.2.2.1.cell (k := j) (by omega)
          have cC := ht.1.cell hlt2
          have gC := hg _ hlt2
          have fC := ht.1.frozen (i + j)
          have dA := dig_lt a i
          have dB := dig_lt b j
          have hup := fun x => hide (valN_upd g (i + j) x hlt2)
          generalize hga : g (i + j) = c at *
          have hlow := low_succ b j
          generalize hAA : dig a i = A at *
          generalize hBB : dig b j = B at *
          obtain ⟨q1, q2⟩ := carry_lt gC dA dB hcr
          have hAB : (A : Int) * (B : Int) = ((A * B : Nat) : Int) := by rw [Int.natCast_mul]
          have HV := hide hv
          have HL := hide hlow
          generalize hab : A * B = AB at *
          have Hab := hide hab
          have Hga := hide hga
          have HAA := hide hAA
          have HBB := hide hBB
          clear hv hlow hR hab hga hAA hBB
          go_wp2_with fail
          go_quiet (fail)
          go_wp2_with fail
          have hT := (ht.drewN nq).set hlt2 ((c + AB + cr) % 65536)
          rw [show (((c + AB + cr) % 65536 : Nat) : Int) = ((c : Int) + (AB : Int) + (cr : Int)) % 65536 by omega] at hT
          refine ⟨⟨j + 1, (c + AB + cr) / 65536, _, by omega, by simp, ?_, q1, ?_, ?_, hT⟩, by simp [intOf]; omega⟩
          · rw [show (((c + AB + cr) / 65536 : Nat) : Int) = ((c : Int) + (AB : Int) + (cr : Int)) / 65536 by omega]
          · intro k hk
            unfold updN
            split
            · exact Nat.mod_lt _ (by decide)
            · exact hg k hk
          · have e := inner_step HV.out (hup ((c + AB + cr) % 65536)).out rfl
            rw [show i + (j + 1) = i + j + 1 by omega, Nat.pow_succ, e, HL.out, Nat.mul_add, ← Hab.out, Nat.pow_add]
            generalize 65536 ^ i = X
            generalize 65536 ^ j = Y
            rw [Nat.add_assoc]
            congr 2
            rw [Nat.mul_assoc A X (Y * B), Nat.mul_assoc A B (X * Y)]
            congr 1
            rw [Nat.mul_comm B (X * Y), Nat.mul_assoc]
        · have hlt2' : ¬ (i : Int) + (j : Int) < 4 := by omega
          have hj : j = 4 - i := by omega
          have hi4 : i + j = 4 := by omega
          have HV := hide hv
          have HG := hide hval
          clear hv hval hR
          go_wp2_with fail
          have e : valN g + cr * 65536 ^ 4 = valN f + dig a i * 65536 ^ i * (b % 65536 ^ (4 - i)) := by
            have := HV.out
            rw [hi4, hj] at this
            exact this
          exact ⟨⟨i + 1, by omega, by simp, g, hg, outer_step hlt HG.out (valN_lt hg) e, ht⟩, by simp [intOf]; omega⟩
    · have hlt' : ¬ (i : Int) < 4 := by omega
      obtain rfl : i = 4 := by omega
      obtain ⟨ho, hr, -, -, kr⟩ := ht
      replace ho : NumAt wr (w.heap.size + 1 + 1 + 1) F := ho.same (hR.out f hf hval)
      obtain ⟨a0, a1, a2, a3, -⟩ := ho.four
      obtain ⟨b0, b1, b2, b3, f0, f1, f2, f3⟩ := hr.four
      clear hR hval
      go_wp2_with fail
      refine num_put F hr kr (by omega) (P := fun w9 => bodyPost _ _ _ _ _ w9) fun w9 h9 k9 _ => ?_
      obtain ⟨c0, c1, c2, c3, -⟩ := h9.four
      exact bodyPost_ret (v := numV F) (by simp [results, Tryd.results11, go_sem, numV, numA, c0, c1, c2, c3]) rfl ⟨rfl, k9⟩
end Go.Proofs.YtiaalojfoldnfaaDoor
