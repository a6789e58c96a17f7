/-
  The reference's Mix.
-/
import Derived.Test.YtiaalojfoldnfaaDoorON4
import Derived.Test.YtiaalojfoldnfaaDoorON5
import Derived.Deep.RegionWith
namespace Go.Proofs.YtiaalojfoldnfaaDoor
open Go.RowKit
set_option linter.unusedVariables false

theorem two_alloc {w : World} {o1 o2 : Obj} {P : World → Prop} (h : ∀ W, W.heap[w.heap.size]? = some o1 → W.heap[w.heap.size + 1]? = some o2 → Kp w W → P W) : P ((w.alloc o1).alloc o2) :=
  h _ (heap_old (heap_new _ _) _) (heap_next _ _ _) (((Kp.refl w).alloc _).alloc _)

theorem digits_is (v : Nat) (hv : v < 18446744073709551616) (w : World) :
    Calls Tryd.prog 10 #[.int .u64 (v : Int)] w fun e w' => e = .returned (.agg #[.int .i64 (dig v 0 : Nat), .int .i64 (dig v 1 : Nat), .int .i64 (dig v 2 : Nat), .int .i64 (dig v 3 : Nat)]) ∧ Kp w w' := digits_any v hv w
def DigIs (x : Int) (v : Nat) : Prop := x = (v : Int) ∧ v < 18446744073709551616
theorem digits_is2 {x : Int} {v : Nat} (q : DigIs x v) (w : World) :
    Calls Tryd.prog 10 #[.int .u64 x] w fun e w' => e = .returned (.agg #[.int .i64 (dig v 0 : Nat), .int .i64 (dig v 1 : Nat), .int .i64 (dig v 2 : Nat), .int .i64 (dig v 3 : Nat)]) ∧ Kp w w' := by
  obtain ⟨rfl, h⟩ := q
  exact digits_any v h w
def TimesIs (a b r : Nat) : Prop := a < 18446744073709551616 ∧ r = mulN b a
theorem times_is {a b r : Nat} (q : TimesIs a b r) (w : World) :
    Calls Tryd.prog 11 #[.agg #[.int .i64 (dig a 0 : Nat), .int .i64 (dig a 1 : Nat), .int .i64 (dig a 2 : Nat), .int .i64 (dig a 3 : Nat)], .agg #[.int .i64 (dig b 0 : Nat), .int .i64 (dig b 1 : Nat), .int .i64 (dig b 2 : Nat), .int .i64 (dig b 3 : Nat)]] w
      fun e w' => e = .returned (.agg #[.int .i64 (dig r 0 : Nat), .int .i64 (dig r 1 : Nat), .int .i64 (dig r 2 : Nat), .int .i64 (dig r 3 : Nat)]) ∧ Kp w w' := by
  obtain ⟨h, rfl⟩ := q
  exact times_any a b h w
def XorIs (a b r : Nat) : Prop := r = a ^^^ b
theorem xor_is {a b r : Nat} (q : XorIs a b r) (w : World) :
    Calls Tryd.prog 9 #[.agg #[.int .i64 (dig a 0 : Nat), .int .i64 (dig a 1 : Nat), .int .i64 (dig a 2 : Nat), .int .i64 (dig a 3 : Nat)], .agg #[.int .i64 (dig b 0 : Nat), .int .i64 (dig b 1 : Nat), .int .i64 (dig b 2 : Nat), .int .i64 (dig b 3 : Nat)]] w
      fun e w' => e = .returned (.agg #[.int .i64 (dig r 0 : Nat), .int .i64 (dig r 1 : Nat), .int .i64 (dig r 2 : Nat), .int .i64 (dig r 3 : Nat)]) ∧ Kp w w' := by
  obtain rfl : r = a ^^^ b := q
  exact xor_any a b w
theorem dig_small {c : Nat} (hc : c < 65536) : dig c 0 = c ∧ dig c 1 = 0 ∧ dig c 2 = 0 ∧ dig c 3 = 0 := by
  unfold dig
  refine ⟨?_, ?_, ?_, ?_⟩
  · rw [Nat.pow_zero, Nat.div_one, Nat.mod_eq_of_lt hc]
  · rw [Nat.div_eq_of_lt (Nat.lt_of_lt_of_le hc (by decide))]
  · rw [Nat.div_eq_of_lt (Nat.lt_of_lt_of_le hc (by decide))]
  · rw [Nat.div_eq_of_lt (Nat.lt_of_lt_of_le hc (by decide))]
def XorBIs (a : Nat) (x : Int) (r : Nat) : Prop := ∃ c : Nat, x = (c : Int) ∧ c < 65536 ∧ r = a ^^^ c
theorem xorb_is {a r : Nat} {x : Int} (q : XorBIs a x r) (w : World) :
    Calls Tryd.prog 9 #[.agg #[.int .i64 (dig a 0 : Nat), .int .i64 (dig a 1 : Nat), .int .i64 (dig a 2 : Nat), .int .i64 (dig a 3 : Nat)], .agg #[.int .i64 x, .int .i64 0, .int .i64 0, .int .i64 0]] w
      fun e w' => e = .returned (.agg #[.int .i64 (dig r 0 : Nat), .int .i64 (dig r 1 : Nat), .int .i64 (dig r 2 : Nat), .int .i64 (dig r 3 : Nat)]) ∧ Kp w w' := by
  obtain ⟨c, rfl, hc, rfl⟩ := q
  have h := xor_any a c w
  obtain ⟨e0, e1, e2, e3⟩ := dig_small hc
  have e : numV (dig c) = .agg #[.int .i64 (c : Nat), .int .i64 0, .int .i64 0, .int .i64 0] := by
    unfold numV numA
    rw [e0, e1, e2, e3]
    rfl
  rw [e] at h
  exact h

theorem Kp.re {w W : World} {o o' : Obj} (hle : w.heap.size ≤ W.heap.size) (h : Kp w (W.alloc o)) : Kp w (W.alloc o') :=
  ⟨h.os, h.tape, h.output, by simp; omega, fun k hk => (Below.heap_alloc W o' k (by omega)).trans ((Below.heap_alloc W o k (by omega)).symm.trans (h.block k hk))⟩
section
variable {w W W1 : World} {b n : Nat} {v0 v1 v2 v3 : Value}
abbrev S4 (w : World) (b : Nat) (v0 v1 v2 v3 : Value) (W : World) : Prop := W.cell? ⟨b, 0, none⟩ = some v0 ∧ W.cell? ⟨b, 1, none⟩ = some v1 ∧ W.cell? ⟨b, 2, none⟩ = some v2 ∧ W.cell? ⟨b, 3, none⟩ = some v3 ∧ Kp w W
theorem s4_call (k : Kp W W1) (h : S4 w b v0 v1 v2 v3 W) : S4 w b v0 v1 v2 v3 W1 := ⟨k.cell h.1, k.cell h.2.1, k.cell h.2.2.1, k.cell h.2.2.2.1, h.2.2.2.2.trans k⟩
theorem s4_drew (h : S4 w b v0 v1 v2 v3 W) : S4 w b v0 v1 v2 v3 W.drew := ⟨h.1, h.2.1, h.2.2.1, h.2.2.2.1, h.2.2.2.2.drew⟩
theorem s4_re {o o' : Obj} (h0 : S4 w b v0 v1 v2 v3 w) (hle : w.heap.size ≤ W.heap.size) (h : S4 w b v0 v1 v2 v3 (W.alloc o)) : S4 w b v0 v1 v2 v3 (W.alloc o') := s4_call (Kp.re hle h.2.2.2.2) h0
theorem s4_set {x0 x1 x2 x3 : Value} (h0 : S4 w b v0 v1 v2 v3 w) (hn : w.heap.size ≤ n) (h : S4 w b v0 v1 v2 v3 W) : S4 w b v0 v1 v2 v3 ((((W.setCell ⟨n, 0, none⟩ x0).setCell ⟨n, 1, none⟩ x1).setCell ⟨n, 2, none⟩ x2).setCell ⟨n, 3, none⟩ x3) :=
  s4_call (Below.setCell (Below.setCell (Below.setCell (Below.setCell h.2.2.2.2 hn _) hn _) hn _) hn _) h0
end

def DownIs (a : Nat) (k : Int) (r : Nat) : Prop := a < 18446744073709551616 ∧ ((k = 29 ∧ r = a / 2 ^ 29) ∨ (k = 31 ∧ r = a / 2 ^ 31) ∨ (k = 32 ∧ r = a / 2 ^ 32))
theorem down_is {a r : Nat} {k : Int} (q : DownIs a k r) (w : World) :
    Calls Tryd.prog 12 #[.agg #[.int .i64 (dig a 0 : Nat), .int .i64 (dig a 1 : Nat), .int .i64 (dig a 2 : Nat), .int .i64 (dig a 3 : Nat)], .int .i64 k] w
      fun e w' => e = .returned (.agg #[.int .i64 (dig r 0 : Nat), .int .i64 (dig r 1 : Nat), .int .i64 (dig r 2 : Nat), .int .i64 (dig r 3 : Nat)]) ∧ Kp w w' := by
  obtain ⟨h, ⟨rfl, rfl⟩ | ⟨rfl, rfl⟩ | ⟨rfl, rfl⟩⟩ := q
  · exact down29 a h w
  · exact down31 a h w
  · exact down32 a h w
section
variable {w W W1 : World} {b n : Nat} {v0 v1 v2 v3 : Value}
theorem k4_put {x0 x1 x2 x3 : Value} (h : Kp w W) (hn : w.heap.size ≤ n) : Kp w ((((W.setCell ⟨n, 0, none⟩ x0).setCell ⟨n, 1, none⟩ x1).setCell ⟨n, 2, none⟩ x2).setCell ⟨n, 3, none⟩ x3) :=
  Below.setCell (Below.setCell (Below.setCell (Below.setCell h hn _) hn _) hn _) hn _
end
theorem num_put0 {w : World} {b : Nat} {f : Nat → Nat} (g : Nat → Nat) (h : NumAt w b f) :
    NumAt ((((w.setCell ⟨b, 0, none⟩ (.int .i64 (g 0 : Nat))).setCell ⟨b, 1, none⟩ (.int .i64 (g 1 : Nat))).setCell ⟨b, 2, none⟩ (.int .i64 (g 2 : Nat))).setCell ⟨b, 3, none⟩ (.int .i64 (g 3 : Nat))) b g := by
  have h0 := set_one h 0 (.int .i64 (g 0 : Nat)) (by simp [numA])
  have h1 := set_one h0 1 (.int .i64 (g 1 : Nat)) (by simp [numA])
  have h2 := set_one h1 2 (.int .i64 (g 2 : Nat)) (by simp [numA])
  have h3 := set_one h2 3 (.int .i64 (g 3 : Nat)) (by simp [numA])
  exact h3
/-- The two factors stand, and all that stood in w. -/
def Env (w : World) (A B : Nat) (W : World) : Prop := NumAt W w.heap.size (dig A) ∧ NumAt W (w.heap.size + 1) (dig B) ∧ Kp w W
theorem Env.kp {w W W1 : World} {A B : Nat} (h : Env w A B W) (k : Kp W W1) : Env w A B W1 := ⟨h.1.kp k, h.2.1.kp k, h.2.2.trans k⟩
theorem Env.drew {w W : World} {A B : Nat} (h : Env w A B W) : Env w A B W.drew := ⟨h.1, h.2.1, h.2.2.drew⟩
theorem Env.put {w W W1 : World} {A B n : Nat} (h : Env w A B W) (hn : w.heap.size + 1 < n) (k : Kp w W1) (hb : ∀ i, i ≠ n → W1.heap[i]? = W.heap[i]?) : Env w A B W1 :=
  ⟨(hb _ (by omega)).trans h.1, (hb _ (by omega)).trans h.2.1, k⟩
theorem num_zero (w : World) : NumAt (w.alloc (.cells #[.int .i64 0, .int .i64 0, .int .i64 0, .int .i64 0] 30)) w.heap.size (fun _ => 0) := heap_new _ _
set_option maxHeartbeats 40000000 in
theorem dig_A : dig 13234230157428861123 0 = 10435 ∧ dig 13234230157428861123 1 = 53583 ∧ dig 13234230157428861123 2 = 28213 ∧ dig 13234230157428861123 3 = 47017 := by decide
theorem dig_B : dig 11329751410908088055 0 = 18167 ∧ dig 11329751410908088055 1 = 28840 ∧ dig 11329751410908088055 2 = 23777 ∧ dig 11329751410908088055 3 = 40251 := by decide
theorem num_A {w : World} {b : Nat} (h : w.heap[b]? = some (.cells #[.int .i64 10435, .int .i64 53583, .int .i64 28213, .int .i64 47017] 30)) : NumAt w b (dig 13234230157428861123) := by
  obtain ⟨e0, e1, e2, e3⟩ := dig_A
  unfold NumAt numA
  rw [e0, e1, e2, e3]
  exact h
theorem num_B {w : World} {b : Nat} (h : w.heap[b]? = some (.cells #[.int .i64 18167, .int .i64 28840, .int .i64 23777, .int .i64 40251] 30)) : NumAt w b (dig 11329751410908088055) := by
  obtain ⟨e0, e1, e2, e3⟩ := dig_B
  unfold NumAt numA
  rw [e0, e1, e2, e3]
  exact h

/-- The rest of Mix behind its first four statements, and behind its loop. -/
def tail4 : Option Code → Code
  | some (.seq _ (.seq _ (.seq _ (.seq _ c)))) => c
  | _ => .skip
def tail5 : Code → Code
  | .seq _ c => c
  | c => c

set_option maxRecDepth 100000 in
set_option maxHeartbeats 10000000 in
theorem rmix_exit (seed S R A B Bh : Nat) (key : ByteArray) (cs : List UInt8) (w wr : World) (t9 t10 t11 t12 t13 t14 t15 t16 t17 t18 t19 t20 u25 u26 u27 u28 u29 u30 u31 u32 u33 u34 u35 u36 u37 u38 u39 : Value) (HSl : S < 18446744073709551616) (hR : Hid (R = endN (bytesN S cs))) (HNA : 13234230157428861123 = A) (hBh : w.heap.size + 1 < Bh) (g1 : w.heap.size ≤ Bh) (hH : NumAt wr Bh (dig (bytesN S cs))) (hE : Env w A B wr) :
    Code.wp Tryd.prog (tail5 (tail4 Tryd.f7.body)) (bodyPost Tryd.prog Tryd.f7 fun e w' => e = .returned (.int .u64 (R : Nat)) ∧ Kp w w') { tmps := #[Value.int IntKind.u64 (seed : Int), Value.string key, undef, undef, Value.int IntKind.u64 0, Value.pointer (some ⟨w.heap.size, 0, none⟩), Value.pointer (some ⟨w.heap.size + 1, 0, none⟩), Value.pointer (some ⟨Bh, 0, none⟩), Value.int IntKind.i64 (key.size : Int), t9, t10, t11, t12, t13, t14, t15, t16, t17, t18, t19, t20, Value.int IntKind.i64 (key.size : Int), Value.string key, Value.int IntKind.i64 (key.size : Int), Value.bool false, u25, u26, u27, u28, u29, u30, u31, u32, u33, u34, u35, u36, u37, u38, u39, undef, undef, undef, undef, undef, undef, undef, undef, undef, undef, undef, undef, undef], defers := [] } wr := by
  unfold tail5 tail4 Tryd.f7
  dsimp only
  have hX := bytesN_lt cs HSl
  have hR2 : Hid (R = foldN 32 (mulN 13234230157428861123 (foldN 29 (bytesN S cs)))) := hR
  rw [HNA] at hR2
  clear hR
  generalize bytesN S cs = X at *
  have q3 : DownIs X 29 (X / 2 ^ 29) := ⟨hX, Or.inl ⟨rfl, rfl⟩⟩
  have q4 : XorIs X (X / 2 ^ 29) (foldN 29 X) := rfl
  have hY : foldN 29 X < 18446744073709551616 := foldN_lt hX
  generalize foldN 29 X = Y at *
  generalize X / 2 ^ 29 = D at *
  have q5 : TimesIs Y A (mulN A Y) := ⟨hY, rfl⟩
  have hZ := mulN_lt A Y
  generalize mulN A Y = V at *
  have q6 : DownIs V 32 (V / 2 ^ 32) := ⟨hZ, Or.inr (Or.inr ⟨rfl, rfl⟩)⟩
  have q7 : XorIs V (V / 2 ^ 32) (foldN 32 V) := rfl
  have hG : foldN 32 V < 18446744073709551616 := foldN_lt hZ
  generalize foldN 32 V = G at *
  generalize V / 2 ^ 32 = D2 at *
  have hN := hH
  obtain ⟨u0', u1', u2', u3', f0', f1', f2', f3'⟩ := hN.four
  clear hH
  go_wp2_with fail
  rename_i K9 a9
  have T9 : Hid (∀ (t40 t41 t42 t43 : Value) (W9 : World), NumAt W9 Bh (dig Y) → Env w A B W9 → K9 { tmps := #[Value.int IntKind.u64 (seed : Int), Value.string key, undef, undef, Value.int IntKind.u64 0, Value.pointer (some ⟨w.heap.size, 0, none⟩), Value.pointer (some ⟨w.heap.size + 1, 0, none⟩), Value.pointer (some ⟨Bh, 0, none⟩), Value.int IntKind.i64 (key.size : Int), t9, t10, t11, t12, t13, t14, t15, t16, t17, t18, t19, t20, Value.int IntKind.i64 (key.size : Int), Value.string key, Value.int IntKind.i64 (key.size : Int), Value.bool false, u25, u26, u27, u28, u29, u30, u31, u32, u33, u34, u35, u36, u37, u38, u39, t40, t41, t42, t43, undef, undef, undef, undef, undef, undef, undef, undef, undef], defers := [] } W9) := by
    intro t40 t41 t42 t43 W9 hN9 hE9
    refine a9 _ _ ?_
    clear a9 u0' u1' u2' u3' f0' f1' f2' f3' hN hE q3 q4
    obtain ⟨u0', u1', u2', u3', f0', f1', f2', f3'⟩ := hN9.four
    obtain ⟨b0', b1', b2', b3', -⟩ := hE9.1.four
    go_wp2_with fail
    refine (times_is q5 _).mono ?_
    rintro r w5 ⟨rfl, k5⟩
    clear u0' u1' u2' u3' f0' f1' f2' f3' b0' b1' b2' b3'
    have hN := hN9.kp k5
    have hE := hE9.kp k5
    obtain ⟨u0', u1', u2', u3', f0', f1', f2', f3'⟩ := hN.four
    clear q5 k5 hN9 hE9
    go_wp2_with fail
    clear u0' u1' u2' u3' f0' f1' f2' f3'
    refine num_put (dig V) hN hE.2.2 g1 (P := fun W9 => Code.wp _ _ _ _ W9) fun W11 h11 k11 hh => ?_
    have hE11 := hE.put hBh k11 hh
    clear hN hE k11 hh
    have hN := h11
    have hE := hE11
    clear h11 hE11
    obtain ⟨u0', u1', u2', u3', f0', f1', f2', f3'⟩ := hN.four
    rename_i K11 a11
    have T11 : Hid (∀ (t44 t45 t46 t47 t48 t49 t50 : Value) (W12 : World), NumAt W12 Bh (dig G) → Env w A B W12 → K11 { tmps := #[Value.int IntKind.u64 (seed : Int), Value.string key, undef, undef, Value.int IntKind.u64 0, Value.pointer (some ⟨w.heap.size, 0, none⟩), Value.pointer (some ⟨w.heap.size + 1, 0, none⟩), Value.pointer (some ⟨Bh, 0, none⟩), Value.int IntKind.i64 (key.size : Int), t9, t10, t11, t12, t13, t14, t15, t16, t17, t18, t19, t20, Value.int IntKind.i64 (key.size : Int), Value.string key, Value.int IntKind.i64 (key.size : Int), Value.bool false, u25, u26, u27, u28, u29, u30, u31, u32, u33, u34, u35, u36, u37, u38, u39, t40, t41, t42, t43, t44, t45, t46, t47, t48, t49, t50, undef, undef], defers := [] } W12) := by
      intro t44 t45 t46 t47 t48 t49 t50 W12 hN12 hE12
      refine a11 _ _ ?_
      clear a11 u0' u1' u2' u3' f0' f1' f2' f3' hN hE q6 q7
      obtain ⟨u0', u1', u2', u3', f0', f1', f2', f3'⟩ := hN12.four
      go_wp2_with fail
      refine (whole_any G hG _).mono ?_
      rintro r w6 ⟨rfl, k6⟩
      go_wp2_with fail
      go_ret
      exact ⟨by rw [hR2.out]; rfl, hE12.2.2.trans k6⟩
    clear a11
    go_region_with (first | (go_at_call 12; refine (down_is (by assumption) _).mono ?_; rintro r w5 ⟨rfl, k5⟩; (first | ((with_reducible have hN := NumAt.kp hN k5); (with_reducible have hE := Env.kp hE k5); obtain ⟨u0', u1', u2', u3', f0', f1', f2', f3'⟩ := hN.four) | ((with_reducible have hN := NumAt.kp hN.drew k5); (with_reducible have hE := Env.kp hE.drew k5); obtain ⟨u0', u1', u2', u3', f0', f1', f2', f3'⟩ := hN.four))) | (go_at_call 9; refine (xor_is (by assumption) _).mono ?_; rintro r w5 ⟨rfl, k5⟩; (first | ((with_reducible have hN := NumAt.kp hN k5); (with_reducible have hE := Env.kp hE k5); obtain ⟨u0', u1', u2', u3', f0', f1', f2', f3'⟩ := hN.four) | ((with_reducible have hN := NumAt.kp hN.drew k5); (with_reducible have hE := Env.kp hE.drew k5); obtain ⟨u0', u1', u2', u3', f0', f1', f2', f3'⟩ := hN.four))))
    all_goals
      clear u0' u1' u2' u3' f0' f1' f2' f3'
      have hp := num_put (dig G) hN hE.2.2 g1 (P := fun W9 => NumAt W9 Bh (dig G) ∧ Env w A B W9) (fun W9 h9 k9 hh => ⟨h9, hE.put hBh k9 hh⟩)
      exact T11.out _ _ _ _ _ _ _ _ hp.1 hp.2
  clear a9 q5 q6 q7
  go_region_with (first | (go_at_call 12; refine (down_is (by assumption) _).mono ?_; rintro r w5 ⟨rfl, k5⟩; (first | ((with_reducible have hN := NumAt.kp hN k5); (with_reducible have hE := Env.kp hE k5); obtain ⟨u0', u1', u2', u3', f0', f1', f2', f3'⟩ := hN.four) | ((with_reducible have hN := NumAt.kp hN.drew k5); (with_reducible have hE := Env.kp hE.drew k5); obtain ⟨u0', u1', u2', u3', f0', f1', f2', f3'⟩ := hN.four))) | (go_at_call 9; refine (xor_is (by assumption) _).mono ?_; rintro r w5 ⟨rfl, k5⟩; (first | ((with_reducible have hN := NumAt.kp hN k5); (with_reducible have hE := Env.kp hE k5); obtain ⟨u0', u1', u2', u3', f0', f1', f2', f3'⟩ := hN.four) | ((with_reducible have hN := NumAt.kp hN.drew k5); (with_reducible have hE := Env.kp hE.drew k5); obtain ⟨u0', u1', u2', u3', f0', f1', f2', f3'⟩ := hN.four))))
  all_goals
    clear u0' u1' u2' u3' f0' f1' f2' f3'
    have hp := num_put (dig Y) hN hE.2.2 g1 (P := fun W9 => NumAt W9 Bh (dig Y) ∧ Env w A B W9) (fun W9 h9 k9 hh => ⟨h9, hE.put hBh k9 hh⟩)
    exact T9.out _ _ _ _ _ hp.1 hp.2

set_option maxRecDepth 100000 in
set_option maxHeartbeats 20000000 in
theorem rmix_tail (seed S R A B Bh : Nat) (key : ByteArray) (cs : List UInt8) (w W' : World) (t9 t10 t11 t12 t13 t14 t15 t16 t17 t18 t19 t20 : Value) (HSl : S < 18446744073709551616) (hl : key.size < 9223372036854775807) (hR : Hid (R = endN (bytesN S cs))) (hlen : cs.length = key.size) (hget : ∀ i (hi : i < key.size), key[i] = cs[i]'(by omega)) (hNA : 13234230157428861123 = A) (hNB : 11329751410908088055 = B) (hBh : w.heap.size + 1 < Bh) (hH : NumAt W' Bh (dig S)) (hE : Env w A B W') :
    Code.wp Tryd.prog (tail4 Tryd.f7.body) (bodyPost Tryd.prog Tryd.f7 fun e w' => e = .returned (.int .u64 (R : Nat)) ∧ Kp w w') { tmps := #[Value.int IntKind.u64 (seed : Int), Value.string key, undef, undef, Value.int IntKind.u64 0, Value.pointer (some ⟨w.heap.size, 0, none⟩), Value.pointer (some ⟨w.heap.size + 1, 0, none⟩), Value.pointer (some ⟨Bh, 0, none⟩), undef, t9, t10, t11, t12, t13, t14, t15, t16, t17, t18, t19, t20, undef, undef, undef, undef, undef, undef, undef, undef, undef, undef, undef, undef, undef, undef, undef, undef, undef, undef, undef, undef, undef, undef, undef, undef, undef, undef, undef, undef, undef, undef, undef, undef], defers := [] } W' := by
  have HNA := hide hNA
  have HNB := hide hNB
  clear hNA hNB
  unfold tail4 Tryd.f7
  dsimp only
  go_wp2_with fail
  rename_i K0 a0
  have HK0 := hide a0
  clear a0
  go_loopw [8] (fun vi wr => ∃ i : Nat, vi = .int .i64 (i : Int) ∧ i ≤ key.size ∧ NumAt wr Bh (dig (bytesN S (cs.take i))) ∧ Env w A B wr) (fun vi _ => key.size - (intOf vi).toNat)
  case atStart => exact ⟨0, rfl, Nat.zero_le _, hH, hE⟩
  case round =>
    clear hH hE
    obtain ⟨i, rfl, hi, hH, hE⟩ := hrel
    have g1 : w.heap.size ≤ Bh := by omega
    by_cases hlt : i < key.size
    · have hlt' : (i : Int) < (key.size : Int) := by omega
      have hg := hget i hlt
      have hN0 : Hid (bytesN S (cs.take (i + 1)) = foldN 31 (mulN 11329751410908088055 (bytesN S (cs.take i) ^^^ cs[i].toNat))) := bytesN_take S cs i (by omega)
      have hX := bytesN_lt (cs.take i) HSl
      generalize bytesN S (cs.take i) = X at *
      have hc2 : cs[i].toNat < 256 := cs[i].toNat_lt
      rw [HNB.out] at hN0
      have q1 : XorBIs X ((cs[i].toNat : Nat) : Int) (X ^^^ cs[i].toNat) := ⟨_, rfl, by omega, rfl⟩
      have x4 : IntKind.i64.wrap ((cs[i].toNat : Nat) : Int) = ((cs[i].toNat : Nat) : Int) := by rw [IntKind.wrap_i64]; omega
      have hY : X ^^^ cs[i].toNat < 18446744073709551616 := xorN_lt hX (by omega)
      generalize X ^^^ cs[i].toNat = Y at *
      have q2 : TimesIs Y B (mulN B Y) := ⟨hY, rfl⟩
      have hZ := mulN_lt B Y
      generalize mulN B Y = V at *
      have q3 : DownIs V 31 (V / 2 ^ 31) := ⟨hZ, Or.inr (Or.inl ⟨rfl, rfl⟩)⟩
      have q4 : XorIs V (V / 2 ^ 31) (foldN 31 V) := rfl
      generalize foldN 31 V = G at *
      generalize V / 2 ^ 31 = D at *
      have hN := hH
      obtain ⟨u0', u1', u2', u3', f0', f1', f2', f3'⟩ := hN.four
      obtain ⟨b0', b1', b2', b3', -⟩ := hE.2.1.four
      clear hget hH
      go_wp2_with fail
      rename_i K7 a7
      have T7 : Hid (∀ (t27 t28 t29 t30 t31 t32 t33 t34 t35 : Value) (W7 : World), NumAt W7 Bh (dig V) → Env w A B W7 → K7 { tmps := #[Value.int IntKind.u64 (seed : Int), Value.string key, undef, undef, Value.int IntKind.u64 0, Value.pointer (some ⟨w.heap.size, 0, none⟩), Value.pointer (some ⟨w.heap.size + 1, 0, none⟩), Value.pointer (some ⟨Bh, 0, none⟩), Value.int IntKind.i64 (i : Int), t9, t10, t11, t12, t13, t14, t15, t16, t17, t18, t19, t20, Value.int IntKind.i64 (i : Int), Value.string key, Value.int IntKind.i64 (key.size : Int), Value.bool true, u25, u26, t27, t28, t29, t30, t31, t32, t33, t34, t35, u36, u37, u38, u39, undef, undef, undef, undef, undef, undef, undef, undef, undef, undef, undef, undef, undef], defers := [] } W7) := by
        intro t27 t28 t29 t30 t31 t32 t33 t34 t35 W7 hN7 hE7
        refine a7 _ _ ?_
        clear a7 u0' u1' u2' u3' f0' f1' f2' f3' b0' b1' b2' b3' hN hE q1 q2 x4 hg
        have hN := hN7
        have hE := hE7
        clear hN7 hE7
        obtain ⟨u0', u1', u2', u3', f0', f1', f2', f3'⟩ := hN.four
        go_wp2_with fail
        go_region_with (first | (go_at_call 12; refine (down_is (by assumption) _).mono ?_; rintro r w5 ⟨rfl, k5⟩; (first | ((with_reducible have hN := NumAt.kp hN k5); (with_reducible have hE := Env.kp hE k5); obtain ⟨u0', u1', u2', u3', f0', f1', f2', f3'⟩ := hN.four) | ((with_reducible have hN := NumAt.kp hN.drew k5); (with_reducible have hE := Env.kp hE.drew k5); obtain ⟨u0', u1', u2', u3', f0', f1', f2', f3'⟩ := hN.four))) | (go_at_call 9; refine (xor_is (by assumption) _).mono ?_; rintro r w5 ⟨rfl, k5⟩; (first | ((with_reducible have hN := NumAt.kp hN k5); (with_reducible have hE := Env.kp hE k5); obtain ⟨u0', u1', u2', u3', f0', f1', f2', f3'⟩ := hN.four) | ((with_reducible have hN := NumAt.kp hN.drew k5); (with_reducible have hE := Env.kp hE.drew k5); obtain ⟨u0', u1', u2', u3', f0', f1', f2', f3'⟩ := hN.four))))
        all_goals
          clear u0' u1' u2' u3' f0' f1' f2' f3'
          go_wp2_with fail
          have hp := num_put (dig G) hN hE.2.2 g1 (P := fun W9 => NumAt W9 Bh (dig G) ∧ Env w A B W9) (fun W9 h9 k9 hh => ⟨h9, hE.put hBh k9 hh⟩)
          exact ⟨⟨i + 1, by simp, by omega, by rw [hN0.out]; exact hp.1, hp.2⟩, by simp [intOf]; omega⟩
      clear a7 q3 q4
      go_region_with (first | (go_at_call 9; refine (xorb_is (by assumption) _).mono ?_; rintro r w5 ⟨rfl, k5⟩; (first | ((with_reducible have hN := NumAt.kp hN k5); (with_reducible have hE := Env.kp hE k5); obtain ⟨u0', u1', u2', u3', f0', f1', f2', f3'⟩ := hN.four; obtain ⟨b0', b1', b2', b3', -⟩ := hE.2.1.four) | ((with_reducible have hN := NumAt.kp hN.drew k5); (with_reducible have hE := Env.kp hE.drew k5); obtain ⟨u0', u1', u2', u3', f0', f1', f2', f3'⟩ := hN.four; obtain ⟨b0', b1', b2', b3', -⟩ := hE.2.1.four))) | (go_at_call 11; refine (times_is (by assumption) _).mono ?_; rintro r w5 ⟨rfl, k5⟩; (first | ((with_reducible have hN := NumAt.kp hN k5); (with_reducible have hE := Env.kp hE k5); obtain ⟨u0', u1', u2', u3', f0', f1', f2', f3'⟩ := hN.four; obtain ⟨b0', b1', b2', b3', -⟩ := hE.2.1.four) | ((with_reducible have hN := NumAt.kp hN.drew k5); (with_reducible have hE := Env.kp hE.drew k5); obtain ⟨u0', u1', u2', u3', f0', f1', f2', f3'⟩ := hN.four; obtain ⟨b0', b1', b2', b3', -⟩ := hE.2.1.four))))
      all_goals
        clear u0' u1' u2' u3' f0' f1' f2' f3' b0' b1' b2' b3'
        have hp := num_put (dig V) hN hE.2.2 g1 (P := fun W9 => NumAt W9 Bh (dig V) ∧ Env w A B W9) (fun W9 h9 k9 hh => ⟨h9, hE.put hBh k9 hh⟩)
        exact T7.out _ _ _ _ _ _ _ _ _ _ hp.1 hp.2
    · have hlt' : ¬ (i : Int) < (key.size : Int) := by omega
      obtain rfl : i = key.size := by omega
      have ht : cs.take key.size = cs := List.take_of_length_le (by omega)
      rw [ht] at hH
      have HH := hide hH
      have HE := hide hE
      clear hget hH hlt hE
      go_wp2_with fail
      exact HK0.out _ _ (rmix_exit seed S R A B Bh key cs w wr _ _ _ _ _ _ _ _ _ _ _ _ _ _ _ _ _ _ _ _ _ _ _ _ _ _ _ HSl hR HNA.out hBh g1 HH.out HE.out)

set_option maxRecDepth 100000 in
set_option maxHeartbeats 10000000 in
theorem rmix_walk (seed S R : Nat) (key : ByteArray) (cs : List UInt8) (w : World) (hs : seed < 18446744073709551616) (hS : S = startN seed key.size) (hl : key.size < 9223372036854775807)
    (hR : Hid (R = endN (bytesN S cs))) (hlen : cs.length = key.size) (hget : ∀ i (hi : i < key.size), key[i] = cs[i]'(by omega)) :
    Calls Tryd.prog 7 #[.int .u64 (seed : Int), .string key] w fun e w' => e = .returned (.int .u64 (R : Nat)) ∧ Kp w w' := by
  go_enter Tryd.func7, Tryd.ntmps7
  go_wp2_with fail
  refine two_alloc (P := fun W => Code.wp _ _ _ _ W) fun W r1 r2 kW => ?_
  have hA := num_A r1
  have hB := num_B r2
  clear r1 r2
  have HS := hide hS
  have t1 : TimesIs 13234230157428861123 (1 + key.size) (mulN 13234230157428861123 (1 + key.size)) := ⟨by decide, by unfold mulN; rw [Nat.mul_comm]⟩
  have t2 : XorIs seed (mulN 13234230157428861123 (1 + key.size)) S := hS
  generalize mulN 13234230157428861123 (1 + key.size) = Z at *
  generalize hNA : (13234230157428861123 : Nat) = A at *
  generalize hNB : (11329751410908088055 : Nat) = B at *
  have x1 : IntKind.u64.wrap (1 + (key.size : Int)) = 1 + (key.size : Int) := by rw [IntKind.wrap_u64]; omega
  have x2 : IntKind.i64.wrap (1 + (key.size : Int)) = 1 + (key.size : Int) := by rw [IntKind.wrap_i64]; omega
  have x3 : wrap64 (1 + (key.size : Int)) = 1 + (key.size : Int) := by unfold wrap64; omega
  have d1 : DigIs (seed : Int) seed := ⟨rfl, hs⟩
  have d2 : DigIs (1 + (key.size : Int)) (1 + key.size) := ⟨by omega, by omega⟩
  rename_i Kx ax
  have HSl : S < 18446744073709551616 := by rw [hS]; exact startN_lt _ hs
  have tail : Hid (∀ (Bh : Nat) (t9 t10 t11 t12 t13 t14 t15 t16 t17 t18 t19 t20 : Value) (W' : World), NumAt W' Bh (dig S) → w.heap.size + 1 < Bh → Env w A B W' → Kx { tmps := #[Value.int IntKind.u64 (seed : Int), Value.string key, undef, undef, Value.int IntKind.u64 0, Value.pointer (some ⟨w.heap.size, 0, none⟩), Value.pointer (some ⟨w.heap.size + 1, 0, none⟩), Value.pointer (some ⟨Bh, 0, none⟩), undef, t9, t10, t11, t12, t13, t14, t15, t16, t17, t18, t19, t20, undef, undef, undef, undef, undef, undef, undef, undef, undef, undef, undef, undef, undef, undef, undef, undef, undef, undef, undef, undef, undef, undef, undef, undef, undef, undef, undef, undef, undef, undef, undef, undef], defers := [] } W') := by
    intro Bh t9 t10 t11 t12 t13 t14 t15 t16 t17 t18 t19 t20 W' hH hBh hE
    exact ax _ _ (rmix_tail seed S R A B Bh key cs w W' t9 t10 t11 t12 t13 t14 t15 t16 t17 t18 t19 t20 HSl hl hR hlen hget hNA hNB hBh hH hE)
  have hEnv : Env w A B W := ⟨hA, hB, kW⟩
  have hW2 : w.heap.size + 1 < W.heap.size := hB.lt
  clear hR hget hS hNA hNB ax
  obtain ⟨a0, a1, a2, a3, -⟩ := hA.four
  have hS0 := And.intro a0 (And.intro a1 (And.intro a2 (And.intro a3 (Kp.refl W))))
  have hS1 := hS0
  go_region_held3 (fun w' => w'.cell? ⟨w.heap.size, 0, none⟩ = some (.int .i64 (dig A 0 : Nat)) ∧ w'.cell? ⟨w.heap.size, 1, none⟩ = some (.int .i64 (dig A 1 : Nat)) ∧ w'.cell? ⟨w.heap.size, 2, none⟩ = some (.int .i64 (dig A 2 : Nat)) ∧ w'.cell? ⟨w.heap.size, 3, none⟩ = some (.int .i64 (dig A 3 : Nat)) ∧ Kp W w')
    (first | with_reducible assumption | with_reducible exact s4_set hS0 (Nat.le_refl _) (by assumption) | with_reducible exact s4_drew (by assumption) | with_reducible exact s4_call k5 (by assumption) | with_reducible exact s4_call (Kp.alloc (Kp.refl _) _) (by assumption) | with_reducible exact s4_drew (s4_call (Kp.alloc (Kp.refl _) _) (by assumption)) | with_reducible exact s4_call k5 (s4_drew (by assumption)) | with_reducible exact s4_call k5 (s4_call (Kp.alloc (Kp.refl _) _) (by assumption)) | with_reducible exact s4_call k5 (s4_drew (s4_call (Kp.alloc (Kp.refl _) _) (by assumption))) | with_reducible exact s4_re hS0 hz (by assumption) | with_reducible exact s4_set hS0 (by assumption) (by assumption) | (trace_state; fail))
    (first | (go_at_call 10; refine (digits_is2 (by assumption) _).mono ?_; rintro r w5 ⟨rfl, k5⟩; have hz : W.heap.size ≤ w5.heap.size := (by first | (have := k5.size; simp at this; omega) | (have := k5.size; omega)); (first | (with_reducible have hN := NumAt.kp hN k5; obtain ⟨u0, u1, u2, u3, f0, f1, f2, f3⟩ := hN.four) | (with_reducible have hN := NumAt.kp hN.drew k5; obtain ⟨u0, u1, u2, u3, f0, f1, f2, f3⟩ := hN.four) | (with_reducible have hN := NumAt.kp (num_zero _) k5; obtain ⟨u0, u1, u2, u3, f0, f1, f2, f3⟩ := hN.four) | (with_reducible have hN := NumAt.kp (num_zero _).drew k5; obtain ⟨u0, u1, u2, u3, f0, f1, f2, f3⟩ := hN.four) | skip)) | (go_at_call 11; refine (times_is (by assumption) _).mono ?_; rintro r w5 ⟨rfl, k5⟩; have hz : W.heap.size ≤ w5.heap.size := (by first | (have := k5.size; simp at this; omega) | (have := k5.size; omega)); (first | (with_reducible have hN := NumAt.kp hN k5; obtain ⟨u0, u1, u2, u3, f0, f1, f2, f3⟩ := hN.four) | (with_reducible have hN := NumAt.kp hN.drew k5; obtain ⟨u0, u1, u2, u3, f0, f1, f2, f3⟩ := hN.four) | (with_reducible have hN := NumAt.kp (num_zero _) k5; obtain ⟨u0, u1, u2, u3, f0, f1, f2, f3⟩ := hN.four) | (with_reducible have hN := NumAt.kp (num_zero _).drew k5; obtain ⟨u0, u1, u2, u3, f0, f1, f2, f3⟩ := hN.four) | skip)) | (go_at_call 9; refine (xor_is (by assumption) _).mono ?_; rintro r w5 ⟨rfl, k5⟩; have hz : W.heap.size ≤ w5.heap.size := (by first | (have := k5.size; simp at this; omega) | (have := k5.size; omega)); (first | (with_reducible have hN := NumAt.kp hN k5; obtain ⟨u0, u1, u2, u3, f0, f1, f2, f3⟩ := hN.four) | (with_reducible have hN := NumAt.kp hN.drew k5; obtain ⟨u0, u1, u2, u3, f0, f1, f2, f3⟩ := hN.four) | (with_reducible have hN := NumAt.kp (num_zero _) k5; obtain ⟨u0, u1, u2, u3, f0, f1, f2, f3⟩ := hN.four) | (with_reducible have hN := NumAt.kp (num_zero _).drew k5; obtain ⟨u0, u1, u2, u3, f0, f1, f2, f3⟩ := hN.four) | skip)))
  all_goals rename_i hHeld
  · exact tail.out _ _ _ _ _ _ _ _ _ _ _ _ _ _ (show NumAt (w5.alloc _) w5.heap.size (dig S) from heap_new _ _) (by omega) (hEnv.kp hHeld.2.2.2.2)
  all_goals exact tail.out _ _ _ _ _ _ _ _ _ _ _ _ _ _ (num_put0 (dig S) hN) (by first | omega | (simp; omega)) (hEnv.kp hHeld.2.2.2.2)

theorem rmix_any (seed : Nat) (key : ByteArray) (w : World) (hs : seed < 18446744073709551616) (hl : key.size < 9223372036854775807) :
    Calls Tryd.prog 7 #[.int .u64 (seed : Int), .string key] w fun e w' => e = .returned (.int .u64 (mixN seed key.data.toList : Nat)) ∧ Kp w w' :=
  rmix_walk seed (startN seed key.size) _ key key.data.toList w hs rfl hl (hide rfl) rfl (fun _ _ => rfl)
end Go.Proofs.YtiaalojfoldnfaaDoor
