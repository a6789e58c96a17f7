/-
  A control word as eight bytes: what each call makes of it, as plain numbers.
-/
import Derived.Laws.BitsAllLaws
namespace Go.Proofs.YtbpgjlengpgnnabDoor

/-- The byte of slot i. -/
def byN (w i : Nat) : Nat := w / 256 ^ i % 256
theorem byN_lt (w i : Nat) : byN w i < 256 := Nat.mod_lt _ (by decide)
theorem pow_byte (i : Nat) : (256 : Nat) ^ i = 2 ^ (8 * i) := by rw [Nat.pow_mul]
theorem byN_xor (a b i : Nat) : byN (a ^^^ b) i = byN a i ^^^ byN b i := by
  unfold byN
  rw [pow_byte, ← Nat.shiftRight_eq_div_pow, ← Nat.shiftRight_eq_div_pow, ← Nat.shiftRight_eq_div_pow, Nat.shiftRight_xor_distrib]
  exact Nat.xor_mod_two_pow (n := 8)
theorem byN_and (a b i : Nat) : byN (a &&& b) i = byN a i &&& byN b i := by
  unfold byN
  rw [pow_byte, ← Nat.shiftRight_eq_div_pow, ← Nat.shiftRight_eq_div_pow, ← Nat.shiftRight_eq_div_pow, Nat.shiftRight_and_distrib]
  exact Nat.and_mod_two_pow (n := 8)
theorem byN_or (a b i : Nat) : byN (a ||| b) i = byN a i ||| byN b i := by
  unfold byN
  rw [pow_byte, ← Nat.shiftRight_eq_div_pow, ← Nat.shiftRight_eq_div_pow, ← Nat.shiftRight_eq_div_pow, Nat.shiftRight_or_distrib]
  exact Nat.or_mod_two_pow (n := 8)

/-- Eight bytes as a word. -/
def of8 (f : Nat → Nat) : Nat := f 0 + 256 * f 1 + 65536 * f 2 + 16777216 * f 3 + 4294967296 * f 4 + 1099511627776 * f 5 + 281474976710656 * f 6 + 72057594037927936 * f 7
theorem of8_lt {f : Nat → Nat} (h : ∀ i, i < 8 → f i < 256) : of8 f < 18446744073709551616 := by
  unfold of8
  have h0 := h 0 (by decide)
  have h1 := h 1 (by decide)
  have h2 := h 2 (by decide)
  have h3 := h 3 (by decide)
  have h4 := h 4 (by decide)
  have h5 := h 5 (by decide)
  have h6 := h 6 (by decide)
  have h7 := h 7 (by decide)
  omega
theorem lt8 {P : Nat → Prop} {i : Nat} (hi : i < 8) (h0 : P 0) (h1 : P 1) (h2 : P 2) (h3 : P 3) (h4 : P 4) (h5 : P 5) (h6 : P 6) (h7 : P 7) : P i := by
  rcases (by omega : i = 0 ∨ i = 1 ∨ i = 2 ∨ i = 3 ∨ i = 4 ∨ i = 5 ∨ i = 6 ∨ i = 7) with rfl | rfl | rfl | rfl | rfl | rfl | rfl | rfl <;> assumption
theorem byN_of8 {f : Nat → Nat} (h : ∀ i, i < 8 → f i < 256) {i : Nat} (hi : i < 8) : byN (of8 f) i = f i := by
  have h0 := h 0 (by decide)
  have h1 := h 1 (by decide)
  have h2 := h 2 (by decide)
  have h3 := h 3 (by decide)
  have h4 := h 4 (by decide)
  have h5 := h 5 (by decide)
  have h6 := h 6 (by decide)
  have h7 := h 7 (by decide)
  refine lt8 (P := fun i => byN (of8 f) i = f i) hi ?_ ?_ ?_ ?_ ?_ ?_ ?_ ?_ <;> simp only [byN, of8, Nat.reducePow] <;> omega
theorem of8_byN {w : Nat} (h : w < 18446744073709551616) : of8 (byN w) = w := by
  simp only [byN, of8, Nat.reducePow]
  omega
theorem ext8 {a b : Nat} (ha : a < 18446744073709551616) (hb : b < 18446744073709551616) (h : ∀ i, i < 8 → byN a i = byN b i) : a = b := by
  rw [← of8_byN ha, ← of8_byN hb]
  unfold of8
  rw [h 0 (by decide), h 1 (by decide), h 2 (by decide), h 3 (by decide), h 4 (by decide), h 5 (by decide), h 6 (by decide), h 7 (by decide)]
theorem byN_not {w i : Nat} (hw : w < 18446744073709551616) (hi : i < 8) : byN (18446744073709551615 - w) i = 255 - byN w i := by
  refine lt8 (P := fun i => byN (18446744073709551615 - w) i = 255 - byN w i) hi ?_ ?_ ?_ ?_ ?_ ?_ ?_ ?_ <;> simp only [byN, Nat.reducePow] <;> omega
theorem byN_add {a b : Nat} (ha : a < 18446744073709551616) (hb : b < 18446744073709551616) (h : ∀ i, i < 8 → byN a i + byN b i < 256) {i : Nat} (hi : i < 8) : byN (a + b) i = byN a i + byN b i := by
  have e : a + b = of8 (fun i => byN a i + byN b i) := by
    have e1 := of8_byN ha
    have e2 := of8_byN hb
    unfold of8 at e1 e2 ⊢
    dsimp only
    omega
  rw [e, byN_of8 (f := fun i => byN a i + byN b i) h hi]
theorem add_lt {a b : Nat} (ha : a < 18446744073709551616) (hb : b < 18446744073709551616) (h : ∀ i, i < 8 → byN a i + byN b i < 256) : a + b < 18446744073709551616 := by
  have e : a + b = of8 (fun i => byN a i + byN b i) := by
    have e1 := of8_byN ha
    have e2 := of8_byN hb
    unfold of8 at e1 e2 ⊢
    dsimp only
    omega
  rw [e]
  exact of8_lt (f := fun i => byN a i + byN b i) h
theorem byN_ones {c i : Nat} (hc : c < 256) (hi : i < 8) : byN (c * 72340172838076673) i = c := by
  have e : c * 72340172838076673 = of8 (fun _ => c) := by
    unfold of8
    dsimp only
    omega
  rw [e, byN_of8 (fun _ _ => hc) hi]

/-- The slots whose byte is so, as a number of eight bits. -/
def mk (p : Nat → Bool) (w : Nat) : Nat := (p (byN w 0)).toNat + 2 * (p (byN w 1)).toNat + 4 * (p (byN w 2)).toNat + 8 * (p (byN w 3)).toNat + 16 * (p (byN w 4)).toNat + 32 * (p (byN w 5)).toNat + 64 * (p (byN w 6)).toNat + 128 * (p (byN w 7)).toNat
/-- The slot i is in it. -/
def hasM (m i : Nat) : Bool := m / 2 ^ i % 2 == 1
theorem toNat_le (b : Bool) : b.toNat ≤ 1 := by cases b <;> decide
theorem mk_lt (p : Nat → Bool) (w : Nat) : mk p w < 256 := by
  unfold mk
  have h0 := toNat_le (p (byN w 0))
  have h1 := toNat_le (p (byN w 1))
  have h2 := toNat_le (p (byN w 2))
  have h3 := toNat_le (p (byN w 3))
  have h4 := toNat_le (p (byN w 4))
  have h5 := toNat_le (p (byN w 5))
  have h6 := toNat_le (p (byN w 6))
  have h7 := toNat_le (p (byN w 7))
  omega
theorem mk_bit (p : Nat → Bool) (w : Nat) {i : Nat} (hi : i < 8) : mk p w / 2 ^ i % 2 = (p (byN w i)).toNat := by
  have h0 := toNat_le (p (byN w 0))
  have h1 := toNat_le (p (byN w 1))
  have h2 := toNat_le (p (byN w 2))
  have h3 := toNat_le (p (byN w 3))
  have h4 := toNat_le (p (byN w 4))
  have h5 := toNat_le (p (byN w 5))
  have h6 := toNat_le (p (byN w 6))
  have h7 := toNat_le (p (byN w 7))
  refine lt8 (P := fun i => mk p w / 2 ^ i % 2 = (p (byN w i)).toNat) hi ?_ ?_ ?_ ?_ ?_ ?_ ?_ ?_ <;> simp only [mk, Nat.reducePow] <;> omega
theorem hasM_mk (p : Nat → Bool) (w : Nat) {i : Nat} (hi : i < 8) : hasM (mk p w) i = p (byN w i) := by
  unfold hasM
  rw [mk_bit p w hi]
  cases p (byN w i) <;> rfl
/-- The word that keeps such a set: the high bit of each slot's byte. -/
def spread (m : Nat) : Nat := of8 (fun i => m / 2 ^ i % 2 * 128)
theorem bit_lt (m i : Nat) : m / 2 ^ i % 2 < 2 := Nat.mod_lt _ (by decide)
theorem byN_spread (m : Nat) {i : Nat} (hi : i < 8) : byN (spread m) i = m / 2 ^ i % 2 * 128 := by
  unfold spread
  rw [byN_of8 (f := fun i => m / 2 ^ i % 2 * 128) (fun j _ => by have := bit_lt m j; show m / 2 ^ j % 2 * 128 < 256; omega) hi]
theorem spread_lt (m : Nat) : spread m < 18446744073709551616 := of8_lt (f := fun i => m / 2 ^ i % 2 * 128) (fun j _ => by have := bit_lt m j; show m / 2 ^ j % 2 * 128 < 256; omega)

theorem lt64_and {a b : Nat} (hb : b < 18446744073709551616) : a &&& b < 18446744073709551616 := Nat.lt_of_le_of_lt Nat.and_le_right hb
theorem lt64_or {a b : Nat} (ha : a < 18446744073709551616) (hb : b < 18446744073709551616) : a ||| b < 18446744073709551616 := Nat.or_lt_two_pow (n := 64) ha hb
theorem lt64_xor {a b : Nat} (ha : a < 18446744073709551616) (hb : b < 18446744073709551616) : a ^^^ b < 18446744073709551616 := Nat.xor_lt_two_pow (n := 64) ha hb

/-- The program's own way to find a byte. -/
def xN (w c : Nat) : Nat := w ^^^ c * 72340172838076673
def difN (w c : Nat) : Nat := xN w c ||| ((xN w c &&& 9187201950435737471) + 9187201950435737471)
def eqN (w c : Nat) : Nat := (18446744073709551615 - difN w c) &&& 9259542123273814144
theorem xN_lt {w c : Nat} (hw : w < 18446744073709551616) (hc : c < 256) : xN w c < 18446744073709551616 := lt64_xor hw (by omega)
theorem sevens_by {i : Nat} (hi : i < 8) : byN 9187201950435737471 i = 127 := by
  refine lt8 (P := fun i => byN 9187201950435737471 i = 127) hi ?_ ?_ ?_ ?_ ?_ ?_ ?_ ?_ <;> decide
theorem highs_by {i : Nat} (hi : i < 8) : byN 9259542123273814144 i = 128 := by
  refine lt8 (P := fun i => byN 9259542123273814144 i = 128) hi ?_ ?_ ?_ ?_ ?_ ?_ ?_ ?_ <;> decide
theorem sum_small (x : Nat) : ∀ i, i < 8 → byN (x &&& 9187201950435737471) i + byN 9187201950435737471 i < 256 := by
  intro i hi
  rw [byN_and, sevens_by hi]
  have : byN x i &&& 127 ≤ 127 := Nat.and_le_right
  omega
theorem sum_lt (x : Nat) : (x &&& 9187201950435737471) + 9187201950435737471 < 18446744073709551616 := add_lt (lt64_and (by decide)) (by decide) (sum_small x)
theorem difN_lt {w c : Nat} (hw : w < 18446744073709551616) (hc : c < 256) : difN w c < 18446744073709551616 := lt64_or (xN_lt hw hc) (sum_lt _)
theorem eqN_lt (w c : Nat) : eqN w c < 18446744073709551616 := lt64_and (by decide)
theorem byte_eq : ∀ x, x < 256 → (255 - (x ||| ((x &&& 127) + 127))) &&& 128 = if x = 0 then 128 else 0 := by decide +kernel
theorem xor_zero {a b : Nat} (h : a ^^^ b = 0) : a = b := by
  have := congrArg (· ^^^ b) h
  simpa [Nat.xor_assoc] using this
theorem byN_eqN {w c i : Nat} (hw : w < 18446744073709551616) (hc : c < 256) (hi : i < 8) : byN (eqN w c) i = if byN w i = c then 128 else 0 := by
  have e1 : byN (xN w c) i = byN w i ^^^ c := by unfold xN; rw [byN_xor, byN_ones hc hi]
  unfold eqN
  rw [byN_and, highs_by hi, byN_not (difN_lt hw hc) hi]
  unfold difN
  rw [byN_or, byN_add (lt64_and (by decide)) (by decide) (sum_small _) hi, byN_and, sevens_by hi, e1]
  have hx : byN w i ^^^ c < 256 := Nat.xor_lt_two_pow (n := 8) (byN_lt _ _) hc
  rw [byte_eq _ hx]
  by_cases h : byN w i = c
  · rw [if_pos h, if_pos (by rw [h, Nat.xor_self])]
  · rw [if_neg h, if_neg (fun e => h (xor_zero e))]
theorem eqN_spread {w c : Nat} (hw : w < 18446744073709551616) (hc : c < 256) : eqN w c = spread (mk (· == c) w) := by
  refine ext8 (eqN_lt _ _) (spread_lt _) fun i hi => ?_
  rw [byN_eqN hw hc hi, byN_spread _ hi, mk_bit _ _ hi]
  by_cases h : byN w i = c
  · rw [if_pos h, beq_iff_eq.2 h]; rfl
  · rw [if_neg h, beq_eq_false_iff_ne.2 h]; rfl
theorem byte_full : ∀ x, x < 256 → (255 - x) &&& 128 = (decide (x < 128)).toNat * 128 := by decide +kernel
theorem full_spread {w : Nat} (hw : w < 18446744073709551616) : (18446744073709551615 - w) &&& 9259542123273814144 = spread (mk (fun x => decide (x < 128)) w) := by
  refine ext8 (lt64_and (by decide)) (spread_lt _) fun i hi => ?_
  rw [byN_and, highs_by hi, byN_not hw hi, byN_spread _ hi, mk_bit _ _ hi, byte_full _ (byN_lt _ _)]
theorem bit_or : ∀ a b : Bool, a.toNat * 128 ||| b.toNat * 128 = (a || b).toNat * 128 := by decide
theorem or_spread (p q : Nat → Bool) (w : Nat) : spread (mk p w) ||| spread (mk q w) = spread (mk (fun x => p x || q x) w) := by
  refine ext8 (lt64_or (spread_lt _) (spread_lt _)) (spread_lt _) fun i hi => ?_
  rw [byN_or, byN_spread _ hi, byN_spread _ hi, byN_spread _ hi, mk_bit _ _ hi, mk_bit _ _ hi, mk_bit _ _ hi, bit_or]

/-- The deleted slots made empty. -/
def clB (x : Nat) : Nat := if x = 254 then 128 else x
def clN (w : Nat) : Nat := of8 (fun i => clB (byN w i))
theorem clB_lt {x : Nat} (h : x < 256) : clB x < 256 := by unfold clB; split <;> omega
theorem clN_lt (w : Nat) : clN w < 18446744073709551616 := of8_lt fun i _ => clB_lt (byN_lt w i)
theorem byN_clN (w : Nat) {i : Nat} (hi : i < 8) : byN (clN w) i = clB (byN w i) := byN_of8 (fun i _ => clB_lt (byN_lt w i)) hi
theorem byte_cl : ∀ x, x < 256 → x ^^^ (if x = 254 then 1 else 0) * 126 = clB x := by decide +kernel
theorem shift_spread (m : Nat) : spread m / 128 = of8 (fun i => m / 2 ^ i % 2) := by
  unfold spread of8
  dsimp only
  omega
theorem times_spread (m k : Nat) : of8 (fun i => m / 2 ^ i % 2) * k = of8 (fun i => m / 2 ^ i % 2 * k) := by
  unfold of8
  simp only [Nat.add_mul, Nat.mul_assoc]
theorem clear_cl {w : Nat} (hw : w < 18446744073709551616) : w ^^^ eqN w 254 / 128 * 126 = clN w := by
  rw [eqN_spread hw (by decide), shift_spread, times_spread]
  have hf : ∀ i, i < 8 → mk (· == 254) w / 2 ^ i % 2 * 126 < 256 := fun i _ => by have := bit_lt (mk (· == 254) w) i; omega
  refine ext8 (lt64_xor hw (of8_lt hf)) (clN_lt _) fun i hi => ?_
  rw [byN_xor, byN_of8 hf hi, byN_clN _ hi, mk_bit _ _ hi, ← byte_cl _ (byN_lt _ _)]
  by_cases h : byN w i = 254
  · rw [if_pos h, beq_iff_eq.2 h]; rfl
  · rw [if_neg h, beq_eq_false_iff_ne.2 h]; rfl

/-- The byte of slot k is c. -/
def setN (w k c : Nat) : Nat := of8 (fun i => if i = k then c else byN w i)
theorem setN_lt (w k c : Nat) (hc : c < 256) : setN w k c < 18446744073709551616 := of8_lt fun i _ => by show (if i = k then c else byN w i) < 256; split; exact hc; exact byN_lt _ _
theorem byN_setN (w k c : Nat) (hc : c < 256) {i : Nat} (hi : i < 8) : byN (setN w k c) i = if i = k then c else byN w i :=
  byN_of8 (f := fun i => if i = k then c else byN w i) (fun i _ => by show (if i = k then c else byN w i) < 256; split; exact hc; exact byN_lt _ _) hi
theorem byN_shl {c k i : Nat} (hc : c < 256) (hk : k < 8) (hi : i < 8) : byN (c * 2 ^ (8 * k)) i = if i = k then c else 0 := by
  refine lt8 (P := fun k => byN (c * 2 ^ (8 * k)) i = if i = k then c else 0) hk ?_ ?_ ?_ ?_ ?_ ?_ ?_ ?_ <;>
    (refine lt8 (P := fun i => byN (c * _) i = if i = _ then c else 0) hi ?_ ?_ ?_ ?_ ?_ ?_ ?_ ?_) <;> simp only [byN, Nat.reducePow, Nat.reduceMul, if_true] <;> first | omega | (rw [if_neg (by decide)]; omega)
theorem shl_lt {c k : Nat} (hc : c < 256) (hk : k < 8) : c * 2 ^ (8 * k) < 18446744073709551616 := by
  refine lt8 (P := fun k => c * 2 ^ (8 * k) < 18446744073709551616) hk ?_ ?_ ?_ ?_ ?_ ?_ ?_ ?_ <;> simp only [Nat.reducePow, Nat.reduceMul] <;> omega
theorem byte_not0 : ∀ x, x < 256 → x &&& (255 - 0) = x := by decide +kernel
theorem set_set {w k c : Nat} (hw : w < 18446744073709551616) (hk : k < 8) (hc : c < 256) : (w &&& (18446744073709551615 - 255 * 2 ^ (8 * k))) ||| c * 2 ^ (8 * k) = setN w k c := by
  have hs := shl_lt (c := 255) (by decide) hk
  refine ext8 (lt64_or (Nat.lt_of_le_of_lt Nat.and_le_left hw) (shl_lt hc hk)) (setN_lt _ _ _ hc) fun i hi => ?_
  rw [byN_or, byN_and, byN_not hs hi, byN_shl (by decide) hk hi, byN_shl hc hk hi, byN_setN _ _ _ hc hi]
  by_cases h : i = k
  · rw [if_pos h, if_pos h, if_pos h]
    simp
  · rw [if_neg h, if_neg h, if_neg h, byte_not0 _ (byN_lt _ _), Nat.or_zero]
theorem setN_twice {w i j c d : Nat} (hij : i ≠ j) (hc : c < 256) (hd : d < 256) : setN (setN w i c) j d = setN (setN w j d) i c := by
  refine ext8 (setN_lt _ _ _ hd) (setN_lt _ _ _ hc) fun k hk => ?_
  rw [byN_setN _ _ _ hd hk, byN_setN _ _ _ hc hk, byN_setN _ _ _ hc hk, byN_setN _ _ _ hd hk]
  by_cases h1 : k = j
  · rw [if_pos h1, if_neg (by omega), if_pos h1]
  · rw [if_neg h1, if_neg h1]
theorem setN_back {w i c : Nat} (hw : w < 18446744073709551616) (hc : c < 256) : setN (setN w i c) i (byN w i) = w := by
  refine ext8 (setN_lt _ _ _ (byN_lt _ _)) hw fun k hk => ?_
  rw [byN_setN _ _ _ (byN_lt _ _) hk, byN_setN _ _ _ hc hk]
  by_cases h1 : k = i
  · rw [if_pos h1, h1]
  · rw [if_neg h1, if_neg h1]
end Go.Proofs.YtbpgjlengpgnnabDoor
