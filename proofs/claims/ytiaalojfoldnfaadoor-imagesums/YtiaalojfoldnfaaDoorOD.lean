/-
  The hash as plain numbers: the mixer, its steps undone, the parts of a hash.
-/
import Derived.Test.YtiaalojfoldnfaaDoorChecked
namespace Go.Proofs.YtiaalojfoldnfaaDoor

/-- h xor (h shifted by s). -/
def foldN (s h : Nat) : Nat := h ^^^ h / 2 ^ s
def mulN (f h : Nat) : Nat := h * f % 18446744073709551616
def stepN (h c : Nat) : Nat := foldN 31 (mulN 11329751410908088055 (h ^^^ c))
def bytesN (h : Nat) (cs : List UInt8) : Nat := cs.foldl (fun h c => stepN h c.toNat) h
def startN (seed n : Nat) : Nat := seed ^^^ mulN 13234230157428861123 (1 + n)
def endN (h : Nat) : Nat := foldN 32 (mulN 13234230157428861123 (foldN 29 h))
def mixN (seed : Nat) (cs : List UInt8) : Nat := endN (bytesN (startN seed cs.length) cs)

theorem foldN_lt {s h : Nat} (hh : h < 18446744073709551616) : foldN s h < 18446744073709551616 := by
  have : h ^^^ h / 2 ^ s < 2 ^ 64 := Nat.xor_lt_two_pow hh (Nat.lt_of_le_of_lt (Nat.div_le_self _ _) hh)
  exact this
theorem mulN_lt (f h : Nat) : mulN f h < 18446744073709551616 := Nat.mod_lt _ (by decide)
theorem stepN_lt (h c : Nat) : stepN h c < 18446744073709551616 := foldN_lt (mulN_lt _ _)
theorem bytesN_lt {h : Nat} (cs : List UInt8) (hh : h < 18446744073709551616) : bytesN h cs < 18446744073709551616 := by
  induction cs generalizing h with
  | nil => exact hh
  | cons c t ih => exact ih (stepN_lt _ _)
theorem xorN_lt {a b : Nat} (ha : a < 18446744073709551616) (hb : b < 18446744073709551616) : a ^^^ b < 18446744073709551616 := by
  have : a ^^^ b < 2 ^ 64 := Nat.xor_lt_two_pow ha hb
  exact this
theorem startN_lt {seed : Nat} (n : Nat) (h : seed < 18446744073709551616) : startN seed n < 18446744073709551616 := xorN_lt h (mulN_lt _ _)
theorem endN_lt (h : Nat) : endN h < 18446744073709551616 := foldN_lt (mulN_lt _ _)
theorem mixN_lt (seed : Nat) (cs : List UInt8) : mixN seed cs < 18446744073709551616 := endN_lt _
theorem bytesN_take (h : Nat) (cs : List UInt8) (k : Nat) (hk : k < cs.length) : bytesN h (cs.take (k + 1)) = stepN (bytesN h (cs.take k)) (cs[k].toNat) := by
  unfold bytesN
  rw [List.take_succ_eq_append_getElem hk, List.foldl_append, List.foldl_cons, List.foldl_nil]
theorem bytesN_append (h : Nat) (a b : List UInt8) : bytesN h (a ++ b) = bytesN (bytesN h a) b := by simp [bytesN]
theorem bytesN_one (h : Nat) (c : UInt8) : bytesN h [c] = stepN h c.toNat := by unfold bytesN; rw [List.foldl_cons, List.foldl_nil]

theorem foldN_inj {s a b : Nat} (hs : 0 < s) (ha : a < 18446744073709551616) (hb : b < 18446744073709551616) (h : foldN s a = foldN s b) : a = b := by
  have hbit : ∀ n i, 64 ≤ i + n → a.testBit i = b.testBit i := by
    intro n
    induction n with
    | zero =>
      intro i hi
      have h2 : (2 : Nat) ^ 64 ≤ 2 ^ i := Nat.pow_le_pow_right (by decide) (by omega)
      rw [Nat.testBit_lt_two_pow (Nat.lt_of_lt_of_le ha h2), Nat.testBit_lt_two_pow (Nat.lt_of_lt_of_le hb h2)]
    | succ n ih =>
      intro i hi
      have e := congrArg (fun x => Nat.testBit x i) h
      simp only [foldN, Nat.testBit_xor, Nat.testBit_div_two_pow] at e
      have e2 := ih (i + s) (by omega)
      rw [e2] at e
      cases h1 : a.testBit i <;> cases h2 : b.testBit i <;> cases h3 : b.testBit (i + s) <;> simp_all
  exact Nat.eq_of_testBit_eq fun i => hbit 64 i (by omega)
theorem mulN_inj {f g a b : Nat} (hfg : f * g % 18446744073709551616 = 1) (ha : a < 18446744073709551616) (hb : b < 18446744073709551616) (h : mulN f a = mulN f b) : a = b := by
  have back : ∀ x, x < 18446744073709551616 → mulN f x * g % 18446744073709551616 = x := by
    intro x hx
    unfold mulN
    rw [Nat.mod_mul_mod, Nat.mul_assoc, ← Nat.mul_mod_mod, hfg, Nat.mul_one, Nat.mod_eq_of_lt hx]
  rw [← back a ha, ← back b hb, h]
theorem xorN_inj {a b c : Nat} (h : a ^^^ c = b ^^^ c) : a = b := by
  have := congrArg (· ^^^ c) h
  simpa [Nat.xor_assoc] using this
theorem xorN_inj2 {a b c : Nat} (h : c ^^^ a = c ^^^ b) : a = b := by
  rw [Nat.xor_comm c a, Nat.xor_comm c b] at h
  exact xorN_inj h
theorem B_inv : 11329751410908088055 * 11986966857307544263 % 18446744073709551616 = 1 := by decide
theorem A_inv : 13234230157428861123 * 1295998937641175019 % 18446744073709551616 = 1 := by decide
theorem stepN_inj {a b c : Nat} (ha : a < 18446744073709551616) (hb : b < 18446744073709551616) (hc : c < 18446744073709551616) (h : stepN a c = stepN b c) : a = b :=
  xorN_inj (mulN_inj B_inv (xorN_lt ha hc) (xorN_lt hb hc) (foldN_inj (by decide) (mulN_lt _ _) (mulN_lt _ _) h))
theorem stepN_inj2 {a b c : Nat} (ha : a < 18446744073709551616) (hb : b < 18446744073709551616) (hc : c < 18446744073709551616) (h : stepN c a = stepN c b) : a = b :=
  xorN_inj2 (mulN_inj B_inv (xorN_lt hc ha) (xorN_lt hc hb) (foldN_inj (by decide) (mulN_lt _ _) (mulN_lt _ _) h))
theorem byte_small (c : UInt8) : c.toNat < 18446744073709551616 := Nat.lt_of_lt_of_le c.toNat_lt (by decide)
theorem bytesN_inj {a b : Nat} (cs : List UInt8) (ha : a < 18446744073709551616) (hb : b < 18446744073709551616) (h : bytesN a cs = bytesN b cs) : a = b := by
  induction cs generalizing a b with
  | nil => exact h
  | cons c t ih => exact stepN_inj ha hb (byte_small c) (ih (stepN_lt _ _) (stepN_lt _ _) h)
theorem endN_inj {a b : Nat} (ha : a < 18446744073709551616) (hb : b < 18446744073709551616) (h : endN a = endN b) : a = b :=
  foldN_inj (by decide) ha hb (mulN_inj A_inv (foldN_lt ha) (foldN_lt hb) (foldN_inj (by decide) (mulN_lt _ _) (mulN_lt _ _) h))
/-- One key under two seeds. -/
theorem mixN_seed {a b : Nat} (cs : List UInt8) (ha : a < 18446744073709551616) (hb : b < 18446744073709551616) : mixN a cs = mixN b cs ↔ a = b := by
  refine ⟨fun h => ?_, fun h => by rw [h]⟩
  exact xorN_inj (bytesN_inj cs (startN_lt _ ha) (startN_lt _ hb) (endN_inj (bytesN_lt _ (startN_lt _ ha)) (bytesN_lt _ (startN_lt _ hb)) h))
/-- Two keys that differ at one place. -/
theorem mixN_byte {seed : Nat} (hs : seed < 18446744073709551616) (a b : List UInt8) (x y : UInt8) : mixN seed (a ++ [x] ++ b) = mixN seed (a ++ [y] ++ b) ↔ x = y := by
  refine ⟨fun h => ?_, fun h => by rw [h]⟩
  have hl : (a ++ [x] ++ b).length = (a ++ [y] ++ b).length := by simp
  have hs1 := startN_lt (a ++ [y] ++ b).length hs
  unfold mixN at h
  rw [hl] at h
  have h1 := endN_inj (bytesN_lt _ hs1) (bytesN_lt _ hs1) h
  rw [bytesN_append, bytesN_append, bytesN_append, bytesN_append, bytesN_one, bytesN_one] at h1
  have h2 := bytesN_inj b (stepN_lt _ _) (stepN_lt _ _) h1
  exact UInt8.toNat_inj.1 (stepN_inj2 (byte_small x) (byte_small y) (bytesN_lt _ hs1) h2)
end Go.Proofs.YtiaalojfoldnfaaDoor
