import Derived.Test.YtgckinldnnckoaaGreatDoorChecked
import Derived.WalkKit
import Derived.Laws.Bits64
import Derived.Laws.BitsAll
import Derived.Deep.QuietTactic
import Derived.BigQuiet
import Derived.Deep.RegionHeld3
import Derived.Maps.OwnSet
import Derived.RegionTactic
import Derived.Laws.BitsLemmas
import Derived.Test.YtgckinldnnckoaaGreatDoorPn14
/-
  The hash as plain numbers: the mixer, its steps undone, the parts of a hash.
-/
namespace Go.Proofs.YtgckinldnnckoaaGreatDoor.Oc

/-- h xor (h shifted by s). -/
def foldN (s h : Nat) : Nat := h ^^^ h / 2 ^ s
def mulN (f h : Nat) : Nat := h * f % 18446744073709551616
def stepN (h c : Nat) : Nat := foldN 31 (mulN 11329751410908088055 (h ^^^ c))
def bytesN (h : Nat) (cs : List UInt8) : Nat := cs.foldl (fun h c => stepN h c.toNat) h
def startN (seed n : Nat) : Nat := seed ^^^ mulN 13234230157428861123 (1 + n)
def endN (h : Nat) : Nat := foldN 32 (mulN 13234230157428861123 (foldN 29 h))
def mixN (seed : Nat) (cs : List UInt8) : Nat := endN (bytesN (startN seed cs.length) cs)

theorem foldN_lt {s h : Nat} (hh : h < 18446744073709551616) : foldN s h < 18446744073709551616 := by
  have : h ^^^ h / 2 ^ s < 2 ^ 64 := Nat.xor_lt_two_pow hh (Nat.lt_of_le_of_lt (Nat.div_le_self _ _) hh)
  exact this
theorem mulN_lt (f h : Nat) : mulN f h < 18446744073709551616 := Nat.mod_lt _ (by decide)
theorem stepN_lt (h c : Nat) : stepN h c < 18446744073709551616 := foldN_lt (mulN_lt _ _)
theorem bytesN_lt {h : Nat} (cs : List UInt8) (hh : h < 18446744073709551616) : bytesN h cs < 18446744073709551616 := by
  induction cs generalizing h with
  | nil => exact hh
  | cons c t ih => exact ih (stepN_lt _ _)
theorem xorN_lt {a b : Nat} (ha : a < 18446744073709551616) (hb : b < 18446744073709551616) : a ^^^ b < 18446744073709551616 := by
  have : a ^^^ b < 2 ^ 64 := Nat.xor_lt_two_pow ha hb
  exact this
theorem startN_lt {seed : Nat} (n : Nat) (h : seed < 18446744073709551616) : startN seed n < 18446744073709551616 := xorN_lt h (mulN_lt _ _)
theorem endN_lt (h : Nat) : endN h < 18446744073709551616 := foldN_lt (mulN_lt _ _)
theorem mixN_lt (seed : Nat) (cs : List UInt8) : mixN seed cs < 18446744073709551616 := endN_lt _
theorem bytesN_take (h : Nat) (cs : List UInt8) (k : Nat) (hk : k < cs.length) : bytesN h (cs.take (k + 1)) = stepN (bytesN h (cs.take k)) (cs[k].toNat) := by
  unfold bytesN
  rw [List.take_succ_eq_append_getElem hk, List.foldl_append, List.foldl_cons, List.foldl_nil]
theorem bytesN_append (h : Nat) (a b : List UInt8) : bytesN h (a ++ b) = bytesN (bytesN h a) b := by simp [bytesN]
theorem bytesN_one (h : Nat) (c : UInt8) : bytesN h [c] = stepN h c.toNat := by unfold bytesN; rw [List.foldl_cons, List.foldl_nil]

theorem foldN_inj {s a b : Nat} (hs : 0 < s) (ha : a < 18446744073709551616) (hb : b < 18446744073709551616) (h : foldN s a = foldN s b) : a = b := by
  have hbit : ∀ n i, 64 ≤ i + n → a.testBit i = b.testBit i := by
    intro n
    induction n with
    | zero =>
      intro i hi
      have h2 : (2 : Nat) ^ 64 ≤ 2 ^ i := Nat.pow_le_pow_right (by decide) (by omega)
      rw [Nat.testBit_lt_two_pow (Nat.lt_of_lt_of_le ha h2), Nat.testBit_lt_two_pow (Nat.lt_of_lt_of_le hb h2)]
    | succ n ih =>
      intro i hi
      have e := congrArg (fun x => Nat.testBit x i) h
      simp only [foldN, Nat.testBit_xor, Nat.testBit_div_two_pow] at e
      have e2 := ih (i + s) (by omega)
      rw [e2] at e
      cases h1 : a.testBit i <;> cases h2 : b.testBit i <;> cases h3 : b.testBit (i + s) <;> simp_all
  exact Nat.eq_of_testBit_eq fun i => hbit 64 i (by omega)
theorem mulN_inj {f g a b : Nat} (hfg : f * g % 18446744073709551616 = 1) (ha : a < 18446744073709551616) (hb : b < 18446744073709551616) (h : mulN f a = mulN f b) : a = b := by
  have back : ∀ x, x < 18446744073709551616 → mulN f x * g % 18446744073709551616 = x := by
    intro x hx
    unfold mulN
    rw [Nat.mod_mul_mod, Nat.mul_assoc, ← Nat.mul_mod_mod, hfg, Nat.mul_one, Nat.mod_eq_of_lt hx]
  rw [← back a ha, ← back b hb, h]
theorem xorN_inj {a b c : Nat} (h : a ^^^ c = b ^^^ c) : a = b := by
  have := congrArg (· ^^^ c) h
  simpa [Nat.xor_assoc] using this
theorem xorN_inj2 {a b c : Nat} (h : c ^^^ a = c ^^^ b) : a = b := by
  rw [Nat.xor_comm c a, Nat.xor_comm c b] at h
  exact xorN_inj h
theorem B_inv : 11329751410908088055 * 11986966857307544263 % 18446744073709551616 = 1 := by decide
theorem A_inv : 13234230157428861123 * 1295998937641175019 % 18446744073709551616 = 1 := by decide
theorem stepN_inj {a b c : Nat} (ha : a < 18446744073709551616) (hb : b < 18446744073709551616) (hc : c < 18446744073709551616) (h : stepN a c = stepN b c) : a = b :=
  xorN_inj (mulN_inj B_inv (xorN_lt ha hc) (xorN_lt hb hc) (foldN_inj (by decide) (mulN_lt _ _) (mulN_lt _ _) h))
theorem stepN_inj2 {a b c : Nat} (ha : a < 18446744073709551616) (hb : b < 18446744073709551616) (hc : c < 18446744073709551616) (h : stepN c a = stepN c b) : a = b :=
  xorN_inj2 (mulN_inj B_inv (xorN_lt hc ha) (xorN_lt hc hb) (foldN_inj (by decide) (mulN_lt _ _) (mulN_lt _ _) h))
theorem byte_small (c : UInt8) : c.toNat < 18446744073709551616 := Nat.lt_of_lt_of_le c.toNat_lt (by decide)
theorem bytesN_inj {a b : Nat} (cs : List UInt8) (ha : a < 18446744073709551616) (hb : b < 18446744073709551616) (h : bytesN a cs = bytesN b cs) : a = b := by
  induction cs generalizing a b with
  | nil => exact h
  | cons c t ih => exact stepN_inj ha hb (byte_small c) (ih (stepN_lt _ _) (stepN_lt _ _) h)
theorem endN_inj {a b : Nat} (ha : a < 18446744073709551616) (hb : b < 18446744073709551616) (h : endN a = endN b) : a = b :=
  foldN_inj (by decide) ha hb (mulN_inj A_inv (foldN_lt ha) (foldN_lt hb) (foldN_inj (by decide) (mulN_lt _ _) (mulN_lt _ _) h))
/-- One key under two seeds. -/
theorem mixN_seed {a b : Nat} (cs : List UInt8) (ha : a < 18446744073709551616) (hb : b < 18446744073709551616) : mixN a cs = mixN b cs ↔ a = b := by
  refine ⟨fun h => ?_, fun h => by rw [h]⟩
  exact xorN_inj (bytesN_inj cs (startN_lt _ ha) (startN_lt _ hb) (endN_inj (bytesN_lt _ (startN_lt _ ha)) (bytesN_lt _ (startN_lt _ hb)) h))
/-- Two keys that differ at one place. -/
theorem mixN_byte {seed : Nat} (hs : seed < 18446744073709551616) (a b : List UInt8) (x y : UInt8) : mixN seed (a ++ [x] ++ b) = mixN seed (a ++ [y] ++ b) ↔ x = y := by
  refine ⟨fun h => ?_, fun h => by rw [h]⟩
  have hl : (a ++ [x] ++ b).length = (a ++ [y] ++ b).length := by simp
  have hs1 := startN_lt (a ++ [y] ++ b).length hs
  unfold mixN at h
  rw [hl] at h
  have h1 := endN_inj (bytesN_lt _ hs1) (bytesN_lt _ hs1) h
  rw [bytesN_append, bytesN_append, bytesN_append, bytesN_append, bytesN_one, bytesN_one] at h1
  have h2 := bytesN_inj b (stepN_lt _ _) (stepN_lt _ _) h1
  exact UInt8.toNat_inj.1 (stepN_inj2 (byte_small x) (byte_small y) (bytesN_lt _ hs1) h2)
end Go.Proofs.YtgckinldnnckoaaGreatDoor.Oc
/-
  The mixer: folded, Mix.
-/
namespace Go.Proofs.YtgckinldnnckoaaGreatDoor.Oc
open Go.RowKit

/-- What was there stays; what is new may be anything. -/
def Kp (w w' : World) : Prop := Below w.heap.size w w'
theorem Kp.refl (w : World) : Kp w w := Below.refl _ _
theorem Kp.trans {w w1 w2 : World} (h : Kp w w1) (k : Kp w1 w2) : Kp w w2 := Below.trans h (Below.mono k h.size)
theorem Kp.alloc {w w1 : World} (h : Kp w w1) (o : Obj) : Kp w (w1.alloc o) := Below.alloc h h.size o
theorem Kp.drew {w w1 : World} (h : Kp w w1) : Kp w w1.drew := Below.drew h
theorem Kp.cell {w w1 : World} (h : Kp w w1) {p : Addr} {v : Value} (hp : w.cell? p = some v) : w1.cell? p = some v := by
  have : p.block < w.heap.size := by
    refine Nat.lt_of_not_le fun hn => ?_
    rw [World.cell?, Array.getElem?_eq_none hn] at hp
    cases hp
  exact (Below.cell h this).trans hp

/-- The mixer's two factors, where the program lays them. -/
def OddAt (w : World) : Prop := w.cell? ⟨0, 0, none⟩ = some (.int .u64 13234230157428861123) ∧ w.cell? ⟨0, 1, none⟩ = some (.int .u64 11329751410908088055)

set_option maxHeartbeats 400000 in
theorem folded_any (h s : Nat) (hh : h < 18446744073709551616) (hs : s < 64) (w : World) :
    Calls Tryz.prog 115 #[.int .u64 (h : Int), .int .i64 (s : Int)] w fun e w' => e = .returned (.int .u64 (foldN s h : Nat)) ∧ w' = w := by
  have hx : bits BinOp.xor IntKind.u64 (h : Int) ((h : Int) / 2 ^ s) = ((foldN s h : Nat) : Int) := by
    have := xorShift_u64 h (2 ^ s) hh
    rw [Int.natCast_pow] at this
    exact this
  go_enter Tryz.func115, Tryz.ntmps115
  go_wp2_with fail
  go_ret
  exact ⟨rfl, rfl⟩

theorem mul_odd (f a : Nat) : IntKind.u64.wrap ((a : Int) * (f : Int)) = ((mulN f a : Nat) : Int) := by
  rw [IntKind.wrap_u64]
  unfold mulN
  rw [Int.natCast_emod, Int.natCast_mul]
  rfl

theorem OddAt.kp {w w' : World} (h : OddAt w) (k : Kp w w') : OddAt w' := ⟨k.cell h.1, k.cell h.2⟩

/-- A call of folded by its answer. -/
def FoldIs (h s r : Int) : Prop := ∃ H S : Nat, h = (H : Int) ∧ s = (S : Int) ∧ H < 18446744073709551616 ∧ S < 64 ∧ r = ((foldN S H : Nat) : Int)
theorem fold_is {h s r : Int} (q : FoldIs h s r) (w : World) :
    Calls Tryz.prog 115 #[.int .u64 h, .int .i64 s] w fun e w' => e = .returned (.int .u64 r) ∧ w' = w := by
  obtain ⟨H, S, rfl, rfl, h1, h2, rfl⟩ := q
  exact folded_any H S h1 h2 w

theorem hide {p : Prop} (h : p) : Hid p := h

set_option maxHeartbeats 1000000 in
theorem mix_walk (seed S R : Nat) (key : ByteArray) (cs : List UInt8) (w : World) (hS : S < 18446744073709551616) (hl : key.size < 9223372036854775808) (ho : OddAt w)
    (h1 : IntKind.u64.wrap (13234230157428861123 * (1 + (key.size : Int))) = ((mulN 13234230157428861123 (1 + key.size) : Nat) : Int))
    (h2 : bits BinOp.xor IntKind.u64 (seed : Int) ((mulN 13234230157428861123 (1 + key.size) : Nat) : Int) = ((S : Nat) : Int))
    (hR : Hid (R = endN (bytesN S cs))) (hlen : cs.length = key.size) (hget : ∀ i (hi : i < key.size), key[i] = cs[i]'(by omega)) :
    Calls Tryz.prog 75 #[.int .u64 (seed : Int), .string key] w fun e w' => e = .returned (.int .u64 (R : Nat)) ∧ Kp w w' := by
  obtain ⟨o0, o1⟩ := ho
  go_enter Tryz.func75, Tryz.ntmps75
  go_wp2_with fail
  clear h1 h2
  go_loopw [5, 18] (fun vh vi wr => ∃ i : Nat, vi = .int .i64 (i : Int) ∧ i ≤ key.size ∧ vh = .int .u64 ((bytesN S (cs.take i) : Nat) : Int) ∧ Kp w wr) (fun _ vi _ => key.size - (intOf vi).toNat)
  case atStart => exact ⟨0, rfl, Nat.zero_le _, rfl, Kp.refl _⟩
  case round =>
    obtain ⟨i, rfl, hi, rfl, kr⟩ := hrel
    replace o0 := kr.cell o0
    replace o1 := kr.cell o1
    by_cases hlt : i < key.size
    · have hlt' : (i : Int) < (key.size : Int) := by omega
      have hN : Hid (bytesN S (cs.take (i + 1)) = foldN 31 (mulN 11329751410908088055 (bytesN S (cs.take i) ^^^ cs[i].toNat))) := bytesN_take S cs i (by omega)
      have hH := bytesN_lt (cs.take i) hS
      have hg := hget i hlt
      generalize bytesN S (cs.take i) = H at *
      have x1 : bits BinOp.xor IntKind.u64 (H : Int) ((cs[i].toNat : Nat) : Int) = ((H ^^^ cs[i].toNat : Nat) : Int) := bits_xor_u64_nat _ _ hH (byte_small _)
      have x2 : IntKind.u64.wrap (((H ^^^ cs[i].toNat : Nat) : Int) * 11329751410908088055) = ((mulN 11329751410908088055 (H ^^^ cs[i].toNat) : Nat) : Int) := mul_odd 11329751410908088055 _
      have x3 : IntKind.u64.wrap ((cs[i].toNat : Nat) : Int) = ((cs[i].toNat : Nat) : Int) := by
        rw [IntKind.wrap_u64]
        have := byte_small cs[i]
        omega
      have hF : FoldIs ((mulN 11329751410908088055 (H ^^^ cs[i].toNat) : Nat) : Int) 31 ((foldN 31 (mulN 11329751410908088055 (H ^^^ cs[i].toNat)) : Nat) : Int) := ⟨_, 31, rfl, rfl, mulN_lt _ _, by decide, rfl⟩
      generalize foldN 31 (mulN 11329751410908088055 (H ^^^ cs[i].toNat)) = R1 at *
      generalize mulN 11329751410908088055 (H ^^^ cs[i].toNat) = Z at *
      generalize (H ^^^ cs[i].toNat) = Y at *
      clear hR hget o0
      go_wp2_with fail
      go_region_held3 (fun w' => w'.cell? ⟨0, 1, none⟩ = some (.int .u64 11329751410908088055)) (go_keep) (first | (go_at_call 115; refine (fold_is (by assumption) _).mono ?_; rintro r w5 ⟨rfl, rfl⟩))
      go_wp2_with fail
      exact ⟨⟨i + 1, by simp, by omega, by rw [hN.out], kr.drew⟩, by simp [intOf]; omega⟩
    · have hlt' : ¬ (i : Int) < (key.size : Int) := by omega
      have ht : cs.take i = cs := List.take_of_length_le (by omega)
      rw [ht]
      have hH := bytesN_lt cs hS
      have hR2 : Hid (R = foldN 32 (mulN 13234230157428861123 (foldN 29 (bytesN S cs)))) := hR
      generalize bytesN S cs = H at *
      have hF : FoldIs (H : Int) 29 ((foldN 29 H : Nat) : Int) := ⟨H, 29, rfl, rfl, hH, by decide, rfl⟩
      have x1 : IntKind.u64.wrap (((foldN 29 H : Nat) : Int) * 13234230157428861123) = ((mulN 13234230157428861123 (foldN 29 H) : Nat) : Int) := mul_odd 13234230157428861123 _
      have hF2 : FoldIs ((mulN 13234230157428861123 (foldN 29 H) : Nat) : Int) 32 ((foldN 32 (mulN 13234230157428861123 (foldN 29 H)) : Nat) : Int) := ⟨_, 32, rfl, rfl, mulN_lt _ _, by decide, rfl⟩
      generalize foldN 32 (mulN 13234230157428861123 (foldN 29 H)) = R1 at *
      generalize mulN 13234230157428861123 (foldN 29 H) = Z at *
      generalize foldN 29 H = Y at *
      clear hR hget o1
      go_wp2_with fail
      go_region_held3 (fun w' => w'.cell? ⟨0, 0, none⟩ = some (.int .u64 13234230157428861123)) (go_keep) (first | (go_at_call 115; refine (fold_is (by assumption) _).mono ?_; rintro r w5 ⟨rfl, rfl⟩))
      go_wp2_with fail
      go_ret
      obtain rfl : R = R1 := hR2
      exact ⟨rfl, kr.drew⟩

theorem mix_any (seed : Nat) (key : ByteArray) (w : World) (hs : seed < 18446744073709551616) (hl : key.size < 9223372036854775808) (ho : OddAt w) :
    Calls Tryz.prog 75 #[.int .u64 (seed : Int), .string key] w fun e w' => e = .returned (.int .u64 (mixN seed key.data.toList : Nat)) ∧ Kp w w' := by
  refine mix_walk seed (startN seed key.size) _ key key.data.toList w (startN_lt _ hs) hl ho ?_ (bits_xor_u64_nat _ _ hs (mulN_lt _ _)) (hide rfl) rfl (fun _ _ => rfl)
  rw [Int.mul_comm]
  exact mul_odd 13234230157428861123 (1 + key.size)
end Go.Proofs.YtgckinldnnckoaaGreatDoor.Oc
/-
  Mix by its answer, in regions with several calls.
-/
namespace Go.Proofs.YtgckinldnnckoaaGreatDoor.Oc
open Go.RowKit

/-- The factors stand, and all that stood in w. -/
abbrev Sm (w W : World) : Prop := W.cell? ⟨0, 0, none⟩ = some (.int .u64 13234230157428861123) ∧ W.cell? ⟨0, 1, none⟩ = some (.int .u64 11329751410908088055) ∧ Kp w W
theorem sm_drew {w W : World} (h : Sm w W) : Sm w W.drew := ⟨h.1, h.2.1, h.2.2.drew⟩
theorem sm_call {w W W1 : World} (k : Kp W W1) (h : Sm w W) : Sm w W1 := ⟨k.cell h.1, k.cell h.2.1, h.2.2.trans k⟩
theorem sm_odd {w W : World} (h : Sm w W) : OddAt W := ⟨h.1, h.2.1⟩
theorem sm_mk {w : World} (h : OddAt w) : Sm w w := ⟨h.1, h.2, Kp.refl _⟩

/-- A call of Mix by its answer. -/
def MixIs (seed : Int) (key : ByteArray) (r : Int) : Prop := ∃ S : Nat, seed = (S : Int) ∧ S < 18446744073709551616 ∧ key.size < 9223372036854775808 ∧ r = ((mixN S key.data.toList : Nat) : Int)
theorem mix_is {seed r : Int} {key : ByteArray} (q : MixIs seed key r) (w : World) (ho : OddAt w) :
    Calls Tryz.prog 75 #[.int .u64 seed, .string key] w fun e w' => e = .returned (.int .u64 r) ∧ Kp w w' := by
  obtain ⟨S, rfl, h1, h2, rfl⟩ := q
  exact mix_any S key w h1 h2 ho
end Go.Proofs.YtgckinldnnckoaaGreatDoor.Oc
/-
  A map from texts to numbers, as a partial function.
-/
namespace Go.Proofs.YtgckinldnnckoaaGreatDoor.Oc
open Go.RowKit Go.Maps Go.WideMaps

def rdS : Value → Option (DataW Unit × List MemPlace)
  | .int .u64 a => some (.lit (.int .u64 a), [])
  | _ => none
theorem rdS_int (a : Int) : rdS (.int .u64 a) = some (.lit (.int .u64 a), []) := rfl
theorem rdS_inv {v : Value} {a : Int} {ps : List MemPlace} (h : rdS v = some (.lit (.int .u64 a), ps)) : v = .int .u64 a := by
  unfold rdS at h
  split at h
  · simp at h
    rw [h.1]
  · cases h
theorem key_ne {x y : List UInt8} (h : x ≠ y) : Lit.string x ≠ Lit.string y := fun e => h (by simpa using e)

/-- Block b is a map that holds a at each key x with f x = some a, and nothing else. -/
def MapS (w : World) (b n : Nat) (f : List UInt8 → Option Nat) : Prop :=
  ∃ D : DataW Unit, w.ownsMap Tryz.prog 9 rdS b n D ∧ ∀ x, has D (.string x) = (f x).isSome ∧ ∀ a, f x = some a → ∀ z, D.atKey (.string x) z = .lit (.int .u64 (a : Nat))
def updS (f : List UInt8 → Option Nat) (x : List UInt8) (a : Option Nat) : List UInt8 → Option Nat := fun y => if y = x then a else f y
theorem updS_same (f : List UInt8 → Option Nat) (x : List UInt8) (a : Option Nat) : updS f x a x = a := by simp [updS]
theorem updS_other (f : List UInt8 → Option Nat) (x y : List UInt8) (a : Option Nat) (h : y ≠ x) : updS f x a y = f y := by simp [updS, h]
theorem law9 : Keyed Tryz.prog 9 := string_keyed Tryz.underlying9

section
variable {w : World} {b n : Nat} {f : List UInt8 → Option Nat}
theorem MapS.lt (h : MapS w b n f) : b < w.heap.size := by
  obtain ⟨D, ho, _⟩ := h
  exact ho.lt
theorem MapS.same {w' : World} (h : MapS w b n f) (e : w'.heap[b]? = w.heap[b]?) : MapS w' b n f := by
  obtain ⟨D, ho, hd⟩ := h
  obtain ⟨es, clock, hb, r⟩ := ho
  exact ⟨D, ⟨es, clock, e.trans hb, r⟩, hd⟩
theorem MapS.kp {w' : World} (h : MapS w b n f) (k : Kp w w') : MapS w' b n f := h.same (k.block b h.lt)
theorem MapS.made (w : World) : MapS (w.alloc (.map #[] 0)) w.heap.size 0 (fun _ => none) :=
  ⟨.map [], World.ownsMap_made w Tryz.prog 9 rdS, fun x => ⟨rfl, fun a h => by cases h⟩⟩
theorem MapS.store {t : TypeId} (ht : Tryz.prog.underlying t = some (.map 9 24)) (h : MapS w b n f) (hn : n < maxLen) {s : ByteArray} (hs : s.size ≤ maxLen) (a : Nat) :
    ∃ w', (Instr.mapUpdate t (.map (some b)) (.string s) (.int .u64 (a : Int))).run Tryz.prog w = .ok () w' ∧ MapS w' b (n + 1) (updS f s.data.toList (some a)) ∧ w'.heap.size = w.heap.size ∧ (∀ k, k ≠ b → w'.heap[k]? = w.heap[k]?) ∧ w'.os = w.os ∧ w'.tape = w.tape ∧ w'.output = w.output := by
  obtain ⟨D, ho, hd⟩ := h
  obtain ⟨w', hrun, ho', ht'⟩ := ho.store law9 ht hn (keyOf_string_mk (s := s) Tryz.underlying9 hs) (rdS_int (a : Int))
  refine ⟨w', hrun, ⟨_, ho', fun y => ?_⟩, ?_, ?_, ?_⟩
  · by_cases hxy : y = s.data.toList
    · subst hxy
      exact ⟨by rw [has_put_same (k := .string s.data.toList) ho.isMap trivial, updS_same]; rfl, fun a' ha z => by rw [updS_same] at ha; cases ha; exact atKey_put_same (k := .string s.data.toList) ho.isMap trivial _ _⟩
    · obtain ⟨h1, h2⟩ := hd y
      exact ⟨by rw [has_put_other (key_ne hxy), h1, updS_other _ _ _ _ hxy], fun a' ha z => by rw [updS_other _ _ _ _ hxy] at ha; rw [atKey_put_other (key_ne hxy)]; exact h2 a' ha z⟩
  · obtain ⟨es, cl, es', cl', hb, rfl⟩ := ht'
    simp [Go.ChangeMaps.setBlock]
  · obtain ⟨es, cl, es', cl', hb, rfl⟩ := ht'
    exact fun k hk => Go.ChangeMaps.heap_setBlock_other hb _ hk
  · obtain ⟨es, cl, es', cl', hb, rfl⟩ := ht'
    exact ⟨rfl, rfl, rfl⟩
theorem MapS.look {t : TypeId} (ht : Tryz.prog.underlying t = some (.map 9 24)) (h : MapS w b n f) {s : ByteArray} (hs : s.size ≤ maxLen) :
    (Instr.lookup t (.map (some b)) (.string s) true).run Tryz.prog w = .ok (.tuple #[.int .u64 (((f s.data.toList).getD 0 : Nat) : Int), .bool (f s.data.toList).isSome]) w := by
  obtain ⟨D, ho, hd⟩ := h
  obtain ⟨h1, h2⟩ := hd s.data.toList
  have hz : (zeroValue 24).run Tryz.prog w = .ok (.int .u64 0) w := by kernel_rfl
  obtain ⟨v, ps, hrun, hv⟩ := ho.look_ok law9 ht hz (rdS_int 0) (keyOf_string_mk (s := s) Tryz.underlying9 hs)
  rw [hrun, h1]
  cases hf : f s.data.toList with
  | none =>
    rw [hf] at h1
    rw [atKey_of_not_has h1] at hv
    rw [rdS_inv hv]
    rfl
  | some a =>
    rw [h2 a hf] at hv
    rw [rdS_inv hv]
    rfl
end
end Go.Proofs.YtgckinldnnckoaaGreatDoor.Oc
/-
  An oracle's overrides: add, Hash.
-/
namespace Go.Proofs.YtgckinldnnckoaaGreatDoor.Oc
open Go.RowKit
set_option linter.unusedVariables false

theorem cell_blk {w : World} {b j : Nat} {cs : Array Value} {t : TypeId} {v : Value} (h : w.heap[b]? = some (.cells cs t)) (hv : cs[j]? = some v) : w.cell? ⟨b, j, none⟩ = some v := by
  simp [World.cell?, h, hv]
theorem heap_new (w : World) (o : Obj) : (w.alloc o).heap[w.heap.size]? = some o := by
  show (w.heap.push o)[w.heap.size]? = _
  simp
theorem heap_old {w : World} {b : Nat} {x : Obj} (h : w.heap[b]? = some x) (o : Obj) : (w.alloc o).heap[b]? = some x :=
  (Below.heap_alloc w o b (Array.getElem?_eq_some_iff.1 h).1).trans h
theorem Kp.blk {w w1 : World} {b : Nat} {x : Obj} (h : Kp w w1) (hb : w.heap[b]? = some x) : w1.heap[b]? = some x := (h.block b (Array.getElem?_eq_some_iff.1 hb).1).trans hb

/-- An oracle at block p, its overrides in the map at block m. -/
def OrcAt (w : World) (p m n : Nat) (f : List UInt8 → Option Nat) : Prop := w.heap[p]? = some (.cells #[.map (some m)] 131) ∧ MapS w m n f
theorem OrcAt.kp {w w1 : World} {p m n : Nat} {f : List UInt8 → Option Nat} (h : OrcAt w p m n f) (k : Kp w w1) : OrcAt w1 p m n f := ⟨k.blk h.1, h.2.kp k⟩
theorem OrcAt.cell {w : World} {p m n : Nat} {f : List UInt8 → Option Nat} (h : OrcAt w p m n f) : w.cell? ⟨p, 0, none⟩ = some (.map (some m)) := cell_blk h.1 rfl

/-- What the oracle answers. -/
def hashN (f : List UInt8 → Option Nat) (seed : Nat) (k : List UInt8) : Nat := (f k).getD (mixN seed k)

set_option maxRecDepth 100000 in
set_option maxHeartbeats 1000000 in
theorem hash_none (seed : Int) (key : ByteArray) (X : Nat) {p m : Nat} (w : World) (hc : w.cell? ⟨p, 0, none⟩ = some (.map (some m)))
    (hk : (Instr.lookup 129 (.map (some m)) (.string key) true).run Tryz.prog w = .ok (.tuple #[.int .u64 0, .bool false]) w)
    (hM : Calls Tryz.prog 75 #[.int .u64 seed, .string key] w fun e w' => e = .returned (.int .u64 (X : Nat)) ∧ Kp w w') :
    Calls Tryz.prog 44 #[.pointer (some ⟨p, 0, none⟩), .int .u64 seed, .string key] w fun e w' => e = .returned (.int .u64 (X : Nat)) ∧ Kp w w' := by
  go_enter Tryz.func44, Tryz.ntmps44
  go_wp2_with fail
  refine hM.mono ?_
  rintro r w1 ⟨rfl, k1⟩
  go_wp2_with fail
  go_ret
  exact ⟨rfl, k1⟩

set_option maxRecDepth 100000 in
set_option maxHeartbeats 1000000 in
theorem hash_some (seed : Int) (key : ByteArray) (a : Nat) {p m : Nat} (w : World) (hc : w.cell? ⟨p, 0, none⟩ = some (.map (some m)))
    (hk : (Instr.lookup 129 (.map (some m)) (.string key) true).run Tryz.prog w = .ok (.tuple #[.int .u64 (a : Int), .bool true]) w) :
    Calls Tryz.prog 44 #[.pointer (some ⟨p, 0, none⟩), .int .u64 seed, .string key] w fun e w' => e = .returned (.int .u64 (a : Int)) ∧ Kp w w' := by
  go_enter Tryz.func44, Tryz.ntmps44
  go_wp2_with fail
  go_ret
  exact ⟨rfl, Kp.refl _⟩

theorem hashN_none {f : List UInt8 → Option Nat} {seed : Nat} {k : List UInt8} (h : f k = none) : hashN f seed k = mixN seed k := by
  unfold hashN
  rw [h, Option.getD_none]
theorem hashN_some {f : List UInt8 → Option Nat} {seed a : Nat} {k : List UInt8} (h : f k = some a) : hashN f seed k = a := by
  unfold hashN
  rw [h, Option.getD_some]
theorem look_none {w : World} {m n : Nat} {f : List UInt8 → Option Nat} (h : MapS w m n f) {key : ByteArray} (hl : key.size ≤ maxLen) (hf : f key.data.toList = none) :
    (Instr.lookup 129 (.map (some m)) (.string key) true).run Tryz.prog w = .ok (.tuple #[.int .u64 0, .bool false]) w := by
  have hk := h.look Tryz.underlying129 hl
  rw [hf, Option.getD_none, Option.isSome_none] at hk
  exact hk
theorem look_some {w : World} {m n a : Nat} {f : List UInt8 → Option Nat} (h : MapS w m n f) {key : ByteArray} (hl : key.size ≤ maxLen) (hf : f key.data.toList = some a) :
    (Instr.lookup 129 (.map (some m)) (.string key) true).run Tryz.prog w = .ok (.tuple #[.int .u64 (a : Int), .bool true]) w := by
  have hk := h.look Tryz.underlying129 hl
  rw [hf, Option.getD_some, Option.isSome_some] at hk
  exact hk
theorem max_of {n : Nat} (h : n < 9223372036854775808) : n ≤ maxLen := by
  unfold maxLen
  omega
theorem hash_any (seed : Nat) (key : ByteArray) {p m n : Nat} {f : List UInt8 → Option Nat} (w : World) (h : OrcAt w p m n f) (hs : seed < 18446744073709551616) (hl : key.size < 9223372036854775808) (ho : OddAt w) (R : Nat) (hR : R = hashN f seed key.data.toList) :
    Calls Tryz.prog 44 #[.pointer (some ⟨p, 0, none⟩), .int .u64 (seed : Int), .string key] w fun e w' => e = .returned (.int .u64 ((R : Nat) : Int)) ∧ Kp w w' := by
  cases hf : f key.data.toList with
  | none =>
    rw [hashN_none hf] at hR
    rw [hR]
    exact hash_none _ key _ w h.cell (look_none h.2 (max_of hl) hf) (mix_any seed key w hs hl ho)
  | some a =>
    rw [hashN_some hf] at hR
    rw [hR]
    exact hash_some _ key a w h.cell (look_some h.2 (max_of hl) hf)

set_option maxRecDepth 100000 in
set_option maxHeartbeats 1000000 in
theorem add_long (key : ByteArray) (x : Nat) (p : Nat) (w : World) (hb : key.size < 1 ∨ 128 < key.size) (hl : key.size ≤ maxLen) :
    Calls Tryz.prog 55 #[.pointer (some ⟨p, 0, none⟩), .agg #[.string key, .int .u64 (x : Int)]] w fun e w' => e = .returned (.int .i64 41) ∧ Kp w w' := by
  by_cases h1 : key.size < 1
  · have h1' : (key.size : Int) < 1 := by omega
    clear hb
    go_enter Tryz.func55, Tryz.ntmps55
    go_wp2_with fail
    go_ret
    exact ⟨rfl, (Kp.refl _).alloc _⟩
  · have h1' : ¬ (key.size : Int) < 1 := by omega
    have h2' : (128 : Int) < (key.size : Int) := by omega
    clear hb
    go_enter Tryz.func55, Tryz.ntmps55
    go_wp2_with fail
    go_ret
    exact ⟨rfl, (Kp.refl _).alloc _⟩

theorem Kp.drewN {w w1 : World} (h : Kp w w1) (n : Nat) : Kp w (w1.drewN n) := ⟨h.os, h.tape, h.output, h.size, h.block⟩
/-- What add leaves. -/
def AddPost (w : World) (p m n : Nat) (f : List UInt8 → Option Nat) (e : Ending) (w' : World) : Prop :=
  e = .returned (.int .i64 0) ∧ OrcAt w' p m (n + 1) f ∧ w.heap.size ≤ w'.heap.size ∧ (∀ k, k < w.heap.size → k ≠ m → w'.heap[k]? = w.heap[k]?) ∧ w'.os = w.os ∧ w'.tape = w.tape ∧ w'.output = w.output

set_option maxRecDepth 100000 in
set_option maxHeartbeats 1000000 in
theorem add_twice (key : ByteArray) (x a : Nat) {p m n : Nat} {f : List UInt8 → Option Nat} (w : World) (h : OrcAt w p m n f) (hb1 : 1 ≤ key.size) (hb2 : key.size ≤ 128) (hf : f key.data.toList = some a) :
    Calls Tryz.prog 55 #[.pointer (some ⟨p, 0, none⟩), .agg #[.string key, .int .u64 (x : Int)]] w fun e w' => e = .returned (.int .i64 42) ∧ Kp w w' := by
  have hl : key.size ≤ maxLen := Nat.le_trans hb2 (by decide)
  have h1' : ¬ (key.size : Int) < 1 := by omega
  have h2' : ¬ (128 : Int) < (key.size : Int) := by omega
  have hO := h.kp ((Kp.refl w).alloc (.cells #[.string key, .int .u64 (x : Int)] 126))
  have hc := hO.cell
  have hk := fun n => look_some (w := (w.alloc (.cells #[.string key, .int .u64 (x : Int)] 126)).drewN n) (hO.2.same rfl) hl hf
  have c0 : (w.alloc (.cells #[.string key, .int .u64 (x : Int)] 126)).cell? ⟨w.heap.size, 0, none⟩ = some (.string key) := cell_blk (heap_new _ _) rfl
  have c1 : (w.alloc (.cells #[.string key, .int .u64 (x : Int)] 126)).cell? ⟨w.heap.size, 1, none⟩ = some (.int .u64 (x : Int)) := cell_blk (heap_new _ _) rfl
  have kw : Kp w (w.alloc (.cells #[.string key, .int .u64 (x : Int)] 126)) := (Kp.refl w).alloc _
  clear h hO
  go_enter Tryz.func55, Tryz.ntmps55
  go_wp2_with fail
  generalize hB : w.heap.size = B at *
  generalize (w.alloc (.cells #[.string key, .int .u64 (x : Int)] 126)) = W at *
  go_quiet (fail)
  go_wp2_with fail
  go_ret
  exact ⟨rfl, kw.drewN _⟩

set_option maxRecDepth 100000 in
set_option maxHeartbeats 1000000 in
theorem add_new (key : ByteArray) (x : Nat) {p m n : Nat} {f : List UInt8 → Option Nat} (w : World) (h : OrcAt w p m n f) (hb1 : 1 ≤ key.size) (hb2 : key.size ≤ 128) (hf : f key.data.toList = none) (hn : n < 1000) :
    Calls Tryz.prog 55 #[.pointer (some ⟨p, 0, none⟩), .agg #[.string key, .int .u64 (x : Int)]] w (AddPost w p m n (updS f key.data.toList (some x))) := by
  have hl : key.size ≤ maxLen := Nat.le_trans hb2 (by decide)
  have h1' : ¬ (key.size : Int) < 1 := by omega
  have h2' : ¬ (128 : Int) < (key.size : Int) := by omega
  have hO := h.kp ((Kp.refl w).alloc (.cells #[.string key, .int .u64 (x : Int)] 126))
  have hc := hO.cell
  have hk := fun n => look_none (w := (w.alloc (.cells #[.string key, .int .u64 (x : Int)] 126)).drewN n) (hO.2.same rfl) hl hf
  have c0 : (w.alloc (.cells #[.string key, .int .u64 (x : Int)] 126)).cell? ⟨w.heap.size, 0, none⟩ = some (.string key) := cell_blk (heap_new _ _) rfl
  have c1 : (w.alloc (.cells #[.string key, .int .u64 (x : Int)] 126)).cell? ⟨w.heap.size, 1, none⟩ = some (.int .u64 (x : Int)) := cell_blk (heap_new _ _) rfl
  have kw : Kp w (w.alloc (.cells #[.string key, .int .u64 (x : Int)] 126)) := (Kp.refl w).alloc _
  clear h
  go_enter Tryz.func55, Tryz.ntmps55
  go_wp2_with fail
  generalize hB : w.heap.size = B at *
  generalize (w.alloc (.cells #[.string key, .int .u64 (x : Int)] 126)) = W at *
  go_quiet (fail)
  go_wp2_with fail
  have hS : MapS (W.drewN (nq + 1)) m n f := hO.2.same rfl
  obtain ⟨w2, r2, m2, s1, s2, s3, s4, s5⟩ := hS.store Tryz.underlying129 (by unfold maxLen; omega) hl x
  have hpm : p ≠ m := by
    intro e
    obtain ⟨D, ⟨es, cl, hb, _⟩, _⟩ := hO.2
    have := hO.1
    rw [e, hb] at this
    cases this
  have hend : Hid (AddPost w p m n (updS f key.data.toList (some x)) (.returned (.int .i64 0)) w2) := by
    have hsz : W.heap.size = (W.drewN (nq + 1)).heap.size := rfl
    refine ⟨rfl, ⟨(s2 p hpm).trans hO.1, m2⟩, by rw [s1, ← hsz]; exact kw.size, fun k hk hkm => (s2 k hkm).trans (kw.block k hk), s3.trans kw.os, s4.trans kw.tape, s5.trans kw.output⟩
  clear hS m2 s1 s2 s3 s4 s5 hpm hO kw hk
  go_region
  go_wp2_with fail
  go_ret
  exact hend.out
end Go.Proofs.YtgckinldnnckoaaGreatDoor.Oc
/-
  small's law: text, num, key.
-/
namespace Go.Proofs.YtgckinldnnckoaaGreatDoor
open Go.RowKit Go.Shelf
set_option linter.unusedVariables false

set_option maxRecDepth 100000 in
set_option maxHeartbeats 1000000 in
theorem stext_any (n : Int) (k0 : Nat) (w : World) (hn : fitsI n) (hk0 : k0 ≤ 1000) : Calls Tryz.prog 31 #[.int .i64 n, .int .i64 (k0 : Int)] w fun e w' => e = .returned (.string (strOf (txL n k0))) ∧ Keeps w w' (fun _ => False) := by
  have hmk := run_make_bytes (P := Tryz.prog) w 134 5 Tryz.underlying134 Tryz.infoE k0 (by omega)
  obtain ⟨S, hS⟩ : ∃ S, strOf (txL n k0) = S := ⟨_, rfl⟩
  rw [hS]
  go_enter Tryz.func31, Tryz.ntmps31
  go_wp2_with fail
  go_loopw [0, 6] (fun v0 i wr => ∃ k : Nat, v0 = .int .i64 (n / 256 ^ k) ∧ i = .int .i64 (k : Int) ∧ k ≤ k0 ∧ wr.heap[w.heap.size]? = some (.cells (rowOf (txL n k ++ zeros (k0 - k))) 5) ∧ Keeps w wr (fun _ => False)) (fun _ i _ => k0 - (intOf i).toNat)
  case atStart => exact ⟨0, by simp, rfl, Nat.zero_le _, heap_alloc_new _ _, (Keeps.refl _ _).alloc _⟩
  case round =>
    obtain ⟨k, rfl, rfl, hk, hr, K⟩ := hrel
    clear hmk
    have hfk := fitsI_bounds (div_fits hn k)
    by_cases hlt : k < k0
    · have hlt' : (k : Int) < (k0 : Int) := by omega
      have hb := txB_nat n k
      have hq : (n / 256 ^ k) / 256 = n / 256 ^ (k + 1) := by
        rw [Int.pow_succ, Int.ediv_ediv_of_nonneg (Int.le_of_lt (Int.pow_pos (by decide)))]
      have hc : wr.cell? ⟨w.heap.size, k, none⟩ = some (.int .u8 ((((txL n k ++ zeros (k0 - k))[k]'(by simp [txL_length, zeros_length]; omega)).toNat : Int))) := by
        have := rowOf_get (txL n k ++ zeros (k0 - k)) k (by simp [txL_length, zeros_length]; omega)
        simp only [World.cell?, hr]
        simpa using this
      have hf : wr.frozen? ⟨w.heap.size, k, none⟩ = false := by simp [World.frozen?, hr]
      have hr2 : (wr.setCell ⟨w.heap.size, k, none⟩ (.int .u8 ((txB n k).toNat : Int))).heap[w.heap.size]? = some (.cells (rowOf (txL n (k + 1) ++ zeros (k0 - (k + 1)))) 5) := by
        rw [setCell_eq_setRow wr w.heap.size k _ 5 (0, 0) _ hr, heap_setRow_same hr, tx_mix n k0 k hlt]
      have K2 : Keeps w (wr.setCell ⟨w.heap.size, k, none⟩ (.int .u8 ((txB n k).toNat : Int))) (fun _ => False) := K.setCell ⟨w.heap.size, k, none⟩ (fun h => absurd h (Nat.lt_irrefl _)) _
      generalize ((txL n k ++ zeros (k0 - k))[k]'(by simp [txL_length, zeros_length]; omega)).toNat = old at *
      rw [hb] at hr2 K2
      have HR := hide hr2
      have HK := hide K2
      have HQ := hide hq
      generalize n / 256 ^ k = x at *
      have hwx : IntKind.u8.wrap x = x % 256 := IntKind.wrap_u8 x
      clear hr K hr2 K2 hq hb
      go_wp2_with fail
      go_roundw
      case rel => exact ⟨k + 1, by rw [← HQ.out], by go_num, by omega, HR.out, HK.out⟩
      case measure => simp [intOf]; omega
    · have hkn : k = k0 := by omega
      subst hkn
      have hlt' : ¬ (k : Int) < (k : Int) := by omega
      have htx := run_text wr ⟨w.heap.size, 0, none⟩ k k (txL n k) (txL_length n k) (fun j hj => by
        rw [addr_add, Nat.zero_add]
        have := rowOf_get (txL n k ++ zeros (k - k)) j (by simp; omega)
        simp only [World.cell?, hr]
        simpa [List.getElem_append_left hj] using this)
      rw [hS] at htx
      have K2 := hide K
      clear hr K hS
      go_wp2_with fail
      go_ret
      exact ⟨rfl, K2.out⟩

set_option maxRecDepth 100000 in
theorem snum_any (x : Int) (w : World) : Calls Tryz.prog 12 #[.int .i64 x] w fun e w' => e = .returned (.int .i64 x) ∧ w' = w := by
  go_enter Tryz.func12, Tryz.ntmps12
  go_wp2
  go_ret
  exact ⟨rfl, rfl⟩
end Go.Proofs.YtgckinldnnckoaaGreatDoor
/-
  small's law: a Bench in its block; key, place.
-/
namespace Go.Proofs.YtgckinldnnckoaaGreatDoor
open Go.RowKit Go.Shelf Ly Ct
set_option linter.unusedVariables false
/-- What stands in a Bench. -/
structure BC (cs : Array Value) (p : Nat) (l : Lay) (off q seed : Nat) (c : Nat → GC) (ad : Int) : Prop where
  size : cs.size = 67
  lk : cs[1]? = some (.int .i64 l.k)
  le : cs[2]? = some (.int .i64 l.e)
  orc : cs[10]? = some (.pointer (some ⟨q, 0, none⟩))
  s0 : cs[11]? = some (.pointer (some ⟨p, 0, none⟩))
  s1 : cs[12]? = some (.int .i64 l.k)
  s2 : cs[13]? = some (.int .i64 l.e)
  s3 : cs[14]? = some (.int .i64 l.a)
  s4 : cs[15]? = some (.int .i64 l.b)
  s5 : cs[16]? = some (.int .i64 l.c)
  s6 : cs[17]? = some (.int .i64 l.eo)
  s7 : cs[18]? = some (.int .i64 l.bo)
  s8 : cs[19]? = some (.int .i64 l.s)
  s9 : cs[20]? = some (.int .i64 l.g)
  s10 : cs[21]? = some (.int .i64 (off : Int))
  sd : cs[24]? = some (.int .u64 (seed : Int))
  cell : ∀ i, i < 8 → cs[26 + i * 5]? = some (.int .i64 (c i).kind) ∧ cs[26 + i * 5 + 1]? = some (.int .i64 (c i).tag) ∧ cs[26 + i * 5 + 2]? = some (.string (c i).key) ∧ cs[26 + i * 5 + 3]? = some (.string (c i).elem) ∧ cs[26 + i * 5 + 4]? = some (.int .i64 (c i).birth)
  ad : cs[66]? = some (.int .i64 ad)
  a0 : cs[0]? = some (.pointer (some ⟨p, 0, none⟩))
  lg : cs[9]? = some (.int .i64 l.g)
def BN (b p : Nat) (l : Lay) (off q seed : Nat) (c : Nat → GC) (ad : Int) (W : World) : Prop := ∃ cs, W.heap[b]? = some (.cells cs 46) ∧ BC cs p l off q seed c ad
theorem cellA {W : World} {b : Nat} {cs : Array Value} {t : TypeId} (h : W.heap[b]? = some (.cells cs t)) {j : Nat} {v : Value} (hv : cs[j]? = some v) : W.cell? ⟨b, j, none⟩ = some v := by
  simp [World.cell?, h, hv]
section
variable {b p : Nat} {l : Lay} {off q seed : Nat} {c : Nat → GC} {ad : Int} {W W' : World}
theorem BN.keeps (h : BN b p l off q seed c ad W) {S : Nat → Prop} (k : Keeps W W' S) (hS : ¬ S b) : BN b p l off q seed c ad W' := by
  obtain ⟨cs, h1, h2⟩ := h
  exact ⟨cs, (k.block b (heap_lt h1) hS).trans h1, h2⟩
theorem BN.at (h : BN b p l off q seed c ad W) {i : Nat} (hi : i < 8) : W.cell? ⟨b, 26 + i * 5, none⟩ = some (.int .i64 (c i).kind) ∧ W.cell? ⟨b, 26 + i * 5 + 1, none⟩ = some (.int .i64 (c i).tag) ∧ W.cell? ⟨b, 26 + i * 5 + 2, none⟩ = some (.string (c i).key) ∧ W.cell? ⟨b, 26 + i * 5 + 3, none⟩ = some (.string (c i).elem) ∧ W.cell? ⟨b, 26 + i * 5 + 4, none⟩ = some (.int .i64 (c i).birth) := by
  obtain ⟨cs, h1, h2⟩ := h
  obtain ⟨a0, a1, a2, a3, a4⟩ := h2.cell i hi
  exact ⟨cellA h1 a0, cellA h1 a1, cellA h1 a2, cellA h1 a3, cellA h1 a4⟩
theorem BN.small (h : BN b p l off q seed c ad W) : W.cell? ⟨b, 11, none⟩ = some (.pointer (some ⟨p, 0, none⟩)) ∧ W.cell? ⟨b, 12, none⟩ = some (.int .i64 l.k) ∧ W.cell? ⟨b, 13, none⟩ = some (.int .i64 l.e) ∧ W.cell? ⟨b, 14, none⟩ = some (.int .i64 l.a) ∧ W.cell? ⟨b, 15, none⟩ = some (.int .i64 l.b) ∧ W.cell? ⟨b, 16, none⟩ = some (.int .i64 l.c) ∧ W.cell? ⟨b, 17, none⟩ = some (.int .i64 l.eo) ∧ W.cell? ⟨b, 18, none⟩ = some (.int .i64 l.bo) ∧ W.cell? ⟨b, 19, none⟩ = some (.int .i64 l.s) ∧ W.cell? ⟨b, 20, none⟩ = some (.int .i64 l.g) ∧ W.cell? ⟨b, 21, none⟩ = some (.int .i64 (off : Int)) := by
  obtain ⟨cs, h1, h2⟩ := h
  exact ⟨cellA h1 h2.s0, cellA h1 h2.s1, cellA h1 h2.s2, cellA h1 h2.s3, cellA h1 h2.s4, cellA h1 h2.s5, cellA h1 h2.s6, cellA h1 h2.s7, cellA h1 h2.s8, cellA h1 h2.s9, cellA h1 h2.s10⟩
theorem BN.nums (h : BN b p l off q seed c ad W) : W.cell? ⟨b, 1, none⟩ = some (.int .i64 l.k) ∧ W.cell? ⟨b, 2, none⟩ = some (.int .i64 l.e) ∧ W.cell? ⟨b, 10, none⟩ = some (.pointer (some ⟨q, 0, none⟩)) ∧ W.cell? ⟨b, 24, none⟩ = some (.int .u64 (seed : Int)) ∧ W.cell? ⟨b, 66, none⟩ = some (.int .i64 ad) := by
  obtain ⟨cs, h1, h2⟩ := h
  exact ⟨cellA h1 h2.lk, cellA h1 h2.le, cellA h1 h2.orc, cellA h1 h2.sd, cellA h1 h2.ad⟩
end
theorem BN.ar {b p : Nat} {l : Lay} {off q seed : Nat} {c : Nat → GC} {ad : Int} {W : World} (h : BN b p l off q seed c ad W) : W.cell? ⟨b, 0, none⟩ = some (.pointer (some ⟨p, 0, none⟩)) ∧ W.cell? ⟨b, 9, none⟩ = some (.int .i64 l.g) := by
  obtain ⟨cs, h1, h2⟩ := h
  exact ⟨cellA h1 h2.a0, cellA h1 h2.lg⟩
/-- Is slot i full with that key? -/
def mkC (c : Nat → GC) (key : ByteArray) (i : Nat) : Bool := decide ((c i).kind = 2 ∧ (c i).key = key)
def vcC (c : Nat → GC) (i : Nat) : Bool := decide (¬ (c i).kind = 2)
def lowI (M : Nat → Bool) (f : Nat) : Int := if low M f = 8 then -1 else ((low M f : Nat) : Int)
theorem low_bound (M : Nat → Bool) (f : Nat) (hf : f ≤ 8) : low M f ≤ 8 := (low_spec M f hf).1
theorem lowI_step (M : Nat → Bool) {i : Nat} (hi : i < 8) : lowI M (8 - i) = if M i = true then (i : Int) else lowI M (7 - i) := by
  unfold lowI
  obtain ⟨f, hf⟩ : ∃ f, 8 - i = f + 1 := ⟨7 - i, by omega⟩
  have hf2 : 7 - i = f := by omega
  rw [hf, hf2]
  have e : 7 - f = i := by omega
  rw [low, e]
  by_cases hM : M i = true
  · rw [if_pos hM, if_pos hM, if_neg (by omega)]
  · rw [if_neg hM, if_neg hM]
theorem low_step8 (M : Nat → Bool) {i : Nat} (hi : i < 8) : low M (8 - i) = if M i = true then i else low M (7 - i) := by
  obtain ⟨f, hf⟩ : ∃ f, 8 - i = f + 1 := ⟨7 - i, by omega⟩
  have hf2 : 7 - i = f := by omega
  rw [hf, hf2]
  have e : 7 - f = i := by omega
  rw [low, e]

set_option maxRecDepth 100000 in
set_option maxHeartbeats 4000000 in
theorem splace_any {b p : Nat} {l : Lay} {off q seed : Nat} {c : Nat → GC} {ad : Int} {w : World} (h : BN b p l off q seed c ad w) (key : ByteArray) :
    Calls Tryz.prog 30 #[.pointer (some ⟨b, 0, none⟩), .string key] w fun e w' => e = .returned (.tuple #[.int .i64 (lowI (mkC c key) 8), .int .i64 ((low (vcC c) 8 : Nat) : Int)]) ∧ w' = w := by
  have HC := hide (fun i (hi : i < 8) => h.at hi)
  clear h
  go_enter Tryz.func30, Tryz.ntmps30
  go_wp2_with fail
  go_loopw [6, 7, 8] (fun v6 v7 v8 wr => ∃ k : Nat, v8 = .int .i64 ((k : Int) - 1) ∧ k ≤ 8 ∧ v6 = .int .i64 (lowI (mkC c key) (8 - k)) ∧ v7 = .int .i64 ((low (vcC c) (8 - k) : Nat) : Int) ∧ wr = w) (fun _ _ v8 _ => (intOf v8 + 1).toNat)
  case atStart => exact ⟨8, rfl, Nat.le_refl _, rfl, rfl, rfl⟩
  case round =>
    obtain ⟨k, rfl, hk, rfl, rfl, rfl⟩ := hrel
    by_cases hk0 : k = 0
    · subst hk0
      have hlt : ¬ (0 : Int) ≤ ((0 : Nat) : Int) - 1 := by omega
      go_wp2_with fail
      go_ret2
      exact ⟨rfl, by trivial⟩
    · obtain ⟨i, rfl⟩ : ∃ i, k = i + 1 := ⟨k - 1, by omega⟩
      have hi : i < 8 := by omega
      have e1 : ((i + 1 : Nat) : Int) - 1 = (i : Int) := by omega
      rw [e1]
      have h0 : (0 : Int) ≤ (i : Int) := by omega
      have hi8 : (i : Int) < 8 := by omega
      obtain ⟨a0, a1, a2, a3, a4⟩ := HC.out i hi
      have s1 := lowI_step (mkC c key) hi
      have s2 := low_step8 (vcC c) hi
      rw [show 8 - (i + 1) = 7 - i by omega]
      have Hi : Hid (i ≤ 8) := by show i ≤ 8; omega
      clear e1 hk hk0
      by_cases hx : (c i).kind = 2
      · have hV : vcC c i = false := decide_eq_false (fun q => q hx)
        rw [hV, if_neg (by decide)] at s2
        rw [hx] at a0
        by_cases hy : (c i).key = key
        · have hM : mkC c key i = true := decide_eq_true ⟨hx, hy⟩
          rw [hM, if_pos rfl] at s1
          rw [hy] at a2
          have hyb : (key.toList == key.toList) = true := by simp
          have S := hide (And.intro s1 s2)
          clear s1 s2 hx hy hV hM a1 a3 a4
          go_wp2_with fail
          go_roundw
          case rel => exact ⟨i, rfl, Hi.out, by rw [S.out.1], by rw [S.out.2], by trivial⟩
          case measure => simp [intOf]
        · have hM : mkC c key i = false := decide_eq_false (fun q => hy q.2)
          rw [hM, if_neg (by decide)] at s1
          have hyb : ((c i).key.toList == key.toList) = false := by
            rw [beq_eq_false_iff_ne]
            exact fun e => hy (str_eq e)
          have S := hide (And.intro s1 s2)
          clear s1 s2 hx hy hV hM a1 a3 a4
          generalize (c i).key = ck at *
          go_wp2_with fail
          go_roundw
          case rel => exact ⟨i, rfl, Hi.out, by rw [S.out.1], by rw [S.out.2], by trivial⟩
          case measure => simp [intOf]
      · have hV : vcC c i = true := decide_eq_true hx
        have hM : mkC c key i = false := decide_eq_false (fun q => hx q.1)
        rw [hV, if_pos rfl] at s2
        rw [hM, if_neg (by decide)] at s1
        have hxb : ((c i).kind == 2) = false := beq_eq_false_iff_ne.2 hx
        have hxn : ((c i).kind != 2) = true := by simp [hx]
        have S := hide (And.intro s1 s2)
        clear s1 s2 hx hV hM a1 a2 a3 a4
        generalize (c i).kind = ck at *
        go_wp2_with fail
        go_roundw
        case rel => exact ⟨i, rfl, Hi.out, by rw [S.out.1], by rw [S.out.2], by trivial⟩
        case measure => simp [intOf]
end Go.Proofs.YtgckinldnnckoaaGreatDoor
/-
  Blocks and cells that stay.
-/
namespace Go.Proofs.YtgckinldnnckoaaGreatDoor
open Go.RowKit Go.Shelf
set_option linter.unusedVariables false

theorem keeps_cell {W W1 : World} {q j : Nat} {v : Value} {S : Nat → Prop} (k : Keeps W W1 S) (hS : ¬ S q) (e : W.cell? ⟨q, j, none⟩ = some v) : W1.cell? ⟨q, j, none⟩ = some v := by
  have : q < W.heap.size := by
    refine Nat.lt_of_not_le fun hn => ?_
    rw [World.cell?, Array.getElem?_eq_none hn] at e
    cases e
  exact (World.cell?_of_block (w := W) (a := ⟨q, j, none⟩) (k.block q this hS)).trans e
theorem Keeps.blkS {w w1 : World} {S : Nat → Prop} (h : Keeps w w1 S) {b : Nat} {x : Obj} (hb : w.heap[b]? = some x) (hS : ¬ S b) : w1.heap[b]? = some x := (h.block b (heap_lt hb) hS).trans hb
end Go.Proofs.YtgckinldnnckoaaGreatDoor
/-
  small's law: key.
-/
namespace Go.Proofs.YtgckinldnnckoaaGreatDoor
open Go.RowKit Go.Shelf Ly Ct
set_option linter.unusedVariables false
theorem i64_and15 (n : Int) : bits .and .i64 n 15 = n % 16 := by
  have h15 : (BitVec.ofInt 64 15).toNat = 2 ^ 4 - 1 := by decide
  have key : (BitVec.ofInt 64 n &&& BitVec.ofInt 64 15).toNat = (n % ((2 ^ 64 : Nat) : Int)).toNat % 2 ^ 4 := by
    rw [BitVec.toNat_and, BitVec.toNat_ofInt, h15, Nat.and_two_pow_sub_one_eq_mod]
  show IntKind.i64.wrap ((BitVec.ofInt 64 n &&& BitVec.ofInt 64 15).toNat : Nat) = n % 16
  rw [key, IntKind.wrap_i64]
  omega
/-- The key of a number. -/
def keyK (lk : Int) (n : Int) : ByteArray := strOf (txL (n % 16) lk.toNat)
theorem keyK_size (lk n : Int) (h : 0 ≤ lk) : ((keyK lk n).size : Int) = lk := by
  unfold keyK
  rw [str_size, txL_length]
  omega
theorem tag_facts (hv : Nat) : ∃ tg : Int, tg = ((hv % 128 : Nat) : Int) ∧ ((hv : Nat) : Int).tmod 128 = tg ∧ IntKind.i64.wrap tg = tg ∧ wrap64 tg = tg ∧ IntKind.u64.wrap tg = tg := by
  refine ⟨_, rfl, ?_, ?_, ?_, ?_⟩
  · rw [Int.tmod_eq_emod_of_nonneg (by omega)]; omega
  · rw [IntKind.wrap_i64]; omega
  · unfold wrap64; omega
  · rw [IntKind.wrap_u64]; omega
/-- The tag of a key. -/
def tagF (g : List UInt8 → Option Nat) (seed : Nat) (key : ByteArray) : Nat := Oc.hashN g seed key.data.toList % 128

set_option maxRecDepth 100000 in
set_option maxHeartbeats 4000000 in
theorem skey_any {b p : Nat} {l : Lay} {off q seed : Nat} {c : Nat → GC} {ad : Int} {w : World} (h : BN b p l off q seed c ad w) {m nm : Nat} {g : List UInt8 → Option Nat} (hO : Oc.OrcAt w q m nm g) (hD : Oc.OddAt w) (hs : seed < 18446744073709551616) (h1 : 1 ≤ l.k) (h2 : l.k ≤ 128) (n : Int) (hg : ∀ k x, g k = some x → x < 18446744073709551616) :
    Calls Tryz.prog 29 #[.pointer (some ⟨b, 0, none⟩), .int .i64 n] w fun e w' => e = .returned (.tuple #[.string (keyK l.k n), .int .i64 ((tagF g seed (keyK l.k n) : Nat) : Int)]) ∧ Keeps w w' (fun _ => False) := by
  obtain ⟨a1, a2, a10, a24, a66⟩ := h.nums
  have hx := i64_and15 n
  have hT := fun W => stext_any (n % 16) l.k.toNat W (fitsI_mk (by omega) (by omega)) (by omega)
  rw [show ((l.k.toNat : Nat) : Int) = l.k by omega] at hT
  have hsz := keyK_size l.k n (by omega)
  have hHa := fun W (k : Keeps w W (fun _ => False)) => Oc.hash_any seed (keyK l.k n) W (hO.kp (k.below (Nat.le_refl _) (fun _ _ e => e))) hs (by omega) (hD.kp (k.below (Nat.le_refl _) (fun _ _ e => e))) _ rfl
  have hlt : Oc.hashN g seed (keyK l.k n).data.toList < 18446744073709551616 := by
    cases e : g (keyK l.k n).data.toList with
    | none =>
      rw [Oc.hashN_none e]
      exact Oc.mixN_lt _ _
    | some x =>
      rw [Oc.hashN_some e]
      exact hg _ _ e
  unfold tagF
  have HKK : Hid (strOf (txL (n % 16) l.k.toNat) = keyK l.k n) := rfl
  rw [HKK.out] at hT
  generalize keyK l.k n = ky at *
  generalize hhn : Oc.hashN g seed ky.data.toList = hv at *
  obtain ⟨tg, htg, hr1, hr2, hr3, hr4⟩ := tag_facts hv
  rw [← htg]
  have HRR := hide (And.intro hr1 (And.intro hr2 (And.intro hr3 hr4)))
  clear htg hr1 hr2 hr3 hr4
  generalize n % 16 = n15 at *
  have HR := hide (And.intro a10 a24)
  clear h hO hD hs h1 h2 hg hlt hhn hsz HKK a2 a66
  go_enter Tryz.func29, Tryz.ntmps29
  go_wp2_with fail
  (with_reducible refine (hT _).mono ?_)
  rintro r w1 ⟨rfl, k1⟩
  have c10 := keeps_cell k1 (fun e => e) HR.out.1
  have c24 := keeps_cell k1 (fun e => e) HR.out.2
  have hH1 := hHa _ (k1.drew)
  have HK1 := hide k1
  clear hT hHa a1 a10 a24 hx
  obtain ⟨hr1, hr2, hr3, hr4⟩ := HRR.out
  go_wp2_with fail
  go_region_held3 (fun w' : World => w'.cell? ⟨b, 10, none⟩ = some (.pointer (some ⟨q, 0, none⟩)) ∧ w'.cell? ⟨b, 24, none⟩ = some (.int .u64 (seed : Int))) (first | exact ⟨c10, c24⟩ | assumption) (first | (go_at_call 44; (with_reducible refine hH1.mono ?_); rintro r w2 ⟨rfl, k2⟩; have S2 : (fun w' : World => w'.cell? ⟨b, 10, none⟩ = some (.pointer (some ⟨q, 0, none⟩)) ∧ w'.cell? ⟨b, 24, none⟩ = some (.int .u64 (seed : Int))) w2 := ⟨keeps_cell (Keeps.ofKp k2) (fun e => e) c10, keeps_cell (Keeps.ofKp k2) (fun e => e) c24⟩))
  all_goals (
    have HK2 := hide (HK1.out.drew.trans (Keeps.ofKp k2) (fun _ _ e => e))
    clear hH1 k2
    go_wp2_with fail
    go_ret2
    exact ⟨rfl, HK2.out⟩)
end Go.Proofs.YtgckinldnnckoaaGreatDoor
/-
  small's law: all that stands together; holds.
-/
namespace Go.Proofs.YtgckinldnnckoaaGreatDoor
open Go.RowKit Go.Shelf Ly Ct
set_option linter.unusedVariables false
/-- How many of the first i slots are full. -/
def cntF (c : Nat → GC) : Nat → Nat
  | 0 => 0
  | i + 1 => cntF c i + if (c i).kind = 2 then 1 else 0
theorem cntF_le (c : Nat → GC) : ∀ i, cntF c i ≤ i
  | 0 => Nat.le_refl _
  | i + 1 => by
    have := cntF_le c i
    unfold cntF
    split <;> omega
/-- The arena has this one block alone. -/
structure One (d : AD) (off : Nat) (l : Lay) (lim : Nat) : Prop where
  used : d.used = classN (32 + l.g.toNat)
  limit : d.limit = lim
  L : d.L = [(off, classN (32 + l.g.toNat))]
  lv : d.lv = upd (fun _ => none) ((off : Nat) : Int) (some ((classN (32 + l.g.toNat) : Nat) : Int))
  fm : d.fm = fun _ => none
theorem One.touch {d d' : AD} {off o n : Nat} {l : Lay} {lim : Nat} (h : One d off l lim) (t : Touch d d' o n) : One d' off l lim := by
  rw [t.data]
  exact ⟨h.used, h.limit, h.L, h.lv, h.fm⟩
/-- A small one under a plan, beside the law's own cells. -/
structure SB (hd : Int × Int × Int × Nat) (w0 : World) (b p : Nat) (l : Lay) (off q m nm seed : Nat) (X : Nat → Prop) (g : List UInt8 → Option Nat) (d : AD) (f : Nat → Int) (c cb : Nat → GC) (ad : Int) (W : World) : Prop where
  own : Own w0 W p X d
  fine : d.Fine
  sml : d.small
  sm : SmD d l off f c
  bn : BN b p l off q seed cb ad W
  orc : Oc.OrcAt W q m nm g
  xb : X b
  xq : X q
  xm : X m
  xl : ∀ k, X k → k < W.heap.size
  f0 : f 0 = hd.1
  f1 : f 1 = hd.2.1
  f2 : f 2 = hd.2.2.1
  f3 : f 3 = ((cntF c 8 : Nat) : Int)
  tags : ∀ i, i < 8 → (c i).kind = 2 → (c i).tag = ((tagF g seed (c i).key : Nat) : Int)
  kinds : ∀ i, i < 8 → c i = GC.zero ∨ (c i).kind = 2
  one : One d off l hd.2.2.2
section
variable {hd : Int × Int × Int × Nat} {w0 : World} {b p : Nat} {l : Lay} {off q m nm seed : Nat} {X : Nat → Prop} {g : List UInt8 → Option Nat} {d : AD} {f : Nat → Int} {c cb : Nat → GC} {ad : Int} {W W' : World}
theorem orc_keeps (h : Oc.OrcAt W q m nm g) {S : Nat → Prop} (k : Keeps W W' S) (h1 : ¬ S q) (h2 : ¬ S m) : Oc.OrcAt W' q m nm g := ⟨(k.block q (heap_lt h.1) h1).trans h.1, h.2.same (k.block m h.2.lt h2)⟩
theorem SB.stay (h : SB hd w0 b p l off q m nm seed X g d f c cb ad W) (k : Keeps W W' (fun _ => False)) : SB hd w0 b p l off q m nm seed X g d f c cb ad W' :=
  ⟨h.own.stay k, h.fine, h.sml, h.sm, h.bn.keeps k id, orc_keeps h.orc k id id, h.xb, h.xq, h.xm, fun i hi => Nat.lt_of_lt_of_le (h.xl i hi) k.size, h.f0, h.f1, h.f2, h.f3, h.tags, h.kinds, h.one⟩
theorem SB.valid (h : SB hd w0 b p l off q m nm seed X g d f c cb ad W) : validB l = true := h.sm.grp.valid
end
theorem wr8 {i : Nat} (h : i ≤ 8) : wrap64 ((i : Int) + 1) = (i : Int) + 1 ∧ IntKind.i64.wrap ((i : Int) + 1) = (i : Int) + 1 := by
  constructor
  · unfold wrap64; omega
  · rw [IntKind.wrap_i64]; omega

set_option maxRecDepth 100000 in
set_option maxHeartbeats 8000000 in
theorem sholds_any {lim : Nat} {w0 : World} {b p : Nat} {l : Lay} {off q m nm seed : Nat} {X : Nat → Prop} {g : List UInt8 → Option Nat} {d : AD} {f : Nat → Int} {c : Nat → GC} {ad : Int} {w : World} (h : SB (1, 0, 0, lim) w0 b p l off q m nm seed X g d f c c ad w) :
    Calls Tryz.prog 8 #[.pointer (some ⟨b, 0, none⟩)] w fun e w' => e = .returned (.bool true) ∧ Keeps w w' (fun _ => False) := by
  have HC : Hid (∀ i, i < 8 → ∀ W, Keeps w W (fun _ => False) → Calls Tryz.prog 21 #[.agg #[.pointer (some ⟨p, 0, none⟩), .int .i64 l.k, .int .i64 l.e, .int .i64 l.a, .int .i64 l.b, .int .i64 l.c, .int .i64 l.eo, .int .i64 l.bo, .int .i64 l.s, .int .i64 l.g, .int .i64 (off : Int)], .int .i64 ((i : Nat) : Int)] W fun e w' => CellPost W (c i) 0 e w') := fun i hi W k => scell_yes (h.own.stay k).here h.fine h.sm i hi
  have HS : Hid (∀ W, Keeps w W (fun _ => False) → Calls Tryz.prog 11 #[.agg #[.pointer (some ⟨p, 0, none⟩), .int .i64 l.k, .int .i64 l.e, .int .i64 l.a, .int .i64 l.b, .int .i64 l.c, .int .i64 l.eo, .int .i64 l.bo, .int .i64 l.s, .int .i64 l.g, .int .i64 (off : Int)]] W fun e w' => e = .returned (.tuple #[.agg #[.int .i64 ((cntF c 8 : Nat) : Int), .int .i64 0, .int .i64 0, .bool false], .int .i64 0]) ∧ Keeps W w' (fun _ => False)) := fun W k => by
    have := sstat_sm (h.own.stay k).here h.fine h.sm
    unfold statS at this
    rw [show f 0 = 1 from h.f0, show f 1 = 0 from h.f1, show f 2 = 0 from h.f2, h.f3] at this
    exact this
  have HB : Hid (∀ W, Keeps w W (fun _ => False) → BN b p l off q seed c ad W) := fun W k => h.bn.keeps k id
  have hNum := fun x W => snum_any x W
  clear h
  go_enter Tryz.func8, Tryz.ntmps8
  go_wp2_with fail
  go_loopw [3, 4] (fun v3 v4 wr => ∃ i : Nat, v4 = .int .i64 (i : Int) ∧ i ≤ 8 ∧ v3 = .int .i64 ((cntF c i : Nat) : Int) ∧ Keeps w wr (fun _ => False)) (fun _ v4 _ => 8 - (intOf v4).toNat)
  case atStart => exact ⟨0, rfl, Nat.zero_le _, rfl, Keeps.refl _ _⟩
  case round =>
    obtain ⟨i, rfl, hi, rfl, K⟩ := hrel
    by_cases hlt : i < 8
    · have hlt' : (i : Int) < 8 := by omega
      have hi0 : (0 : Int) ≤ (i : Int) := by omega
      have hC := HC.out i hlt wr K
      have HBr := hide (fun W (k : Keeps wr W (fun _ => False)) => HB.out W (K.trans k (fun _ _ e => e)))
      obtain ⟨s0, s1, s2, s3, s4, s5, s6, s7, s8, s9, s10⟩ := (HB.out wr K).small
      have hn : cntF c (i + 1) = cntF c i + if (c i).kind = 2 then 1 else 0 := rfl
      have HN := hide hn
      have HAt := hide (fun W (k : Keeps wr W (fun _ => False)) => (HBr.out W k).at hlt)
      have HK := hide K
      have Hi : Hid (i + 1 ≤ 8) := hlt
      have hw1 := hide (wr8 (i := i) (by omega))
      have hw2 := hide (wr8 (i := cntF c i) (by have := cntF_le c i; omega))
      clear K hi hn HBr
      obtain ⟨n1, hn1⟩ : ∃ n1, cntF c (i + 1) = n1 := ⟨_, rfl⟩
      rw [hn1] at HN
      have HN1 := hide hn1
      clear hn1
      obtain ⟨n0, hn0⟩ : ∃ n0, cntF c i = n0 := ⟨_, rfl⟩
      rw [hn0] at HN hw2 ⊢
      clear hn0
      generalize c i = x at *
      obtain ⟨xk, xt, xy, xe, xb⟩ := x
      unfold CellPost GC.val at hC
      dsimp only at *
      go_wp2_with fail
      (with_reducible refine hC.mono ?_)
      rintro r w3 ⟨rfl, k3⟩
      clear hC s0 s1 s2 s3 s4 s5 s6 s7 s8 s9 s10
      go_upto_region 6 with fail
      refine alloc1 (P := fun W => Code.wp _ _ _ _ W) fun W4 hb4 hz4 k4 => ?_
      have k34 : Keeps wr W4 (fun _ => False) := k3.trans k4 (fun _ _ e => e)
      obtain ⟨d0, d1, d2, d3, d4, -⟩ := five_cells hb4
      obtain ⟨e0, e1, e2, e3, e4⟩ := HAt.out W4 k34
      have K4 := hide (HK.out.trans k34 (fun _ _ e => e))
      have hy : (xy.toList == xy.toList) = true := by simp
      have hz : (xe.toList == xe.toList) = true := by simp
      clear hb4 hz4 k4 k3 k34 HAt
      generalize w3.heap.size = B4 at *
      have S0 : (fun w' : World => (w'.cell? ⟨B4, 0, none⟩ = some (.int .i64 xk) ∧ w'.cell? ⟨B4, 1, none⟩ = some (.int .i64 xt) ∧ w'.cell? ⟨B4, 2, none⟩ = some (.string xy) ∧ w'.cell? ⟨B4, 3, none⟩ = some (.string xe) ∧ w'.cell? ⟨B4, 4, none⟩ = some (.int .i64 xb)) ∧ w'.cell? ⟨b, 26 + i * 5, none⟩ = some (.int .i64 xk) ∧ w'.cell? ⟨b, 26 + i * 5 + 1, none⟩ = some (.int .i64 xt) ∧ w'.cell? ⟨b, 26 + i * 5 + 2, none⟩ = some (.string xy) ∧ w'.cell? ⟨b, 26 + i * 5 + 3, none⟩ = some (.string xe) ∧ w'.cell? ⟨b, 26 + i * 5 + 4, none⟩ = some (.int .i64 xb)) W4.drew := ⟨⟨d0, d1, d2, d3, d4⟩, e0, e1, e2, e3, e4⟩
      go_wp2_with fail
      go_region_held3 (fun w' : World => (w'.cell? ⟨B4, 0, none⟩ = some (.int .i64 xk) ∧ w'.cell? ⟨B4, 1, none⟩ = some (.int .i64 xt) ∧ w'.cell? ⟨B4, 2, none⟩ = some (.string xy) ∧ w'.cell? ⟨B4, 3, none⟩ = some (.string xe) ∧ w'.cell? ⟨B4, 4, none⟩ = some (.int .i64 xb)) ∧ w'.cell? ⟨b, 26 + i * 5, none⟩ = some (.int .i64 xk) ∧ w'.cell? ⟨b, 26 + i * 5 + 1, none⟩ = some (.int .i64 xt) ∧ w'.cell? ⟨b, 26 + i * 5 + 2, none⟩ = some (.string xy) ∧ w'.cell? ⟨b, 26 + i * 5 + 3, none⟩ = some (.string xe) ∧ w'.cell? ⟨b, 26 + i * 5 + 4, none⟩ = some (.int .i64 xb)) (first | with_reducible exact S0 | with_reducible assumption) (first | (go_at_call 12; (with_reducible refine (hNum _ _).mono ?_); rintro r w6 ⟨rfl, rfl⟩))
      all_goals (
        clear S0
        by_cases hx : xk = 2
        · subst hx
          have hn2 : n1 = n0 + 1 := by rw [HN.out, if_pos rfl]
          subst hn2
          have HKd := hide K4.out.drew
          obtain ⟨a6, a7⟩ := hw1.out
          obtain ⟨b6, b7⟩ := hw2.out
          go_wp2_with fail
          go_roundw
          case rel => exact ⟨i + 1, by go_num, Hi.out, by rw [HN1.out]; go_num, HKd.out⟩
          case measure => simp [intOf]; omega
        · have hn2 : n1 = n0 := by rw [HN.out, if_neg hx]; rfl
          subst hn2
          have hx' : (xk == 2) = false := beq_eq_false_iff_ne.2 hx
          have HKd := hide K4.out.drew
          obtain ⟨a6, a7⟩ := hw1.out
          clear hx
          go_wp2_with fail
          go_roundw
          case rel => exact ⟨i + 1, by go_num, Hi.out, by rw [HN1.out], HKd.out⟩
          case measure => simp [intOf]; omega)
    · obtain rfl : i = 8 := by omega
      have hS := HS.out wr K
      obtain ⟨s0, s1, s2, s3, s4, s5, s6, s7, s8, s9, s10⟩ := (HB.out wr K).small
      have HK := hide K
      clear K HC HS HB hi
      generalize ((cntF c 8 : Nat) : Int) = N at *
      go_wp2_with fail
      (with_reducible refine hS.mono ?_)
      rintro r w3 ⟨rfl, k3⟩
      have K3 := hide (HK.out.trans k3 (fun _ _ e => e))
      clear hS s0 s1 s2 s3 s4 s5 s6 s7 s8 s9 s10 k3
      go_upto_region 11 with fail
      refine alloc1 (P := fun W => Code.wp _ _ _ _ W) fun W4 hb4 hz4 k4 => ?_
      obtain ⟨⟨t0, t1, t2, t3⟩, -⟩ := st4_cells hb4
      have K4 := hide (K3.out.trans k4 (fun _ _ e => e))
      clear hb4 hz4 k4
      go_wp2_with fail
      (with_reducible refine (hNum _ _).mono ?_)
      rintro r w6 ⟨rfl, rfl⟩
      go_wp2_with fail
      go_ret
      exact ⟨rfl, K4.out⟩
end Go.Proofs.YtgckinldnnckoaaGreatDoor
