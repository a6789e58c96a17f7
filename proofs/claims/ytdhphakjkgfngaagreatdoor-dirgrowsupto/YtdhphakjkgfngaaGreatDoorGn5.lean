import Derived.Laws.Bits64
import Derived.Deep.QuietTactic
import Derived.BigQuiet
import Derived.Shelf.Abstract
import Derived.RegionTactic
import Derived.Deep.RegionLaw
import Derived.Deep.AppendLies
import Derived.WalkSmall
import Derived.Test.YtdhphakjkgfngaaGreatDoorGn4
/-
  Plain laws on numbers of bytes, the lowest first.
-/
namespace Go.Proofs.YtdhphakjkgfngaaGreatDoor
open Go.RowKit

/-- The number of the bytes, the lowest first. -/
def numOf : List UInt8 → Nat
  | [] => 0
  | x :: r => x.toNat + 256 * numOf r
theorem numOf_lt : ∀ l : List UInt8, numOf l < 256 ^ l.length
  | [] => by simp [numOf]
  | x :: r => by
    have h := numOf_lt r
    have hx := x.toNat_lt
    simp only [numOf, List.length_cons, Nat.pow_succ]
    omega
theorem numOf_snoc (l : List UInt8) (x : UInt8) : numOf (l ++ [x]) = numOf l + x.toNat * 256 ^ l.length := by
  induction l with
  | nil => simp [numOf]
  | cons y r ih =>
    simp only [List.cons_append, numOf, ih, List.length_cons, Nat.pow_succ, Nat.mul_add]
    have : 256 * (x.toNat * 256 ^ r.length) = x.toNat * (256 ^ r.length * 256) := by rw [Nat.mul_comm, Nat.mul_assoc]
    omega
theorem numOf_append (a b : List UInt8) : numOf (a ++ b) = numOf a + 256 ^ a.length * numOf b := by
  induction a with
  | nil => simp [numOf]
  | cons y r ih =>
    simp only [List.cons_append, numOf, ih, List.length_cons, Nat.pow_succ, Nat.mul_add]
    have : 256 * (256 ^ r.length * numOf b) = 256 ^ r.length * 256 * numOf b := by rw [← Nat.mul_assoc, Nat.mul_comm 256]
    omega
theorem pow_byte (k : Nat) : (2 : Nat) ^ (8 * k) = 256 ^ k := by rw [Nat.pow_mul]

theorem bits_or_nat (a b : Nat) (ha : a < 18446744073709551616) (hb : b < 18446744073709551616) : bits .or .u64 (a : Int) (b : Int) = ((a ||| b : Nat) : Int) := by
  have hx : a ||| b < 2 ^ 64 := Nat.or_lt_two_pow (by omega) (by omega)
  have h1 : (BitVec.ofInt 64 (a : Int)).toNat = a := by
    rw [BitVec.ofInt_natCast, BitVec.toNat_ofNat]
    exact Nat.mod_eq_of_lt (by omega)
  have h2 : (BitVec.ofInt 64 (b : Int)).toNat = b := by
    rw [BitVec.ofInt_natCast, BitVec.toNat_ofNat]
    exact Nat.mod_eq_of_lt (by omega)
  show IntKind.u64.wrap ((BitVec.ofInt 64 (a : Int) ||| BitVec.ofInt 64 (b : Int)).toNat : Int) = _
  rw [BitVec.toNat_or, h1, h2, IntKind.wrap_u64]
  omega
theorem or_step (N k : Nat) (x : UInt8) (hN : N < 256 ^ k) (hk : k < 8) : bits .or .u64 (N : Int) (IntKind.u64.wrap ((x.toNat : Int) * 2 ^ (8 * k))) = ((N + x.toNat * 256 ^ k : Nat) : Int) := by
  have hx := x.toNat_lt
  have hp : (256 : Nat) ^ k ≤ 256 ^ 7 := Nat.pow_le_pow_right (by omega) (by omega)
  have hm : x.toNat * 256 ^ k ≤ 255 * 256 ^ 7 := Nat.mul_le_mul (by omega) hp
  have e : ((x.toNat : Int) * 2 ^ (8 * k)) = ((x.toNat * 256 ^ k : Nat) : Int) := by
    rw [← pow_byte]
    simp
  rw [e, IntKind.wrap_u64]
  have e2 : ((x.toNat * 256 ^ k : Nat) : Int) % 18446744073709551616 = ((x.toNat * 256 ^ k : Nat) : Int) := by
    have : x.toNat * 256 ^ k < 18446744073709551616 := by omega
    omega
  rw [e2, bits_or_nat _ _ (by omega) (by omega)]
  congr 1
  have h := Nat.shiftLeft_add_eq_or_of_lt (i := 8 * k) (b := N) (by rw [pow_byte]; exact hN) x.toNat
  rw [Nat.shiftLeft_eq, pow_byte] at h
  rw [Nat.or_comm, ← h, Nat.add_comm]
end Go.Proofs.YtdhphakjkgfngaaGreatDoor
namespace Go.Proofs.YtdhphakjkgfngaaGreatDoor
open Go.RowKit

/-- A number may have 1, 2, 4 or 8 bytes. -/
def widthB (n : Int) : Bool := decide (n = 1 ∨ n = 2 ∨ n = 4 ∨ n = 8)
theorem widthB_true {n : Int} (h : widthB n = true) : n = 1 ∨ n = 2 ∨ n = 4 ∨ n = 8 := of_decide_eq_true h
theorem widthB_false {n : Int} (h : widthB n = false) : n ≠ 1 ∧ n ≠ 2 ∧ n ≠ 4 ∧ n ≠ 8 := by
  have := of_decide_eq_false h
  omega

set_option maxHeartbeats 400000 in
theorem number_width (w : World) (p : Value) (off n : Int) (h : widthB n = false) :
    Calls Tryz.prog 53 #[p, .int .i64 off, .int .i64 n] w fun e w' => e = .returned (.int .i64 10) ∧ w' = w := by
  obtain ⟨h1, h2, h3, h4⟩ := widthB_false h
  have b1 : (n != 1) = true := bne_iff_ne.2 h1
  have b2 : (n != 2) = true := bne_iff_ne.2 h2
  have b3 : (n != 4) = true := bne_iff_ne.2 h3
  have b4 : (n != 8) = true := bne_iff_ne.2 h4
  clear h h1 h2 h3 h4
  go_enter Tryz.func53, Tryz.ntmps53
  go_wp2_with fail
  go_ret
  exact ⟨rfl, rfl⟩

set_option maxHeartbeats 400000 in
theorem number_out (w : World) (b g : Nat) (bs sp : List UInt8) (m : MemAt 81 5 w b g bs sp) (off n : Int) (h : widthB n = true) (h2 : insideB bs.length off n = false) :
    Calls Tryz.prog 53 #[.pointer (some ⟨b, 0, none⟩), .int .i64 off, .int .i64 n] w fun e w' => e = .returned (.int .i64 11) ∧ w' = w := by
  have hin := inside_no w b g bs sp m off n h2
  clear h2 m
  rcases widthB_true h with rfl | rfl | rfl | rfl
  all_goals
    clear h
    go_enter Tryz.func53, Tryz.ntmps53
    go_wp2_with fail
    refine hin.mono ?_
    rintro e w' ⟨rfl, rfl⟩
    clear hin
    go_wp2_with fail
    go_ret
    exact ⟨rfl, rfl⟩

set_option maxHeartbeats 400000 in
theorem number_yes (w : World) (b g : Nat) (bs sp : List UInt8) (m : MemAt 81 5 w b g bs sp) (off n : Int) (h : widthB n = true) (h2 : insideB bs.length off n = true) :
    Calls Tryz.prog 53 #[.pointer (some ⟨b, 0, none⟩), .int .i64 off, .int .i64 n] w fun e w' => e = .returned (.int .i64 0) ∧ w' = w := by
  have hin := inside_yes w b g bs sp m off n h2
  clear h2 m
  rcases widthB_true h with rfl | rfl | rfl | rfl
  all_goals
    clear h
    go_enter Tryz.func53, Tryz.ntmps53
    go_wp2_with fail
    refine hin.mono ?_
    rintro e w' ⟨rfl, rfl⟩
    clear hin
    go_wp2_with fail
    go_ret
    exact ⟨rfl, rfl⟩

set_option maxHeartbeats 400000 in
theorem load_width (w : World) (p : Value) (off n : Int) (h : widthB n = false) :
    Calls Tryz.prog 44 #[p, .int .i64 off, .int .i64 n] w fun e w' => e = .returned (.tuple #[.int .u64 0, .int .i64 10]) ∧ w' = w := by
  go_enter Tryz.func44, Tryz.ntmps44
  go_wp2_with fail
  refine (number_width _ _ _ _ h).mono ?_
  rintro e w' ⟨rfl, rfl⟩
  go_wp2_with fail
  go_ret2
  exact ⟨rfl, rfl⟩

set_option maxHeartbeats 400000 in
theorem load_out (w : World) (b g : Nat) (bs sp : List UInt8) (m : MemAt 81 5 w b g bs sp) (off n : Int) (h : widthB n = true) (h2 : insideB bs.length off n = false) :
    Calls Tryz.prog 44 #[.pointer (some ⟨b, 0, none⟩), .int .i64 off, .int .i64 n] w fun e w' => e = .returned (.tuple #[.int .u64 0, .int .i64 11]) ∧ w' = w := by
  go_enter Tryz.func44, Tryz.ntmps44
  go_wp2_with fail
  refine (number_out _ b g bs sp m _ _ h h2).mono ?_
  rintro e w' ⟨rfl, rfl⟩
  go_wp2_with fail
  go_ret2
  exact ⟨rfl, rfl⟩

set_option maxHeartbeats 1000000 in
theorem load_yes (w : World) (b g : Nat) (bs sp : List UInt8) (m : MemAt 81 5 w b g bs sp) (o n : Nat) (h : widthB (n : Int) = true) (h2 : o + n ≤ bs.length) :
    Calls Tryz.prog 44 #[.pointer (some ⟨b, 0, none⟩), .int .i64 (o : Int), .int .i64 (n : Int)] w fun e w' => e = .returned (.tuple #[.int .u64 (numOf ((bs.drop o).take n) : Int), .int .i64 0]) ∧ w' = w := by
  have hl : bs.length + sp.length ≤ 134217728 := m.hmax
  have hnum := number_yes w b g bs sp m o n h (insideB_mk h2)
  have hs1 := span_any w b g bs sp m o n h2
  obtain ⟨q, hq, hv⟩ := spanVal_eq g (bs.length + sp.length) o n
  rw [hv] at hs1
  have hn8 : n ≤ 8 := by have := widthB_true h; omega
  have hcell := fun j hj => m.gcell j hj
  clear hv m
  go_enter Tryz.func44, Tryz.ntmps44
  go_wp2_with fail
  refine hnum.mono ?_
  rintro e w' ⟨rfl, rfl⟩
  clear hnum
  go_wp2_with fail
  refine hs1.mono ?_
  rintro e w' ⟨rfl, rfl⟩
  clear hs1
  go_wp2_with fail
  go_loop [9, 24] (fun v i => ∃ k : Nat, k ≤ n ∧ i = .int .i64 (k : Int) ∧ v = .int .u64 (numOf ((bs.drop o).take k) : Int)) (fun _ i => n - (intOf i).toNat)
  case atStart => exact ⟨0, Nat.zero_le _, rfl, rfl⟩
  case round =>
    obtain ⟨k, hk, rfl, rfl⟩ := hrel
    by_cases hlt : k < n
    · have hqo : q = o := by
        rcases hq with hq | ⟨_, hz⟩
        · exact hq
        · omega
      have hc := hcell (q + k) (by omega)
      clear hcell
      have hstep : numOf ((bs.drop o).take (k + 1)) = numOf ((bs.drop o).take k) + (bs[q + k]'(by omega)).toNat * 256 ^ k := by
        have hl1 : ((bs.drop o).take k).length = k := by simp; omega
        have ht : (bs.drop o).take (k + 1) = (bs.drop o).take k ++ [bs[q + k]'(by omega)] := by
          rw [List.take_succ_eq_append_getElem (by simp; omega)]
          simp [hqo]
        rw [ht, numOf_snoc, hl1]
      have hlt8 := numOf_lt ((bs.drop o).take k)
      rw [show ((bs.drop o).take k).length = k from by simp; omega] at hlt8
      have HS : Hid (numOf ((bs.drop o).take (k + 1)) = numOf ((bs.drop o).take k) + (bs[q + k]'(by omega)).toNat * 256 ^ k) := hstep
      clear hstep
      generalize bs[q + k]'(by omega) = x at *
      generalize hN : numOf ((bs.drop o).take k) = N at *
      have hor := or_step N k x hlt8 (by omega)
      have HO : Hid (bits .or .u64 (N : Int) (IntKind.u64.wrap ((x.toNat : Int) * 2 ^ (8 * k))) = ((N + x.toNat * 256 ^ k : Nat) : Int)) := hor
      have hx := x.toNat_lt
      clear hN hqo hq h hlt8 hor
      go_wp2
      go_round
      case rel => exact ⟨k + 1, by omega, by go_num, by rw [HO.out, HS.out]⟩
      case measure => simp [intOf]; omega
    · have hall : k = n := by omega
      subst hall
      go_wp2
      go_ret2
      exact ⟨rfl, rfl⟩
end Go.Proofs.YtdhphakjkgfngaaGreatDoor
namespace Go.Proofs.YtdhphakjkgfngaaGreatDoor
open Go.RowKit

/-- The low k bytes of v, the lowest first. -/
def lowB (v i : Nat) : UInt8 := UInt8.ofNat (v / 256 ^ i % 256)
def leBytes (v k : Nat) : List UInt8 := (List.range k).map (lowB v)
theorem leBytes_length (v k : Nat) : (leBytes v k).length = k := by simp [leBytes]
theorem leBytes_succ (v k : Nat) : leBytes v k ++ [lowB v k] = leBytes v (k + 1) := by simp [leBytes, List.range_succ]
theorem lowB_toNat (v i : Nat) : (lowB v i).toNat = v / 256 ^ i % 256 := by
  unfold lowB
  rw [UInt8.toNat_ofNat_of_lt' (show v / 256 ^ i % 256 < 256 by omega)]

theorem lowB_int (v k : Nat) : (v : Int) / 2 ^ (8 * k) % 256 = ((lowB v k).toNat : Int) := by
  rw [lowB_toNat, ← pow_byte]
  simp
theorem numOf_le (v n : Nat) : numOf (leBytes v n) = v % 256 ^ n := by
  induction n with
  | zero => simp [leBytes, numOf, Nat.mod_one]
  | succ n ih =>
    rw [← leBytes_succ, numOf_snoc, ih, leBytes_length, lowB_toNat, Nat.pow_succ, Nat.mod_mul, Nat.mul_comm]
theorem splice_take {bs : List UInt8} {o n : Nat} {x : List UInt8} (hx : x.length = n) (h : o + n ≤ bs.length) : ((splice bs o x).drop o).take n = x := by
  subst hx
  unfold splice
  have h1 : (bs.take o).length = o := by simp; omega
  rw [List.append_assoc, List.drop_append, List.drop_of_length_le (by omega), h1, Nat.sub_self, List.nil_append, List.drop_zero, List.take_left' rfl]

set_option maxHeartbeats 400000 in
theorem store_width (w : World) (p : Value) (off n : Int) (v : Int) (h : widthB n = false) :
    Calls Tryz.prog 48 #[p, .int .i64 off, .int .i64 n, .int .u64 v] w fun e w' => e = .returned (.int .i64 10) ∧ w' = w := by
  go_enter Tryz.func48, Tryz.ntmps48
  go_wp2_with fail
  refine (number_width _ _ _ _ h).mono ?_
  rintro e w' ⟨rfl, rfl⟩
  go_wp2_with fail
  go_ret
  exact ⟨rfl, rfl⟩

set_option maxHeartbeats 400000 in
theorem store_out (w : World) (b g : Nat) (bs sp : List UInt8) (m : MemAt 81 5 w b g bs sp) (off n : Int) (v : Int) (h : widthB n = true) (h2 : insideB bs.length off n = false) :
    Calls Tryz.prog 48 #[.pointer (some ⟨b, 0, none⟩), .int .i64 off, .int .i64 n, .int .u64 v] w fun e w' => e = .returned (.int .i64 11) ∧ w' = w := by
  go_enter Tryz.func48, Tryz.ntmps48
  go_wp2_with fail
  refine (number_out _ b g bs sp m _ _ h h2).mono ?_
  rintro e w' ⟨rfl, rfl⟩
  go_wp2_with fail
  go_ret
  exact ⟨rfl, rfl⟩

set_option maxHeartbeats 1000000 in
theorem store_yes (w : World) (b g : Nat) (bs sp : List UInt8) (m : MemAt 81 5 w b g bs sp) (o n v : Nat) (h : widthB (n : Int) = true) (h2 : o + n ≤ bs.length) :
    Calls Tryz.prog 48 #[.pointer (some ⟨b, 0, none⟩), .int .i64 (o : Int), .int .i64 (n : Int), .int .u64 (v : Int)] w fun e w' => WritePost w b g (splice bs o (leBytes v n)) sp e w' := by
  have hl : bs.length + sp.length ≤ 134217728 := m.hmax
  have hnum := number_yes w b g bs sp m o n h (insideB_mk h2)
  have hs1 := span_any w b g bs sp m o n h2
  obtain ⟨q, hq, hv⟩ := spanVal_eq g (bs.length + sp.length) o n
  rw [hv] at hs1
  have hn8 : n ≤ 8 := by have := widthB_true h; omega
  clear hv
  go_enter Tryz.func48, Tryz.ntmps48
  go_wp2_with fail
  refine hnum.mono ?_
  rintro e w' ⟨rfl, rfl⟩
  clear hnum
  go_wp2_with fail
  refine hs1.mono ?_
  rintro e w' ⟨rfl, rfl⟩
  clear hs1
  go_wp2_with fail
  go_loopw [25] (fun i wr => ∃ k : Nat, k ≤ n ∧ i = .int .i64 (k : Int) ∧ MemAt 81 5 wr b g (splice bs o (leBytes v k)) sp ∧ Keeps w' wr (fun i => i = g)) (fun i _ => n - (intOf i).toNat)
  case atStart => exact ⟨0, Nat.zero_le _, rfl, by rw [show leBytes v 0 = [] from rfl, splice_nil]; exact m, Keeps.refl _ _⟩
  case round =>
    obtain ⟨k, hk, rfl, mk, kk⟩ := hrel
    have hsl := leBytes_length v k
    by_cases hlt : k < n
    · have hqo : q = o := by
        rcases hq with hq | ⟨_, hz⟩
        · exact hq
        · omega
      have hlen : (splice bs o (leBytes v k)).length = bs.length := splice_length (by omega)
      obtain ⟨v0, hv0⟩ := mk.gcell_any (q + k) (by rw [hlen]; omega)
      have hfz := mk.gfrozen (q + k)
      have hst := mk.store (q + k) (by rw [hlen]; omega) (lowB v k)
      rw [show q + k = o + k from by omega, splice_set hsl (by omega), leBytes_succ, ← show q + k = o + k from by omega] at hst
      have K2 := kk.trans hst.2 (fun _ _ x => x)
      have M2 := hst.1
      rw [← lowB_int] at K2 M2
      clear hst mk kk hsl hlen hqo hq m h
      go_wp2
      go_roundw
      case rel => exact ⟨k + 1, by omega, by go_num, M2, K2⟩
      case measure => simp [intOf]; omega
    · have hall : k = n := by omega
      subst hall
      go_wp2
      go_ret
      exact ⟨rfl, mk, kk⟩
end Go.Proofs.YtdhphakjkgfngaaGreatDoor
namespace Go.Proofs.YtdhphakjkgfngaaGreatDoor
open Go.RowKit Go.Shelf

theorem hide {p : Prop} (h : p) : Hid p := h
/-- Other bytes. -/
def AD.bytes (d : AD) (bs : List UInt8) : AD := { d with bs := bs }
theorem AD.Fine.bytes {d : AD} (F : d.Fine) {bs : List UInt8} (h : bs.length = d.bs.length) : (d.bytes bs).Fine :=
  { tiles := by show Tiles 16 d.L bs.length; rw [h]; exact F.tiles
    live := F.live
    most := by show bs.length ≤ _; rw [h]; exact F.most
    lim := F.lim
    use := F.use
    sum := F.sum
    free := F.free }
theorem ArenaAt.wrote {w w' : World} {p : Nat} {c : AR} {d : AD} (h : ArenaAt w p c d) {bs : List UInt8} (m : MemAt 81 5 w' c.b c.g bs c.sp) (k : Keeps w w' (fun i => i = c.g)) : ArenaAt w' p c (d.bytes bs) :=
  ⟨(k.block p (heap_lt h.hp) h.p_g).trans h.hp, m, ownsRow_keeps h.beg k (fun _ hg e => h.g_v hg e.symm), h.live.keeps k h.bl_g, h.free.keeps k h.bf_g, h.hlf, h.heaps.keeps k (fun _ hi e => (h.heap_ne hi).2.2.1 e)⟩
/-- Nothing has turned. -/
theorem Arena.same {w w' : World} {p : Nat} {F : Nat → Prop} {d : AD} (h : Arena w p F d) (k : Keeps w w' (fun _ => False)) : Turned w w' p F d :=
  ⟨(h.keeps k (fun _ _ _ e => e)).mono (fun _ _ e => Or.inl e), k.mono (fun _ _ e => e.elim)⟩
theorem Arena.at {w : World} {p : Nat} {F : Nat → Prop} {d : AD} (h : Arena w p F d) : ∃ c, ArenaAt w p c d ∧ ∀ k, c.foot p k → F k := h

set_option maxHeartbeats 400000 in
theorem anum_width (w : World) (p : Value) (off n : Int) (h : widthB n = false) : Calls Tryz.prog 43 #[p, .int .i64 off, .int .i64 n] w fun e w' => e = .returned (.int .i64 10) ∧ Keeps w w' (fun _ => False) := by
  obtain ⟨h1, h2, h3, h4⟩ := widthB_false h
  have b1 : (n != 1) = true := bne_iff_ne.2 h1
  have b2 : (n != 2) = true := bne_iff_ne.2 h2
  have b3 : (n != 4) = true := bne_iff_ne.2 h3
  have b4 : (n != 8) = true := bne_iff_ne.2 h4
  clear h1 h2 h3 h4
  have K0 : Hid (Keeps w w (fun _ => False)) := Keeps.refl w (fun _ => False)
  go_enter Tryz.func43, Tryz.ntmps43
  go_wp2_with fail
  go_ret
  exact ⟨rfl, K0.out⟩
set_option maxHeartbeats 400000 in
theorem anum_good (w : World) (p : Value) (off n : Int) (t : Bool) (h : widthB n = true) (hg : Calls Tryz.prog 52 #[p, .int .i64 off, .int .i64 n] w fun e w' => BoolPost w t e w') :
    Calls Tryz.prog 43 #[p, .int .i64 off, .int .i64 n] w fun e w' => e = .returned (.int .i64 (if t then 0 else 24)) ∧ Keeps w w' (fun _ => False) := by
  rcases widthB_true h with h | h | h | h
  all_goals subst h
  all_goals go_enter Tryz.func43, Tryz.ntmps43
  all_goals go_wp2_with fail
  all_goals refine hg.mono ?_
  all_goals rintro e w1 ⟨rfl, k1⟩
  all_goals have K1 : Hid (Keeps w w1 (fun _ => False)) := k1
  all_goals clear hg k1
  all_goals cases t
  all_goals go_wp2_with fail
  all_goals go_ret
  all_goals exact ⟨rfl, K1.out⟩

/-- What Load answers. -/
def loadV (d : AD) (off n : Int) : Int × Int := if widthB n then (if d.goodB off n then ((numOf ((d.bs.drop off.toNat).take n.toNat) : Int), 0) else (0, 24)) else (0, 10)
def LoadPost (w : World) (v e0 : Int) (e : Ending) (w' : World) : Prop := e = .returned (.tuple #[.int .u64 v, .int .i64 e0]) ∧ Keeps w w' (fun _ => False)
set_option maxHeartbeats 1000000 in
theorem aload_any {w : World} {p : Nat} {c : AR} {d : AD} (h : ArenaAt w p c d) (hF : d.Fine) (off n : Int) (ho : fitsI off) (hn : fitsI n) :
    Calls Tryz.prog 34 #[.pointer (some ⟨p, 0, none⟩), .int .i64 off, .int .i64 n] w fun e w' => LoadPost w (loadV d off n).1 (loadV d off n).2 e w' := by
  unfold loadV
  cases hw : widthB n
  · have hN := anum_width w (.pointer (some ⟨p, 0, none⟩)) off n hw
    simp only [Bool.false_eq_true, if_false]
    clear h hF
    go_enter Tryz.func34, Tryz.ntmps34
    go_wp2_with fail
    refine hN.mono ?_
    rintro e w1 ⟨rfl, k1⟩
    have K1 : Hid (Keeps w w1 (fun _ => False)) := k1
    clear hN k1
    go_wp2_with fail
    go_ret2
    exact ⟨rfl, K1.out⟩
  · have hN := anum_good w _ off n _ hw (good_any h hF off n ho hn)
    cases hg : d.goodB off n
    · rw [hg] at hN
      simp only [Bool.false_eq_true, if_false, if_true] at hN ⊢
      clear h hF
      go_enter Tryz.func34, Tryz.ntmps34
      go_wp2_with fail
      refine hN.mono ?_
      rintro e w1 ⟨rfl, k1⟩
      have K1 : Hid (Keeps w w1 (fun _ => False)) := k1
      clear hN k1
      go_wp2_with fail
      go_ret2
      exact ⟨rfl, K1.out⟩
    · rw [hg] at hN
      obtain ⟨o, k, rfl, rfl, ho16, hok⟩ := hF.span hg
      simp only [if_true, Int.toNat_natCast] at hN ⊢
      have hld := fun W (kW : Keeps w W (fun _ => False)) => load_yes W c.b c.g d.bs c.sp (h.mem.keeps kW id id) o k hw hok
      have hc2 := fun W (kW : Keeps w W (fun _ => False)) => (h.keeps kW (fun _ _ e => e)).cell2
      have hnum := numOf_lt ((d.bs.drop o).take k)
      clear h hF hg
      go_enter Tryz.func34, Tryz.ntmps34
      go_wp2_with fail
      refine hN.mono ?_
      rintro e w1 ⟨rfl, k1⟩
      have K1 : Hid (Keeps w w1 (fun _ => False)) := k1
      replace hld := hld w1 k1
      replace hc2 := hc2 w1 k1
      clear hN k1
      go_wp2_with fail
      refine hld.mono ?_
      rintro e w2 ⟨rfl, rfl⟩
      clear hld
      go_wp2_with fail
      go_ret2
      exact ⟨rfl, K1.out⟩
end Go.Proofs.YtdhphakjkgfngaaGreatDoor
namespace Go.Proofs.YtdhphakjkgfngaaGreatDoor
open Go.RowKit Go.Shelf

def ErrPost (w : World) (p : Nat) (F : Nat → Prop) (x : Int) (d' : AD) (e : Ending) (w' : World) : Prop := e = .returned (.int .i64 x) ∧ Turned w w' p F d'
theorem turned_wrote {w w1 w2 : World} {p : Nat} {F : Nat → Prop} {c : AR} {d : AD} (h : ArenaAt w p c d) (hfo : ∀ k, c.foot p k → F k) (k1 : Keeps w w1 (fun _ => False)) {bs : List UInt8} {e : Ending} {y : Int} (hw : e = .returned (.int .i64 y) ∧ MemAt 81 5 w2 c.b c.g bs c.sp ∧ Keeps w1 w2 (fun i => i = c.g)) : Turned w w2 p F (d.bytes bs) :=
  ⟨⟨c, (h.keeps k1 (fun _ _ e => e)).wrote hw.2.1 hw.2.2, fun k hk => Or.inl (hfo k hk)⟩, (k1.mono (fun _ _ e => e.elim)).trans hw.2.2 (fun i _ e => hfo i (Or.inr (Or.inr (Or.inl e))))⟩

def storeR (d : AD) (off n : Int) (v : Nat) : Int × AD := if widthB n then (if d.goodB off n then (0, d.bytes (splice d.bs off.toNat (leBytes v n.toNat))) else (24, d)) else (10, d)
def fillR (d : AD) (off n : Int) (u : UInt8) : Int × AD := if d.goodB off n then (0, d.bytes (splice d.bs off.toNat (same n.toNat u))) else (24, d)
def copyR (d : AD) (x y n : Int) : Int × AD := if d.goodB x n && d.goodB y n then (0, d.bytes (splice d.bs x.toNat ((d.bs.drop y.toNat).take n.toNat))) else (24, d)

set_option maxHeartbeats 1000000 in
theorem astore_any {w : World} {p : Nat} {F : Nat → Prop} {d : AD} (hA : Arena w p F d) (hF : d.Fine) (off n : Int) (v : Nat) (ho : fitsI off) (hn : fitsI n) :
    Calls Tryz.prog 41 #[.pointer (some ⟨p, 0, none⟩), .int .i64 off, .int .i64 n, .int .u64 (v : Int)] w fun e w' => ErrPost w p F (storeR d off n v).1 (storeR d off n v).2 e w' := by
  obtain ⟨c, h, hfo⟩ := hA.at
  unfold storeR
  cases hw : widthB n
  · have hN := anum_width w (.pointer (some ⟨p, 0, none⟩)) off n hw
    simp only [Bool.false_eq_true, if_false]
    clear h hF
    go_enter Tryz.func41, Tryz.ntmps41
    go_wp2_with fail
    refine hN.mono ?_
    rintro e w1 ⟨rfl, k1⟩
    have T1 := hide (hA.same k1)
    clear hN k1 hA
    go_wp2_with fail
    go_ret
    exact ⟨rfl, T1.out⟩
  · have hN := anum_good w _ off n _ hw (good_any h hF off n ho hn)
    cases hg : d.goodB off n
    · rw [hg] at hN
      simp only [Bool.false_eq_true, if_false, if_true] at hN ⊢
      clear h hF
      go_enter Tryz.func41, Tryz.ntmps41
      go_wp2_with fail
      refine hN.mono ?_
      rintro e w1 ⟨rfl, k1⟩
      have T1 := hide (hA.same k1)
      clear hN k1 hA
      go_wp2_with fail
      go_ret
      exact ⟨rfl, T1.out⟩
    · rw [hg] at hN
      obtain ⟨o, k, rfl, rfl, ho16, hok⟩ := hF.span hg
      simp only [if_true, Int.toNat_natCast] at hN ⊢
      have hst := fun W (kW : Keeps w W (fun _ => False)) => store_yes W c.b c.g d.bs c.sp (h.mem.keeps kW id id) o k v hw hok
      have hc2 := fun W (kW : Keeps w W (fun _ => False)) => (h.keeps kW (fun _ _ e => e)).cell2
      clear hF hg hA
      go_enter Tryz.func41, Tryz.ntmps41
      go_wp2_with fail
      refine hN.mono ?_
      rintro e w1 ⟨rfl, k1⟩
      replace hst := hst w1 k1
      replace hc2 := hc2 w1 k1
      clear hN
      go_wp2_with fail
      refine hst.mono ?_
      intro e w2 hp
      have T1 := hide (turned_wrote h hfo k1 hp)
      obtain ⟨rfl, _, _⟩ := hp
      clear hst h k1
      go_wp2_with fail
      go_ret
      exact ⟨rfl, T1.out⟩
end Go.Proofs.YtdhphakjkgfngaaGreatDoor
/-
  What the methods of a heap of offsets do.
-/
namespace Go.Proofs.YtdhphakjkgfngaaGreatDoor
open Go.RowKit Go.Shelf

theorem low_len {w : World} {hb : Nat} {v : Value} {xs : List Int} (h : HeapAt w hb v xs) :
    Calls Tryz.prog 68 #[.pointer (some ⟨hb, 0, none⟩)] w fun e w' => e = .returned (.int .i64 (xs.length : Int)) ∧ w' = w := by
  have c0 := h.cell
  rcases Go.Joins.ownsRow_forms h.row with ⟨hv, hn⟩ | ⟨g, cap, hv⟩
  · subst hv
    rw [hn]
    clear h
    go_enter Tryz.func68, Tryz.ntmps68
    go_wp2
    go_ret
    exact ⟨rfl, rfl⟩
  · subst hv
    clear h
    go_enter Tryz.func68, Tryz.ntmps68
    go_wp2
    go_ret
    exact ⟨rfl, rfl⟩

set_option maxHeartbeats 1000000 in
theorem low_less {w : World} {hb : Nat} {v : Value} {xs : List Int} (h : HeapAt w hb v xs) (i j : Nat) (hi : i < xs.length) (hj : j < xs.length) (hl : xs.length ≤ 134217728) :
    Calls Tryz.prog 116 #[.pointer (some ⟨hb, 0, none⟩), .int .i64 (i : Int), .int .i64 (j : Int)] w fun e w' => e = .returned (.bool (decide (at0 xs i < at0 xs j))) ∧ ∃ q, w' = w.drewN q := by
  have c0 := h.cell
  obtain ⟨g, cap, rfl, _, _, hc, _⟩ := h.form (by omega)
  have ci := hc i hi
  have cj := hc j hj
  clear h hc
  go_enter Tryz.func116, Tryz.ntmps116
  go_wp2
  go_quiet (fail)
  go_wp2
  go_ret
  exact ⟨rfl, nq, rfl⟩
end Go.Proofs.YtdhphakjkgfngaaGreatDoor
namespace Go.Proofs.YtdhphakjkgfngaaGreatDoor
open Go.RowKit Go.Shelf

def SwapPost (w : World) (hb : Nat) (v : Value) (xs : List Int) (e : Ending) (w' : World) : Prop := e = .returned (.tuple #[]) ∧ HeapAt w' hb v xs ∧ Keeps w w' (fun k => v.ownBlock = some k)

set_option maxHeartbeats 2000000 in
theorem low_swap {w : World} {hb : Nat} {v : Value} {xs : List Int} (h : HeapAt w hb v xs) (i j : Nat) (hi : i < xs.length) (hj : j < xs.length) (hl : xs.length ≤ 134217728) :
    Calls Tryz.prog 119 #[.pointer (some ⟨hb, 0, none⟩), .int .i64 (i : Int), .int .i64 (j : Int)] w fun e w' => SwapPost w hb v (sw xs i j) e w' := by
  have c0 := h.cell
  obtain ⟨g, cap, rfl, _, _, hc, hf⟩ := h.form (by omega)
  have ci := hc i hi
  have cj := hc j hj
  have fi := hf i
  have fj := hf j
  obtain ⟨v', hy'⟩ := cell?_setCell_some (w := w) (p := ⟨g, i, none⟩) (x := .int .i64 (at0 xs j)) (q := ⟨g, j, none⟩) cj
  have hfin : ∀ q, SwapPost w hb (.slice (some ⟨g, 0, none⟩) xs.length cap) (sw xs i j) (.returned (.tuple #[])) (((w.setCell ⟨g, i, none⟩ (.int .i64 (at0 xs j))).setCell ⟨g, j, none⟩ (.int .i64 (at0 xs i))).drewN q) := fun q => by
    have k1 : Keeps w ((w.setCell ⟨g, i, none⟩ (.int .i64 (at0 xs j))).setCell ⟨g, j, none⟩ (.int .i64 (at0 xs i))) (fun k => (Value.slice (some ⟨g, 0, none⟩) xs.length cap).ownBlock = some k) := ((Keeps.refl w (fun k => (Value.slice (some ⟨g, 0, none⟩) xs.length cap).ownBlock = some k)).setCell ⟨g, i, none⟩ (fun _ => rfl) _).setCell ⟨g, j, none⟩ (fun _ => rfl) _
    exact ⟨rfl, (h.swapped i j).keeps ((Keeps.refl _ (fun _ => False)).drewN q) id (fun _ _ => id), k1.drewN q⟩
  have HF := hide hfin
  clear hfin h hc hf
  go_enter Tryz.func119, Tryz.ntmps119
  go_wp2
  go_region
  all_goals (try go_wp2)
  all_goals go_end0
  all_goals exact HF.out 1
end Go.Proofs.YtdhphakjkgfngaaGreatDoor
namespace Go.Proofs.YtdhphakjkgfngaaGreatDoor
open Go.RowKit Go.Shelf

/-- A builtin append whose run is known, in a region that draws. -/
theorem step_append_run {P : Program} {w : World} {ops : Array Oper} {o : Oper} {a : Act} {K : Act → World → Prop} {Q : Exit → Act → World → Prop} {E : Prop} (hgd : o.guard = none) (s x : Operand) (t : TypeId)
    (ho : o.op = .call { callee := .builtin .append, args := #[s, x], argTypes := #[t, t] }) {v u v' : Value} {w' : World} (hs : a.eval s = v) (hx : a.eval x = u)
    (hrun : ∀ ty, (Builtin.append_ #[t, t] ty #[v, u]).run P w = .ok v' w') (h : K (a.put o.dst v') w') :
    if Region.wanted o (yielded ops a.tmps) = true then Oper.wp P o a w K Q else E := by
  have hw : Region.wanted o (yielded ops a.tmps) = true := by simp [Region.wanted, hgd]
  rw [if_pos hw]
  unfold Oper.wp execOp
  simp only [ho, resolve, invoke, builtin, Sem.run_bind, Sem.run_pure, Result.andThen_ok, List.map_toArray, List.map_cons, List.map_nil, hs, hx, hrun]
  exact h

/-- A heap turned to another: its row may have moved. -/
def HeapTurned (w : World) (hb : Nat) (v : Value) (ys : List Int) (w' : World) : Prop :=
  ∃ v', HeapAt w' hb v' ys ∧ Keeps w w' (fun k => k = hb ∨ v.ownBlock = some k) ∧ (v'.ownBlock = v.ownBlock ∨ ∃ k, v'.ownBlock = some k ∧ w.heap.size ≤ k)

set_option maxRecDepth 100000 in
set_option maxHeartbeats 2000000 in
theorem low_push {w : World} {hb : Nat} {v : Value} {xs : List Int} (h : HeapAt w hb v xs) (x : Int) (hl : xs.length ≤ 134217728) :
    Calls Tryz.prog 118 #[.pointer (some ⟨hb, 0, none⟩), .iface 3 (.int .i64 x)] w fun e w' => e = .returned (.tuple #[]) ∧ HeapTurned w hb v (xs ++ [x]) w' := by
  have c0 := h.cell
  have cA : (w.alloc (.cells #[.int .i64 x] 3)).cell? ⟨hb, 0, none⟩ = some v := (h.keeps ((Keeps.refl w (fun _ => False)).alloc (.cells #[.int .i64 x] 3)) id (fun _ _ => id)).cell
  have k3 : Keeps w (w.drew.alloc (.cells #[cellI x] 3)) (fun _ => False) := ((Keeps.refl w (fun _ => False)).drewN 1).alloc _
  have h3 := h.keeps k3 id (fun _ _ => id)
  obtain ⟨g4, cap4, w4, hap, beg4, k4, hloc⟩ := append_one (P := Tryz.prog) 102 3 (.int .i64 0) 8 Tryz.underlying102 Tryz.infoI rfl h3.row (heap_alloc_new w.drew (.cells #[cellI x] 3)) rfl (by omega) (by unfold maxLen; omega) (Nat.zero_le _)
  have hp4 := (k4.block hb h3.lt (fun e => h3.ne e rfl)).trans h3.hp
  have c4 : w4.cell? ⟨hb, 0, none⟩ = some v := cell_of_one hp4
  have f4 : w4.frozen? ⟨hb, 0, none⟩ = false := free_of_one hp4
  have hfin : HeapTurned w hb v (xs ++ [x]) (w4.setCell ⟨hb, 0, none⟩ (.slice (some ⟨g4, 0, none⟩) (xs.length + 1) cap4)) := by
    have hsz : w.heap.size ≤ w.drew.heap.size := Nat.le_refl _
    have hne : hb ≠ g4 := fun e => by
      rcases hloc with e2 | e2
      · exact h.ne e2 e
      · have := h3.lt
        have := h.lt
        simp at e2
        have : g4 = w.heap.size + 1 := e2
        omega
    refine ⟨.slice (some ⟨g4, 0, none⟩) (xs.length + 1) cap4, ⟨one_setCell hp4, ?_⟩, ?_, ?_⟩
    · have := ownsRow_setCell_other beg4 (a := ⟨hb, 0, none⟩) (by simp [Value.ownBlock]; exact fun e => hne e.symm) (.slice (some ⟨g4, 0, none⟩) (xs.length + 1) cap4)
      simpa using this
    · exact ((k3.mono (S1 := fun k => k = hb ∨ v.ownBlock = some k) (fun _ _ e => e.elim)).trans k4 (fun _ _ e => Or.inr e)).setCell _ (fun _ => Or.inl rfl) _
    · rcases hloc with e | e
      · exact Or.inl (by rw [e]; rfl)
      · refine Or.inr ⟨g4, rfl, ?_⟩
        simp at e
        have : g4 = w.heap.size + 1 := e
        omega
  have HF := hide hfin
  clear hfin h h3 k3 k4 beg4 hloc hp4
  have hta : ∀ w', Sem.run Tryz.prog (Instr.typeAssert (.iface 3 (.int .i64 x)) 20 3 false) w' = .ok (.int .i64 x) w' := fun _ => by kernel_rfl
  unfold cellI at hap
  go_enter Tryz.func118, Tryz.ntmps118
  go_wp2
  go_region_law (refine step_append_run (by rfl) _ _ 102 (by rfl) (by rfl) (by rfl) hap ?_)
  all_goals (try go_wp2)
  all_goals go_end0
  all_goals exact ⟨rfl, HF.out⟩
end Go.Proofs.YtdhphakjkgfngaaGreatDoor
namespace Go.Proofs.YtdhphakjkgfngaaGreatDoor
open Go.RowKit Go.Shelf

set_option maxRecDepth 100000 in
set_option maxHeartbeats 2000000 in
theorem low_pop {w : World} {hb : Nat} {v : Value} {ys : List Int} {m : Int} (h : HeapAt w hb v (ys ++ [m])) (hl : ys.length ≤ 134217728) :
    Calls Tryz.prog 117 #[.pointer (some ⟨hb, 0, none⟩)] w fun e w' => e = .returned (.iface 3 (.int .i64 m)) ∧ HeapTurned w hb v ys w' := by
  have c0 := h.cell
  have f0 := h.frozen
  obtain ⟨g, cap, hv, hcap, hm, hc, _⟩ := h.form (by simp)
  have hlen : (ys ++ [m]).length = ys.length + 1 := by simp
  rw [hlen] at hv hcap
  subst hv
  have cm := hc ys.length (by simp)
  have hat : at0 (ys ++ [m]) ys.length = m := by simp [at0]
  rw [hat] at cm
  unfold maxLen at hm
  have hfin : HeapTurned w hb (.slice (some ⟨g, 0, none⟩) (ys.length + 1) cap) ys (w.setCell ⟨hb, 0, none⟩ (.slice (some ⟨g, 0, none⟩) ys.length cap)) := by
    have hne : hb ≠ g := h.ne rfl
    have hr := h.row
    rw [hlen, List.map_append] at hr
    have hr2 := ownsRow_pop (by simp) hr
    refine ⟨_, ⟨one_setCell h.hp, ownsRow_setCell_other hr2 (a := ⟨hb, 0, none⟩) (by simp [Value.ownBlock]; exact fun e => hne e.symm) _⟩, ?_, Or.inl rfl⟩
    exact (Keeps.refl w (fun k => k = hb ∨ (Value.slice (some ⟨g, 0, none⟩) (ys.length + 1) cap).ownBlock = some k)).setCell _ (fun _ => Or.inl rfl) _
  have HF := hide hfin
  have HH := hide h
  clear hfin h hc hat hlen
  go_enter Tryz.func117, Tryz.ntmps117
  go_wp2
  go_ret
  exact ⟨rfl, HF.out⟩
end Go.Proofs.YtdhphakjkgfngaaGreatDoor
namespace Go.Proofs.YtdhphakjkgfngaaGreatDoor
open Go.RowKit Go.Shelf

abbrev lowP (hb : Nat) : Value := .pointer (some ⟨hb, 0, none⟩)
theorem reach_less (hb : Nat) (w : World) : Sem.run Tryz.prog (method (Tryz.prog.types.size + 100) 101 (.pointer (some ⟨hb, 0, none⟩)) "Less") w = .ok (116, .pointer (some ⟨hb, 0, none⟩)) w := by kernel_rfl
theorem reach_swap (hb : Nat) (w : World) : Sem.run Tryz.prog (method (Tryz.prog.types.size + 100) 101 (.pointer (some ⟨hb, 0, none⟩)) "Swap") w = .ok (119, .pointer (some ⟨hb, 0, none⟩)) w := by kernel_rfl
theorem reach_len (hb : Nat) (w : World) : Sem.run Tryz.prog (method (Tryz.prog.types.size + 100) 101 (.pointer (some ⟨hb, 0, none⟩)) "Len") w = .ok (68, .pointer (some ⟨hb, 0, none⟩)) w := by kernel_rfl
theorem reach_push (hb : Nat) (w : World) : Sem.run Tryz.prog (method (Tryz.prog.types.size + 100) 101 (.pointer (some ⟨hb, 0, none⟩)) "Push") w = .ok (118, .pointer (some ⟨hb, 0, none⟩)) w := by kernel_rfl
theorem reach_pop (hb : Nat) (w : World) : Sem.run Tryz.prog (method (Tryz.prog.types.size + 100) 101 (.pointer (some ⟨hb, 0, none⟩)) "Pop") w = .ok (117, .pointer (some ⟨hb, 0, none⟩)) w := by kernel_rfl
theorem ent_less : Enters Tryz.prog 116 := enters_of Tryz.func116 (by kernel_rfl) rfl
theorem ent_swap : Enters Tryz.prog 119 := enters_of Tryz.func119 (by kernel_rfl) rfl
theorem ent_len : Enters Tryz.prog 68 := enters_of Tryz.func68 (by kernel_rfl) rfl
theorem ent_push : Enters Tryz.prog 118 := enters_of Tryz.func118 (by kernel_rfl) rfl
theorem ent_pop : Enters Tryz.prog 117 := enters_of Tryz.func117 (by kernel_rfl) rfl

def UpPost (w : World) (hb : Nat) (v : Value) (xs : List Int) (e : Ending) (w' : World) : Prop := e = .returned (.tuple #[]) ∧ ∃ ys : List Int, ys.Perm xs ∧ Heapy ys.length ys ∧ HeapAt w' hb v ys ∧ Keeps w w' (fun k => v.ownBlock = some k)
def UpRel (w : World) (hb : Nat) (v : Value) (xs : List Int) (j : Nat) (wr : World) : Prop := ∃ ys : List Int, j < ys.length ∧ ys.Perm xs ∧ UpInv ys j ∧ HeapAt wr hb v ys ∧ Keeps w wr (fun k => v.ownBlock = some k)

set_option maxRecDepth 100000 in
set_option maxHeartbeats 2000000 in
theorem heap_up {w : World} {hb : Nat} {v : Value} {xs : List Int} {j0 : Nat} (h : UpRel w hb v xs j0 w) (hl : xs.length ≤ 134217728) :
    Calls Tryz.prog 76 #[.iface 101 (.pointer (some ⟨hb, 0, none⟩)), .int .i64 (j0 : Int)] w fun e w' => UpPost w hb v xs e w' := by
  have mL := reach_less hb
  have mS := reach_swap hb
  have eL := ent_less
  have eS := ent_swap
  unfold Enters at eL eS
  have H0 := hide h
  clear h
  go_enter Tryz.func76, Tryz.ntmps76
  go_wp2
  go_loopw [1] (fun vj wr => ∃ j : Nat, vj = .int .i64 (j : Int) ∧ UpRel w hb v xs j wr) (fun vj _ => (intOf vj).toNat)
  case atStart => exact ⟨j0, rfl, H0.out⟩
  case round =>
    obtain ⟨j, rfl, ys, hj, hperm, hinv, hat, hk⟩ := hrel
    have hlen := hperm.length_eq
    have P0 := hide hperm
    have I0 := hide hinv
    clear hperm hinv
    rcases Nat.eq_zero_or_pos j with hz | hpos
    · subst hz
      have hfin : UpPost w hb v xs (.returned (.tuple #[])) wr := ⟨rfl, ys, P0.out, I0.out.stop (Or.inl rfl), hat, hk⟩
      have HF := hide hfin
      clear hfin hat hk hlen hj I0 P0 H0
      go_wp2_with fail
      go_end0
      exact HF.out
    · obtain ⟨i, hi⟩ : ∃ i, i = (j - 1) / 2 := ⟨_, rfl⟩
      have hij : i < j := by omega
      have hil : i < ys.length := by omega
      have hq : Int.tdiv ((j : Int) - 1) 2 = (i : Int) := by
        rw [Int.tdiv_eq_ediv_of_nonneg (by omega)]
        omega
      have hne : ((i : Int) == (j : Int)) = false := by simp; omega
      have hbl : j ≤ 134217728 := by omega
      have hL := low_less hat j i hj hil (by omega)
      by_cases hlt : at0 ys j < at0 ys i
      · have hstep : Hid (∀ q, Calls Tryz.prog 119 #[.pointer (some ⟨hb, 0, none⟩), .int .i64 (i : Int), .int .i64 (j : Int)] (wr.drewN q) fun e w' => e = .returned (.tuple #[]) ∧ UpRel w hb v xs i w') := fun q => by
          have kq : Keeps wr (wr.drewN q) (fun _ => False) := (Keeps.refl wr _).drewN q
          refine (low_swap (hat.keeps kq id (fun _ _ => id)) i j hil hj (by omega)).mono ?_
          rintro e w' ⟨rfl, h1, h2⟩
          refine ⟨rfl, sw ys i j, by rw [sw_length]; exact hil, (sw_perm hil hj).trans P0.out, ?_, h1, (hk.trans kq (fun _ _ e => e.elim)).trans h2 (fun _ _ e => e)⟩
          subst hi
          exact I0.out.step hj hpos hlt
        rw [decide_eq_true hlt] at hL
        clear hat hk hlen hj I0 P0 H0 hlt hil hi
        go_wp2_with fail
        refine hL.mono ?_
        rintro e w1 ⟨rfl, q, rfl⟩
        have hS := hstep.out q
        clear hL hstep
        go_wp2_with fail
        refine hS.mono ?_
        rintro e w2 ⟨rfl, hr⟩
        have HR := hide hr
        clear hS hr
        go_wp2_with fail
        exact ⟨⟨i, rfl, HR.out⟩, by simp [intOf]; omega⟩
      · have hfin : ∀ q, UpPost w hb v xs (.returned (.tuple #[])) (wr.drewN q) := fun q => by
          have kq : Keeps wr (wr.drewN q) (fun _ => False) := (Keeps.refl wr _).drewN q
          refine ⟨rfl, ys, P0.out, I0.out.stop (Or.inr ?_), hat.keeps kq id (fun _ _ => id), hk.trans kq (fun _ _ e => e.elim)⟩
          subst hi
          omega
        have HF := hide hfin
        rw [decide_eq_false hlt] at hL
        clear hfin hat hk hlen hj I0 P0 H0 hlt hil hi
        go_wp2_with fail
        refine hL.mono ?_
        rintro e w1 ⟨rfl, q, rfl⟩
        clear hL
        go_wp2_with fail
        go_end0
        exact HF.out q
end Go.Proofs.YtdhphakjkgfngaaGreatDoor
namespace Go.Proofs.YtdhphakjkgfngaaGreatDoor
open Go.RowKit Go.Shelf

def PushPost (w : World) (hb : Nat) (v : Value) (xs : List Int) (e : Ending) (w' : World) : Prop := e = .returned (.tuple #[]) ∧ ∃ ys : List Int, ys.Perm xs ∧ Heapy ys.length ys ∧ HeapTurned w hb v ys w'

theorem HeapTurned.then {w w1 w2 : World} {hb : Nat} {v v1 : Value} {ys : List Int} (k1 : Keeps w w1 (fun k => k = hb ∨ v.ownBlock = some k)) (l1 : v1.ownBlock = v.ownBlock ∨ ∃ k, v1.ownBlock = some k ∧ w.heap.size ≤ k)
    (h2 : HeapAt w2 hb v1 ys) (k2 : Keeps w1 w2 (fun k => v1.ownBlock = some k)) : HeapTurned w hb v ys w2 := by
  refine ⟨v1, h2, k1.trans k2 (fun i hi e => ?_), l1⟩
  rcases l1 with l | ⟨k, l, hk⟩
  · exact Or.inr (l ▸ e)
  · rw [l] at e
    cases e
    omega

set_option maxRecDepth 100000 in
set_option maxHeartbeats 2000000 in
theorem heap_push {w : World} {hb : Nat} {v : Value} {xs : List Int} (h : HeapAt w hb v xs) (hh : Heapy xs.length xs) (x : Int) (hl : xs.length < 134217728) :
    Calls Tryz.prog 63 #[.iface 101 (.pointer (some ⟨hb, 0, none⟩)), .iface 3 (.int .i64 x)] w fun e w' => PushPost w hb v (xs ++ [x]) e w' := by
  have mP := reach_push hb
  have mL := reach_len hb
  have eP := ent_push
  have eL := ent_len
  unfold Enters at eP eL
  have hP := low_push h x (by omega)
  clear h
  go_enter Tryz.func63, Tryz.ntmps63
  go_wp2_with fail
  refine hP.mono ?_
  rintro e w1 ⟨rfl, v1, h1, k1, l1⟩
  clear hP
  have hL := low_len h1
  have hlen : (((xs ++ [x]).length : Nat) : Int) = (xs.length : Int) + 1 := by simp
  rw [hlen] at hL
  have hU : Hid (Calls Tryz.prog 76 #[.iface 101 (.pointer (some ⟨hb, 0, none⟩)), .int .i64 (xs.length : Int)] w1 fun e w' => PushPost w hb v (xs ++ [x]) e w') := by
    refine (heap_up (xs := xs ++ [x]) (j0 := xs.length) ⟨xs ++ [x], by simp, List.Perm.refl _, UpInv.start hh, h1, Keeps.refl _ _⟩ (by simp; omega)).mono ?_
    rintro e w2 ⟨rfl, ys, p2, hy, h2, k2⟩
    exact ⟨rfl, ys, p2, hy, HeapTurned.then k1 l1 h2 k2⟩
  clear h1 k1 l1 hlen hh
  go_wp2_with fail
  refine hL.mono ?_
  rintro e w2 ⟨rfl, rfl⟩
  have hU := hU.out
  clear hL
  go_wp2_with fail
  refine hU.mono ?_
  intro e w3 hp
  have he := hp.1
  subst he
  have HP := hide hp
  clear hU hp
  go_wp2_with fail
  go_end0
  exact HP.out
end Go.Proofs.YtdhphakjkgfngaaGreatDoor
