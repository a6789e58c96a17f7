import Derived.Great.BuildSlice
import Derived.Laws.Bits64
import Derived.Deep.QuietTactic
import Derived.BigQuiet
import Derived.Shelf.Abstract
import Derived.RegionTactic
import Derived.Deep.RegionLaw
import Derived.Deep.AppendLies
import Derived.WalkSmall
import Derived.Test.YteglefnfnkgpcaaRn4
namespace Go.Proofs.Yteglefnfnkgpcaa
open Go.RowKit Go.Shelf

set_option maxHeartbeats 400000 in
theorem anew_no (n : Int) (w : World) (h : n < 0 ∨ 2097152 < n) :
    Calls Try.prog 8 #[.int .i64 n] w fun e w' => e = .returned (.tuple #[.pointer none, .int .i64 20]) ∧ w' = w := by
  rcases h with h | h
  · go_enter Try.func8, Try.ntmps8
    go_wp2
    go_ret2
    exact ⟨rfl, rfl⟩
  · have h0 : ¬ n < 0 := by omega
    go_enter Try.func8, Try.ntmps8
    go_wp2
    go_ret2
    exact ⟨rfl, rfl⟩

/-- An arena without blocks. -/
def AD.fresh (limit : Nat) : AD := { limit := limit, used := 0, bs := zeros 16, L := [], lv := fun _ => none, fm := fun _ => none }
theorem AD.fresh_fine {limit : Nat} (h : limit ≤ 2097152) : (AD.fresh limit).Fine :=
  { tiles := by simp [AD.fresh, Tiles, zeros_length]
    live := fun x s hs => by simp [AD.fresh] at hs
    most := by simp [AD.fresh, zeros_length]
    lim := h
    use := Nat.zero_le _
    sum := rfl
    free := ⟨fun _ _ h => (nomatch h), fun _ _ h => (nomatch h), fun _ _ h => (nomatch h), fun _ h => (nomatch h)⟩ }
def ANewPost (w : World) (limit : Nat) (e : Ending) (w' : World) : Prop :=
  ∃ p, e = .returned (.tuple #[.pointer (some ⟨p, 0, none⟩), .int .i64 0]) ∧ Arena w' p (fun k => w.heap.size ≤ k) (AD.fresh limit) ∧ Keeps w w' (fun _ => False)

set_option maxHeartbeats 1000000 in
theorem anew_yes (n : Nat) (w : World) (h : n ≤ 2097152) :
    Calls Try.prog 8 #[.int .i64 (n : Int)] w fun e w' => ANewPost w n e w' := by
  have h0 : ¬ (n : Int) < 0 := by omega
  have h1 : ¬ (2097152 : Int) < (n : Int) := by omega
  have hnew := new_yes 16 w (by omega)
  have hmm := @run_makeMap Try.prog
  go_enter Try.func8, Try.ntmps8
  go_wp2_with fail
  refine hnew.mono ?_
  rintro e w1 ⟨b, g, hb, hg, rfl, m, k⟩
  clear hnew
  have hfin : ANewPost w n (.returned (.tuple #[.pointer (some ⟨w1.heap.size + 1 + 1, 0, none⟩), .int .i64 0])) (((w1.alloc (.map #[] 0)).alloc (.map #[] 0)).alloc (.cells #[.int .i64 (n : Int), .int .i64 0, .pointer (some ⟨b, 0, none⟩), .slice none 0 0, .map (some w1.heap.size), .map (some (w1.heap.size + 1))] 72)) := by
    have k1 : Keeps w1 (w1.alloc (.map #[] 0)) (fun _ => False) := (Keeps.refl _ _).alloc _
    have k2 : Keeps (w1.alloc (.map #[] 0)) ((w1.alloc (.map #[] 0)).alloc (.map #[] 0)) (fun _ => False) := (Keeps.refl _ _).alloc _
    have k3 : Keeps ((w1.alloc (.map #[] 0)).alloc (.map #[] 0)) (((w1.alloc (.map #[] 0)).alloc (.map #[] 0)).alloc (.cells #[.int .i64 (n : Int), .int .i64 0, .pointer (some ⟨b, 0, none⟩), .slice none 0 0, .map (some w1.heap.size), .map (some (w1.heap.size + 1))] 72)) (fun _ => False) := (Keeps.refl _ _).alloc _
    have e1 : (w1.alloc (.map #[] 0)).heap.size = w1.heap.size + 1 := by simp
    have e2 : ((w1.alloc (.map #[] 0)).alloc (.map #[] 0)).heap.size = w1.heap.size + 1 + 1 := by simp
    have K := ((k.trans k1 (fun _ _ e => e)).trans k2 (fun _ _ e => e)).trans k3 (fun _ _ e => e)
    have hs := k.size
    have m1 := MapTo.made (c := cInt) Try.prog w1
    have m2 := MapTo.made (c := cPtr) Try.prog (w1.alloc (.map #[] 0))
    rw [e1] at m2
    refine ⟨w1.heap.size + 1 + 1, rfl, ⟨{ b := b, g := g, bl := w1.heap.size, bf := w1.heap.size + 1, v := .slice none 0 0, sp := [], nl := 0, nf := 0, hb := fun _ => none, fv := fun _ => .slice none 0 0 }, ⟨?_, ?_, ?_, ?_, ?_, by simp, ⟨fun _ => rfl, fun _ _ _ e => (nomatch e), fun _ _ _ e => (nomatch e), fun _ _ _ _ _ e => (nomatch e)⟩⟩, ?_⟩, K⟩
    · have := heap_alloc_new ((w1.alloc (.map #[] 0)).alloc (.map #[] 0)) (.cells #[.int .i64 (n : Int), .int .i64 0, .pointer (some ⟨b, 0, none⟩), .slice none 0 0, .map (some w1.heap.size), .map (some (w1.heap.size + 1))] 72)
      rw [e2] at this
      exact this
    · exact ((m.keeps k1 id id).keeps k2 id id).keeps k3 id id
    · exact World.ownsRow_nil _ _ _ _
    · exact (m1.keeps k2 id).keeps k3 id
    · exact m2.keeps k3 id
    · intro x hx
      rcases hx with rfl | rfl | rfl | rfl | rfl | e | ⟨_, _, e, _⟩
      · omega
      · exact hb
      · exact hg
      · exact hs
      · show w.heap.size ≤ w1.heap.size + 1
        omega
      · cases e
      · cases e
  clear k m hb hg
  go_wp2_with fail
  go_ret2
  exact hfin
end Go.Proofs.Yteglefnfnkgpcaa
namespace Go.Proofs.Yteglefnfnkgpcaa
open Go.RowKit Go.Shelf

/-- While nothing was freed. -/
def newT (d : AD) (c : Nat) : Nat × AD := (d.bs.length, d.took c)
def newG (d : AD) : Prop := (∀ x, d.fm x = none) ∧ d.bs.length = 16 + d.used
theorem newG_fresh (limit : Nat) : newG (AD.fresh limit) := ⟨fun _ => rfl, by simp [AD.fresh, zeros_length]⟩
theorem newOK : TakeOK newT newG where
  call := fun {w p F d} c hG hF h _ _ h3 => by
    have := hF.lim
    have := hG.2
    exact take_new h hF c (by omega) (hG.1 _)
  fine := fun {d} c hG hF h1 _ h3 => by
    have h1 := (show ∀ c ∈ classList, 16 ≤ c by decide) c h1
    have := hF.lim
    have h4 := hG.2
    refine ⟨hF.took (by omega) (by omega) h3, ⟨hG.1, ?_⟩, rfl, rfl, by simp [newT]; omega⟩
    show (d.bs ++ zeros c).length = 16 + (d.used + c)
    rw [List.length_append, zeros_length]
    omega

def AllocPost (w : World) (p : Nat) (F : Nat → Prop) (o : Nat) (d' : AD) (e : Ending) (w' : World) : Prop := e = .returned (.tuple #[.int .i64 (o : Int), .int .i64 0]) ∧ Turned w w' p F d'

set_option maxHeartbeats 1000000 in
theorem alloc_yes {T : AD → Nat → Nat × AD} {G : AD → Prop} (hT : TakeOK T G) {w : World} {p : Nat} {F : Nat → Prop} {d : AD} (h : Arena w p F d) (hFl : ∀ k, F k → k < w.heap.size) (hG : G d) (hF : d.Fine) (n : Nat) (h1 : 1 ≤ n) (h2 : n ≤ 1048576) (h3 : d.used + classN n ≤ d.limit) :
    Calls Try.prog 17 #[.pointer (some ⟨p, 0, none⟩), .int .i64 (n : Int)] w fun e w' => AllocPost w p F (T d (classN n)).1 (T d (classN n)).2 e w' := by
  have hcn : classI (n : Int) = (classN n : Int) := by unfold classI; rw [if_pos (by omega)]; simp
  have hcl := class_le n h1 h2
  have hA : Calls Try.prog 12 #[.pointer (some ⟨p, 0, none⟩), .slice (some ⟨w.heap.size, 0, none⟩) 1 1] (w.alloc (.cells #[.int .i64 (n : Int)] 3)) fun e w' => AllPost (w.alloc (.cells #[.int .i64 (n : Int)] 3)) p F [((T d (classN n)).1 : Int)] (T d (classN n)).2 e w' := by
    have k0 : Keeps w (w.alloc (.cells #[.int .i64 (n : Int)] 3)) (fun _ => False) := (Keeps.refl _ _).alloc _
    have := allocAll_some hT (h.keeps k0 (fun _ _ _ e => e)) hG hF w.heap.size 0 1 [(n : Int)] (fun j hj => by
      have hj0 : j = 0 := by simpa using hj
      subst hj0
      simp only [World.cell?, heap_alloc_new]
      simp) (fun e => by have := hFl _ e; omega) (by simp) (by simp) (fun z hz => by simp at hz; omega) (by
      simp only [fitsIn]
      rw [if_neg (by rw [hcn]; omega)]
      rfl)
    simpa [takeAll, hcn] using this
  have hoff := (hT.fine (classN n) hG hF (class_in n h1 h2) hcl.2.2.1 h3).2.2.2.2
  have hs0 : ∀ W' p' F' x d' e, AllPost (w.alloc (.cells #[.int .i64 (n : Int)] 3)) p' F' [x] d' e W' → ∃ hh, w.heap.size ≤ hh ∧ e = .returned (.tuple #[.slice (some ⟨hh, 0, none⟩) 1 1, .int .i64 0]) ∧ W'.cell? ⟨hh, 0, none⟩ = some (.int .i64 x) ∧ Turned w W' p' F' d' := by
    rintro W' p' F' x d' e ⟨hh, a1, a2, a3, a4, a5⟩
    have k0 : Keeps w (w.alloc (.cells #[.int .i64 (n : Int)] 3)) F' := (Keeps.refl _ _).alloc _
    refine ⟨hh, by simp at a1; omega, a2, ?_, a4.mono (fun i _ hi => ?_), k0.trans a5 (fun _ _ e => e)⟩
    · simp [World.cell?, a3, cellI]
    · rcases hi.1 with hi | hi
      · exact Or.inl hi
      · exact Or.inr (by simp at hi; omega)
  generalize (T d (classN n)).1 = off at *
  generalize (T d (classN n)).2 = d2 at *
  clear h hG hF hcl h3 hcn
  go_enter Try.func17, Try.ntmps17
  go_wp2_with fail
  refine hA.mono ?_
  intro e w2 hp2
  obtain ⟨hh, _, rfl, hc, ht⟩ := hs0 _ _ _ _ _ _ hp2
  clear hA hs0 hp2
  go_wp2_with fail
  go_ret2
  exact ⟨rfl, ht⟩
end Go.Proofs.Yteglefnfnkgpcaa
/-
  Plain laws on numbers of bytes, the lowest first.
-/
namespace Go.Proofs.Yteglefnfnkgpcaa
open Go.RowKit

/-- The number of the bytes, the lowest first. -/
def numOf : List UInt8 → Nat
  | [] => 0
  | x :: r => x.toNat + 256 * numOf r
theorem numOf_lt : ∀ l : List UInt8, numOf l < 256 ^ l.length
  | [] => by simp [numOf]
  | x :: r => by
    have h := numOf_lt r
    have hx := x.toNat_lt
    simp only [numOf, List.length_cons, Nat.pow_succ]
    omega
theorem numOf_snoc (l : List UInt8) (x : UInt8) : numOf (l ++ [x]) = numOf l + x.toNat * 256 ^ l.length := by
  induction l with
  | nil => simp [numOf]
  | cons y r ih =>
    simp only [List.cons_append, numOf, ih, List.length_cons, Nat.pow_succ, Nat.mul_add]
    have : 256 * (x.toNat * 256 ^ r.length) = x.toNat * (256 ^ r.length * 256) := by rw [Nat.mul_comm, Nat.mul_assoc]
    omega
theorem numOf_append (a b : List UInt8) : numOf (a ++ b) = numOf a + 256 ^ a.length * numOf b := by
  induction a with
  | nil => simp [numOf]
  | cons y r ih =>
    simp only [List.cons_append, numOf, ih, List.length_cons, Nat.pow_succ, Nat.mul_add]
    have : 256 * (256 ^ r.length * numOf b) = 256 ^ r.length * 256 * numOf b := by rw [← Nat.mul_assoc, Nat.mul_comm 256]
    omega
theorem pow_byte (k : Nat) : (2 : Nat) ^ (8 * k) = 256 ^ k := by rw [Nat.pow_mul]

theorem bits_or_nat (a b : Nat) (ha : a < 18446744073709551616) (hb : b < 18446744073709551616) : bits .or .u64 (a : Int) (b : Int) = ((a ||| b : Nat) : Int) := by
  have hx : a ||| b < 2 ^ 64 := Nat.or_lt_two_pow (by omega) (by omega)
  have h1 : (BitVec.ofInt 64 (a : Int)).toNat = a := by
    rw [BitVec.ofInt_natCast, BitVec.toNat_ofNat]
    exact Nat.mod_eq_of_lt (by omega)
  have h2 : (BitVec.ofInt 64 (b : Int)).toNat = b := by
    rw [BitVec.ofInt_natCast, BitVec.toNat_ofNat]
    exact Nat.mod_eq_of_lt (by omega)
  show IntKind.u64.wrap ((BitVec.ofInt 64 (a : Int) ||| BitVec.ofInt 64 (b : Int)).toNat : Int) = _
  rw [BitVec.toNat_or, h1, h2, IntKind.wrap_u64]
  omega
theorem or_step (N k : Nat) (x : UInt8) (hN : N < 256 ^ k) (hk : k < 8) : bits .or .u64 (N : Int) (IntKind.u64.wrap ((x.toNat : Int) * 2 ^ (8 * k))) = ((N + x.toNat * 256 ^ k : Nat) : Int) := by
  have hx := x.toNat_lt
  have hp : (256 : Nat) ^ k ≤ 256 ^ 7 := Nat.pow_le_pow_right (by omega) (by omega)
  have hm : x.toNat * 256 ^ k ≤ 255 * 256 ^ 7 := Nat.mul_le_mul (by omega) hp
  have e : ((x.toNat : Int) * 2 ^ (8 * k)) = ((x.toNat * 256 ^ k : Nat) : Int) := by
    rw [← pow_byte]
    simp
  rw [e, IntKind.wrap_u64]
  have e2 : ((x.toNat * 256 ^ k : Nat) : Int) % 18446744073709551616 = ((x.toNat * 256 ^ k : Nat) : Int) := by
    have : x.toNat * 256 ^ k < 18446744073709551616 := by omega
    omega
  rw [e2, bits_or_nat _ _ (by omega) (by omega)]
  congr 1
  have h := Nat.shiftLeft_add_eq_or_of_lt (i := 8 * k) (b := N) (by rw [pow_byte]; exact hN) x.toNat
  rw [Nat.shiftLeft_eq, pow_byte] at h
  rw [Nat.or_comm, ← h, Nat.add_comm]
end Go.Proofs.Yteglefnfnkgpcaa
namespace Go.Proofs.Yteglefnfnkgpcaa
open Go.RowKit

/-- A number may have 1, 2, 4 or 8 bytes. -/
def widthB (n : Int) : Bool := decide (n = 1 ∨ n = 2 ∨ n = 4 ∨ n = 8)
theorem widthB_true {n : Int} (h : widthB n = true) : n = 1 ∨ n = 2 ∨ n = 4 ∨ n = 8 := of_decide_eq_true h
theorem widthB_false {n : Int} (h : widthB n = false) : n ≠ 1 ∧ n ≠ 2 ∧ n ≠ 4 ∧ n ≠ 8 := by
  have := of_decide_eq_false h
  omega
end Go.Proofs.Yteglefnfnkgpcaa
namespace Go.Proofs.Yteglefnfnkgpcaa
open Go.RowKit

/-- The low k bytes of v, the lowest first. -/
def lowB (v i : Nat) : UInt8 := UInt8.ofNat (v / 256 ^ i % 256)
def leBytes (v k : Nat) : List UInt8 := (List.range k).map (lowB v)
theorem leBytes_length (v k : Nat) : (leBytes v k).length = k := by simp [leBytes]
theorem leBytes_succ (v k : Nat) : leBytes v k ++ [lowB v k] = leBytes v (k + 1) := by simp [leBytes, List.range_succ]
theorem lowB_toNat (v i : Nat) : (lowB v i).toNat = v / 256 ^ i % 256 := by
  unfold lowB
  rw [UInt8.toNat_ofNat_of_lt' (show v / 256 ^ i % 256 < 256 by omega)]

theorem lowB_int (v k : Nat) : (v : Int) / 2 ^ (8 * k) % 256 = ((lowB v k).toNat : Int) := by
  rw [lowB_toNat, ← pow_byte]
  simp
theorem numOf_le (v n : Nat) : numOf (leBytes v n) = v % 256 ^ n := by
  induction n with
  | zero => simp [leBytes, numOf, Nat.mod_one]
  | succ n ih =>
    rw [← leBytes_succ, numOf_snoc, ih, leBytes_length, lowB_toNat, Nat.pow_succ, Nat.mod_mul, Nat.mul_comm]
theorem splice_take {bs : List UInt8} {o n : Nat} {x : List UInt8} (hx : x.length = n) (h : o + n ≤ bs.length) : ((splice bs o x).drop o).take n = x := by
  subst hx
  unfold splice
  have h1 : (bs.take o).length = o := by simp; omega
  rw [List.append_assoc, List.drop_append, List.drop_of_length_le (by omega), h1, Nat.sub_self, List.nil_append, List.drop_zero, List.take_left' rfl]
end Go.Proofs.Yteglefnfnkgpcaa
namespace Go.Proofs.Yteglefnfnkgpcaa
open Go.RowKit Go.Shelf

theorem hide {p : Prop} (h : p) : Hid p := h
/-- Other bytes. -/
def AD.bytes (d : AD) (bs : List UInt8) : AD := { d with bs := bs }
theorem AD.Fine.bytes {d : AD} (F : d.Fine) {bs : List UInt8} (h : bs.length = d.bs.length) : (d.bytes bs).Fine :=
  { tiles := by show Tiles 16 d.L bs.length; rw [h]; exact F.tiles
    live := F.live
    most := by show bs.length ≤ _; rw [h]; exact F.most
    lim := F.lim
    use := F.use
    sum := F.sum
    free := F.free }
theorem ArenaAt.wrote {w w' : World} {p : Nat} {c : AR} {d : AD} (h : ArenaAt w p c d) {bs : List UInt8} (m : MemAt 92 5 w' c.b c.g bs c.sp) (k : Keeps w w' (fun i => i = c.g)) : ArenaAt w' p c (d.bytes bs) :=
  ⟨(k.block p (heap_lt h.hp) h.p_g).trans h.hp, m, ownsRow_keeps h.beg k (fun _ hg e => h.g_v hg e.symm), h.live.keeps k h.bl_g, h.free.keeps k h.bf_g, h.hlf, h.heaps.keeps k (fun _ hi e => (h.heap_ne hi).2.2.1 e)⟩
/-- Nothing has turned. -/
theorem Arena.same {w w' : World} {p : Nat} {F : Nat → Prop} {d : AD} (h : Arena w p F d) (k : Keeps w w' (fun _ => False)) : Turned w w' p F d :=
  ⟨(h.keeps k (fun _ _ _ e => e)).mono (fun _ _ e => Or.inl e), k.mono (fun _ _ e => e.elim)⟩
theorem Arena.at {w : World} {p : Nat} {F : Nat → Prop} {d : AD} (h : Arena w p F d) : ∃ c, ArenaAt w p c d ∧ ∀ k, c.foot p k → F k := h
end Go.Proofs.Yteglefnfnkgpcaa
namespace Go.Proofs.Yteglefnfnkgpcaa
open Go.RowKit Go.Shelf

def ErrPost (w : World) (p : Nat) (F : Nat → Prop) (x : Int) (d' : AD) (e : Ending) (w' : World) : Prop := e = .returned (.int .i64 x) ∧ Turned w w' p F d'
theorem turned_wrote {w w1 w2 : World} {p : Nat} {F : Nat → Prop} {c : AR} {d : AD} (h : ArenaAt w p c d) (hfo : ∀ k, c.foot p k → F k) (k1 : Keeps w w1 (fun _ => False)) {bs : List UInt8} {e : Ending} {y : Int} (hw : e = .returned (.int .i64 y) ∧ MemAt 92 5 w2 c.b c.g bs c.sp ∧ Keeps w1 w2 (fun i => i = c.g)) : Turned w w2 p F (d.bytes bs) :=
  ⟨⟨c, (h.keeps k1 (fun _ _ e => e)).wrote hw.2.1 hw.2.2, fun k hk => Or.inl (hfo k hk)⟩, (k1.mono (fun _ _ e => e.elim)).trans hw.2.2 (fun i _ e => hfo i (Or.inr (Or.inr (Or.inl e))))⟩

def storeR (d : AD) (off n : Int) (v : Nat) : Int × AD := if widthB n then (if d.goodB off n then (0, d.bytes (splice d.bs off.toNat (leBytes v n.toNat))) else (24, d)) else (10, d)
def fillR (d : AD) (off n : Int) (u : UInt8) : Int × AD := if d.goodB off n then (0, d.bytes (splice d.bs off.toNat (same n.toNat u))) else (24, d)
def copyR (d : AD) (x y n : Int) : Int × AD := if d.goodB x n && d.goodB y n then (0, d.bytes (splice d.bs x.toNat ((d.bs.drop y.toNat).take n.toNat))) else (24, d)

set_option maxHeartbeats 1000000 in
theorem afill_any {w : World} {p : Nat} {F : Nat → Prop} {d : AD} (hA : Arena w p F d) (hF : d.Fine) (off n : Int) (u : UInt8) (ho : fitsI off) (hn : fitsI n) :
    Calls Try.prog 30 #[.pointer (some ⟨p, 0, none⟩), .int .i64 off, .int .i64 n, .int .u8 (u.toNat : Int)] w fun e w' => ErrPost w p F (fillR d off n u).1 (fillR d off n u).2 e w' := by
  obtain ⟨c, h, hfo⟩ := hA.at
  have hN := good_any h hF off n ho hn
  unfold fillR
  cases hg : d.goodB off n
  · rw [hg] at hN
    simp only [Bool.false_eq_true, if_false]
    clear h hF
    go_enter Try.func30, Try.ntmps30
    go_wp2_with fail
    refine hN.mono ?_
    rintro e w1 ⟨rfl, k1⟩
    have T1 := hide (hA.same k1)
    clear hN k1 hA
    go_wp2_with fail
    go_ret
    exact ⟨rfl, T1.out⟩
  · rw [hg] at hN
    obtain ⟨o, k, rfl, rfl, ho16, hok⟩ := hF.span hg
    simp only [if_true, Int.toNat_natCast]
    have hst := fun W (kW : Keeps w W (fun _ => False)) => fill_yes W c.b c.g d.bs c.sp (h.mem.keeps kW id id) o k hok u
    have hc2 := fun W (kW : Keeps w W (fun _ => False)) => (h.keeps kW (fun _ _ e => e)).cell2
    clear hF hg hA
    go_enter Try.func30, Try.ntmps30
    go_wp2_with fail
    refine hN.mono ?_
    rintro e w1 ⟨rfl, k1⟩
    replace hst := hst w1 k1
    replace hc2 := hc2 w1 k1
    clear hN
    go_wp2_with fail
    refine hst.mono ?_
    intro e w2 hp
    have T1 := hide (turned_wrote h hfo k1 hp)
    obtain ⟨rfl, _, _⟩ := hp
    clear hst h k1
    go_wp2_with fail
    go_ret
    exact ⟨rfl, T1.out⟩
end Go.Proofs.Yteglefnfnkgpcaa
/-
  What the methods of a heap of offsets do.
-/
namespace Go.Proofs.Yteglefnfnkgpcaa
open Go.RowKit Go.Shelf

theorem low_len {w : World} {hb : Nat} {v : Value} {xs : List Int} (h : HeapAt w hb v xs) :
    Calls Try.prog 64 #[.pointer (some ⟨hb, 0, none⟩)] w fun e w' => e = .returned (.int .i64 (xs.length : Int)) ∧ w' = w := by
  have c0 := h.cell
  rcases Go.Joins.ownsRow_forms h.row with ⟨hv, hn⟩ | ⟨g, cap, hv⟩
  · subst hv
    rw [hn]
    clear h
    go_enter Try.func64, Try.ntmps64
    go_wp2
    go_ret
    exact ⟨rfl, rfl⟩
  · subst hv
    clear h
    go_enter Try.func64, Try.ntmps64
    go_wp2
    go_ret
    exact ⟨rfl, rfl⟩

set_option maxHeartbeats 1000000 in
theorem low_less {w : World} {hb : Nat} {v : Value} {xs : List Int} (h : HeapAt w hb v xs) (i j : Nat) (hi : i < xs.length) (hj : j < xs.length) (hl : xs.length ≤ 134217728) :
    Calls Try.prog 110 #[.pointer (some ⟨hb, 0, none⟩), .int .i64 (i : Int), .int .i64 (j : Int)] w fun e w' => e = .returned (.bool (decide (at0 xs i < at0 xs j))) ∧ ∃ q, w' = w.drewN q := by
  have c0 := h.cell
  obtain ⟨g, cap, rfl, _, _, hc, _⟩ := h.form (by omega)
  have ci := hc i hi
  have cj := hc j hj
  clear h hc
  go_enter Try.func110, Try.ntmps110
  go_wp2
  go_quiet (fail)
  go_wp2
  go_ret
  exact ⟨rfl, nq, rfl⟩
end Go.Proofs.Yteglefnfnkgpcaa
namespace Go.Proofs.Yteglefnfnkgpcaa
open Go.RowKit Go.Shelf

def SwapPost (w : World) (hb : Nat) (v : Value) (xs : List Int) (e : Ending) (w' : World) : Prop := e = .returned (.tuple #[]) ∧ HeapAt w' hb v xs ∧ Keeps w w' (fun k => v.ownBlock = some k)

set_option maxHeartbeats 2000000 in
theorem low_swap {w : World} {hb : Nat} {v : Value} {xs : List Int} (h : HeapAt w hb v xs) (i j : Nat) (hi : i < xs.length) (hj : j < xs.length) (hl : xs.length ≤ 134217728) :
    Calls Try.prog 113 #[.pointer (some ⟨hb, 0, none⟩), .int .i64 (i : Int), .int .i64 (j : Int)] w fun e w' => SwapPost w hb v (sw xs i j) e w' := by
  have c0 := h.cell
  obtain ⟨g, cap, rfl, _, _, hc, hf⟩ := h.form (by omega)
  have ci := hc i hi
  have cj := hc j hj
  have fi := hf i
  have fj := hf j
  obtain ⟨v', hy'⟩ := cell?_setCell_some (w := w) (p := ⟨g, i, none⟩) (x := .int .i64 (at0 xs j)) (q := ⟨g, j, none⟩) cj
  have hfin : ∀ q, SwapPost w hb (.slice (some ⟨g, 0, none⟩) xs.length cap) (sw xs i j) (.returned (.tuple #[])) (((w.setCell ⟨g, i, none⟩ (.int .i64 (at0 xs j))).setCell ⟨g, j, none⟩ (.int .i64 (at0 xs i))).drewN q) := fun q => by
    have k1 : Keeps w ((w.setCell ⟨g, i, none⟩ (.int .i64 (at0 xs j))).setCell ⟨g, j, none⟩ (.int .i64 (at0 xs i))) (fun k => (Value.slice (some ⟨g, 0, none⟩) xs.length cap).ownBlock = some k) := ((Keeps.refl w (fun k => (Value.slice (some ⟨g, 0, none⟩) xs.length cap).ownBlock = some k)).setCell ⟨g, i, none⟩ (fun _ => rfl) _).setCell ⟨g, j, none⟩ (fun _ => rfl) _
    exact ⟨rfl, (h.swapped i j).keeps ((Keeps.refl _ (fun _ => False)).drewN q) id (fun _ _ => id), k1.drewN q⟩
  have HF := hide hfin
  clear hfin h hc hf
  go_enter Try.func113, Try.ntmps113
  go_wp2
  go_region
  all_goals (try go_wp2)
  all_goals go_end0
  all_goals exact HF.out 1
end Go.Proofs.Yteglefnfnkgpcaa
namespace Go.Proofs.Yteglefnfnkgpcaa
open Go.RowKit Go.Shelf

/-- A builtin append whose run is known, in a region that draws. -/
theorem step_append_run {P : Program} {w : World} {ops : Array Oper} {o : Oper} {a : Act} {K : Act → World → Prop} {Q : Exit → Act → World → Prop} {E : Prop} (hgd : o.guard = none) (s x : Operand) (t : TypeId)
    (ho : o.op = .call { callee := .builtin .append, args := #[s, x], argTypes := #[t, t] }) {v u v' : Value} {w' : World} (hs : a.eval s = v) (hx : a.eval x = u)
    (hrun : ∀ ty, (Builtin.append_ #[t, t] ty #[v, u]).run P w = .ok v' w') (h : K (a.put o.dst v') w') :
    if Region.wanted o (yielded ops a.tmps) = true then Oper.wp P o a w K Q else E := by
  have hw : Region.wanted o (yielded ops a.tmps) = true := by simp [Region.wanted, hgd]
  rw [if_pos hw]
  unfold Oper.wp execOp
  simp only [ho, resolve, invoke, builtin, Sem.run_bind, Sem.run_pure, Result.andThen_ok, List.map_toArray, List.map_cons, List.map_nil, hs, hx, hrun]
  exact h

/-- A heap turned to another: its row may have moved. -/
def HeapTurned (w : World) (hb : Nat) (v : Value) (ys : List Int) (w' : World) : Prop :=
  ∃ v', HeapAt w' hb v' ys ∧ Keeps w w' (fun k => k = hb ∨ v.ownBlock = some k) ∧ (v'.ownBlock = v.ownBlock ∨ ∃ k, v'.ownBlock = some k ∧ w.heap.size ≤ k)

set_option maxRecDepth 100000 in
set_option maxHeartbeats 2000000 in
theorem low_push {w : World} {hb : Nat} {v : Value} {xs : List Int} (h : HeapAt w hb v xs) (x : Int) (hl : xs.length ≤ 134217728) :
    Calls Try.prog 112 #[.pointer (some ⟨hb, 0, none⟩), .iface 3 (.int .i64 x)] w fun e w' => e = .returned (.tuple #[]) ∧ HeapTurned w hb v (xs ++ [x]) w' := by
  have c0 := h.cell
  have cA : (w.alloc (.cells #[.int .i64 x] 3)).cell? ⟨hb, 0, none⟩ = some v := (h.keeps ((Keeps.refl w (fun _ => False)).alloc (.cells #[.int .i64 x] 3)) id (fun _ _ => id)).cell
  have k3 : Keeps w (w.drew.alloc (.cells #[cellI x] 3)) (fun _ => False) := ((Keeps.refl w (fun _ => False)).drewN 1).alloc _
  have h3 := h.keeps k3 id (fun _ _ => id)
  obtain ⟨g4, cap4, w4, hap, beg4, k4, hloc⟩ := append_one (P := Try.prog) 98 3 (.int .i64 0) 8 Try.underlying98 Try.infoI rfl h3.row (heap_alloc_new w.drew (.cells #[cellI x] 3)) rfl (by omega) (by unfold maxLen; omega) (Nat.zero_le _)
  have hp4 := (k4.block hb h3.lt (fun e => h3.ne e rfl)).trans h3.hp
  have c4 : w4.cell? ⟨hb, 0, none⟩ = some v := cell_of_one hp4
  have f4 : w4.frozen? ⟨hb, 0, none⟩ = false := free_of_one hp4
  have hfin : HeapTurned w hb v (xs ++ [x]) (w4.setCell ⟨hb, 0, none⟩ (.slice (some ⟨g4, 0, none⟩) (xs.length + 1) cap4)) := by
    have hsz : w.heap.size ≤ w.drew.heap.size := Nat.le_refl _
    have hne : hb ≠ g4 := fun e => by
      rcases hloc with e2 | e2
      · exact h.ne e2 e
      · have := h3.lt
        have := h.lt
        simp at e2
        have : g4 = w.heap.size + 1 := e2
        omega
    refine ⟨.slice (some ⟨g4, 0, none⟩) (xs.length + 1) cap4, ⟨one_setCell hp4, ?_⟩, ?_, ?_⟩
    · have := ownsRow_setCell_other beg4 (a := ⟨hb, 0, none⟩) (by simp [Value.ownBlock]; exact fun e => hne e.symm) (.slice (some ⟨g4, 0, none⟩) (xs.length + 1) cap4)
      simpa using this
    · exact ((k3.mono (S1 := fun k => k = hb ∨ v.ownBlock = some k) (fun _ _ e => e.elim)).trans k4 (fun _ _ e => Or.inr e)).setCell _ (fun _ => Or.inl rfl) _
    · rcases hloc with e | e
      · exact Or.inl (by rw [e]; rfl)
      · refine Or.inr ⟨g4, rfl, ?_⟩
        simp at e
        have : g4 = w.heap.size + 1 := e
        omega
  have HF := hide hfin
  clear hfin h h3 k3 k4 beg4 hloc hp4
  have hta : ∀ w', Sem.run Try.prog (Instr.typeAssert (.iface 3 (.int .i64 x)) 20 3 false) w' = .ok (.int .i64 x) w' := fun _ => by kernel_rfl
  unfold cellI at hap
  go_enter Try.func112, Try.ntmps112
  go_wp2
  go_region_law (refine step_append_run (by rfl) _ _ 98 (by rfl) (by rfl) (by rfl) hap ?_)
  all_goals (try go_wp2)
  all_goals go_end0
  all_goals exact ⟨rfl, HF.out⟩
end Go.Proofs.Yteglefnfnkgpcaa
namespace Go.Proofs.Yteglefnfnkgpcaa
open Go.RowKit Go.Shelf

set_option maxRecDepth 100000 in
set_option maxHeartbeats 2000000 in
theorem low_pop {w : World} {hb : Nat} {v : Value} {ys : List Int} {m : Int} (h : HeapAt w hb v (ys ++ [m])) (hl : ys.length ≤ 134217728) :
    Calls Try.prog 111 #[.pointer (some ⟨hb, 0, none⟩)] w fun e w' => e = .returned (.iface 3 (.int .i64 m)) ∧ HeapTurned w hb v ys w' := by
  have c0 := h.cell
  have f0 := h.frozen
  obtain ⟨g, cap, hv, hcap, hm, hc, _⟩ := h.form (by simp)
  have hlen : (ys ++ [m]).length = ys.length + 1 := by simp
  rw [hlen] at hv hcap
  subst hv
  have cm := hc ys.length (by simp)
  have hat : at0 (ys ++ [m]) ys.length = m := by simp [at0]
  rw [hat] at cm
  unfold maxLen at hm
  have hfin : HeapTurned w hb (.slice (some ⟨g, 0, none⟩) (ys.length + 1) cap) ys (w.setCell ⟨hb, 0, none⟩ (.slice (some ⟨g, 0, none⟩) ys.length cap)) := by
    have hne : hb ≠ g := h.ne rfl
    have hr := h.row
    rw [hlen, List.map_append] at hr
    have hr2 := ownsRow_pop (by simp) hr
    refine ⟨_, ⟨one_setCell h.hp, ownsRow_setCell_other hr2 (a := ⟨hb, 0, none⟩) (by simp [Value.ownBlock]; exact fun e => hne e.symm) _⟩, ?_, Or.inl rfl⟩
    exact (Keeps.refl w (fun k => k = hb ∨ (Value.slice (some ⟨g, 0, none⟩) (ys.length + 1) cap).ownBlock = some k)).setCell _ (fun _ => Or.inl rfl) _
  have HF := hide hfin
  have HH := hide h
  clear hfin h hc hat hlen
  go_enter Try.func111, Try.ntmps111
  go_wp2
  go_ret
  exact ⟨rfl, HF.out⟩
end Go.Proofs.Yteglefnfnkgpcaa
namespace Go.Proofs.Yteglefnfnkgpcaa
open Go.RowKit Go.Shelf

abbrev lowP (hb : Nat) : Value := .pointer (some ⟨hb, 0, none⟩)
theorem reach_less (hb : Nat) (w : World) : Sem.run Try.prog (method (Try.prog.types.size + 100) 97 (.pointer (some ⟨hb, 0, none⟩)) "Less") w = .ok (110, .pointer (some ⟨hb, 0, none⟩)) w := by kernel_rfl
theorem reach_swap (hb : Nat) (w : World) : Sem.run Try.prog (method (Try.prog.types.size + 100) 97 (.pointer (some ⟨hb, 0, none⟩)) "Swap") w = .ok (113, .pointer (some ⟨hb, 0, none⟩)) w := by kernel_rfl
theorem reach_len (hb : Nat) (w : World) : Sem.run Try.prog (method (Try.prog.types.size + 100) 97 (.pointer (some ⟨hb, 0, none⟩)) "Len") w = .ok (64, .pointer (some ⟨hb, 0, none⟩)) w := by kernel_rfl
theorem reach_push (hb : Nat) (w : World) : Sem.run Try.prog (method (Try.prog.types.size + 100) 97 (.pointer (some ⟨hb, 0, none⟩)) "Push") w = .ok (112, .pointer (some ⟨hb, 0, none⟩)) w := by kernel_rfl
theorem reach_pop (hb : Nat) (w : World) : Sem.run Try.prog (method (Try.prog.types.size + 100) 97 (.pointer (some ⟨hb, 0, none⟩)) "Pop") w = .ok (111, .pointer (some ⟨hb, 0, none⟩)) w := by kernel_rfl
theorem ent_less : Enters Try.prog 110 := enters_of Try.func110 (by kernel_rfl) rfl
theorem ent_swap : Enters Try.prog 113 := enters_of Try.func113 (by kernel_rfl) rfl
theorem ent_len : Enters Try.prog 64 := enters_of Try.func64 (by kernel_rfl) rfl
theorem ent_push : Enters Try.prog 112 := enters_of Try.func112 (by kernel_rfl) rfl
theorem ent_pop : Enters Try.prog 111 := enters_of Try.func111 (by kernel_rfl) rfl

def UpPost (w : World) (hb : Nat) (v : Value) (xs : List Int) (e : Ending) (w' : World) : Prop := e = .returned (.tuple #[]) ∧ ∃ ys : List Int, ys.Perm xs ∧ Heapy ys.length ys ∧ HeapAt w' hb v ys ∧ Keeps w w' (fun k => v.ownBlock = some k)
def UpRel (w : World) (hb : Nat) (v : Value) (xs : List Int) (j : Nat) (wr : World) : Prop := ∃ ys : List Int, j < ys.length ∧ ys.Perm xs ∧ UpInv ys j ∧ HeapAt wr hb v ys ∧ Keeps w wr (fun k => v.ownBlock = some k)

set_option maxRecDepth 100000 in
set_option maxHeartbeats 2000000 in
theorem heap_up {w : World} {hb : Nat} {v : Value} {xs : List Int} {j0 : Nat} (h : UpRel w hb v xs j0 w) (hl : xs.length ≤ 134217728) :
    Calls Try.prog 70 #[.iface 97 (.pointer (some ⟨hb, 0, none⟩)), .int .i64 (j0 : Int)] w fun e w' => UpPost w hb v xs e w' := by
  have mL := reach_less hb
  have mS := reach_swap hb
  have eL := ent_less
  have eS := ent_swap
  unfold Enters at eL eS
  have H0 := hide h
  clear h
  go_enter Try.func70, Try.ntmps70
  go_wp2
  go_loopw [1] (fun vj wr => ∃ j : Nat, vj = .int .i64 (j : Int) ∧ UpRel w hb v xs j wr) (fun vj _ => (intOf vj).toNat)
  case atStart => exact ⟨j0, rfl, H0.out⟩
  case round =>
    obtain ⟨j, rfl, ys, hj, hperm, hinv, hat, hk⟩ := hrel
    have hlen := hperm.length_eq
    have P0 := hide hperm
    have I0 := hide hinv
    clear hperm hinv
    rcases Nat.eq_zero_or_pos j with hz | hpos
    · subst hz
      have hfin : UpPost w hb v xs (.returned (.tuple #[])) wr := ⟨rfl, ys, P0.out, I0.out.stop (Or.inl rfl), hat, hk⟩
      have HF := hide hfin
      clear hfin hat hk hlen hj I0 P0 H0
      go_wp2_with fail
      go_end0
      exact HF.out
    · obtain ⟨i, hi⟩ : ∃ i, i = (j - 1) / 2 := ⟨_, rfl⟩
      have hij : i < j := by omega
      have hil : i < ys.length := by omega
      have hq : Int.tdiv ((j : Int) - 1) 2 = (i : Int) := by
        rw [Int.tdiv_eq_ediv_of_nonneg (by omega)]
        omega
      have hne : ((i : Int) == (j : Int)) = false := by simp; omega
      have hbl : j ≤ 134217728 := by omega
      have hL := low_less hat j i hj hil (by omega)
      by_cases hlt : at0 ys j < at0 ys i
      · have hstep : Hid (∀ q, Calls Try.prog 113 #[.pointer (some ⟨hb, 0, none⟩), .int .i64 (i : Int), .int .i64 (j : Int)] (wr.drewN q) fun e w' => e = .returned (.tuple #[]) ∧ UpRel w hb v xs i w') := fun q => by
          have kq : Keeps wr (wr.drewN q) (fun _ => False) := (Keeps.refl wr _).drewN q
          refine (low_swap (hat.keeps kq id (fun _ _ => id)) i j hil hj (by omega)).mono ?_
          rintro e w' ⟨rfl, h1, h2⟩
          refine ⟨rfl, sw ys i j, by rw [sw_length]; exact hil, (sw_perm hil hj).trans P0.out, ?_, h1, (hk.trans kq (fun _ _ e => e.elim)).trans h2 (fun _ _ e => e)⟩
          subst hi
          exact I0.out.step hj hpos hlt
        rw [decide_eq_true hlt] at hL
        clear hat hk hlen hj I0 P0 H0 hlt hil hi
        go_wp2_with fail
        refine hL.mono ?_
        rintro e w1 ⟨rfl, q, rfl⟩
        have hS := hstep.out q
        clear hL hstep
        go_wp2_with fail
        refine hS.mono ?_
        rintro e w2 ⟨rfl, hr⟩
        have HR := hide hr
        clear hS hr
        go_wp2_with fail
        exact ⟨⟨i, rfl, HR.out⟩, by simp [intOf]; omega⟩
      · have hfin : ∀ q, UpPost w hb v xs (.returned (.tuple #[])) (wr.drewN q) := fun q => by
          have kq : Keeps wr (wr.drewN q) (fun _ => False) := (Keeps.refl wr _).drewN q
          refine ⟨rfl, ys, P0.out, I0.out.stop (Or.inr ?_), hat.keeps kq id (fun _ _ => id), hk.trans kq (fun _ _ e => e.elim)⟩
          subst hi
          omega
        have HF := hide hfin
        rw [decide_eq_false hlt] at hL
        clear hfin hat hk hlen hj I0 P0 H0 hlt hil hi
        go_wp2_with fail
        refine hL.mono ?_
        rintro e w1 ⟨rfl, q, rfl⟩
        clear hL
        go_wp2_with fail
        go_end0
        exact HF.out q
end Go.Proofs.Yteglefnfnkgpcaa
namespace Go.Proofs.Yteglefnfnkgpcaa
open Go.RowKit Go.Shelf

def PushPost (w : World) (hb : Nat) (v : Value) (xs : List Int) (e : Ending) (w' : World) : Prop := e = .returned (.tuple #[]) ∧ ∃ ys : List Int, ys.Perm xs ∧ Heapy ys.length ys ∧ HeapTurned w hb v ys w'

theorem HeapTurned.then {w w1 w2 : World} {hb : Nat} {v v1 : Value} {ys : List Int} (k1 : Keeps w w1 (fun k => k = hb ∨ v.ownBlock = some k)) (l1 : v1.ownBlock = v.ownBlock ∨ ∃ k, v1.ownBlock = some k ∧ w.heap.size ≤ k)
    (h2 : HeapAt w2 hb v1 ys) (k2 : Keeps w1 w2 (fun k => v1.ownBlock = some k)) : HeapTurned w hb v ys w2 := by
  refine ⟨v1, h2, k1.trans k2 (fun i hi e => ?_), l1⟩
  rcases l1 with l | ⟨k, l, hk⟩
  · exact Or.inr (l ▸ e)
  · rw [l] at e
    cases e
    omega

set_option maxRecDepth 100000 in
set_option maxHeartbeats 2000000 in
theorem heap_push {w : World} {hb : Nat} {v : Value} {xs : List Int} (h : HeapAt w hb v xs) (hh : Heapy xs.length xs) (x : Int) (hl : xs.length < 134217728) :
    Calls Try.prog 56 #[.iface 97 (.pointer (some ⟨hb, 0, none⟩)), .iface 3 (.int .i64 x)] w fun e w' => PushPost w hb v (xs ++ [x]) e w' := by
  have mP := reach_push hb
  have mL := reach_len hb
  have eP := ent_push
  have eL := ent_len
  unfold Enters at eP eL
  have hP := low_push h x (by omega)
  clear h
  go_enter Try.func56, Try.ntmps56
  go_wp2_with fail
  refine hP.mono ?_
  rintro e w1 ⟨rfl, v1, h1, k1, l1⟩
  clear hP
  have hL := low_len h1
  have hlen : (((xs ++ [x]).length : Nat) : Int) = (xs.length : Int) + 1 := by simp
  rw [hlen] at hL
  have hU : Hid (Calls Try.prog 70 #[.iface 97 (.pointer (some ⟨hb, 0, none⟩)), .int .i64 (xs.length : Int)] w1 fun e w' => PushPost w hb v (xs ++ [x]) e w') := by
    refine (heap_up (xs := xs ++ [x]) (j0 := xs.length) ⟨xs ++ [x], by simp, List.Perm.refl _, UpInv.start hh, h1, Keeps.refl _ _⟩ (by simp; omega)).mono ?_
    rintro e w2 ⟨rfl, ys, p2, hy, h2, k2⟩
    exact ⟨rfl, ys, p2, hy, HeapTurned.then k1 l1 h2 k2⟩
  clear h1 k1 l1 hlen hh
  go_wp2_with fail
  refine hL.mono ?_
  rintro e w2 ⟨rfl, rfl⟩
  have hU := hU.out
  clear hL
  go_wp2_with fail
  refine hU.mono ?_
  intro e w3 hp
  have he := hp.1
  subst he
  have HP := hide hp
  clear hU hp
  go_wp2_with fail
  go_end0
  exact HP.out
end Go.Proofs.Yteglefnfnkgpcaa
/-
  A block is laid among the free ones: the data.
-/
namespace Go.Proofs.Yteglefnfnkgpcaa
open Go.RowKit Go.Shelf

def AD.freed (d : AD) (x : Int) (ys : List Int) : AD := { d with fm := upd d.fm x (some ys) }
def fupd (fv : Int → Value) (x : Int) (v : Value) : Int → Value := fun y => if y = x then v else fv y
theorem fupd_same (fv : Int → Value) (x : Int) (v : Value) : fupd fv x v x = v := by simp [fupd]
theorem fupd_other (fv : Int → Value) (x y : Int) (v : Value) (h : y ≠ x) : fupd fv x v y = fv y := by simp [fupd, h]

/-- A heap's head is no row. -/
theorem HeapAt.row_ne {w : World} {b b' : Nat} {v v' : Value} {xs xs' : List Int} (h : HeapAt w b v xs) (h' : HeapAt w b' v' xs') : v.ownBlock ≠ some b' := fun e => by
  obtain ⟨cur, hc⟩ := own_obj h.row e
  exact ne_of_obj h'.hp hc (by simp) rfl

/-- A heap has turned. -/
theorem ArenaAt.heap_turned' {w w' : World} {p : Nat} {c : AR} {d : AD} (h : ArenaAt w p c d) {x : Int} {b : Nat} (hb : c.hb x = some b) {ys : List Int} (hy : Heapy ys.length ys) (ht : HeapTurned w b (c.fv x) ys w') :
    ∃ v', (∀ zs : List Int, ys.Perm zs → ArenaAt w' p { c with fv := fupd c.fv x v' } (d.freed x zs)) ∧ Keeps w w' (c.foot p) ∧ ∀ k, ({ c with fv := fupd c.fv x v' } : AR).foot p k → c.foot p k ∨ w.heap.size ≤ k := by
  obtain ⟨v', h1, k1, l1⟩ := ht
  obtain ⟨xs, ys0, hxs, _, ha, _⟩ := h.heaps.some_of hb
  have hS : ∀ k, (k = b ∨ (c.fv x).ownBlock = some k) → heapsFoot c.hb c.fv k := fun k hk => ⟨x, b, hb, hk⟩
  have hne : ∀ k, (k = b ∨ (c.fv x).ownBlock = some k) → k ≠ p ∧ k ≠ c.b ∧ k ≠ c.g ∧ k ≠ c.bl ∧ k ≠ c.bf ∧ c.v.ownBlock ≠ some k := fun k hk => h.heap_ne (hS k hk)
  have hnew : ∀ k, v'.ownBlock = some k → (c.fv x).ownBlock = some k ∨ w.heap.size ≤ k := fun k hk => by
    rcases l1 with e | ⟨k', e, hk'⟩
    · exact Or.inl (e ▸ hk)
    · rw [e] at hk
      cases hk
      exact Or.inr hk'
  have hlt : ∀ k, heapsFoot c.hb c.fv k → k < w.heap.size := fun k hk => h.foot_lt (Or.inr (Or.inr (Or.inr (Or.inr (Or.inr (Or.inr hk))))))
  have hvlt : ∀ k, c.v.ownBlock = some k → k < w.heap.size := fun k hk => h.foot_lt (Or.inr (Or.inr (Or.inr (Or.inr (Or.inr (Or.inl hk))))))
  refine ⟨v', fun zs hyz => ⟨?_, ?_, ?_, ?_, ?_, h.hlf, ?_, ?_, ?_, ?_⟩, k1.mono (fun i _ e => Or.inr (Or.inr (Or.inr (Or.inr (Or.inr (Or.inr (hS i e))))))), ?_⟩
  · exact (k1.block p (heap_lt h.hp) (fun e => (hne p e).1 rfl)).trans h.hp
  · exact h.mem.keeps k1 (fun e => (hne _ e).2.1 rfl) (fun e => (hne _ e).2.2.1 rfl)
  · exact ownsRow_keeps h.beg k1 (fun k hk e => (hne k e).2.2.2.2.2 hk)
  · exact h.live.keeps k1 (fun e => (hne _ e).2.2.2.1 rfl)
  · exact h.free.keeps k1 (fun e => (hne _ e).2.2.2.2.1 rfl)
  · intro y
    show (c.hb y).isSome = (upd d.fm x (some zs) y).isSome
    by_cases e : y = x
    · subst e
      rw [upd_same, hb]
      rfl
    · rw [upd_other _ _ _ _ e]
      exact h.heaps.dom y
  · intro y b' ts hb0 hz0
    have hz : upd d.fm x (some zs) y = some ts := hz0
    have hb' : c.hb y = some b' := hb0
    show ∃ us : List Int, us.Perm ts ∧ HeapAt w' b' (fupd c.fv x v' y) us ∧ Heapy us.length us
    clear hz0 hb0
    by_cases e : y = x
    · subst e
      rw [upd_same] at hz
      cases hz
      rw [hb] at hb'
      cases hb'
      rw [fupd_same]
      exact ⟨ys, hyz, h1, hy⟩
    · rw [upd_other _ _ _ _ e] at hz
      rw [fupd_other _ _ _ _ e]
      have hap := h.heaps.apart y x b' b e hb' hb
      obtain ⟨us, g1, g2, g3⟩ := h.heaps.heap y b' ts hb' hz
      refine ⟨us, g1, g2.keeps k1 (fun e1 => ?_) (fun k hk e1 => ?_), g3⟩
      · rcases e1 with e1 | e1
        · exact hap.1 e1
        · exact ha.row_ne g2 e1
      · rcases e1 with e1 | e1
        · subst e1
          exact g2.row_ne ha hk
        · exact hap.2 k hk e1
  · intro y b' k hb' hk
    have hb' : c.hb y = some b' := hb'
    have hk : (fupd c.fv x v' y).ownBlock = some k := hk
    by_cases e : y = x
    · subst e
      rw [fupd_same] at hk
      rcases hnew k hk with e1 | e1
      · exact h.heaps.row y b' k hb' e1
      · exact fun e2 => by have := hvlt k e2; omega
    · rw [fupd_other _ _ _ _ e] at hk
      exact h.heaps.row y b' k hb' hk
  · intro y z b1 b2 hyz hb1 hb2
    have hb1 : c.hb y = some b1 := hb1
    have hb2 : c.hb z = some b2 := hb2
    have hap := h.heaps.apart y z b1 b2 hyz hb1 hb2
    refine ⟨hap.1, fun k hk0 hk20 => ?_⟩
    have hk : (fupd c.fv x v' y).ownBlock = some k := hk0
    have hk2 : (fupd c.fv x v' z).ownBlock = some k := hk20
    clear hk0 hk20
    by_cases e : y = x
    · subst e
      rw [fupd_same] at hk
      rw [fupd_other _ _ _ _ (fun e => hyz e.symm)] at hk2
      rcases hnew k hk with e1 | e1
      · exact hap.2 k e1 hk2
      · have := hlt k ⟨z, b2, hb2, Or.inr hk2⟩
        omega
    · rw [fupd_other _ _ _ _ e] at hk
      by_cases e2 : z = x
      · subst e2
        rw [fupd_same] at hk2
        rcases hnew k hk2 with e1 | e1
        · exact hap.2 k hk e1
        · have := hlt k ⟨y, b1, hb1, Or.inr hk⟩
          omega
      · rw [fupd_other _ _ _ _ e2] at hk2
        exact hap.2 k hk hk2
  · intro k hk
    rcases hk with e | e | e | e | e | e | ⟨y, b', hb', hk⟩
    · exact Or.inl (Or.inl e)
    · exact Or.inl (Or.inr (Or.inl e))
    · exact Or.inl (Or.inr (Or.inr (Or.inl e)))
    · exact Or.inl (Or.inr (Or.inr (Or.inr (Or.inl e))))
    · exact Or.inl (Or.inr (Or.inr (Or.inr (Or.inr (Or.inl e)))))
    · exact Or.inl (Or.inr (Or.inr (Or.inr (Or.inr (Or.inr (Or.inl e))))))
    · have hb' : c.hb y = some b' := hb'
      have hk : k = b' ∨ (fupd c.fv x v' y).ownBlock = some k := hk
      have hin : ∀ k, heapsFoot c.hb c.fv k → c.foot p k := fun k hk => Or.inr (Or.inr (Or.inr (Or.inr (Or.inr (Or.inr hk)))))
      rcases hk with e | e
      · exact Or.inl (hin _ ⟨y, b', hb', Or.inl e⟩)
      · by_cases e2 : y = x
        · subst e2
          rw [fupd_same] at e
          rcases hnew k e with e1 | e1
          · exact Or.inl (hin _ ⟨y, b', hb', Or.inr e1⟩)
          · exact Or.inr e1
        · rw [fupd_other _ _ _ _ e2] at e
          exact Or.inl (hin _ ⟨y, b', hb', Or.inr e⟩)

/-- A new heap, still empty. -/
theorem ArenaAt.heap_new {w w' : World} {p : Nat} {c : AR} {d : AD} (h : ArenaAt w p c d) {x : Int} (hx : d.fm x = none) {b : Nat} {v' : Value} {nf : Nat} (k1 : Keeps w w' (fun i => i = c.bf)) (hf : MapTo Try.prog cPtr w' c.bf nf (upd c.hb x (some b)))
    (hb : HeapAt w' b v' []) (hbn : w.heap.size ≤ b) (hvn : ∀ k, v'.ownBlock = some k → w.heap.size ≤ k) :
    ArenaAt w' p { c with nf := nf, hb := upd c.hb x (some b), fv := fupd c.fv x v' } (d.freed x []) ∧ Keeps w w' (c.foot p) ∧ ∀ k, ({ c with nf := nf, hb := upd c.hb x (some b), fv := fupd c.fv x v' } : AR).foot p k → c.foot p k ∨ w.heap.size ≤ k := by
  have hlt : ∀ k, heapsFoot c.hb c.fv k → k < w.heap.size := fun k hk => h.foot_lt (Or.inr (Or.inr (Or.inr (Or.inr (Or.inr (Or.inr hk))))))
  have hvlt : ∀ k, c.v.ownBlock = some k → k < w.heap.size := fun k hk => h.foot_lt (Or.inr (Or.inr (Or.inr (Or.inr (Or.inr (Or.inl hk))))))
  have hnone := h.heaps.none_of hx
  refine ⟨⟨?_, ?_, ?_, ?_, hf, h.hlf, ?_, ?_, ?_, ?_⟩, k1.mono (fun i _ e => Or.inr (Or.inr (Or.inr (Or.inr (Or.inl e))))), ?_⟩
  · exact (k1.block p (heap_lt h.hp) h.p_bf).trans h.hp
  · exact h.mem.keeps k1 h.bf_b.symm h.bf_g.symm
  · exact ownsRow_keeps h.beg k1 (fun k hk e => h.bf_v hk e.symm)
  · exact h.live.keeps k1 h.hlf
  · intro y
    show (upd c.hb x (some b) y).isSome = (upd d.fm x (some []) y).isSome
    by_cases e : y = x
    · subst e
      rw [upd_same, upd_same]
      rfl
    · rw [upd_other _ _ _ _ e, upd_other _ _ _ _ e]
      exact h.heaps.dom y
  · intro y b' zs hb0 hz0
    have hz : upd d.fm x (some []) y = some zs := hz0
    have hb' : upd c.hb x (some b) y = some b' := hb0
    show ∃ us : List Int, us.Perm zs ∧ HeapAt w' b' (fupd c.fv x v' y) us ∧ Heapy us.length us
    clear hz0 hb0
    by_cases e : y = x
    · subst e
      rw [upd_same] at hz hb'
      cases hz
      cases hb'
      rw [fupd_same]
      exact ⟨[], List.Perm.refl _, hb, fun k _ hk => by simp at hk⟩
    · rw [upd_other _ _ _ _ e] at hz hb'
      rw [fupd_other _ _ _ _ e]
      obtain ⟨us, g1, g2, g3⟩ := h.heaps.heap y b' zs hb' hz
      exact ⟨us, g1, g2.keeps k1 (fun e1 => (h.heap_ne ⟨y, b', hb', Or.inl rfl⟩).2.2.2.2.1 e1) (fun k hk e1 => (h.heap_ne ⟨y, b', hb', Or.inr hk⟩).2.2.2.2.1 e1), g3⟩
  · intro y b' k hb0 hk0
    have hb' : upd c.hb x (some b) y = some b' := hb0
    have hk : (fupd c.fv x v' y).ownBlock = some k := hk0
    clear hb0 hk0
    by_cases e : y = x
    · subst e
      rw [fupd_same] at hk
      exact fun e2 => by have := hvlt k e2; have := hvn k hk; omega
    · rw [fupd_other _ _ _ _ e] at hk
      rw [upd_other _ _ _ _ e] at hb'
      exact h.heaps.row y b' k hb' hk
  · intro y z b1 b2 hyz hb10 hb20
    have hb1 : upd c.hb x (some b) y = some b1 := hb10
    have hb2 : upd c.hb x (some b) z = some b2 := hb20
    show b1 ≠ b2 ∧ ∀ k, (fupd c.fv x v' y).ownBlock = some k → (fupd c.fv x v' z).ownBlock ≠ some k
    clear hb10 hb20
    by_cases e : y = x
    · subst e
      have hzy : z ≠ y := fun e => hyz e.symm
      rw [upd_same] at hb1
      rw [upd_other _ _ _ _ hzy] at hb2
      rw [fupd_same, fupd_other _ _ _ _ hzy]
      cases hb1
      refine ⟨fun e => ?_, fun k hk hk2 => ?_⟩
      · have := hlt b2 ⟨z, b2, hb2, Or.inl rfl⟩
        omega
      · have := hlt k ⟨z, b2, hb2, Or.inr hk2⟩
        have := hvn k hk
        omega
    · rw [upd_other _ _ _ _ e] at hb1
      rw [fupd_other _ _ _ _ e]
      by_cases e2 : z = x
      · subst e2
        rw [upd_same] at hb2
        rw [fupd_same]
        cases hb2
        refine ⟨fun e => ?_, fun k hk hk2 => ?_⟩
        · have := hlt b1 ⟨y, b1, hb1, Or.inl rfl⟩
          omega
        · have := hlt k ⟨y, b1, hb1, Or.inr hk⟩
          have := hvn k hk2
          omega
      · rw [upd_other _ _ _ _ e2] at hb2
        rw [fupd_other _ _ _ _ e2]
        exact h.heaps.apart y z b1 b2 hyz hb1 hb2
  · intro k hk
    have hin : ∀ k, heapsFoot c.hb c.fv k → c.foot p k := fun k hk => Or.inr (Or.inr (Or.inr (Or.inr (Or.inr (Or.inr hk)))))
    rcases hk with e | e | e | e | e | e | ⟨y, b', hb0, hk0⟩
    · exact Or.inl (Or.inl e)
    · exact Or.inl (Or.inr (Or.inl e))
    · exact Or.inl (Or.inr (Or.inr (Or.inl e)))
    · exact Or.inl (Or.inr (Or.inr (Or.inr (Or.inl e))))
    · exact Or.inl (Or.inr (Or.inr (Or.inr (Or.inr (Or.inl e)))))
    · exact Or.inl (Or.inr (Or.inr (Or.inr (Or.inr (Or.inr (Or.inl e))))))
    · have hb' : upd c.hb x (some b) y = some b' := hb0
      have hk : k = b' ∨ (fupd c.fv x v' y).ownBlock = some k := hk0
      clear hb0 hk0
      by_cases e : y = x
      · subst e
        rw [upd_same] at hb'
        rw [fupd_same] at hk
        cases hb'
        rcases hk with e | e
        · exact Or.inr (by omega)
        · exact Or.inr (hvn k e)
      · rw [upd_other _ _ _ _ e] at hb'
        rw [fupd_other _ _ _ _ e] at hk
        exact Or.inl (hin _ ⟨y, b', hb', hk⟩)
end Go.Proofs.Yteglefnfnkgpcaa
