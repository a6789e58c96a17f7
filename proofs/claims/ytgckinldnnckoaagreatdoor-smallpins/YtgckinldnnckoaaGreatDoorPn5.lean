import Derived.Below
import Derived.Lib.Join
import Derived.Deep.RegionHeld
import Derived.WalkKit
import Derived.Test.YtgckinldnnckoaaGreatDoorRows
import Derived.Outline
import Derived.Test.YtgckinldnnckoaaGreatDoorPn4
namespace Go.Proofs.YtgckinldnnckoaaGreatDoor
open Go.RowKit

/-- The low k bytes of v, the lowest first. -/
def lowB (v i : Nat) : UInt8 := UInt8.ofNat (v / 256 ^ i % 256)
def leBytes (v k : Nat) : List UInt8 := (List.range k).map (lowB v)
theorem leBytes_length (v k : Nat) : (leBytes v k).length = k := by simp [leBytes]
theorem leBytes_succ (v k : Nat) : leBytes v k ++ [lowB v k] = leBytes v (k + 1) := by simp [leBytes, List.range_succ]
theorem lowB_toNat (v i : Nat) : (lowB v i).toNat = v / 256 ^ i % 256 := by
  unfold lowB
  rw [UInt8.toNat_ofNat_of_lt' (show v / 256 ^ i % 256 < 256 by omega)]

theorem lowB_int (v k : Nat) : (v : Int) / 2 ^ (8 * k) % 256 = ((lowB v k).toNat : Int) := by
  rw [lowB_toNat, ← pow_byte]
  simp
theorem numOf_le (v n : Nat) : numOf (leBytes v n) = v % 256 ^ n := by
  induction n with
  | zero => simp [leBytes, numOf, Nat.mod_one]
  | succ n ih =>
    rw [← leBytes_succ, numOf_snoc, ih, leBytes_length, lowB_toNat, Nat.pow_succ, Nat.mod_mul, Nat.mul_comm]
theorem splice_take {bs : List UInt8} {o n : Nat} {x : List UInt8} (hx : x.length = n) (h : o + n ≤ bs.length) : ((splice bs o x).drop o).take n = x := by
  subst hx
  unfold splice
  have h1 : (bs.take o).length = o := by simp; omega
  rw [List.append_assoc, List.drop_append, List.drop_of_length_le (by omega), h1, Nat.sub_self, List.nil_append, List.drop_zero, List.take_left' rfl]

set_option maxHeartbeats 400000 in
theorem store_width (w : World) (p : Value) (off n : Int) (v : Int) (h : widthB n = false) :
    Calls Tryz.prog 116 #[p, .int .i64 off, .int .i64 n, .int .u64 v] w fun e w' => e = .returned (.int .i64 10) ∧ w' = w := by
  go_enter Tryz.func116, Tryz.ntmps116
  go_wp2_with fail
  refine (number_width _ _ _ _ h).mono ?_
  rintro e w' ⟨rfl, rfl⟩
  go_wp2_with fail
  go_ret
  exact ⟨rfl, rfl⟩

set_option maxHeartbeats 400000 in
theorem store_out (w : World) (b g : Nat) (bs sp : List UInt8) (m : MemAt 163 5 w b g bs sp) (off n : Int) (v : Int) (h : widthB n = true) (h2 : insideB bs.length off n = false) :
    Calls Tryz.prog 116 #[.pointer (some ⟨b, 0, none⟩), .int .i64 off, .int .i64 n, .int .u64 v] w fun e w' => e = .returned (.int .i64 11) ∧ w' = w := by
  go_enter Tryz.func116, Tryz.ntmps116
  go_wp2_with fail
  refine (number_out _ b g bs sp m _ _ h h2).mono ?_
  rintro e w' ⟨rfl, rfl⟩
  go_wp2_with fail
  go_ret
  exact ⟨rfl, rfl⟩

set_option maxHeartbeats 1000000 in
theorem store_yes (w : World) (b g : Nat) (bs sp : List UInt8) (m : MemAt 163 5 w b g bs sp) (o n v : Nat) (h : widthB (n : Int) = true) (h2 : o + n ≤ bs.length) :
    Calls Tryz.prog 116 #[.pointer (some ⟨b, 0, none⟩), .int .i64 (o : Int), .int .i64 (n : Int), .int .u64 (v : Int)] w fun e w' => WritePost w b g (splice bs o (leBytes v n)) sp e w' := by
  have hl : bs.length + sp.length ≤ 134217728 := m.hmax
  have hnum := number_yes w b g bs sp m o n h (insideB_mk h2)
  have hs1 := span_any w b g bs sp m o n h2
  obtain ⟨q, hq, hv⟩ := spanVal_eq g (bs.length + sp.length) o n
  rw [hv] at hs1
  have hn8 : n ≤ 8 := by have := widthB_true h; omega
  clear hv
  go_enter Tryz.func116, Tryz.ntmps116
  go_wp2_with fail
  refine hnum.mono ?_
  rintro e w' ⟨rfl, rfl⟩
  clear hnum
  go_wp2_with fail
  refine hs1.mono ?_
  rintro e w' ⟨rfl, rfl⟩
  clear hs1
  go_wp2_with fail
  go_loopw [25] (fun i wr => ∃ k : Nat, k ≤ n ∧ i = .int .i64 (k : Int) ∧ MemAt 163 5 wr b g (splice bs o (leBytes v k)) sp ∧ Keeps w' wr (fun i => i = g)) (fun i _ => n - (intOf i).toNat)
  case atStart => exact ⟨0, Nat.zero_le _, rfl, by rw [show leBytes v 0 = [] from rfl, splice_nil]; exact m, Keeps.refl _ _⟩
  case round =>
    obtain ⟨k, hk, rfl, mk, kk⟩ := hrel
    have hsl := leBytes_length v k
    by_cases hlt : k < n
    · have hqo : q = o := by
        rcases hq with hq | ⟨_, hz⟩
        · exact hq
        · omega
      have hlen : (splice bs o (leBytes v k)).length = bs.length := splice_length (by omega)
      obtain ⟨v0, hv0⟩ := mk.gcell_any (q + k) (by rw [hlen]; omega)
      have hfz := mk.gfrozen (q + k)
      have hst := mk.store (q + k) (by rw [hlen]; omega) (lowB v k)
      rw [show q + k = o + k from by omega, splice_set hsl (by omega), leBytes_succ, ← show q + k = o + k from by omega] at hst
      have K2 := kk.trans hst.2 (fun _ _ x => x)
      have M2 := hst.1
      rw [← lowB_int] at K2 M2
      clear hst mk kk hsl hlen hqo hq m h
      go_wp2
      go_roundw
      case rel => exact ⟨k + 1, by omega, by go_num, M2, K2⟩
      case measure => simp [intOf]; omega
    · have hall : k = n := by omega
      subst hall
      go_wp2
      go_ret
      exact ⟨rfl, mk, kk⟩
end Go.Proofs.YtgckinldnnckoaaGreatDoor
namespace Go.Proofs.YtgckinldnnckoaaGreatDoor
open Go.RowKit Go.Shelf

theorem hide {p : Prop} (h : p) : Hid p := h
/-- Other bytes. -/
def AD.bytes (d : AD) (bs : List UInt8) : AD := { d with bs := bs }
theorem AD.Fine.bytes {d : AD} (F : d.Fine) {bs : List UInt8} (h : bs.length = d.bs.length) : (d.bytes bs).Fine :=
  { tiles := by show Tiles 16 d.L bs.length; rw [h]; exact F.tiles
    live := F.live
    most := by show bs.length ≤ _; rw [h]; exact F.most
    lim := F.lim
    use := F.use
    sum := F.sum
    free := F.free }
theorem ArenaAt.wrote {w w' : World} {p : Nat} {c : AR} {d : AD} (h : ArenaAt w p c d) {bs : List UInt8} (m : MemAt 163 5 w' c.b c.g bs c.sp) (k : Keeps w w' (fun i => i = c.g)) : ArenaAt w' p c (d.bytes bs) :=
  ⟨(k.block p (heap_lt h.hp) h.p_g).trans h.hp, m, ownsRow_keeps h.beg k (fun _ hg e => h.g_v hg e.symm), h.live.keeps k h.bl_g, h.free.keeps k h.bf_g, h.hlf, h.heaps.keeps k (fun _ hi e => (h.heap_ne hi).2.2.1 e)⟩
/-- Nothing has turned. -/
theorem Arena.same {w w' : World} {p : Nat} {F : Nat → Prop} {d : AD} (h : Arena w p F d) (k : Keeps w w' (fun _ => False)) : Turned w w' p F d :=
  ⟨(h.keeps k (fun _ _ _ e => e)).mono (fun _ _ e => Or.inl e), k.mono (fun _ _ e => e.elim)⟩
theorem Arena.at {w : World} {p : Nat} {F : Nat → Prop} {d : AD} (h : Arena w p F d) : ∃ c, ArenaAt w p c d ∧ ∀ k, c.foot p k → F k := h

set_option maxHeartbeats 400000 in
theorem anum_width (w : World) (p : Value) (off n : Int) (h : widthB n = false) : Calls Tryz.prog 51 #[p, .int .i64 off, .int .i64 n] w fun e w' => e = .returned (.int .i64 10) ∧ Keeps w w' (fun _ => False) := by
  obtain ⟨h1, h2, h3, h4⟩ := widthB_false h
  have b1 : (n != 1) = true := bne_iff_ne.2 h1
  have b2 : (n != 2) = true := bne_iff_ne.2 h2
  have b3 : (n != 4) = true := bne_iff_ne.2 h3
  have b4 : (n != 8) = true := bne_iff_ne.2 h4
  clear h1 h2 h3 h4
  have K0 : Hid (Keeps w w (fun _ => False)) := Keeps.refl w (fun _ => False)
  go_enter Tryz.func51, Tryz.ntmps51
  go_wp2_with fail
  go_ret
  exact ⟨rfl, K0.out⟩
set_option maxHeartbeats 400000 in
theorem anum_good (w : World) (p : Value) (off n : Int) (t : Bool) (h : widthB n = true) (hg : Calls Tryz.prog 84 #[p, .int .i64 off, .int .i64 n] w fun e w' => BoolPost w t e w') :
    Calls Tryz.prog 51 #[p, .int .i64 off, .int .i64 n] w fun e w' => e = .returned (.int .i64 (if t then 0 else 24)) ∧ Keeps w w' (fun _ => False) := by
  rcases widthB_true h with h | h | h | h
  all_goals subst h
  all_goals go_enter Tryz.func51, Tryz.ntmps51
  all_goals go_wp2_with fail
  all_goals refine hg.mono ?_
  all_goals rintro e w1 ⟨rfl, k1⟩
  all_goals have K1 : Hid (Keeps w w1 (fun _ => False)) := k1
  all_goals clear hg k1
  all_goals cases t
  all_goals go_wp2_with fail
  all_goals go_ret
  all_goals exact ⟨rfl, K1.out⟩

/-- What Load answers. -/
def loadV (d : AD) (off n : Int) : Int × Int := if widthB n then (if d.goodB off n then ((numOf ((d.bs.drop off.toNat).take n.toNat) : Int), 0) else (0, 24)) else (0, 10)
def LoadPost (w : World) (v e0 : Int) (e : Ending) (w' : World) : Prop := e = .returned (.tuple #[.int .u64 v, .int .i64 e0]) ∧ Keeps w w' (fun _ => False)
set_option maxHeartbeats 1000000 in
theorem aload_any {w : World} {p : Nat} {c : AR} {d : AD} (h : ArenaAt w p c d) (hF : d.Fine) (off n : Int) (ho : fitsI off) (hn : fitsI n) :
    Calls Tryz.prog 22 #[.pointer (some ⟨p, 0, none⟩), .int .i64 off, .int .i64 n] w fun e w' => LoadPost w (loadV d off n).1 (loadV d off n).2 e w' := by
  unfold loadV
  cases hw : widthB n
  · have hN := anum_width w (.pointer (some ⟨p, 0, none⟩)) off n hw
    simp only [Bool.false_eq_true, if_false]
    clear h hF
    go_enter Tryz.func22, Tryz.ntmps22
    go_wp2_with fail
    refine hN.mono ?_
    rintro e w1 ⟨rfl, k1⟩
    have K1 : Hid (Keeps w w1 (fun _ => False)) := k1
    clear hN k1
    go_wp2_with fail
    go_ret2
    exact ⟨rfl, K1.out⟩
  · have hN := anum_good w _ off n _ hw (good_any h hF off n ho hn)
    cases hg : d.goodB off n
    · rw [hg] at hN
      simp only [Bool.false_eq_true, if_false, if_true] at hN ⊢
      clear h hF
      go_enter Tryz.func22, Tryz.ntmps22
      go_wp2_with fail
      refine hN.mono ?_
      rintro e w1 ⟨rfl, k1⟩
      have K1 : Hid (Keeps w w1 (fun _ => False)) := k1
      clear hN k1
      go_wp2_with fail
      go_ret2
      exact ⟨rfl, K1.out⟩
    · rw [hg] at hN
      obtain ⟨o, k, rfl, rfl, ho16, hok⟩ := hF.span hg
      simp only [if_true, Int.toNat_natCast] at hN ⊢
      have hld := fun W (kW : Keeps w W (fun _ => False)) => load_yes W c.b c.g d.bs c.sp (h.mem.keeps kW id id) o k hw hok
      have hc2 := fun W (kW : Keeps w W (fun _ => False)) => (h.keeps kW (fun _ _ e => e)).cell2
      have hnum := numOf_lt ((d.bs.drop o).take k)
      clear h hF hg
      go_enter Tryz.func22, Tryz.ntmps22
      go_wp2_with fail
      refine hN.mono ?_
      rintro e w1 ⟨rfl, k1⟩
      have K1 : Hid (Keeps w w1 (fun _ => False)) := k1
      replace hld := hld w1 k1
      replace hc2 := hc2 w1 k1
      clear hN k1
      go_wp2_with fail
      refine hld.mono ?_
      rintro e w2 ⟨rfl, rfl⟩
      clear hld
      go_wp2_with fail
      go_ret2
      exact ⟨rfl, K1.out⟩
end Go.Proofs.YtgckinldnnckoaaGreatDoor
namespace Go.Proofs.YtgckinldnnckoaaGreatDoor
open Go.RowKit Go.Shelf

def ErrPost (w : World) (p : Nat) (F : Nat → Prop) (x : Int) (d' : AD) (e : Ending) (w' : World) : Prop := e = .returned (.int .i64 x) ∧ Turned w w' p F d'
theorem turned_wrote {w w1 w2 : World} {p : Nat} {F : Nat → Prop} {c : AR} {d : AD} (h : ArenaAt w p c d) (hfo : ∀ k, c.foot p k → F k) (k1 : Keeps w w1 (fun _ => False)) {bs : List UInt8} {e : Ending} {y : Int} (hw : e = .returned (.int .i64 y) ∧ MemAt 163 5 w2 c.b c.g bs c.sp ∧ Keeps w1 w2 (fun i => i = c.g)) : Turned w w2 p F (d.bytes bs) :=
  ⟨⟨c, (h.keeps k1 (fun _ _ e => e)).wrote hw.2.1 hw.2.2, fun k hk => Or.inl (hfo k hk)⟩, (k1.mono (fun _ _ e => e.elim)).trans hw.2.2 (fun i _ e => hfo i (Or.inr (Or.inr (Or.inl e))))⟩

def storeR (d : AD) (off n : Int) (v : Nat) : Int × AD := if widthB n then (if d.goodB off n then (0, d.bytes (splice d.bs off.toNat (leBytes v n.toNat))) else (24, d)) else (10, d)
def fillR (d : AD) (off n : Int) (u : UInt8) : Int × AD := if d.goodB off n then (0, d.bytes (splice d.bs off.toNat (same n.toNat u))) else (24, d)
def copyR (d : AD) (x y n : Int) : Int × AD := if d.goodB x n && d.goodB y n then (0, d.bytes (splice d.bs x.toNat ((d.bs.drop y.toNat).take n.toNat))) else (24, d)

set_option maxHeartbeats 1000000 in
theorem astore_any {w : World} {p : Nat} {F : Nat → Prop} {d : AD} (hA : Arena w p F d) (hF : d.Fine) (off n : Int) (v : Nat) (ho : fitsI off) (hn : fitsI n) :
    Calls Tryz.prog 77 #[.pointer (some ⟨p, 0, none⟩), .int .i64 off, .int .i64 n, .int .u64 (v : Int)] w fun e w' => ErrPost w p F (storeR d off n v).1 (storeR d off n v).2 e w' := by
  obtain ⟨c, h, hfo⟩ := hA.at
  unfold storeR
  cases hw : widthB n
  · have hN := anum_width w (.pointer (some ⟨p, 0, none⟩)) off n hw
    simp only [Bool.false_eq_true, if_false]
    clear h hF
    go_enter Tryz.func77, Tryz.ntmps77
    go_wp2_with fail
    refine hN.mono ?_
    rintro e w1 ⟨rfl, k1⟩
    have T1 := hide (hA.same k1)
    clear hN k1 hA
    go_wp2_with fail
    go_ret
    exact ⟨rfl, T1.out⟩
  · have hN := anum_good w _ off n _ hw (good_any h hF off n ho hn)
    cases hg : d.goodB off n
    · rw [hg] at hN
      simp only [Bool.false_eq_true, if_false, if_true] at hN ⊢
      clear h hF
      go_enter Tryz.func77, Tryz.ntmps77
      go_wp2_with fail
      refine hN.mono ?_
      rintro e w1 ⟨rfl, k1⟩
      have T1 := hide (hA.same k1)
      clear hN k1 hA
      go_wp2_with fail
      go_ret
      exact ⟨rfl, T1.out⟩
    · rw [hg] at hN
      obtain ⟨o, k, rfl, rfl, ho16, hok⟩ := hF.span hg
      simp only [if_true, Int.toNat_natCast] at hN ⊢
      have hst := fun W (kW : Keeps w W (fun _ => False)) => store_yes W c.b c.g d.bs c.sp (h.mem.keeps kW id id) o k v hw hok
      have hc2 := fun W (kW : Keeps w W (fun _ => False)) => (h.keeps kW (fun _ _ e => e)).cell2
      clear hF hg hA
      go_enter Tryz.func77, Tryz.ntmps77
      go_wp2_with fail
      refine hN.mono ?_
      rintro e w1 ⟨rfl, k1⟩
      replace hst := hst w1 k1
      replace hc2 := hc2 w1 k1
      clear hN
      go_wp2_with fail
      refine hst.mono ?_
      intro e w2 hp
      have T1 := hide (turned_wrote h hfo k1 hp)
      obtain ⟨rfl, _, _⟩ := hp
      clear hst h k1
      go_wp2_with fail
      go_ret
      exact ⟨rfl, T1.out⟩

set_option maxHeartbeats 1000000 in
theorem afill_any {w : World} {p : Nat} {F : Nat → Prop} {d : AD} (hA : Arena w p F d) (hF : d.Fine) (off n : Int) (u : UInt8) (ho : fitsI off) (hn : fitsI n) :
    Calls Tryz.prog 89 #[.pointer (some ⟨p, 0, none⟩), .int .i64 off, .int .i64 n, .int .u8 (u.toNat : Int)] w fun e w' => ErrPost w p F (fillR d off n u).1 (fillR d off n u).2 e w' := by
  obtain ⟨c, h, hfo⟩ := hA.at
  have hN := good_any h hF off n ho hn
  unfold fillR
  cases hg : d.goodB off n
  · rw [hg] at hN
    simp only [Bool.false_eq_true, if_false]
    clear h hF
    go_enter Tryz.func89, Tryz.ntmps89
    go_wp2_with fail
    refine hN.mono ?_
    rintro e w1 ⟨rfl, k1⟩
    have T1 := hide (hA.same k1)
    clear hN k1 hA
    go_wp2_with fail
    go_ret
    exact ⟨rfl, T1.out⟩
  · rw [hg] at hN
    obtain ⟨o, k, rfl, rfl, ho16, hok⟩ := hF.span hg
    simp only [if_true, Int.toNat_natCast]
    have hst := fun W (kW : Keeps w W (fun _ => False)) => fill_yes W c.b c.g d.bs c.sp (h.mem.keeps kW id id) o k hok u
    have hc2 := fun W (kW : Keeps w W (fun _ => False)) => (h.keeps kW (fun _ _ e => e)).cell2
    clear hF hg hA
    go_enter Tryz.func89, Tryz.ntmps89
    go_wp2_with fail
    refine hN.mono ?_
    rintro e w1 ⟨rfl, k1⟩
    replace hst := hst w1 k1
    replace hc2 := hc2 w1 k1
    clear hN
    go_wp2_with fail
    refine hst.mono ?_
    intro e w2 hp
    have T1 := hide (turned_wrote h hfo k1 hp)
    obtain ⟨rfl, _, _⟩ := hp
    clear hst h k1
    go_wp2_with fail
    go_ret
    exact ⟨rfl, T1.out⟩
end Go.Proofs.YtgckinldnnckoaaGreatDoor
namespace Go.Proofs.YtgckinldnnckoaaGreatDoor
open Go.RowKit Go.Shelf

/-- The bytes of a span. -/
def AD.span (d : AD) (off n : Int) : List UInt8 := (d.bs.drop off.toNat).take n.toNat
def readV (d : AD) (off n : Int) : ByteArray × Int := if d.goodB off n then (strOf (d.span off n), 0) else (ByteArray.empty, 24)
def ReadAPost (w : World) (s : ByteArray) (x : Int) (e : Ending) (w' : World) : Prop := e = .returned (.tuple #[.string s, .int .i64 x]) ∧ Keeps w w' (fun _ => False)
set_option maxHeartbeats 1000000 in
theorem aread_any {w : World} {p : Nat} {c : AR} {d : AD} (h : ArenaAt w p c d) (hF : d.Fine) (off n : Int) (ho : fitsI off) (hn : fitsI n) :
    Calls Tryz.prog 118 #[.pointer (some ⟨p, 0, none⟩), .int .i64 off, .int .i64 n] w fun e w' => ReadAPost w (readV d off n).1 (readV d off n).2 e w' := by
  have hN := good_any h hF off n ho hn
  unfold readV
  cases hg : d.goodB off n
  · rw [hg] at hN
    simp only [Bool.false_eq_true, if_false]
    clear h hF
    go_enter Tryz.func118, Tryz.ntmps118
    go_wp2_with fail
    refine hN.mono ?_
    rintro e w1 ⟨rfl, k1⟩
    have K1 := hide k1
    clear hN k1
    go_wp2_with fail
    go_ret2
    exact ⟨rfl, K1.out⟩
  · rw [hg] at hN
    obtain ⟨o, k, rfl, rfl, ho16, hok⟩ := hF.span hg
    simp only [if_true]
    have hsp : d.span (o : Int) (k : Int) = (d.bs.drop o).take k := by simp [AD.span]
    rw [hsp]
    have hrd := fun W (kW : Keeps w W (fun _ => False)) => read_yes W c.b c.g d.bs c.sp (h.mem.keeps kW id id) o k hok
    have hc2 := fun W (kW : Keeps w W (fun _ => False)) => (h.keeps kW (fun _ _ e => e)).cell2
    have hlen : ((d.bs.drop o).take k).length = k := by simp; omega
    obtain ⟨x, hx⟩ : ∃ x, (d.bs.drop o).take k = x := ⟨_, rfl⟩
    rw [hx] at hlen ⊢
    obtain ⟨s, hs⟩ : ∃ s, strOf x = s := ⟨_, rfl⟩
    rw [hs]
    clear h hF hg hsp
    go_enter Tryz.func118, Tryz.ntmps118
    go_wp2_with fail
    refine hN.mono ?_
    rintro e w1 ⟨rfl, k1⟩
    replace hrd := hrd w1 k1
    replace hc2 := hc2 w1 k1
    clear hN
    go_wp2_with fail
    refine hrd.mono ?_
    rintro e w2 ⟨hh, _, rfl, hr, k2⟩
    rw [hx] at hr
    have K2 := hide (k1.trans k2 (fun _ _ e => e))
    have htx := run_text w2 ⟨hh, 0, none⟩ k k x hlen (fun j hj => by
      have := rowOf_get x j hj
      rw [addr_add, Nat.zero_add]
      simp only [World.cell?, hr]
      simpa using this)
    rw [hs] at htx
    clear hrd hr k1 k2 hc2 hx hs
    go_wp2_with fail
    go_ret2
    exact ⟨rfl, K2.out⟩

def equalV (d : AD) (x y n : Int) : Bool × Int := if d.goodB x n && d.goodB y n then (eqS (strOf (d.span x n)) (strOf (d.span y n)), 0) else (false, 24)
def EqAPost (w : World) (t : Bool) (x : Int) (e : Ending) (w' : World) : Prop := e = .returned (.tuple #[.bool t, .int .i64 x]) ∧ Keeps w w' (fun _ => False)
set_option maxHeartbeats 1000000 in
theorem aequal_any {w : World} {p : Nat} {c : AR} {d : AD} (h : ArenaAt w p c d) (hF : d.Fine) (x y n : Int) (hx : fitsI x) (hy : fitsI y) (hn : fitsI n) :
    Calls Tryz.prog 127 #[.pointer (some ⟨p, 0, none⟩), .int .i64 x, .int .i64 y, .int .i64 n] w fun e w' => EqAPost w (equalV d x y n).1 (equalV d x y n).2 e w' := by
  have hN := good_any h hF x n hx hn
  have hM := fun W (kW : Keeps w W (fun _ => False)) => good_any (h.keeps kW (fun _ _ e => e)) hF y n hy hn
  unfold equalV
  cases hg : d.goodB x n
  · rw [hg] at hN
    simp only [Bool.false_and, Bool.false_eq_true, if_false]
    clear h hF hM
    go_enter Tryz.func127, Tryz.ntmps127
    go_wp2_with fail
    refine hN.mono ?_
    rintro e w1 ⟨rfl, k1⟩
    have K1 := hide k1
    clear hN k1
    go_wp2_with fail
    go_ret2
    exact ⟨rfl, K1.out⟩
  · rw [hg] at hN
    cases hg2 : d.goodB y n
    · rw [hg2] at hM
      simp only [Bool.and_false, Bool.false_eq_true, if_false]
      clear h hF
      go_enter Tryz.func127, Tryz.ntmps127
      go_wp2_with fail
      refine hN.mono ?_
      rintro e w1 ⟨rfl, k1⟩
      replace hM := hM w1 k1
      clear hN
      go_wp2_with fail
      refine hM.mono ?_
      rintro e w2 ⟨rfl, k2⟩
      have K1 := hide (k1.trans k2 (fun _ _ e => e))
      clear hM k1 k2
      go_wp2_with fail
      go_ret2
      exact ⟨rfl, K1.out⟩
    · rw [hg2] at hM
      obtain ⟨o, k, rfl, rfl, ho16, hok⟩ := hF.span hg
      obtain ⟨o2, k', rfl, hkk, _, hok2⟩ := hF.span hg2
      obtain rfl : k = k' := by omega
      simp only [Bool.and_self, if_true, AD.span, Int.toNat_natCast]
      have hst := fun W (kW : Keeps w W (fun _ => False)) => equal_yes W c.b c.g d.bs c.sp (h.mem.keeps kW id id) o o2 k hok hok2
      have hc2 := fun W (kW : Keeps w W (fun _ => False)) => (h.keeps kW (fun _ _ e => e)).cell2
      clear hF hg hg2 hkk h
      generalize eqS (strOf ((d.bs.drop o).take k)) (strOf ((d.bs.drop o2).take k)) = t at *
      go_enter Tryz.func127, Tryz.ntmps127
      go_wp2_with fail
      refine hN.mono ?_
      rintro e w1 ⟨rfl, k1⟩
      replace hM := hM w1 k1
      clear hN
      go_wp2_with fail
      refine hM.mono ?_
      rintro e w2 ⟨rfl, k2⟩
      replace k1 := k1.trans k2 (fun _ _ e => e)
      replace hst := hst w2 k1
      replace hc2 := hc2 w2 k1
      have K1 := hide k1
      clear hM k2 k1
      go_wp2_with fail
      refine hst.mono ?_
      rintro e w3 ⟨rfl, rfl⟩
      clear hst
      go_wp2_with fail
      go_ret2
      exact ⟨rfl, K1.out⟩
end Go.Proofs.YtgckinldnnckoaaGreatDoor
namespace Go.Proofs.YtgckinldnnckoaaGreatDoor
open Go.RowKit Go.Shelf

/-- An arena that a statement has made itself, since the world w; it has none of the blocks X. -/
structure Own (w w1 : World) (p : Nat) (X : Nat → Prop) (d : AD) : Prop where
  arena : Arena w1 p (fun k => w.heap.size ≤ k ∧ ¬ X k) d
  keeps : Keeps w w1 (fun _ => False)
theorem Own.here {w w1 : World} {p : Nat} {X : Nat → Prop} {d : AD} (h : Own w w1 p X d) : Arena w1 p (fun k => (w.heap.size ≤ k ∧ ¬ X k) ∧ k < w1.heap.size) d := h.arena.mono (fun _ a b => ⟨b, a⟩)
theorem Own.turn {w w1 w2 : World} {p : Nat} {X : Nat → Prop} {d d' : AD} (h : Own w w1 p X d) (ht : Turned w1 w2 p (fun k => (w.heap.size ≤ k ∧ ¬ X k) ∧ k < w1.heap.size) d') (hX : ∀ k, X k → k < w1.heap.size) : Own w w2 p X d' := by
  refine ⟨ht.1.mono (fun i _ hi => ?_), h.keeps.trans ht.2 (fun i hi e => by omega)⟩
  rcases hi with hi | hi
  · exact hi.1
  · exact ⟨by have := h.keeps.size; omega, fun e => by have := hX i e; omega⟩
theorem Own.stay {w w1 w2 : World} {p : Nat} {X : Nat → Prop} {d : AD} (h : Own w w1 p X d) (k : Keeps w1 w2 (fun _ => False)) : Own w w2 p X d :=
  ⟨h.arena.keeps k (fun _ _ _ e => e), h.keeps.trans k (fun _ _ e => e)⟩
theorem Own.less {w w1 : World} {p : Nat} {X Y : Nat → Prop} {d : AD} (h : Own w w1 p X d) (hY : ∀ k, k < w1.heap.size → w.heap.size ≤ k → Y k → X k) : Own w w1 p Y d :=
  ⟨h.arena.mono (fun i hi e => ⟨e.1, fun y => e.2 (hY i hi e.1 y)⟩), h.keeps⟩
/-- What others keep in blocks of X, and what lay ahead, stays. -/
theorem Own.rest {w w1 w2 : World} {p : Nat} {X : Nat → Prop} {d : AD} (ht : Turned w1 w2 p (fun k => (w.heap.size ≤ k ∧ ¬ X k) ∧ k < w1.heap.size) d) {k : Nat} (hk : k < w1.heap.size) (hx : X k ∨ k < w.heap.size) : w2.heap[k]? = w1.heap[k]? :=
  ht.2.block k hk (fun e => by
    rcases hx with hx | hx
    · exact e.1.2 hx
    · omega)
theorem Own.below {w w1 : World} {p : Nat} {X : Nat → Prop} {d : AD} (h : Own w w1 p X d) {w0 : World} (k : Keeps w0 w (fun _ => False)) : Below w0.heap.size w0 w1 := (k.trans h.keeps (fun _ _ e => e)).below (Nat.le_refl _) (fun _ _ e => e)

theorem own_new {w : World} (n : Nat) (h : n ≤ 2097152) : Calls Tryz.prog 26 #[.int .i64 (n : Int)] w fun e w' => ∃ p, e = .returned (.tuple #[.pointer (some ⟨p, 0, none⟩), .int .i64 0]) ∧ Own w w' p (fun _ => False) (AD.fresh n) := by
  refine (anew_yes n w h).mono ?_
  rintro e w1 ⟨p, rfl, hA, k⟩
  exact ⟨p, rfl, hA.mono (fun _ _ e => ⟨e, id⟩), k⟩

section
variable {w w1 : World} {p : Nat} {X : Nat → Prop} {d : AD} (h : Own w w1 p X d) (hF : d.Fine)
include h hF
theorem own_alloc {T : AD → Nat → Nat × AD} {G : AD → Prop} (hT : TakeOK T G) (hG : G d) (n : Nat) (h1 : 1 ≤ n) (h2 : n ≤ 1048576) (h3 : d.used + classN n ≤ d.limit) :
    Calls Tryz.prog 56 #[.pointer (some ⟨p, 0, none⟩), .int .i64 (n : Int)] w1 fun e w' => AllocPost w1 p (fun k => (w.heap.size ≤ k ∧ ¬ X k) ∧ k < w1.heap.size) (T d (classN n)).1 (T d (classN n)).2 e w' :=
  alloc_yes hT h.here (fun _ hk => hk.2) hG hF n h1 h2 h3
end

section
variable {w w1 : World} {p : Nat} {X : Nat → Prop} {d : AD} (h : Own w w1 p X d) (hF : d.Fine)
include h hF
theorem own_store (off n : Int) (v : Nat) (ho : fitsI off) (hn : fitsI n) :
    Calls Tryz.prog 77 #[.pointer (some ⟨p, 0, none⟩), .int .i64 off, .int .i64 n, .int .u64 (v : Int)] w1 fun e w' => ErrPost w1 p (fun k => (w.heap.size ≤ k ∧ ¬ X k) ∧ k < w1.heap.size) (storeR d off n v).1 (storeR d off n v).2 e w' :=
  astore_any h.here hF off n v ho hn
end

section
variable {w w1 : World} {p : Nat} {X : Nat → Prop} {d : AD} (h : Own w w1 p X d) (hF : d.Fine)
include h hF
theorem own_fill (off n : Int) (u : UInt8) (ho : fitsI off) (hn : fitsI n) :
    Calls Tryz.prog 89 #[.pointer (some ⟨p, 0, none⟩), .int .i64 off, .int .i64 n, .int .u8 (u.toNat : Int)] w1 fun e w' => ErrPost w1 p (fun k => (w.heap.size ≤ k ∧ ¬ X k) ∧ k < w1.heap.size) (fillR d off n u).1 (fillR d off n u).2 e w' :=
  afill_any h.here hF off n u ho hn
end

section
variable {w w1 : World} {p : Nat} {X : Nat → Prop} {d : AD} (h : Own w w1 p X d) (hF : d.Fine)
include h hF
theorem own_load (off n : Int) (ho : fitsI off) (hn : fitsI n) : Calls Tryz.prog 22 #[.pointer (some ⟨p, 0, none⟩), .int .i64 off, .int .i64 n] w1 fun e w' => LoadPost w1 (loadV d off n).1 (loadV d off n).2 e w' := by
  obtain ⟨c, hc, _⟩ := h.arena
  exact aload_any hc hF off n ho hn
end

section
variable {w w1 : World} {p : Nat} {X : Nat → Prop} {d : AD} (h : Own w w1 p X d) (hF : d.Fine)
include h hF
theorem own_read (off n : Int) (ho : fitsI off) (hn : fitsI n) : Calls Tryz.prog 118 #[.pointer (some ⟨p, 0, none⟩), .int .i64 off, .int .i64 n] w1 fun e w' => ReadAPost w1 (readV d off n).1 (readV d off n).2 e w' := by
  obtain ⟨c, hc, _⟩ := h.arena
  exact aread_any hc hF off n ho hn
end

section
variable {w w1 : World} {p : Nat} {X : Nat → Prop} {d : AD} (h : Own w w1 p X d) (hF : d.Fine)
include h hF
theorem own_equal (x y n : Int) (hx : fitsI x) (hy : fitsI y) (hn : fitsI n) : Calls Tryz.prog 127 #[.pointer (some ⟨p, 0, none⟩), .int .i64 x, .int .i64 y, .int .i64 n] w1 fun e w' => EqAPost w1 (equalV d x y n).1 (equalV d x y n).2 e w' := by
  obtain ⟨c, hc, _⟩ := h.arena
  exact aequal_any hc hF x y n hx hy hn
end
end Go.Proofs.YtgckinldnnckoaaGreatDoor
namespace Go.Proofs.YtgckinldnnckoaaGreatDoor
open Go.RowKit Go.Shelf

/-- A list of texts behind an address. -/
def TextsAt (w : World) (a : Option Addr) (ts : List ByteArray) : Prop := ∀ j (h : j < ts.length), ∃ b o, a = some ⟨b, o, none⟩ ∧ b < w.heap.size ∧ w.cell? ⟨b, o + j, none⟩ = some (.string ts[j])
theorem TextsAt.two {w : World} {a : Option Addr} {ts : List ByteArray} (h : TextsAt w a ts) : ts = [] ∨ ∃ b o, a = some ⟨b, o, none⟩ ∧ b < w.heap.size ∧ 0 < ts.length ∧ ∀ j (h : j < ts.length), w.cell? ⟨b, o + j, none⟩ = some (.string ts[j]) := by
  cases ts with
  | nil => exact Or.inl rfl
  | cons z r =>
    obtain ⟨b, o, e, hb, _⟩ := h 0 (by simp)
    refine Or.inr ⟨b, o, e, hb, by simp, fun j hj => ?_⟩
    obtain ⟨b', o', e', _, hc⟩ := h j hj
    rw [e] at e'
    cases e'
    exact hc
theorem TextsAt.keeps {w w' : World} {a : Option Addr} {ts : List ByteArray} (h : TextsAt w a ts) (k : Keeps w w' (fun _ => False)) : TextsAt w' a ts := by
  intro j hj
  obtain ⟨b, o, e, hb, hc⟩ := h j hj
  exact ⟨b, o, e, Nat.lt_of_lt_of_le hb k.size, (World.cell?_of_block (w := w) (a := ⟨b, o + j, none⟩) (k.block b hb id)).trans hc⟩
def lens : List ByteArray → Nat
  | [] => 0
  | t :: r => t.size + lens r
theorem lens_append (a b : List ByteArray) : lens (a ++ b) = lens a + lens b := by
  induction a with
  | nil => simp [lens]
  | cons t r ih => simp [lens, ih]; omega
theorem lens_take_succ {ts : List ByteArray} {k : Nat} (hk : k < ts.length) : lens (ts.take (k + 1)) = lens (ts.take k) + ts[k].size := by
  rw [List.take_succ_eq_append_getElem hk, lens_append]
  simp [lens]
theorem lens_take_le (ts : List ByteArray) (k : Nat) : lens (ts.take k) ≤ lens ts := by
  have := lens_append (ts.take k) (ts.drop k)
  rw [List.take_append_drop] at this
  omega
/-- All of them, one behind the other. -/
def joined (ts : List ByteArray) : List UInt8 := Lib.join (ts.map (·.data.toList)) []
theorem joined_eq : ∀ ts : List ByteArray, joined ts = (ts.map (·.data.toList)).flatten
  | [] => rfl
  | [t] => by simp [joined, Lib.join, List.intercalate]
  | t :: s :: r => by
    have := joined_eq (s :: r)
    simp only [joined, Lib.join, List.map_cons] at this ⊢
    rw [List.intercalate_cons_cons, this]
    simp
theorem joined_length (ts : List ByteArray) : (joined ts).length = lens ts := by
  rw [joined_eq]
  induction ts with
  | nil => rfl
  | cons t r ih =>
    simp only [List.map_cons, List.flatten_cons, List.length_append, ih, lens]
    simp

def LenPost (w : World) (ts : List ByteArray) (e : Ending) (w' : World) : Prop := ∃ n : Nat, e = .returned (.int .i64 (n : Int)) ∧ w' = w ∧ (n = lens ts ∨ (1048576 < n ∧ 1048576 < lens ts)) ∧ n ≤ 1125899906842624
set_option maxHeartbeats 1000000 in
theorem length_nil (a : Option Addr) (cap : Nat) (w : World) : Calls Tryz.prog 129 #[.slice a 0 cap] w fun e w' => LenPost w [] e w' := by
  go_enter Tryz.func129, Tryz.ntmps129
  go_wp2_with fail
  go_loop [3, 8] (fun n i => n = .int .i64 0 ∧ i = .int .i64 0) (fun _ _ => 0)
  case atStart => exact ⟨rfl, rfl⟩
  case round =>
    obtain ⟨rfl, rfl⟩ := hrel
    go_wp2_with fail
    go_ret
    exact ⟨0, rfl, rfl, Or.inl rfl, by omega⟩

set_option maxHeartbeats 1000000 in
theorem length_some (b o cap : Nat) (ts : List ByteArray) (w : World) (hbig : ts.length ≤ 140737488355328) (hsz : ∀ t ∈ ts, t.size ≤ 140737488355328) (hc : ∀ j (h : j < ts.length), w.cell? ⟨b, o + j, none⟩ = some (.string ts[j])) :
    Calls Tryz.prog 129 #[.slice (some ⟨b, o, none⟩) ts.length cap] w fun e w' => LenPost w ts e w' := by
  go_enter Tryz.func129, Tryz.ntmps129
  go_wp2_with fail
  go_loop [3, 8] (fun n i => ∃ k : Nat, i = .int .i64 (k : Int) ∧ n = .int .i64 ((lens (ts.take k) : Nat) : Int) ∧ k ≤ ts.length ∧ lens (ts.take k) ≤ 1048576) (fun _ i => ts.length - (intOf i).toNat)
  case atStart => exact ⟨0, rfl, rfl, Nat.zero_le _, by simp [lens]⟩
  case round =>
    obtain ⟨k, rfl, rfl, hk, hl⟩ := hrel
    by_cases hlt : k < ts.length
    · have hlt' : (k : Int) < (ts.length : Int) := by omega
      have hck := hc k hlt
      have hst := lens_take_succ hlt
      have hs := hsz _ (List.getElem_mem hlt)
      have hle := lens_take_le ts (k + 1)
      generalize ts[k]'hlt = t at *
      generalize lens (ts.take k) = N at *
      have HST := hide hst
      have HLE := hide hle
      clear hc hsz hst hle
      by_cases hbig1 : 1048576 < N + t.size
      · have hb' : (1048576 : Int) < (N : Int) + (t.size : Int) := by omega
        go_wp2_with fail
        go_ret
        exact ⟨N + t.size, by simp, rfl, Or.inr ⟨hbig1, by have := HST.out; have := HLE.out; omega⟩, by omega⟩
      · have hb' : ¬ (1048576 : Int) < (N : Int) + (t.size : Int) := by omega
        go_wp2_with fail
        go_round
        case rel => exact ⟨k + 1, by go_num, by rw [HST.out]; simp, by omega, by rw [HST.out]; omega⟩
        case measure => simp [intOf]; omega
    · have hlt' : ¬ (k : Int) < (ts.length : Int) := by omega
      have hall : ts.take k = ts := List.take_of_length_le (by omega)
      rw [hall] at hl ⊢
      generalize hN : lens ts = N at *
      clear hc
      go_wp2_with fail
      go_ret
      exact ⟨N, rfl, rfl, Or.inl hN.symm, by omega⟩

theorem length_any {w : World} (a : Option Addr) (cap : Nat) (ts : List ByteArray) (hbig : ts.length ≤ 140737488355328) (hsz : ∀ t ∈ ts, t.size ≤ 140737488355328) (h : TextsAt w a ts) :
    Calls Tryz.prog 129 #[.slice a ts.length cap] w fun e w' => LenPost w ts e w' := by
  rcases h.two with rfl | ⟨b, o, rfl, _, _, hc⟩
  · exact length_nil a cap w
  · exact length_some b o cap ts w hbig hsz hc

/-- What the library's Join does. -/
def JoinOK : Prop := ∀ (a : Option Addr) (c : Nat) (ts : List ByteArray) (w : World), TextsAt w a ts → ts.length ≤ c → ts.length ≤ 140737488355328 → lens ts ≤ 1048576 →
  Calls Tryz.prog 131 #[.slice a ts.length c, .string ByteArray.empty] w fun e w' => e = .returned (.string (strOf (joined ts))) ∧ Keeps w w' (fun _ => False)

def writeR (d : AD) (off : Int) (ts : List ByteArray) : Int × AD := if d.goodB off (lens ts : Nat) && decide (lens ts ≤ 1048576) then (0, d.bytes (splice d.bs off.toNat (joined ts))) else (24, d)
/-- No block is greater than 1048576. -/
def AD.small (d : AD) : Prop := ∀ x ∈ d.L, x.2 ≤ 1048576
theorem AD.small_good {d : AD} (h : d.small) {off n : Int} (hn : 1048576 < n) : d.goodB off n = false := by
  cases hg : d.goodB off n
  · rfl
  · obtain ⟨x, hx, _, h0, h1, h2⟩ := AD.goodB_true hg
    have := h x hx
    omega

set_option maxHeartbeats 2000000 in
set_option maxRecDepth 100000 in
theorem awrite_any (hJ : JoinOK) {w : World} {p : Nat} {F : Nat → Prop} {d : AD} (hA : Arena w p F d) (hF : d.Fine) (hS : d.small) (off : Int) (a : Option Addr) (cap : Nat) (ts : List ByteArray) (ho : fitsI off) (hbig : ts.length ≤ 140737488355328) (hcap : ts.length ≤ cap) (hsz : ∀ t ∈ ts, t.size ≤ 140737488355328) (ht : TextsAt w a ts) :
    Calls Tryz.prog 95 #[.pointer (some ⟨p, 0, none⟩), .int .i64 off, .slice a ts.length cap] w fun e w' => ErrPost w p F (writeR d off ts).1 (writeR d off ts).2 e w' := by
  obtain ⟨c, h, hfo⟩ := hA.at
  have hl := length_any a cap ts hbig hsz ht
  have hg := fun (n : Nat) (hn : n ≤ 1125899906842624) => good_any h hF off (n : Int) ho (fitsI_mk (by omega) (by omega))
  unfold writeR
  cases hw : d.goodB off (lens ts : Nat) && decide (lens ts ≤ 1048576)
  · simp only [Bool.false_eq_true, if_false]
    have hno : ∀ n : Nat, (n = lens ts ∨ (1048576 < n ∧ 1048576 < lens ts)) → d.goodB off (n : Int) = false := by
      intro n hn
      rcases hn with rfl | ⟨hn, _⟩
      · by_cases h1 : lens ts ≤ 1048576
        · rw [decide_eq_true h1, Bool.and_true] at hw
          exact hw
        · exact AD.small_good hS (by omega)
      · exact AD.small_good hS (by omega)
    clear hw h hF hS
    go_enter Tryz.func95, Tryz.ntmps95
    go_wp2_with fail
    refine hl.mono ?_
    rintro e w1 ⟨n, rfl, rfl, hn, hnb⟩
    replace hg := hg n hnb
    rw [hno n hn] at hg
    clear hl hno hn
    go_wp2_with fail
    refine hg.mono ?_
    rintro e w2 ⟨rfl, k2⟩
    have T1 := hide (hA.same k2)
    clear hg k2 hA
    go_wp2_with fail
    go_ret
    exact ⟨rfl, T1.out⟩
  · simp only [if_true]
    rw [Bool.and_eq_true, decide_eq_true_eq] at hw
    obtain ⟨hw1, hw2⟩ := hw
    obtain ⟨o, k, rfl, hk, _, hok⟩ := hF.span hw1
    have hlk : lens ts = k := by omega
    subst hlk
    rw [Int.toNat_natCast]
    have hjl := joined_length ts
    go_enter Tryz.func95, Tryz.ntmps95
    go_wp2_with fail
    refine hl.mono ?_
    rintro e w1 ⟨n, rfl, rfl, hn, hnb⟩
    obtain rfl : n = lens ts := by
      rcases hn with e | ⟨_, e⟩
      · exact e
      · omega
    replace hg := hg (lens ts) hnb
    rw [hw1] at hg
    clear hl hn
    go_wp2_with fail
    refine hg.mono ?_
    rintro e w2 ⟨rfl, k2⟩
    have hjn := fun W (kW : Keeps w1 W (fun _ => False)) => hJ a cap ts W (ht.keeps kW) hcap hbig hw2
    have hcell := fun W (kW : Keeps w1 W (fun _ => False)) => (h.keeps kW (fun _ _ e => e)).cell2
    have hcell2 : ∀ W, Keeps w1 W (fun i => i = c.g) → W.cell? ⟨p, 2, none⟩ = some (.pointer (some ⟨c.b, 0, none⟩)) := fun W kW => (World.cell?_of_block (w := w1) (a := ⟨p, 2, none⟩) (kW.block p (heap_lt h.hp) h.p_g)).trans h.cell2
    have hwr : ∀ W V (hh n c' : Nat) (y : List UInt8) (fz : Nat × Nat), Keeps w1 W (fun _ => False) → w1.heap.size ≤ hh → W.heap[hh]? = some (.cells (rowOf (joined ts ++ y)) 5 fz) → n = (joined ts).length → V = W.heap.size →
        Calls Tryz.prog 130 #[.pointer (some ⟨c.b, 0, none⟩), .int .i64 (o : Int), .slice (some ⟨V, 0, none⟩) 1 1] (W.alloc (.cells #[.slice (some ⟨hh, 0, none⟩) n c'] 134)) fun e w' => WritePost (W.alloc (.cells #[.slice (some ⟨hh, 0, none⟩) n c'] 134)) c.b c.g (splice d.bs o (joined ts)) c.sp e w' :=
      fun W V hh n c' y fz kW hhh hr hn hV => write_one_yes (h.mem.keeps kW id id) hr (by have := heap_lt h.mem.hg; omega) hn (by omega) hV (by omega)
    have hend : ∀ W w5 e, Keeps w1 W (fun _ => False) → WritePost W c.b c.g (splice d.bs o (joined ts)) c.sp e w5 → Turned w1 w5 p F (d.bytes (splice d.bs o (joined ts))) := fun W w5 e kW hp => turned_wrote h hfo kW hp
    obtain ⟨S, hSe⟩ : ∃ S, strOf (joined ts) = S := ⟨_, rfl⟩
    have hjz : S.size = (joined ts).length := by rw [← hSe]; simp [strOf, ByteArray.size]
    have hjd : S.data.toList = joined ts := by rw [← hSe]; simp [strOf]
    rw [hSe] at hjn
    have HJZ := hide hjz
    have HJD := hide hjd
    clear hSe hjz hjd hS
    have k2d : Keeps w1 w2.drew (fun _ => False) := k2.drew
    clear hg h hA hJ hF ht hfo
    go_wp2_with fail
    go_region_held (fun w' => w'.cell? ⟨p, 2, none⟩ = some (.pointer (some ⟨c.b, 0, none⟩))) (first | exact hcell _ k2d | exact hcell _ k3 | exact hcell _ k4 | exact hcell _ k5 | exact hcell2 _ k6)
      (first
        | (go_at_call 131; refine (hjn _ k2d).mono ?_; rintro e w3 ⟨rfl, k3'⟩; have k3 := k2d.trans k3' (fun _ _ e => e); obtain ⟨w4, c4, fz, hconv, k4', hs4, hr4⟩ := bytes_of (P := Tryz.prog) w3 9 134 5 S Tryz.underlying9 Tryz.underlying134 Tryz.underlying5; have k4 := k3.trans k4' (fun _ _ e => e); have k5 : Keeps w1 (w4.alloc (.cells #[.slice (some ⟨w3.heap.size, 0, none⟩) S.size c4] 134)) (fun _ => False) := k4.alloc _)
        | (go_at_call 130; refine (hwr w4 _ w3.heap.size _ c4 _ fz k4 k3.size (by rw [HJD.out] at hr4; exact hr4) HJZ.out hs4.symm).mono ?_; intro e w5 hp5; have T1 := hide (hend _ _ _ k5 hp5); have k6 : Keeps w1 w5 (fun i => i = c.g) := (k5.mono (fun _ _ e => e.elim)).trans hp5.2.2 (fun _ _ e => e); obtain ⟨rfl, _, _⟩ := hp5))
    all_goals go_wp2_with fail
    all_goals go_ret
    all_goals exact ⟨rfl, T1.out⟩
end Go.Proofs.YtgckinldnnckoaaGreatDoor
/-
  Layouts as data: the document's words of chapter 3, as functions of numbers. Nothing here names the program.
-/
namespace Go.Proofs.YtgckinldnnckoaaGreatDoor.Ly
open Go.RowKit

/-- A power of two from lo to hi. -/
def pw (n lo hi : Int) : Bool := decide (lo ≤ n ∧ n ≤ hi ∧ (n.toNat &&& (n.toNat - 1)) = 0)
/-- May a width w have the alignment a? -/
def al (w a : Int) : Bool := pw a 1 8 && decide (w % a = 0)
def errN (k e a b c : Int) : Int :=
  if k < 1 ∨ 128 < k then 31 else if e < 0 ∨ 128 < e then 32 else if al k a = false ∨ al e b = false then 33 else if pw c 16 1024 = false then 34 else 0
/-- x raised to a. -/
def up (x a : Int) : Int := (x + a - 1) / a * a
structure Lay where
  k : Int
  e : Int
  a : Int
  b : Int
  c : Int
  eo : Int
  bo : Int
  s : Int
  g : Int
deriving DecidableEq
def Lay.zero : Lay := ⟨0, 0, 0, 0, 0, 0, 0, 0, 0⟩
def slotOf (k e b : Int) : Int := up (up k b + e) 8 + 8
def laidD (k e a b c : Int) : Lay := ⟨k, e, a, b, c, up k b, up (up k b + e) 8, slotOf k e b, 8 + 8 * slotOf k e b⟩
def Lay.val (l : Lay) : Value := .agg #[.int .i64 l.k, .int .i64 l.e, .int .i64 l.a, .int .i64 l.b, .int .i64 l.c, .int .i64 l.eo, .int .i64 l.bo, .int .i64 l.s, .int .i64 l.g]
def parseD : List Int → Lay × Int
  | [k, e, a, b, c] => if errN k e a b c = 0 then (laidD k e a b c, 0) else (Lay.zero, errN k e a b c)
  | _ => (Lay.zero, 30)
def validB (l : Lay) : Bool := decide (errN l.k l.e l.a l.b l.c = 0 ∧ l = laidD l.k l.e l.a l.b l.c)

theorem two_pow_of {n : Nat} (h0 : n ≠ 0) (h : n &&& (n - 1) = 0) : ∃ k, n = 2 ^ k := (Nat.and_sub_one_eq_zero_iff_isPowerOfTwo h0).1 h
theorem pw8 {a : Int} : pw a 1 8 = true ↔ a = 1 ∨ a = 2 ∨ a = 4 ∨ a = 8 := by
  unfold pw
  rw [decide_eq_true_iff]
  constructor
  · rintro ⟨h1, h2, h3⟩
    obtain ⟨n, rfl⟩ := Int.eq_ofNat_of_zero_le (show 0 ≤ a by omega)
    have h2' : n < 9 := by omega
    have h1' : 1 ≤ n := by omega
    have : ∀ m : Fin 9, 1 ≤ m.val → m.val &&& (m.val - 1) = 0 → m.val = 1 ∨ m.val = 2 ∨ m.val = 4 ∨ m.val = 8 := by decide
    have := this ⟨n, h2'⟩ h1' h3
    simp only at this
    omega
  · rintro (rfl | rfl | rfl | rfl) <;> decide
theorem pwCap {c : Int} : pw c 16 1024 = true ↔ c = 16 ∨ c = 32 ∨ c = 64 ∨ c = 128 ∨ c = 256 ∨ c = 512 ∨ c = 1024 := by
  unfold pw
  rw [decide_eq_true_iff]
  constructor
  · rintro ⟨h1, h2, h3⟩
    obtain ⟨n, rfl⟩ := Int.eq_ofNat_of_zero_le (show 0 ≤ c by omega)
    obtain ⟨j, hj⟩ := two_pow_of (by omega) h3
    have hj' : n = 2 ^ j := hj
    have hlt : j < 11 := by
      refine Nat.lt_of_not_le fun hge => ?_
      have := Nat.pow_le_pow_right (show 0 < 2 by omega) hge
      omega
    have : ∀ m : Fin 11, 16 ≤ 2 ^ m.val → 2 ^ m.val = 16 ∨ 2 ^ m.val = 32 ∨ 2 ^ m.val = 64 ∨ 2 ^ m.val = 128 ∨ 2 ^ m.val = 256 ∨ 2 ^ m.val = 512 ∨ 2 ^ m.val = 1024 := by decide
    have := this ⟨j, hlt⟩ (by show 16 ≤ 2 ^ j; omega)
    simp only at this
    omega
  · rintro (rfl | rfl | rfl | rfl | rfl | rfl | rfl) <;> decide
theorem pwSlots {s : Int} : pw s 8 65536 = true ↔ s = 8 ∨ s = 16 ∨ s = 32 ∨ s = 64 ∨ s = 128 ∨ s = 256 ∨ s = 512 ∨ s = 1024 ∨ s = 2048 ∨ s = 4096 ∨ s = 8192 ∨ s = 16384 ∨ s = 32768 ∨ s = 65536 := by
  unfold pw
  rw [decide_eq_true_iff]
  constructor
  · rintro ⟨h1, h2, h3⟩
    obtain ⟨n, rfl⟩ := Int.eq_ofNat_of_zero_le (show 0 ≤ s by omega)
    obtain ⟨j, hj⟩ := two_pow_of (by omega) h3
    have hj' : n = 2 ^ j := hj
    have hlt : j < 17 := by
      refine Nat.lt_of_not_le fun hge => ?_
      have := Nat.pow_le_pow_right (show 0 < 2 by omega) hge
      omega
    have : ∀ m : Fin 17, 8 ≤ 2 ^ m.val → 2 ^ m.val = 8 ∨ 2 ^ m.val = 16 ∨ 2 ^ m.val = 32 ∨ 2 ^ m.val = 64 ∨ 2 ^ m.val = 128 ∨ 2 ^ m.val = 256 ∨ 2 ^ m.val = 512 ∨ 2 ^ m.val = 1024 ∨ 2 ^ m.val = 2048 ∨ 2 ^ m.val = 4096 ∨ 2 ^ m.val = 8192 ∨ 2 ^ m.val = 16384 ∨ 2 ^ m.val = 32768 ∨ 2 ^ m.val = 65536 := by decide
    have := this ⟨j, hlt⟩ (by show 8 ≤ 2 ^ j; omega)
    simp only at this
    omega
  · rintro (rfl | rfl | rfl | rfl | rfl | rfl | rfl | rfl | rfl | rfl | rfl | rfl | rfl | rfl) <;> decide

/-- The model's '&' of n and n - 1. -/
theorem and_pred (n : Nat) (h1 : 1 ≤ n) (h2 : n < 9223372036854775808) : IntKind.i64.wrap (((BitVec.ofInt 64 (n : Int)) &&& (BitVec.ofInt 64 ((n : Int) - 1))).toNat : Int) = ((n &&& (n - 1) : Nat) : Int) := by
  have e1 : BitVec.ofInt 64 (n : Int) = BitVec.ofNat 64 n := by simp
  have e2 : BitVec.ofInt 64 ((n : Int) - 1) = BitVec.ofNat 64 (n - 1) := by
    rw [show (n : Int) - 1 = ((n - 1 : Nat) : Int) by omega]
    simp
  rw [e1, e2, BitVec.toNat_and, BitVec.toNat_ofNat, BitVec.toNat_ofNat, Nat.mod_eq_of_lt (by omega), Nat.mod_eq_of_lt (by omega)]
  have : n &&& (n - 1) ≤ n := Nat.and_le_left
  rw [IntKind.wrap_i64]
  omega
theorem up_and (a : Nat) (ha : a = 1 ∨ a = 2 ∨ a = 4 ∨ a = 8) (x : Nat) (h : x ≤ 300) : IntKind.i64.wrap (((BitVec.ofInt 64 ((x : Int) + (a : Int) - 1)) &&& ~~~ (BitVec.ofInt 64 ((a : Int) - 1))).toNat : Int) = up (x : Int) (a : Int) := by
  have key : ∀ m : Fin 301, IntKind.i64.wrap (((BitVec.ofInt 64 (((m.val : Nat) : Int) + 1 - 1)) &&& ~~~ (BitVec.ofInt 64 ((1 : Int) - 1))).toNat : Int) = up ((m.val : Nat) : Int) 1 ∧
      IntKind.i64.wrap (((BitVec.ofInt 64 (((m.val : Nat) : Int) + 2 - 1)) &&& ~~~ (BitVec.ofInt 64 ((2 : Int) - 1))).toNat : Int) = up ((m.val : Nat) : Int) 2 ∧
      IntKind.i64.wrap (((BitVec.ofInt 64 (((m.val : Nat) : Int) + 4 - 1)) &&& ~~~ (BitVec.ofInt 64 ((4 : Int) - 1))).toNat : Int) = up ((m.val : Nat) : Int) 4 ∧
      IntKind.i64.wrap (((BitVec.ofInt 64 (((m.val : Nat) : Int) + 8 - 1)) &&& ~~~ (BitVec.ofInt 64 ((8 : Int) - 1))).toNat : Int) = up ((m.val : Nat) : Int) 8 := by
    decide +kernel
  have := key ⟨x, by omega⟩
  rcases ha with rfl | rfl | rfl | rfl
  · exact this.1
  · exact this.2.1
  · exact this.2.2.1
  · exact this.2.2.2
end Go.Proofs.YtgckinldnnckoaaGreatDoor.Ly
namespace Go.Proofs.YtgckinldnnckoaaGreatDoor.Ly
open Go.RowKit

theorem power_any (n lo hi : Int) (w : World) (hlo : 1 ≤ lo) (hhi : hi ≤ 1000000) :
    Calls Tryz.prog 106 #[.int .i64 n, .int .i64 lo, .int .i64 hi] w fun e w' => e = .returned (.bool (pw n lo hi)) ∧ w' = w := by
  by_cases h1 : lo ≤ n
  · by_cases h2 : n ≤ hi
    · obtain ⟨m, rfl⟩ := Int.eq_ofNat_of_zero_le (show 0 ≤ n by omega)
      have hp : bits .and .i64 (m : Int) ((m : Int) - 1) = ((m &&& (m - 1) : Nat) : Int) := and_pred m (by omega) (by omega)
      go_enter Tryz.func106, Tryz.ntmps106
      go_wp2
      go_ret
      refine ⟨?_, rfl⟩
      have e : ((((m &&& (m - 1) : Nat) : Int) == 0) : Bool) = decide (lo ≤ (m : Int) ∧ (m : Int) ≤ hi ∧ ((m : Int).toNat &&& ((m : Int).toNat - 1)) = 0) := by
        rw [Int.toNat_natCast, Bool.eq_iff_iff, beq_iff_eq, decide_eq_true_iff]
        constructor
        · exact fun h => ⟨h1, h2, by omega⟩
        · exact fun h => by rw [h.2.2]; rfl
      exact congrArg (fun b => Ending.returned (Value.bool b)) e
    · have e : pw n lo hi = false := decide_eq_false (fun h => h2 h.2.1)
      rw [e]
      have h2' : ¬ n ≤ hi := h2
      go_enter Tryz.func106, Tryz.ntmps106
      go_wp2
      go_ret
      exact ⟨rfl, rfl⟩
  · have e : pw n lo hi = false := decide_eq_false (fun h => h1 h.1)
    rw [e]
    go_enter Tryz.func106, Tryz.ntmps106
    go_wp2
    go_ret
    exact ⟨rfl, rfl⟩

theorem aligned_any (x a : Int) (w : World) (h0 : 0 ≤ x) (h1 : x ≤ 128) :
    Calls Tryz.prog 191 #[.int .i64 x, .int .i64 a] w fun e w' => e = .returned (.bool (al x a)) ∧ w' = w := by
  have hp := power_any a 1 8 w (by omega) (by omega)
  cases hq : pw a 1 8
  · have e : al x a = false := by unfold al; rw [hq]; rfl
    rw [hq] at hp
    rw [e]
    go_enter Tryz.func191, Tryz.ntmps191
    go_wp2_with fail
    refine hp.mono ?_
    rintro e w' ⟨rfl, rfl⟩
    clear hp
    go_wp2_with fail
    go_ret
    exact ⟨rfl, rfl⟩
  · have e : al x a = decide (x % a = 0) := by unfold al; rw [hq]; rfl
    rw [hq] at hp
    rw [e]
    have ha := pw8.1 hq
    have ha1 : 1 ≤ a := by omega
    have ha2 : a ≤ 8 := by omega
    have hne : ¬ a = 0 := by omega
    go_enter Tryz.func191, Tryz.ntmps191
    go_wp2_with fail
    refine hp.mono ?_
    rintro e w' ⟨rfl, rfl⟩
    clear hp
    go_wp2_with fail
    go_ret
    refine ⟨?_, rfl⟩
    exact congrArg (fun b => Ending.returned (Value.bool b)) (by rw [Bool.eq_iff_iff, beq_iff_eq, decide_eq_true_iff])

theorem raised_any (x a : Int) (w : World) (h0 : 0 ≤ x) (h1 : x ≤ 300) (ha : a = 1 ∨ a = 2 ∨ a = 4 ∨ a = 8) :
    Calls Tryz.prog 192 #[.int .i64 x, .int .i64 a] w fun e w' => e = .returned (.int .i64 (up x a)) ∧ w' = w := by
  obtain ⟨m, rfl⟩ := Int.eq_ofNat_of_zero_le h0
  obtain ⟨n, rfl⟩ := Int.eq_ofNat_of_zero_le (show 0 ≤ a by omega)
  have hp : bits .andNot .i64 ((m : Int) + (n : Int) - 1) ((n : Int) - 1) = up (m : Int) (n : Int) := up_and n (by omega) m (by omega)
  have hn : n ≤ 8 := by omega
  have hn1 : 1 ≤ n := by omega
  clear ha
  go_enter Tryz.func192, Tryz.ntmps192
  go_wp2
  go_ret
  exact ⟨rfl, rfl⟩
end Go.Proofs.YtgckinldnnckoaaGreatDoor.Ly
namespace Go.Proofs.YtgckinldnnckoaaGreatDoor.Ly
open Go.RowKit

/-- What was there stays; what is new may be anything. -/
def Kp (w w' : World) : Prop := Below w.heap.size w w'
theorem Kp.refl (w : World) : Kp w w := Below.refl _ _
theorem Kp.trans {w w1 w2 : World} (h : Kp w w1) (k : Kp w1 w2) : Kp w w2 := Below.trans h (Below.mono k h.size)
theorem Kp.alloc {w w1 : World} (h : Kp w w1) (o : Obj) : Kp w (w1.alloc o) := Below.alloc h h.size o
theorem Kp.drew {w w1 : World} (h : Kp w w1) : Kp w w1.drew := Below.drew h
theorem Kp.cell {w w1 : World} (h : Kp w w1) {p : Addr} {v : Value} (hp : w.cell? p = some v) : w1.cell? p = some v := by
  have : p.block < w.heap.size := by
    refine Nat.lt_of_not_le fun hn => ?_
    rw [World.cell?, Array.getElem?_eq_none hn] at hp
    cases hp
  exact (Below.cell h this).trans hp

set_option maxHeartbeats 1000000 in
theorem refused_any (k e a b c x1 x2 x3 x4 : Int) (w : World) :
    Calls Tryz.prog 172 #[.agg #[.int .i64 k, .int .i64 e, .int .i64 a, .int .i64 b, .int .i64 c, .int .i64 x1, .int .i64 x2, .int .i64 x3, .int .i64 x4]] w
      fun r w' => r = .returned (.int .i64 (errN k e a b c)) ∧ Kp w w' := by
  by_cases hk : k < 1 ∨ 128 < k
  · have he : errN k e a b c = 31 := by unfold errN; rw [if_pos hk]
    rw [he]
    rcases hk with hk | hk
    · go_enter Tryz.func172, Tryz.ntmps172
      go_wp2_with fail
      go_ret
      refine ⟨rfl, ?_⟩
      repeat first | exact Below.refl _ _ | refine Below.alloc ?_ (by simp <;> omega) _ | refine Below.setCell ?_ (by simp <;> omega) _
    · have hk' : ¬ k < 1 := by omega
      go_enter Tryz.func172, Tryz.ntmps172
      go_wp2_with fail
      go_ret
      refine ⟨rfl, ?_⟩
      repeat first | exact Below.refl _ _ | refine Below.alloc ?_ (by simp <;> omega) _ | refine Below.setCell ?_ (by simp <;> omega) _
  have hk1 : ¬ k < 1 := fun h => hk (Or.inl h)
  have hk2 : ¬ 128 < k := fun h => hk (Or.inr h)
  by_cases hm : e < 0 ∨ 128 < e
  · have he : errN k e a b c = 32 := by unfold errN; rw [if_neg hk, if_pos hm]
    rw [he]
    clear hk
    rcases hm with hm | hm
    · go_enter Tryz.func172, Tryz.ntmps172
      go_wp2_with fail
      go_ret
      refine ⟨rfl, ?_⟩
      repeat first | exact Below.refl _ _ | refine Below.alloc ?_ (by simp <;> omega) _ | refine Below.setCell ?_ (by simp <;> omega) _
    · have hm' : ¬ e < 0 := by omega
      go_enter Tryz.func172, Tryz.ntmps172
      go_wp2_with fail
      go_ret
      refine ⟨rfl, ?_⟩
      repeat first | exact Below.refl _ _ | refine Below.alloc ?_ (by simp <;> omega) _ | refine Below.setCell ?_ (by simp <;> omega) _
  have hm1 : ¬ e < 0 := fun h => hm (Or.inl h)
  have hm2 : ¬ 128 < e := fun h => hm (Or.inr h)
  have hA := fun W => aligned_any k a W (by omega) (by omega)
  have hB := fun W => aligned_any e b W (by omega) (by omega)
  have hC := fun W => power_any c 16 1024 W (by omega) (by omega)
  cases hqa : al k a
  · have he : errN k e a b c = 33 := by unfold errN; rw [if_neg hk, if_neg hm, if_pos (Or.inl hqa)]
    rw [he]
    simp only [hqa] at hA
    clear hk hm hB hC hqa he
    go_enter Tryz.func172, Tryz.ntmps172
    go_wp2_with fail
    refine (hA _).mono ?_
    rintro r w' ⟨rfl, rfl⟩
    clear hA
    go_wp2_with fail
    go_ret
    refine ⟨rfl, ?_⟩
    repeat first | exact Below.refl _ _ | refine Below.alloc ?_ (by simp <;> omega) _ | refine Below.setCell ?_ (by simp <;> omega) _
  cases hqb : al e b
  · have he : errN k e a b c = 33 := by unfold errN; rw [if_neg hk, if_neg hm, if_pos (Or.inr hqb)]
    rw [he]
    simp only [hqa] at hA
    simp only [hqb] at hB
    clear hk hm hC hqa hqb he
    go_enter Tryz.func172, Tryz.ntmps172
    go_wp2_with fail
    refine (hA _).mono ?_
    rintro r w' ⟨rfl, rfl⟩
    clear hA
    go_wp2_with fail
    refine (hB _).mono ?_
    rintro r w' ⟨rfl, rfl⟩
    clear hB
    go_wp2_with fail
    go_ret
    refine ⟨rfl, ?_⟩
    repeat first | exact Below.refl _ _ | refine Below.alloc ?_ (by simp <;> omega) _ | refine Below.setCell ?_ (by simp <;> omega) _
  have hno : ¬ (al k a = false ∨ al e b = false) := by rw [hqa, hqb]; simp
  cases hqc : pw c 16 1024
  · have he : errN k e a b c = 34 := by unfold errN; rw [if_neg hk, if_neg hm, if_neg hno, if_pos hqc]
    rw [he]
    simp only [hqa] at hA
    simp only [hqb] at hB
    simp only [hqc] at hC
    clear hk hm hno hqa hqb hqc he
    go_enter Tryz.func172, Tryz.ntmps172
    go_wp2_with fail
    refine (hA _).mono ?_
    rintro r w' ⟨rfl, rfl⟩
    clear hA
    go_wp2_with fail
    refine (hB _).mono ?_
    rintro r w' ⟨rfl, rfl⟩
    clear hB
    go_wp2_with fail
    refine (hC _).mono ?_
    rintro r w' ⟨rfl, rfl⟩
    clear hC
    go_wp2_with fail
    go_ret
    refine ⟨rfl, ?_⟩
    repeat first | exact Below.refl _ _ | refine Below.alloc ?_ (by simp <;> omega) _ | refine Below.setCell ?_ (by simp <;> omega) _
  · have he : errN k e a b c = 0 := by unfold errN; rw [if_neg hk, if_neg hm, if_neg hno, if_neg (by rw [hqc]; simp)]
    rw [he]
    simp only [hqa] at hA
    simp only [hqb] at hB
    simp only [hqc] at hC
    clear hk hm hno hqa hqb hqc he
    go_enter Tryz.func172, Tryz.ntmps172
    go_wp2_with fail
    refine (hA _).mono ?_
    rintro r w' ⟨rfl, rfl⟩
    clear hA
    go_wp2_with fail
    refine (hB _).mono ?_
    rintro r w' ⟨rfl, rfl⟩
    clear hB
    go_wp2_with fail
    refine (hC _).mono ?_
    rintro r w' ⟨rfl, rfl⟩
    clear hC
    go_wp2_with fail
    go_ret
    refine ⟨rfl, ?_⟩
    repeat first | exact Below.refl _ _ | refine Below.alloc ?_ (by simp <;> omega) _ | refine Below.setCell ?_ (by simp <;> omega) _

theorem errN_zero {k e a b c : Int} (h : errN k e a b c = 0) : 1 ≤ k ∧ k ≤ 128 ∧ 0 ≤ e ∧ e ≤ 128 ∧ al k a = true ∧ al e b = true ∧ pw c 16 1024 = true := by
  unfold errN at h
  split at h
  · omega
  split at h
  · omega
  split at h
  · omega
  split at h
  · omega
  rename_i h1 h2 h3 h4
  refine ⟨by omega, by omega, by omega, by omega, ?_, ?_, by simpa using h4⟩
  · cases hq : al k a
    · exact absurd (Or.inl hq) h3
    · rfl
  · cases hq : al e b
    · exact absurd (Or.inr hq) h3
    · rfl
theorem al_one {x a : Int} (h : al x a = true) : (a = 1 ∨ a = 2 ∨ a = 4 ∨ a = 8) ∧ x % a = 0 := by
  unfold al at h
  rw [Bool.and_eq_true, decide_eq_true_iff] at h
  exact ⟨pw8.1 h.1, h.2⟩
theorem up_bound {x a : Int} (ha : a = 1 ∨ a = 2 ∨ a = 4 ∨ a = 8) : x ≤ up x a ∧ up x a < x + a ∧ up x a % a = 0 := by
  unfold up
  rcases ha with rfl | rfl | rfl | rfl <;> omega

set_option maxHeartbeats 1000000 in
theorem laid_any (k e a b c x1 x2 x3 x4 : Int) (w : World) (h : errN k e a b c = 0) :
    Calls Tryz.prog 173 #[.agg #[.int .i64 k, .int .i64 e, .int .i64 a, .int .i64 b, .int .i64 c, .int .i64 x1, .int .i64 x2, .int .i64 x3, .int .i64 x4]] w
      fun r w' => r = .returned (laidD k e a b c).val ∧ Kp w w' := by
  obtain ⟨h1, h2, h3, h4, h5, h6, h7⟩ := errN_zero h
  have hb := (al_one h6).1
  have u1 := up_bound (x := k) hb
  have u2 := up_bound (x := up k b + e) (a := 8) (by omega)
  have hR := fun W => raised_any k b W (by omega) (by omega) hb
  have hS := fun W => raised_any (up k b + e) 8 W (by omega) (by omega) (by omega)
  have e1 : up (up k b + e) 8 + 8 = slotOf k e b := rfl
  have hs0 : 0 ≤ slotOf k e b := by omega
  have hs1 : slotOf k e b ≤ 1000 := by omega
  unfold Lay.val laidD
  rw [← e1] at hs0 hs1 ⊢
  generalize hX : up k b = X at *
  generalize hY : up (X + e) 8 = Y at *
  have hX0 : 0 ≤ X := by omega
  have hX1 : X ≤ 200 := by omega
  have hY1 : Y ≤ 1000 := by omega
  have hY0 : 0 ≤ Y := by omega
  clear u1 u2 h5 h6 h7 h hb hX hY e1 hs0 hs1
  go_enter Tryz.func173, Tryz.ntmps173
  go_wp2_with fail
  refine (hR _).mono ?_
  rintro r w' ⟨rfl, rfl⟩
  clear hR
  go_wp2_with fail
  refine (hS _).mono ?_
  rintro r w' ⟨rfl, rfl⟩
  clear hS
  go_wp2_with fail
  refine bodyPost_ret (v := .agg #[.int .i64 k, .int .i64 e, .int .i64 a, .int .i64 b, .int .i64 c, .int .i64 X, .int .i64 Y, .int .i64 (Y + 8), .int .i64 (8 + 8 * (Y + 8))]) (by simp [results, Tryz.results173, go_sem]) rfl ⟨rfl, ?_⟩
  repeat first | exact Below.refl _ _ | refine Below.alloc ?_ (by simp <;> omega) _ | refine Below.setCell ?_ (by simp <;> omega) _
end Go.Proofs.YtgckinldnnckoaaGreatDoor.Ly
