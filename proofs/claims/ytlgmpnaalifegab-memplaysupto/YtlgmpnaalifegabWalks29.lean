import Derived.Test.YtlgmpnaalifegabWalks28
import Derived.Test.YtlgmpnaalifegabWMemLists
namespace Go.Proofs.Ytlgmpnaalifegab
open Go.RowKit

/-- The program's memory beside the reference's: F are their blocks. -/
structure PairAt (B : Nat) (w : World) (b rb : Nat) (F : Nat → Prop) (bs : List UInt8) (xs : List ActD) (g : Nat) (sp : List UInt8) (av : Value) : Prop where
  m : MemAt 60 5 w b g bs sp
  r : RefAt B w rb bs.length av xs
  t : Told xs bs
  fb : F b
  fg : F g
  frb : F rb
  fav : ∀ k, av.ownBlock = some k → F k
  low : ∀ k, F k → k < w.heap.size ∧ B ≤ k
theorem PairAt.keeps {B : Nat} {w w' : World} {b rb : Nat} {F S : Nat → Prop} {bs : List UInt8} {xs : List ActD} {g : Nat} {sp : List UInt8} {av : Value} (p : PairAt B w b rb F bs xs g sp av) (k : Keeps w w' S) (h : ∀ i, F i → ¬ S i) : PairAt B w' b rb F bs xs g sp av :=
  ⟨p.m.keeps k (h _ p.fb) (h _ p.fg), p.r.keeps k (h _ p.frb) (fun i hi => h _ (p.fav i hi)), p.t, p.fb, p.fg, p.frb, p.fav, fun i hi => ⟨Nat.lt_of_lt_of_le (p.low i hi).1 k.size, (p.low i hi).2⟩⟩
theorem PairAt.keepsNone {B : Nat} {w w' : World} {b rb : Nat} {F : Nat → Prop} {bs : List UInt8} {xs : List ActD} {g : Nat} {sp : List UInt8} {av : Value} (p : PairAt B w b rb F bs xs g sp av) (k : Keeps w w' (fun _ => False)) : PairAt B w' b rb F bs xs g sp av := p.keeps k (fun _ _ => id)
/-- The blocks of the memory are not those of the reference. -/
theorem PairAt.apart {B : Nat} {w : World} {b rb : Nat} {F : Nat → Prop} {bs : List UInt8} {xs : List ActD} {g : Nat} {sp : List UInt8} {av : Value} (p : PairAt B w b rb F bs xs g sp av) :
    rb ≠ b ∧ rb ≠ g ∧ (∀ k, av.ownBlock = some k → k ≠ b ∧ k ≠ g) := by
  refine ⟨fun e => ?_, fun e => ?_, fun k hk => ⟨fun e => ?_, fun e => ?_⟩⟩
  · have h := p.r.hb
    rw [e, p.m.hb] at h
    injection h with h
    injection h with _ h
    exact absurd h (by decide)
  · have h := p.r.hb
    rw [e, p.m.hg] at h
    injection h with h
    injection h with _ h
    exact absurd h (by decide)
  · subst e
    exact absurd (p.r.own_ne hk p.m.hb) (by decide)
  · subst e
    exact absurd (p.r.own_ne hk p.m.hg) (by decide)

/-- A call that changes nothing. -/
def AskPost (w : World) (e : Ending) (w' : World) : Prop := e = .returned (.bool true) ∧ Keeps w w' (fun _ => False)

abbrev opArg (kd mm A C N : Int) (V : Nat) (ao : Option Addr) (n cap : Nat) : Value := .agg #[.int .i64 kd, .int .i64 mm, .int .i64 A, .int .i64 C, .int .i64 N, .int .u64 (V : Int), .slice ao n cap]

set_option maxHeartbeats 1000000 in
theorem asks_len {B : Nat} {w : World} {b rb : Nat} {F : Nat → Prop} {bs : List UInt8} {xs : List ActD} {g : Nat} {sp : List UInt8} {av : Value} (p : PairAt B w b rb F bs xs g sp av) (mm A C N : Int) (V : Nat) (ao : Option Addr) (n cap : Nat) :
    Calls Try.prog 33 #[.pointer (some ⟨b, 0, none⟩), .pointer (some ⟨rb, 0, none⟩), opArg 1 mm A C N V ao n cap] w fun e w' => AskPost w e w' := by
  have k1 : Keeps w (w.alloc (.cells (opCells 1 mm A C N V ao n cap) 47)) (fun _ => False) := (Keeps.refl _ _).alloc _
  have p1 := p.keepsNone k1
  have hlen := fun W (m : MemAt 60 5 W b g bs sp) => len_any W b g bs sp m
  have hc0 := p1.r.cell0
  have hl : bs.length ≤ 134217728 := p.r.hsz
  have m1 := p1.m
  have hb : ((bs.length : Int) == (bs.length : Int)) = true := by simp
  unfold opCells at k1 m1 hc0
  clear p p1
  go_enter Try.func33, Try.ntmps33
  go_wp2_with fail
  go_region_with (go_at_call 17; refine (hlen _ ?_).mono ?_; exact m1.drew; rintro e w3 ⟨rfl, hw3⟩; subst hw3)
  all_goals
    go_wp2_with fail
    go_ret
    exact ⟨rfl, k1.drew⟩

set_option maxHeartbeats 1000000 in
theorem asks_load {B : Nat} {w : World} {b rb : Nat} {F : Nat → Prop} {bs : List UInt8} {xs : List ActD} {g : Nat} {sp : List UInt8} {av : Value} (p : PairAt B w b rb F bs xs g sp av) (mm A C N : Int) (V : Nat) (ao : Option Addr) (n cap : Nat) (h : widthB N = true) (h2 : insideB bs.length A N = true) :
    Calls Try.prog 33 #[.pointer (some ⟨b, 0, none⟩), .pointer (some ⟨rb, 0, none⟩), opArg 3 mm A C N V ao n cap] w fun e w' => AskPost w e w' := by
  obtain ⟨o, k, rfl, rfl, hok⟩ := insideB_nat h2
  have k1 : Keeps w (w.alloc (.cells (opCells 3 mm o C k V ao n cap) 47)) (fun _ => False) := (Keeps.refl _ _).alloc _
  have p1 := p.keepsNone k1
  have h3 := load_yes _ b g bs sp p1.m o k h hok
  have h4 := rload_yes p1.r p1.t rfl o k h hok
  have hlt := numOf_lt ((bs.drop o).take k)
  generalize numOf ((bs.drop o).take k) = X at *
  have hb : ((X : Int) == (X : Int)) = true := by simp
  unfold opCells at k1 h3 h4
  clear p p1
  go_enter Try.func33, Try.ntmps33
  go_wp2_with fail
  refine h3.mono ?_
  rintro e w2 ⟨rfl, hw⟩
  subst hw
  clear h3
  go_wp2_with fail
  refine h4.mono ?_
  rintro e w2 ⟨rfl, k2⟩
  clear h4
  go_wp2_with fail
  go_ret
  exact ⟨rfl, k1.trans k2 (fun _ _ x => x)⟩

set_option maxHeartbeats 1000000 in
theorem asks_load_width {B : Nat} {w : World} {b rb : Nat} {F : Nat → Prop} {bs : List UInt8} {xs : List ActD} {g : Nat} {sp : List UInt8} {av : Value} (p : PairAt B w b rb F bs xs g sp av) (mm A C N : Int) (V : Nat) (ao : Option Addr) (n cap : Nat) (h : widthB N = false) :
    Calls Try.prog 33 #[.pointer (some ⟨b, 0, none⟩), .pointer (some ⟨rb, 0, none⟩), opArg 3 mm A C N V ao n cap] w fun e w' => AskPost w e w' := by
  have k1 : Keeps w (w.alloc (.cells (opCells 3 mm A C N V ao n cap) 47)) (fun _ => False) := (Keeps.refl _ _).alloc _
  have p1 := p.keepsNone k1
  have h3 := load_width (w.alloc (.cells (opCells 3 mm A C N V ao n cap) 47)) (.pointer (some ⟨b, 0, none⟩)) A N h
  have h4 := rload_width (w.alloc (.cells (opCells 3 mm A C N V ao n cap) 47)) (.pointer (some ⟨rb, 0, none⟩)) A N h
  unfold opCells at k1 h3 h4
  clear p p1
  go_enter Try.func33, Try.ntmps33
  go_wp2_with fail
  refine h3.mono ?_
  rintro e w2 ⟨rfl, hw⟩
  subst hw
  clear h3
  go_wp2_with fail
  refine h4.mono ?_
  rintro e w2 ⟨rfl, k2⟩
  subst k2
  clear h4
  go_wp2_with fail
  go_ret
  exact ⟨rfl, k1⟩

set_option maxHeartbeats 1000000 in
theorem asks_load_out {B : Nat} {w : World} {b rb : Nat} {F : Nat → Prop} {bs : List UInt8} {xs : List ActD} {g : Nat} {sp : List UInt8} {av : Value} (p : PairAt B w b rb F bs xs g sp av) (mm A C N : Int) (V : Nat) (ao : Option Addr) (n cap : Nat) (h : widthB N = true) (h2 : insideB bs.length A N = false) :
    Calls Try.prog 33 #[.pointer (some ⟨b, 0, none⟩), .pointer (some ⟨rb, 0, none⟩), opArg 3 mm A C N V ao n cap] w fun e w' => AskPost w e w' := by
  have k1 : Keeps w (w.alloc (.cells (opCells 3 mm A C N V ao n cap) 47)) (fun _ => False) := (Keeps.refl _ _).alloc _
  have p1 := p.keepsNone k1
  have h3 := load_out _ b g bs sp p1.m A N h h2
  have h4 := rload_out p1.r A N h h2
  unfold opCells at k1 h3 h4
  clear p p1
  go_enter Try.func33, Try.ntmps33
  go_wp2_with fail
  refine h3.mono ?_
  rintro e w2 ⟨rfl, hw⟩
  subst hw
  clear h3
  go_wp2_with fail
  refine h4.mono ?_
  rintro e w2 ⟨rfl, k2⟩
  subst k2
  clear h4
  go_wp2_with fail
  go_ret
  exact ⟨rfl, k1⟩

set_option maxHeartbeats 1000000 in
theorem asks_equal_no {B : Nat} {w : World} {b rb : Nat} {F : Nat → Prop} {bs : List UInt8} {xs : List ActD} {g : Nat} {sp : List UInt8} {av : Value} (p : PairAt B w b rb F bs xs g sp av) (mm A C N : Int) (V : Nat) (ao : Option Addr) (n cap : Nat) (h : (insideB bs.length A N && insideB bs.length C N) = false) :
    Calls Try.prog 33 #[.pointer (some ⟨b, 0, none⟩), .pointer (some ⟨rb, 0, none⟩), opArg 7 mm A C N V ao n cap] w fun e w' => AskPost w e w' := by
  have k1 : Keeps w (w.alloc (.cells (opCells 7 mm A C N V ao n cap) 47)) (fun _ => False) := (Keeps.refl _ _).alloc _
  have p1 := p.keepsNone k1
  have h3 := equal_no _ b g bs sp p1.m A C N h
  have h4 := requal_no p1.r A C N h
  unfold opCells at k1 h3 h4
  clear p p1
  go_enter Try.func33, Try.ntmps33
  go_wp2_with fail
  refine h3.mono ?_
  rintro e w2 ⟨rfl, hw⟩
  subst hw
  clear h3
  go_wp2_with fail
  refine h4.mono ?_
  rintro e w2 ⟨rfl, k2⟩
  subst k2
  clear h4
  go_wp2_with fail
  go_ret
  exact ⟨rfl, k1⟩

set_option maxHeartbeats 1000000 in
theorem asks_equal_yes {B : Nat} {w : World} {b rb : Nat} {F : Nat → Prop} {bs : List UInt8} {xs : List ActD} {g : Nat} {sp : List UInt8} {av : Value} (p : PairAt B w b rb F bs xs g sp av) (mm A C N : Int) (V : Nat) (ao : Option Addr) (n cap : Nat) (h : (insideB bs.length A N && insideB bs.length C N) = true) :
    Calls Try.prog 33 #[.pointer (some ⟨b, 0, none⟩), .pointer (some ⟨rb, 0, none⟩), opArg 7 mm A C N V ao n cap] w fun e w' => AskPost w e w' := by
  obtain ⟨e1, e2⟩ := (Bool.and_eq_true _ _).mp h
  obtain ⟨o, k, rfl, rfl, hok⟩ := insideB_nat e1
  obtain ⟨s, k', rfl, hkk, hsk⟩ := insideB_nat e2
  obtain rfl : k = k' := by omega
  have k1 : Keeps w (w.alloc (.cells (opCells 7 mm o s k V ao n cap) 47)) (fun _ => False) := (Keeps.refl _ _).alloc _
  have p1 := p.keepsNone k1
  have h3 := equal_yes _ b g bs sp p1.m o s k hok hsk
  have h4 := requal_yes p1.r p1.t rfl o s k hok hsk
  rw [eqS_iff] at h3
  generalize decide ((bs.drop o).take k = (bs.drop s).take k) = D at *
  have hb : (D == D) = true := by simp
  unfold opCells at k1 h3 h4
  clear p p1
  go_enter Try.func33, Try.ntmps33
  go_wp2_with fail
  refine h3.mono ?_
  rintro e w2 ⟨rfl, hw⟩
  subst hw
  clear h3
  go_wp2_with fail
  refine h4.mono ?_
  rintro e w2 ⟨rfl, k2⟩
  clear h4
  go_wp2_with fail
  go_ret
  exact ⟨rfl, k1.trans k2 (fun _ _ x => x)⟩
end Go.Proofs.Ytlgmpnaalifegab
