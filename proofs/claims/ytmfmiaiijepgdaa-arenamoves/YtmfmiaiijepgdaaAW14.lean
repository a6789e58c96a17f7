import Derived.Test.YtmfmiaiijepgdaaAW13
namespace Go.Proofs.Ytmfmiaiijepgdaa
open Go.RowKit Go.Shelf

def ErrPost (w : World) (p : Nat) (F : Nat → Prop) (x : Int) (d' : AD) (e : Ending) (w' : World) : Prop := e = .returned (.int .i64 x) ∧ Turned w w' p F d'
theorem turned_wrote {w w1 w2 : World} {p : Nat} {F : Nat → Prop} {c : AR} {d : AD} (h : ArenaAt w p c d) (hfo : ∀ k, c.foot p k → F k) (k1 : Keeps w w1 (fun _ => False)) {bs : List UInt8} {e : Ending} {y : Int} (hw : e = .returned (.int .i64 y) ∧ MemAt 98 5 w2 c.b c.g bs c.sp ∧ Keeps w1 w2 (fun i => i = c.g)) : Turned w w2 p F (d.bytes bs) :=
  ⟨⟨c, (h.keeps k1 (fun _ _ e => e)).wrote hw.2.1 hw.2.2, fun k hk => Or.inl (hfo k hk)⟩, (k1.mono (fun _ _ e => e.elim)).trans hw.2.2 (fun i _ e => hfo i (Or.inr (Or.inr (Or.inl e))))⟩

def storeR (d : AD) (off n : Int) (v : Nat) : Int × AD := if widthB n then (if d.goodB off n then (0, d.bytes (splice d.bs off.toNat (leBytes v n.toNat))) else (24, d)) else (10, d)
def fillR (d : AD) (off n : Int) (u : UInt8) : Int × AD := if d.goodB off n then (0, d.bytes (splice d.bs off.toNat (same n.toNat u))) else (24, d)
def copyR (d : AD) (x y n : Int) : Int × AD := if d.goodB x n && d.goodB y n then (0, d.bytes (splice d.bs x.toNat ((d.bs.drop y.toNat).take n.toNat))) else (24, d)

set_option maxHeartbeats 1000000 in
theorem astore_any {w : World} {p : Nat} {F : Nat → Prop} {d : AD} (hA : Arena w p F d) (hF : d.Fine) (off n : Int) (v : Nat) (ho : fitsI off) (hn : fitsI n) :
    Calls Try.prog 24 #[.pointer (some ⟨p, 0, none⟩), .int .i64 off, .int .i64 n, .int .u64 (v : Int)] w fun e w' => ErrPost w p F (storeR d off n v).1 (storeR d off n v).2 e w' := by
  obtain ⟨c, h, hfo⟩ := hA.at
  unfold storeR
  cases hw : widthB n
  · have hN := anum_width w (.pointer (some ⟨p, 0, none⟩)) off n hw
    simp only [Bool.false_eq_true, if_false]
    clear h hF
    go_enter Try.func24, Try.ntmps24
    go_wp2_with fail
    refine hN.mono ?_
    rintro e w1 ⟨rfl, k1⟩
    have T1 := hide (hA.same k1)
    clear hN k1 hA
    go_wp2_with fail
    go_ret
    exact ⟨rfl, T1.out⟩
  · have hN := anum_good w _ off n _ hw (good_any h hF off n ho hn)
    cases hg : d.goodB off n
    · rw [hg] at hN
      simp only [Bool.false_eq_true, if_false, if_true] at hN ⊢
      clear h hF
      go_enter Try.func24, Try.ntmps24
      go_wp2_with fail
      refine hN.mono ?_
      rintro e w1 ⟨rfl, k1⟩
      have T1 := hide (hA.same k1)
      clear hN k1 hA
      go_wp2_with fail
      go_ret
      exact ⟨rfl, T1.out⟩
    · rw [hg] at hN
      obtain ⟨o, k, rfl, rfl, ho16, hok⟩ := hF.span hg
      simp only [if_true, Int.toNat_natCast] at hN ⊢
      have hst := fun W (kW : Keeps w W (fun _ => False)) => store_yes W c.b c.g d.bs c.sp (h.mem.keeps kW id id) o k v hw hok
      have hc2 := fun W (kW : Keeps w W (fun _ => False)) => (h.keeps kW (fun _ _ e => e)).cell2
      clear hF hg hA
      go_enter Try.func24, Try.ntmps24
      go_wp2_with fail
      refine hN.mono ?_
      rintro e w1 ⟨rfl, k1⟩
      replace hst := hst w1 k1
      replace hc2 := hc2 w1 k1
      clear hN
      go_wp2_with fail
      refine hst.mono ?_
      intro e w2 hp
      have T1 := hide (turned_wrote h hfo k1 hp)
      obtain ⟨rfl, _, _⟩ := hp
      clear hst h k1
      go_wp2_with fail
      go_ret
      exact ⟨rfl, T1.out⟩

set_option maxHeartbeats 1000000 in
theorem afill_any {w : World} {p : Nat} {F : Nat → Prop} {d : AD} (hA : Arena w p F d) (hF : d.Fine) (off n : Int) (u : UInt8) (ho : fitsI off) (hn : fitsI n) :
    Calls Try.prog 22 #[.pointer (some ⟨p, 0, none⟩), .int .i64 off, .int .i64 n, .int .u8 (u.toNat : Int)] w fun e w' => ErrPost w p F (fillR d off n u).1 (fillR d off n u).2 e w' := by
  obtain ⟨c, h, hfo⟩ := hA.at
  have hN := good_any h hF off n ho hn
  unfold fillR
  cases hg : d.goodB off n
  · rw [hg] at hN
    simp only [Bool.false_eq_true, if_false]
    clear h hF
    go_enter Try.func22, Try.ntmps22
    go_wp2_with fail
    refine hN.mono ?_
    rintro e w1 ⟨rfl, k1⟩
    have T1 := hide (hA.same k1)
    clear hN k1 hA
    go_wp2_with fail
    go_ret
    exact ⟨rfl, T1.out⟩
  · rw [hg] at hN
    obtain ⟨o, k, rfl, rfl, ho16, hok⟩ := hF.span hg
    simp only [if_true, Int.toNat_natCast]
    have hst := fun W (kW : Keeps w W (fun _ => False)) => fill_yes W c.b c.g d.bs c.sp (h.mem.keeps kW id id) o k hok u
    have hc2 := fun W (kW : Keeps w W (fun _ => False)) => (h.keeps kW (fun _ _ e => e)).cell2
    clear hF hg hA
    go_enter Try.func22, Try.ntmps22
    go_wp2_with fail
    refine hN.mono ?_
    rintro e w1 ⟨rfl, k1⟩
    replace hst := hst w1 k1
    replace hc2 := hc2 w1 k1
    clear hN
    go_wp2_with fail
    refine hst.mono ?_
    intro e w2 hp
    have T1 := hide (turned_wrote h hfo k1 hp)
    obtain ⟨rfl, _, _⟩ := hp
    clear hst h k1
    go_wp2_with fail
    go_ret
    exact ⟨rfl, T1.out⟩

set_option maxHeartbeats 1000000 in
theorem acopy_any {w : World} {p : Nat} {F : Nat → Prop} {d : AD} (hA : Arena w p F d) (hF : d.Fine) (x y n : Int) (hx : fitsI x) (hy : fitsI y) (hn : fitsI n) :
    Calls Try.prog 20 #[.pointer (some ⟨p, 0, none⟩), .int .i64 x, .int .i64 y, .int .i64 n] w fun e w' => ErrPost w p F (copyR d x y n).1 (copyR d x y n).2 e w' := by
  obtain ⟨c, h, hfo⟩ := hA.at
  have hN := good_any h hF x n hx hn
  have hM := fun W (kW : Keeps w W (fun _ => False)) => good_any (h.keeps kW (fun _ _ e => e)) hF y n hy hn
  unfold copyR
  cases hg : d.goodB x n
  · rw [hg] at hN
    simp only [Bool.false_and, Bool.false_eq_true, if_false]
    clear h hF hM
    go_enter Try.func20, Try.ntmps20
    go_wp2_with fail
    refine hN.mono ?_
    rintro e w1 ⟨rfl, k1⟩
    have T1 := hide (hA.same k1)
    clear hN k1 hA
    go_wp2_with fail
    go_ret
    exact ⟨rfl, T1.out⟩
  · rw [hg] at hN
    cases hg2 : d.goodB y n
    · rw [hg2] at hM
      simp only [Bool.and_false, Bool.false_eq_true, if_false]
      clear h hF
      go_enter Try.func20, Try.ntmps20
      go_wp2_with fail
      refine hN.mono ?_
      rintro e w1 ⟨rfl, k1⟩
      replace hM := hM w1 k1
      clear hN
      go_wp2_with fail
      refine hM.mono ?_
      rintro e w2 ⟨rfl, k2⟩
      have T1 := hide (hA.same (k1.trans k2 (fun _ _ e => e)))
      clear hM k1 k2 hA
      go_wp2_with fail
      go_ret
      exact ⟨rfl, T1.out⟩
    · rw [hg2] at hM
      obtain ⟨o, k, rfl, rfl, ho16, hok⟩ := hF.span hg
      obtain ⟨o2, k', rfl, hkk, _, hok2⟩ := hF.span hg2
      obtain rfl : k = k' := by omega
      simp only [Bool.and_self, if_true, Int.toNat_natCast]
      have hst := fun W (kW : Keeps w W (fun _ => False)) => copy_yes W c.b c.g d.bs c.sp (h.mem.keeps kW id id) o o2 k hok hok2
      have hc2 := fun W (kW : Keeps w W (fun _ => False)) => (h.keeps kW (fun _ _ e => e)).cell2
      clear hF hg hg2 hA hkk
      go_enter Try.func20, Try.ntmps20
      go_wp2_with fail
      refine hN.mono ?_
      rintro e w1 ⟨rfl, k1⟩
      replace hM := hM w1 k1
      clear hN
      go_wp2_with fail
      refine hM.mono ?_
      rintro e w2 ⟨rfl, k2⟩
      replace k1 := k1.trans k2 (fun _ _ e => e)
      replace hst := hst w2 k1
      replace hc2 := hc2 w2 k1
      clear hM k2
      go_wp2_with fail
      refine hst.mono ?_
      intro e w3 hp
      have T1 := hide (turned_wrote h hfo k1 hp)
      obtain ⟨rfl, _, _⟩ := hp
      clear hst h k1
      go_wp2_with fail
      go_ret
      exact ⟨rfl, T1.out⟩
end Go.Proofs.Ytmfmiaiijepgdaa
