import Derived.Test.YtmfmiaiijepgdaaAW14
namespace Go.Proofs.Ytmfmiaiijepgdaa
open Go.RowKit Go.Shelf

/-- The bytes of a span. -/
def AD.span (d : AD) (off n : Int) : List UInt8 := (d.bs.drop off.toNat).take n.toNat
def readV (d : AD) (off n : Int) : ByteArray × Int := if d.goodB off n then (strOf (d.span off n), 0) else (ByteArray.empty, 24)
def ReadAPost (w : World) (s : ByteArray) (x : Int) (e : Ending) (w' : World) : Prop := e = .returned (.tuple #[.string s, .int .i64 x]) ∧ Keeps w w' (fun _ => False)
set_option maxHeartbeats 1000000 in
theorem aread_any {w : World} {p : Nat} {c : AR} {d : AD} (h : ArenaAt w p c d) (hF : d.Fine) (off n : Int) (ho : fitsI off) (hn : fitsI n) :
    Calls Try.prog 21 #[.pointer (some ⟨p, 0, none⟩), .int .i64 off, .int .i64 n] w fun e w' => ReadAPost w (readV d off n).1 (readV d off n).2 e w' := by
  have hN := good_any h hF off n ho hn
  unfold readV
  cases hg : d.goodB off n
  · rw [hg] at hN
    simp only [Bool.false_eq_true, if_false]
    clear h hF
    go_enter Try.func21, Try.ntmps21
    go_wp2_with fail
    refine hN.mono ?_
    rintro e w1 ⟨rfl, k1⟩
    have K1 := hide k1
    clear hN k1
    go_wp2_with fail
    go_ret2
    exact ⟨rfl, K1.out⟩
  · rw [hg] at hN
    obtain ⟨o, k, rfl, rfl, ho16, hok⟩ := hF.span hg
    simp only [if_true]
    have hsp : d.span (o : Int) (k : Int) = (d.bs.drop o).take k := by simp [AD.span]
    rw [hsp]
    have hrd := fun W (kW : Keeps w W (fun _ => False)) => read_yes W c.b c.g d.bs c.sp (h.mem.keeps kW id id) o k hok
    have hc2 := fun W (kW : Keeps w W (fun _ => False)) => (h.keeps kW (fun _ _ e => e)).cell2
    have hlen : ((d.bs.drop o).take k).length = k := by simp; omega
    obtain ⟨x, hx⟩ : ∃ x, (d.bs.drop o).take k = x := ⟨_, rfl⟩
    rw [hx] at hlen ⊢
    obtain ⟨s, hs⟩ : ∃ s, strOf x = s := ⟨_, rfl⟩
    rw [hs]
    clear h hF hg hsp
    go_enter Try.func21, Try.ntmps21
    go_wp2_with fail
    refine hN.mono ?_
    rintro e w1 ⟨rfl, k1⟩
    replace hrd := hrd w1 k1
    replace hc2 := hc2 w1 k1
    clear hN
    go_wp2_with fail
    refine hrd.mono ?_
    rintro e w2 ⟨hh, _, rfl, hr, k2⟩
    rw [hx] at hr
    have K2 := hide (k1.trans k2 (fun _ _ e => e))
    have htx := run_text w2 ⟨hh, 0, none⟩ k k x hlen (fun j hj => by
      have := rowOf_get x j hj
      rw [addr_add, Nat.zero_add]
      simp only [World.cell?, hr]
      simpa using this)
    rw [hs] at htx
    clear hrd hr k1 k2 hc2 hx hs
    go_wp2_with fail
    go_ret2
    exact ⟨rfl, K2.out⟩

def equalV (d : AD) (x y n : Int) : Bool × Int := if d.goodB x n && d.goodB y n then (eqS (strOf (d.span x n)) (strOf (d.span y n)), 0) else (false, 24)
def EqAPost (w : World) (t : Bool) (x : Int) (e : Ending) (w' : World) : Prop := e = .returned (.tuple #[.bool t, .int .i64 x]) ∧ Keeps w w' (fun _ => False)
set_option maxHeartbeats 1000000 in
theorem aequal_any {w : World} {p : Nat} {c : AR} {d : AD} (h : ArenaAt w p c d) (hF : d.Fine) (x y n : Int) (hx : fitsI x) (hy : fitsI y) (hn : fitsI n) :
    Calls Try.prog 19 #[.pointer (some ⟨p, 0, none⟩), .int .i64 x, .int .i64 y, .int .i64 n] w fun e w' => EqAPost w (equalV d x y n).1 (equalV d x y n).2 e w' := by
  have hN := good_any h hF x n hx hn
  have hM := fun W (kW : Keeps w W (fun _ => False)) => good_any (h.keeps kW (fun _ _ e => e)) hF y n hy hn
  unfold equalV
  cases hg : d.goodB x n
  · rw [hg] at hN
    simp only [Bool.false_and, Bool.false_eq_true, if_false]
    clear h hF hM
    go_enter Try.func19, Try.ntmps19
    go_wp2_with fail
    refine hN.mono ?_
    rintro e w1 ⟨rfl, k1⟩
    have K1 := hide k1
    clear hN k1
    go_wp2_with fail
    go_ret2
    exact ⟨rfl, K1.out⟩
  · rw [hg] at hN
    cases hg2 : d.goodB y n
    · rw [hg2] at hM
      simp only [Bool.and_false, Bool.false_eq_true, if_false]
      clear h hF
      go_enter Try.func19, Try.ntmps19
      go_wp2_with fail
      refine hN.mono ?_
      rintro e w1 ⟨rfl, k1⟩
      replace hM := hM w1 k1
      clear hN
      go_wp2_with fail
      refine hM.mono ?_
      rintro e w2 ⟨rfl, k2⟩
      have K1 := hide (k1.trans k2 (fun _ _ e => e))
      clear hM k1 k2
      go_wp2_with fail
      go_ret2
      exact ⟨rfl, K1.out⟩
    · rw [hg2] at hM
      obtain ⟨o, k, rfl, rfl, ho16, hok⟩ := hF.span hg
      obtain ⟨o2, k', rfl, hkk, _, hok2⟩ := hF.span hg2
      obtain rfl : k = k' := by omega
      simp only [Bool.and_self, if_true, AD.span, Int.toNat_natCast]
      have hst := fun W (kW : Keeps w W (fun _ => False)) => equal_yes W c.b c.g d.bs c.sp (h.mem.keeps kW id id) o o2 k hok hok2
      have hc2 := fun W (kW : Keeps w W (fun _ => False)) => (h.keeps kW (fun _ _ e => e)).cell2
      clear hF hg hg2 hkk h
      generalize eqS (strOf ((d.bs.drop o).take k)) (strOf ((d.bs.drop o2).take k)) = t at *
      go_enter Try.func19, Try.ntmps19
      go_wp2_with fail
      refine hN.mono ?_
      rintro e w1 ⟨rfl, k1⟩
      replace hM := hM w1 k1
      clear hN
      go_wp2_with fail
      refine hM.mono ?_
      rintro e w2 ⟨rfl, k2⟩
      replace k1 := k1.trans k2 (fun _ _ e => e)
      replace hst := hst w2 k1
      replace hc2 := hc2 w2 k1
      have K1 := hide k1
      clear hM k2 k1
      go_wp2_with fail
      refine hst.mono ?_
      rintro e w3 ⟨rfl, rfl⟩
      clear hst
      go_wp2_with fail
      go_ret2
      exact ⟨rfl, K1.out⟩
end Go.Proofs.Ytmfmiaiijepgdaa
