import Derived.Test.YtmfmiaiijepgdaaAW12
import Derived.Test.YtmfmiaiijepgdaaAW10
import Derived.Test.YtmfmiaiijepgdaaWalks11
namespace Go.Proofs.Ytmfmiaiijepgdaa
open Go.RowKit Go.Shelf

theorem hide {p : Prop} (h : p) : Hid p := h
/-- Other bytes. -/
def AD.bytes (d : AD) (bs : List UInt8) : AD := { d with bs := bs }
theorem AD.Fine.bytes {d : AD} (F : d.Fine) {bs : List UInt8} (h : bs.length = d.bs.length) : (d.bytes bs).Fine :=
  { tiles := by show Tiles 16 d.L bs.length; rw [h]; exact F.tiles
    live := F.live
    most := by show bs.length ≤ _; rw [h]; exact F.most
    lim := F.lim
    use := F.use }
theorem ArenaAt.wrote {w w' : World} {p : Nat} {c : AR} {d : AD} (h : ArenaAt w p c d) {bs : List UInt8} (m : MemAt 98 5 w' c.b c.g bs c.sp) (k : Keeps w w' (fun i => i = c.g)) : ArenaAt w' p c (d.bytes bs) :=
  ⟨(k.block p (heap_lt h.hp) h.p_g).trans h.hp, m, ownsRow_keeps h.beg k (fun _ hg e => h.g_v hg e.symm), h.live.keeps k h.bl_g, h.free.keeps k h.bf_g, h.hlf, h.hnl⟩
/-- Nothing has turned. -/
theorem Arena.same {w w' : World} {p : Nat} {F : Nat → Prop} {d : AD} (h : Arena w p F d) (k : Keeps w w' (fun _ => False)) : Turned w w' p F d :=
  ⟨(h.keeps k (fun _ _ _ e => e)).mono (fun _ _ e => Or.inl e), k.mono (fun _ _ e => e.elim)⟩
theorem Arena.at {w : World} {p : Nat} {F : Nat → Prop} {d : AD} (h : Arena w p F d) : ∃ c, ArenaAt w p c d ∧ ∀ k, c.foot p k → F k := h

set_option maxHeartbeats 400000 in
theorem anum_width (w : World) (p : Value) (off n : Int) (h : widthB n = false) : Calls Try.prog 44 #[p, .int .i64 off, .int .i64 n] w fun e w' => e = .returned (.int .i64 10) ∧ Keeps w w' (fun _ => False) := by
  obtain ⟨h1, h2, h3, h4⟩ := widthB_false h
  have b1 : (n != 1) = true := bne_iff_ne.2 h1
  have b2 : (n != 2) = true := bne_iff_ne.2 h2
  have b3 : (n != 4) = true := bne_iff_ne.2 h3
  have b4 : (n != 8) = true := bne_iff_ne.2 h4
  clear h1 h2 h3 h4
  have K0 : Hid (Keeps w w (fun _ => False)) := Keeps.refl w (fun _ => False)
  go_enter Try.func44, Try.ntmps44
  go_wp2_with fail
  go_ret
  exact ⟨rfl, K0.out⟩
set_option maxHeartbeats 400000 in
theorem anum_good (w : World) (p : Value) (off n : Int) (t : Bool) (h : widthB n = true) (hg : Calls Try.prog 36 #[p, .int .i64 off, .int .i64 n] w fun e w' => BoolPost w t e w') :
    Calls Try.prog 44 #[p, .int .i64 off, .int .i64 n] w fun e w' => e = .returned (.int .i64 (if t then 0 else 24)) ∧ Keeps w w' (fun _ => False) := by
  rcases widthB_true h with h | h | h | h
  all_goals subst h
  all_goals go_enter Try.func44, Try.ntmps44
  all_goals go_wp2_with fail
  all_goals refine hg.mono ?_
  all_goals rintro e w1 ⟨rfl, k1⟩
  all_goals have K1 : Hid (Keeps w w1 (fun _ => False)) := k1
  all_goals clear hg k1
  all_goals cases t
  all_goals go_wp2_with fail
  all_goals go_ret
  all_goals exact ⟨rfl, K1.out⟩

/-- What Load answers. -/
def loadV (d : AD) (off n : Int) : Int × Int := if widthB n then (if d.goodB off n then ((numOf ((d.bs.drop off.toNat).take n.toNat) : Int), 0) else (0, 24)) else (0, 10)
def LoadPost (w : World) (v e0 : Int) (e : Ending) (w' : World) : Prop := e = .returned (.tuple #[.int .u64 v, .int .i64 e0]) ∧ Keeps w w' (fun _ => False)
set_option maxHeartbeats 1000000 in
theorem aload_any {w : World} {p : Nat} {c : AR} {d : AD} (h : ArenaAt w p c d) (hF : d.Fine) (off n : Int) (ho : fitsI off) (hn : fitsI n) :
    Calls Try.prog 25 #[.pointer (some ⟨p, 0, none⟩), .int .i64 off, .int .i64 n] w fun e w' => LoadPost w (loadV d off n).1 (loadV d off n).2 e w' := by
  unfold loadV
  cases hw : widthB n
  · have hN := anum_width w (.pointer (some ⟨p, 0, none⟩)) off n hw
    simp only [Bool.false_eq_true, if_false]
    clear h hF
    go_enter Try.func25, Try.ntmps25
    go_wp2_with fail
    refine hN.mono ?_
    rintro e w1 ⟨rfl, k1⟩
    have K1 : Hid (Keeps w w1 (fun _ => False)) := k1
    clear hN k1
    go_wp2_with fail
    go_ret2
    exact ⟨rfl, K1.out⟩
  · have hN := anum_good w _ off n _ hw (good_any h hF off n ho hn)
    cases hg : d.goodB off n
    · rw [hg] at hN
      simp only [Bool.false_eq_true, if_false, if_true] at hN ⊢
      clear h hF
      go_enter Try.func25, Try.ntmps25
      go_wp2_with fail
      refine hN.mono ?_
      rintro e w1 ⟨rfl, k1⟩
      have K1 : Hid (Keeps w w1 (fun _ => False)) := k1
      clear hN k1
      go_wp2_with fail
      go_ret2
      exact ⟨rfl, K1.out⟩
    · rw [hg] at hN
      obtain ⟨o, k, rfl, rfl, ho16, hok⟩ := hF.span hg
      simp only [if_true, Int.toNat_natCast] at hN ⊢
      have hld := fun W (kW : Keeps w W (fun _ => False)) => load_yes W c.b c.g d.bs c.sp (h.mem.keeps kW id id) o k hw hok
      have hc2 := fun W (kW : Keeps w W (fun _ => False)) => (h.keeps kW (fun _ _ e => e)).cell2
      have hnum := numOf_lt ((d.bs.drop o).take k)
      clear h hF hg
      go_enter Try.func25, Try.ntmps25
      go_wp2_with fail
      refine hN.mono ?_
      rintro e w1 ⟨rfl, k1⟩
      have K1 : Hid (Keeps w w1 (fun _ => False)) := k1
      replace hld := hld w1 k1
      replace hc2 := hc2 w1 k1
      clear hN k1
      go_wp2_with fail
      refine hld.mono ?_
      rintro e w2 ⟨rfl, rfl⟩
      clear hld
      go_wp2_with fail
      go_ret2
      exact ⟨rfl, K1.out⟩
end Go.Proofs.Ytmfmiaiijepgdaa
