/-
  The statement's own handed: its walk.
-/
import Derived.Test.YtflihieaajbihabDoorOR4
namespace Go.Proofs.YtflihieaajbihabDoor
open Go.RowKit
set_option linter.unusedVariables false

theorem NewPost.one {w : World} {os : List Ovr} {e : Ending} {w' : World} (h : NewPost w os e w') : Kp w w' ∧ ∃ pv : Option Addr, e = .returned (.tuple #[.pointer pv, .int .i64 (scanN os os.length : Nat)]) ∧ ((scanN os os.length ≠ 0 ∧ pv = none) ∨ (scanN os os.length = 0 ∧ ∃ p m, pv = some ⟨p, 0, none⟩ ∧ OrcAt w' p m os.length (mapN os os.length))) := by
  obtain ⟨k, ⟨h1, rfl⟩ | ⟨h1, p, m, rfl, h2⟩⟩ := h
  · exact ⟨k, none, rfl, Or.inl ⟨h1, rfl⟩⟩
  · exact ⟨k, some ⟨p, 0, none⟩, by rw [h1]; rfl, Or.inr ⟨h1, p, m, rfl, h2⟩⟩
def HandPost (w : World) (os : List Ovr) (e : Ending) (w' : World) : Prop :=
  Kp w w' ∧ ∃ pv : Option Addr, e = .returned (.tuple #[.pointer pv, .int .i64 (scanN os os.length : Nat), .bool true]) ∧ ((scanN os os.length ≠ 0 ∧ pv = none) ∨ (scanN os os.length = 0 ∧ ∃ p m, pv = some ⟨p, 0, none⟩ ∧ OrcAt w' p m os.length (mapN os os.length)))
def behind : ByteArray := ⟨#[98, 101, 104, 105, 110, 100]⟩
/-- What the row of one's own with the mark behind it says. -/
theorem mark_row {w4 : World} {B g c : Nat} {os : List Ovr} {K : ByteArray} {Y : Int} (own : w4.ownsRow B 37 2 (.slice (some ⟨g, 0, none⟩) (os.length + 1) c) (os.length + 1) (ovCells os ++ [.string K, .int .u64 Y])) (hsz : ∀ j (hj : j < os.length), os[j].1.size ≤ maxLen) :
    RowO w4 (.slice (some ⟨g, 0, none⟩) os.length c) os ∧ os.length + 1 ≤ c ∧ c ≤ maxLen ∧ B ≤ g ∧ w4.cell? ⟨g, os.length * 2, none⟩ = some (.string K) ∧ Spoil w4 g 0 os w4 ∧ ∃ cur, w4.heap[g]? = some (.cells cur 37) := by
  obtain ⟨hl, ⟨e, _⟩ | ⟨g', c', cur, e, h1, h2, h3, h4, h5, h6⟩⟩ := own
  · cases e
  · cases e
    have hlen := ovCells_length os
    have e12 : ∀ l (hl : l < os.length), cur[l * 2]? = some (.string os[l].1) ∧ cur[l * 2 + 1]? = some (.int .u64 (os[l].2 : Nat)) := by
      intro l hl
      obtain ⟨e1, e2⟩ := ovCells_even os l hl
      rw [← List.getElem?_append_left (l₂ := [.string K, .int .u64 Y]) (by omega), ← h6, List.getElem?_take_of_lt (by omega)] at e1 e2
      rw [Nat.mul_comm l 2]
      exact ⟨by simpa using e1, by simpa using e2⟩
    refine ⟨Or.inr ⟨⟨g, 0, none⟩, c, rfl, by omega, h4, fun j hj => ?_⟩, h3, h4, h1, ?_, ⟨cur, h2, fun l hl _ => e12 l hl, But.refl _ _⟩, cur, h2⟩
    · obtain ⟨e1, e2⟩ := e12 j hj
      rw [add_lit, add_lit, Nat.zero_add, Nat.zero_add, Nat.mul_comm 2 j]
      exact ⟨cell_blk h2 e1, cell_blk h2 e2, hsz j hj⟩
    · have e3 : (ovCells os ++ [.string K, .int .u64 Y])[os.length * 2]? = some (.string K) := by
        rw [List.getElem?_append_right (by omega), hlen, Nat.sub_self]
        rfl
      rw [← h6, List.getElem?_take_of_lt (by omega)] at e3
      exact cell_blk h2 (by simpa using e3)

set_option maxRecDepth 100000 in
set_option maxHeartbeats 2000000 in
theorem handed_any (a : Option Addr) (cp : Nat) (os : List Ovr) (w : World) (h : RowO w (.slice a os.length cp) os) (hn : os.length * 24 + 24 ≤ 140737488355328) :
    Calls Tryd.prog 4 #[.slice a os.length cp] w (HandPost w os) := by
  obtain ⟨g, c1, w1, r1, own1, k1⟩ := append_overs_own w h (by omega)
  obtain ⟨g2, c2, w2, r2, own2, k2⟩ := append_mark own1 k1.size hn behind 0
  have hm9 := RowO.max h
  have hsz : ∀ j (hj : j < os.length), os[j].1.size ≤ maxLen := by
    rcases h with ⟨_, rfl⟩ | ⟨a', c, e, _, _, h3⟩
    · intro j hj
      simp at hj
    · exact fun j hj => (h3 j hj).2.2
  obtain ⟨row2, hc2, hc3, hg2, cm, sp2, cur, hcur⟩ := mark_row own2 hsz
  have kw2 : Kp w w2 := Below.trans k1 k2
  have HN := new_any (some ⟨g2, 0, none⟩) c2 os w2 row2
  clear own1 own2 k1 k2 row2 hsz
  unfold behind at r2 cm
  have hlt0 : (os.length : Int) < ((os.length + 1 : Nat) : Int) := by omega
  have hle0 : (os.length : Int) ≤ (c2 : Int) := by omega
  go_enter Tryd.func4, Tryd.ntmps4
  go_wp2_with (first | (at_builtin; have _t := r1; refine append_run1 _ rfl (.tmp 10) (.tmp 11) 22 rfl rfl rfl r1 ?_; clear r1) | (at_builtin; have _t := r2; refine append_run1 _ rfl (.tmp 13) (.tmp 15) 22 rfl rfl rfl r2 ?_; clear r2))
  refine HN.mono ?_
  intro e w3 np
  obtain ⟨k3, pv, rfl, hpv⟩ := NewPost.one np
  have kw3 := kw2.trans k3
  have cm3 := k3.cell cm
  have sp3 : Spoil w3 g2 0 os w3 := by
    obtain ⟨cu, s1, s2, s3⟩ := sp2
    exact ⟨cu, k3.blk s1, s2, But.refl _ _⟩
  have hcur3 := k3.blk hcur
  have HH := hide h
  have HS := hide sp3
  have HPV := hide hpv
  have HCU := hide hcur3
  clear np HN hcur sp2 cm k3 kw2 hpv h sp3 hcur3
  generalize hE : scanN os os.length = E at *
  go_wp2_with fail
  go_loopw [37] (fun vi wr => ∃ i : Nat, vi = .int .i64 (i : Int) ∧ i ≤ os.length ∧ Spoil w3 g2 i os wr) (fun vi _ => os.length - (intOf vi).toNat)
  case atStart => exact ⟨0, rfl, Nat.zero_le _, HS.out⟩
  case round =>
    obtain ⟨i, rfl, hi, hS⟩ := hrel
    have HR := hide hS
    by_cases hlt : i < os.length
    · have hlt' : (i : Int) < (os.length : Int) := by omega
      have kw : Kp w wr := by
        obtain ⟨_, _, _, hb⟩ := hS
        exact hb.kp kw3 hg2
      obtain ⟨b, o, rfl, hc⟩ := RowO.some HH.out (by omega)
      have q1 : wr.cell? ⟨b, o + i * 2, none⟩ = some (.string os[i].1) := by rw [Nat.mul_comm i 2]; exact kw.cell (hc i hlt).1
      have q2 : wr.cell? ⟨b, o + i * 2 + 1, none⟩ = some (.int .u64 (os[i].2 : Nat)) := by rw [Nat.mul_comm i 2, Nat.add_assoc]; exact kw.cell (hc i hlt).2.1
      have HD := hide (fun n => (hS.drewN n).step hlt (.string ⟨#[115, 112, 111, 105, 108, 116]⟩) (.int .u64 7))
      obtain ⟨d1', d2', _⟩ := hS.step hlt (.string ⟨#[115, 112, 111, 105, 108, 116]⟩) (.int .u64 7)
      have e6 : (os[i].1.toList == os[i].1.toList) = true := by rw [beq_iff_eq]
      generalize os[i].1 = K at *
      generalize os[i].2 = Y at *
      clear hc hS HS HPV HCU HH
      have hic : (i : Int) < (c2 : Int) := by omega
      go_wp2_with fail
      go_quiet (fail)
      obtain ⟨d1, d2, d3, d4, d5, d6, d7⟩ := HD.out nq
      have HZ := hide d7
      clear d7 HD
      go_wp2_with fail
      exact ⟨⟨i + 1, by simp, by omega, HZ.out⟩, by simp [intOf]; omega⟩
    · have hlt' : ¬ (i : Int) < (os.length : Int) := by omega
      obtain rfl : i = os.length := by omega
      have kw : Kp w wr := by
        obtain ⟨_, _, _, hb⟩ := hS
        exact hb.kp kw3 hg2
      have hP : Hid (HandPost w os (.returned (.tuple #[.pointer pv, .int .i64 (E : Nat), .bool true])) wr) := by
        refine ⟨kw, pv, by rw [hE], ?_⟩
        rw [hE]
        rcases HPV.out with h1 | ⟨h1, p, m, h2, h3⟩
        · exact Or.inl h1
        · exact Or.inr ⟨h1, p, m, h2, h3.spoil HCU.out HR.out⟩
      clear kw hS HS HPV HCU HH
      go_wp2_with fail
      go_ret3
      exact hP.out
end Go.Proofs.YtflihieaajbihabDoor
