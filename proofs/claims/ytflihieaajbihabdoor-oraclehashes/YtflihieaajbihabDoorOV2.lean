/-
  An oracle made: New.
-/
import Derived.Test.YtflihieaajbihabDoorOV1
namespace Go.Proofs.YtflihieaajbihabDoor
open Go.RowKit
set_option linter.unusedVariables false

def Ovr : Type := ByteArray × Nat
def Ovr.k (o : Ovr) : List UInt8 := o.1.data.toList
/-- The map behind the first i overrides. -/
def mapN (os : List Ovr) : Nat → List UInt8 → Option Nat
  | 0 => fun _ => none
  | i + 1 => match os[i]? with
    | some o => updS (mapN os i) o.k (some o.2)
    | none => mapN os i
theorem mapN_succ (os : List Ovr) (i : Nat) (hi : i < os.length) : mapN os (i + 1) = updS (mapN os i) os[i].k (some os[i].2) := by
  rw [mapN, List.getElem?_eq_getElem hi]
/-- What is wrong with override i. -/
def badN (os : List Ovr) (i : Nat) : Nat := match os[i]? with
  | some o => if o.1.size < 1 ∨ 128 < o.1.size then 41 else if (mapN os i o.k).isSome then 42 else 0
  | none => 0
def scanN (os : List Ovr) : Nat → Nat
  | 0 => if 64 < os.length then 40 else 0
  | i + 1 => if scanN os i = 0 then badN os i else scanN os i
theorem scanN_stays {os : List Ovr} {i j : Nat} (h : scanN os i ≠ 0) (hj : i ≤ j) : scanN os j = scanN os i := by
  induction j with
  | zero => obtain rfl : i = 0 := by omega
            rfl
  | succ j ih =>
    by_cases e : i = j + 1
    · rw [e]
    · rw [scanN, if_neg (by rw [ih (by omega)]; exact h), ih (by omega)]
theorem scanN_zero {os : List Ovr} {i j : Nat} (h : scanN os j = 0) (hi : i ≤ j) : scanN os i = 0 := by
  by_cases e : scanN os i = 0
  · exact e
  · rw [scanN_stays e hi] at h
    exact h

/-- A row of overrides. -/
def RowO (w : World) (v : Value) (os : List Ovr) : Prop :=
  (v = .slice none 0 0 ∧ os = []) ∨ ∃ (a : Addr) (cap : Nat), v = .slice (some a) os.length cap ∧ os.length ≤ cap ∧ cap ≤ maxLen ∧ ∀ j (hj : j < os.length), w.cell? (a.add (2 * j)) = some (.string os[j].1) ∧ w.cell? (a.add (2 * j + 1)) = some (.int .u64 (os[j].2 : Nat)) ∧ os[j].1.size ≤ maxLen
theorem plain_of_cell {w : World} {a : Addr} {v : Value} (h : w.cell? (a.add 0) = some v) : ∃ bb oo, a = ⟨bb, oo, none⟩ ∧ bb < w.heap.size := by
  obtain ⟨bb, oo, sp⟩ := a
  have h' : w.cell? ⟨bb, oo, sp⟩ = some v := h
  have hlt : bb < w.heap.size := by
    rcases Nat.lt_or_ge bb w.heap.size with h1 | h1
    · exact h1
    · simp [World.cell?, Array.getElem?_eq_none h1] at h'
  cases sp with
  | none => exact ⟨bb, oo, rfl, hlt⟩
  | some s =>
    exfalso
    unfold World.cell? at h'
    split at h' <;> simp at h'
theorem add_lit (b o j : Nat) : (⟨b, o, none⟩ : Addr).add j = ⟨b, o + j, none⟩ := by simp [Addr.add]
theorem RowO.some {w : World} {a : Option Addr} {n cap : Nat} {os : List Ovr} (h : RowO w (.slice a n cap) os) (hx : 0 < os.length) : ∃ b o, a = some ⟨b, o, none⟩ ∧ ∀ j (hj : j < os.length), w.cell? ⟨b, o + 2 * j, none⟩ = some (.string os[j].1) ∧ w.cell? ⟨b, o + (2 * j + 1), none⟩ = some (.int .u64 (os[j].2 : Nat)) ∧ os[j].1.size ≤ maxLen := by
  rcases h with ⟨_, rfl⟩ | ⟨a', c, e, _, _, h3⟩
  · simp at hx
  · cases e
    obtain ⟨b, o, rfl, _⟩ := plain_of_cell (h3 0 hx).1
    exact ⟨b, o, rfl, fun j hj => by
      obtain ⟨q1, q2, q3⟩ := h3 j hj
      rw [add_lit] at q1 q2
      exact ⟨q1, q2, q3⟩⟩
theorem RowO.kp {w w1 : World} {v : Value} {os : List Ovr} (h : RowO w v os) (k : Kp w w1) : RowO w1 v os := by
  rcases h with h | ⟨a, cap, h1, h2, h3, h4⟩
  · exact Or.inl h
  · exact Or.inr ⟨a, cap, h1, h2, h3, fun j hj => ⟨k.cell (h4 j hj).1, k.cell (h4 j hj).2.1, (h4 j hj).2.2⟩⟩

/-- What New answers. -/
def NewPost (w : World) (os : List Ovr) (e : Ending) (w' : World) : Prop :=
  Kp w w' ∧ ((scanN os os.length ≠ 0 ∧ e = .returned (.tuple #[.pointer none, .int .i64 (scanN os os.length : Nat)])) ∨
    (scanN os os.length = 0 ∧ ∃ p m, e = .returned (.tuple #[.pointer (some ⟨p, 0, none⟩), .int .i64 0]) ∧ OrcAt w' p m os.length (mapN os os.length)))

set_option maxHeartbeats 1000000 in
theorem new_any (a : Option Addr) (cap : Nat) (os : List Ovr) (w : World) (h : RowO w (.slice a os.length cap) os) :
    Calls Tryd.prog 8 #[.slice a os.length cap] w (NewPost w os) := by
  by_cases hm : 64 < os.length
  · have hm' : (64 : Int) < (os.length : Int) := by omega
    have hs : scanN os os.length = 40 := by
      have h0 : scanN os 0 = 40 := by rw [scanN, if_pos hm]
      rw [scanN_stays (i := 0) (by rw [h0]; decide) (Nat.zero_le _), h0]
    have hP : Hid (NewPost w os (.returned (.tuple #[.pointer none, .int .i64 40])) w) := ⟨Kp.refl _, Or.inl ⟨by rw [hs]; decide, by rw [hs]; rfl⟩⟩
    clear h hs
    go_enter Tryd.func8, Tryd.ntmps8
    go_wp2_with fail
    go_ret2
    exact hP.out
  · have hm' : ¬ (64 : Int) < (os.length : Int) := by omega
    have hmm : ∀ W, (Instr.makeMap 43 (some (.int .i64 (os.length : Int)))).run Tryd.prog W = .ok (.map (some W.heap.size)) (W.alloc (.map #[] 0)) := by
      intro W
      rfl
    have s0 : scanN os 0 = 0 := by rw [scanN, if_neg hm]
    go_enter Tryd.func8, Tryd.ntmps8
    go_wp2_with fail
    clear hmm
    go_loopw [18] (fun vi wr => ∃ i : Nat, vi = .int .i64 (i : Int) ∧ i ≤ os.length ∧ scanN os i = 0 ∧ OrcAt wr (w.heap.size + 1) w.heap.size i (mapN os i) ∧ Kp w wr) (fun vi _ => os.length - (intOf vi).toNat)
    case atStart =>
      have hm0 : MapS ((w.alloc (.map #[] 0)).alloc (.cells #[.map (some w.heap.size)] 45)) w.heap.size 0 (fun _ => none) := (MapS.made w).kp ((Kp.refl _).alloc _)
      have hp0 : ((w.alloc (.map #[] 0)).alloc (.cells #[.map (some w.heap.size)] 45)).heap[w.heap.size + 1]? = some (.cells #[.map (some w.heap.size)] 45) := by
        have := heap_new (w.alloc (.map #[] 0)) (.cells #[.map (some w.heap.size)] 45)
        simpa using this
      exact ⟨0, rfl, Nat.zero_le _, s0, ⟨hp0, hm0⟩, ((Kp.refl w).alloc _).alloc _⟩
    case round =>
      obtain ⟨i, rfl, hi, hsc, hO, kr⟩ := hrel
      by_cases hlt : i < os.length
      · have hlt' : (i : Int) < (os.length : Int) := by omega
        obtain ⟨b, o, rfl, hc⟩ := RowO.some h (by omega)
        obtain ⟨q1, q2, q3⟩ := hc i hlt
        replace q1 := kr.cell q1
        replace q2 := kr.cell q2
        have q1' : wr.cell? ⟨b, o + i * 2, none⟩ = some (.string os[i].1) := by rw [Nat.mul_comm i 2]; exact q1
        have q2' : wr.cell? ⟨b, o + i * 2 + 1, none⟩ = some (.int .u64 (os[i].2 : Nat)) := by rw [Nat.mul_comm i 2, Nat.add_assoc]; exact q2
        have hbad : badN os i = if os[i].1.size < 1 ∨ 128 < os[i].1.size then 41 else if (mapN os i os[i].k).isSome then 42 else 0 := by
          unfold badN
          rw [List.getElem?_eq_getElem hlt]
        have hnext : scanN os (i + 1) = badN os i := by rw [scanN, if_pos hsc]
        have hmap := mapN_succ os i hlt
        have HB := hide hbad
        have HN := hide hnext
        have HM := hide hmap
        clear hbad hnext hmap hc q1 q2 s0 hsc
        go_wp2_with fail
        have hO2 := hO.kp ((Kp.refl wr).alloc (.cells #[.string os[i].1, .int .u64 (os[i].2 : Nat)] 37))
        have kr2 := kr.alloc (.cells #[.string os[i].1, .int .u64 (os[i].2 : Nat)] 37)
        clear hO kr q1' q2'
        generalize (wr.alloc (.cells #[.string os[i].1, .int .u64 (os[i].2 : Nat)] 37)) = W at *
        by_cases hb : os[i].1.size < 1 ∨ 128 < os[i].1.size
        · refine (add_long os[i].1 os[i].2 _ W hb q3).mono ?_
          rintro e w5 ⟨rfl, k5⟩
          have hs1 : scanN os (i + 1) = 41 := by rw [HN.out, HB.out, if_pos hb]
          have hs2 : scanN os os.length = 41 := by rw [scanN_stays (i := i + 1) (by rw [hs1]; decide) (by omega), hs1]
          have hP : Hid (NewPost w os (.returned (.tuple #[.pointer none, .int .i64 41])) w5) := ⟨kr2.trans k5, Or.inl ⟨by rw [hs2]; decide, by rw [hs2]; rfl⟩⟩
          clear hs1 hs2 HB HN HM hO2 kr2 h
          go_wp2_with fail
          go_ret2
          exact hP.out
        · cases hf : mapN os i os[i].k with
          | some a =>
            refine (add_twice os[i].1 os[i].2 a W hO2 (by omega) (by omega) hf).mono ?_
            rintro e w5 ⟨rfl, k5⟩
            have hs1 : scanN os (i + 1) = 42 := by rw [HN.out, HB.out, if_neg hb, hf]; rfl
            have hs2 : scanN os os.length = 42 := by rw [scanN_stays (i := i + 1) (by rw [hs1]; decide) (by omega), hs1]
            have hP : Hid (NewPost w os (.returned (.tuple #[.pointer none, .int .i64 42])) w5) := ⟨kr2.trans k5, Or.inl ⟨by rw [hs2]; decide, by rw [hs2]; rfl⟩⟩
            clear hs1 hs2 HB HN HM hO2 kr2 h hf
            go_wp2_with fail
            go_ret2
            exact hP.out
          | none =>
            refine (add_new os[i].1 os[i].2 W hO2 (by omega) (by omega) hf (by omega)).mono ?_
            rintro e w5 ⟨rfl, hO5, g1, g2, g3, g4, g5⟩
            have hs1 : scanN os (i + 1) = 0 := by rw [HN.out, HB.out, if_neg hb, hf]; rfl
            have hO6 : OrcAt w5 (w.heap.size + 1) w.heap.size (i + 1) (mapN os (i + 1)) := by rw [HM.out]; exact hO5
            have k6 : Kp w w5 := ⟨g3.trans kr2.os, g4.trans kr2.tape, g5.trans kr2.output, Nat.le_trans kr2.size g1, fun k hk => (g2 k (Nat.lt_of_lt_of_le hk kr2.size) (by omega)).trans (kr2.block k hk)⟩
            have HE := hide (And.intro hs1 (And.intro hO6 k6))
            clear hs1 HB HN HM hO2 kr2 h hf hO5 g1 g2 g3 g4 g5 hO6 k6
            go_wp2_with fail
            exact ⟨⟨i + 1, by simp, by omega, HE.out⟩, by simp [intOf]; omega⟩
      · have hlt' : ¬ (i : Int) < (os.length : Int) := by omega
        obtain rfl : i = os.length := by omega
        have hP : Hid (NewPost w os (.returned (.tuple #[.pointer (some ⟨w.heap.size + 1, 0, none⟩), .int .i64 0])) wr) := ⟨kr, Or.inr ⟨hsc, _, _, rfl, hO⟩⟩
        clear h hsc s0 hO
        go_wp2_with fail
        go_ret2
        exact hP.out
end Go.Proofs.YtflihieaajbihabDoor
