import Derived.Laws.AppendOwn
import Derived.Laws.AppendOwnNone
import Derived.Laws.OwnMore
import Derived.Deep.RegionLaw
import Derived.Test.YtgckinldnnckoaaGreatDoorPn17
/-
  The document's own Class (out of RF2, for seats without the rest of the document's arena).
-/
namespace Go.Proofs.YtgckinldnnckoaaGreatDoor
open Go.RowKit Go.Shelf
set_option linter.unusedVariables false

def powList : List Nat := [16, 32, 64, 128, 256, 512, 1024, 2048, 4096, 8192, 16384, 32768, 65536, 131072, 262144, 524288, 1048576]
theorem pairs_two : ∀ x ∈ classPairs, x.1 ∈ powList → x.1 < 1048576 → 2 * x.1 ∈ powList ∧ ((x.1 = 16 ∧ (2 * x.1, x.1) ∈ classPairs) ∨ (16 < x.1 ∧ (3 * (x.1 / 2), x.1) ∈ classPairs ∧ (2 * x.1, 3 * (x.1 / 2)) ∈ classPairs)) := by decide +kernel

set_option maxRecDepth 100000 in
set_option maxHeartbeats 1000000 in
theorem r2class_core (n N : Nat) (w : World) (h1 : 1 ≤ n) (h2 : n ≤ 1048576) (hN : Hid (∀ x ∈ classPairs, x.2 < n → n ≤ x.1 → x.1 = N)) :
    Calls Tryz.prog 14 #[.int .i64 (n : Int)] w fun e w' => e = .returned (.int .i64 (N : Int)) ∧ w' = w := by
  have a1 : ¬ (n : Int) < 1 := by omega
  have a2 : ¬ (1048576 : Int) < (n : Int) := by omega
  go_enter Tryz.func14, Tryz.ntmps14
  go_wp2
  go_loop [3] (fun v => ∃ c b : Nat, v = .int .i64 (c : Int) ∧ Hid ((c, b) ∈ classPairs ∧ c ∈ powList ∧ b < n) ∧ 16 ≤ c ∧ c ≤ 1048576) (fun v => 1048577 - (intOf v).toNat)
  case atStart => exact ⟨16, 0, rfl, ⟨by decide +kernel, by decide +kernel, by omega⟩, by omega, by omega⟩
  case round =>
    obtain ⟨c, b, rfl, hc, hc1, hc2⟩ := hrel
    by_cases hlt : c < 1048576
    · have hlt' : (c : Int) < 1048576 := by omega
      by_cases hle : n ≤ c
      · have hE : c = N := hN.out _ hc.out.1 hc.out.2.2 (by simp; omega)
        have hle' : (n : Int) ≤ (c : Int) := by omega
        subst hE
        clear hc hN
        go_wp2
        go_ret
        exact ⟨rfl, rfl⟩
      · have hle' : ¬ (n : Int) ≤ (c : Int) := by omega
        obtain ⟨hpw, hcase⟩ := pairs_two _ hc.out.1 hc.out.2.1 (by simp; omega)
        simp only at hpw hcase
        rcases hcase with ⟨e1, e2⟩ | ⟨e1, e2, e3⟩
        · subst e1
          have HM : Hid ((2 * 16, 16) ∈ classPairs ∧ 2 * 16 ∈ powList ∧ 16 < n) := ⟨e2, hpw, by omega⟩
          clear hN e2 hc hpw
          go_wp2
          go_round
          case rel => exact ⟨2 * 16, 16, by go_num, HM, by omega, by omega⟩
          case measure => simp [intOf]
        · have f1 : (16 : Int) < (c : Int) := by omega
          have hq : (c : Int) / 2 = ((c / 2 : Nat) : Int) := by omega
          by_cases h3 : n ≤ 3 * (c / 2)
          · have hE : 3 * (c / 2) = N := hN.out _ e2 (by simp; omega) (by simpa using h3)
            have h3' : (n : Int) ≤ 3 * ((c / 2 : Nat) : Int) := by omega
            have h3'' : (n : Int) ≤ 3 * ((c : Int) / 2) := by omega
            have HE : Hid ((3 : Int) * ((c : Int) / 2) = (N : Int)) := show _ = _ by omega
            clear hc hN e2 e3 hpw hE hq h3'
            go_wp2
            go_ret
            exact ⟨by rw [← HE.out]; go_num, rfl⟩
          · have h3'' : ¬ (n : Int) ≤ 3 * ((c : Int) / 2) := by omega
            have HM : Hid ((2 * c, 3 * (c / 2)) ∈ classPairs ∧ 2 * c ∈ powList ∧ 3 * (c / 2) < n) := ⟨e3, hpw, by omega⟩
            have hle2 := pairs_le _ e3
            simp only at hle2
            clear hN e2 hc hpw e3 hq
            go_wp2
            go_round
            case rel => exact ⟨2 * c, 3 * (c / 2), by go_num, HM, by omega, by omega⟩
            case measure => simp [intOf]; omega
    · have hcE : c = 1048576 := by omega
      subst hcE
      have hE : 1048576 = N := hN.out _ hc.out.1 hc.out.2.2 h2
      subst hE
      clear hc hN
      go_wp2
      go_ret
      exact ⟨rfl, rfl⟩
set_option maxHeartbeats 1000000 in
theorem r2class_any (n : Int) (w : World) :
    Calls Tryz.prog 14 #[.int .i64 n] w fun e w' => e = .returned (.int .i64 (classI n)) ∧ w' = w := by
  by_cases h : 1 ≤ n ∧ n ≤ 1048576
  · obtain ⟨m, rfl⟩ := Int.eq_ofNat_of_zero_le (show 0 ≤ n by omega)
    have e : classI (m : Int) = (classN m : Int) := by unfold classI; rw [if_pos h]; simp
    rw [e]
    exact r2class_core m (classN m) w (by omega) (by omega) (fun _ hx ha hb => class_at (by omega) (by omega) hx ha hb)
  · have e : classI n = 0 := by unfold classI; rw [if_neg h]
    rw [e]
    clear e
    by_cases h1 : n < 1
    · clear h
      go_enter Tryz.func14, Tryz.ntmps14
      go_wp2
      go_ret
      exact ⟨rfl, rfl⟩
    · have h2 : 1048576 < n := by omega
      clear h
      go_enter Tryz.func14, Tryz.ntmps14
      go_wp2
      go_ret
      exact ⟨rfl, rfl⟩

end Go.Proofs.YtgckinldnnckoaaGreatDoor
/-
  An oracle made: New.
-/
namespace Go.Proofs.YtgckinldnnckoaaGreatDoor.Oc
open Go.RowKit
set_option linter.unusedVariables false

def Ovr : Type := ByteArray × Nat
def Ovr.k (o : Ovr) : List UInt8 := o.1.data.toList
/-- The map behind the first i overrides. -/
def mapN (os : List Ovr) : Nat → List UInt8 → Option Nat
  | 0 => fun _ => none
  | i + 1 => match os[i]? with
    | some o => updS (mapN os i) o.k (some o.2)
    | none => mapN os i
theorem mapN_succ (os : List Ovr) (i : Nat) (hi : i < os.length) : mapN os (i + 1) = updS (mapN os i) os[i].k (some os[i].2) := by
  rw [mapN, List.getElem?_eq_getElem hi]
/-- What is wrong with override i. -/
def badN (os : List Ovr) (i : Nat) : Nat := match os[i]? with
  | some o => if o.1.size < 1 ∨ 128 < o.1.size then 41 else if (mapN os i o.k).isSome then 42 else 0
  | none => 0
def scanN (os : List Ovr) : Nat → Nat
  | 0 => if 64 < os.length then 40 else 0
  | i + 1 => if scanN os i = 0 then badN os i else scanN os i
theorem scanN_stays {os : List Ovr} {i j : Nat} (h : scanN os i ≠ 0) (hj : i ≤ j) : scanN os j = scanN os i := by
  induction j with
  | zero => obtain rfl : i = 0 := by omega
            rfl
  | succ j ih =>
    by_cases e : i = j + 1
    · rw [e]
    · rw [scanN, if_neg (by rw [ih (by omega)]; exact h), ih (by omega)]
theorem scanN_zero {os : List Ovr} {i j : Nat} (h : scanN os j = 0) (hi : i ≤ j) : scanN os i = 0 := by
  by_cases e : scanN os i = 0
  · exact e
  · rw [scanN_stays e hi] at h
    exact h

/-- A row of overrides. -/
def RowO (w : World) (v : Value) (os : List Ovr) : Prop :=
  (v = .slice none 0 0 ∧ os = []) ∨ ∃ (a : Addr) (cap : Nat), v = .slice (some a) os.length cap ∧ os.length ≤ cap ∧ cap ≤ maxLen ∧ ∀ j (hj : j < os.length), w.cell? (a.add (2 * j)) = some (.string os[j].1) ∧ w.cell? (a.add (2 * j + 1)) = some (.int .u64 (os[j].2 : Nat)) ∧ os[j].1.size ≤ maxLen
theorem plain_of_cell {w : World} {a : Addr} {v : Value} (h : w.cell? (a.add 0) = some v) : ∃ bb oo, a = ⟨bb, oo, none⟩ ∧ bb < w.heap.size := by
  obtain ⟨bb, oo, sp⟩ := a
  have h' : w.cell? ⟨bb, oo, sp⟩ = some v := h
  have hlt : bb < w.heap.size := by
    rcases Nat.lt_or_ge bb w.heap.size with h1 | h1
    · exact h1
    · simp [World.cell?, Array.getElem?_eq_none h1] at h'
  cases sp with
  | none => exact ⟨bb, oo, rfl, hlt⟩
  | some s =>
    exfalso
    unfold World.cell? at h'
    split at h' <;> simp at h'
theorem add_lit (b o j : Nat) : (⟨b, o, none⟩ : Addr).add j = ⟨b, o + j, none⟩ := by simp [Addr.add]
theorem RowO.some {w : World} {a : Option Addr} {n cap : Nat} {os : List Ovr} (h : RowO w (.slice a n cap) os) (hx : 0 < os.length) : ∃ b o, a = some ⟨b, o, none⟩ ∧ ∀ j (hj : j < os.length), w.cell? ⟨b, o + 2 * j, none⟩ = some (.string os[j].1) ∧ w.cell? ⟨b, o + (2 * j + 1), none⟩ = some (.int .u64 (os[j].2 : Nat)) ∧ os[j].1.size ≤ maxLen := by
  rcases h with ⟨_, rfl⟩ | ⟨a', c, e, _, _, h3⟩
  · simp at hx
  · cases e
    obtain ⟨b, o, rfl, _⟩ := plain_of_cell (h3 0 hx).1
    exact ⟨b, o, rfl, fun j hj => by
      obtain ⟨q1, q2, q3⟩ := h3 j hj
      rw [add_lit] at q1 q2
      exact ⟨q1, q2, q3⟩⟩
theorem RowO.kp {w w1 : World} {v : Value} {os : List Ovr} (h : RowO w v os) (k : Kp w w1) : RowO w1 v os := by
  rcases h with h | ⟨a, cap, h1, h2, h3, h4⟩
  · exact Or.inl h
  · exact Or.inr ⟨a, cap, h1, h2, h3, fun j hj => ⟨k.cell (h4 j hj).1, k.cell (h4 j hj).2.1, (h4 j hj).2.2⟩⟩

/-- What New answers. -/
def NewPost (w : World) (os : List Ovr) (e : Ending) (w' : World) : Prop :=
  Kp w w' ∧ ((scanN os os.length ≠ 0 ∧ e = .returned (.tuple #[.pointer none, .int .i64 (scanN os os.length : Nat)])) ∨
    (scanN os os.length = 0 ∧ ∃ p m, e = .returned (.tuple #[.pointer (some ⟨p, 0, none⟩), .int .i64 0]) ∧ OrcAt w' p m os.length (mapN os os.length)))

set_option maxRecDepth 100000 in
set_option maxHeartbeats 1000000 in
theorem new_any (a : Option Addr) (cap : Nat) (os : List Ovr) (w : World) (h : RowO w (.slice a os.length cap) os) :
    Calls Tryz.prog 27 #[.slice a os.length cap] w (NewPost w os) := by
  by_cases hm : 64 < os.length
  · have hm' : (64 : Int) < (os.length : Int) := by omega
    have hs : scanN os os.length = 40 := by
      have h0 : scanN os 0 = 40 := by rw [scanN, if_pos hm]
      rw [scanN_stays (i := 0) (by rw [h0]; decide) (Nat.zero_le _), h0]
    have hP : Hid (NewPost w os (.returned (.tuple #[.pointer none, .int .i64 40])) w) := ⟨Kp.refl _, Or.inl ⟨by rw [hs]; decide, by rw [hs]; rfl⟩⟩
    clear h hs
    go_enter Tryz.func27, Tryz.ntmps27
    go_wp2_with fail
    go_ret2
    exact hP.out
  · have hm' : ¬ (64 : Int) < (os.length : Int) := by omega
    have hmm : ∀ W, (Instr.makeMap 129 (some (.int .i64 (os.length : Int)))).run Tryz.prog W = .ok (.map (some W.heap.size)) (W.alloc (.map #[] 0)) := by
      intro W
      rfl
    have s0 : scanN os 0 = 0 := by rw [scanN, if_neg hm]
    go_enter Tryz.func27, Tryz.ntmps27
    go_wp2_with fail
    clear hmm
    go_loopw [18] (fun vi wr => ∃ i : Nat, vi = .int .i64 (i : Int) ∧ i ≤ os.length ∧ scanN os i = 0 ∧ OrcAt wr (w.heap.size + 1) w.heap.size i (mapN os i) ∧ Kp w wr) (fun vi _ => os.length - (intOf vi).toNat)
    case atStart =>
      have hm0 : MapS ((w.alloc (.map #[] 0)).alloc (.cells #[.map (some w.heap.size)] 131)) w.heap.size 0 (fun _ => none) := (MapS.made w).kp ((Kp.refl _).alloc _)
      have hp0 : ((w.alloc (.map #[] 0)).alloc (.cells #[.map (some w.heap.size)] 131)).heap[w.heap.size + 1]? = some (.cells #[.map (some w.heap.size)] 131) := by
        have := heap_new (w.alloc (.map #[] 0)) (.cells #[.map (some w.heap.size)] 131)
        simpa using this
      exact ⟨0, rfl, Nat.zero_le _, s0, ⟨hp0, hm0⟩, ((Kp.refl w).alloc _).alloc _⟩
    case round =>
      obtain ⟨i, rfl, hi, hsc, hO, kr⟩ := hrel
      by_cases hlt : i < os.length
      · have hlt' : (i : Int) < (os.length : Int) := by omega
        obtain ⟨b, o, rfl, hc⟩ := RowO.some h (by omega)
        obtain ⟨q1, q2, q3⟩ := hc i hlt
        replace q1 := kr.cell q1
        replace q2 := kr.cell q2
        have q1' : wr.cell? ⟨b, o + i * 2, none⟩ = some (.string os[i].1) := by rw [Nat.mul_comm i 2]; exact q1
        have q2' : wr.cell? ⟨b, o + i * 2 + 1, none⟩ = some (.int .u64 (os[i].2 : Nat)) := by rw [Nat.mul_comm i 2, Nat.add_assoc]; exact q2
        have hbad : badN os i = if os[i].1.size < 1 ∨ 128 < os[i].1.size then 41 else if (mapN os i os[i].k).isSome then 42 else 0 := by
          unfold badN
          rw [List.getElem?_eq_getElem hlt]
        have hnext : scanN os (i + 1) = badN os i := by rw [scanN, if_pos hsc]
        have hmap := mapN_succ os i hlt
        have HB := hide hbad
        have HN := hide hnext
        have HM := hide hmap
        clear hbad hnext hmap hc q1 q2 s0 hsc
        go_wp2_with fail
        have hO2 := hO.kp ((Kp.refl wr).alloc (.cells #[.string os[i].1, .int .u64 (os[i].2 : Nat)] 126))
        have kr2 := kr.alloc (.cells #[.string os[i].1, .int .u64 (os[i].2 : Nat)] 126)
        clear hO kr q1' q2'
        generalize (wr.alloc (.cells #[.string os[i].1, .int .u64 (os[i].2 : Nat)] 126)) = W at *
        by_cases hb : os[i].1.size < 1 ∨ 128 < os[i].1.size
        · refine (add_long os[i].1 os[i].2 _ W hb q3).mono ?_
          rintro e w5 ⟨rfl, k5⟩
          have hs1 : scanN os (i + 1) = 41 := by rw [HN.out, HB.out, if_pos hb]
          have hs2 : scanN os os.length = 41 := by rw [scanN_stays (i := i + 1) (by rw [hs1]; decide) (by omega), hs1]
          have hP : Hid (NewPost w os (.returned (.tuple #[.pointer none, .int .i64 41])) w5) := ⟨kr2.trans k5, Or.inl ⟨by rw [hs2]; decide, by rw [hs2]; rfl⟩⟩
          clear hs1 hs2 HB HN HM hO2 kr2 h
          go_wp2_with fail
          go_ret2
          exact hP.out
        · cases hf : mapN os i os[i].k with
          | some a =>
            refine (add_twice os[i].1 os[i].2 a W hO2 (by omega) (by omega) hf).mono ?_
            rintro e w5 ⟨rfl, k5⟩
            have hs1 : scanN os (i + 1) = 42 := by rw [HN.out, HB.out, if_neg hb, hf]; rfl
            have hs2 : scanN os os.length = 42 := by rw [scanN_stays (i := i + 1) (by rw [hs1]; decide) (by omega), hs1]
            have hP : Hid (NewPost w os (.returned (.tuple #[.pointer none, .int .i64 42])) w5) := ⟨kr2.trans k5, Or.inl ⟨by rw [hs2]; decide, by rw [hs2]; rfl⟩⟩
            clear hs1 hs2 HB HN HM hO2 kr2 h hf
            go_wp2_with fail
            go_ret2
            exact hP.out
          | none =>
            refine (add_new os[i].1 os[i].2 W hO2 (by omega) (by omega) hf (by omega)).mono ?_
            rintro e w5 ⟨rfl, hO5, g1, g2, g3, g4, g5⟩
            have hs1 : scanN os (i + 1) = 0 := by rw [HN.out, HB.out, if_neg hb, hf]; rfl
            have hO6 : OrcAt w5 (w.heap.size + 1) w.heap.size (i + 1) (mapN os (i + 1)) := by rw [HM.out]; exact hO5
            have k6 : Kp w w5 := ⟨g3.trans kr2.os, g4.trans kr2.tape, g5.trans kr2.output, Nat.le_trans kr2.size g1, fun k hk => (g2 k (Nat.lt_of_lt_of_le hk kr2.size) (by omega)).trans (kr2.block k hk)⟩
            have HE := hide (And.intro hs1 (And.intro hO6 k6))
            clear hs1 HB HN HM hO2 kr2 h hf hO5 g1 g2 g3 g4 g5 hO6 k6
            go_wp2_with fail
            exact ⟨⟨i + 1, by simp, by omega, HE.out⟩, by simp [intOf]; omega⟩
      · have hlt' : ¬ (i : Int) < (os.length : Int) := by omega
        obtain rfl : i = os.length := by omega
        have hP : Hid (NewPost w os (.returned (.tuple #[.pointer (some ⟨w.heap.size + 1, 0, none⟩), .int .i64 0])) wr) := ⟨kr, Or.inr ⟨hsc, _, _, rfl, hO⟩⟩
        clear h hsc s0 hO
        go_wp2_with fail
        go_ret2
        exact hP.out
end Go.Proofs.YtgckinldnnckoaaGreatDoor.Oc
/-
  oracle.New, with the blocks that it takes (made by genonw.py).
-/
namespace Go.Proofs.YtgckinldnnckoaaGreatDoor.Oc
open Go.RowKit
set_option linter.unusedVariables false
def NewPost2 (w : World) (os : List Ovr) (e : Ending) (w' : World) : Prop :=
  Kp w w' ∧ ((scanN os os.length ≠ 0 ∧ e = .returned (.tuple #[.pointer none, .int .i64 (scanN os os.length : Nat)])) ∨
    (scanN os os.length = 0 ∧ e = .returned (.tuple #[.pointer (some ⟨w.heap.size + 1, 0, none⟩), .int .i64 0]) ∧ OrcAt w' (w.heap.size + 1) w.heap.size os.length (mapN os os.length)))

set_option maxRecDepth 100000 in
set_option maxHeartbeats 1000000 in
theorem new_at (a : Option Addr) (cap : Nat) (os : List Ovr) (w : World) (h : RowO w (.slice a os.length cap) os) :
    Calls Tryz.prog 27 #[.slice a os.length cap] w (NewPost2 w os) := by
  by_cases hm : 64 < os.length
  · have hm' : (64 : Int) < (os.length : Int) := by omega
    have hs : scanN os os.length = 40 := by
      have h0 : scanN os 0 = 40 := by rw [scanN, if_pos hm]
      rw [scanN_stays (i := 0) (by rw [h0]; decide) (Nat.zero_le _), h0]
    have hP : Hid (NewPost2 w os (.returned (.tuple #[.pointer none, .int .i64 40])) w) := ⟨Kp.refl _, Or.inl ⟨by rw [hs]; decide, by rw [hs]; rfl⟩⟩
    clear h hs
    go_enter Tryz.func27, Tryz.ntmps27
    go_wp2_with fail
    go_ret2
    exact hP.out
  · have hm' : ¬ (64 : Int) < (os.length : Int) := by omega
    have hmm : ∀ W, (Instr.makeMap 129 (some (.int .i64 (os.length : Int)))).run Tryz.prog W = .ok (.map (some W.heap.size)) (W.alloc (.map #[] 0)) := by
      intro W
      rfl
    have s0 : scanN os 0 = 0 := by rw [scanN, if_neg hm]
    go_enter Tryz.func27, Tryz.ntmps27
    go_wp2_with fail
    clear hmm
    go_loopw [18] (fun vi wr => ∃ i : Nat, vi = .int .i64 (i : Int) ∧ i ≤ os.length ∧ scanN os i = 0 ∧ OrcAt wr (w.heap.size + 1) w.heap.size i (mapN os i) ∧ Kp w wr) (fun vi _ => os.length - (intOf vi).toNat)
    case atStart =>
      have hm0 : MapS ((w.alloc (.map #[] 0)).alloc (.cells #[.map (some w.heap.size)] 131)) w.heap.size 0 (fun _ => none) := (MapS.made w).kp ((Kp.refl _).alloc _)
      have hp0 : ((w.alloc (.map #[] 0)).alloc (.cells #[.map (some w.heap.size)] 131)).heap[w.heap.size + 1]? = some (.cells #[.map (some w.heap.size)] 131) := by
        have := heap_new (w.alloc (.map #[] 0)) (.cells #[.map (some w.heap.size)] 131)
        simpa using this
      exact ⟨0, rfl, Nat.zero_le _, s0, ⟨hp0, hm0⟩, ((Kp.refl w).alloc _).alloc _⟩
    case round =>
      obtain ⟨i, rfl, hi, hsc, hO, kr⟩ := hrel
      by_cases hlt : i < os.length
      · have hlt' : (i : Int) < (os.length : Int) := by omega
        obtain ⟨b, o, rfl, hc⟩ := RowO.some h (by omega)
        obtain ⟨q1, q2, q3⟩ := hc i hlt
        replace q1 := kr.cell q1
        replace q2 := kr.cell q2
        have q1' : wr.cell? ⟨b, o + i * 2, none⟩ = some (.string os[i].1) := by rw [Nat.mul_comm i 2]; exact q1
        have q2' : wr.cell? ⟨b, o + i * 2 + 1, none⟩ = some (.int .u64 (os[i].2 : Nat)) := by rw [Nat.mul_comm i 2, Nat.add_assoc]; exact q2
        have hbad : badN os i = if os[i].1.size < 1 ∨ 128 < os[i].1.size then 41 else if (mapN os i os[i].k).isSome then 42 else 0 := by
          unfold badN
          rw [List.getElem?_eq_getElem hlt]
        have hnext : scanN os (i + 1) = badN os i := by rw [scanN, if_pos hsc]
        have hmap := mapN_succ os i hlt
        have HB := hide hbad
        have HN := hide hnext
        have HM := hide hmap
        clear hbad hnext hmap hc q1 q2 s0 hsc
        go_wp2_with fail
        have hO2 := hO.kp ((Kp.refl wr).alloc (.cells #[.string os[i].1, .int .u64 (os[i].2 : Nat)] 126))
        have kr2 := kr.alloc (.cells #[.string os[i].1, .int .u64 (os[i].2 : Nat)] 126)
        clear hO kr q1' q2'
        generalize (wr.alloc (.cells #[.string os[i].1, .int .u64 (os[i].2 : Nat)] 126)) = W at *
        by_cases hb : os[i].1.size < 1 ∨ 128 < os[i].1.size
        · refine (add_long os[i].1 os[i].2 _ W hb q3).mono ?_
          rintro e w5 ⟨rfl, k5⟩
          have hs1 : scanN os (i + 1) = 41 := by rw [HN.out, HB.out, if_pos hb]
          have hs2 : scanN os os.length = 41 := by rw [scanN_stays (i := i + 1) (by rw [hs1]; decide) (by omega), hs1]
          have hP : Hid (NewPost2 w os (.returned (.tuple #[.pointer none, .int .i64 41])) w5) := ⟨kr2.trans k5, Or.inl ⟨by rw [hs2]; decide, by rw [hs2]; rfl⟩⟩
          clear hs1 hs2 HB HN HM hO2 kr2 h
          go_wp2_with fail
          go_ret2
          exact hP.out
        · cases hf : mapN os i os[i].k with
          | some a =>
            refine (add_twice os[i].1 os[i].2 a W hO2 (by omega) (by omega) hf).mono ?_
            rintro e w5 ⟨rfl, k5⟩
            have hs1 : scanN os (i + 1) = 42 := by rw [HN.out, HB.out, if_neg hb, hf]; rfl
            have hs2 : scanN os os.length = 42 := by rw [scanN_stays (i := i + 1) (by rw [hs1]; decide) (by omega), hs1]
            have hP : Hid (NewPost2 w os (.returned (.tuple #[.pointer none, .int .i64 42])) w5) := ⟨kr2.trans k5, Or.inl ⟨by rw [hs2]; decide, by rw [hs2]; rfl⟩⟩
            clear hs1 hs2 HB HN HM hO2 kr2 h hf
            go_wp2_with fail
            go_ret2
            exact hP.out
          | none =>
            refine (add_new os[i].1 os[i].2 W hO2 (by omega) (by omega) hf (by omega)).mono ?_
            rintro e w5 ⟨rfl, hO5, g1, g2, g3, g4, g5⟩
            have hs1 : scanN os (i + 1) = 0 := by rw [HN.out, HB.out, if_neg hb, hf]; rfl
            have hO6 : OrcAt w5 (w.heap.size + 1) w.heap.size (i + 1) (mapN os (i + 1)) := by rw [HM.out]; exact hO5
            have k6 : Kp w w5 := ⟨g3.trans kr2.os, g4.trans kr2.tape, g5.trans kr2.output, Nat.le_trans kr2.size g1, fun k hk => (g2 k (Nat.lt_of_lt_of_le hk kr2.size) (by omega)).trans (kr2.block k hk)⟩
            have HE := hide (And.intro hs1 (And.intro hO6 k6))
            clear hs1 HB HN HM hO2 kr2 h hf hO5 g1 g2 g3 g4 g5 hO6 k6
            go_wp2_with fail
            exact ⟨⟨i + 1, by simp, by omega, HE.out⟩, by simp [intOf]; omega⟩
      · have hlt' : ¬ (i : Int) < (os.length : Int) := by omega
        obtain rfl : i = os.length := by omega
        have hP : Hid (NewPost2 w os (.returned (.tuple #[.pointer (some ⟨w.heap.size + 1, 0, none⟩), .int .i64 0])) wr) := ⟨kr, Or.inr ⟨hsc, rfl, hO⟩⟩
        clear h hsc s0 hO
        go_wp2_with fail
        go_ret2
        exact hP.out
end Go.Proofs.YtgckinldnnckoaaGreatDoor.Oc
/-
  The statement's own fault.
-/
namespace Go.Proofs.YtgckinldnnckoaaGreatDoor.Oc
open Go.RowKit
set_option linter.unusedVariables false

theorem mapN_some (os : List Ovr) (i : Nat) (hi : i ≤ os.length) (k : List UInt8) : (mapN os i k).isSome = true ↔ ∃ j, ∃ hj : j < os.length, j < i ∧ os[j].k = k := by
  induction i with
  | zero =>
    constructor
    · intro h
      rw [mapN] at h
      cases h
    · rintro ⟨j, _, h, _⟩
      omega
  | succ i ih =>
    rw [mapN_succ os i (by omega)]
    by_cases e : k = os[i].k
    · constructor
      · intro _
        exact ⟨i, by omega, by omega, e.symm⟩
      · intro _
        rw [e, updS_same]
        rfl
    · rw [updS_other _ _ _ _ e, ih (by omega)]
      constructor
      · rintro ⟨j, hj, h1, h2⟩
        exact ⟨j, hj, by omega, h2⟩
      · rintro ⟨j, hj, h1, h2⟩
        by_cases ej : j = i
        · subst ej
          exact absurd h2.symm e
        · exact ⟨j, hj, by omega, h2⟩
theorem toList_data (s : ByteArray) : s.toList = s.data.toList := ByteArray.toList_eq s
theorem RowO.max {w : World} {a : Option Addr} {n cap : Nat} {os : List Ovr} (h : RowO w (.slice a n cap) os) : (os.length : Int) ≤ 9223372036854775807 := by
  rcases h with ⟨_, rfl⟩ | ⟨a', c, e, q1, q2, h3⟩
  · simp
  · unfold maxLen at q2
    omega
theorem k_inj {a b : Ovr} (h : a.k = b.k) : a.1 = b.1 := by
  apply ByteArray.ext
  exact Array.toList_inj.1 h
end Go.Proofs.YtgckinldnnckoaaGreatDoor.Oc
/-
  A row of overrides copied; what the map holds when none has a fault.
-/
namespace Go.Proofs.YtgckinldnnckoaaGreatDoor.Oc
open Go.RowKit
set_option linter.unusedVariables false

def ovCells : List Ovr → List Value
  | [] => []
  | o :: t => .string o.1 :: .int .u64 (o.2 : Nat) :: ovCells t
theorem ovCells_length (os : List Ovr) : (ovCells os).length = os.length * 2 := by
  induction os with
  | nil => rfl
  | cons o t ih => simp [ovCells, ih]; omega
theorem ovCells_even (os : List Ovr) (j : Nat) (hj : j < os.length) : (ovCells os)[2 * j]? = some (.string os[j].1) ∧ (ovCells os)[2 * j + 1]? = some (.int .u64 (os[j].2 : Nat)) := by
  induction os generalizing j with
  | nil => simp at hj
  | cons o t ih =>
    cases j with
    | zero => exact ⟨rfl, rfl⟩
    | succ j =>
      have := ih j (by simpa using hj)
      rw [show 2 * (j + 1) = 2 * j + 2 by omega]
      exact this
theorem ovCells_one (os : List Ovr) : ∀ u ∈ ovCells os, u.oneCell' = true := by
  induction os with
  | nil => intro u hu; cases hu
  | cons o t ih =>
    intro u hu
    simp only [ovCells, List.mem_cons] at hu
    rcases hu with rfl | rfl | hu
    · rfl
    · rfl
    · exact ih u hu
theorem info_over : ∃ i z, Tryz.prog.info? 126 = some i ∧ i.zero = some z ∧ i.size = 2 ∧ i.bytes = 24 ∧ z.cells.size = 2 := by
  have hi : (Tryz.prog.info? 126).map (fun i => (i.zero, i.size, i.bytes)) = some (some (.agg #[.string ⟨#[]⟩, .int .u64 0]), 2, 24) := by kernel_rfl
  cases h : Tryz.prog.info? 126 with
  | none => rw [h] at hi; cases hi
  | some i =>
    rw [h] at hi
    simp at hi
    exact ⟨i, _, rfl, hi.1, hi.2.1, hi.2.2, rfl⟩

/-- append([]api.Over{}, over...) -/
theorem append_overs {v : Value} {os : List Ovr} (w : World) (h : RowO w v os) (hn : os.length * 24 ≤ 140737488355328) :
    ∃ a cap w2, (Builtin.append_ #[23, 23] 23 #[.slice (some ⟨w.heap.size, 0, none⟩) 0 0, v]).run Tryz.prog (w.alloc (.cells #[] 126)) = .ok (.slice a os.length cap) w2 ∧ RowO w2 (.slice a os.length cap) os ∧ Kp w w2 := by
  obtain ⟨i, z, h1, h2, h3, h4, h5⟩ := info_over
  have own0 : (w.alloc (.cells #[] 126)).ownsRow w.heap.size 126 2 (.slice (some ⟨w.heap.size, 0, none⟩) 0 0) 0 [] := World.ownsRow_made w #[] 0 (Nat.le_refl _) (by simp only [maxLen]; omega) (by simp)
  rcases h with ⟨rfl, rfl⟩ | ⟨a, cap, rfl, q1, q2, q3⟩
  · have r1 := run_append_owned_none (P := Tryz.prog) (w := w.alloc (.cells #[] 126)) w.heap.size 23 23 126 i 2 Tryz.underlying23 h1 _ 0 [] own0
    exact ⟨_, _, _, r1, Or.inr ⟨⟨w.heap.size, 0, none⟩, 0, rfl, Nat.le_refl _, by simp [maxLen], fun j hj => by simp at hj⟩, (Kp.refl w).alloc _⟩
  · obtain ⟨v', w2, hr, hown, hgr, hnil⟩ := run_append_own (P := Tryz.prog) (w.alloc (.cells #[] 126)) w.heap.size 23 23 126 i z 2 24 Tryz.underlying23 h1 h2 h3 h4 h5 (by decide) _ 0 [] own0 a os.length cap (ovCells os) (ovCells_length os)
      (fun t u hu => by
        have ht : t < os.length * 2 := by
          have := (List.getElem?_eq_some_iff.1 hu).1
          rwa [ovCells_length] at this
        have hj : t / 2 < os.length := by omega
        obtain ⟨e1, e2⟩ := ovCells_even os (t / 2) hj
        obtain ⟨c1, c2, _⟩ := q3 (t / 2) hj
        rcases Nat.mod_two_eq_zero_or_one t with hm | hm
        · rw [show 2 * (t / 2) = t by omega] at e1 c1
          rw [e1] at hu
          cases hu
          exact ((Kp.refl w).alloc _).cell c1
        · rw [show 2 * (t / 2) + 1 = t by omega] at e2 c2
          rw [e2] at hu
          cases hu
          exact ((Kp.refl w).alloc _).cell c2) (ovCells_one os) (by simp only [maxLen]; omega) (by omega) (by simp)
    have hk : Kp w w2 := Below.grown (Below.alloc (Below.refl _ _) (Nat.le_refl _) _) hgr (by simp) (fun k hk => by simp [Value.ownBlock] at hk; omega)
    rw [Nat.zero_add, List.nil_append] at hown
    obtain ⟨_, hh | ⟨g, cap', cur, g1, g2, g3, g4, g5, g6, g7⟩⟩ := hown
    · exact absurd (hnil.1 hh.1).1 (by simp)
    · subst g1
      refine ⟨_, _, w2, hr, Or.inr ⟨⟨g, 0, none⟩, cap', rfl, g4, g5, fun j hj => ?_⟩, hk⟩
      obtain ⟨e1, e2⟩ := ovCells_even os j hj
      rw [← g7, List.getElem?_take_of_lt (by omega)] at e1 e2
      rw [add_lit, add_lit, Nat.zero_add, Nat.zero_add]
      exact ⟨cell_blk g3 (by simpa using e1), cell_blk g3 (by simpa using e2), (q3 j hj).2.2⟩

theorem mapN_holds {os : List Ovr} {n : Nat} (hn : n ≤ os.length) (hs : scanN os n = 0) (j : Nat) (hj : j < os.length) (hjn : j < n) : mapN os n os[j].k = some os[j].2 := by
  induction n with
  | zero => omega
  | succ n ih =>
    have hs0 : scanN os n = 0 := scanN_zero hs (by omega)
    have hb : badN os n = 0 := by
      rw [scanN, if_pos hs0] at hs
      exact hs
    rw [mapN_succ os n (by omega)]
    by_cases e : j = n
    · subst e
      rw [updS_same]
    · have hne : os[j].k ≠ os[n].k := by
        intro ek
        have hsome : (mapN os n os[n].k).isSome = true := (mapN_some os n (by omega) _).2 ⟨j, hj, by omega, ek⟩
        unfold badN at hb
        rw [List.getElem?_eq_getElem (show n < os.length by omega)] at hb
        simp only [hsome, if_true] at hb
        split at hb <;> omega
      rw [updS_other _ _ _ _ hne]
      exact ih (by omega) hs0 (by omega)
theorem mapN_none {os : List Ovr} {k : List UInt8} (h : ∀ l (hl : l < os.length), l < os.length → os[l].k ≠ k) : mapN os os.length k = none := by
  cases hm : mapN os os.length k with
  | none => rfl
  | some a =>
    have hs : (mapN os os.length k).isSome = true := by rw [hm]; rfl
    obtain ⟨j, hj, h1, h2⟩ := (mapN_some os os.length (Nat.le_refl _) k).1 hs
    exact absurd h2 (h j hj h1)
end Go.Proofs.YtgckinldnnckoaaGreatDoor.Oc
/-
  The reference's oracle: Hash, New.
-/
namespace Go.Proofs.YtgckinldnnckoaaGreatDoor.Oc
open Go.RowKit
set_option linter.unusedVariables false

/-- The reference's oracle at block p. -/
def RefAt (w : World) (p : Nat) (os : List Ovr) : Prop := ∃ a cap, w.heap[p]? = some (.cells #[.slice a os.length cap] 124) ∧ RowO w (.slice a os.length cap) os
theorem RefAt.kp {w w1 : World} {p : Nat} {os : List Ovr} (h : RefAt w p os) (k : Kp w w1) : RefAt w1 p os := by
  obtain ⟨a, cap, h1, h2⟩ := h
  exact ⟨a, cap, k.blk h1, h2.kp k⟩

/-- What the reference answers: the first override with this key. -/
def firstN (os : List Ovr) (k : List UInt8) (d : Nat) : Nat := match os with
  | [] => d
  | o :: t => if o.k = k then o.2 else firstN t k d
theorem firstN_drop (os : List Ovr) (i : Nat) (hi : i < os.length) (k : List UInt8) (d : Nat) : firstN (os.drop i) k d = if os[i].k = k then os[i].2 else firstN (os.drop (i + 1)) k d := by
  rw [List.drop_eq_getElem_cons hi, firstN]
end Go.Proofs.YtgckinldnnckoaaGreatDoor.Oc
/-
  The reference's oracle made: New.
-/
namespace Go.Proofs.YtgckinldnnckoaaGreatDoor.Oc
open Go.RowKit
set_option linter.unusedVariables false

theorem ovCells_append (a b : List Ovr) : ovCells (a ++ b) = ovCells a ++ ovCells b := by
  induction a with
  | nil => rfl
  | cons o t ih => simp [ovCells, ih]
theorem ovCells_take (os : List Ovr) (i : Nat) (hi : i < os.length) : ovCells (os.take (i + 1)) = ovCells (os.take i) ++ [.string os[i].1, .int .u64 (os[i].2 : Nat)] := by
  rw [List.take_succ_eq_append_getElem hi, ovCells_append]
  rfl
/-- A builtin append whose run is known, in a region that draws. -/
theorem step_append_run {P : Program} {w : World} {ops : Array Oper} {o : Oper} {a : Act} {K : Act → World → Prop} {Q : Exit → Act → World → Prop} {E : Prop} (hgd : o.guard = none) (s x : Operand) (t : TypeId)
    (ho : o.op = .call { callee := .builtin .append, args := #[s, x], argTypes := #[t, t] }) {v u v' : Value} {w' : World} (hs : a.eval s = v) (hx : a.eval x = u)
    (hrun : (Builtin.append_ #[t, t] o.type #[v, u]).run P w = .ok v' w') (h : K (a.put o.dst v') w') :
    if Region.wanted o (yielded ops a.tmps) = true then Oper.wp P o a w K Q else E := by
  have hw : Region.wanted o (yielded ops a.tmps) = true := by simp [Region.wanted, hgd]
  rw [if_pos hw]
  unfold Oper.wp execOp
  simp only [ho, resolve, invoke, builtin, Sem.run_bind, Sem.run_pure, Result.andThen_ok, List.map_toArray, List.map_cons, List.map_nil, hs, hx, hrun]
  exact h

/-- The reference while it is made: the first i overrides are in its row. -/
def Making (w : World) (p i : Nat) (os : List Ovr) (wr : World) : Prop :=
  ∃ v, wr.heap[p]? = some (.cells #[v] 124) ∧ wr.ownsRow (p + 1) 126 2 v i (ovCells (os.take i)) ∧ Kp w wr ∧ w.heap.size ≤ p
def RNewPost (w : World) (os : List Ovr) (e : Ending) (w' : World) : Prop :=
  Kp w w' ∧ ((scanN os os.length ≠ 0 ∧ e = .returned (.tuple #[.pointer none, .int .i64 (scanN os os.length : Nat)])) ∨
    (scanN os os.length = 0 ∧ ∃ p, e = .returned (.tuple #[.pointer (some ⟨p, 0, none⟩), .int .i64 0]) ∧ RefAt w' p os))
theorem Making.done {w wr : World} {p : Nat} {os : List Ovr} (h : Making w p os.length os wr) (hsz : ∀ j (hj : j < os.length), os[j].1.size ≤ maxLen) : RefAt wr p os := by
  obtain ⟨v, h1, ⟨hl, h2⟩, _, _⟩ := h
  rcases h2 with ⟨rfl, hz⟩ | ⟨g, cap, cur, rfl, g2, g3, g4, g5, g6, g7⟩
  · obtain rfl : os = [] := List.eq_nil_of_length_eq_zero hz
    exact ⟨none, 0, h1, Or.inl ⟨rfl, rfl⟩⟩
  · rw [List.take_length] at g7
    refine ⟨some ⟨g, 0, none⟩, cap, h1, Or.inr ⟨⟨g, 0, none⟩, cap, rfl, g4, g5, fun j hj => ?_⟩⟩
    obtain ⟨e1, e2⟩ := ovCells_even os j hj
    rw [← g7, List.getElem?_take_of_lt (by omega)] at e1 e2
    rw [add_lit, add_lit, Nat.zero_add, Nat.zero_add]
    exact ⟨cell_blk g3 (by simpa using e1), cell_blk g3 (by simpa using e2), hsz j hj⟩
theorem set_one {w : World} {b : Nat} {cs : Array Value} {t : TypeId} (h : w.heap[b]? = some (.cells cs t)) (i : Nat) (v : Value) (hi : i < cs.size) :
    (w.setCell ⟨b, i, none⟩ v).heap[b]? = some (.cells (cs.set i v hi) t) := by
  have hlt := (Array.getElem?_eq_some_iff.1 h).1
  have hv := (Array.getElem?_eq_some_iff.1 h).2
  simp only [World.setCell, Array.getElem?_modify]
  simp [hlt, hv, hi, Array.setIfInBounds]

/-- One override more. -/
theorem Making.more {w X : World} {p i : Nat} {os : List Ovr} (h : Making w p i os X) (hi : i < os.length) (h64 : os.length ≤ 64) {v : Value} (hv : X.cell? ⟨p, 0, none⟩ = some v) :
    ∃ v' w4, (Builtin.append_ #[23, 23] 23 #[v, .slice (some ⟨X.heap.size, 0, none⟩) 1 1]).run Tryz.prog (X.alloc (.cells #[.string os[i].1, .int .u64 (os[i].2 : Nat)] 126)) = .ok v' w4 ∧ w4.cell? ⟨p, 0, none⟩ = some v ∧ w4.frozen? ⟨p, 0, none⟩ = false ∧ Making w p (i + 1) os (w4.setCell ⟨p, 0, none⟩ v') ∧ ∃ a n c, v' = .slice a n c := by
  obtain ⟨u, h1, h2, h3, h4⟩ := h
  have hu : X.cell? ⟨p, 0, none⟩ = some u := cell_blk h1 rfl
  obtain rfl : u = v := Option.some.inj (hu.symm.trans hv)
  obtain ⟨ii, z, q1, q2, q3, q4, q5⟩ := info_over
  have hpX : p < X.heap.size := (Array.getElem?_eq_some_iff.1 h1).1
  have own2 := h2.alloc (.cells #[.string os[i].1, .int .u64 (os[i].2 : Nat)] 126)
  have hcell : ∀ j y, ([.string os[i].1, .int .u64 (os[i].2 : Nat)] : List Value)[j]? = some y → (X.alloc (.cells #[.string os[i].1, .int .u64 (os[i].2 : Nat)] 126)).cell? ((⟨X.heap.size, 0, none⟩ : Addr).add j) = some y := by
    intro j y hy
    rw [add_lit, Nat.zero_add]
    exact cell_blk (heap_new X _) (by simpa using hy)
  obtain ⟨v', w4, hr, hown, hgr, _⟩ := run_append_own (P := Tryz.prog) (X.alloc (.cells #[.string os[i].1, .int .u64 (os[i].2 : Nat)] 126)) (p + 1) 23 23 126 ii z 2 24 Tryz.underlying23 q1 q2 q3 q4 q5 (by decide) u i (ovCells (os.take i)) own2 ⟨X.heap.size, 0, none⟩ 1 1 [.string os[i].1, .int .u64 (os[i].2 : Nat)] rfl hcell
    (by simp [Value.oneCell']) (by simp only [maxLen]; omega) (by omega) (by simp; omega)
  have hblk : u.ownBlock ≠ some p := by
    rcases h2.2 with ⟨rfl, _⟩ | ⟨g, cap, cur, rfl, g2, _⟩
    · simp [Value.ownBlock]
    · simp [Value.ownBlock]
      omega
  have hp4 : w4.heap[p]? = some (.cells #[u] 124) := by
    rw [hgr.block p (by simp; omega) (Ne.symm hblk)]
    exact heap_old h1 _
  have hblk' : v'.ownBlock ≠ some p := by
    rcases hown.2 with ⟨rfl, _⟩ | ⟨g, cap, cur, rfl, g2, _⟩
    · simp [Value.ownBlock]
    · simp [Value.ownBlock]
      omega
  have k4 : Kp w w4 := Below.grown (Below.alloc h3 h3.size _) hgr (by have := h3.size; simp; omega) (fun k hk => by
    rcases h2.2 with ⟨rfl, _⟩ | ⟨g, cap, cur, rfl, g2, _⟩
    · simp [Value.ownBlock] at hk
    · simp [Value.ownBlock] at hk
      omega)
  rw [← ovCells_take os i hi] at hown
  refine ⟨v', w4, hr, cell_blk hp4 rfl, by simp [World.frozen?, hp4], ⟨v', set_one hp4 0 v' (by simp), ?_, Below.setCell k4 h4 _, h4⟩, ?_⟩
  · exact ownsRow_setCell_other hown (a := ⟨p, 0, none⟩) hblk' v'
  · rcases hown.2 with ⟨rfl, _⟩ | ⟨g, cap, cur, rfl, g2, _⟩
    · exact ⟨_, _, _, rfl⟩
    · exact ⟨_, _, _, rfl⟩
end Go.Proofs.YtgckinldnnckoaaGreatDoor.Oc
/-
  The reference's oracle made: New's walk.
-/
namespace Go.Proofs.YtgckinldnnckoaaGreatDoor.Oc
open Go.RowKit
set_option linter.unusedVariables false

theorem Making.drewN {w wr : World} {p i : Nat} {os : List Ovr} (h : Making w p i os wr) (n : Nat) : Making w p i os (wr.drewN n) := by
  obtain ⟨v, h1, h2, h3, h4⟩ := h
  exact ⟨v, h1, h2, h3.drewN n, h4⟩
theorem Making.drew {w wr : World} {p i : Nat} {os : List Ovr} (h : Making w p i os wr) : Making w p i os wr.drew := h.drewN 1
theorem Making.has {w wr : World} {p i : Nat} {os : List Ovr} (h : Making w p i os wr) : ∃ v, wr.cell? ⟨p, 0, none⟩ = some v := by
  obtain ⟨v, h1, _⟩ := h
  exact ⟨v, cell_blk h1 rfl⟩
theorem Making.kp {w wr : World} {p i : Nat} {os : List Ovr} (h : Making w p i os wr) : Kp w wr := h.choose_spec.2.2.1
theorem Making.first (w : World) (os : List Ovr) : Making w w.heap.size 0 os (w.alloc (.cells #[.slice none 0 0] 124)) :=
  ⟨.slice none 0 0, heap_new w _, ⟨rfl, Or.inl ⟨rfl, rfl⟩⟩, (Kp.refl w).alloc _, Nat.le_refl _⟩
theorem size_toList_ne {K : ByteArray} (h : ¬ K.size < 1) : (1 : Int) ≤ (K.size : Int) := by omega

set_option maxRecDepth 100000 in
set_option maxHeartbeats 1000000 in
theorem rnew_any (a : Option Addr) (cap : Nat) (os : List Ovr) (w : World) (h : RowO w (.slice a os.length cap) os) :
    Calls Tryz.prog 25 #[.slice a os.length cap] w (RNewPost w os) := by
  have hm9 := RowO.max h
  by_cases hm : 64 < os.length
  · have hm' : (64 : Int) < (os.length : Int) := by omega
    have hs : scanN os os.length = 40 := by
      have h0 : scanN os 0 = 40 := by rw [scanN, if_pos hm]
      rw [scanN_stays (i := 0) (by rw [h0]; decide) (Nat.zero_le _), h0]
    have hP : Hid (RNewPost w os (.returned (.tuple #[.pointer none, .int .i64 40])) w) := ⟨Kp.refl _, Or.inl ⟨by rw [hs]; decide, by rw [hs]; rfl⟩⟩
    clear h hs
    go_enter Tryz.func25, Tryz.ntmps25
    go_wp2_with fail
    go_ret2
    exact hP.out
  · have hm' : ¬ (64 : Int) < (os.length : Int) := by omega
    have s0 : scanN os 0 = 0 := by rw [scanN, if_neg hm]
    go_enter Tryz.func25, Tryz.ntmps25
    go_wp2_with fail
    go_loopw [5] (fun vi wr => ∃ i : Nat, vi = .int .i64 (i : Int) ∧ i ≤ os.length ∧ scanN os i = 0 ∧ Making w w.heap.size i os wr) (fun vi _ => os.length - (intOf vi).toNat)
    case atStart => exact ⟨0, rfl, Nat.zero_le _, s0, Making.first w os⟩
    case round =>
      obtain ⟨i, rfl, hi, hsc, hO⟩ := hrel
      have kr := hO.kp
      by_cases hlt : i < os.length
      · have hlt' : (i : Int) < (os.length : Int) := by omega
        obtain ⟨b, o, rfl, hc⟩ := RowO.some h (by omega)
        have hc' : ∀ j (hj : j < os.length), w.cell? ⟨b, o + j * 2, none⟩ = some (.string os[j].1) := fun j hj => by rw [Nat.mul_comm j 2]; exact (hc j hj).1
        have q2 : w.cell? ⟨b, o + i * 2 + 1, none⟩ = some (.int .u64 (os[i].2 : Nat)) := by rw [Nat.mul_comm i 2, Nat.add_assoc]; exact (hc i hlt).2.1
        have q1 := hc' i hlt
        have q1' := kr.cell q1
        have hbad : badN os i = if os[i].1.size < 1 ∨ 128 < os[i].1.size then 41 else if (mapN os i os[i].k).isSome then 42 else 0 := by
          unfold badN
          rw [List.getElem?_eq_getElem hlt]
        have hnext : scanN os (i + 1) = badN os i := by rw [scanN, if_pos hsc]
        have HB := hide hbad
        have HN := hide hnext
        have HC := hide hc'
        have HI := hide (mapN_some os i (by omega) os[i].k)
        have HO := hide hO
        have HH := hide h
        clear hbad hnext hc hc' s0 hsc h hO
        obtain ⟨K, hK⟩ : ∃ K, os[i].1 = K := ⟨_, rfl⟩
        have HK := hide hK
        rw [hK] at q1 q1' HB
        clear hK
        by_cases hb : K.size < 1 ∨ 128 < K.size
        · have hs1 : scanN os (i + 1) = 41 := by rw [HN.out, HB.out, if_pos hb]
          have hs2 : scanN os os.length = 41 := by rw [scanN_stays (i := i + 1) (by rw [hs1]; decide) (by omega), hs1]
          have hP : Hid (RNewPost w os (.returned (.tuple #[.pointer none, .int .i64 41])) wr) := ⟨kr, Or.inl ⟨by rw [hs2]; decide, by rw [hs2]; rfl⟩⟩
          clear hs1 hs2 HB HN HI HO HH HC
          by_cases h0 : K.size < 1
          · have h0' : (K.size : Int) < 1 := by omega
            go_wp2_with fail
            go_ret2
            exact hP.out
          · have h0' : ¬ (K.size : Int) < 1 := by omega
            have h1' : (128 : Int) < (K.size : Int) := by omega
            go_wp2_with fail
            go_ret2
            exact hP.out
        · have h0' : ¬ (K.size : Int) < 1 := by omega
          have h1' : ¬ (128 : Int) < (K.size : Int) := by omega
          go_wp2_with fail
          clear q1' kr
          go_loopw [6] (fun vj wj => ∃ j : Nat, vj = .int .i64 (j : Int) ∧ j ≤ i ∧ (∀ l (hl : l < os.length), l < j → os[l].k ≠ os[i].k) ∧ Making w w.heap.size i os wj) (fun vj _ => i - (intOf vj).toNat)
          case atStart => exact ⟨0, rfl, Nat.zero_le _, fun l _ hl => by omega, HO.out⟩
          case round =>
            clear HO
            obtain ⟨j, rfl, hj, hno, hO⟩ := hrel
            have kr := hO.kp
            have HNO := hide hno
            have HO := hide hO
            have p2 := kr.cell q1
            clear hno hO
            by_cases hlj : j < i
            · have hlj' : (j : Int) < (i : Int) := by omega
              have hjl : (j : Int) < (os.length : Int) := by omega
              have p1 := kr.cell (HC.out j (by omega))
              by_cases he : os[j].k = os[i].k
              · have e2 : os[j].1 = K := (k_inj he).trans HK.out
                rw [e2] at p1
                have hs1 : scanN os (i + 1) = 42 := by rw [HN.out, HB.out, if_neg hb, if_pos (HI.out.2 ⟨j, by omega, hlj, he⟩)]
                have hs2 : scanN os os.length = 42 := by rw [scanN_stays (i := i + 1) (by rw [hs1]; decide) (by omega), hs1]
                have HS := hide hs2
                clear hs1 hs2 HB HN HI HO HH HC
                go_wp2_with fail
                go_quiet (fail)
                go_wp2_with fail
                go_ret2
                exact ⟨kr.drewN _, Or.inl ⟨by rw [HS.out]; decide, by rw [HS.out]; rfl⟩⟩
              · have e2 : (os[j].1.toList == K.toList) = false := by
                  rw [beq_eq_false_iff_ne, toList_data, toList_data]
                  intro e
                  rw [← HK.out] at e
                  exact he e
                generalize os[j].1 = L at *
                go_wp2_with fail
                go_quiet (fail)
                go_wp2_with fail
                refine ⟨⟨j + 1, by simp, by omega, fun l hl hlj => ?_, HO.out.drewN _⟩, by simp [intOf]; omega⟩
                by_cases el : l = j
                · subst el
                  exact he
                · exact HNO.out l hl (by omega)
            · have hlj' : ¬ (j : Int) < (i : Int) := by omega
              obtain rfl : j = i := by omega
              have hs1 : scanN os (j + 1) = 0 := by
                rw [HN.out, HB.out, if_neg hb, if_neg]
                intro hs
                obtain ⟨l, hl, h1, h2⟩ := HI.out.1 hs
                exact HNO.out l hl h1 h2
              obtain ⟨v, hv⟩ := HO.out.has
              obtain ⟨v', w4, hap, c4, f4, hM4, a9, n9, c9, rfl⟩ := Making.more HO.out.drew hlt (by omega) (v := v) hv
              have p3 := kr.cell q2
              rw [HK.out] at hap
              have HE := hide (And.intro hs1 hM4)
              have hv2 : (wr.alloc (.cells #[.string K, .int .u64 (os[j].2 : Nat)] 126)).cell? ⟨w.heap.size, 0, none⟩ = some v := ((Kp.refl wr).alloc _).cell hv
              generalize os[j].2 = Y at *
              clear HN HB HI HC HO HH HNO hM4 hs1
              go_wp2_with fail
              go_region_law (refine step_append_run (by rfl) _ _ 23 (by rfl) (by rfl) (by rfl) hap ?_)
              all_goals (try go_wp2_with fail)
              all_goals exact ⟨⟨j + 1, by simp, by omega, HE.out⟩, by simp [intOf]; omega⟩
      · have hlt' : ¬ (i : Int) < (os.length : Int) := by omega
        obtain rfl : i = os.length := by omega
        have hsz : ∀ j (hj : j < os.length), os[j].1.size ≤ maxLen := by
          rcases h with ⟨_, rfl⟩ | ⟨a', c, e, _, _, h3⟩
          · intro j hj
            simp at hj
          · exact fun j hj => (h3 j hj).2.2
        have hP : Hid (RNewPost w os (.returned (.tuple #[.pointer (some ⟨w.heap.size, 0, none⟩), .int .i64 0])) wr) := ⟨kr, Or.inr ⟨hsc, _, rfl, hO.done hsz⟩⟩
        clear h hsc s0 hO hsz
        go_wp2_with fail
        go_ret2
        exact hP.out
end Go.Proofs.YtgckinldnnckoaaGreatDoor.Oc
/-
  small's law: bench, where nothing is claimed; a small one that is fresh.
-/
namespace Go.Proofs.YtgckinldnnckoaaGreatDoor
open Go.RowKit Go.Shelf Ly Ct
set_option linter.unusedVariables false
theorem pairs_3072 : ∀ x ∈ classPairs, x.2 < 3072 → x.1 ≤ 3072 := by decide
theorem class_3072 (n : Nat) (h1 : 1 ≤ n) (h2 : n ≤ 3072) : classN n ≤ 3072 := by
  obtain ⟨x, hx, h3, h4, h5⟩ := class_spec n h1 (by omega)
  rw [h3]
  exact pairs_3072 x hx (by omega)
theorem below_keeps {w w' : World} (h : Below w.heap.size w w') : Keeps w w' (fun _ => False) := ⟨h.os, h.tape, h.output, h.size, fun k hk _ => h.block k hk⟩
theorem snew_fresh {l : Lay} (hv : validB l = true) {lim : Nat} (hl1 : classN (32 + l.g.toNat) ≤ lim) (hl2 : lim ≤ 2097152) {W : World} {p : Nat} {F : Nat → Prop} (hA : Arena W p F (AD.fresh lim)) (hFl : ∀ k, F k → k < W.heap.size) :
    Calls Tryz.prog 28 #[.pointer (some ⟨p, 0, none⟩), .agg #[.int .i64 l.k, .int .i64 l.e, .int .i64 l.a, .int .i64 l.b, .int .i64 l.c, .int .i64 l.eo, .int .i64 l.bo, .int .i64 l.s, .int .i64 l.g]] W fun e w' => e = .returned (.tuple #[.agg #[.pointer (some ⟨p, 0, none⟩), .int .i64 l.k, .int .i64 l.e, .int .i64 l.a, .int .i64 l.b, .int .i64 l.c, .int .i64 l.eo, .int .i64 l.bo, .int .i64 l.s, .int .i64 l.g, .int .i64 (16 : Int)], .int .i64 0]) ∧ ∃ d', Turned W w' p F d' ∧ d'.Fine ∧ d'.small ∧ SmD d' l 16 hdS (fun _ => GC.zero) ∧ One d' 16 l lim := by
  have hvm := valid_more hv
  have hcl := class_le (32 + l.g.toNat) (by omega) (by omega)
  have hc3 := class_3072 (32 + l.g.toNat) (by omega) (by omega)
  obtain ⟨cN, hcN⟩ : ∃ cN, classN (32 + l.g.toNat) = cN := ⟨_, rfl⟩
  rw [hcN] at hcl hc3 hl1
  have := snew_yes hA (AD.fresh_fine (by omega)) (newG_fresh _) hFl l hv cN hcN (by simp only [AD.fresh]; omega)
  refine this.mono ?_
  have hbs : (AD.fresh lim).bs.length = 16 := by simp [AD.fresh, zeros_length]
  rw [hbs]
  rintro e w' ⟨rfl, d', hTu, hF', hD, hT⟩
  have h1 : One ((AD.fresh lim).took cN) 16 l lim := by
    refine ⟨?_, rfl, ?_, ?_, rfl⟩
    · rw [AD.took_used, hcN]
      exact Nat.zero_add _
    · rw [AD.took_L, hbs, hcN]
      rfl
    · rw [AD.took_lv, hbs, hcN]
      rfl
  refine ⟨rfl, d', hTu, hF', hT.small ?_, hD, h1.touch hT⟩
  intro x hx
  rw [AD.took_L] at hx
  simp only [AD.fresh, List.nil_append, List.mem_cons, List.not_mem_nil, or_false] at hx
  rcases hx with rfl
  show cN ≤ 1048576
  omega
theorem room_65536 {l : Lay} (hv : validB l = true) : classN (32 + l.g.toNat) ≤ 65536 := by
  have hvm := valid_more hv
  have := class_3072 (32 + l.g.toNat) (by omega) (by omega)
  omega
/-- A Plan, as it comes in. -/
def planV (fs : Value) (a : Option Addr) (n cap : Nat) (seed : Nat) (ts : Value) : Value := .agg #[fs, .slice a n cap, .int .u64 (seed : Int), ts]
section
variable (fs ts : Value) (a : Option Addr) (cap seed : Nat) (os : List Oc.Ovr) (l : Lay) (E : Int) (lim : Int) (w : World)
set_option maxRecDepth 100000 in
set_option maxHeartbeats 4000000 in
theorem sbench_no0 (hPar : ∀ W, Keeps w W (fun _ => False) → Calls Tryz.prog 13 #[fs] W fun r w' => r = .returned (.tuple #[.agg #[.int .i64 l.k, .int .i64 l.e, .int .i64 l.a, .int .i64 l.b, .int .i64 l.c, .int .i64 l.eo, .int .i64 l.bo, .int .i64 l.s, .int .i64 l.g], .int .i64 E]) ∧ Keeps W w' (fun _ => False)) (hO : Oc.RowO w (.slice a os.length cap) os) (h0 : E ≠ 0 ∨ Oc.scanN os os.length ≠ 0) :
    Calls Tryz.prog 7 #[planV fs a os.length cap seed ts, .int .i64 lim] w fun e w' => e = .returned (.tuple #[.pointer none, .bool true, .bool false]) ∧ Keeps w w' (fun _ => False) := by
  have hRn : Hid (∀ W, Keeps w W (fun _ => False) → Calls Tryz.prog 25 #[.slice a os.length cap] W (Oc.RNewPost W os)) := fun W k => Oc.rnew_any a cap os W (hO.kp (k.below (Nat.le_refl _) (fun _ _ e => e)))
  have H0 := hide h0
  clear hO h0
  unfold planV
  go_enter Tryz.func7, Tryz.ntmps7
  go_wp2_with fail
  refine alloc1 (P := fun W => Calls _ _ _ W _) fun W0 hb hz K0 => ?_
  (with_reducible refine (hPar _ K0).mono ?_)
  rintro r w1 ⟨rfl, k1⟩
  have k2 : Keeps w1 (w1.alloc (.cells #[.int .i64 l.k, .int .i64 l.e, .int .i64 l.a, .int .i64 l.b, .int .i64 l.c, .int .i64 l.eo, .int .i64 l.bo, .int .i64 l.s, .int .i64 l.g] 38)) (fun _ => False) := (Keeps.refl _ _).alloc _
  have hb2 := k2.blk (k1.blk hb)
  have q1 : (w1.alloc (.cells #[.int .i64 l.k, .int .i64 l.e, .int .i64 l.a, .int .i64 l.b, .int .i64 l.c, .int .i64 l.eo, .int .i64 l.bo, .int .i64 l.s, .int .i64 l.g] 38)).cell? ⟨w.heap.size, 1, none⟩ = some (.slice a os.length cap) := by simp only [World.cell?, hb2]; rfl
  have KK := hide ((K0.trans k1 (fun _ _ e => e)).trans k2 (fun _ _ e => e))
  clear hPar k1 k2 K0 hb hb2 hz
  generalize w.heap.size = B at *
  go_wp2_with fail
  (with_reducible refine (hRn.out _ KK.out).mono ?_)
  rintro r w3 ⟨k3, ⟨hs, rfl⟩ | ⟨hs, pp, rfl, -⟩⟩
  · have K3 := hide (KK.out.trans (below_keeps k3) (fun _ _ e => e))
    have e1 : (((Oc.scanN os os.length : Nat) : Int) != 0) = true := by simp; omega
    clear KK k3 q1 hRn H0 hs
    by_cases hE : E = 0
    · subst hE
      go_wp2_with fail
      exact bodyPost_ret (v := .tuple #[.pointer none, .bool true, .bool false]) (by simp [results, Tryz.results7, go_sem]) rfl ⟨rfl, K3.out⟩
    · have e0 : (E != 0) = true := by simp [hE]
      go_wp2_with fail
      exact bodyPost_ret (v := .tuple #[.pointer none, .bool true, .bool false]) (by simp [results, Tryz.results7, go_sem]) rfl ⟨rfl, K3.out⟩
  · have K3 := hide (KK.out.trans (below_keeps k3) (fun _ _ e => e))
    have hE : E ≠ 0 := H0.out.elim id (fun q => absurd hs q)
    have e0 : (E != 0) = true := by simp [hE]
    clear KK k3 q1 hRn H0 hs
    go_wp2_with fail
    exact bodyPost_ret (v := .tuple #[.pointer none, .bool true, .bool false]) (by simp [results, Tryz.results7, go_sem]) rfl ⟨rfl, K3.out⟩
end
end Go.Proofs.YtgckinldnnckoaaGreatDoor
/-
  small's law: bench, where a small one is made.
-/
namespace Go.Proofs.YtgckinldnnckoaaGreatDoor
open Go.RowKit Go.Shelf Ly Ct
set_option linter.unusedVariables false
/-- A Bench of a new small one. -/
def benS (p : Nat) (l : Lay) (q : Nat) (fs os : Value) (seed : Nat) (ts : Value) : Array Value :=
  #[.pointer (some ⟨p, 0, none⟩), .int .i64 l.k, .int .i64 l.e, .int .i64 l.a, .int .i64 l.b, .int .i64 l.c, .int .i64 l.eo, .int .i64 l.bo, .int .i64 l.s, .int .i64 l.g, .pointer (some ⟨q, 0, none⟩), .pointer (some ⟨p, 0, none⟩), .int .i64 l.k, .int .i64 l.e, .int .i64 l.a, .int .i64 l.b, .int .i64 l.c, .int .i64 l.eo, .int .i64 l.bo, .int .i64 l.s, .int .i64 l.g, .int .i64 16, fs, os, .int .u64 (seed : Int), ts,
    .int .i64 0, .int .i64 0, .string ⟨#[]⟩, .string ⟨#[]⟩, .int .i64 0, .int .i64 0, .int .i64 0, .string ⟨#[]⟩, .string ⟨#[]⟩, .int .i64 0, .int .i64 0, .int .i64 0, .string ⟨#[]⟩, .string ⟨#[]⟩, .int .i64 0, .int .i64 0, .int .i64 0, .string ⟨#[]⟩, .string ⟨#[]⟩, .int .i64 0,
    .int .i64 0, .int .i64 0, .string ⟨#[]⟩, .string ⟨#[]⟩, .int .i64 0, .int .i64 0, .int .i64 0, .string ⟨#[]⟩, .string ⟨#[]⟩, .int .i64 0, .int .i64 0, .int .i64 0, .string ⟨#[]⟩, .string ⟨#[]⟩, .int .i64 0, .int .i64 0, .int .i64 0, .string ⟨#[]⟩, .string ⟨#[]⟩, .int .i64 0, .int .i64 0]
theorem benS_is (p : Nat) (l : Lay) (q : Nat) (fs os : Value) (seed : Nat) (ts : Value) : BC (benS p l q fs os seed ts) p l 16 q seed (fun _ => GC.zero) 0 := by
  refine ⟨rfl, rfl, rfl, rfl, rfl, rfl, rfl, rfl, rfl, rfl, rfl, rfl, rfl, rfl, rfl, rfl, fun i hi => ?_, rfl, rfl, rfl⟩
  have : i = 0 ∨ i = 1 ∨ i = 2 ∨ i = 3 ∨ i = 4 ∨ i = 5 ∨ i = 6 ∨ i = 7 := by omega
  rcases this with rfl | rfl | rfl | rfl | rfl | rfl | rfl | rfl <;> exact ⟨rfl, rfl, rfl, rfl, rfl⟩
/-- As the build lays it. -/
noncomputable def benT (p : Nat) (l : Lay) (q : Nat) (fs os : Value) (seed : Nat) (ts : Value) : Array Value :=
  ((((((((((((((((((((((((((Tryz.zeroCells46.setIfInBounds 0 (.pointer (some ⟨p, 0, none⟩))).setIfInBounds 1 (.int .i64 l.k)).setIfInBounds 2 (.int .i64 l.e)).setIfInBounds 3 (.int .i64 l.a)).setIfInBounds 4 (.int .i64 l.b)).setIfInBounds 5 (.int .i64 l.c)).setIfInBounds 6 (.int .i64 l.eo)).setIfInBounds 7 (.int .i64 l.bo)).setIfInBounds 8 (.int .i64 l.s)).setIfInBounds 9 (.int .i64 l.g)).setIfInBounds 10 (.pointer (some ⟨q, 0, none⟩))).setIfInBounds 11 (.pointer (some ⟨p, 0, none⟩))).setIfInBounds 12 (.int .i64 l.k)).setIfInBounds 13 (.int .i64 l.e)).setIfInBounds 14 (.int .i64 l.a)).setIfInBounds 15 (.int .i64 l.b)).setIfInBounds 16 (.int .i64 l.c)).setIfInBounds 17 (.int .i64 l.eo)).setIfInBounds 18 (.int .i64 l.bo)).setIfInBounds 19 (.int .i64 l.s)).setIfInBounds 20 (.int .i64 l.g)).setIfInBounds 21 (.int .i64 16)).setIfInBounds 22 (fs)).setIfInBounds 23 (os)).setIfInBounds 24 (.int .u64 (seed : Int))).setIfInBounds 25 (ts))
theorem benT_eq (p : Nat) (l : Lay) (q : Nat) (fs os : Value) (seed : Nat) (ts : Value) : benT p l q fs os seed ts = benS p l q fs os seed ts := by
  simp [benT, benS, Tryz.zeroCells46]
/-- What bench leaves, where a small one is made. -/
def SBench (lim : Nat) (w : World) (l : Lay) (seed : Nat) (os : List Oc.Ovr) (e : Ending) (w' : World) : Prop :=
  ∃ (b p q m : Nat) (d : AD) (X : Nat → Prop), e = .returned (.tuple #[.pointer (some ⟨b, 0, none⟩), .bool true, .bool true]) ∧ SB (1, 0, 0, lim) w b p l 16 q m os.length seed X (Oc.mapN os os.length) d hdS (fun _ => GC.zero) (fun _ => GC.zero) 0 w' ∧ q ≠ b ∧ m ≠ b ∧ w.heap.size ≤ b
theorem over_few {os : List Oc.Ovr} (h : Oc.scanN os os.length = 0) : os.length ≤ 64 := by
  by_cases hm : 64 < os.length
  · have h0 : Oc.scanN os 0 = 40 := by rw [Oc.scanN, if_pos hm]
    rw [Oc.scanN_stays (i := 0) (by rw [h0]; decide) (Nat.zero_le _), h0] at h
    cases h
  · omega
theorem zero_cnt : ∀ i, cntF (fun _ => GC.zero) i = 0
  | 0 => rfl
  | i + 1 => by rw [cntF, zero_cnt i]; rfl
theorem sb_new {lim : Nat} {w W W7 W8 : World} {b p q m n nm seed : Nat} {l : Lay} {d d' : AD} {fs o ts : Value} {g : List UInt8 → Option Nat} (hO : Own w W p (fun k => k < n ∨ k = q ∨ k = m) d) (hn : n ≤ W.heap.size) (hq : q < W.heap.size) (hm : m < W.heap.size) (hOr : Oc.OrcAt W q m nm g) (hqw : w.heap.size ≤ q) (hmw : w.heap.size ≤ m)
    (hT : Turned W W7 p (fun k => (w.heap.size ≤ k ∧ ¬ (k < n ∨ k = q ∨ k = m)) ∧ k < W.heap.size) d') (hF : d'.Fine) (hS : d'.small) (hD : SmD d' l 16 hdS (fun _ => GC.zero)) (hOne : One d' 16 l lim)
    (hb : W7.heap.size ≤ b) (k78 : Keeps W7 W8 (fun _ => False)) (hb8 : W8.heap[b]? = some (.cells (benT p l q fs o seed ts) 46)) :
    SB (1, 0, 0, lim) w b p l 16 q m nm seed (fun k => k = b ∨ k < n ∨ k = q ∨ k = m) g d' hdS (fun _ => GC.zero) (fun _ => GC.zero) 0 W8 ∧ q ≠ b ∧ m ≠ b ∧ w.heap.size ≤ b := by
  have hO7 := hO.turn hT (fun k hk => by omega)
  have z7 := hT.2.size
  have hO7' : Own w W7 p (fun k => k = b ∨ k < n ∨ k = q ∨ k = m) d' := ⟨hO7.arena.mono (fun i hi e => ⟨e.1, fun x => x.elim (fun y => by omega) e.2⟩), hO7.keeps⟩
  have hOr7 : Oc.OrcAt W7 q m nm g := orc_keeps hOr hT.2 (fun e => e.1.2 (Or.inr (Or.inl rfl))) (fun e => e.1.2 (Or.inr (Or.inr rfl)))
  refine ⟨⟨hO7'.stay k78, hF, hS, hD, ⟨_, hb8, by rw [benT_eq]; exact benS_is _ _ _ _ _ _ _⟩, orc_keeps hOr7 k78 id id, Or.inl rfl, Or.inr (Or.inr (Or.inl rfl)), Or.inr (Or.inr (Or.inr rfl)), fun k hk => ?_, rfl, rfl, rfl, ?_, fun i _ e => absurd e (by decide), fun i _ => Or.inl rfl, hOne⟩, by omega, by omega, by omega⟩
  · have z8 := k78.size
    have z9 := heap_lt hb8
    rcases hk with rfl | hk | rfl | rfl
    · exact z9
    · omega
    · omega
    · omega
  · rw [zero_cnt]
    rfl
end Go.Proofs.YtgckinldnnckoaaGreatDoor
