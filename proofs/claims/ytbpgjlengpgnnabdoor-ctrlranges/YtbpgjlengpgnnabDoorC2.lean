/-
  Contracts by their answer; how many slots are in a set.
-/
import Derived.Test.YtbpgjlengpgnnabDoorC1
import Derived.Deep.RegionHeld3
namespace Go.Proofs.YtbpgjlengpgnnabDoor
open Go.RowKit
set_option linter.unusedVariables false

def CntIs (z C : Int) : Prop := ∃ m, m < 256 ∧ z = ((spread m : Nat) : Int) ∧ C = ((cntM m : Nat) : Int)
theorem count_is {z C : Int} (q : CntIs z C) (w : World) :
    Calls Tryd.prog 27 #[.agg #[.int .u64 z]] w fun e w' => e = .returned (.int .i64 C) ∧ Kp w w' := by
  obtain ⟨m, hm, rfl, rfl⟩ := q
  exact count_any m hm w
def FullIs (W z : Int) : Prop := ∃ V : Nat, V < 18446744073709551616 ∧ W = (V : Int) ∧ z = ((spread (mk (fun x => decide (x < 128)) V) : Nat) : Int)
theorem full_is {W z : Int} (q : FullIs W z) (w : World) :
    Calls Tryd.prog 7 #[.int .u64 W] w fun e w' => e = .returned (.agg #[.int .u64 z]) ∧ Kp w w' := by
  obtain ⟨V, hv, rfl, rfl⟩ := q
  exact full_any V hv w
def EmptyIs (W z : Int) : Prop := ∃ V : Nat, V < 18446744073709551616 ∧ W = (V : Int) ∧ z = ((spread (mk (· == 128) V) : Nat) : Int)
theorem empty_is {W z : Int} (q : EmptyIs W z) (w : World) :
    Calls Tryd.prog 11 #[.int .u64 W] w fun e w' => e = .returned (.agg #[.int .u64 z]) ∧ Kp w w' := by
  obtain ⟨V, hv, rfl, rfl⟩ := q
  exact mempty_any V hv w
def VacantIs (W z : Int) : Prop := ∃ V : Nat, V < 18446744073709551616 ∧ W = (V : Int) ∧ z = ((spread (mk (fun x => x == 128 || x == 254) V) : Nat) : Int)
theorem vacant_is {W z : Int} (q : VacantIs W z) (w : World) :
    Calls Tryd.prog 9 #[.int .u64 W] w fun e w' => e = .returned (.agg #[.int .u64 z]) ∧ Kp w w' := by
  obtain ⟨V, hv, rfl, rfl⟩ := q
  exact vacant_any V hv w
def MatchIs (W tag z : Int) : Prop := ∃ V : Nat, V < 18446744073709551616 ∧ W = (V : Int) ∧ z = ((spread (mk (tagB tag) V) : Nat) : Int)
theorem match_is {W tag z : Int} (q : MatchIs W tag z) (w : World) :
    Calls Tryd.prog 5 #[.int .u64 W, .int .i64 tag] w fun e w' => e = .returned (.agg #[.int .u64 z]) ∧ Kp w w' := by
  obtain ⟨V, hv, rfl, rfl⟩ := q
  exact match_any V tag hv w
def HasIs (z i : Int) (b : Bool) : Prop := (∃ m k : Nat, z = ((spread m : Nat) : Int) ∧ i = (k : Int) ∧ k < 8 ∧ b = hasM m k) ∨ (∃ m : Nat, z = ((spread m : Nat) : Int)) ∧ ¬ (0 ≤ i ∧ i < 8) ∧ b = false
theorem has_is {z i : Int} {b : Bool} (q : HasIs z i b) (w : World) :
    Calls Tryd.prog 15 #[.agg #[.int .u64 z], .int .i64 i] w fun e w' => e = .returned (.bool b) ∧ Kp w w' := by
  rcases q with ⟨m, k, rfl, rfl, hk, rfl⟩ | ⟨⟨m, rfl⟩, hi, rfl⟩
  · exact has_in m k hk w
  · exact has_out m i hi w
/-- The word whose slot i has the byte c, as Set gives it. -/
def putN (W : Nat) (i c : Int) : Nat := if 0 ≤ i ∧ i < 8 ∧ 0 ≤ c ∧ c ≤ 255 then setN W i.toNat c.toNat else W
def getN (W : Nat) (i : Int) : Int := if 0 ≤ i ∧ i < 8 then ((byN W i.toNat : Nat) : Int) else -1
theorem putN_lt {W : Nat} (hw : W < 18446744073709551616) (i c : Int) : putN W i c < 18446744073709551616 := by
  unfold putN
  split
  · exact setN_lt _ _ _ (by omega)
  · exact hw
def SetIs (W i c R : Int) : Prop := ∃ V : Nat, V < 18446744073709551616 ∧ W = (V : Int) ∧ R = ((putN V i c : Nat) : Int)
theorem set_is {W i c R : Int} (q : SetIs W i c R) (w : World) :
    Calls Tryd.prog 20 #[.int .u64 W, .int .i64 i, .int .i64 c] w fun e w' => e = .returned (.int .u64 R) ∧ Kp w w' := by
  obtain ⟨V, hv, rfl, rfl⟩ := q
  by_cases h : 0 ≤ i ∧ i < 8 ∧ 0 ≤ c ∧ c ≤ 255
  · unfold putN
    rw [if_pos h]
    obtain ⟨I, rfl⟩ : ∃ I : Nat, i = (I : Int) := ⟨i.toNat, by omega⟩
    obtain ⟨C, rfl⟩ : ∃ C : Nat, c = (C : Int) := ⟨c.toNat, by omega⟩
    exact set_in V I C hv (by omega) (by omega) w
  · unfold putN
    rw [if_neg h]
    exact set_out V i c h w
def GetIs (W i R : Int) : Prop := ∃ V : Nat, V < 18446744073709551616 ∧ W = (V : Int) ∧ R = getN V i
theorem get_is {W i R : Int} (q : GetIs W i R) (w : World) :
    Calls Tryd.prog 19 #[.int .u64 W, .int .i64 i] w fun e w' => e = .returned (.int .i64 R) ∧ w' = w := by
  obtain ⟨V, hv, rfl, rfl⟩ := q
  by_cases h : 0 ≤ i ∧ i < 8
  · unfold getN
    rw [if_pos h]
    obtain ⟨I, rfl⟩ : ∃ I : Nat, i = (I : Int) := ⟨i.toNat, by omega⟩
    exact get_in V I hv (by omega) w
  · unfold getN
    rw [if_neg h]
    exact get_out V i h w

def sum8 (f : Nat → Nat) : Nat := f 0 + f 1 + f 2 + f 3 + f 4 + f 5 + f 6 + f 7
theorem cntM_mk (p : Nat → Bool) (w : Nat) : cntM (mk p w) = sum8 (fun i => (p (byN w i)).toNat) := by
  have h0 := mk_bit p w (i := 0) (by decide)
  have h1 := mk_bit p w (i := 1) (by decide)
  have h2 := mk_bit p w (i := 2) (by decide)
  have h3 := mk_bit p w (i := 3) (by decide)
  have h4 := mk_bit p w (i := 4) (by decide)
  have h5 := mk_bit p w (i := 5) (by decide)
  have h6 := mk_bit p w (i := 6) (by decide)
  have h7 := mk_bit p w (i := 7) (by decide)
  simp only [Nat.reducePow, Nat.div_one] at h0 h1 h2 h3 h4 h5 h6 h7
  unfold cntM sum8
  rw [h0, h1, h2, h3, h4, h5, h6, h7]
theorem sum8_le {f g : Nat → Nat} (h : ∀ i, i < 8 → f i ≤ g i) : sum8 f ≤ sum8 g := by
  have h0 := h 0 (by decide)
  have h1 := h 1 (by decide)
  have h2 := h 2 (by decide)
  have h3 := h 3 (by decide)
  have h4 := h 4 (by decide)
  have h5 := h 5 (by decide)
  have h6 := h 6 (by decide)
  have h7 := h 7 (by decide)
  unfold sum8
  omega
theorem sum8_add (f g : Nat → Nat) : sum8 f + sum8 g = sum8 (fun i => f i + g i) := by
  unfold sum8
  dsimp only
  omega
theorem cnt_full_vacant (W : Nat) : cntM (mk (fun x => decide (x < 128)) W) + cntM (mk (fun x => x == 128 || x == 254) W) ≤ 8 := by
  rw [cntM_mk, cntM_mk, sum8_add]
  refine Nat.le_trans (sum8_le (g := fun _ => 1) fun i _ => ?_) (by decide)
  generalize byN W i = x
  by_cases h : x < 128
  · have h1 : (x == 128) = false := beq_eq_false_iff_ne.2 (by omega)
    have h2 : (x == 254) = false := beq_eq_false_iff_ne.2 (by omega)
    rw [h1, h2, decide_eq_true h]
    decide
  · simp only [h, decide_false, Bool.toNat_false, Nat.zero_add]
    exact toNat_le _
theorem cnt_empty_vacant (W : Nat) : cntM (mk (· == 128) W) ≤ cntM (mk (fun x => x == 128 || x == 254) W) := by
  rw [cntM_mk, cntM_mk]
  refine sum8_le fun i _ => ?_
  generalize byN W i = x
  cases h : x == 128
  · exact Nat.zero_le _
  · exact Nat.le_refl _

section
variable {w W W1 : World} {a b c : Nat} {u v x : Value}
abbrev S3 (w : World) (a b c : Nat) (u v x : Value) (W : World) : Prop := W.cell? ⟨a, 0, none⟩ = some u ∧ W.cell? ⟨b, 0, none⟩ = some v ∧ W.cell? ⟨c, 0, none⟩ = some x ∧ Kp w W
theorem S3.call (h : W.cell? ⟨a, 0, none⟩ = some u ∧ W.cell? ⟨b, 0, none⟩ = some v ∧ W.cell? ⟨c, 0, none⟩ = some x ∧ Kp w W) (k : Kp W W1) : W1.cell? ⟨a, 0, none⟩ = some u ∧ W1.cell? ⟨b, 0, none⟩ = some v ∧ W1.cell? ⟨c, 0, none⟩ = some x ∧ Kp w W1 :=
  ⟨k.cell h.1, k.cell h.2.1, k.cell h.2.2.1, h.2.2.2.trans k⟩
theorem S3.drew (h : W.cell? ⟨a, 0, none⟩ = some u ∧ W.cell? ⟨b, 0, none⟩ = some v ∧ W.cell? ⟨c, 0, none⟩ = some x ∧ Kp w W) : W.drew.cell? ⟨a, 0, none⟩ = some u ∧ W.drew.cell? ⟨b, 0, none⟩ = some v ∧ W.drew.cell? ⟨c, 0, none⟩ = some x ∧ Kp w W.drew :=
  ⟨h.1, h.2.1, h.2.2.1, h.2.2.2.drew⟩
end
theorem new_cell (w : World) (v : Value) (t : TypeId) : (w.alloc (.cells #[v] t)).cell? ⟨w.heap.size, 0, none⟩ = some v := (one_cell (heap_new w _)).1
theorem new_cell_at {w : World} {b : Nat} (hb : b = w.heap.size) (v : Value) (t : TypeId) : (w.alloc (.cells #[v] t)).cell? ⟨b, 0, none⟩ = some v := by
  subst hb
  exact new_cell w v t
theorem old_cell {w : World} {p : Addr} {v : Value} (h : w.cell? p = some v) (o : Obj) : (w.alloc o).cell? p = some v := ((Kp.refl w).alloc o).cell h
end Go.Proofs.YtbpgjlengpgnnabDoor
