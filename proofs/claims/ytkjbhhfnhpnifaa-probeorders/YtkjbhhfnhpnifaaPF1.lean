/-
  The reference's Order, At, Start, Steps.
-/
import Derived.Test.YtkjbhhfnhpnifaaPR2
import Derived.Test.YtkjbhhfnhpnifaaPO2
import Derived.Maps.AppendAt
import Derived.Laws.AppendOwn
namespace Go.Proofs.Ytkjbhhfnhpnifaa
open Go.RowKit Go.Shelf
set_option linter.unusedVariables false

theorem Try.infoI2 : (Try.prog.info? 3).map (fun i => (i.zero, i.size, i.bytes)) = some (some (.int .i64 0), 1, 8) := by kernel_rfl

/-- A list of numbers that lies in a block of its own. -/
def RowI (W : World) (base : Nat) (v : Value) (L : List Nat) : Prop := W.ownsRow base 3 1 v L.length (L.map fun n : Nat => Value.int .i64 (n : Int))

theorem RowI.slice {W : World} {base : Nat} {v : Value} {L : List Nat} (h : RowI W base v L) : ∃ a cap, v = .slice a L.length cap ∧ ∀ k (hk : k < L.length), ∃ g, base ≤ g ∧ g < W.heap.size ∧ a = some ⟨g, 0, none⟩ ∧ W.cell? ⟨g, k, none⟩ = some (.int .i64 ((L[k] : Nat) : Int)) := by
  have h' : W.ownsRow base 3 1 v L.length (L.map fun n : Nat => Value.int .i64 (n : Int)) := h
  rcases h'.2 with ⟨rfl, h0⟩ | ⟨g, cap, cur, rfl, hb, hg, h1, h2, h3, h4⟩
  · exact ⟨none, 0, by rw [h0], fun k hk => by omega⟩
  · refine ⟨some ⟨g, 0, none⟩, cap, rfl, fun k hk => ⟨g, hb, (Array.getElem?_eq_some_iff.1 hg).1, rfl, ?_⟩⟩
    have := h'.cellAt k (by omega)
    rw [this]
    simp [hk]
theorem ownsRow_from {w : World} {n₀ e size k g : Nat} {v : Value} {xs : List Value} (h : w.ownsRow n₀ e size v k xs) (hg : v.ownBlock = some g) : n₀ ≤ g := by
  rcases h.2 with ⟨rfl, _⟩ | ⟨g', cap, cur, rfl, hb, _⟩
  · simp [Value.ownBlock] at hg
  · simp [Value.ownBlock] at hg
    omega
theorem Kp.grown {w A B : World} {row : Option Nat} (k : Kp w A) (hg : A.grownBy B row) (h : ∀ g, row = some g → w.heap.size ≤ g) : Kp w B :=
  ⟨hg.os.trans k.os, hg.tape.trans k.tape, hg.output.trans k.output, Nat.le_trans k.size hg.size, fun i hi => (hg.block i (Nat.lt_of_lt_of_le hi k.size) (fun e => by have := h i e.symm; omega)).trans (k.block i hi)⟩

set_option maxRecDepth 100000 in
set_option maxHeartbeats 2000000 in
theorem rorder_any (h : Nat) (g : Int) (w : World) (hh : h < 18446744073709551616) :
    Calls Try.prog 11 #[.int .u64 (h : Int), .int .i64 g] w fun e w' => ∃ v, e = .returned v ∧ RowI w' w.heap.size v (ordN h g) ∧ Kp w w' := by
  obtain ⟨i0, hi, hz0, hz1, hz2⟩ := info_parts Try.infoI2
  have hp := rpower_any g 8192 w (by omega) (by omega)
  cases hq : pw g 1 8192
  · rw [hq] at hp
    have hO := hide (ordN_no (h := h) hq)
    go_enter Try.func11, Try.ntmps11
    go_wp2_with fail
    refine hp.mono ?_
    rintro e w' ⟨rfl, rfl⟩
    go_wp2_with fail
    go_ret
    refine ⟨_, rfl, ?_, Kp.refl _⟩
    unfold RowI
    rw [hO.out]
    exact World.ownsRow_nil _ _ _ _
  · rw [hq] at hp
    obtain ⟨k, hk, rfl⟩ := pwG hq
    obtain ⟨g1, g2⟩ := pow_bounds hk
    have hO := hide (ordN_yes (h := h) hk)
    have hE : Hid (∀ i, metN h (2 ^ k) (i + 1) = (metN h (2 ^ k) i + (i + 1)) % 2 ^ k) := fun i => metN_succ _ _ _
    have hE0 : Hid (metN h (2 ^ k) 0 = h % 2 ^ k) := metN_zero _ _
    have hE1 : Hid (∀ i, metN h (2 ^ k) i < 2 ^ k) := fun i => metN_lt g1
    have hGz : ¬ ((2 ^ k : Nat) : Int) = 0 := by omega
    obtain ⟨L, hL⟩ : ∃ L, ordN h ((2 ^ k : Nat) : Int) = L := ⟨_, rfl⟩
    rw [hL] at hO ⊢
    clear hL hq
    generalize 2 ^ k = G at *
    go_enter Try.func11, Try.ntmps11
    go_wp2_with fail
    refine hp.mono ?_
    rintro e w' ⟨rfl, rfl⟩
    clear hp
    go_wp2_with fail
    have hr0 : wrap64 ((h : Int) % (G : Int)) = ((h % G : Nat) : Int) := by
      rw [← Int.natCast_emod]
      have := Nat.mod_lt h (show 0 < G by omega)
      unfold wrap64
      omega
    rw [hr0]
    have hr1 : h % G < G := Nat.mod_lt h (by omega)
    clear hr0
    generalize h % G = R at *
    go_loopw [5, 6, 7] (fun v5 v6 v7 wr => ∃ i c : Nat, v7 = .int .i64 (i : Int) ∧ i ≤ G ∧ v6 = .int .i64 (c : Int) ∧ c < G ∧ Hid ((c + i) % G = metN h G i) ∧ RowI wr w'.heap.size v5 ((List.range i).map (metN h G)) ∧ Kp w' wr) (fun _ _ v7 _ => G - (intOf v7).toNat)
    case atStart => exact ⟨0, R, rfl, by omega, rfl, hr1, by show (R + 0) % G = _; rw [hE0.out, Nat.add_zero, Nat.mod_eq_of_lt hr1], World.ownsRow_nil _ _ _ _, Kp.refl _⟩
    case round =>
      obtain ⟨i, c, rfl, hi1, rfl, hc, hm, hrow, hkp⟩ := hrel
      by_cases hlt : i < G
      · have hlt' : (i : Int) < (G : Int) := by omega
        have hc' : (c : Int) < (G : Int) := by omega
        have hM := hE1.out i
        have hres : ((c : Int) + (i : Int)) % (G : Int) = ((metN h G i : Nat) : Int) := by
          rw [← hm.out]
          rfl
        have hsn : Hid ((List.range (i + 1)).map (metN h G) = (List.range i).map (metN h G) ++ [metN h G i]) := by
          show (List.range (i + 1)).map (metN h G) = _
          rw [List.range_succ, List.map_append]; rfl
        have hm2 := hide (hE.out i)
        have hlen : ((List.range i).map (metN h G)).length = i := by simp
        unfold RowI at hrow
        rw [hlen] at hrow
        have hs := hkp.size
        have hkA : Kp w' (wr.alloc (.cells #[.int .i64 ((metN h G i : Nat) : Int)] 3)) := hkp.alloc _
        generalize metN h G i = M at *
        go_wp2_with (at_builtin; refine wpList_append_own _ rfl _ _ 29 rfl w'.heap.size 3 i0 (.int .i64 0) 1 8 Try.underlying29 hi hz0 hz1 hz2 rfl (by decide) _ _ _ rfl (hrow.alloc _) ⟨wr.heap.size, 0, none⟩ 1 1 [.int .i64 (M : Int)] rfl rfl (cell_one_new _ _ _) (by simp [Value.oneCell']) (by unfold maxLen; omega) (by omega) (by simp; omega) ?_; intro v' w1 hown' hgrow _)
        have hkw := hkA.grown hgrow (fun g e => ownsRow_from hrow e)
        go_roundw
        case rel =>
          refine ⟨i + 1, M, rfl, by omega, rfl, hM, hm2.out.symm, ?_, hkw⟩
          show World.ownsRow _ _ _ _ _ _ _
          rw [hsn.out]
          simpa using hown'
        case measure => simp [intOf]; omega
      · obtain rfl : i = G := by omega
        go_wp2_with fail
        go_ret
        refine ⟨_, rfl, ?_, hkp⟩
        rw [hO.out]
        exact hrow
end Go.Proofs.Ytkjbhhfnhpnifaa
