/-
  script: ScriptLine's walk.
-/
import Derived.Test.YtomlmbhbadicbaaDoorSC22
namespace Go.Proofs.YtomlmbhbadicbaaDoor
open Go.RowKit
set_option linter.unusedVariables false
theorem read_line0 {v : Value} {er : Int} (h : ReadD line0 v er) : v = .agg #[.int .i64 9, .int .i64 0, .int .i64 0, .int .i64 0, .bool true, .string ⟨#[97]⟩, .string ⟨#[]⟩] ∧ er = 0 := by
  have f : Fit 0 := ⟨by decide, by decide⟩
  exact h.2 9 0 0 0 true ⟨#[97]⟩ ⟨#[]⟩ ⟨by decide, f, f, f, show_line0.symm⟩
set_option maxRecDepth 100000 in
set_option maxHeartbeats 4000000 in
theorem scriptLine_walk (line : ByteArray) (hs : line.size ≤ 8388608) (w : World) (ht : TabW w) (hR : RowsAt w) (he : ErrW w) : Calls Tryd.prog 4 #[.string line] w fun e w' => e = .returned (.bool true) ∧ Keeps w w' (fun _ => False) := by
  have h1 := read_any line0 (by decide) w ht hR he
  have H2 := hide (fun (W : World) (k : Keeps w W (fun _ => False)) => read_any line hs W (ht.keeps k) (hR.keeps k) (he.keeps k))
  have HT := hide ht
  have HR := hide hR
  clear ht hR he
  rw [line0] at h1
  go_enter Tryd.func4, Tryd.ntmps4
  go_wp2_with fail
  (with_reducible refine h1.mono ?_)
  rintro e w1 ⟨⟨v, er, rfl, hv⟩, k1⟩
  obtain ⟨rfl, rfl⟩ := read_line0 hv
  · obtain ⟨⟨a0, a1, a2, a3, a4, a5, a6⟩, f0, f1, f2, f3, f4, f5, f6⟩ := ans_open (heap_alloc_new w1 (.cells #[.int .i64 9, .int .i64 0, .int .i64 0, .int .i64 0, .bool true, .string ⟨#[97]⟩, .string ⟨#[]⟩] 24))
    clear h1 hv
    go_wp2_with fail
    refine alloc1 (P := fun W => Calls _ _ _ W _) fun W2 hb2 hz2 k2 => ?_
    (with_reducible refine (H2.out W2 (k1.trans k2 (fun _ _ e => e))).mono ?_)
    rintro e w3 ⟨⟨v, er, rfl, hv⟩, k3⟩
    have hb3 := k3.blk hb2
    have K13 := hide (k2.trans k3 (fun _ _ e => e))
    have K1 := hide k1
    clear a0 a1 a2 a3 a4 a5 a6 f0 f1 f2 f3 f4 f5 f6 hb2 hz2 k2 k3 k1 H2
    obtain ⟨⟨a0, a1, a2, a3, a4, a5, a6⟩, f0, f1, f2, f3, f4, f5, f6⟩ := ans_open hb3
    have HB3 := hide hb3
    clear hb3
    rcases hv.1 with ⟨op2, err2, n2, off2, yes2, key2, elem2, rfl, g1, g2, g3, g4, g5, hsh, rfl, -⟩ | ⟨rfl, rfl⟩ <;> clear hv
    · have HG := hide (And.intro g1 (And.intro g2 (And.intro g3 (And.intro g4 g5))))
      have HSh := hide hsh
      clear g1 g2 g3 g4 g5 hsh
      go_wp2_with fail
      refine ans_set (P := fun W => Calls _ _ _ W _) HB3.out K13.out (Nat.le_refl _) fun w4 hb4 k4 => ?_
      have K4 := hide (K1.out.trans k4 (fun _ _ e => e))
      obtain ⟨g1, g2, g3, g4, g5⟩ := HG.out
      have hS := show_any op2 err2 n2 off2 yes2 key2 elem2 w4 g1 g2 g3 g4 g5 (HT.out.keeps K4.out) (HR.out.keeps K4.out)
      rw [HSh.out] at hS
      clear g1 g2 g3 g4 g5 hb4 k4
      (with_reducible refine hS.mono ?_)
      rintro e w5 ⟨rfl, k5⟩
      have y : (line.toList == line.toList) = true := by simp
      clear hS
      go_wp2_with fail
      go_ret
      exact ⟨rfl, K4.out.trans k5 (fun _ _ e => e)⟩
    · go_wp2_with fail
      go_ret
      refine ans_set (P := fun W => _ ∧ Keeps w W (fun _ => False)) HB3.out K13.out (Nat.le_refl _) fun w4 hb4 k4 => ?_
      exact ⟨rfl, K1.out.trans k4 (fun _ _ e => e)⟩
end Go.Proofs.YtomlmbhbadicbaaDoor
