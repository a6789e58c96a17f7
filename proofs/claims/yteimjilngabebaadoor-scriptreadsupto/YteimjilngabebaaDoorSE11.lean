/-
  script: the reference's Read; ScriptReads' walk.
-/
import Derived.Test.YteimjilngabebaaDoorSE10
import Derived.Test.YteimjilngabebaaDoorSCS
namespace Go.Proofs.YteimjilngabebaaDoor
open Go.RowKit
set_option linter.unusedVariables false
theorem words_empty : wordsOf ⟨#[]⟩ = [⟨#[]⟩] := by decide +kernel
theorem told_ne {line : ByteArray} {op err n off : Int} {yes : Bool} {key elem : ByteArray} (h : Told line op err n off yes key elem) : line ≠ ⟨#[]⟩ := fun e => by
  have h1 := (told_row (e ▸ words_empty) h).1
  have hd : ∀ k : Fin 16, nmN k.1 ≠ ⟨#[]⟩ := by decide +kernel
  obtain ⟨ho, -⟩ := h
  unfold nameD at h1
  rw [if_pos ho] at h1
  exact hd ⟨op.toNat + 1, by omega⟩ (h1.symm.trans e)
theorem show_op {line : ByteArray} (hl : line ≠ ⟨#[]⟩) {op err n off : Int} {yes : Bool} {key elem : ByteArray} (h : showD op err n off yes key elem = line) : 1 ≤ op ∧ op ≤ 14 := by
  unfold showD at h
  split at h
  · rename_i hi
    unfold isOp at hi
    simpa using hi
  · exact absurd h.symm hl
theorem rline_guess {line x : ByteArray} {xs : List ByteArray} (hw : wordsOf line = x :: xs) {op : Int} (hop : RowOp x op) {err n off : Int} {yes : Bool} {key elem : ByteArray} (hg : RGX op xs err n off yes key elem) {op' err' n' off' : Int} {yes' : Bool} {key' elem' : ByteArray} (h : Told line op' err' n' off' yes' key' elem') :
    op = op' ∧ err = err' ∧ n = tN op' err' n' ∧ off = tOff op' err' n' off' ∧ yes = tYes op' err' yes' ∧ key = tKey op' err' yes' key' ∧ elem = tElem op' err' yes' elem' := by
  obtain ⟨h1, h2⟩ := told_row hw h
  obtain ⟨ho, f1, f2, f3, -⟩ := h
  rw [h1] at hop
  have e := rowOp_name ho hop
  subst e
  rw [h2] at hg
  exact ⟨rfl, rguess_told ho f1 f2 f3 hg⟩
set_option maxRecDepth 100000 in
set_option maxHeartbeats 4000000 in
theorem rread_any (line : ByteArray) (hs : line.size ≤ 8388608) (w : World) : Calls Tryd.prog 8 #[.string line] w fun e w' => (∃ v er, e = .returned (.tuple #[v, .int .i64 er]) ∧ ReadD line v er) ∧ Keeps w w' (fun _ => False) := by
  have HP := hide (fun W => pieces_any line hs W)
  go_enter Tryd.func8, Tryd.ntmps8
  go_wp2_with fail
  refine alloc1 (P := fun W => Calls _ _ _ W _) fun W0 hb0 hz0 k0 => ?_
  (with_reducible refine (HP.out W0).mono ?_)
  rintro e w1 ⟨x, xs, g, cap, hw, rfl, hcl, k1⟩
  have hsz : ∀ y, y ∈ xs → y.size ≤ 8388608 := fun y hy => Nat.le_trans (word_small line y (by rw [hw]; exact List.mem_cons_of_mem _ hy)) hs
  obtain ⟨op, hop, hG⟩ := rguess_any x xs hsz g cap w1 hcl
  have HG := hide hG
  have HW := hide hw
  have HO := hide hop
  have K1 := hide (k0.trans k1 (fun _ _ e => e))
  have HB := hide (k1.blk hb0)
  clear hG hw hop hcl hsz hb0 k0 k1 HP hz0
  go_wp2_with fail
  (with_reducible refine HG.out.mono ?_)
  rintro e w2 ⟨⟨v, rfl, hv⟩, k2⟩
  obtain ⟨err, n, off, yes, key, elem, rfl, g1, g2, g3, g4, g5, gx⟩ := hv
  have HLG := hide (fun op' err' n' off' yes' key' elem' (h : Told line op' err' n' off' yes' key' elem') => rline_guess HW.out HO.out gx h)
  have HGB := hide (And.intro g1 (And.intro g2 (And.intro g3 (And.intro g4 g5))))
  have kA : Keeps w2 (w2.alloc (.cells #[.int .i64 op, .int .i64 err, .int .i64 n, .int .i64 off, .bool yes, .string key, .string elem] 24)) (fun _ => False) := (Keeps.refl _ _).alloc _
  have k12 := k2.trans kA (fun _ _ e => e)
  have K2 := hide (K1.out.trans k12 (fun _ _ e => e))
  have hb2 := k12.blk HB.out
  have ha2 := heap_alloc_new w2 (.cells #[.int .i64 op, .int .i64 err, .int .i64 n, .int .i64 off, .bool yes, .string key, .string elem] 24)
  have HB2 := hide hb2
  have HA2 := hide ha2
  obtain ⟨⟨a0, a1, a2, a3, a4, a5, a6⟩, -⟩ := ans_open ha2
  obtain ⟨⟨r0, r1, r2, r3, r4, r5, r6⟩, q0, q1, q2, q3, q4, q5, q6⟩ := ans_open hb2
  have hSh := fun W => rshow_any op err n off yes key elem W g1 g2 g3 g4 g5
  obtain ⟨S, hS⟩ : ∃ S, showD op err n off yes key elem = S := ⟨_, rfl⟩
  rw [hS] at hSh
  have HSh := hide hSh
  have HS := hide hS
  clear hSh hS g1 g2 g3 g4 g5 gx kA k12 k2 hb2 ha2 HG HW HO K1 HB
  by_cases hl : line = ⟨#[]⟩
  · subst hl
    have HL : Hid (∀ op err n off yes key elem, ¬ Told ⟨#[]⟩ op err n off yes key elem) := fun _ _ _ _ _ _ _ h => told_ne h rfl
    go_wp2_with fail
    refine ans_set (P := bodyPost Tryd.prog _ _ Exit.ret _) HB2.out K2.out (Nat.le_refl _) (fun w9 hb9 k9 => ?_)
    obtain ⟨⟨d0, d1, d2, d3, d4, d5, d6⟩, -⟩ := ans_open hb9
    refine bodyPost_ret (v := .tuple #[.agg #[.int .i64 0, .int .i64 0, .int .i64 0, .int .i64 0, .bool false, .string ⟨#[]⟩, .string ⟨#[]⟩], .int .i64 160]) (by simp [results, Tryd.results8, go_sem, d0, d1, d2, d3, d4, d5, d6]) rfl ?_
    exact ⟨⟨_, _, rfl, Or.inr ⟨rfl, rfl⟩, fun _ _ _ _ _ _ _ h => absurd h (HL.out _ _ _ _ _ _ _)⟩, k9⟩
  · have y0 : (line.toList == []) = false := by
      rw [ByteArray.toList_eq, beq_eq_false_iff_ne]
      intro e
      exact hl (ByteArray.ext (Array.toList_inj.1 e))
    have HLn := hide hl
    clear hl
    go_wp2_with fail
    (with_reducible refine (HSh.out _).mono ?_)
    rintro e w5 ⟨rfl, k5⟩
    have rb5 := k5.blk HB2.out
    obtain ⟨⟨b0, b1, b2, b3, b4, b5, b6⟩, -⟩ := ans_open (k5.blk HA2.out)
    clear a0 a1 a2 a3 a4 a5 a6 r0 r1 r2 r3 r4 r5 r6 q0 q1 q2 q3 q4 q5 q6
    obtain ⟨⟨r0, r1, r2, r3, r4, r5, r6⟩, q0, q1, q2, q3, q4, q5, q6⟩ := ans_open rb5
    have RB5 := hide rb5
    have K5 := hide (K2.out.trans k5 (fun _ _ e => e))
    clear rb5 k5 HSh
    by_cases hSl : S = line
    · have y := str_yes hSl
      have HSl := hide hSl
      clear hSl
      go_wp2_with fail
      refine ans_set (P := bodyPost Tryd.prog _ _ Exit.ret _) RB5.out K5.out (Nat.le_refl _) (fun w9 hb9 k9 => ?_)
      obtain ⟨⟨d0, d1, d2, d3, d4, d5, d6⟩, -⟩ := ans_open hb9
      refine bodyPost_ret (v := .tuple #[.agg #[.int .i64 op, .int .i64 err, .int .i64 n, .int .i64 off, .bool yes, .string key, .string elem], .int .i64 0]) (by simp [results, Tryd.results8, go_sem, d0, d1, d2, d3, d4, d5, d6]) rfl ?_
      refine ⟨⟨_, _, rfl, Or.inl ⟨_, _, _, _, _, _, _, rfl, HGB.out.1, HGB.out.2.1, HGB.out.2.2.1, HGB.out.2.2.2.1, HGB.out.2.2.2.2, HS.out.trans HSl.out, rfl, show_op HLn.out (HS.out.trans HSl.out)⟩, fun op' err' n' off' yes' key' elem' h => ?_⟩, k9⟩
      obtain ⟨rfl, rfl, rfl, rfl, rfl, rfl, rfl⟩ := HLG.out _ _ _ _ _ _ _ h
      exact ⟨rfl, rfl⟩
    · have y := str_no hSl
      have HSl := hide hSl
      clear hSl
      go_wp2_with fail
      refine ans_set (P := bodyPost Tryd.prog _ _ Exit.ret _) RB5.out K5.out (Nat.le_refl _) (fun w9 hb9 k9 => ?_)
      obtain ⟨⟨d0, d1, d2, d3, d4, d5, d6⟩, -⟩ := ans_open hb9
      refine bodyPost_ret (v := .tuple #[.agg #[.int .i64 0, .int .i64 0, .int .i64 0, .int .i64 0, .bool false, .string ⟨#[]⟩, .string ⟨#[]⟩], .int .i64 160]) (by simp [results, Tryd.results8, go_sem, d0, d1, d2, d3, d4, d5, d6]) rfl ?_
      refine ⟨⟨_, _, rfl, Or.inr ⟨rfl, rfl⟩, fun op' err' n' off' yes' key' elem' h => ?_⟩, k9⟩
      obtain ⟨rfl, rfl, rfl, rfl, rfl, rfl, rfl⟩ := HLG.out _ _ _ _ _ _ _ h
      exact absurd (HS.out.symm.trans ((show_told h.1).trans h.2.2.2.2.symm)) HSl.out
/-- Two that read a line alike. -/
theorem read_same {line : ByteArray} {v v' : Value} {er er' : Int} (h : ReadD line v er) (h' : ReadD line v' er') : ∃ p0 p1 p2 p3 p4 p5 p6, v = .agg #[.int .i64 p0, .int .i64 p1, .int .i64 p2, .int .i64 p3, .bool p4, .string p5, .string p6] ∧ v' = v ∧ er' = er := by
  rcases h.1 with ⟨op, err, n, off, yes, key, elem, hv, f1, f2, f3, -, -, hs, he, ho⟩ | ⟨hv, he⟩
  · have t : Told line op err n off yes key elem := ⟨ho, f1, f2, f3, hs.symm⟩
    obtain ⟨e1, e2⟩ := h.2 _ _ _ _ _ _ _ t
    obtain ⟨e3, e4⟩ := h'.2 _ _ _ _ _ _ _ t
    exact ⟨_, _, _, _, _, _, _, hv, e3.trans e1.symm, e4.trans e2.symm⟩
  · rcases h'.1 with ⟨op, err, n, off, yes, key, elem, hv', f1, f2, f3, -, -, hs, he', ho⟩ | ⟨hv', he'⟩
    · have t : Told line op err n off yes key elem := ⟨ho, f1, f2, f3, hs.symm⟩
      obtain ⟨e1, e2⟩ := h.2 _ _ _ _ _ _ _ t
      rw [he] at e2
      cases e2
    · exact ⟨_, _, _, _, _, _, _, hv, hv'.trans hv.symm, he'.trans he.symm⟩
set_option maxRecDepth 100000 in
set_option maxHeartbeats 4000000 in
theorem scriptReads_walk (line : ByteArray) (hs : line.size ≤ 8388608) (w : World) (ht : TabW w) (hR : RowsAt w) (hE : ErrW w) : Calls Tryd.prog 4 #[.string line] w fun e w' => e = .returned (.bool true) ∧ Keeps w w' (fun _ => False) := by
  have h1 := read_any line hs w ht hR hE
  have H2 := hide (fun W => rread_any line hs W)
  clear ht hR hE
  go_enter Tryd.func4, Tryd.ntmps4
  go_wp2_with fail
  (with_reducible refine h1.mono ?_)
  rintro e w1 ⟨⟨v, er, rfl, hv⟩, k1⟩
  have hform : ∃ p0 p1 p2 p3 p4 p5 p6, v = .agg #[.int .i64 p0, .int .i64 p1, .int .i64 p2, .int .i64 p3, .bool p4, .string p5, .string p6] := by
    obtain ⟨p0, p1, p2, p3, p4, p5, p6, e, -⟩ := read_same hv hv
    exact ⟨p0, p1, p2, p3, p4, p5, p6, e⟩
  obtain ⟨p0, p1, p2, p3, p4, p5, p6, rfl⟩ := hform
  have HV := hide hv
  have K1 := hide k1
  clear hv k1 h1
  go_wp2_with fail
  refine alloc1 (P := fun W => Calls _ _ _ W _) fun W1 hX hzX kX => ?_
  (with_reducible refine (H2.out W1).mono ?_)
  rintro e w2 ⟨⟨v', er', rfl, hv'⟩, k2⟩
  obtain ⟨-, -, -, -, -, -, -, -, e1, e2⟩ := read_same HV.out hv'
  subst e1 e2
  have HX2 := hide (k2.blk hX)
  have K2 := hide (K1.out.trans (kX.trans k2 (fun _ _ e => e)) (fun _ _ e => e))
  clear hv' k2 hX hzX kX HV K1 H2
  go_upto_region 3 with fail
  refine alloc1 (P := fun W => Code.wp _ _ _ _ W) fun W3 hY hzY kY => ?_
  obtain ⟨⟨a0, a1, a2, a3, a4, a5, a6⟩, -⟩ := ans_open (kY.blk HX2.out)
  obtain ⟨⟨b0, b1, b2, b3, b4, b5, b6⟩, -⟩ := ans_open hY
  have K3 := hide (K2.out.trans kY (fun _ _ e => e))
  clear hY hzY kY HX2 K2
  go_wp2_with fail
  go_ret
  exact ⟨by simp, K3.out⟩
end Go.Proofs.YteimjilngabebaaDoor

