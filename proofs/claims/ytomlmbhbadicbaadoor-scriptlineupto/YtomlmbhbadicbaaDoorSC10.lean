/-
  script: Show.
-/
import Derived.Test.YtomlmbhbadicbaaDoorSC9
import Derived.Laws.OwnMore
namespace Go.Proofs.YtomlmbhbadicbaaDoor
open Go.RowKit
set_option linter.unusedVariables false

theorem Keeps.blk {w w' : World} (k : Keeps w w' (fun _ => False)) {b : Nat} {o : Obj} (h : w.heap[b]? = some o) : w'.heap[b]? = some o := (k.block b (heap_lt h) id).trans h
theorem name_size (op : Int) : (nameD op).size ≤ 16777216 := by
  unfold nameD
  split
  · rename_i h
    have : ∀ k : Fin 16, (nmN k.1).size ≤ 7 := by decide
    have := this ⟨op.toNat + 1, by omega⟩
    exact Nat.le_trans this (by decide)
  · decide
set_option maxRecDepth 100000 in
set_option maxHeartbeats 4000000 in
theorem show_any (op err n off : Int) (yes : Bool) (key elem : ByteArray) (w : World) (he : -9223372036854775808 ≤ err ∧ err ≤ 9223372036854775807) (hn : -9223372036854775808 ≤ n ∧ n ≤ 9223372036854775807) (ho : -9223372036854775808 ≤ off ∧ off ≤ 9223372036854775807) (hk : key.size ≤ 8388608) (hel : elem.size ≤ 8388608) (ht : TabW w) (hR : RowsAt w) : Calls Tryd.prog 5 #[.agg #[.int .i64 op, .int .i64 err, .int .i64 n, .int .i64 off, .bool yes, .string key, .string elem]] w fun e w' => e = .returned (.string (showD op err n off yes key elem)) ∧ Keeps w w' (fun _ => False) := by
  obtain ⟨S, hS⟩ : ∃ S, showD op err n off yes key elem = S := ⟨_, rfl⟩
  rw [hS]
  have k0 : Keeps w (w.alloc (.cells #[.int .i64 op, .int .i64 err, .int .i64 n, .int .i64 off, .bool yes, .string key, .string elem] 24)) (fun _ => False) := (Keeps.refl _ _).alloc _
  have hb := heap_alloc_new w (.cells #[.int .i64 op, .int .i64 err, .int .i64 n, .int .i64 off, .bool yes, .string key, .string elem] 24)
  have hRow := rowOf_any op _ (hR.keeps k0)
  have HS := hide hS
  have K0 := hide k0
  have Hb := hide hb
  clear hS k0 hb
  obtain ⟨io, hio⟩ : ∃ io, isOp op = io := ⟨_, rfl⟩
  obtain ⟨ND, hND⟩ : ∃ ND, nameD op = ND := ⟨_, rfl⟩
  rw [hio, hND] at hRow
  go_enter Tryd.func5, Tryd.ntmps5
  go_wp2_with fail
  (with_reducible refine hRow.mono ?_)
  rintro e w1 ⟨⟨k, o, f, rfl⟩, k1⟩
  have kA : Keeps w1 (w1.alloc (.cells #[.string ND, .int .i64 k, .int .i64 o, .string f] 31)) (fun _ => False) := (Keeps.refl _ _).alloc _
  have kB := k1.trans kA (fun _ _ e => e)
  have K2 := hide (K0.out.trans kB (fun _ _ e => e))
  obtain ⟨c0, c1, c2, c3, c4, c5, c6⟩ := ans_cells (kB.blk Hb.out)
  have Hbb := hide (kB.blk Hb.out)
  clear hRow k1 kA kB Hb
  cases io with
  | false =>
    have e1 : S = ⟨#[]⟩ := by
      rw [← HS.out]
      unfold showD
      rw [hio]
      rfl
    have E1 := hide e1
    clear e1
    go_wp2_with fail
    go_ret
    exact ⟨congrArg (fun z => Ending.returned (Value.string z)) E1.out.symm, K2.out⟩
  | true =>
    have e1 : joinD ND (restD op err n off yes key elem) = S := by
      rw [← HS.out]
      unfold showD
      rw [if_pos hio, hND]
    have hNs : ND.size ≤ 16777216 := by rw [← hND]; exact name_size op
    clear HS
    have kC : Keeps (w1.alloc (.cells #[.string ND, .int .i64 k, .int .i64 o, .string f] 31)) ((w1.alloc (.cells #[.string ND, .int .i64 k, .int .i64 o, .string f] 31)).alloc (.cells #[.string ND] 9)) (fun _ => False) := (Keeps.refl _ _).alloc _
    have K3 := hide (K2.out.trans kC (fun _ _ e => e))
    have hown : ((w1.alloc (.cells #[.string ND, .int .i64 k, .int .i64 o, .string f] 31)).alloc (.cells #[.string ND] 9)).ownsRow w.heap.size 9 1 (.slice (some ⟨w1.heap.size + 1, 0, none⟩) 1 1) 1 [.string ND] := ⟨rfl, Or.inr ⟨w1.heap.size + 1, 1, #[.string ND], rfl, by have := K2.out.size; rwa [World.size_alloc] at this, heap_new2 _ _ _, Nat.le_refl _, by simp [maxLen], rfl, rfl⟩⟩
    have hsz3 : w.heap.size ≤ ((w1.alloc (.cells #[.string ND, .int .i64 k, .int .i64 o, .string f] 31)).alloc (.cells #[.string ND] 9)).heap.size := K3.out.size
    obtain ⟨d0, d1, d2, d3, d4, d5, d6⟩ := ans_cells (kC.blk Hbb.out)
    by_cases h0 : err = 0
    · subst h0
      have hrest : restD op 0 n off yes key elem = wordsD op n off yes key elem := rfl
      rw [hrest] at e1
      have hsm := words_small op n off yes key elem hn ho hk hel
      have hW := aw_any op 0 n off yes key elem _ hn ho hk hel (ht.keeps K3.out)
      generalize wordsD op n off yes key elem = xs at *
      have E1 := hide e1
      have HO := hide hown
      clear e1 hown hrest kC K2 Hbb
      go_wp2_with fail
      (with_reducible refine hW.mono ?_)
      rintro e w4 ⟨v, rfl, k4, hv⟩
      clear hW
      have hown4 := ownsRow_keeps HO.out k4 (fun _ _ e => e)
      rcases hv with ⟨rfl, rfl⟩ | ⟨g, rfl, hlen, hgs, hg⟩
      · have hap := fun ty => run_append_owned_none (P := Tryd.prog) (w := w4) w.heap.size 34 ty 9 _ 1 Tryd.underlying34 (info_parts Tryd.infoS).choose_spec.1 _ 1 [.string ND] hown4
        have hJ := join_row (x := ND) (r := []) hown4 hNs hsm
        rw [E1.out] at hJ
        simp only [List.length_nil, Nat.zero_add] at hJ
        have K4 := hide (K3.out.trans k4 (fun _ _ e => e))
        clear hown4 k4 HO c0 c1 c2 c3 c4 c5 c6 d0 d1 d2 d3 d4 d5 d6
        go_wp2_with (first | (at_builtin; have _t := hap; refine app_run _ rfl (.tmp 26) (.tmp 28) 34 rfl rfl rfl hap ?_; clear hap))
        (with_reducible refine hJ.mono ?_)
        rintro e w6 ⟨rfl, k6⟩
        go_wp2_with fail
        go_ret
        exact ⟨rfl, K4.out.trans k6 (fun _ _ e => e)⟩
      · obtain ⟨g5, cap5, w5, hap, hown5, k5, -⟩ := append_list (P := Tryd.prog) 34 9 (.string ⟨#[]⟩) 16 Tryd.underlying34 Tryd.infoS rfl hown4 (us := xs.map Value.string) hg (m := xs.length) (by simp) hlen (fun u hu => by
          obtain ⟨z, -, rfl⟩ := List.mem_map.1 hu
          rfl) xs.length (by have := hsm.1; omega) (by have := hsm.1; simp only [maxLen]; omega) (Nat.le_trans hsz3 k4.size)
        have hown6 : w5.ownsRow w.heap.size 9 1 (.slice (some ⟨g5, 0, none⟩) (xs.length + 1) cap5) (xs.length + 1) ((ND :: xs).map Value.string) := by
          rw [show xs.length + 1 = 1 + xs.length by omega]
          exact hown5
        have hJ := join_row (x := ND) (r := xs) hown6 hNs hsm
        rw [E1.out, show xs.length + 1 = 1 + xs.length by omega] at hJ
        have K5 := hide ((K3.out.trans k4 (fun _ _ e => e)).trans k5 (fun q hq e => by
          have := (ownsRow_block hown4 e).1
          omega))
        clear hown4 hown5 hown6 k4 k5 hg HO c0 c1 c2 c3 c4 c5 c6 d0 d1 d2 d3 d4 d5 d6
        go_wp2_with (first | (at_builtin; have _t := hap; refine app_run _ rfl (.tmp 26) (.tmp 28) 34 rfl rfl rfl hap ?_; clear hap))
        (with_reducible refine hJ.mono ?_)
        rintro e w6 ⟨rfl, k6⟩
        go_wp2_with fail
        go_ret
        exact ⟨rfl, K5.out.trans k6 (fun _ _ e => e)⟩
    · have e0 : (err != 0) = true := by simp [h0]
      have hrest : restD op err n off yes key elem = [⟨#[101, 114, 114, 111, 114]⟩, numD err] := if_neg h0
      rw [hrest] at e1
      have hns : (numD err).size ≤ 16777216 := Nat.le_trans (num_size err he.1 he.2) (by decide)
      have hsm : Sml [⟨#[101, 114, 114, 111, 114]⟩, numD err] := sml2 (by decide) hns
      have hN := ntext_any err he.1 he.2 _ (ht.keeps K3.out)
      generalize numD err = E at *
      have E1 := hide e1
      have HO := hide hown
      clear e1 hown hrest kC K2 Hbb h0 hns
      go_wp2_with fail
      (with_reducible refine hN.mono ?_)
      rintro e w4 ⟨rfl, k4⟩
      clear hN
      have hown4 := (ownsRow_keeps HO.out k4 (fun _ _ e => e)).alloc (.cells #[.string ⟨#[101, 114, 114, 111, 114]⟩, .string E] 9)
      obtain ⟨g5, cap5, w5, hap, hown5, k5, -⟩ := append_list (P := Tryd.prog) 34 9 (.string ⟨#[]⟩) 16 Tryd.underlying34 Tryd.infoS rfl hown4 (us := [.string ⟨#[101, 114, 114, 111, 114]⟩, .string E]) (heap_alloc_new w4 (.cells #[.string ⟨#[101, 114, 114, 111, 114]⟩, .string E] 9)) (m := 2) rfl (by omega) (by simp [Value.oneCell']) 2 (by omega) (by simp only [maxLen]; omega) (by rw [World.size_alloc]; have := k4.size; omega)
      have hJ := join_row (x := ND) (r := [⟨#[101, 114, 114, 111, 114]⟩, E]) hown5 hNs hsm
      rw [E1.out] at hJ
      simp only [List.length_cons, List.length_nil, Nat.zero_add, Nat.reduceAdd] at hJ
      have K5 := hide (((K3.out.trans k4 (fun _ _ e => e)).alloc (.cells #[.string ⟨#[101, 114, 114, 111, 114]⟩, .string E] 9)).trans k5 (fun q hq e => by
        have := (ownsRow_block hown4 e).1
        omega))
      clear hown4 hown5 k4 k5 HO c0 c1 c2 c3 c4 c5 c6 d0 d1 d2 d3 d4 d5 d6
      go_wp2_with (first | (at_builtin; have _t := hap; refine app_run _ rfl (.tmp 20) (.tmp 24) 34 rfl rfl rfl hap ?_; clear hap))
      (with_reducible refine hJ.mono ?_)
      rintro e w6 ⟨rfl, k6⟩
      go_wp2_with fail
      go_ret
      exact ⟨rfl, K5.out.trans k6 (fun _ _ e => e)⟩
end Go.Proofs.YtomlmbhbadicbaaDoor
