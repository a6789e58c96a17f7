/-
  ArenaTogether's walk.
-/
import Derived.Test.YtpomnjkfbdmfeaaTo14
namespace Go.Proofs.Ytpomnjkfbdmfeaa
open Go.RowKit Go.Shelf
set_option linter.unusedVariables false
namespace arenaTogether

def Post (w : World) (e : Ending) (w' : World) : Prop := e = .returned (.bool true) ∧ Below w.heap.size w w'

set_option maxRecDepth 100000 in
set_option maxHeartbeats 4000000 in
theorem walk_no (n tw : Int) (v1 v2 : Value) (w : World) (h : n < 0 ∨ 2097152 < n) : Calls Try.prog 5 #[.agg #[.int .i64 n, v1, v2, .int .i64 tw]] w fun e w' => Post w e w' := by
  have hN := fun W => anew_no n W h
  have hnum := num_any
  have hW : ∀ nq, Below w.heap.size w ((w.alloc (.cells #[.int .i64 n, v1, v2, .int .i64 tw] 50)).drewN nq) := fun nq => by
    have k := (Keeps.refl w (fun _ => False)).alloc (.cells #[.int .i64 n, v1, v2, .int .i64 tw] 50)
    exact Keeps.below (S := fun _ => False) ⟨k.os, k.tape, k.output, k.size, k.block⟩ (Nat.le_refl _) (fun _ _ e => e)
  rcases (show n < 0 ∨ (¬ n < 0 ∧ 2097152 < n) by omega) with h0 | ⟨h0, h1⟩
  all_goals
    go_enter Try.func5, Try.ntmps5
    go_wp2_with fail
    go_quiet (fail)
    go_wp2_with fail
    refine (hN _).mono ?_
    rintro e w1 ⟨rfl, rfl⟩
    go_wp2_with fail
    refine (hN _).mono ?_
    rintro e w2 ⟨rfl, rfl⟩
    go_wp2_with fail
    refine (hnum _ _).mono ?_
    rintro e w3 ⟨rfl, rfl⟩
    go_wp2_with fail
    refine (hnum _ _).mono ?_
    rintro e w4 ⟨rfl, rfl⟩
    go_wp2_with fail
    go_ret
    exact ⟨rfl, hW _⟩

theorem cells_of {w : World} {so : Option Addr} {cp : Nat} {zs : List Int} (h : InZ w (.slice so zs.length cp) zs) : ∀ j (hj : j < zs.length), ∃ b o, so = some ⟨b, o, none⟩ ∧ w.cell? ⟨b, o + j, none⟩ = some (.int .i64 zs[j]) := by
  obtain ⟨so', cp', e, hc⟩ := h.form
  injection e with e1 e2 e3
  subst e1
  exact hc

set_option maxRecDepth 100000 in
set_option maxHeartbeats 16000000 in
theorem walk_yes (n : Nat) (tw : Int) (v1 v2 : Value) (z1 z2 : List Int) (w : World) (hn : n ≤ 2097152) (htw : fitsI tw) (i1 : InZ w v1 z1) (i2 : InZ w v2 z2) (l1 : z1.length ≤ 1048576) (l2 : z2.length ≤ 1048576) :
    Calls Try.prog 5 #[.agg #[.int .i64 (n : Int), v1, v2, .int .i64 tw]] w fun e w' => Post w e w' := by
  have hN := fun W => own_new (w := W) n hn
  have hnum := num_any
  obtain ⟨s1, p1, rfl, _⟩ := i1.form
  obtain ⟨s2, p2, rfl, _⟩ := i2.form
  have hW : ∀ nq, Keeps w ((w.alloc (.cells #[.int .i64 (n : Int), .slice s1 z1.length p1, .slice s2 z2.length p2, .int .i64 tw] 50)).drewN nq) (fun _ => False) := fun nq => by
    have k := (Keeps.refl w (fun _ => False)).alloc (.cells #[.int .i64 (n : Int), .slice s1 z1.length p1, .slice s2 z2.length p2, .int .i64 tw] 50)
    exact ⟨k.os, k.tape, k.output, k.size, k.block⟩
  go_enter Try.func5, Try.ntmps5
  go_wp2_with fail
  go_quiet (fail)
  go_wp2_with fail
  refine (hN _).mono ?_
  have hW := hW nq
  generalize ((w.alloc (.cells #[.int .i64 (n : Int), .slice s1 z1.length p1, .slice s2 z2.length p2, .int .i64 tw] 50)).drewN nq) = W0 at *
  rintro e w1 ⟨p, rfl, ho⟩
  go_wp2_with fail
  refine (hN _).mono ?_
  rintro e w2 ⟨q, rfl, ho2⟩
  have hT0 := two_new ho ho2
  clear hN ho ho2
  have c1 : ¬ ((n : Int) < 0) := by omega
  have c2 : ¬ (2097152 : Int) < (n : Int) := by omega
  go_wp2_with fail
  refine (hnum _ _).mono ?_
  rintro e w3 ⟨rfl, rfl⟩
  go_wp2_with fail
  refine (hnum _ _).mono ?_
  rintro e w4 ⟨rfl, rfl⟩
  have hL : TwoY W0 (w4.alloc (.cells #[.slice s1 z1.length p1, .slice s2 z2.length p2] 28)) p q (fun k => k = w4.heap.size) (fun k => w1.heap.size ≤ k ∧ k < w4.heap.size) (AD.fresh n) (AD.fresh n) := hT0.keep ((Keeps.refl w4 (fun _ => False)).alloc _) (fun _ x => x.elim) (fun i x => ⟨Or.inr (by omega), by rw [x]; simp⟩)
  have hB : (w4.alloc (.cells #[.slice s1 z1.length p1, .slice s2 z2.length p2] 28)).heap[w4.heap.size]? = some (.cells #[.slice s1 z1.length p1, .slice s2 z2.length p2] 28) := heap_alloc_new _ _
  have hF0 := AD.fresh_fine hn
  have hW0 := AD.fresh_well n
  clear hT0
  go_wp2_with fail
  generalize (w4.alloc (.cells #[.slice s1 z1.length p1, .slice s2 z2.length p2] 28)) = W5 at *
  generalize w4.heap.size = L at *
  go_loopw [11, 80] (fun vo vi wr => ∃ (k : Nat) (d : AD) (Y : Nat → Prop), vo = .bool true ∧ vi = .int .i64 (k : Int) ∧ k ≤ 2 ∧ d.Fine ∧ d.Well ∧ d.limit = n ∧ TwoY W0 wr p q (fun i => i = L) Y d d ∧ wr.heap[L]? = some (.cells #[.slice s1 z1.length p1, .slice s2 z2.length p2] 28)) (fun _ vi _ => 2 - (intOf vi).toNat)
  case atStart => exact ⟨0, AD.fresh n, _, rfl, rfl, by omega, hF0, hW0, rfl, hL, hB⟩
  case round =>
    clear hF0 hW0 hL hB
    obtain ⟨k, d, Y, rfl, rfl, hk, hF, hWl, hlim, hT, hB⟩ := hrel
    by_cases hk2 : k < 2
    · have hk2' : (k : Int) < 2 := by omega
      obtain ⟨so, cp, zs, hck, hlen, hin⟩ : ∃ so cp zs, wr.cell? ⟨L, k, none⟩ = some (.slice so zs.length cp) ∧ zs.length ≤ 1048576 ∧ InZ w (.slice so zs.length cp) zs := by
        rcases (show k = 0 ∨ k = 1 by omega) with rfl | rfl
        · exact ⟨s1, p1, z1, by simp [World.cell?, hB], l1, i1⟩
        · exact ⟨s2, p2, z2, by simp [World.cell?, hB], l2, i2⟩
      have hlv := two_live hT
      clear i1 i2 l1 l2
      go_wp2_with fail
      refine hlv.mono ?_
      rintro e w5 ⟨rfl, rfl⟩
      clear hlv
      have hin' : InZ w5 (.slice so zs.length cp) zs := hin.keeps (hW.trans hT.a.keeps (fun _ _ e => e))
      have hcells := cells_of hin'
      have hu := hF.use
      have hl := hF.lim
      go_wp2_with fail
      go_loopw [14, 15, 16, 88] (fun vn vg vl vi wq => ∃ j : Nat, vi = .int .i64 (j : Int) ∧ j ≤ zs.length ∧ vn = .int .i64 ((d.used : Int) + sumC (zs.take j)) ∧ vg = .bool (greB (zs.take j)) ∧ vl = .bool (litB (zs.take j)) ∧ w5 = wq) (fun _ _ _ vi _ => zs.length - (intOf vi).toNat)
      case atStart => exact ⟨0, rfl, by omega, by simp [sumC], rfl, rfl, rfl⟩
      case round =>
        obtain ⟨j, rfl, hj, rfl, rfl, rfl, rfl⟩ := hrel
        by_cases hlt : j < zs.length
        · have hlt' : (j : Int) < (zs.length : Int) := by omega
          obtain ⟨b, o, hso, hc⟩ := hcells j hlt
          have hsn : zs.take (j + 1) = zs.take j ++ [zs[j]] := (List.take_append_getElem hlt).symm
          have e1 : Hid (sumC (zs.take (j + 1)) = sumC (zs.take j) + classI zs[j]) := by rw [hsn]; exact sumC_snoc _ _
          have e2 : Hid (litB (zs.take (j + 1)) = (litB (zs.take j) || decide (zs[j] < 1))) := by rw [hsn]; exact lit_snoc _ _
          have e3 : Hid (greB (zs.take (j + 1)) = (greB (zs.take j) || decide (1048576 < zs[j]))) := by rw [hsn]; exact gre_snoc _ _
          have hb := sumC_bounds (zs.take j)
          have hb3 : (zs.take j).length ≤ 1048576 := by rw [List.length_take]; omega
          have hb4 : 0 ≤ sumC (zs.take j) ∧ sumC (zs.take j) ≤ 1048576 * 1048576 := ⟨hb.1, by have := hb.2; omega⟩
          subst hso
          clear hsn hb hb3 hcells hin hin' hck hT hB
          generalize zs[j] = z at *
          generalize sumC (zs.take j) = S at *
          generalize litB (zs.take j) = lb at *
          generalize greB (zs.take j) = gb at *
          rcases (show z < 1 ∨ (¬ z < 1 ∧ 1048576 < z) ∨ (¬ z < 1 ∧ ¬ 1048576 < z) by omega) with q1 | ⟨q1, q2⟩ | ⟨q1, q2⟩
          · go_wp2_with fail
            go_roundw
            case rel =>
              refine ⟨j + 1, by go_num, by omega, ?_, ?_, ?_, trivial⟩
              · rw [e1.out]
                unfold classI
                rw [if_neg (by omega), Int.add_zero]
              · rw [e3.out]
                simp only [Value.bool.injEq]
                rw [decide_eq_false (by omega), Bool.or_false]
              · rw [e2.out, decide_eq_true q1, Bool.or_true]
            case measure => simp [intOf]; omega
          · go_wp2_with fail
            go_roundw
            case rel =>
              refine ⟨j + 1, by go_num, by omega, ?_, ?_, ?_, trivial⟩
              · rw [e1.out]
                unfold classI
                rw [if_neg (by omega), Int.add_zero]
              · rw [e3.out, decide_eq_true q2, Bool.or_true]
              · rw [e2.out]
                simp only [Value.bool.injEq]
                rw [decide_eq_false (by omega), Bool.or_false]
            case measure => simp [intOf]; omega
          · obtain ⟨m, rfl⟩ := Int.eq_ofNat_of_zero_le (show 0 ≤ z by omega)
            have hC := fun W => classOf_any m W (by omega) (by omega)
            have hcl := class_le m (by omega) (by omega)
            have hcn : Hid (classI (m : Int) = (classN m : Int)) := by show classI (m : Int) = _; unfold classI; rw [if_pos (by omega)]; simp
            have hw : IntKind.i64.wrap ((d.used : Int) + S + (classN m : Int)) = (d.used : Int) + S + (classN m : Int) := by rw [IntKind.wrap_i64]; omega
            generalize classN m = cm at *
            go_wp2_with fail
            refine (hC _).mono ?_
            rintro e w6 ⟨rfl, rfl⟩
            go_wp2_with fail
            go_roundw
            case rel =>
              refine ⟨j + 1, by go_num, by omega, ?_, ?_, ?_, trivial⟩
              · rw [e1.out, hcn.out, Int.add_assoc]
              · rw [e3.out]
                simp only [Value.bool.injEq]
                rw [decide_eq_false (by omega), Bool.or_false]
              · rw [e2.out]
                simp only [Value.bool.injEq]
                rw [decide_eq_false (by omega), Bool.or_false]
            case measure => simp [intOf]; omega
        · have hlt' : ¬ (j : Int) < (zs.length : Int) := by omega
          rw [List.take_of_length_le (by omega)]
          clear hcells hck
          have hE := two_end hT
          have hLv := two_live hT
          obtain ⟨b1, k1c, W6, hap, row1, hb1, k1⟩ := hin'.copy (by omega)
          have hT1 : TwoY W0 W6 p q (fun i => i = L ∨ i = b1) Y d d := hT.keep k1 (fun _ x => x.elim) (fun i x => by
            rcases x with x | x
            · exact ⟨Or.inl x, Nat.lt_of_lt_of_le (hT.xs i x).2 k1.size⟩
            · subst x
              exact ⟨Or.inr hb1, (row1.lt i rfl).2⟩)
          have hA := two_all hT1 hF hWl b1 k1c zs (Or.inr rfl) (row_cells row1) (by omega)
          have hB6 : W6.heap[L]? = some (.cells #[.slice s1 z1.length p1, .slice s2 z2.length p2] 28) := (k1.block L (hT.xs L rfl).2 id).trans hB
          have hlaw : Hid (refE d zs = if litB zs = true then 21 else if greB zs = true ∨ (d.limit : Int) < (d.used : Int) + sumC zs then 22 else 0) := refE_law d hF zs
          have hsb := sumC_bounds zs
          go_wp2_with fail
          refine hE.mono ?_
          rintro e w6 ⟨rfl, rfl⟩
          clear hE
          go_wp2_with fail
          refine hLv.mono ?_
          rintro e w7 ⟨rfl, rfl⟩
          clear hLv
          go_wp2_with (first | (at_builtin; have _t := hap; refine app_run _ rfl (.tmp 109) (.tmp 110) 28 rfl rfl rfl hap ?_; clear hap))
          refine hA.mono ?_
          clear hA hin' hT hB row1 hb1 k1
          rintro e W7 (⟨h0, rfl, k7⟩ | ⟨h0, ha, hf, g, hg, rfl, hblk, hT7, hst⟩)
          · have hT7 : TwoY W0 W7 p q (fun i => i = L) Y d d := hT1.keep k7 (fun _ x => x.elim) (fun i x => ⟨Or.inl (Or.inl x), Nat.lt_of_lt_of_le (hT1.xs i (Or.inl x)).2 k7.size⟩)
            have hB7 := (k7.block L (hT1.xs L (Or.inl rfl)).2 id).trans hB6
            have hE := two_end hT7
            have hLv := two_live hT7
            clear hT1 hB6 k7
            have hl3 : ∃ x : Int, refE d zs = x ∧ ((litB zs = true ∧ x = 21) ∨ (litB zs = false ∧ greB zs = true ∧ x = 22) ∨ (litB zs = false ∧ greB zs = false ∧ (n : Int) < (d.used : Int) + sumC zs ∧ x = 22)) := by
              refine ⟨refE d zs, rfl, ?_⟩
              have h1 := hlaw.out
              cases hlb : litB zs with
              | true => rw [hlb, if_pos rfl] at h1; exact Or.inl ⟨rfl, h1⟩
              | false =>
                rw [hlb, if_neg (by simp)] at h1
                cases hgb : greB zs with
                | true => rw [hgb, if_pos (Or.inl rfl)] at h1; exact Or.inr (Or.inl ⟨rfl, rfl, h1⟩)
                | false =>
                  rw [hgb] at h1
                  by_cases hq : (d.limit : Int) < (d.used : Int) + sumC zs
                  · rw [if_pos (Or.inr hq)] at h1
                    exact Or.inr (Or.inr ⟨rfl, rfl, by omega, h1⟩)
                  · rw [if_neg (fun e => by rcases e with e | e; · cases e
                                            · exact hq e)] at h1
                    exact absurd h1 h0
            clear hlaw h0
            obtain ⟨x, hx, h3⟩ := hl3
            rw [hx]
            clear hx
            generalize litB zs = lb at *
            generalize greB zs = gb at *
            generalize sumC zs = S at *
            rcases h3 with ⟨rfl, rfl⟩ | ⟨rfl, rfl, rfl⟩ | ⟨rfl, rfl, hq, rfl⟩
            all_goals
              go_wp2_with fail
              refine (hnum _ _).mono ?_
              rintro e w8 ⟨rfl, rfl⟩
              go_wp2_with fail
              refine hE.mono ?_
              rintro e w9 ⟨rfl, rfl⟩
              go_wp2_with fail
              refine hLv.mono ?_
              rintro e w10 ⟨rfl, rfl⟩
              go_wp2_with fail
              go_roundw
              case rel => exact ⟨k + 1, d, Y, rfl, by go_num, by omega, hF, hWl, hlim, hT7, hB7⟩
              case measure => simp [intOf]; omega
          · have hlb : litB zs = false := allOne_lit.1 ha
            have hfs := (fits_sum ha (by omega)).1 hf
            have hgb := hfs.1
            have hq : ¬ (n : Int) < (d.used : Int) + sumC zs := by have := hfs.2; omega
            have hAB := all_B hF hWl ha hf
            have hos := takeAll_length listT zs d
            have hlen16 := fitsIn_len zs _ hf ha (by omega)
            have hlen1 : zs.length ≤ 131072 := by omega
            have hLv : Calls Try.prog 19 #[.pointer (some ⟨p, 0, none⟩)] W7 fun r w' => r = .returned (.int .i64 ((d.used : Int) + sumC zs)) ∧ w' = W7 := by
              rw [← hAB.used]
              exact two_live hT7
            have hB7 : W7.heap[L]? = some (.cells #[.slice s1 z1.length p1, .slice s2 z2.length p2] 28) := (hst L (Or.inl rfl)).trans hB6
            have hoffs : ∀ j (hj : j < zs.length), W7.cell? ⟨g, j, none⟩ = some (.int .i64 ((listT (takeAll listT d (zs.take j)).2 (classI zs[j]).toNat).1 : Int)) := fun j hj => by
              have hg := takeAll_get (d := d) hj
              simp [World.cell?, hblk, hg, cellI]
            have hTk := fun j (hj : j ≤ zs.length) => takeAll_take listOK hWl hF ha hf j hj
            have hNx := fun j (hj : j < zs.length) => takeAll_next listOK hWl hF ha hf hj
            have hone := ha
            clear hlaw hfs hT1 hB6 h0 hlen16
            rw [hlb, hgb]
            generalize sumC zs = S at *
            go_wp2_with fail
            refine (hnum _ _).mono ?_
            rintro e w8 ⟨rfl, rfl⟩
            go_wp2_with fail
            refine hLv.mono ?_
            rintro e w9 ⟨rfl, rfl⟩
            clear hLv
            go_wp2_with fail
            go_loopw [11, 167] (fun vo vi wq => ∃ (j : Nat) (Y' : Nat → Prop), vo = .bool true ∧ vi = .int .i64 (j : Int) ∧ j ≤ zs.length ∧ TwoY W0 wq p q (fun i => (i = L ∨ i = b1) ∨ i = g) Y' (takeAll listT d zs).2 (takeAll listT d (zs.take j)).2 ∧ ∀ i, (i = L ∨ i = b1) ∨ i = g → wq.heap[i]? = w9.heap[i]?) (fun _ vi _ => zs.length - (intOf vi).toNat)
            case atStart => exact ⟨0, Y, rfl, rfl, by omega, hT7, fun _ _ => rfl⟩
            case round =>
              clear hT7
              obtain ⟨j, Y', rfl, rfl, hj, hq7, hsq⟩ := hrel
              by_cases hlt : j < zs.length
              · have hlt' : (j : Int) < (zs.length : Int) := by omega
                obtain ⟨b, o, hso, hc⟩ := cells_of (hin.keeps (hW.trans hq7.a.keeps (fun _ _ e => e))) j hlt
                have hco := (World.cell?_of_block (w := w9) (a := ⟨g, j, none⟩) (hsq g (Or.inr rfl))).trans (hoffs j hlt)
                obtain ⟨f1, f2, f3, f4⟩ := hTk j hj
                obtain ⟨n1, n2, n3, n4⟩ := hNx j hlt
                have hsn : (takeAll listT d (zs.take (j + 1))).2 = (listT (takeAll listT d (zs.take j)).2 (classI zs[j]).toNat).2 := by
                  rw [← List.take_append_getElem hlt, takeAll_snoc]
                have hz1 : 1 ≤ zs[j] := hone _ (List.getElem_mem hlt)
                have hz2 : zs[j] ≤ 1048576 := Int.not_lt.1 fun hb => by
                  have : classI zs[j] = 0 := by unfold classI; rw [if_neg (by omega)]
                  rw [this] at n1
                  exact absurd n1 (by decide)
                subst hso
                generalize zs[j] = z at *
                obtain ⟨m, rfl⟩ := Int.eq_ofNat_of_zero_le (show 0 ≤ z by omega)
                have hcn : (classI (m : Int)).toNat = classN m := by unfold classI; rw [if_pos (by omega)]; simp
                rw [hcn] at hco n3 hsn
                have hal := two_balloc hq7 f1 f2 m (by omega) (by omega) n3
                rw [← hsn] at hal
                generalize (listT (takeAll listT d (zs.take j)).2 (classN m)).1 = off at *
                clear f1 f2 f3 f4 n1 n2 n3 n4 hcn hsn hoffs hTk hNx hin hAB hq7 hone
                go_wp2_with fail
                refine hal.mono ?_
                rintro e W8 ⟨rfl, Y'', hq8, hs8⟩
                have hsq8 : ∀ i, (i = L ∨ i = b1) ∨ i = g → W8.heap[i]? = w9.heap[i]? := fun i hi => (hs8 i hi).trans (hsq i hi)
                have hco8 : W8.cell? ⟨g, j, none⟩ = some (.int .i64 (off : Int)) := (World.cell?_of_block (w := wr) (a := ⟨g, j, none⟩) (hs8 g (Or.inr rfl))).trans hco
                clear hal hs8 hsq hco hc
                go_wp2_with fail
                refine (hnum _ _).mono ?_
                rintro e w10 ⟨rfl, rfl⟩
                go_wp2_with fail
                go_roundw
                case rel => exact ⟨j + 1, Y'', by simp, by go_num, by omega, hq8, hsq8⟩
                case measure => simp [intOf]; omega
              · have hlt' : ¬ (j : Int) < (zs.length : Int) := by omega
                rw [List.take_of_length_le (by omega)] at hq7
                have hE1 := two_end hq7
                have hE2 := two_bend hq7
                have hfr := freed_any hq7 hAB.fine hAB.well g (takeAll listT d zs).1 (Or.inr rfl) ((hsq g (Or.inr rfl)).trans hblk) (fun z hz => hAB.live hz) hAB.nodup (by omega) tw htw
                rw [hos] at hfr
                have hB8 := (hsq L (Or.inl (Or.inl rfl))).trans hB7
                have hFa := hAB.fine
                have hWa := hAB.well
                have hla := hAB.limit.trans hlim
                clear hAB hoffs hTk hNx hin hblk hsq hq7 hB7 hone
                generalize (takeAll listT d zs).2 = d2 at *
                go_wp2_with fail
                refine hE1.mono ?_
                rintro e w10 ⟨rfl, rfl⟩
                go_wp2_with fail
                refine hE2.mono ?_
                rintro e w11 ⟨rfl, rfl⟩
                clear hE1 hE2
                go_wp2_with fail
                refine hfr.mono ?_
                rintro e W9 ⟨rfl, d3, Y3, hgo, hq9, hs9⟩
                clear hfr
                have hT9 : TwoY W0 W9 p q (fun i => i = L) Y3 d3 d3 := hq9.keep (Keeps.refl W9 (fun _ => False)) (fun _ x => x.elim) (fun i x => ⟨Or.inl (Or.inl (Or.inl x)), (hq9.xs i (Or.inl (Or.inl x))).2⟩)
                have hB9 := (hs9 L (Or.inl (Or.inl rfl))).trans hB8
                have hF3 := hFa.gones hgo
                have hW3 := hWa.gones hFa hgo
                have hl3 : d3.limit = n := hgo.limit.trans hla
                clear hq9 hs9 hgo
                go_wp2_with fail
                go_roundw
                case rel => exact ⟨k + 1, d3, Y3, rfl, by go_num, by omega, hF3, hW3, hl3, hT9, hB9⟩
                case measure => simp [intOf]; omega
    · have hk2' : ¬ (k : Int) < 2 := by omega
      clear i1 i2 l1 l2
      have hb1 := list_any p 1048576 wr hT.a.arena hF (lives_len hF) (by have := lives_few hF hWl; omega) (by omega)
      have hb2 := fun W (x : TwoY W0 W p q (fun i => i = L) Y d d) => list_any q 1048576 W x.b.arena hF (lives_len hF) (by have := lives_few hF hWl; omega) (by omega)
      have hfl : (flatOf (livesOf d.L d.lv)).length ≤ 140737488355328 := by
        rw [flatOf_length]
        have := lives_few hF hWl
        omega
      generalize flatOf (livesOf d.L d.lv) = fs at *
      go_wp2_with fail
      refine hb1.mono ?_
      rintro e W6 ⟨v, rfl, hrow, hbl⟩
      have k6 : Keeps wr W6 (fun _ => False) := Keeps.ofBelow' hbl
      have hT6 : TwoY W0 W6 p q (fun i => i = L) Y d d := hT.keep k6 (fun _ x => x.elim) (fun i x => ⟨Or.inl x, Nat.lt_of_lt_of_le (hT.xs i x).2 k6.size⟩)
      clear hb1 hbl
      go_wp2_with fail
      refine (hb2 _ hT6).mono ?_
      rintro e W7 ⟨v', rfl, hrow', hbl⟩
      have k7 : Keeps W6 W7 (fun _ => False) := Keeps.ofBelow' hbl
      have kk : Keeps w W7 (fun _ => False) := (hW.trans hT6.a.keeps (fun _ _ e => e)).trans k7 (fun _ _ e => e)
      have hrow7 := k7.rowK hrow
      obtain ⟨ga, ca, rfl, hza⟩ := row_ints hrow7
      obtain ⟨gb, cb, rfl, hzb⟩ := row_ints hrow'
      have hsm := same_true ga gb ca cb fs W7 hfl (fun j hj => by
        obtain ⟨g, e, hc⟩ := hza j hj
        exact ⟨g, 0, e, by rw [Nat.zero_add]; exact hc⟩) (fun j hj => by
        obtain ⟨g, e, hc⟩ := hzb j hj
        exact ⟨g, 0, e, by rw [Nat.zero_add]; exact hc⟩)
      clear hb2 hbl hrow hrow' hrow7 hza hzb k6 k7 hT hT6
      go_wp2_with fail
      refine hsm.mono ?_
      rintro e W8 ⟨rfl, k8⟩
      have hfin : Below w.heap.size w W8 := (kk.trans k8 (fun _ _ e => e)).below (Nat.le_refl _) (fun _ _ e => e)
      go_wp2_with fail
      go_ret
      exact ⟨rfl, hfin⟩
end arenaTogether
end Go.Proofs.Ytpomnjkfbdmfeaa
