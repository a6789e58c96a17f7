/-
  script: ScriptLists' marked, walked.
-/
import Derived.Test.YtfpiibccggjjpaaDoorHSL4
import Derived.Deep.RegionLaw
namespace Go.Proofs.YtfpiibccggjjpaaDoor
open Go.RowKit
set_option linter.unusedVariables false
/-- The blocks of a script's own lists. -/
def OwnS (vo vc : Value) (L : List CmV) (k : Nat) : Prop := vo.ownBlock = some k ∨ vc.ownBlock = some k ∨ ∃ j, ∃ h : j < L.length, ∃ b, (lv b L[j]).ownBlock = some k
def lenF (L : List CmV) (j : Nat) (b : Bool) : Nat := if h : j < L.length then (lst b L[j].c).length else 0
structure BxR9 (R : Prop) : Prop where
  out : R
theorem once9 {R G : Prop} (h : BxR9 R → G) (r : R) : G := h ⟨r⟩
theorem wr1000 {i : Nat} (h : i ≤ 4194304) : wrap64 (1000 * (i : Int)) = 1000 * (i : Int) ∧ IntKind.i64.wrap (1000 * (i : Int)) = 1000 * (i : Int) ∧ wrap64 (1000 * (i : Int) + 500) = 1000 * (i : Int) + 500 ∧ IntKind.i64.wrap (1000 * (i : Int) + 500) = 1000 * (i : Int) + 500 ∧ wrap64 (1000 * (i : Int) + 499) = 1000 * (i : Int) + 499 ∧ IntKind.i64.wrap (1000 * (i : Int) + 499) = 1000 * (i : Int) + 499 ∧ wrap64 (1000 * (i : Int) + 999) = 1000 * (i : Int) + 999 ∧ IntKind.i64.wrap (1000 * (i : Int) + 999) = 1000 * (i : Int) + 999 ∧ wrap64 (-(i : Int)) = -(i : Int) ∧ IntKind.i64.wrap (-(i : Int)) = -(i : Int) := by
  simp only [IntKind.wrap_i64]
  unfold wrap64
  refine ⟨by omega, by omega, by omega, by omega, by omega, by omega, by omega, by omega, by omega, by omega⟩
theorem wru {m : Nat} (h : m ≤ 1099511627776) : IntKind.u64.wrap ((m : Int) + 1) = (m : Int) + 1 := by
  rw [IntKind.wrap_u64]
  omega
set_option maxRecDepth 100000 in
set_option maxHeartbeats 16000000 in
theorem marked_any (lo : Nat) (n : Int) (so sc : Option Addr) (co cc : Nat) (os : List Ovr) (L : List CmV) (w : World) (hlo : lo ≤ w.heap.size) (ho : w.ownsRow lo 49 2 (.slice so os.length co) os.length (ovCells os)) (hm : MkS lo (.slice sc L.length cc) L w) (h1 : os.length ≤ 4194304) (h2 : L.length ≤ 4194304) (h3 : ∀ j (h : j < L.length) b, (lst b L[j].c).length ≤ 8388600) :
    Calls Tryd.prog 10 #[.agg #[.int .i64 n, .slice so os.length co, .slice sc L.length cc]] w fun e w' => e = .returned (.bool true) ∧ Keeps w w' (OwnS (.slice so os.length co) (.slice sc L.length cc) L) := by
  have HF : Hid (∀ j b, lenF L j b ≤ 8388600) := fun j b => by
    unfold lenF
    by_cases h : j < L.length
    · rw [dif_pos h]; exact h3 j h b
    · rw [dif_neg h]; exact Nat.zero_le _
  have HMk : Hid (Mk2 (lenF L) (fun j _ => decide (j < 0)) (fun j => decide (j < 0)) L) := fun j hj => ⟨fun e => by simp at e, fun b => ⟨by unfold lenF; rw [dif_pos hj], fun e => by simp at e⟩⟩
  generalize lenF L = F at *
  have H0 : Hid (∀ W0 : World, W0.heap[w.heap.size]? = some (.cells #[.int .i64 n, .slice so os.length co, .slice sc L.length cc] 25) → Keeps w W0 (fun _ => False) → MaS w lo w.heap.size n so sc os.length co L.length cc (OwnS (.slice so os.length co) (.slice sc L.length cc) L) os L W0) := fun W0 hb k =>
    ⟨hb, rfl, rfl, ownsRow_keeps ho k (fun _ _ e => e), hm.keeps k, k.mono (fun _ _ e => e.elim), Nat.le_trans hlo k.size, fun g hg _ => Or.inl hg, fun g hg _ => Or.inr (Or.inl hg), fun j hj b g hg _ => Or.inr (Or.inr ⟨j, hj, b, hg⟩)⟩
  generalize OwnS (.slice so os.length co) (.slice sc L.length cc) L = S at *
  have Hno := hide h1
  have Hnc := hide h2
  clear hlo ho hm h3
  obtain ⟨no, hno⟩ : ∃ no, os.length = no := ⟨_, rfl⟩
  obtain ⟨nc, hnc⟩ : ∃ nc, L.length = nc := ⟨_, rfl⟩
  rw [hno] at H0 Hno h1 ⊢
  rw [hnc] at H0 Hnc h2 ⊢
  clear hno hnc h1 h2
  go_enter Tryd.func10, Tryd.ntmps10
  go_upto_region 1 with fail
  refine alloc1 (P := fun W => Code.wp _ _ _ _ W) fun W0 hb0 hs0 k0 => ?_
  have HM0 := hide (H0.out W0 hb0 k0)
  obtain ⟨x0, x1, x2⟩ := three_cells9 hb0
  clear hb0 hs0 k0 H0
  generalize w.heap.size = bt at *
  go_wp2_with fail
  clear x0 x1 x2
  go_loopw [3, 14] (fun v3 v14 wr => ∃ (i m : Nat) (os1 : List Ovr), v14 = .int .i64 (i : Int) ∧ i ≤ no ∧ v3 = .int .i64 (m : Int) ∧ MaS w lo bt n so sc no co nc cc S os1 L wr ∧ Hid (m = i + 1 ∧ ∀ j, j < i → (os1.map (·.2))[j]? = some (j + 2))) (fun _ v14 _ => no - (intOf v14).toNat)
  case atStart => exact ⟨0, 1, os, rfl, Nat.zero_le _, rfl, HM0.out, rfl, fun j hj => absurd hj (Nat.not_lt_zero _)⟩
  case round =>
    obtain ⟨i, m, os1, rfl, hi, rfl, hp, HI⟩ := hrel
    by_cases hlt : i < no
    · have hlt' : (i : Int) < (no : Int) := by omega
      have hi0 : (0 : Int) ≤ (i : Int) := by omega
      obtain ⟨go, rfl⟩ := own_some hp.ov (by omega)
      have hil : i < os1.length := by rw [hp.ol]; exact hlt
      have q1 : ∃ u, wr.cell? ⟨go, i * 2, none⟩ = some u := by
        rw [hp.ov.cellAt (i * 2) (by omega), (ovCells_at os1 i hil).1]
        exact ⟨_, rfl⟩
      have q2 : ∃ u, wr.cell? ⟨go, i * 2 + 1, none⟩ = some u := by
        rw [hp.ov.cellAt (i * 2 + 1) (by omega), (ovCells_at os1 i hil).2]
        exact ⟨_, rfl⟩
      obtain ⟨u1, q1⟩ := q1
      obtain ⟨u2, q2⟩ := q2
      have f1 := hp.ov.frozenAt (i * 2)
      have f2 := hp.ov.frozenAt (i * 2 + 1)
      obtain ⟨x0, x1, x2⟩ := three_cells9 hp.box
      have hN := hp.setOv hlt ⟨#[111, 118, 101, 114]⟩ (m + 1)
      rw [show ((m + 1 : Nat) : Int) = (m : Int) + 1 from rfl] at hN
      have HN := hide hN
      have HS := hide (ovs_step HI.out.1 hil HI.out.2 ⟨#[111, 118, 101, 114]⟩)
      have Hms : Hid (no - (i + 1) < no - i) := by show no - (i + 1) < no - i; omega
      have Hi : Hid (i + 1 ≤ no) := hlt
      have hw1 := hide (wr64s (n := i) (by have := Hno.out; omega))
      have hw2 := hide (wr64s (n := m) (by have := Hno.out; have := HI.out.1; omega))
      have hw3 := hide (wru (m := m) (by have := Hno.out; have := HI.out.1; omega))
      clear hp hN HI hi hil
      obtain ⟨a6, a7⟩ := hw1.out
      obtain ⟨b6, b7⟩ := hw2.out
      have c6 := hw3.out
      go_wp2_with fail
      go_roundw
      case rel => exact ⟨i + 1, m + 1, _, by go_num, Hi.out, by go_num, HN.out, HS.out⟩
      case measure => simp [intOf]; exact Hms.out
    · obtain rfl : i = no := by omega
      have hlt' : ¬ (i : Int) < (i : Int) := by omega
      have HOs := hide HI.out.2
      obtain ⟨x0, x1, x2⟩ := three_cells9 hp.box
      have HP := hide hp
      clear hp HI hi
      go_wp2_with fail
      clear x0 x1 x2
      go_loopw [30] (fun v30 wr => ∃ (k : Nat) (L1 : List CmV), v30 = .int .i64 (k : Int) ∧ k ≤ nc ∧ MaS w lo bt n so sc i co nc cc S os1 L1 wr ∧ Hid (Mk2 F (fun j _ => decide (j < k)) (fun j => decide (j < k)) L1)) (fun v30 _ => nc - (intOf v30).toNat)
      case atStart => exact ⟨0, L, rfl, Nat.zero_le _, HP.out, HMk.out⟩
      case round =>
        clear HP HMk
        obtain ⟨k, L1, rfl, hk, hp, HK⟩ := hrel
        by_cases hlk : k < nc
        · have hlk' : (k : Int) < (nc : Int) := by omega
          have hk0 : (0 : Int) ≤ (k : Int) := by omega
          obtain ⟨gc, rfl⟩ := own_some (by have := hp.rows.cs; rw [hp.ll] at this; exact this) (by omega)
          obtain ⟨sf, nf, cf, q2, hc2⟩ := numb_step hp HK.out hlk Hnc.out HF.out false
          have hc2' := hc2 (1000 * (k : Int)) (by simp [offB])
          obtain ⟨x0, x1, x2⟩ := three_cells9 hp.box
          have Hms : Hid (nc - (k + 1) < nc - k) := by show nc - (k + 1) < nc - k; omega
          have Hk : Hid (k + 1 ≤ nc) := hlk
          have hw1 := hide (wr64s (n := k) (by have := Hnc.out; omega))
          have hw2 := hide (wr1000 (i := k) (by have := Hnc.out; omega))
          clear hp HK hk hc2
          obtain ⟨a1, a2, a3, a4, -, -, -, -, a9, a10⟩ := hw2.out
          simp only [num, if_neg Bool.false_ne_true, Nat.add_zero] at q2
          go_wp2_with fail
          (with_reducible refine hc2'.mono ?_)
          rintro e w1 ⟨rfl, L2, hp2, hK2⟩
          obtain ⟨sh, nh, ch, q3, hc3⟩ := numb_step hp2 hK2 hlk Hnc.out HF.out true
          have hc3' := hc3 (1000 * (k : Int) + 500) (by simp [offB])
          obtain ⟨x0, x1, x2⟩ := three_cells9 hp2.box
          clear hp2 hK2 hc2' q2 hc3
          simp only [num, if_pos, Nat.reduceAdd] at q3
          go_wp2_with fail
          (with_reducible refine hc3'.mono ?_)
          rintro e w2 ⟨rfl, L3, hp3, hK3⟩
          obtain ⟨⟨u, q4⟩, f4, L4, hp4, hK4⟩ := op_step hp3 hK3 hlk
          rw [A_next, O_next] at hK4
          have HP4 := hide hp4
          have HK4 := hide hK4
          obtain ⟨x0, x1, x2⟩ := three_cells9 hp3.box
          clear hp3 hK3 hp4 hK4 hc3' q3
          obtain ⟨a6, a7⟩ := hw1.out
          go_wp2_with fail
          go_roundw
          case rel => exact ⟨k + 1, L4, by go_num, Hk.out, HP4.out, HK4.out⟩
          case measure => simp [intOf]; exact Hms.out
        · obtain rfl : k = nc := by omega
          have hlk' : ¬ (k : Int) < (k : Int) := by omega
          have hMk := HK.out
          rw [← hp.ll] at hMk
          have HM4 := hide hMk.done
          obtain ⟨x0, x1, x2⟩ := three_cells9 hp.box
          obtain ⟨go2, co2, W3, hap1, hp3, ho3⟩ := hp.more Hno.out
          obtain ⟨y0, y1, y2⟩ := three_cells9 hp3.box
          obtain ⟨gc2, cc2, W4, hap2, hp4⟩ := hp3.moreC Hnc.out ho3
          obtain ⟨z0, z1, z2⟩ := three_cells9 hp4.s.box
          have HP4 := hide hp4
          have hap1' : ∀ ty, (Builtin.append_ #[22, 22] ty #[.slice so i co, .slice (some ⟨wr.heap.size, 0, none⟩) 1 1]).run Tryd.prog (wr.alloc (.cells #[.string ⟨#[109, 111, 114, 101]⟩, .int .u64 1] 49)) = .ok (.slice (some ⟨go2, 0, none⟩) (i + 1) co2) W3 := hap1
          have hap2' : ∀ ty, (Builtin.append_ #[23, 23] ty #[.slice sc k cc, .slice (some ⟨W3.heap.size, 0, none⟩) 1 1]).run Tryd.prog (W3.alloc (.cells #[.int .i64 77, .int .i64 0, .slice none 0 0, .slice none 0 0, .int .u64 0, .int .u64 0, .int .i64 0, .string ⟨#[]⟩, .string ⟨#[]⟩] 33)) = .ok (.slice (some ⟨gc2, 0, none⟩) (k + 1) cc2) W4 := hap2
          clear hMk hp hp3 hp4 ho3 HK hk hap1 hap2
          go_upto_region 17 with (first | (at_builtin; have _t := hap1'; refine app_run _ rfl (.tmp 61) (.tmp 63) 22 rfl rfl rfl hap1' ?_; clear hap1') | (at_builtin; have _t := hap2'; refine app_run _ rfl (.tmp 66) (.tmp 68) 23 rfl rfl rfl hap2' ?_; clear hap2'))
          clear x0 x1 x2 y0 y1 y2
          go_wp2_with fail
          clear z0 z1 z2
          go_loopw [73] (fun v73 wr => ∃ (j : Nat) (L2 : List CmV), v73 = .int .i64 (j : Int) ∧ j ≤ k ∧ MaT w lo bt n so sc i co k cc S os1 L2 go2 co2 gc2 cc2 wr ∧ Hid (Mk4 F (fun q _ => decide (q < j)) L2)) (fun v73 _ => k - (intOf v73).toNat)
          case atStart => exact ⟨0, L1, rfl, Nat.zero_le _, HP4.out, HM4.out⟩
          case round =>
            clear HP4 HM4
            obtain ⟨j, L2, rfl, hj, hp, HK⟩ := hrel
            by_cases hlj : j < k
            · have hlj' : (j : Int) < (k : Int) := by omega
              have hj0 : (0 : Int) ≤ (j : Int) := by omega
              obtain ⟨gc, rfl⟩ := own_some (by have := hp.s.rows.cs; rw [hp.s.ll] at this; exact this) (by omega)
              obtain ⟨sf, nf, cf, g5, c5, W5, q2, hap5, y2, ⟨u5, q5⟩, f5, L3, hp5, hK5⟩ := put_step hp HK.out hlj HF.out false (decide_eq_false (Nat.lt_irrefl j))
              obtain ⟨x0, x1, x2⟩ := three_cells9 hp.s.box
              simp only [num, lastB, if_neg Bool.false_ne_true, Nat.add_zero] at q2 hap5 q5 f5 hp5
              have kA : Keeps wr (wr.alloc (.cells #[.int .i64 (1000 * (j : Int) + 499)] 3)) (fun _ => False) := (Keeps.refl _ _).alloc _
              have xA := keeps_cell kA x2
              have qA := keeps_cell kA q2
              have HP5 := hide hp5
              have HK5 := hide hK5
              have Hms : Hid (k - (j + 1) < k - j) := by show k - (j + 1) < k - j; omega
              have Hj : Hid (j + 1 ≤ k) := hlj
              have hw1 := hide (wr64s (n := j) (by have := Hnc.out; omega))
              have hw2 := hide (wr1000 (i := j) (by have := Hnc.out; omega))
              clear hp HK hj hp5 hK5 kA x0 x1
              obtain ⟨a1, a2, -, -, a3, a4, a5, a8, -, -⟩ := hw2.out
              go_wp2_with fail
              apply once9
              · intro hrest
                go_region_law (refine step_append_run (by rfl) _ _ 30 (by rfl) (by rfl) (by rfl) hap5 ?_)
                all_goals exact hrest.out
              clear x2 xA qA q2 y2 q5 f5 hap5
              generalize W5.setCell ⟨gc, j * 9 + 2, none⟩ (.slice (some ⟨g5, 0, none⟩) (nf + 1) c5) = W6 at *
              obtain ⟨sh, nh, ch, g6, c6, W7, q3, hap6, y3, ⟨u6, q6⟩, f6, L4, hp6, hK6⟩ := put_step HP5.out HK5.out hlj HF.out true (by rw [upM_other (fun e => by cases e.2)]; exact decide_eq_false (Nat.lt_irrefl j))
              obtain ⟨x0, x1, x2⟩ := three_cells9 HP5.out.s.box
              rw [A_next] at hK6
              simp only [num, lastB, if_pos, Nat.reduceAdd] at q3 hap6 q6 f6 hp6
              have kA : Keeps W6 (W6.alloc (.cells #[.int .i64 (1000 * (j : Int) + 999)] 3)) (fun _ => False) := (Keeps.refl _ _).alloc _
              have xA := keeps_cell kA x2
              have qA := keeps_cell kA q3
              have HP6 := hide hp6
              have HK6 := hide hK6
              clear HP5 HK5 hp6 hK6 kA x0 x1
              go_wp2_with fail
              apply once9
              · intro hrest
                go_region_law (refine step_append_run (by rfl) _ _ 30 (by rfl) (by rfl) (by rfl) hap6 ?_)
                all_goals exact hrest.out
              clear x2 xA qA q3 y3 q6 f6 hap6
              generalize W7.setCell ⟨gc, j * 9 + 3, none⟩ (.slice (some ⟨g6, 0, none⟩) (nh + 1) c6) = W8 at *
              obtain ⟨a6, a7⟩ := hw1.out
              go_wp2_with fail
              go_roundw
              case rel => exact ⟨j + 1, L4, by go_num, Hj.out, HP6.out, HK6.out⟩
              case measure => simp [intOf]; exact Hms.out
            · obtain rfl : j = k := by omega
              have hlj' : ¬ (j : Int) < (j : Int) := by omega
              obtain ⟨x0, x1, x2⟩ := three_cells9 hp.s.box
              have HP5 := hide hp
              have HK5 := HK
              clear hp HK hj
              go_wp2_with fail
              clear x0 x1 x2
              go_loopw [3, 112] (fun v3 v112 wr => ∃ q m : Nat, v112 = .int .i64 (q : Int) ∧ q ≤ i ∧ v3 = .int .i64 (m : Int) ∧ MaT w lo bt n so sc i co j cc S os1 L2 go2 co2 gc2 cc2 wr ∧ Hid (m = q + 1)) (fun _ v112 _ => i - (intOf v112).toNat)
              case atStart => exact ⟨0, 1, rfl, Nat.zero_le _, rfl, HP5.out, rfl⟩
              case round =>
                clear HP5
                obtain ⟨q, m, rfl, hq, rfl, hp, Hm⟩ := hrel
                by_cases hlq : q < i
                · have hlq' : (q : Int) < (i : Int) := by omega
                  have hlq2 : (q : Int) < (i : Int) + 1 := by omega
                  have hq0 : (0 : Int) ≤ (q : Int) := by omega
                  obtain ⟨go, rfl⟩ := own_some hp.s.ov (by omega)
                  have eqm : (q : Int) + 2 = (m : Int) + 1 := by have := Hm.out; omega
                  have v1 := over_at hp.s HOs.out hlq
                  have v2 := over_at2 hp HOs.out hlq
                  rw [eqm] at v1 v2
                  obtain ⟨x0, x1, x2⟩ := three_cells9 hp.s.box
                  have HP6 := hide hp
                  have Hms : Hid (i - (q + 1) < i - q) := by show i - (q + 1) < i - q; omega
                  have Hq : Hid (q + 1 ≤ i) := hlq
                  have HN : Hid (m + 1 = q + 1 + 1) := by show m + 1 = q + 1 + 1; rw [Hm.out]
                  have hw1 := hide (wr64s (n := q) (by have := Hno.out; omega))
                  have hw2 := hide (wr64s (n := m) (by have := Hno.out; have := Hm.out; omega))
                  have hw3 := hide (wru (m := m) (by have := Hno.out; have := Hm.out; omega))
                  clear hp hq eqm Hm
                  obtain ⟨a6, a7⟩ := hw1.out
                  obtain ⟨b6, b7⟩ := hw2.out
                  have c6 := hw3.out
                  go_wp2_with fail
                  go_roundw
                  case rel => exact ⟨q + 1, m + 1, by go_num, Hq.out, by go_num, HP6.out, HN.out⟩
                  case measure => simp [intOf]; exact Hms.out
                · obtain rfl : q = i := by omega
                  have hlq' : ¬ (q : Int) < (q : Int) := by omega
                  obtain ⟨x0, x1, x2⟩ := three_cells9 hp.s.box
                  have HP6 := hide hp
                  clear hp hq Hm
                  go_wp2_with fail
                  clear x0 x1 x2
                  go_loopw [140] (fun v140 wr => ∃ r : Nat, v140 = .int .i64 (r : Int) ∧ r ≤ j ∧ MaT w lo bt n so sc q co j cc S os1 L2 go2 co2 gc2 cc2 wr) (fun v140 _ => j - (intOf v140).toNat)
                  case atStart => exact ⟨0, rfl, Nat.zero_le _, HP6.out⟩
                  case round =>
                    clear HP6
                    obtain ⟨r, rfl, hr, hp⟩ := hrel
                    by_cases hlr : r < j
                    · have hlr' : (r : Int) < (j : Int) := by omega
                      have hr0 : (0 : Int) ≤ (r : Int) := by omega
                      obtain ⟨gc, rfl⟩ := own_some (by have := hp.s.rows.cs; rw [hp.s.ll] at this; exact this) (by omega)
                      obtain ⟨v0, hb⟩ := hold_step hp HK5.out hlr Hnc.out HF.out
                      obtain ⟨sf, nf, cf, q2, hc2⟩ := hb false
                      obtain ⟨sh, nh, ch, q3, hc3⟩ := hb true
                      have hc2' := hc2 (1000 * (r : Int)) (1000 * (r : Int) + 499) (by simp [offB]) (by simp [lastB])
                      have hc3' := hc3 (1000 * (r : Int) + 500) (1000 * (r : Int) + 999) (by simp [offB]) (by simp [lastB])
                      obtain ⟨x0, x1, x2⟩ := three_cells9 hp.s.box
                      have HP7 := hide hp
                      have Hms : Hid (j - (r + 1) < j - r) := by show j - (r + 1) < j - r; omega
                      have Hr : Hid (r + 1 ≤ j) := hlr
                      have hw1 := hide (wr64s (n := r) (by have := Hnc.out; omega))
                      have hw2 := hide (wr1000 (i := r) (by have := Hnc.out; omega))
                      clear hp hr hb hc2 hc3
                      obtain ⟨a1, a2, a3, a4, a5, a8, b1, b2, a9, a10⟩ := hw2.out
                      simp only [num, if_neg Bool.false_ne_true, if_pos, Nat.add_zero, Nat.reduceAdd] at q2 q3
                      go_wp2_with fail
                      (with_reducible refine hc2'.mono ?_)
                      rintro e w1 ⟨rfl, rfl⟩
                      go_wp2_with fail
                      (with_reducible refine hc3'.mono ?_)
                      rintro e w1 ⟨rfl, rfl⟩
                      obtain ⟨a6, a7⟩ := hw1.out
                      go_wp2_with fail
                      go_roundw
                      case rel => exact ⟨r + 1, by go_num, Hr.out, HP7.out⟩
                      case measure => simp [intOf]; exact Hms.out
                    · obtain rfl : r = j := by omega
                      have hlr' : ¬ (r : Int) < (r : Int) := by omega
                      obtain ⟨x0, x1, x2⟩ := three_cells9 hp.s.box
                      obtain ⟨v1, v2⟩ := ends_at hp
                      have hb1 : (0 : Int) ≤ (q : Int) := by omega
                      have hb2 : (q : Int) < (q : Int) + 1 := by omega
                      have hb3 : (0 : Int) ≤ (r : Int) := by omega
                      have hb4 : (r : Int) < (r : Int) + 1 := by omega
                      have HKe := hide hp.s.keeps
                      clear hp hr
                      go_wp2_with fail
                      go_ret
                      exact ⟨rfl, HKe.out⟩
end Go.Proofs.YtfpiibccggjjpaaDoor
