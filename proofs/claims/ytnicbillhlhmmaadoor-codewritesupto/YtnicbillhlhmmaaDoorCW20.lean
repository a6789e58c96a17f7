/-
  code: the reference's Text.
-/
import Derived.Test.YtnicbillhlhmmaaDoorCW18
import Derived.Test.YtnicbillhlhmmaaDoorCW17
import Derived.Deep.RegionHeldLaw
namespace Go.Proofs.YtnicbillhlhmmaaDoor
namespace Cw
open Go.RowKit
set_option linter.unusedVariables false
theorem room7 {a b h n : Nat} (h1 : b ≤ 69 * n) (h2 : a ≤ 68) (h3 : h ≤ 47) (h4 : n ≤ 1048576) : h + b + (a + 1) ≤ 1099511627776 := by omega
/-- Bytes and a text behind them. -/
theorem text_more {W : World} {base : Nat} {vb : Value} {l : Bs} (own : W.ownsRow base 5 1 vb l.length (cellsOf l)) (hbase : base ≤ W.heap.size) (s : Bs) (hs : s ≠ []) (hl : l.length + s.length ≤ 1099511627776) :
    ∃ W1 c, (convert 9 38 (.string (sB s))).run Tryd.prog W = .ok (.slice (some ⟨W.heap.size, 0, none⟩) s.length c) W1 ∧ Keeps W W1 (fun _ => False) ∧
    ∃ g2 c2 W2, (∀ ty, (Builtin.append_ #[38, 38] ty #[vb, .slice (some ⟨W.heap.size, 0, none⟩) s.length c]).run Tryd.prog W1 = .ok (.slice (some ⟨g2, 0, none⟩) (l.length + s.length) c2) W2) ∧ W2.ownsRow base 5 1 (.slice (some ⟨g2, 0, none⟩) (l.length + s.length) c2) (l ++ s).length (cellsOf (l ++ s)) ∧ Keeps W W2 (fun k => vb.ownBlock = some k) := by
  obtain ⟨W1, c, fz, h1, k1, h3, h4, h5, h6⟩ := bytes_of_room (P := Tryd.prog) W 9 38 5 (sB s) Tryd.underlying9 Tryd.underlying38 Tryd.underlying5
  have es : (sB s).size = s.length := rfl
  rw [es] at h1 h4 h6
  rw [sB_data] at h6
  have own1 := ownsRow_keeps own k1 (fun _ _ e => e)
  obtain ⟨i, q1, q2, q3, q4⟩ := info_parts infoB
  have hz1 := k1.size
  obtain ⟨g2, c2, W2, hr, h7, h8, _⟩ := run_append_lies (P := Tryd.prog) (w := W1) 38 0 base 5 i _ 1 1 Tryd.underlying38 q1 q2 q3 q4 rfl (by decide) vb l.length (cellsOf l) own1 ⟨W.heap.size, 0, none⟩ s.length c (cellsOf s) (by rw [cellsOf_length, Nat.mul_one])
    (fun j y hj => by
      rw [addr_add, Nat.zero_add]
      have hlt : j < (cellsOf s).length := (List.getElem?_eq_some_iff.1 hj).1
      simp only [World.cell?, h6, rowOf, cellsOf_append, List.getElem?_toArray]
      rw [List.getElem?_append_left hlt]
      exact hj) (fun u hu => cellsOf_one u hu) (List.length_pos_iff.2 hs) (by simp only [maxLen]; omega) (by omega) (by omega) W1.heap.size rfl
  refine ⟨W1, c, h1, k1, g2, c2, W2, fun ty => hr, ?_, (keepsX k1).trans ⟨h8.os, h8.tape, h8.output, h8.size, fun k hk hn => h8.block k hk (fun e => hn e.symm)⟩ (fun q hq e => e)⟩
  rw [List.length_append, cellsOf_append]
  exact h7
set_option maxRecDepth 100000 in
set_option maxHeartbeats 4000000 in
theorem rtext_any (v m : Int) (sl : Value) (is : List In) (w : World) (hv : Fit v) (hm : Fit m) (hi : ∀ x, x ∈ is → x.fit) (hs : InsV w sl is) (hlen : is.length ≤ 1048576) :
    Calls Tryd.prog 7 #[cdV v m sl] w fun e w' => e = .returned (.string (sB (textC ⟨v, m, is⟩))) ∧ Keeps w w' (fun _ => False) := by
  rw [textC_eq]
  obtain ⟨p, c, rfl, -⟩ := id hs
  obtain ⟨W0, hW0⟩ : ∃ W0, W0 = w.alloc (.cells #[.int .i64 v, .int .i64 m, .slice p is.length c] 24) := ⟨_, rfl⟩
  have kW : Keeps w W0 (fun _ => False) := by rw [hW0]; exact (Keeps.refl _ _).alloc _
  have hbox : CdB W0 w.heap.size v m (.slice p is.length c) := by rw [hW0]; exact heap_alloc_new _ _
  have hhl := headC_len hv hm
  have hne : headC v m ≠ [] := by unfold headC; simp
  have hD := fun (n : Int) (hn : Fit n) (W : World) => decimal_any n hn W
  have hvz : (sB (Lib.itoa v)).size ≤ 20 := by rw [sB_size]; exact itoa_len v hv
  have hmz : (sB (Lib.itoa m)).size ≤ 20 := by rw [sB_size]; exact itoa_len m hm
  have HDv : Hid (∀ W, Calls Tryd.prog 17 #[.int .i64 v] W fun e w' => e = .returned (.string (sB (Lib.itoa v))) ∧ Keeps W w' (fun _ => False)) := hD v hv
  have HDm : Hid (∀ W, Calls Tryd.prog 17 #[.int .i64 m] W fun e w' => e = .returned (.string (sB (Lib.itoa m))) ∧ Keeps W w' (fun _ => False)) := hD m hm
  have hcode : sB codeB ++ ⟨#[32]⟩ = ⟨#[99, 111, 100, 101, 32]⟩ := by decide +kernel
  have hhead : (((((⟨#[99, 111, 100, 101, 32]⟩ : ByteArray) ++ sB (Lib.itoa v)) ++ ⟨#[32]⟩) ++ sB (Lib.itoa m)) ++ ⟨#[10]⟩) = sB (headC v m) := by
    have h10 : (⟨#[10]⟩ : ByteArray) = sB [10] := rfl
    have h32 : (⟨#[32]⟩ : ByteArray) = sB [32] := rfl
    rw [← hcode, h10, h32]
    simp only [sB_app]
    congr 1
    simp [headC, lnW]
  have Hi := hide (And.intro hi (And.intro hlen (And.intro hhl hne)))
  have Hs := hide hs
  have HB := hide (And.intro kW hbox)
  have hlk : is.length ≤ 1048576 := hlen
  obtain ⟨⟨c0, c1, c2⟩, -⟩ := hbox.cells
  obtain ⟨H, hH⟩ : ∃ H, headC v m = H := ⟨_, rfl⟩
  rw [hH] at hhead Hi ⊢
  clear hD hv hm hi hs kW hbox hhl hne hlen hcode hH
  generalize sB (Lib.itoa v) = Sv at *
  generalize sB (Lib.itoa m) = Sm at *
  obtain ⟨T1, hT1⟩ : ∃ T1, (⟨#[99, 111, 100, 101, 32]⟩ : ByteArray) ++ Sv = T1 := ⟨_, rfl⟩
  obtain ⟨T2, hT2⟩ : ∃ T2, T1 ++ ⟨#[32]⟩ = T2 := ⟨_, rfl⟩
  obtain ⟨T3, hT3⟩ : ∃ T3, T2 ++ Sm = T3 := ⟨_, rfl⟩
  rw [hT1, hT2, hT3] at hhead
  have z5 : (⟨#[99, 111, 100, 101, 32]⟩ : ByteArray).size = 5 := rfl
  have z1 : (⟨#[32]⟩ : ByteArray).size = 1 := rfl
  have z10 : (⟨#[10]⟩ : ByteArray).size = 1 := rfl
  obtain ⟨q1, y1⟩ := cat_run _ _ _ hT1 (by omega) (by omega)
  obtain ⟨q2, y2⟩ := cat_run _ _ _ hT2 (by omega) (by omega)
  obtain ⟨q3, y3⟩ := cat_run _ _ _ hT3 (by omega) (by omega)
  obtain ⟨q4, y4⟩ := cat_run _ _ _ hhead (by omega) (by omega)
  clear hT1 hT2 hT3 hhead y1 y2 y3 y4 z5 z1 z10 hvz hmz
  have HM : Hid (∀ W, Keeps W0 W (fun _ => False) → ∃ W1 c, (convert 9 38 (.string (sB H))).run Tryd.prog W = .ok (.slice (some ⟨W.heap.size, 0, none⟩) H.length c) W1 ∧ Keeps W0 W1 (fun _ => False) ∧
    ∃ g2 c2 W2, (∀ ty, (Builtin.append_ #[38, 38] ty #[.slice none 0 0, .slice (some ⟨W.heap.size, 0, none⟩) H.length c]).run Tryd.prog W1 = .ok (.slice (some ⟨g2, 0, none⟩) H.length c2) W2) ∧ W2.ownsRow W0.heap.size 5 1 (.slice (some ⟨g2, 0, none⟩) H.length c2) H.length (cellsOf H) ∧ Keeps W0 W2 (fun _ => False)) := fun W k => by
    have h0 : W.ownsRow W0.heap.size 5 1 (.slice none 0 0) ([] : Bs).length (cellsOf []) := ⟨rfl, Or.inl ⟨rfl, rfl⟩⟩
    obtain ⟨W1, c, a1, a2, g2, c2, W2, a3, a4, a5⟩ := text_more h0 k.size H Hi.out.2.2.2 (by have := Hi.out.2.2.1; simp; omega)
    simp only [List.length_nil, Nat.zero_add, List.nil_append] at a3 a4
    exact ⟨W1, c, a1, k.trans a2 (fun _ _ e => e), g2, c2, W2, a3, a4, k.trans a5 (fun q hq e => by cases e)⟩
  generalize sB H = SH at *
  unfold cdV
  go_enter Tryd.func7, Tryd.ntmps7
  go_upto_region 2 with fail
  rw [← hW0]
  have hsz0 : W0.heap.size = w.heap.size + 1 := by rw [hW0]; simp
  have Hsz := hide hsz0
  clear hW0 hsz0 c2
  obtain ⟨g, hg⟩ : ∃ g, w.heap.size = g := ⟨_, rfl⟩
  have Hg := hide hg
  rw [hg] at c0 c1 ⊢
  clear hg
  have S0 : (fun w' : World => w'.cell? ⟨g, 0, none⟩ = some (.int .i64 v) ∧ w'.cell? ⟨g, 1, none⟩ = some (.int .i64 m)) W0.drew := ⟨c0, c1⟩
  go_region_held_law (fun w' : World => w'.cell? ⟨g, 0, none⟩ = some (.int .i64 v) ∧ w'.cell? ⟨g, 1, none⟩ = some (.int .i64 m)) (first | with_reducible exact S0 | with_reducible assumption)
    (first
    | ((with_reducible refine Calls.mono (HDv.out _) ?_)
       rintro e wA ⟨rfl, kA⟩
       have SA : (fun w' : World => w'.cell? ⟨g, 0, none⟩ = some (.int .i64 v) ∧ w'.cell? ⟨g, 1, none⟩ = some (.int .i64 m)) wA := ⟨keeps_at kA S0.1, keeps_at kA S0.2⟩
       have HA := hide ((Keeps.refl W0 (fun _ => False)).drew.trans kA (fun _ _ e => e))
       clear kA)
    | ((with_reducible refine Calls.mono (HDm.out _) ?_)
       rintro e wB ⟨rfl, kB⟩
       have SB : (fun w' : World => w'.cell? ⟨g, 0, none⟩ = some (.int .i64 v) ∧ w'.cell? ⟨g, 1, none⟩ = some (.int .i64 m)) wB := ⟨keeps_at kB SA.1, keeps_at kB SA.2⟩
       obtain ⟨W5, c5, hconv, k5, g6, c6, W6, hap, own6, k6⟩ := HM.out wB (HA.out.trans kB (fun _ _ e => e))
       have SC : (fun w' : World => w'.cell? ⟨g, 0, none⟩ = some (.int .i64 v) ∧ w'.cell? ⟨g, 1, none⟩ = some (.int .i64 m)) W5 := ⟨keeps_at k5 c0, keeps_at k5 c1⟩
       have SD : (fun w' : World => w'.cell? ⟨g, 0, none⟩ = some (.int .i64 v) ∧ w'.cell? ⟨g, 1, none⟩ = some (.int .i64 m)) W6 := ⟨keeps_at k6 c0, keeps_at k6 c1⟩
       have H6 := hide (And.intro own6 k6)
       clear kB k5 own6 k6)
    | (refine step_append_run (by rfl) _ _ 38 (by rfl) (by rfl) (by rfl) hap ?_))
  all_goals (
    have HX : Hid (w.heap.size = g ∧ W0.heap.size = w.heap.size + 1) := ⟨Hg.out, Hsz.out⟩
    clear hconv hap S0 SA SB SC SD HA HDv HDm HM q1 q2 q3 q4 c0 c1
    go_wp2_with fail
    go_loopw [3, 4, 5] (fun v3 v4 v5 wr => ∃ i : Nat, v4 = .int .i64 (i : Int) ∧ i ≤ is.length ∧ Hid (wr.ownsRow W0.heap.size 5 1 v3 (H ++ linesL (is.take i)).length (cellsOf (H ++ linesL (is.take i))) ∧ Keeps W0 wr (fun _ => False))) (fun _ v4 _ _ => is.length - (intOf v4).toNat)
    case atStart => exact ⟨0, rfl, Nat.zero_le _, by show World.ownsRow _ _ _ _ _ (H ++ linesL []).length (cellsOf (H ++ linesL [])) ∧ _; rw [show linesL [] = [] from rfl, List.append_nil]; exact H6.out⟩
    case round =>
      obtain ⟨i, rfl, hi, HR⟩ := hrel
      have hi' : (i : Int) ≤ (is.length : Int) := by omega
      have hbx : CdB wr w.heap.size v m (.slice p is.length c) := (HR.out.2.block _ (heap_lt HB.out.2) id).trans HB.out.2
      rw [HX.out.1] at hbx
      obtain ⟨⟨x0, x1, x2⟩, -⟩ := hbx.cells
      clear hbx
      by_cases hlt : i < is.length
      · have hlt' : (i : Int) < (is.length : Int) := by omega
        have Hm : Hid (is.length - (i + 1) < is.length - i) := sub_down hlt
        have Hle : Hid (i + 1 ≤ is.length) := hlt
        obtain ⟨p', c', hve, hvc⟩ := (Hs.out.keeps HB.out.1).keeps HR.out.2
        injection hve with hp hn' hc'
        subst hp
        obtain ⟨gi, oi, rfl, d0, d1, d2⟩ := hvc i hlt
        have hfi := Hi.out.1 _ (List.getElem_mem hlt)
        have hL := line_any is[i] hfi wr
        have hsz : (sB (lnI is[i])).size ≤ 68 := by rw [sB_size]; exact lnI_len hfi
        have htk := linesL_take hlt
        have hmore := fun (W : World) (k : Keeps wr W (fun _ => False)) => text_more (ownsRow_keeps HR.out.1 k (fun _ _ e => e)) (Nat.le_trans HR.out.2.size k.size) (lnI is[i] ++ [10]) (by simp) (by
          have h1 := linesL_most Hi.out.1 i
          have h2 := lnI_len hfi
          have h3 := Hi.out.2.2.1
          have h4 := Hi.out.2.1
          rw [List.length_append, List.length_append, List.length_singleton]
          exact room7 h1 h2 h3 h4)
        have HMo := hide (And.intro hmore htk)
        have hten : sB (lnI is[i]) ++ ⟨#[10]⟩ = sB (lnI is[i] ++ [10]) := sB_app _ [10]
        obtain ⟨q1, -⟩ := cat_run _ _ _ hten (by omega) (by show 1 ≤ 1000; decide)
        unfold LineQ inV at hL
        clear hvc hn' hc' hfi htk hmore hten hsz
        generalize sB (lnI is[i] ++ [10]) = ST at *
        generalize sB (lnI is[i]) = SL at *
        generalize is[i] = x at *
        go_wp2_with fail
        (with_reducible refine hL.mono ?_)
        rintro e w2 ⟨rfl, k2⟩
        obtain ⟨W5, c5, hconv, k5, g6, c6, W6, hap, own6, k6⟩ := HMo.out.1 w2 k2
        have H7 : Hid (W6.ownsRow W0.heap.size 5 1 (.slice (some ⟨g6, 0, none⟩) ((H ++ linesL (is.take i)).length + (lnI x ++ [10]).length) c6) (H ++ linesL (is.take (i + 1))).length (cellsOf (H ++ linesL (is.take (i + 1)))) ∧ Keeps W0 W6 (fun _ => False)) := by
          refine ⟨?_, (HR.out.2.trans k2 (fun _ _ e => e)).trans k6 (fun q hq e => ?_)⟩
          · rw [HMo.out.2, ← List.append_assoc, ← List.append_assoc] 
            rw [← List.append_assoc] at own6
            exact own6
          · have := (ownsRow_block HR.out.1 e).1
            omega
        obtain ⟨nl, hnl⟩ : ∃ nl, (H ++ linesL (is.take i)).length = nl := ⟨_, rfl⟩
        obtain ⟨ml, hml⟩ : ∃ ml, (lnI x ++ [10]).length = ml := ⟨_, rfl⟩
        rw [hnl, hml] at hap H7
        rw [hml] at hconv
        obtain ⟨p9, l9, c9, rfl⟩ := own_form HR.out.1
        clear hL k2 k5 own6 k6 hnl hml HR
        go_wp2_with (at_builtin; have _t := hap; refine app_run _ rfl (.tmp 32) (.tmp 35) 38 rfl rfl rfl hap ?_; clear hap)
        go_roundw
        case rel => exact ⟨i + 1, by go_num, Hle.out, H7⟩
        case measure => simp [intOf]; exact Hm.out
      · obtain rfl : i = is.length := by omega
        obtain ⟨r1, r2⟩ := HR.out
        rw [List.take_of_length_le (Nat.le_refl _)] at r1
        rcases r1.2 with ⟨-, h00⟩ | ⟨g9, cap, cur, e1, e2, e3, e4, e5, e6, e7⟩
        · exact absurd (List.append_eq_nil_iff.1 (List.length_eq_zero_iff.1 h00)).1 Hi.out.2.2.2
        · subst e1
          have hconv := run_text wr ⟨g9, 0, none⟩ cap _ (H ++ linesL is) rfl (fun j hj => by
            rw [Nat.mul_one] at e7
            have : (cellsOf (H ++ linesL is))[j]? = some (.int .u8 ((H ++ linesL is)[j].toNat : Int)) := by
              rw [cellsOf, List.getElem?_map, List.getElem?_eq_getElem hj]
              rfl
            rw [← e7, List.getElem?_take, if_pos hj, Array.getElem?_toList] at this
            rw [addr_add, Nat.zero_add]
            simp [World.cell?, e3, this])
          have HF := hide (HB.out.1.trans r2 (fun _ _ e => e))
          rw [show strOf (H ++ linesL is) = sB (H ++ linesL is) from rfl] at hconv
          clear e2 e3 e4 e5 e6 e7 r1 r2 HR
          generalize (H ++ linesL is).length = nl at *
          go_wp2_with fail
          go_ret
          exact ⟨rfl, HF.out⟩)
end Cw
end Go.Proofs.YtnicbillhlhmmaaDoor
