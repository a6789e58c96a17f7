/-
  ArenaRestores, where Restore is let in.
-/
import Derived.Test.YtdlibnjgmdffnaaGreatHRH7
namespace Go.Proofs.YtdlibnjgmdffnaaGreat
open Go.RowKit Go.Shelf
set_option linter.unusedVariables false
namespace arenaRestores

theorem tale_made {w w3 w4 w5 w7 : World} {p r g : Nat} {d : AD} (hA : Arena w5 p (fun i => w3.heap.size ≤ i ∧ i < w4.heap.size) d) (hR : Ref w5 r (fun k => w4.heap.size ≤ k) d) (hs3 : w3.heap.size ≤ w4.heap.size) (hs5 : w4.heap.size ≤ w5.heap.size) (hw : w.heap.size ≤ w3.heap.size) (hg : g < w3.heap.size) (k : Keeps w w7 (fun _ => False)) (k7 : Keeps w5.drew w7 (fun k => k = g)) (hF : d.Fine) (hW : d.Well) : Tale w w7 p r (fun k => w3.heap.size ≤ k ∧ k < w7.heap.size) d := by
  have k7' : Keeps w5 w7 (fun k => k = g) := (Keeps.refl w5 (fun k => k = g)).drew.trans k7 (fun _ _ e => e)
  have hs7 := k7'.size
  refine ⟨⟨fun i => w3.heap.size ≤ i ∧ i < w4.heap.size, fun i => w4.heap.size ≤ i ∧ i < w5.heap.size, ⟨hA.keeps k7' (fun i _ e e2 => by omega), (hR.mono (fun i hi e => ⟨e, hi⟩)).keeps k7' (fun i _ e e2 => by omega), fun k hk => ⟨Or.inl ⟨hk.1, by omega⟩, by omega, id⟩, fun k hk => ⟨Or.inl ⟨by omega, by omega⟩, by omega, id⟩, fun k hk hr => by omega, fun k hk => hk.elim, Keeps.refl _ _⟩, hF, hW⟩, fun k hk => ⟨by omega, hk.2⟩, k⟩
theorem tale_blocks {w W : World} {p r : Nat} {F : Nat → Prop} {d : AD} (h : Tale w W p r F d) : Calls Tryz.prog 14 #[.pointer (some ⟨p, 0, none⟩), .pointer (some ⟨r, 0, none⟩), .agg #[.int .i64 5, .int .i64 0, .int .i64 0, .int .i64 0, .int .u64 0, .slice none 0 0, .slice none 0 0]] W fun e w' => YesKeeps W e w' := by
  obtain ⟨P, R, m, h1, h2⟩ := h.duo
  exact tells_blocks m.a m.b h1 h2 0 0 0 0 (.slice none 0 0) (.slice none 0 0)
theorem tale_parts {w W : World} {p r : Nat} {F : Nat → Prop} {d : AD} (h : Tale w W p r F d) : Calls Tryz.prog 14 #[.pointer (some ⟨p, 0, none⟩), .pointer (some ⟨r, 0, none⟩), .agg #[.int .i64 13, .int .i64 0, .int .i64 0, .int .i64 0, .int .u64 0, .slice none 0 0, .slice none 0 0]] W fun e w' => YesKeeps W e w' := by
  obtain ⟨P, R, m, h1, h2⟩ := h.duo
  exact tells_parts m.a m.b h1 0 0 0 0 (.slice none 0 0) (.slice none 0 0)

set_option maxRecDepth 100000 in
set_option maxHeartbeats 8000000 in
theorem yes (limit : Nat) (hlim : limit ≤ 2097152) (a : Option Addr) (ca : Nat) (ps : List (Int × Int × Bool)) (S : ByteArray) (so' : Option Addr) (sc : Nat) (ops : List OpD) (w : World) (hn : ps.length ≤ 134217728) (ha : a = none → ca = 0) (hca : ps.length ≤ ca) (h1 : PartsIn w a ps) (hok : ∀ k, okP limit ps k) (hSs : S.size ≤ 140737488355328) (hS : (S.size : Int) = sumL ps) (hle : sumL ps ≤ limit) (hops : OpsIn w so' ops) (hlen : ops.length ≤ 134217728) :
    Calls Tryz.prog 5 #[.agg #[.int .i64 (limit : Int), .slice a ps.length ca, .string S], .slice so' ops.length sc] w fun e w' => YesKeeps w e w' := by
  have k1 : Keeps w (w.alloc (.cells #[.int .i64 (limit : Int), .slice a ps.length ca, .string S] 42)) (fun _ => False) := (Keeps.refl _ _).alloc _
  have hnew := heap_alloc_new w (.cells #[.int .i64 (limit : Int), .slice a ps.length ca, .string S] 42)
  obtain ⟨so, c1, w2, g, cap, w3, hap1, hap2, hroom, k3⟩ := room_made a ca ps (h1.keeps k1) hn ha
  have hcap : ps.length ≤ cap := by have := hroom.room; omega
  have hcut := fun W => head_parts0 W g 0 (ps.length + 2) cap ps.length hcap
  have HP1 := hide h1
  have HOPS := hide hops
  have HOK := hide hok
  have hfw := restD_well hlim hok (b := S.data.toList) (by rw [← hS, Array.length_toList]; rfl) hle
  have HFW := hide hfw
  have HROOM := hide hroom
  have K3 := hide (k1.trans k3 (fun _ _ e => e))
  have hboxw : Hid (∀ W, Keeps (w.alloc (.cells #[.int .i64 (limit : Int), .slice a ps.length ca, .string S] 42)) W (fun _ => False) → W.cell? ⟨w.heap.size, 0, none⟩ = some (.int .i64 (limit : Int)) ∧ W.cell? ⟨w.heap.size, 1, none⟩ = some (.slice a ps.length ca) ∧ W.cell? ⟨w.heap.size, 2, none⟩ = some (.string S)) := fun W kW => three_cells ((kW.block _ (heap_lt hnew) id).trans hnew)
  have B0 := hboxw.out _ (Keeps.refl _ _)
  have B3 := hboxw.out _ k3
  have K13 := hide k3
  obtain ⟨b0, b1, b2⟩ := B0
  obtain ⟨d0, d1, d2⟩ := B3
  clear hroom k3 k1 hnew h1 hops hok hfw
  go_enter Tryz.func5, Tryz.ntmps5
  go_wp2_with (first | (at_builtin; have _t := hap1; refine append_run _ rfl (.tmp 12) (.tmp 14) 40 rfl rfl rfl hap1 ?_; clear hap1) | (at_builtin; have _t := hap2; refine append_run _ rfl (.tmp 16) (.tmp 19) 40 rfl rfl rfl hap2 ?_; clear hap2))
  have hP3 := restoreAll_yes limit hlim (some ⟨g, 0, none⟩) cap ps w3.drew hn (HROOM.out.parts.keeps (Keeps.refl _ _).drew) HOK.out S hS hle
  have S3 := hboxw.out w3.drew K13.out.drew
  go_region_held3 (fun w' => w'.cell? ⟨w.heap.size, 0, none⟩ = some (.int .i64 (limit : Int)) ∧ w'.cell? ⟨w.heap.size, 1, none⟩ = some (.slice a ps.length ca) ∧ w'.cell? ⟨w.heap.size, 2, none⟩ = some (.string S)) (first | with_reducible assumption | exact S3 | exact hboxw.out _ (K13.out.drew.trans (by assumption) (fun _ _ e => e))) (first | (go_at_call 11; (with_reducible refine hP3.mono ?_); rintro e w4 ⟨p, rfl, hA4, k4⟩))
  all_goals (
    have K4 := hide (K3.out.drew.trans k4 (fun _ _ e => e))
    have K14 := hide (K13.out.drew.trans k4 (fun _ _ e => e))
    have R4 := hide ((HROOM.out.stay (Keeps.refl _ _).drew).stay k4)
    have hR4 := ref_restore limit hlim a ca ps w4 hn hca (HP1.out.keeps K4.out) HOK.out S hSs
    have HA4 := hide hA4
    have hs3 : w3.heap.size ≤ w4.heap.size := k4.size
    have hg3 : g < w3.heap.size := (by obtain ⟨cs, hc, _⟩ := HROOM.out.blk; exact heap_lt hc)
    obtain ⟨b0, b1, b2⟩ := hboxw.out w4 K14.out
    clear d0 d1 d2 hP3 S3 k4 hA4 HROOM K3 K13 HOK
    go_wp2_with fail)
  (with_reducible refine hR4.mono ?_)
  rintro e w5 hAny
  obtain ⟨r, rfl, hR5, k5⟩ : RRestPost w4 (restD (AD.fresh limit) ps S.data.toList) e w5 := hAny.resolve_right (fun h => h.1 ⟨hS, hle⟩) |>.2
  have HR5 := hide hR5
  have HA5 := hide (HA4.out.mono (fun i hi e => (⟨e, hi⟩ : w3.heap.size ≤ i ∧ i < w4.heap.size)) |>.keeps k5 (fun _ _ _ e => e))
  have K5 := hide (K4.out.trans k5 (fun _ _ e => e))
  have K15 := hide (K14.out.trans k5 (fun _ _ e => e))
  have R5 := hide (R4.out.stay k5)
  have hN5 := num_any 0 w5
  have hs5 : w4.heap.size ≤ w5.heap.size := k5.size
  clear b0 b1 b2 hR4 k5 K4 K14 R4 hAny hR5 HA4
  obtain ⟨b0, b1, b2⟩ := hboxw.out w5 K15.out
  obtain ⟨r7, r8⟩ := R5.out.ends
  obtain ⟨cs5, hL5⟩ := R5.out.left
  have hgs : w.heap.size + 1 ≤ g := by have := R5.out.new; simpa using this
  have hS5 : Hid (Calls Tryz.prog 13 #[.slice (some ⟨g, 0, none⟩) ps.length cap, .slice a ps.length ca] w5.drew fun e w' => e = .returned (.bool true) ∧ Keeps w5.drew w' (fun k => k = g)) := by
    obtain ⟨cs6, hL6⟩ := (R5.out.stay (Keeps.refl _ _).drew).left
    exact hide (sameI_any a ca hL6 HP1.out K5.out.drew (by omega) hn)
  have K5d := hide K5.out.drew
  have q1 : (ps.length : Int) < ((ps.length + 2 : Nat) : Int) := by omega
  have q2 : (ps.length : Int) + 1 < ((ps.length + 2 : Nat) : Int) := by omega
  go_wp2_with fail
  (with_reducible refine hN5.mono ?_)
  rintro e w6 ⟨rfl, hw6⟩
  subst hw6
  clear hN5
  go_wp2_with fail
  have hX : Hid (∀ w7, Keeps w6.drew w7 (fun k => k = g) → Keeps w w7 (fun _ => False)) := fun w7 k7 => (K5d.out.mono (S1 := fun k => k = g) (fun _ _ e => e.elim)).trans k7 (fun _ _ e => e) |>.mono (fun i hi e => by omega)
  have hY : Hid (∀ w7, Keeps w6.drew w7 (fun k => k = g) → w7.cell? ⟨w.heap.size, 1, none⟩ = some (.slice a ps.length ca)) := fun w7 k7 => (World.cell?_of_block (k7.block w.heap.size (cell_blk b1) (by omega))).trans b1
  go_region_held3 (fun w' => w'.cell? ⟨w.heap.size, 1, none⟩ = some (.slice a ps.length ca)) (first | with_reducible assumption | exact hY.out _ (Keeps.refl _ _) | exact hY.out _ (by assumption)) (first | (go_at_call 13; (with_reducible refine hS5.out.mono ?_); rintro e w7 ⟨rfl, k7⟩))
  all_goals (
    have K7 := hide (hX.out _ k7)
    have hT : Hid (Tale w w7 p r (fun k => w3.heap.size ≤ k ∧ k < w7.heap.size) (restD (AD.fresh limit) ps S.data.toList)) := hide (tale_made HA5.out HR5.out hs3 hs5 (by omega) hg3 K7.out k7 HFW.out.1 HFW.out.2)
    clear hX hY k7 b0 b1 b2 r7 r8 hS5 HA5 HR5 HFW K7 K5 K5d K15 R5 hcut hboxw HP1
    generalize restD (AD.fresh limit) ps S.data.toList = d at *
    have hB1 := tale_blocks hT.out
    go_wp2_with fail
    (with_reducible refine hB1.mono ?_)
    rintro e w8 ⟨rfl, k8⟩
    have hT8 := hide (hT.out.stay k8)
    have hB2 := tale_parts hT8.out
    clear hT hB1 k8
    go_wp2_with fail
    (with_reducible refine hB2.mono ?_)
    rintro e w9 ⟨rfl, k9⟩
    have hT := hide (hT8.out.stay k9)
    clear hT8 hB2 k9
    go_wp2_with fail)
  go_loopw [100] (fun i wr => ∃ k : Nat, k ≤ ops.length ∧ i = .int .i64 (k : Int) ∧ Hid (∃ F d, Tale w wr p r F d)) (fun i _ => ops.length - (intOf i).toNat)
  case atStart => exact ⟨0, Nat.zero_le _, rfl, (show ∃ F d, Tale w _ p r F d from ⟨_, _, hT.out⟩)⟩
  case round =>
    clear hT
    obtain ⟨k, hk, rfl, hTT⟩ := hrel
    obtain ⟨F, d, hT⟩ := hTT.out
    by_cases hlt : k < ops.length
    · have hlt' : (k : Int) < (ops.length : Int) := by omega
      obtain ⟨b, o, rfl, hb, hc, hok⟩ := HOPS.out k hlt
      have hcr : ∀ j (hj : j < 7) v, ops[k].cells[j]? = some v → wr.cell? ⟨b, o + (k * 7 + j), none⟩ = some v := fun j hj v hv => keep_cell hT.kp ((hc j hj).trans hv)
      have hP : ∀ ob : Obj, Calls Tryz.prog 9 #[.pointer (some ⟨p, 0, none⟩), .pointer (some ⟨r, 0, none⟩), ops[k].val] (wr.alloc ob) fun e w' => TalePost w (wr.alloc ob) p r F e w' := fun ob => tale_play (hT.stay ((Keeps.refl _ _).alloc ob)) ops[k] hok
      generalize ops[k] = od at *
      obtain ⟨K, X, Y, N, V, la, lc, zs, sa, sc, ts⟩ := od
      have q0 := hcr 0 (by omega) (.int .i64 K) rfl
      have q1 := hcr 1 (by omega) (.int .i64 X) rfl
      have q2 := hcr 2 (by omega) (.int .i64 Y) rfl
      have q3 := hcr 3 (by omega) (.int .i64 N) rfl
      have q4 := hcr 4 (by omega) (.int .u64 (V : Int)) rfl
      have q5 := hcr 5 (by omega) (.slice la zs.length lc) rfl
      have q6 := hcr 6 (by omega) (.slice sa ts.length sc) rfl
      simp only [Nat.add_zero] at q0
      rw [← Nat.add_assoc] at q1 q2 q3 q4 q5 q6
      have hP := hP (.cells (op2Cells K X Y N (V : Int) (.slice la zs.length lc) (.slice sa ts.length sc)) 35)
      unfold OpD.val OpD.cells op2Cells at hP
      simp only [] at hP
      clear hc hcr hok hT hTT HOPS
      go_wp2_with fail
      (with_reducible refine hP.mono ?_)
      rintro e w5 ⟨rfl, _, d', hT'⟩
      have HT' : Hid (∃ F d, Tale w w5 p r F d) := (show ∃ F d, Tale w w5 p r F d from ⟨_, _, hT'⟩)
      clear hP hT'
      go_wp2_with fail
      go_roundw
      case rel => exact ⟨k + 1, by omega, by go_num, HT'⟩
      case measure => simp [intOf]; omega
    · obtain rfl : k = ops.length := by omega
      have hlt' : ¬ (ops.length : Int) < (ops.length : Int) := by omega
      have hE := ends_any hT.duo
      have KW := hide hT.kp
      clear hT hTT HOPS
      go_wp2_with fail
      (with_reducible refine hE.mono ?_)
      rintro e w5 ⟨rfl, k5⟩
      have K5 := hide (KW.out.trans k5 (fun _ _ e => e))
      clear hE k5
      go_wp2_with fail
      go_ret
      exact ⟨rfl, K5.out⟩
end arenaRestores
end Go.Proofs.YtdlibnjgmdffnaaGreat
