/-
  script: the law's same of two scripts that are alike (made by a script).
-/
import Derived.Test.YtpkbjjbbdhehdaaDoorSG7
namespace Go.Proofs.YtpkbjjbbdhehdaaDoor
open Go.RowKit
set_option linter.unusedVariables false

set_option maxRecDepth 100000 in
set_option maxHeartbeats 8000000 in
theorem same_true (n : Int) (vo vo2 vc vc2 : Value) (os : List Ovr) (L L2 : List CmV) (hLL : L2.map (·.c) = L.map (·.c)) (w : World) (ho : OvIn w vo os) (ho2 : OvIn w vo2 os) (hc : CmIn w vc L) (hc2 : CmIn w vc2 L2) (hcost : costO os + costs (L.map (·.c)) ≤ 4194304) :
    Calls Tryd.prog 7 #[.agg #[.int .i64 n, vo, vc], .agg #[.int .i64 n, vo2, vc2]] w fun e w' => e = .returned (.bool true) ∧ Keeps w w' (fun _ => False) := by
  obtain ⟨so, co, rfl⟩ := ho.row.form
  obtain ⟨so2, co2, rfl⟩ := ho2.row.form
  obtain ⟨sc, cc, rfl⟩ := hc.row.form
  obtain ⟨sc2, cc2, rfl⟩ := hc2.row.form
  have hlen : L2.length = L.length := by
    have := congrArg List.length hLL
    simpa using this
  have hat : ∀ i (h1 : i < L.length) (h2 : i < L2.length), L2[i].c = L[i].c := fun i h1 h2 => by
    have := congrArg (fun l : List CmdD => l[i]?) hLL
    simpa [h1, h2] using this
  have hf1 : os.length ≤ 4194304 := by
    have := ovs_few os
    omega
  have hf2 : L.length ≤ 4194304 := by
    have := cms_few (L.map (·.c))
    rw [List.length_map] at this
    omega
  have HO := hide ho
  have HO2 := hide ho2
  have HC := hide hc
  have HC2 := hide hc2
  have HA := hide hat
  have HLen := hide hlen
  have HF := hide (And.intro hf1 hf2)
  rw [hlen]
  clear ho ho2 hc hc2 hat hcost hlen hLL hf1 hf2
  go_enter Tryd.func7, Tryd.ntmps7
  go_upto_region 1 with fail
  refine alloc2 (P := fun W => Code.wp _ _ _ _ W) fun W0 hb0 hb1 k0 => ?_
  obtain ⟨c0, c1, c2⟩ := three_cells hb0
  obtain ⟨d0, d1, d2⟩ := three_cells hb1
  have HB0 := hide hb0
  have HB1 := hide hb1
  have HK0 := hide k0
  clear hb0 hb1 k0
  go_wp2_with fail
  clear c0 c1 c2 d0 d1 d2
  go_loopw [33] (fun v33 wr => ∃ i : Nat, v33 = .int .i64 (i : Int) ∧ i ≤ os.length ∧ Keeps W0 wr (fun _ => False)) (fun v33 _ => os.length - (intOf v33).toNat)
  case atStart => exact ⟨0, rfl, Nat.zero_le _, Keeps.refl _ _⟩
  case round =>
    obtain ⟨i, rfl, hi, K⟩ := hrel
    by_cases hlt : i < os.length
    · have hlt' : (i : Int) < (os.length : Int) := by omega
      have h0' : (0 : Int) ≤ (i : Int) := by omega
      have KW := HK0.out.trans K (fun _ _ e => e)
      obtain ⟨b, o, rfl, q1, q2⟩ := (HO.out.keeps KW).at hlt
      obtain ⟨b2, o2, rfl, q3, q4⟩ := (HO2.out.keeps KW).at hlt
      obtain ⟨-, c1, -⟩ := three_cells (K.blk8 HB0.out)
      obtain ⟨-, d1, -⟩ := three_cells (K.blk8 HB1.out)
      obtain ⟨x, hx⟩ : ∃ x, os[i] = x := ⟨_, rfl⟩
      rw [hx] at q1 q2 q3 q4
      obtain ⟨ky, hu⟩ := x
      dsimp only at q1 q2 q3 q4
      have Hms : Hid (os.length - (i + 1) < os.length - i) := by show os.length - (i + 1) < os.length - i; omega
      have Hi : Hid (i + 1 ≤ os.length) := hlt
      obtain ⟨a6, a7⟩ := wr64s (n := i) (by have := HF.out.1; omega)
      have HK := hide K
      clear K KW hi hx
      have S0 : (fun w' : World => w'.cell? ⟨w.heap.size, 1, none⟩ = some (.slice (some ⟨b, o, none⟩) os.length co) ∧ w'.cell? ⟨w.heap.size + 1, 1, none⟩ = some (.slice (some ⟨b2, o2, none⟩) os.length co2) ∧ w'.cell? ⟨b, o + i * 2, none⟩ = some (.string ky) ∧ w'.cell? ⟨b, o + i * 2 + 1, none⟩ = some (.int .u64 (hu : Int)) ∧ w'.cell? ⟨b2, o2 + i * 2, none⟩ = some (.string ky) ∧ w'.cell? ⟨b2, o2 + i * 2 + 1, none⟩ = some (.int .u64 (hu : Int))) wr.drew := ⟨c1, d1, q1, q2, q3, q4⟩
      go_wp2_with fail
      go_region_held3 (fun w' : World => w'.cell? ⟨w.heap.size, 1, none⟩ = some (.slice (some ⟨b, o, none⟩) os.length co) ∧ w'.cell? ⟨w.heap.size + 1, 1, none⟩ = some (.slice (some ⟨b2, o2, none⟩) os.length co2) ∧ w'.cell? ⟨b, o + i * 2, none⟩ = some (.string ky) ∧ w'.cell? ⟨b, o + i * 2 + 1, none⟩ = some (.int .u64 (hu : Int)) ∧ w'.cell? ⟨b2, o2 + i * 2, none⟩ = some (.string ky) ∧ w'.cell? ⟨b2, o2 + i * 2 + 1, none⟩ = some (.int .u64 (hu : Int))) (first | with_reducible exact S0 | with_reducible assumption) (fail)
      all_goals (
        go_wp2_with fail
        refine ⟨⟨i + 1, by go_num, Hi.out, HK.out.drew⟩, ?_⟩
        simp [intOf]
        exact Hms.out)
    · obtain rfl : i = os.length := by omega
      have hlt' : ¬ (os.length : Int) < (os.length : Int) := by omega
      have HKa := hide K
      obtain ⟨-, -, c2⟩ := three_cells (K.blk8 HB0.out)
      clear K HO HO2
      go_wp2_with fail
      clear c2
      go_loopw [51] (fun v51 wr => ∃ i : Nat, v51 = .int .i64 (i : Int) ∧ i ≤ L.length ∧ Keeps W0 wr (fun _ => False)) (fun v51 _ => L.length - (intOf v51).toNat)
      case atStart => exact ⟨0, rfl, Nat.zero_le _, HKa.out⟩
      case round =>
        obtain ⟨i, rfl, hi, K⟩ := hrel
        by_cases hlt : i < L.length
        · have hlt'' : (i : Int) < (L.length : Int) := by omega
          have h0' : (0 : Int) ≤ (i : Int) := by omega
          have KW := HK0.out.trans K (fun _ _ e => e)
          have hlt2 : i < L2.length := by have := HLen.out; omega
          obtain ⟨b, o, rfl, hq⟩ := (HC.out.keeps KW).at hlt
          have hC2' := HC2.out
          rw [HLen.out] at hC2'
          obtain ⟨b2, o2, hsc2, hr⟩ := (show ∃ b o, sc2 = some ⟨b, o, none⟩ ∧ ∀ j u, L2[i].cells[j]? = Option.some u → wr.cell? ⟨b, o + i * 9 + j, none⟩ = Option.some u from (HC2.out.keeps KW).at hlt2)
          subst hsc2
          have k1 := (HC.out.ok _ (List.getElem_mem hlt)).keeps KW
          have k2 := (HC2.out.ok _ (List.getElem_mem hlt2)).keeps KW
          have ecc := HA.out i hlt hlt2
          obtain ⟨-, -, c2⟩ := three_cells (K.blk8 HB0.out)
          obtain ⟨-, -, d2⟩ := three_cells (K.blk8 HB1.out)
          obtain ⟨x, hx⟩ : ∃ x, L[i] = x := ⟨_, rfl⟩
          obtain ⟨y, hy⟩ : ∃ y, L2[i] = y := ⟨_, rfl⟩
          rw [hx] at hq k1 ecc
          rw [hy] at hr k2 ecc
          obtain ⟨cd, f1, h1⟩ := x
          obtain ⟨ce, f2, h2⟩ := y
          dsimp only at ecc k1 k2
          subst ecc
          obtain ⟨sf1, nf1, cf1, rfl⟩ := k1.f.slice
          obtain ⟨sh1, nh1, ch1, rfl⟩ := k1.s.slice
          obtain ⟨sf2, nf2, cf2, rfl⟩ := k2.f.slice
          obtain ⟨sh2, nh2, ch2, rfl⟩ := k2.s.slice
          obtain ⟨op, hh, u, v, nn, key, elem, fl, hl⟩ := ce
          have hcall := fun W (k : Keeps wr W (fun _ => False)) => alike_true op hh nn u v key elem fl hl _ _ _ _ W (k1.f.keeps k) (k1.s.keeps k) (k2.f.keeps k) (k2.s.keeps k) k1.lf k1.ls
          have q0 := hq 0 _ rfl
          have q1 := hq 1 _ rfl
          have q2 := hq 2 _ rfl
          have q3 := hq 3 _ rfl
          have q4 := hq 4 _ rfl
          have q5 := hq 5 _ rfl
          have q6 := hq 6 _ rfl
          have q7 := hq 7 _ rfl
          have q8 := hq 8 _ rfl
          have r0 := hr 0 _ rfl
          have r1 := hr 1 _ rfl
          have r2 := hr 2 _ rfl
          have r3 := hr 3 _ rfl
          have r4 := hr 4 _ rfl
          have r5 := hr 5 _ rfl
          have r6 := hr 6 _ rfl
          have r7 := hr 7 _ rfl
          have r8 := hr 8 _ rfl
          dsimp only at q0 q1 q2 q3 q4 q5 q6 q7 q8 r0 r1 r2 r3 r4 r5 r6 r7 r8
          rw [Nat.add_zero] at q0 r0
          have Hms : Hid (L.length - (i + 1) < L.length - i) := by show L.length - (i + 1) < L.length - i; omega
          have Hi : Hid (i + 1 ≤ L.length) := hlt
          obtain ⟨a6, a7⟩ := wr64s (n := i) (by have := HF.out.2; omega)
          have HK := hide K
          have HCall := hide hcall
          clear K KW hi hx hy hq hr k1 k2 hlt2 hC2' hcall
          have S0 : (fun w' : World => w'.cell? ⟨w.heap.size, 2, none⟩ = some (.slice (some ⟨b, o, none⟩) L.length cc) ∧ w'.cell? ⟨w.heap.size + 1, 2, none⟩ = some (.slice (some ⟨b2, o2, none⟩) L.length cc2) ∧ w'.cell? ⟨b, o + i * 9, none⟩ = some (.int .i64 op) ∧ w'.cell? ⟨b, o + i * 9 + 1, none⟩ = some (.int .i64 hh) ∧ w'.cell? ⟨b, o + i * 9 + 2, none⟩ = some (.slice sf1 nf1 cf1) ∧ w'.cell? ⟨b, o + i * 9 + 3, none⟩ = some (.slice sh1 nh1 ch1) ∧ w'.cell? ⟨b, o + i * 9 + 4, none⟩ = some (.int .u64 (u : Int)) ∧ w'.cell? ⟨b, o + i * 9 + 5, none⟩ = some (.int .u64 (v : Int)) ∧ w'.cell? ⟨b, o + i * 9 + 6, none⟩ = some (.int .i64 nn) ∧ w'.cell? ⟨b, o + i * 9 + 7, none⟩ = some (.string key) ∧ w'.cell? ⟨b, o + i * 9 + 8, none⟩ = some (.string elem) ∧ w'.cell? ⟨b2, o2 + i * 9, none⟩ = some (.int .i64 op) ∧ w'.cell? ⟨b2, o2 + i * 9 + 1, none⟩ = some (.int .i64 hh) ∧ w'.cell? ⟨b2, o2 + i * 9 + 2, none⟩ = some (.slice sf2 nf2 cf2) ∧ w'.cell? ⟨b2, o2 + i * 9 + 3, none⟩ = some (.slice sh2 nh2 ch2) ∧ w'.cell? ⟨b2, o2 + i * 9 + 4, none⟩ = some (.int .u64 (u : Int)) ∧ w'.cell? ⟨b2, o2 + i * 9 + 5, none⟩ = some (.int .u64 (v : Int)) ∧ w'.cell? ⟨b2, o2 + i * 9 + 6, none⟩ = some (.int .i64 nn) ∧ w'.cell? ⟨b2, o2 + i * 9 + 7, none⟩ = some (.string key) ∧ w'.cell? ⟨b2, o2 + i * 9 + 8, none⟩ = some (.string elem)) wr.drew := ⟨c2, d2, q0, q1, q2, q3, q4, q5, q6, q7, q8, r0, r1, r2, r3, r4, r5, r6, r7, r8⟩
          clear c2 d2 q0 q1 q2 q3 q4 q5 q6 q7 q8 r0 r1 r2 r3 r4 r5 r6 r7 r8
          go_wp2_with fail
          go_region_held3 (fun w' : World => w'.cell? ⟨w.heap.size, 2, none⟩ = some (.slice (some ⟨b, o, none⟩) L.length cc) ∧ w'.cell? ⟨w.heap.size + 1, 2, none⟩ = some (.slice (some ⟨b2, o2, none⟩) L.length cc2) ∧ w'.cell? ⟨b, o + i * 9, none⟩ = some (.int .i64 op) ∧ w'.cell? ⟨b, o + i * 9 + 1, none⟩ = some (.int .i64 hh) ∧ w'.cell? ⟨b, o + i * 9 + 2, none⟩ = some (.slice sf1 nf1 cf1) ∧ w'.cell? ⟨b, o + i * 9 + 3, none⟩ = some (.slice sh1 nh1 ch1) ∧ w'.cell? ⟨b, o + i * 9 + 4, none⟩ = some (.int .u64 (u : Int)) ∧ w'.cell? ⟨b, o + i * 9 + 5, none⟩ = some (.int .u64 (v : Int)) ∧ w'.cell? ⟨b, o + i * 9 + 6, none⟩ = some (.int .i64 nn) ∧ w'.cell? ⟨b, o + i * 9 + 7, none⟩ = some (.string key) ∧ w'.cell? ⟨b, o + i * 9 + 8, none⟩ = some (.string elem) ∧ w'.cell? ⟨b2, o2 + i * 9, none⟩ = some (.int .i64 op) ∧ w'.cell? ⟨b2, o2 + i * 9 + 1, none⟩ = some (.int .i64 hh) ∧ w'.cell? ⟨b2, o2 + i * 9 + 2, none⟩ = some (.slice sf2 nf2 cf2) ∧ w'.cell? ⟨b2, o2 + i * 9 + 3, none⟩ = some (.slice sh2 nh2 ch2) ∧ w'.cell? ⟨b2, o2 + i * 9 + 4, none⟩ = some (.int .u64 (u : Int)) ∧ w'.cell? ⟨b2, o2 + i * 9 + 5, none⟩ = some (.int .u64 (v : Int)) ∧ w'.cell? ⟨b2, o2 + i * 9 + 6, none⟩ = some (.int .i64 nn) ∧ w'.cell? ⟨b2, o2 + i * 9 + 7, none⟩ = some (.string key) ∧ w'.cell? ⟨b2, o2 + i * 9 + 8, none⟩ = some (.string elem)) (first | with_reducible exact S0 | with_reducible exact S1 | with_reducible assumption) (first | (go_at_call 15; (with_reducible refine (HCall.out _ ((Keeps.refl wr (fun _ => False)).drew)).mono ?_); rintro e w3 ⟨rfl, k3⟩; have HK3 := hide (Keeps.trans HK.out.drew k3 (fun _ _ e => e)); have S1 : (fun w' : World => w'.cell? ⟨w.heap.size, 2, none⟩ = some (.slice (some ⟨b, o, none⟩) L.length cc) ∧ w'.cell? ⟨w.heap.size + 1, 2, none⟩ = some (.slice (some ⟨b2, o2, none⟩) L.length cc2) ∧ w'.cell? ⟨b, o + i * 9, none⟩ = some (.int .i64 op) ∧ w'.cell? ⟨b, o + i * 9 + 1, none⟩ = some (.int .i64 hh) ∧ w'.cell? ⟨b, o + i * 9 + 2, none⟩ = some (.slice sf1 nf1 cf1) ∧ w'.cell? ⟨b, o + i * 9 + 3, none⟩ = some (.slice sh1 nh1 ch1) ∧ w'.cell? ⟨b, o + i * 9 + 4, none⟩ = some (.int .u64 (u : Int)) ∧ w'.cell? ⟨b, o + i * 9 + 5, none⟩ = some (.int .u64 (v : Int)) ∧ w'.cell? ⟨b, o + i * 9 + 6, none⟩ = some (.int .i64 nn) ∧ w'.cell? ⟨b, o + i * 9 + 7, none⟩ = some (.string key) ∧ w'.cell? ⟨b, o + i * 9 + 8, none⟩ = some (.string elem) ∧ w'.cell? ⟨b2, o2 + i * 9, none⟩ = some (.int .i64 op) ∧ w'.cell? ⟨b2, o2 + i * 9 + 1, none⟩ = some (.int .i64 hh) ∧ w'.cell? ⟨b2, o2 + i * 9 + 2, none⟩ = some (.slice sf2 nf2 cf2) ∧ w'.cell? ⟨b2, o2 + i * 9 + 3, none⟩ = some (.slice sh2 nh2 ch2) ∧ w'.cell? ⟨b2, o2 + i * 9 + 4, none⟩ = some (.int .u64 (u : Int)) ∧ w'.cell? ⟨b2, o2 + i * 9 + 5, none⟩ = some (.int .u64 (v : Int)) ∧ w'.cell? ⟨b2, o2 + i * 9 + 6, none⟩ = some (.int .i64 nn) ∧ w'.cell? ⟨b2, o2 + i * 9 + 7, none⟩ = some (.string key) ∧ w'.cell? ⟨b2, o2 + i * 9 + 8, none⟩ = some (.string elem)) w3 := ⟨keeps_cell k3 S0.1, keeps_cell k3 S0.2.1, keeps_cell k3 S0.2.2.1, keeps_cell k3 S0.2.2.2.1, keeps_cell k3 S0.2.2.2.2.1, keeps_cell k3 S0.2.2.2.2.2.1, keeps_cell k3 S0.2.2.2.2.2.2.1, keeps_cell k3 S0.2.2.2.2.2.2.2.1, keeps_cell k3 S0.2.2.2.2.2.2.2.2.1, keeps_cell k3 S0.2.2.2.2.2.2.2.2.2.1, keeps_cell k3 S0.2.2.2.2.2.2.2.2.2.2.1, keeps_cell k3 S0.2.2.2.2.2.2.2.2.2.2.2.1, keeps_cell k3 S0.2.2.2.2.2.2.2.2.2.2.2.2.1, keeps_cell k3 S0.2.2.2.2.2.2.2.2.2.2.2.2.2.1, keeps_cell k3 S0.2.2.2.2.2.2.2.2.2.2.2.2.2.2.1, keeps_cell k3 S0.2.2.2.2.2.2.2.2.2.2.2.2.2.2.2.1, keeps_cell k3 S0.2.2.2.2.2.2.2.2.2.2.2.2.2.2.2.2.1, keeps_cell k3 S0.2.2.2.2.2.2.2.2.2.2.2.2.2.2.2.2.2.1, keeps_cell k3 S0.2.2.2.2.2.2.2.2.2.2.2.2.2.2.2.2.2.2.1, keeps_cell k3 S0.2.2.2.2.2.2.2.2.2.2.2.2.2.2.2.2.2.2.2⟩))
          all_goals (
            clear S0 S1
            go_wp2_with fail
            refine ⟨⟨i + 1, by go_num, Hi.out, HK3.out⟩, ?_⟩
            simp [intOf]
            exact Hms.out)
        · obtain rfl : i = L.length := by omega
          have hlt'' : ¬ (L.length : Int) < (L.length : Int) := by omega
          have HK := hide (HK0.out.trans K (fun _ _ e => e))
          clear K
          go_wp2_with fail
          go_ret
          exact ⟨rfl, HK.out⟩
end Go.Proofs.YtpkbjjbbdhehdaaDoor
