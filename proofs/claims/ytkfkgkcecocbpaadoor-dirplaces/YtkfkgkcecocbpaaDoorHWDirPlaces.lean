/-
  DirPlaces's walk where the run is there.
-/
import Derived.Test.YtkfkgkcecocbpaaDoorHWDirPlaces0
namespace Go.Proofs.YtkfkgkcecocbpaaDoor
open Go.RowKit Go.Shelf
set_option linter.unusedVariables false
namespace dirPlaces

set_option maxRecDepth 100000 in
set_option maxHeartbeats 4000000 in
theorem walk_good (I E : Nat) (t k : Int) (v : Value) (zs : List Int) (w : World) (hT : TabAt w) (hz : InZ w v zs) (hl : zs.length ≤ 17592186044000) (hfit : ∀ j (h : j < zs.length), fitsI zs[j]) (ht : fitsI t) (hd : ¬ depI zs.length < 0) (hI : I < zs.length) (hE : (E : Int) ≤ depI zs.length) :
    Calls Tryd.prog 5 #[v, .int .i64 (I : Int), .int .i64 (E : Int), .int .i64 t, .int .i64 k] w fun e w' => Post w e w' := by
  have hM := made_yes v zs w hT hz hl hfit hd
  obtain ⟨so, cap, rfl, -⟩ := hz.form
  have HZ := hide hz
  have HE := hide hE
  have Ht := hide ht
  clear hz hT hfit hd hE ht
  go_enter Tryd.func5, Tryd.ntmps5
  go_wp2_with fail
  (with_reducible refine hM.mono ?_)
  rintro r w2 ⟨p, off, D, d, rfl, hMd⟩
  clear hM
  have hD6 := hMd.dir.dep
  have hlen := hMd.dir.len
  have hED : E ≤ D := by have := hMd.dep; have := HE.out; omega
  have hR := fun W => drun_yes p off D E I W hD6 (by omega) hED
  have K4 : Keeps w2 (w2.alloc (.cells #[.pointer (some ⟨p, 0, none⟩), .int .i64 (off : Int), .int .i64 (D : Int)] 28)) (fun _ => False) := (Keeps.refl _ _).alloc _
  have B4 : DirB (w2.alloc (.cells #[.pointer (some ⟨p, 0, none⟩), .int .i64 (off : Int), .int .i64 (D : Int)] 28)) w2.heap.size p off D := heap_alloc_new _ _
  have hP := fun W (kk : Keeps w2 W (fun _ => False)) => dplace_yes (hMd.dir.grow kk) (fun j hj => hj.elim (fun e => e.elim) (fun e => e.2)) I E (by omega) hED t Ht.out
  obtain ⟨⟨c0, c1, c2⟩, -⟩ := three_cells B4
  have Hlen := hide hlen
  have hDe := fun W => dDepth_any p off D W
  have hNb : 2 ^ (D - E) ≤ 64 := pow_le6 (by omega)
  have hN1 := pow_pos' (D - E)
  have hrl := runF_le D E I
  have hri := run_in (D := D) (e := E) (i := I) (by omega) hED
  have hsh : Hid (∀ m, (m / 2 ^ (D - E) = I / 2 ^ (D - E)) ↔ (runF D E I ≤ m ∧ m < runF D E I + 2 ^ (D - E))) := fun m => shares_iff hN1
  have e1 : Hid (∀ m : Nat, (m : Int) / (2 : Int) ^ (D - E) = ((m / 2 ^ (D - E) : Nat) : Int)) := fun m => by rw [Int.natCast_ediv, Int.natCast_pow]; rfl
  have s1 : (D : Int) - (E : Int) = ((D - E : Nat) : Int) := by omega
  have pw : wrap64 ((2 : Int) ^ (D - E)) = ((2 ^ (D - E) : Nat) : Int) := by
    have e1 : ((2 : Int) ^ (D - E)) = ((2 ^ (D - E) : Nat) : Int) := by simp
    rw [e1]
    generalize 2 ^ (D - E) = q at *
    unfold wrap64
    omega
  have hle64 : zs.length ≤ 64 := by rw [hlen]; exact pow_le6 hD6
  rw [← hlen] at hri
  generalize 2 ^ (D - E) = n at *
  generalize runF D E I = f at *
  have Hpw := hide pw
  clear pw
  clear hMd hlen HE
  go_wp2_with fail
  (with_reducible refine (hR _).mono ?_)
  rintro r w5 ⟨rfl, k5⟩
  have B5 := k5.blk B4
  have hP5 := hP _ (K4.trans k5 (fun _ _ e => e))
  have hlt5 : w2.heap.size < w5.heap.size := heap_lt B5
  clear hR hP c0 c1 c2 k5 B4 K4
  obtain ⟨⟨c0, c1, c2⟩, -⟩ := three_cells B5
  go_wp2_with fail
  (with_reducible refine hP5.mono ?_)
  rintro r w6 ⟨rfl, d6, hD6', hWr, k6⟩
  have B6 := k6.blkF B5 (fun q => q.1.2 (Or.inr ⟨Nat.le_refl _, hlt5⟩))
  have HD6 := hide (hD6'.less (Y := fun _ => False) (fun _ e => e.elim))
  clear hP5 c0 c1 c2 k6 B5 hD6' hWr
  obtain ⟨⟨c0, c1, c2⟩, -⟩ := three_cells B6
  have hEn := dentry_any HD6.out k
  by_cases hk0 : k < 0
  · rw [ent_out (Or.inl hk0)] at hEn
    go_wp2_with fail
    (with_reducible refine hEn.mono ?_)
    rintro r w7 ⟨rfl, k7⟩
    have hbl := hide (Own.below (HD6.out.own.stay k7) (Keeps.refl w (fun _ => False)))
    clear hEn c0 c1 c2 k7 HD6
    go_wp2_with fail
    go_ret
    exact ⟨rfl, hbl.out⟩
  · by_cases hk1 : (zs.length : Int) ≤ k
    · rw [ent_out (Or.inr (by rw [putR_length]; exact hk1))] at hEn
      go_wp2_with fail
      (with_reducible refine hEn.mono ?_)
      rintro r w7 ⟨rfl, k7⟩
      have hbl := hide (Own.below (HD6.out.own.stay k7) (Keeps.refl w (fun _ => False)))
      clear hEn c0 c1 c2 k7 HD6
      go_wp2_with fail
      go_ret
      exact ⟨rfl, hbl.out⟩
    · obtain ⟨m, rfl⟩ := Int.eq_ofNat_of_zero_le (show 0 ≤ k by omega)
      have hm : m < zs.length := by omega
      have hm' : (m : Int) < (zs.length : Int) := by omega
      have hI' : (I : Int) < (zs.length : Int) := by omega
      have hmp : m < (putR zs f n t).length := by rw [putR_length]; exact hm
      rw [ent_in hmp, putR_get hmp] at hEn
      obtain ⟨b, o, rfl, hcell⟩ := cells_of HZ.out m hm
      have hs2 := hsh.out m
      have e2 := e1.out m
      have e3 := e1.out I
      have hDle : ¬ (D : Int) < (E : Int) := by omega
      have hpw := Hpw.out
      generalize zs[m] = z at *
      have mb : m / n ≤ m := Nat.div_le_self _ _
      have ib : I / n ≤ I := Nat.div_le_self _ _
      clear hsh e1 Hpw
      generalize m / n = mq at *
      generalize I / n = iq at *
      have hS6 : D - E ≤ 6 := by omega
      generalize D - E = S at *
      have hwS : wrap64 ((D : Int) - (E : Int)) = (S : Int) := by
        rw [s1]
        clear hpw e2 e3
        unfold wrap64
        omega
      have hwS2 : IntKind.i64.wrap (S : Int) = (S : Int) := by
        clear hpw e2 e3
        rw [IntKind.wrap_i64]
        omega
      have He := hide (And.intro e2 e3)
      clear e2 e3
      have hfn : wrap64 ((f : Int) + (n : Int)) = (f : Int) + (n : Int) := by
        clear hpw He
        unfold wrap64
        omega
      by_cases hin : f ≤ m ∧ m < f + n
      · rw [if_pos hin] at hEn
        have hmi : mq = iq := hs2.2 hin
        subst hmi
        clear hs2
        have hf1 : (f : Int) ≤ (m : Int) := by exact_mod_cast hin.1
        have hf2 : (m : Int) < (f : Int) + (n : Int) := by exact_mod_cast hin.2
        clear hin
        go_wp2_with fail
        (with_reducible refine hEn.mono ?_)
        rintro r w7 ⟨rfl, k7⟩
        have HO7 := hide (HD6.out.own.stay k7)
        have B7 := k7.blk B6
        clear hEn c0 c1 c2 k7 HD6 B6
        obtain ⟨⟨c0, c1, c2⟩, -⟩ := three_cells B7
        go_wp2_with fail
        (with_reducible refine (hDe _).mono ?_)
        rintro r w8 ⟨rfl, k8⟩
        have HO8 := hide (HO7.out.stay k8)
        have B8 := k8.blk B7
        clear c0 c1 c2 k8 HO7 B7
        have C8 : C3 w8 w2.heap.size p off D := c3_of B8
        go_wp2_with fail
        go_region_held3 (fun w' => w'.cell? ⟨w2.heap.size, 0, none⟩ = some (.pointer (some ⟨p, 0, none⟩)) ∧ w'.cell? ⟨w2.heap.size, 1, none⟩ = some (.int .i64 (off : Int)) ∧ w'.cell? ⟨w2.heap.size, 2, none⟩ = some (.int .i64 (D : Int))) (first | with_reducible assumption | exact c3_drew C8 | exact c3_keeps kX id (by assumption)) (first | (go_at_call 14; have kP := kX; (with_reducible refine (hDe _).mono ?_); rintro r wY ⟨rfl, kY⟩; have C9 : C3 wY w2.heap.size p off D := c3_keeps kY id (by assumption)) | (go_at_call 14; (with_reducible refine (hDe _).mono ?_); rintro r wX ⟨rfl, kX⟩))
        rw [He.out.1, He.out.2]
        have kall : Keeps w8 wY (fun _ => False) := ((Keeps.refl w8 (fun _ => False)).drew.trans kX (fun _ _ e => e)).trans kY (fun _ _ e => e)
        have HO9 := hide (HO8.out.stay kall)
        have B9 := kall.blk B8
        clear HO8 B8 C8 kX kY kP kall
        obtain ⟨⟨c0, c1, c2⟩, -⟩ := three_cells B9
        clear hI hl hle64 hrl hri mb ib hm hI' hNb hN1 hED hD6 He Ht HZ C9
        rw [show ((mq : Int) == (mq : Int)) = true from beq_self_eq_true _]
        go_wp2_with fail
        (with_reducible refine (hDe _).mono ?_)
        rintro r w10 ⟨rfl, k10⟩
        have hO10 := HO9.out.stay k10
        have hc2 := hO10.keeps.cellK hcell
        have hbl := hide (Own.below hO10 (Keeps.refl w (fun _ => False)))
        clear c0 c1 c2 k10 HO9 hDe hcell hO10
        go_wp2_with fail
        go_ret
        exact ⟨by simp, hbl.out⟩
      · rw [if_neg hin] at hEn
        have hbq : Hid (((mq : Int) == (iq : Int)) = false) := by
          have hne : ¬ mq = iq := fun e => hin (hs2.1 e)
          show _ = _
          rw [beq_eq_false_iff_ne]
          intro e
          exact hne (Int.ofNat.inj e)
        by_cases hf1 : (m : Int) < (f : Int)
        · clear hs2 hin
          go_wp2_with fail
          (with_reducible refine hEn.mono ?_)
          rintro r w7 ⟨rfl, k7⟩
          have HO7 := hide (HD6.out.own.stay k7)
          have B7 := k7.blk B6
          clear hEn c0 c1 c2 k7 HD6 B6
          obtain ⟨⟨c0, c1, c2⟩, -⟩ := three_cells B7
          go_wp2_with fail
          (with_reducible refine (hDe _).mono ?_)
          rintro r w8 ⟨rfl, k8⟩
          have HO8 := hide (HO7.out.stay k8)
          have B8 := k8.blk B7
          clear c0 c1 c2 k8 HO7 B7
          have C8 : C3 w8 w2.heap.size p off D := c3_of B8
          go_wp2_with fail
          go_region_held3 (fun w' => w'.cell? ⟨w2.heap.size, 0, none⟩ = some (.pointer (some ⟨p, 0, none⟩)) ∧ w'.cell? ⟨w2.heap.size, 1, none⟩ = some (.int .i64 (off : Int)) ∧ w'.cell? ⟨w2.heap.size, 2, none⟩ = some (.int .i64 (D : Int))) (first | with_reducible assumption | exact c3_drew C8 | exact c3_keeps kX id (by assumption)) (first | (go_at_call 14; have kP := kX; (with_reducible refine (hDe _).mono ?_); rintro r wY ⟨rfl, kY⟩; have C9 : C3 wY w2.heap.size p off D := c3_keeps kY id (by assumption)) | (go_at_call 14; (with_reducible refine (hDe _).mono ?_); rintro r wX ⟨rfl, kX⟩))
          rw [He.out.1, He.out.2]
          have kall : Keeps w8 wY (fun _ => False) := ((Keeps.refl w8 (fun _ => False)).drew.trans kX (fun _ _ e => e)).trans kY (fun _ _ e => e)
          have HO9 := hide (HO8.out.stay kall)
          have B9 := kall.blk B8
          clear HO8 B8 C8 kX kY kP kall
          obtain ⟨⟨c0, c1, c2⟩, -⟩ := three_cells B9
          clear hI hl hle64 hrl hri mb ib hm hI' hNb hN1 hED hD6 He Ht HZ C9
          rw [hbq.out]
          go_wp2_with fail
          (with_reducible refine (hDe _).mono ?_)
          rintro r w10 ⟨rfl, k10⟩
          have hO10 := HO9.out.stay k10
          have hc2 := hO10.keeps.cellK hcell
          have hbl := hide (Own.below hO10 (Keeps.refl w (fun _ => False)))
          clear c0 c1 c2 k10 HO9 hDe hcell hO10
          go_wp2_with fail
          go_ret
          exact ⟨by simp, hbl.out⟩
        · have hf2 : (f : Int) + (n : Int) ≤ (m : Int) := by
            have q : ¬ m < f + n := fun q => hin ⟨by exact_mod_cast (Int.not_lt.1 hf1), q⟩
            exact_mod_cast (Nat.not_lt.1 q)
          clear hs2 hin
          go_wp2_with fail
          (with_reducible refine hEn.mono ?_)
          rintro r w7 ⟨rfl, k7⟩
          have HO7 := hide (HD6.out.own.stay k7)
          have B7 := k7.blk B6
          clear hEn c0 c1 c2 k7 HD6 B6
          obtain ⟨⟨c0, c1, c2⟩, -⟩ := three_cells B7
          go_wp2_with fail
          (with_reducible refine (hDe _).mono ?_)
          rintro r w8 ⟨rfl, k8⟩
          have HO8 := hide (HO7.out.stay k8)
          have B8 := k8.blk B7
          clear c0 c1 c2 k8 HO7 B7
          have C8 : C3 w8 w2.heap.size p off D := c3_of B8
          go_wp2_with fail
          go_region_held3 (fun w' => w'.cell? ⟨w2.heap.size, 0, none⟩ = some (.pointer (some ⟨p, 0, none⟩)) ∧ w'.cell? ⟨w2.heap.size, 1, none⟩ = some (.int .i64 (off : Int)) ∧ w'.cell? ⟨w2.heap.size, 2, none⟩ = some (.int .i64 (D : Int))) (first | with_reducible assumption | exact c3_drew C8 | exact c3_keeps kX id (by assumption)) (first | (go_at_call 14; have kP := kX; (with_reducible refine (hDe _).mono ?_); rintro r wY ⟨rfl, kY⟩; have C9 : C3 wY w2.heap.size p off D := c3_keeps kY id (by assumption)) | (go_at_call 14; (with_reducible refine (hDe _).mono ?_); rintro r wX ⟨rfl, kX⟩))
          rw [He.out.1, He.out.2]
          have kall : Keeps w8 wY (fun _ => False) := ((Keeps.refl w8 (fun _ => False)).drew.trans kX (fun _ _ e => e)).trans kY (fun _ _ e => e)
          have HO9 := hide (HO8.out.stay kall)
          have B9 := kall.blk B8
          clear HO8 B8 C8 kX kY kP kall
          obtain ⟨⟨c0, c1, c2⟩, -⟩ := three_cells B9
          clear hI hl hle64 hrl hri mb ib hm hI' hNb hN1 hED hD6 He Ht HZ C9
          rw [hbq.out]
          go_wp2_with fail
          (with_reducible refine (hDe _).mono ?_)
          rintro r w10 ⟨rfl, k10⟩
          have hO10 := HO9.out.stay k10
          have hc2 := hO10.keeps.cellK hcell
          have hbl := hide (Own.below hO10 (Keeps.refl w (fun _ => False)))
          clear c0 c1 c2 k10 HO9 hDe hcell hO10
          go_wp2_with fail
          all_goals first | (exfalso; clear hpw; omega) | (go_ret; exact ⟨by simp, hbl.out⟩)

theorem walk (i e t k : Int) (v : Value) (zs : List Int) (w : World) (hT : TabAt w) (hz : InZ w v zs) (hl : zs.length ≤ 17592186044000) (hfit : ∀ j (h : j < zs.length), fitsI zs[j]) (ht : fitsI t) :
    Calls Tryd.prog 5 #[v, .int .i64 i, .int .i64 e, .int .i64 t, .int .i64 k] w fun e w' => Post w e w' := by
  by_cases hd : depI zs.length < 0
  · exact walk_no i e t k v zs w hz hl hd
  · by_cases hb : i < 0 ∨ (¬ i < 0 ∧ (zs.length : Int) ≤ i) ∨ ((¬ i < 0 ∧ i < (zs.length : Int)) ∧ e < 0) ∨ ((¬ i < 0 ∧ i < (zs.length : Int)) ∧ ¬ e < 0 ∧ depI zs.length < e)
    · exact walk_bad i e t k v zs w hT hz hl hfit hd hb
    · obtain ⟨I, rfl⟩ := Int.eq_ofNat_of_zero_le (show 0 ≤ i by omega)
      obtain ⟨E, rfl⟩ := Int.eq_ofNat_of_zero_le (show 0 ≤ e by omega)
      exact walk_good I E t k v zs w hT hz hl hfit ht hd (by omega) (by omega)
end dirPlaces
end Go.Proofs.YtkfkgkcecocbpaaDoor
