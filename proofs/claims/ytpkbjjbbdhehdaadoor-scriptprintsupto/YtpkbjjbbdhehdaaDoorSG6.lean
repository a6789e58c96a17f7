/-
  script: the reference's Print.
-/
import Derived.Test.YtpkbjjbbdhehdaaDoorSG5
import Derived.Deep.RegionHeldLaw
namespace Go.Proofs.YtpkbjjbbdhehdaaDoor
open Go.RowKit
set_option linter.unusedVariables false

/-- What stands in each round of the reference's Print. -/
structure RfS (w : World) (vo vc : Value) (n : Int) (l : List UInt8) (v : Value) (W : World) : Prop where
  box : W.heap[w.heap.size]? = some (.cells #[.int .i64 n, vo, vc] 25)
  row : BRow (w.heap.size + 1) W v l
  keeps : Keeps w W (fun _ => False)
theorem RfS.stay {w W W' : World} {vo vc v : Value} {n : Int} {l : List UInt8} (h : RfS w vo vc n l v W) (k : Keeps W W' (fun _ => False)) : RfS w vo vc n l v W' := ⟨k.blk8 h.box, h.row.keeps k, h.keeps.trans k (fun _ _ e => e)⟩
/-- One text more: its bytes as a new list, appended. -/
theorem RfS.more {w W : World} {vo vc v : Value} {n : Int} {l : List UInt8} (h : RfS w vo vc n l v W) (s : List UInt8) (hl : l.length + s.length ≤ 1099511627776) :
    ∃ W1 c, (convert 9 39 (.string (strOf s))).run Tryd.prog W = .ok (.slice (some ⟨W.heap.size, 0, none⟩) s.length c) W1 ∧ Keeps W W1 (fun _ => False) ∧
    ∃ v' W2, (∀ ty, (Builtin.append_ #[39, 39] ty #[v, .slice (some ⟨W.heap.size, 0, none⟩) s.length c]).run Tryd.prog W1 = .ok v' W2) ∧ RfS w vo vc n (l ++ s) v' W2 := by
  obtain ⟨W1, c, fz, h1, k1, h3, h4, h5, h6⟩ := bytes_of_room (P := Tryd.prog) W 9 39 5 (strOf s) Tryd.underlying9 Tryd.underlying39 Tryd.underlying5
  have es : (strOf s).size = s.length := strOf_size s
  rw [es] at h1 h4 h6
  rw [strOf_data] at h6
  have hb1 := BRow.made (lo := 0) (Nat.zero_le _) h6 h4 h5
  obtain ⟨g, c', e, -, -, hcells, -⟩ := hb1
  injection e with e1 e2 e3
  injection e1 with e1
  injection e1 with e1
  subst e1
  have hz := heap_lt h.box
  have hz1 := k1.size
  obtain ⟨v', W2, h7, h8, h9⟩ := ((h.stay k1).row).more (by omega) (p := W.heap.size) (c2 := c) hcells hl
  refine ⟨W1, c, h1, k1, v', W2, h7, ⟨(h9.block _ (by omega) (fun e => by omega)).trans (k1.blk8 h.box), h8, (h.stay k1).keeps.trans h9 (fun i hi e => by omega)⟩⟩
theorem lim_text (n : Int) : (⟨#[108, 105, 109, 105, 116, 32]⟩ : ByteArray) ++ numD n ++ ⟨#[10]⟩ = strOf (limT n) := by
  apply bext
  rw [strOf_data]
  have e : limT n = (nmN 0).data.toList ++ tailD [numD n] ++ [10] := rfl
  rw [e]
  simp [tailD, nmN, nmL]
theorem ov_text (o : Ovr) : (⟨#[104, 97, 115, 104, 32]⟩ : ByteArray) ++ bytesD o.1 ++ ⟨#[32]⟩ ++ wordD o.2 ++ ⟨#[10]⟩ = strOf (ovT o) := by
  apply bext
  rw [strOf_data]
  have e : ovT o = (nmN 1).data.toList ++ tailD [bytesD o.1, wordD o.2] ++ [10] := rfl
  rw [e]
  simp [tailD, nmN, nmL]
theorem cmd_text (c : CmdD) : cmdT c = if lnD c = [] then [] else lnD c ++ [10] := by
  unfold cmdT lnD
  by_cases h : 1 ≤ c.op ∧ c.op ≤ 14
  · rw [if_pos h, if_pos h, if_neg]
    unfold lineW
    have : ∀ k : Fin 16, (nmN k.1).data.toList ≠ [] := by decide +kernel
    intro e
    exact this ⟨c.op.toNat + 1, by omega⟩ (List.append_eq_nil_iff.1 e).1
  · rw [if_neg h, if_neg h, if_pos rfl]
set_option maxRecDepth 100000 in
set_option maxHeartbeats 4000000 in
theorem rprint_any (n : Int) (vo vc : Value) (os : List Ovr) (L : List CmV) (w : World) (hn : -9223372036854775808 ≤ n ∧ n ≤ 9223372036854775807) (ho : OvIn w vo os) (hc : CmIn w vc L) (hcost : costO os + costs (L.map (·.c)) ≤ 4194304) :
    Calls Tryd.prog 6 #[.agg #[.int .i64 n, vo, vc]] w fun e w' => e = .returned (.string (strOf (textD n os (L.map (·.c))))) ∧ Keeps w w' (fun _ => False) := by
  have HDec := hide (fun W => dec_any n hn.1 hn.2 W)
  have HBy := hide (fun i (hi : i < os.length) W => rbytes_any os[i].1 (ho.ok _ (List.getElem_mem hi)).1 W)
  have HWo := hide (fun i (hi : i < os.length) W => rword_any os[i].2 (ho.ok _ (List.getElem_mem hi)).2 W)
  have HBs := hide (fun i (hi : i < os.length) => And.intro (byte_sz (ho.ok _ (List.getElem_mem hi)).1) (word_sz (ho.ok _ (List.getElem_mem hi)).2))
  have HCm := hide (fun W (k : Keeps w W (fun _ => False)) i (hi : i < L.length) => ln_eq ((hc.ok _ (List.getElem_mem hi)).keeps k))
  have l1 := limT_len hn
  have l2 := ovs_len ho.ok
  have l3 := cms_len hc.ok
  have HL := hide (And.intro l1 (And.intro l2 (And.intro l3 hcost)))
  have hnz := num_size n hn.1 hn.2
  obtain ⟨so, co, rfl⟩ := ho.row.form
  obtain ⟨sc, cc, rfl⟩ := hc.row.form
  have HO := hide ho
  have HC := hide hc
  obtain ⟨T, hT⟩ : ∃ T, strOf (textD n os (L.map (·.c))) = T := ⟨_, rfl⟩
  rw [hT]
  have HTT := hide hT
  have hlim := lim_text n
  clear ho hc l1 l2 l3 hcost hn hT
  generalize numD n = ND at *
  go_enter Tryd.func6, Tryd.ntmps6
  go_upto_region 1 with fail
  refine alloc1 (P := fun W => Code.wp _ _ _ _ W) fun W0 hb0 hz0 k0 => ?_
  obtain ⟨c0, c1, c2⟩ := three_cells hb0
  have HB0 := hide hb0
  have HK0 := hide k0
  have Hz0 := hide hz0
  clear hb0 k0 hz0
  go_wp2_with fail
  (with_reducible refine (HDec.out _).mono ?_)
  rintro e w1 ⟨rfl, k1⟩
  clear HDec c0 c1 c2
  obtain ⟨W2, cc2, fz2, hconv, k2, hs2, hle2, hfz2, hrow2⟩ := bytes_of_room (P := Tryd.prog) w1 9 39 5 (strOf (limT n)) Tryd.underlying9 Tryd.underlying39 Tryd.underlying5
  have es : (strOf (limT n)).size = (limT n).length := strOf_size _
  have HR2 : Hid (RfS w (.slice so os.length co) (.slice sc L.length cc) n (limT n) (.slice (some ⟨w1.heap.size, 0, none⟩) (limT n).length cc2) W2) := by
    rw [strOf_data, es] at hrow2
    rw [es] at hle2
    have a1 := k1.size
    have a2 := Hz0.out
    exact ⟨k2.blk8 (k1.blk8 HB0.out), BRow.made (by omega) hrow2 hle2 hfz2, (HK0.out.trans k1 (fun _ _ e => e)).trans k2 (fun _ _ e => e)⟩
  rw [es] at hconv
  clear es hrow2 hle2 hfz2 hs2 k2 k1 HB0 HK0 Hz0
  go_wp2_with fail
  clear hconv hlim hnz
  go_loopw [3, 4] (fun v3 v4 wr => ∃ i : Nat, v4 = .int .i64 (i : Int) ∧ i ≤ os.length ∧ RfS w (.slice so os.length co) (.slice sc L.length cc) n (limT n ++ (os.take i).flatMap ovT) v3 wr) (fun _ v4 _ => os.length - (intOf v4).toNat)
  case atStart => exact ⟨0, rfl, Nat.zero_le _, by simpa using HR2.out⟩
  case round =>
    obtain ⟨i, rfl, hi, hp⟩ := hrel
    by_cases hlt : i < os.length
    · have hlt' : (i : Int) < (os.length : Int) := by omega
      obtain ⟨b, o, rfl, q1w, q2w⟩ := HO.out.at hlt
      have q1 := keeps_cell hp.keeps q1w
      have q2 := keeps_cell hp.keeps q2w
      have HQ := hide (And.intro q1w q2w)
      clear q1w q2w
      obtain ⟨c0, c1, c2⟩ := three_cells hp.box
      have HN1 := hide (fun W => HBy.out i hlt W)
      have HN2 := hide (fun W => HWo.out i hlt W)
      have hsz := HBs.out i hlt
      have HT := hide (flat_take (f := ovT) hlt)
      have HLe := hide (flat_le ovT os (i + 1))
      have htext := ov_text os[i]
      obtain ⟨x, hx⟩ : ∃ x, os[i] = x := ⟨_, rfl⟩
      rw [hx] at q1 q2 HN1 HN2 HT hsz htext HQ
      obtain ⟨ky, hu⟩ := x
      dsimp only at q1 q2 hsz htext
      have HN1' : Hid (∀ W, Calls Tryd.prog 12 #[.string ky] W fun e w' => e = .returned (.string (bytesD ky)) ∧ Keeps W w' (fun _ => False)) := HN1
      have HN2' : Hid (∀ W, Calls Tryd.prog 13 #[.int .u64 (hu : Int)] W fun e w' => e = .returned (.string (wordD hu)) ∧ Keeps W w' (fun _ => False)) := HN2
      clear HN1 HN2
      generalize bytesD ky = KD at *
      generalize wordD hu = UD at *
      obtain ⟨z1, z2⟩ := hsz
      have HP := hide hp
      have Hms : Hid (os.length - (i + 1) < os.length - i) := by show os.length - (i + 1) < os.length - i; omega
      have Hi : Hid (i + 1 ≤ os.length) := hlt
      have hfew : os.length ≤ 4194304 := by
        have := HL.out.2.2.2
        have := ovs_few os
        omega
      have HAp : Hid (∀ W, Keeps wr W (fun _ => False) → ∃ W1 c, (convert 9 39 (.string (strOf (ovT (ky, hu))))).run Tryd.prog W = .ok (.slice (some ⟨W.heap.size, 0, none⟩) (ovT (ky, hu)).length c) W1 ∧ Keeps W W1 (fun _ => False) ∧
          ∃ v' W2, (∀ ty, (Builtin.append_ #[39, 39] ty #[u3, .slice (some ⟨W.heap.size, 0, none⟩) (ovT (ky, hu)).length c]).run Tryd.prog W1 = .ok v' W2) ∧ RfS w (.slice (some ⟨b, o, none⟩) os.length co) (.slice sc L.length cc) n (limT n ++ (os.take (i + 1)).flatMap ovT) v' W2) := fun W k => by
        have := (HP.out.stay k).more (ovT (ky, hu)) (by
          have a := HLe.out
          rw [HT.out] at a
          obtain ⟨b1, b2, b3, b4⟩ := HL.out
          rw [List.length_append] at a ⊢
          omega)
        rw [List.append_assoc, ← HT.out] at this
        exact this
      obtain ⟨a6, a7⟩ := wr64s (n := i) (by omega)
      clear hp hfew hi HT HLe hx
      generalize ovT (ky, hu) = OT at *
      have l0 : ¬ 9223372036854775807 < 5 + KD.size := by omega
      have m0 : 5 + KD.size ≤ 9223372036854775807 := by omega
      have l1 : ¬ 9223372036854775807 < 5 + KD.size + 1 := by omega
      have m1 : 5 + KD.size + 1 ≤ 9223372036854775807 := by omega
      have l2 : ¬ 9223372036854775807 < 5 + KD.size + 1 + UD.size := by omega
      have m2 : 5 + KD.size + 1 + UD.size ≤ 9223372036854775807 := by omega
      have l3 : ¬ 9223372036854775807 < 5 + KD.size + 1 + UD.size + 1 := by omega
      have m3 : 5 + KD.size + 1 + UD.size + 1 ≤ 9223372036854775807 := by omega
      have S0 : (fun w' : World => w'.cell? ⟨w.heap.size, 1, none⟩ = some (.slice (some ⟨b, o, none⟩) os.length co) ∧ w'.cell? ⟨b, o + i * 2, none⟩ = some (.string ky) ∧ w'.cell? ⟨b, o + i * 2 + 1, none⟩ = some (.int .u64 (hu : Int))) wr.drew := ⟨c1, q1, q2⟩
      go_wp2_with fail
      go_region_held_law (fun w' : World => w'.cell? ⟨w.heap.size, 1, none⟩ = some (.slice (some ⟨b, o, none⟩) os.length co) ∧ w'.cell? ⟨b, o + i * 2, none⟩ = some (.string ky) ∧ w'.cell? ⟨b, o + i * 2 + 1, none⟩ = some (.int .u64 (hu : Int))) (first | with_reducible exact S0 | with_reducible exact S1 | with_reducible exact S2 | with_reducible exact S3 | with_reducible exact S4 | with_reducible assumption)
        (first | (go_at_call 12; (with_reducible refine (HN1'.out _).mono ?_); rintro e w3 ⟨rfl, k3⟩; have HK3 := hide (Keeps.trans ((Keeps.refl wr (fun _ => False)).drew) k3 (fun _ _ e => e)); have S1 : (fun w' : World => w'.cell? ⟨w.heap.size, 1, none⟩ = some (.slice (some ⟨b, o, none⟩) os.length co) ∧ w'.cell? ⟨b, o + i * 2, none⟩ = some (.string ky) ∧ w'.cell? ⟨b, o + i * 2 + 1, none⟩ = some (.int .u64 (hu : Int))) w3 := ⟨keeps_cell k3 S0.1, keeps_cell k3 S0.2.1, keeps_cell k3 S0.2.2⟩) | (go_at_call 13; (with_reducible refine (HN2'.out _).mono ?_); rintro e w4 ⟨rfl, k4⟩; obtain ⟨W5, c5, hconv, k5, v6, W6, hap, hR6⟩ := HAp.out w4 (Keeps.trans HK3.out k4 (fun _ _ e => e)); have HR6 := hide hR6; have S2 : (fun w' : World => w'.cell? ⟨w.heap.size, 1, none⟩ = some (.slice (some ⟨b, o, none⟩) os.length co) ∧ w'.cell? ⟨b, o + i * 2, none⟩ = some (.string ky) ∧ w'.cell? ⟨b, o + i * 2 + 1, none⟩ = some (.int .u64 (hu : Int))) w4 := ⟨keeps_cell k4 S1.1, keeps_cell k4 S1.2.1, keeps_cell k4 S1.2.2⟩; have S3 : (fun w' : World => w'.cell? ⟨w.heap.size, 1, none⟩ = some (.slice (some ⟨b, o, none⟩) os.length co) ∧ w'.cell? ⟨b, o + i * 2, none⟩ = some (.string ky) ∧ w'.cell? ⟨b, o + i * 2 + 1, none⟩ = some (.int .u64 (hu : Int))) W5 := ⟨keeps_cell k5 S2.1, keeps_cell k5 S2.2.1, keeps_cell k5 S2.2.2⟩; have S4 : (fun w' : World => w'.cell? ⟨w.heap.size, 1, none⟩ = some (.slice (some ⟨b, o, none⟩) os.length co) ∧ w'.cell? ⟨b, o + i * 2, none⟩ = some (.string ky) ∧ w'.cell? ⟨b, o + i * 2 + 1, none⟩ = some (.int .u64 (hu : Int))) W6 := ⟨(three_cells hR6.box).2.1, keeps_cell hR6.keeps HQ.out.1, keeps_cell hR6.keeps HQ.out.2⟩; clear hR6) | (refine step_append_run (by rfl) _ _ 39 (by rfl) (by rfl) (by rfl) hap ?_))
      all_goals (
        go_wp2_with fail
        refine ⟨⟨i + 1, by go_num, Hi.out, HR6.out⟩, ?_⟩
        simp [intOf]
        exact Hms.out)
    · obtain rfl : i = os.length := by omega
      have hlt' : ¬ (os.length : Int) < (os.length : Int) := by omega
      rw [List.take_of_length_le (Nat.le_refl _)] at hp
      obtain ⟨c0, c1, c2⟩ := three_cells hp.box
      have HP5 := hide hp
      clear hp HR2 HBy HWo HBs HO
      go_wp2_with fail
      clear c0 c1 c2
      go_loopw [3, 5] (fun v3 v5 wr => ∃ i : Nat, v5 = .int .i64 (i : Int) ∧ i ≤ L.length ∧ RfS w (.slice so os.length co) (.slice sc L.length cc) n (limT n ++ os.flatMap ovT ++ ((L.take i).map (·.c)).flatMap cmdT) v3 wr) (fun _ v5 _ => L.length - (intOf v5).toNat)
      case atStart => exact ⟨0, rfl, Nat.zero_le _, by simpa using HP5.out⟩
      case round =>
        obtain ⟨i, rfl, hi, hp⟩ := hrel
        by_cases hlt : i < L.length
        · have hlt'' : (i : Int) < (L.length : Int) := by omega
          obtain ⟨b, o, rfl, hcl⟩ := (HC.out.keeps hp.keeps).at hlt
          obtain ⟨c0, c1, c2⟩ := three_cells hp.box
          have HCall := hide (fun W (k : Keeps w W (fun _ => False)) => HCm.out W k i hlt)
          have HT : Hid (((L.take (i + 1)).map (·.c)).flatMap cmdT = ((L.take i).map (·.c)).flatMap cmdT ++ cmdT L[i].c) := by
            show ((L.take (i + 1)).map (·.c)).flatMap cmdT = ((L.take i).map (·.c)).flatMap cmdT ++ cmdT L[i].c
            rw [List.take_succ_eq_append_getElem hlt, List.map_append, List.flatMap_append]
            simp
          have HLe : Hid ((((L.take (i + 1)).map (·.c)).flatMap cmdT).length ≤ ((L.map (·.c)).flatMap cmdT).length) := by
            have := flat_le cmdT (L.map (·.c)) (i + 1)
            rw [← List.map_take] at this
            exact this
          have hci := HC.out.ok _ (List.getElem_mem hlt)
          obtain ⟨x, hx⟩ : ∃ x, L[i] = x := ⟨_, rfl⟩
          rw [hx] at hcl HCall HT hci
          obtain ⟨sf, nf, cf, ef⟩ := hci.f.slice
          obtain ⟨sh, nh, ch, eh⟩ := hci.s.slice
          clear hci
          obtain ⟨cd, fs, hs⟩ := x
          dsimp only at ef eh
          subst ef eh
          have q0 := hcl 0 _ rfl
          have q1 := hcl 1 _ rfl
          have q2 := hcl 2 _ rfl
          have q3 := hcl 3 _ rfl
          have q4 := hcl 4 _ rfl
          have q5 := hcl 5 _ rfl
          have q6 := hcl 6 _ rfl
          have q7 := hcl 7 _ rfl
          have q8 := hcl 8 _ rfl
          rw [Nat.add_zero] at q0
          have HP := hide hp
          have Hms : Hid (L.length - (i + 1) < L.length - i) := by show L.length - (i + 1) < L.length - i; omega
          have Hi : Hid (i + 1 ≤ L.length) := hlt
          have hfew : L.length ≤ 4194304 := by
            have := HL.out.2.2.2
            have := cms_few (L.map (·.c))
            rw [List.length_map] at this
            omega
          obtain ⟨a6, a7⟩ := wr64s (n := i) (by omega)
          clear hp hfew hi hcl
          dsimp only at q0 q1 q2 q3 q4 q5 q6 q7 q8 HT HCall
          obtain ⟨op, hh, u, v, nn, key, elem, fl, hl⟩ := cd
          dsimp only at q0 q1 q2 q3 q4 q5 q6 q7 q8
          obtain ⟨C, hC⟩ : ∃ C : CmdD, (⟨op, hh, u, v, nn, key, elem, fl, hl⟩ : CmdD) = C := ⟨_, rfl⟩
          have hv : C.vals (.slice sf nf cf) (.slice sh nh ch) = #[.int .i64 op, .int .i64 hh, .slice sf nf cf, .slice sh nh ch, .int .u64 (u : Int), .int .u64 (v : Int), .int .i64 nn, .string key, .string elem] := by rw [← hC]; rfl
          rw [hC] at HT HCall
          clear hC hx
          have hcall := HCall.out wr HP.out.keeps
          rw [hv] at hcall
          clear HCall hv
          have hln : ¬ lnD C = [] → cmdT C = lnD C ++ [10] := fun h => (cmd_text C).trans (if_neg h)
          by_cases hE : lnD C = []
          · have e0 : cmdT C = [] := (cmd_text C).trans (if_pos hE)
            rw [e0, List.append_nil] at HT
            rw [hE] at hcall
            have hcall' : Calls Tryd.prog 14 #[.agg #[.int .i64 op, .int .i64 hh, .slice sf nf cf, .slice sh nh ch, .int .u64 (u : Int), .int .u64 (v : Int), .int .i64 nn, .string key, .string elem]] wr fun e w' => e = .returned (.string ⟨#[]⟩) ∧ Keeps wr w' (fun _ => False) := hcall
            clear hcall hln e0 hE
            go_wp2_with fail
            (with_reducible refine hcall'.mono ?_)
            rintro e w3 ⟨rfl, k3⟩
            have p3 := HP.out.stay k3
            rw [← HT.out] at p3
            have HP4 := hide p3
            clear hcall' q0 q1 q2 q3 q4 q5 q6 q7 q8 c0 c1 c2 p3 HT HLe k3
            go_wp2_with fail
            refine ⟨⟨i + 1, by go_num, Hi.out, HP4.out⟩, ?_⟩
            simp [intOf]
            exact Hms.out
          · have e1 := hln hE
            have hne : (strOf (lnD C)).toList.isEmpty = false := by
              rw [ByteArray.toList_eq, List.isEmpty_eq_false_iff, strOf_data]
              exact hE
            have htx : strOf (lnD C) ++ ⟨#[10]⟩ = strOf (cmdT C) := by
              rw [e1]
              exact strOf_append _ [10]
            have hAp : Hid (∀ W, Keeps wr W (fun _ => False) → ∃ W1 c, (convert 9 39 (.string (strOf (cmdT C)))).run Tryd.prog W = .ok (.slice (some ⟨W.heap.size, 0, none⟩) (cmdT C).length c) W1 ∧ Keeps W W1 (fun _ => False) ∧
                ∃ v' W2, (∀ ty, (Builtin.append_ #[39, 39] ty #[u3, .slice (some ⟨W.heap.size, 0, none⟩) (cmdT C).length c]).run Tryd.prog W1 = .ok v' W2) ∧ RfS w (.slice so os.length co) (.slice (some ⟨b, o, none⟩) L.length cc) n (limT n ++ os.flatMap ovT ++ ((L.take (i + 1)).map (·.c)).flatMap cmdT) v' W2) := fun W k => by
              have := (HP.out.stay k).more (cmdT C) (by
                have a := HLe.out
                rw [HT.out] at a
                obtain ⟨b1, b2, b3, b4⟩ := HL.out
                rw [List.length_append] at a
                rw [List.length_append, List.length_append]
                omega)
              rw [List.append_assoc, ← HT.out] at this
              exact this
            have hsz : (strOf (lnD C)).size ≤ 1000000000 := by
              have a := HLe.out
              rw [HT.out, e1] at a
              obtain ⟨b1, b2, b3, b4⟩ := HL.out
              rw [List.length_append, List.length_append] at a
              rw [strOf_size]
              omega
            clear hln hE e1 HT HLe
            generalize strOf (lnD C) = LN at *
            generalize strOf (cmdT C) = CT at *
            generalize (cmdT C).length = cl at *
            go_wp2_with fail
            (with_reducible refine hcall.mono ?_)
            rintro e w3 ⟨rfl, k3⟩
            obtain ⟨W5, c5, hconv, k5, v6, W6, hap, hR6⟩ := hAp.out w3 k3
            have HR6 := hide hR6
            clear hcall q0 q1 q2 q3 q4 q5 q6 q7 q8 c0 c1 c2 k3 k5 hR6 hAp
            go_wp2_with (first | (at_builtin; have _t := hap; refine app_run _ rfl (.tmp 56) (.tmp 59) 39 rfl rfl rfl hap ?_; clear hap))
            refine ⟨⟨i + 1, by go_num, Hi.out, HR6.out⟩, ?_⟩
            simp [intOf]
            exact Hms.out
        · obtain rfl : i = L.length := by omega
          have hlt'' : ¬ (L.length : Int) < (L.length : Int) := by omega
          rw [List.take_of_length_le (Nat.le_refl _)] at hp
          obtain ⟨c0, c1, c2⟩ := three_cells hp.box
          obtain ⟨g, cg, eg, -, -, hcells, -⟩ := hp.row
          subst eg
          have htx := run_text wr ⟨g, 0, none⟩ cg _ (limT n ++ os.flatMap ovT ++ (L.map (·.c)).flatMap cmdT) rfl (fun j hj => by
            rw [addr_add, Nat.zero_add]
            exact hcells j hj)
          have eT : strOf (limT n ++ os.flatMap ovT ++ (L.map (·.c)).flatMap cmdT) = T := HTT.out
          rw [eT] at htx
          have HK := hide hp.keeps
          clear hp hcells eT
          generalize (limT n ++ os.flatMap ovT ++ (L.map (·.c)).flatMap cmdT).length = nl at *
          go_wp2_with fail
          go_ret
          exact ⟨rfl, HK.out⟩
end Go.Proofs.YtpkbjjbbdhehdaaDoor
