/-
  script: Print.
-/
import Derived.Test.YtpkbjjbbdhehdaaDoorSG2
import Derived.Deep.Cut
namespace Go.Proofs.YtpkbjjbbdhehdaaDoor
open Go.RowKit
set_option linter.unusedVariables false

theorem alloc2 {w : World} {o1 o2 : Obj} {P : World → Prop} (h : ∀ W0, W0.heap[w.heap.size]? = some o1 → W0.heap[w.heap.size + 1]? = some o2 → Keeps w W0 (fun _ => False) → P W0) : P ((w.alloc o1).alloc o2) := by
  have k1 : Keeps (w.alloc o1) ((w.alloc o1).alloc o2) (fun _ => False) := (Keeps.refl _ _).alloc _
  have e1 := heap_alloc_new (w.alloc o1) o2
  simp only [World.size_alloc] at e1
  exact h _ (k1.blk8 (heap_alloc_new w o1)) e1 (((Keeps.refl _ _).alloc _).alloc _)
theorem three_cells {W : World} {q : Nat} {a b c : Value} {t : TypeId} (h : W.heap[q]? = some (.cells #[a, b, c] t)) : W.cell? ⟨q, 0, none⟩ = some a ∧ W.cell? ⟨q, 1, none⟩ = some b ∧ W.cell? ⟨q, 2, none⟩ = some c := by
  simp [World.cell?, h]
theorem below_blk {w w' : World} {B b : Nat} (k : Below B w w') (hb : b < B) {o : Obj} (h : w.heap[b]? = some o) : w'.heap[b]? = some o := (k.block b hb).trans h
theorem strL (x : List UInt8) : (strOf x).size = x.length := strOf_size x
theorem ovs_few (os : List Ovr) : os.length ≤ costO os := by
  unfold costO
  induction os with
  | nil => simp
  | cons a t ih => rw [List.map_cons, List.sum_cons, List.length_cons]; omega
theorem cms_few (cs : List CmdD) : cs.length ≤ costs cs := by
  unfold costs
  induction cs with
  | nil => simp
  | cons a t ih =>
    have : 1 ≤ costC a := by unfold costC; omega
    rw [List.map_cons, List.sum_cons, List.length_cons]
    omega
theorem IntsIn.slice {w : World} {v : Value} {l : List Int} (h : IntsIn w v l) : ∃ so n c, v = .slice so n c := by
  rcases h.form with ⟨rfl, rfl⟩ | ⟨a, c, e, -⟩
  · exact ⟨none, 0, 0, rfl⟩
  · exact ⟨some a, _, c, e⟩
/-- What stands in each round of Print. -/
structure PrS (w : World) (vo vc : Value) (n : Int) (l : List UInt8) (W : World) : Prop where
  box : W.heap[w.heap.size]? = some (.cells #[.int .i64 n, vo, vc] 25)
  bld : Lib.IsBuilder 41 5 (w.heap.size + 1) (w.heap.size + 1) (Lib.byteCells l) W
  keeps : Keeps w W (fun _ => False)
theorem PrS.stay {w W W' : World} {vo vc : Value} {n : Int} {l : List UInt8} (h : PrS w vo vc n l W) (k : Keeps W W' (fun _ => False)) : PrS w vo vc n l W' := ⟨k.blk8 h.box, bld_keeps h.bld k, h.keeps.trans k (fun _ _ e => e)⟩
theorem PrS.write {w W : World} {vo vc : Value} {n : Int} {l : List UInt8} (h : PrS w vo vc n l W) (x : List UInt8) (hl : l.length + x.length ≤ 140737488355328) :
    Calls Tryd.prog 8 #[.pointer (some ⟨w.heap.size + 1, 0, none⟩), .string (strOf x)] W fun e w' => e = .returned (.tuple #[.int .i64 (strOf x).size, .nilIface]) ∧ PrS w vo vc n (l ++ x) w' := by
  have hlt := heap_lt h.box
  refine (bld_write _ _ l (strOf x) W h.bld (by rw [strOf_size]; exact hl) (by omega)).mono ?_
  rintro e w' ⟨h1, h2, h3⟩
  rw [strOf_data] at h2
  exact ⟨h1, below_blk h3 (by omega) h.box, h2, keeps_under h.keeps h3 (by omega)⟩
set_option maxRecDepth 100000 in
set_option maxHeartbeats 4000000 in
theorem print_any (n : Int) (vo vc : Value) (os : List Ovr) (L : List CmV) (w : World) (hn : -9223372036854775808 ≤ n ∧ n ≤ 9223372036854775807) (ho : OvIn w vo os) (hc : CmIn w vc L) (hcost : costO os + costs (L.map (·.c)) ≤ 4194304) (ht : TabW w) (hD : Deb w) (hR : RowsF w) :
    Calls Tryd.prog 5 #[.agg #[.int .i64 n, vo, vc]] w fun e w' => e = .returned (.string (strOf (textD n os (L.map (·.c))))) ∧ Keeps w w' (fun _ => False) := by
  have HLim := hide (fun W (k : Keeps w W (fun _ => False)) => line_lim n hn W (ht.keeps k) (hD.keeps k) (hR.keeps k))
  have HOv := hide (fun W (k : Keeps w W (fun _ => False)) i (hi : i < os.length) => line_ov os[i] (ho.ok _ (List.getElem_mem hi)).1 (ho.ok _ (List.getElem_mem hi)).2 W (ht.keeps k) (hD.keeps k) (hR.keeps k))
  have HCm := hide (fun W (k : Keeps w W (fun _ => False)) i (hi : i < L.length) => line_cmd L[i].c L[i].fs L[i].hs W ((hc.ok _ (List.getElem_mem hi)).keeps k) (ht.keeps k) (hD.keeps k) (hR.keeps k))
  have l1 := limT_len hn
  have l2 := ovs_len ho.ok
  have l3 := cms_len hc.ok
  have HL := hide (And.intro l1 (And.intro l2 (And.intro l3 hcost)))
  obtain ⟨so, co, rfl⟩ := ho.row.form
  obtain ⟨sc, cc, rfl⟩ := hc.row.form
  have HO := hide ho
  have HC := hide hc
  obtain ⟨T, hT⟩ : ∃ T, strOf (textD n os (L.map (·.c))) = T := ⟨_, rfl⟩
  rw [hT]
  have HTT := hide hT
  clear ho hc ht hD hR l1 l2 l3 hcost hn hT
  go_enter Tryd.func5, Tryd.ntmps5
  go_upto_region 2 with fail
  refine alloc2 (P := fun W => Code.wp _ _ _ _ W) fun W0 hb0 hb1 k0 => ?_
  obtain ⟨c0, c1, c2⟩ := three_cells hb0
  have HP0 : Hid (PrS w (.slice so os.length co) (.slice sc L.length cc) n [] W0) := ⟨hb0, Or.inl ⟨Nat.le_refl _, _, hb1, ⟨rfl, Or.inl ⟨rfl, rfl⟩⟩, by simp [Value.ownBlock]⟩, k0⟩
  clear hb0 hb1 k0
  have hcall : Calls Tryd.prog 9 #[.int .i64 1, .agg #[.int .i64 0, .int .i64 0, .slice none 0 0, .slice none 0 0, .int .u64 0, .int .u64 0, .int .i64 n, .string ⟨#[]⟩, .string ⟨#[]⟩]] W0 fun e w' => e = .returned (.string (strOf (limT n))) ∧ Keeps W0 w' (fun _ => False) := HLim.out W0 HP0.out.keeps
  go_wp2_with fail
  (with_reducible refine hcall.mono ?_)
  rintro e w1 ⟨rfl, k1⟩
  clear hcall HLim c0 c1 c2
  have HP1 := hide (HP0.out.stay k1)
  have hcall := HP1.out.write (limT n) (by have := HL.out.1; simp; omega)
  clear k1 HP0
  go_wp2_with fail
  (with_reducible refine hcall.mono ?_)
  rintro e w2 ⟨rfl, p2⟩
  clear hcall HP1
  rw [List.nil_append] at p2
  obtain ⟨c0, c1, c2⟩ := three_cells p2.box
  have HP2 := hide p2
  clear p2
  go_wp2_with fail
  clear c0 c1 c2
  go_loopw [16] (fun v16 wr => ∃ i : Nat, v16 = .int .i64 (i : Int) ∧ i ≤ os.length ∧ PrS w (.slice so os.length co) (.slice sc L.length cc) n (limT n ++ (os.take i).flatMap ovT) wr) (fun v16 _ => os.length - (intOf v16).toNat)
  case atStart => exact ⟨0, rfl, Nat.zero_le _, by simpa using HP2.out⟩
  case round =>
    obtain ⟨i, rfl, hi, hp⟩ := hrel
    by_cases hlt : i < os.length
    · have hlt' : (i : Int) < (os.length : Int) := by omega
      obtain ⟨b, o, rfl, q1, q2⟩ := (HO.out.keeps hp.keeps).at hlt
      have HCall := hide (fun W (k : Keeps w W (fun _ => False)) => HOv.out W k i hlt)
      have HT := hide (flat_take (f := ovT) hlt)
      have HLe := hide (flat_le ovT os (i + 1))
      obtain ⟨x, hx⟩ : ∃ x, os[i] = x := ⟨_, rfl⟩
      rw [hx] at q1 q2 HCall HT
      obtain ⟨ky, hu⟩ := x
      have HP := hide hp
      have Hms : Hid (os.length - (i + 1) < os.length - i) := by show os.length - (i + 1) < os.length - i; omega
      have Hi : Hid (i + 1 ≤ os.length) := hlt
      have hfew : os.length ≤ 4194304 := by
        have := HL.out.2.2.2
        have := ovs_few os
        omega
      obtain ⟨a6, a7⟩ := wr64s (n := i) (by omega)
      clear hp hfew hi
      have hcall : Calls Tryd.prog 9 #[.int .i64 2, .agg #[.int .i64 0, .int .i64 0, .slice none 0 0, .slice none 0 0, .int .u64 (hu : Int), .int .u64 0, .int .i64 0, .string ky, .string ⟨#[]⟩]] (wr.alloc (.cells #[.string ky, .int .u64 (hu : Int)] 29)) fun e w' => e = .returned (.string (strOf (ovT (ky, hu)))) ∧ Keeps (wr.alloc (.cells #[.string ky, .int .u64 (hu : Int)] 29)) w' (fun _ => False) := HCall.out _ (HP.out.keeps.alloc _)
      clear HCall
      go_wp2_with fail
      (with_reducible refine hcall.mono ?_)
      rintro e w3 ⟨rfl, k3⟩
      clear hcall q1 q2
      have HP3 := hide ((HP.out.stay ((Keeps.refl _ _).alloc _)).stay k3)
      clear k3 HP
      have hcall := HP3.out.write (ovT (ky, hu)) (by
        have a := HLe.out
        rw [HT.out] at a
        obtain ⟨b1, b2, b3, b4⟩ := HL.out
        rw [List.length_append] at a ⊢
        omega)
      clear HLe
      go_wp2_with fail
      (with_reducible refine hcall.mono ?_)
      rintro e w4 ⟨rfl, p4⟩
      clear hcall HP3
      rw [List.append_assoc, ← HT.out] at p4
      have HP4 := hide p4
      clear p4 HT
      go_wp2_with fail
      refine ⟨⟨i + 1, by go_num, Hi.out, HP4.out⟩, ?_⟩
      simp [intOf]
      exact Hms.out
    · obtain rfl : i = os.length := by omega
      have hlt' : ¬ (os.length : Int) < (os.length : Int) := by omega
      rw [List.take_of_length_le (Nat.le_refl _)] at hp
      obtain ⟨c0, c1, c2⟩ := three_cells hp.box
      have HP5 := hide hp
      clear hp HP2 HOv HO
      go_wp2_with fail
      clear c0 c1 c2
      go_loopw [31] (fun v31 wr => ∃ i : Nat, v31 = .int .i64 (i : Int) ∧ i ≤ L.length ∧ PrS w (.slice so os.length co) (.slice sc L.length cc) n (limT n ++ os.flatMap ovT ++ ((L.take i).map (·.c)).flatMap cmdT) wr) (fun v31 _ => L.length - (intOf v31).toNat)
      case atStart => exact ⟨0, rfl, Nat.zero_le _, by simpa using HP5.out⟩
      case round =>
        obtain ⟨i, rfl, hi, hp⟩ := hrel
        by_cases hlt : i < L.length
        · have hlt'' : (i : Int) < (L.length : Int) := by omega
          obtain ⟨b, o, rfl, hcl⟩ := (HC.out.keeps hp.keeps).at hlt
          have HCall := hide (fun W (k : Keeps w W (fun _ => False)) => HCm.out W k i hlt)
          have HT : Hid (((L.take (i + 1)).map (·.c)).flatMap cmdT = ((L.take i).map (·.c)).flatMap cmdT ++ cmdT L[i].c) := by
            show ((L.take (i + 1)).map (·.c)).flatMap cmdT = ((L.take i).map (·.c)).flatMap cmdT ++ cmdT L[i].c
            rw [List.take_succ_eq_append_getElem hlt, List.map_append, List.flatMap_append]
            simp
          have HLe : Hid ((((L.take (i + 1)).map (·.c)).flatMap cmdT).length ≤ ((L.map (·.c)).flatMap cmdT).length) := by
            have := flat_le cmdT (L.map (·.c)) (i + 1)
            rw [← List.map_take] at this
            exact this
          have hci := HC.out.ok _ (List.getElem_mem hlt)
          obtain ⟨x, hx⟩ : ∃ x, L[i] = x := ⟨_, rfl⟩
          rw [hx] at hcl HCall HT hci
          obtain ⟨sf, nf, cf, ef⟩ := hci.f.slice
          obtain ⟨sh, nh, ch, eh⟩ := hci.s.slice
          clear hci
          obtain ⟨cd, fs, hs⟩ := x
          dsimp only at ef eh
          subst ef eh
          have q0 := hcl 0 _ rfl
          have q1 := hcl 1 _ rfl
          have q2 := hcl 2 _ rfl
          have q3 := hcl 3 _ rfl
          have q4 := hcl 4 _ rfl
          have q5 := hcl 5 _ rfl
          have q6 := hcl 6 _ rfl
          have q7 := hcl 7 _ rfl
          have q8 := hcl 8 _ rfl
          rw [Nat.add_zero] at q0
          have HP := hide hp
          have Hms : Hid (L.length - (i + 1) < L.length - i) := by show L.length - (i + 1) < L.length - i; omega
          have Hi : Hid (i + 1 ≤ L.length) := hlt
          have hfew : L.length ≤ 4194304 := by
            have := HL.out.2.2.2
            have := cms_few (L.map (·.c))
            rw [List.length_map] at this
            omega
          obtain ⟨a6, a7⟩ := wr64s (n := i) (by omega)
          clear hp hfew hi hcl
          dsimp only at q0 q1 q2 q3 q4 q5 q6 q7 q8 HT HCall
          obtain ⟨op, hh, u, v, nn, key, elem, fl, hl⟩ := cd
          dsimp only at q0 q1 q2 q3 q4 q5 q6 q7 q8
          obtain ⟨C, hC⟩ : ∃ C : CmdD, (⟨op, hh, u, v, nn, key, elem, fl, hl⟩ : CmdD) = C := ⟨_, rfl⟩
          have hv : C.vals (.slice sf nf cf) (.slice sh nh ch) = #[.int .i64 op, .int .i64 hh, .slice sf nf cf, .slice sh nh ch, .int .u64 (u : Int), .int .u64 (v : Int), .int .i64 nn, .string key, .string elem] := by rw [← hC]; rfl
          rw [hC] at HT HCall
          clear hC hx
          have hcall := HCall.out _ (HP.out.keeps.alloc (.cells #[.int .i64 op, .int .i64 hh, .slice sf nf cf, .slice sh nh ch, .int .u64 (u : Int), .int .u64 (v : Int), .int .i64 nn, .string key, .string elem] 32))
          rw [hv] at hcall
          clear HCall hv
          go_wp2_with fail
          (with_reducible refine hcall.mono ?_)
          rintro e w3 ⟨rfl, k3⟩
          clear hcall q0 q1 q2 q3 q4 q5 q6 q7 q8
          have HP3 := hide ((HP.out.stay ((Keeps.refl _ _).alloc _)).stay k3)
          clear k3 HP
          have hcall := HP3.out.write (cmdT C) (by
            have a := HLe.out
            rw [HT.out] at a
            obtain ⟨b1, b2, b3, b4⟩ := HL.out
            rw [List.length_append] at a
            rw [List.length_append, List.length_append]
            omega)
          clear HLe
          go_wp2_with fail
          (with_reducible refine hcall.mono ?_)
          rintro e w4 ⟨rfl, p4⟩
          clear hcall HP3
          rw [List.append_assoc, ← HT.out] at p4
          have HP4 := hide p4
          clear p4 HT
          go_wp2_with fail
          refine ⟨⟨i + 1, by go_num, Hi.out, HP4.out⟩, ?_⟩
          simp [intOf]
          exact Hms.out
        · obtain rfl : i = L.length := by omega
          have hlt'' : ¬ (L.length : Int) < (L.length : Int) := by omega
          rw [List.take_of_length_le (Nat.le_refl _)] at hp
          have hcall := bld_string _ _ _ wr hp.bld (by have := heap_lt hp.box; omega)
          have eT : (⟨(limT n ++ os.flatMap ovT ++ (L.map (·.c)).flatMap cmdT).toArray⟩ : ByteArray) = T := HTT.out
          rw [eT] at hcall
          clear eT
          have HP6 := hide hp
          clear hp
          go_wp2_with fail
          (with_reducible refine hcall.mono ?_)
          rintro e w4 ⟨rfl, b4⟩
          have HK4 := hide (keeps_under HP6.out.keeps b4 (by omega))
          clear hcall b4
          go_wp2_with fail
          go_ret
          exact ⟨rfl, HK4.out⟩
end Go.Proofs.YtpkbjjbbdhehdaaDoor
