/-
  script: lineText, its walk.
-/
import Derived.Test.YtpkbjjbbdhehdaaDoorSF7
import Derived.Test.YtpkbjjbbdhehdaaDoorShelf
import Derived.Deep.Cut
namespace Go.Proofs.YtpkbjjbbdhehdaaDoor
open Go.RowKit
set_option linter.unusedVariables false
theorem Keeps.blk8 {w w' : World} (k : Keeps w w' (fun _ => False)) {b : Nat} {o : Obj} (h : w.heap[b]? = some o) : w'.heap[b]? = some o := (k.block b (heap_lt h) id).trans h
theorem Keeps.put8 {w W : World} (k : Keeps w W (fun _ => False)) {B : Nat} (hB : w.heap.size ≤ B) (o : Obj) : Keeps w (W.putObj B o) (fun _ => False) := ⟨k.os, k.tape, k.output, Nat.le_trans k.size (by simp [World.putObj]), fun q hq hn => (World.putObj_heap_other (by omega)).trans (k.block q hq hn)⟩
def lenB (ws : List ByteArray) : Nat := Lib.lens (ws.map (·.data.toList))
theorem lenB_cons (x : ByteArray) (r : List ByteArray) : lenB (x :: r) = x.size + lenB r := by
  unfold lenB Lib.lens
  simp only [List.map_cons, List.sum_cons]
  rfl
theorem lenB_one (x : ByteArray) : lenB [x] = x.size := by
  rw [lenB_cons]
  simp [lenB, Lib.lens]
theorem lenB_append (a b : List ByteArray) : lenB (a ++ b) = lenB a + lenB b := by
  unfold lenB Lib.lens
  simp
theorem lenB_nums : ∀ l : List Int, (∀ n, n ∈ l → -9223372036854775808 ≤ n ∧ n ≤ 9223372036854775807) → lenB (l.map numD) ≤ 20 * l.length
  | [], _ => by simp [lenB, Lib.lens]
  | n :: r, h => by
    have ih := lenB_nums r (fun m hm => h m (List.mem_cons_of_mem _ hm))
    have := num_size n (h n List.mem_cons_self).1 (h n List.mem_cons_self).2
    rw [List.map_cons, lenB_cons, List.length_cons]
    omega
theorem word_sz {u : Nat} (h : u < 18446744073709551616) : (wordD u).size ≤ 18 := by
  unfold wordD
  rw [strOf_size, List.length_cons, List.length_cons]
  have := hexW_len 15 u (by omega)
  omega
theorem byte_sz {s : ByteArray} (h : s.size ≤ 8388608) : (bytesD s).size ≤ 16777216 := by
  unfold bytesD
  split
  · decide
  · rw [strOf_size, hexL_length]
    have : s.data.toList.length = s.size := rfl
    omega
theorem fld_lens {w : World} {c : CmdD} {fs hs : Value} (h : CmdIn w c fs hs) (p : Int) : lenB (fldD c p) ≤ 167772160 := by
  have l1 := lenB_nums c.fl h.f.fits
  have l2 := lenB_nums c.hl h.s.fits
  have := h.lf
  have := h.ls
  have a1 := num_size c.h h.h.1 h.h.2
  have a2 := num_size c.n h.n.1 h.n.2
  have a3 := word_sz h.u
  have a4 := word_sz h.v
  have a5 := byte_sz h.key
  have a6 := byte_sz h.elem
  unfold fldD
  by_cases p1 : p = 72
  · rw [if_pos p1, lenB_one]; omega
  rw [if_neg p1]
  by_cases p2 : p = 78
  · rw [if_pos p2, lenB_one]; omega
  rw [if_neg p2]
  by_cases p3 : p = 85
  · rw [if_pos p3, lenB_one]; omega
  rw [if_neg p3]
  by_cases p4 : p = 86
  · rw [if_pos p4, lenB_one]; omega
  rw [if_neg p4]
  by_cases p5 : p = 75
  · rw [if_pos p5, lenB_one]; omega
  rw [if_neg p5]
  by_cases p6 : p = 69
  · rw [if_pos p6, lenB_one]; omega
  rw [if_neg p6]
  by_cases p7 : p = 70
  · rw [if_pos p7]; omega
  rw [if_neg p7]
  by_cases p8 : p = 83
  · rw [if_pos p8]; omega
  rw [if_neg p8]
  simp [lenB, Lib.lens]
theorem flds_lens {w : World} {c : CmdD} {fs hs : Value} (h : CmdIn w c fs hs) : ∀ l : List UInt8, lenB (fldsD c l) ≤ 167772160 * l.length
  | [] => by simp [fldsD, lenB, Lib.lens]
  | x :: r => by
    have ih := flds_lens h r
    have := fld_lens h (x.toNat : Int)
    unfold fldsD at ih ⊢
    rw [List.flatMap_cons, lenB_append, List.length_cons]
    omega
theorem line_len {w : World} {c : CmdD} {fs hs : Value} (h : CmdIn w c fs hs) {i : Nat} (hi : i < 16) : (Lib.join ((nmN i :: fldsD c (fmN i).data.toList).map (·.data.toList)) [32]).length ≤ 1000000000 := by
  rw [List.map_cons, Lib.join_cons, List.length_append, Lib.joinTail_length, List.length_map]
  have a := flds_few h (fmN i).data.toList
  have b := flds_lens h (fmN i).data.toList
  have c' := (form_few i hi).1
  have d : (nmN i).data.toList.length ≤ 7 := by
    have : ∀ k : Fin 16, (nmN k.1).data.toList.length ≤ 7 := by decide +kernel
    exact this ⟨i, hi⟩
  unfold lenB at b
  have e : ([32] : List UInt8).length = 1 := rfl
  rw [e]
  have f : 8388608 * (fmN i).data.toList.length ≤ 8388608 * 3 := Nat.mul_le_mul_left _ c'
  have g : 167772160 * (fmN i).data.toList.length ≤ 167772160 * 3 := Nat.mul_le_mul_left _ c'
  omega
set_option maxRecDepth 100000 in
set_option maxHeartbeats 2000000 in
theorem line_found (kd : Int) (c : CmdD) (fs hs : Value) (w : World) (hc : CmdIn w c fs hs) (ht : TabW w) (hD : Deb w) (hR : RowsF w) : Calls Tryd.prog 9 #[.int .i64 kd, .agg (c.vals fs hs)] w fun e w' => ((∃ i, i < 16 ∧ kN i = kd ∧ oN i = c.op ∧ e = .returned (.string (lineI i c))) ∨ ((∀ j, j < 16 → ¬ (kN j = kd ∧ oN j = c.op)) ∧ e = .returned (.string ⟨#[]⟩))) ∧ Keeps w w' (fun _ => False) := by
  have HRow := hide (fun (W : World) (k : Keeps w W (fun _ => False)) => rowOfF_any kd c.op W (hR.keeps k))
  have HFld := hide (fun (W : World) (k : Keeps w W (fun _ => False)) (p : Int) => fld_any c fs hs p W (hc.keeps k) (ht.keeps k) (hD.keeps k))
  have hv : c.vals fs hs = #[.int .i64 c.op, .int .i64 c.h, fs, hs, .int .u64 (c.u : Int), .int .u64 (c.v : Int), .int .i64 c.n, .string c.key, .string c.elem] := rfl
  have HC := hide hc
  clear ht hD hR hc
  rw [hv]
  go_enter Tryd.func9, Tryd.ntmps9
  go_upto_region 1 with fail
  refine alloc1 (P := fun W => Code.wp _ _ _ _ W) fun W0 hb hz k0 => ?_
  obtain ⟨c0, c1, c2, c3, c4, c5, c6, c7, c8⟩ := cmd_cells (c := c) hb
  have HB := hide hb
  have HK0 := hide k0
  clear hb hz k0
  go_wp2_with fail
  (with_reducible refine (HRow.out W0 HK0.out).mono ?_)
  rintro e w1 ⟨hrow, k1⟩
  clear HRow c0 c1 c2 c3 c4 c5 c6 c7 c8
  have HK1 := hide (HK0.out.trans k1 (fun _ _ e => e))
  have HB1 := hide (k1.blk8 HB.out)
  clear HK0 HB k1
  rcases hrow with ⟨i, hi, hk, ho, rfl⟩ | ⟨hno, rfl⟩
  · obtain ⟨ND, hND⟩ : ∃ ND, nmN i = ND := ⟨_, rfl⟩
    obtain ⟨F, hF⟩ : ∃ F, fmN i = F := ⟨_, rfl⟩
    obtain ⟨kk, hkk⟩ : ∃ kk, kN i = kk := ⟨_, rfl⟩
    obtain ⟨oo, hoo⟩ : ∃ oo, oN i = oo := ⟨_, rfl⟩
    rw [hND, hF, hkk, hoo]
    have HIdx := hide (And.intro hi (And.intro hk (And.intro ho (And.intro hND hF))))
    clear hi hk ho hND hF hkk hoo
    go_upto_region 2 with fail
    refine alloc1 (P := fun W => Code.wp _ _ _ _ W) fun W2 hrb hz2 k2 => ?_
    have hr0 : W2.cell? ⟨w1.heap.size, 0, none⟩ = some (.string ND) := by simp [World.cell?, hrb]
    have hr3 : W2.cell? ⟨w1.heap.size, 3, none⟩ = some (.string F) := by simp [World.cell?, hrb]
    have hr3a := keeps_cell ((Keeps.refl W2 (fun _ => False)).alloc (.cells #[.string ND] 9)) hr3
    have HK2 := hide (HK1.out.trans k2 (fun _ _ e => e))
    have HB2 := hide (k2.blk8 HB1.out)
    clear hrb hz2 k2 HK1 HB1
    go_wp2_with fail
    have hown0 : ((W2.alloc (.cells #[.string ND] 9)).alloc (.stringIter F 0)).ownsRow W2.heap.size 9 1 (.slice (some ⟨W2.heap.size, 0, none⟩) 1 1) 1 [.string ND] := (show (W2.alloc (.cells #[.string ND] 9)).ownsRow W2.heap.size 9 1 (.slice (some ⟨W2.heap.size, 0, none⟩) 1 1) 1 [.string ND] from ⟨rfl, Or.inr ⟨W2.heap.size, 1, #[.string ND], rfl, Nat.le_refl _, heap_alloc_new _ _, Nat.le_refl _, by simp [maxLen], rfl, rfl⟩⟩).alloc _
    have HO := hide hown0
    clear hown0 hr0 hr3 hr3a
    go_loopg [7] F.size (fun gm v7 wr => ∃ pos n : Nat, gm = F.size - pos ∧ pos ≤ F.size ∧ wr.heap[W2.heap.size + 1]? = some (.stringIter F pos) ∧ Hid (wr.ownsRow W2.heap.size 9 1 v7 n ((ND :: fldsD c (F.data.toList.take pos)).map Value.string)) ∧ Hid (Keeps W2 wr (fun _ => False)))
    case atStart => exact ⟨0, 1, rfl, Nat.zero_le _, by have := World.iter_heap (W2.alloc (.cells #[.string ND] 9)) F 0; simpa using this, HO.out, ((Keeps.refl _ _).alloc _).alloc _⟩
    case round =>
      obtain ⟨pos, n, rfl, hp, hit, HRw, HKw⟩ := hrel
      obtain ⟨hi, -, -, hND, hF⟩ := HIdx.out
      have hfew := form_few i hi
      rw [hF] at hfew
      have hsz : F.data.toList.length = F.size := rfl
      have hF3 := hfew.1
      by_cases hlt : pos < F.size
      · obtain ⟨x, hx⟩ : ∃ x, F[pos] = x := ⟨_, rfl⟩
        have hxl : F.data.toList[pos]'(by omega) = x := hx
        have h128 : (F[pos]'hlt).toNat < 128 := by rw [hx]; exact hfew.2 x (hxl ▸ List.getElem_mem _)
        have hN := fun ty => nextF_at (P := Tryd.prog) ty hit hlt h128
        rw [hx] at hN
        have hms : F.size - (pos + 1) < F.size - pos := by omega
        have hit2 : (wr.putObj (W2.heap.size + 1) (.stringIter F (pos + 1))).heap[W2.heap.size + 1]? = some (.stringIter F (pos + 1)) := World.putObj_heap_same (heap_lt hit)
        have HRw2 := hide (rowF_put HRw.out hit (.stringIter F (pos + 1)))
        have HKw2 := hide (HKw.out.put8 (B := W2.heap.size + 1) (by omega) (.stringIter F (pos + 1)))
        have hcmd := HKw2.out.blk8 HB2.out
        obtain ⟨c0, c1, c2, c3, c4, c5, c6, c7, c8⟩ := cmd_cells (c := c) hcmd
        have HT := hide (fldsD_take (c := c) (l := F.data.toList) (i := pos) (by omega))
        rw [hxl] at HT
        have Hit2 := hide hit2
        have Hfew := hide (flds_few HC.out (F.data.toList.take pos))
        have Hfl := hide (fld_few HC.out (x.toNat : Int))
        have hcall := HFld.out _ (HK2.out.trans HKw2.out (fun _ _ e => e)) (x.toNat : Int)
        rw [hv] at hcall
        clear hit2 HRw HKw h128 hcmd hfew hit hF hND hxl
        go_wp2_with fail
        (with_reducible refine hcall.mono ?_)
        rintro e w3 ⟨r, rfl, hr, k3⟩
        clear hcall c0 c1 c2 c3 c4 c5 c6 c7 c8
        have hrow3 := ownsRow_keeps HRw2.out k3 (fun _ _ e => e)
        have hK3 := HKw2.out.trans k3 (fun _ _ e => e)
        have hit3 := k3.blk8 Hit2.out
        have hn : n = (fldsD c (F.data.toList.take pos)).length + 1 := by
          have := hrow3.1
          simp at this
          omega
        have hb1 := Hfew.out
        have hb2 := Hfl.out
        have hb3 : (F.data.toList.take pos).length ≤ 3 := by
          rw [List.length_take]
          omega
        rcases hr with ⟨rfl, hnil⟩ | ⟨g, cap, rfl, hpos, hcl⟩
        · have hap := fun ty => run_append_owned_none (P := Tryd.prog) (w := w3) W2.heap.size 57 ty 9 _ 1 Tryd.underlying57 (info_parts Tryd.infoS4).choose_spec.1 _ n _ hrow3
          have HN : Hid (w3.ownsRow W2.heap.size 9 1 u7 n ((ND :: fldsD c (F.data.toList.take (pos + 1))).map Value.string) ∧ Keeps W2 w3 (fun _ => False) ∧ w3.heap[W2.heap.size + 1]? = some (.stringIter F (pos + 1))) := by
            rw [HT.out, hnil, List.append_nil]
            exact ⟨hrow3, hK3, hit3⟩
          clear hrow3 hK3 hit3 hn hb1 hb2 hb3 hnil k3 HRw2 HKw2 Hit2 HT Hfew Hfl hsz hF3 hN
          go_wp2_with (first | (at_builtin; have _t := hap; refine app_run _ rfl (.tmp 28) (.tmp 31) 57 rfl rfl rfl hap ?_; clear hap))
          go_roundg (F.size - (pos + 1))
          case measure => exact hms
          case rel => exact ⟨pos + 1, n, rfl, hlt, HN.out.2.2, HN.out.1, HN.out.2.1⟩
        · obtain ⟨m, hm⟩ : ∃ m, (fldD c (x.toNat : Int)).length = m := ⟨_, rfl⟩
          rw [hm] at hpos hb2 ⊢
          have hz3 := hK3.size
          obtain ⟨g1, cap1, w4, hap, hown4, kk4⟩ := append_words (c := cap) hrow3 hcl hm hpos (by omega) (by simp only [maxLen]; omega) hz3
          have hnb : ¬ (u7.ownBlock = some (W2.heap.size + 1)) := fun e => by
            rcases hrow3.2 with ⟨e1, -⟩ | ⟨g', cap', cur, e1, -, e3, -⟩
            · rw [e1] at e
              cases e
            · rw [e1] at e
              have e2 : g' = W2.heap.size + 1 := Option.some.inj e
              rw [e2, hit3] at e3
              cases e3
          have HN : Hid (w4.ownsRow W2.heap.size 9 1 (.slice (some ⟨g1, 0, none⟩) (n + m) cap1) (n + m) ((ND :: fldsD c (F.data.toList.take (pos + 1))).map Value.string) ∧ Keeps W2 w4 (fun _ => False) ∧ w4.heap[W2.heap.size + 1]? = some (.stringIter F (pos + 1))) := by
            refine ⟨?_, hK3.trans kk4 (fun q hq e => ?_), (kk4.block _ (heap_lt hit3) hnb).trans hit3⟩
            · rw [HT.out, ← List.cons_append, List.map_append]
              exact hown4
            · have := (ownsRow_block hrow3 e).1
              omega
          clear hrow3 hK3 hit3 hn hb1 hb2 hb3 k3 HRw2 HKw2 Hit2 HT Hfew Hfl hsz hF3 hN hown4 kk4 hnb hz3 hcl hm hpos
          go_wp2_with (first | (at_builtin; have _t := hap; refine app_run _ rfl (.tmp 28) (.tmp 31) 57 rfl rfl rfl hap ?_; clear hap))
          go_roundg (F.size - (pos + 1))
          case measure => exact hms
          case rel => exact ⟨pos + 1, n + m, rfl, hlt, HN.out.2.2, HN.out.1, HN.out.2.1⟩
      · obtain rfl : pos = F.size := by omega
        have hN := fun ty => nextF_end (P := Tryd.prog) ty hit hlt
        have hrow := HRw.out
        rw [List.take_of_length_le (Nat.le_of_eq hsz)] at hrow
        have hn : (ND :: fldsD c F.data.toList).length = n := by
          have := hrow.1
          simpa using this
        have hlen := line_len HC.out hi
        rw [hND, hF] at hlen
        rcases hrow.2 with ⟨-, e0⟩ | ⟨g, cap, cur, rfl, hg0, hg, hcap, -⟩
        · exfalso
          simp at hn
          omega
        · have hJ := Tryd.strings_Join g 0 cap (ND :: fldsD c F.data.toList) ⟨#[32]⟩ wr (fun j z hj => by
            have hj2 : j < n := by
              rw [← hn]
              exact (List.getElem?_eq_some_iff.1 hj).1
            rw [Nat.zero_add, hrow.cellAt j (by omega), List.getElem?_map, hj]
            rfl) (heap_lt hg) (by
            have := flds_few HC.out F.data.toList
            rw [List.length_cons]
            have : 8388608 * F.data.toList.length ≤ 8388608 * 3 := Nat.mul_le_mul_left _ hF3
            omega) (by omega) (by
            show (Lib.join _ [32]).length ≤ _
            omega)
          rw [hn] at hJ
          obtain ⟨J, hJe⟩ : ∃ J, (⟨(Lib.join ((ND :: fldsD c F.data.toList).map (·.data.toList)) (⟨#[32]⟩ : ByteArray).data.toList).toArray⟩ : ByteArray) = J := ⟨_, rfl⟩
          rw [hJe] at hJ
          have hJs : J.size ≤ 1000000000 := by
            rw [← hJe]
            exact hlen
          have hsum : J.size + 1 ≤ 9223372036854775807 := by omega
          have HF : Hid (lineI i c = J ++ ⟨#[10]⟩) := by
            show lineI i c = _
            unfold lineI
            rw [hND, hF, ← hJe]
          have HK := hide (HK2.out.trans HKw.out (fun _ _ e => e))
          clear hrow hn hlen hg hg0 hcap hJe hJs hit HRw HKw hsz hF3 hfew hND hF
          go_wp2_with fail
          (with_reducible refine hJ.mono ?_)
          rintro e w5 ⟨rfl, hb5⟩
          clear hJ
          go_wp2_with fail
          go_ret
          refine ⟨Or.inl ⟨i, HIdx.out.1, HIdx.out.2.1, HIdx.out.2.2.1, ?_⟩, HK.out.trans (keeps_of_below hb5) (fun _ _ e => e)⟩
          exact congrArg (fun z => Ending.returned (Value.string z)) HF.out.symm
  · go_wp2_with fail
    go_ret
    exact ⟨Or.inr ⟨hno, rfl⟩, HK1.out.alloc _⟩
end Go.Proofs.YtpkbjjbbdhehdaaDoor
