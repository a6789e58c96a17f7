import Derived.Deep.Cut
import Derived.Shelf.Strings.Builder1
import Derived.Test.YtfpiibccggjjpaaDoorUn6
/-
  script: lineText, its walk.
-/
namespace Go.Proofs.YtfpiibccggjjpaaDoor
open Go.RowKit
set_option linter.unusedVariables false

theorem Keeps.blk8 {w w' : World} (k : Keeps w w' (fun _ => False)) {b : Nat} {o : Obj} (h : w.heap[b]? = some o) : w'.heap[b]? = some o := (k.block b (heap_lt h) id).trans h

theorem Keeps.put8 {w W : World} (k : Keeps w W (fun _ => False)) {B : Nat} (hB : w.heap.size ≤ B) (o : Obj) : Keeps w (W.putObj B o) (fun _ => False) := ⟨k.os, k.tape, k.output, Nat.le_trans k.size (by simp [World.putObj]), fun q hq hn => (World.putObj_heap_other (by omega)).trans (k.block q hq hn)⟩

def lenB (ws : List ByteArray) : Nat := Lib.lens (ws.map (·.data.toList))

theorem lenB_cons (x : ByteArray) (r : List ByteArray) : lenB (x :: r) = x.size + lenB r := by
  unfold lenB Lib.lens
  simp only [List.map_cons, List.sum_cons]
  rfl

theorem lenB_one (x : ByteArray) : lenB [x] = x.size := by
  rw [lenB_cons]
  simp [lenB, Lib.lens]

theorem lenB_append (a b : List ByteArray) : lenB (a ++ b) = lenB a + lenB b := by
  unfold lenB Lib.lens
  simp

theorem lenB_nums : ∀ l : List Int, (∀ n, n ∈ l → -9223372036854775808 ≤ n ∧ n ≤ 9223372036854775807) → lenB (l.map numD) ≤ 20 * l.length
  | [], _ => by simp [lenB, Lib.lens]
  | n :: r, h => by
    have ih := lenB_nums r (fun m hm => h m (List.mem_cons_of_mem _ hm))
    have := num_size n (h n List.mem_cons_self).1 (h n List.mem_cons_self).2
    rw [List.map_cons, lenB_cons, List.length_cons]
    omega

theorem word_sz {u : Nat} (h : u < 18446744073709551616) : (wordD u).size ≤ 18 := by
  unfold wordD
  rw [strOf_size, List.length_cons, List.length_cons]
  have := hexW_len 15 u (by omega)
  omega

theorem byte_sz {s : ByteArray} (h : s.size ≤ 8388608) : (bytesD s).size ≤ 16777216 := by
  unfold bytesD
  split
  · decide
  · rw [strOf_size, hexL_length]
    have : s.data.toList.length = s.size := rfl
    omega

theorem fld_lens {w : World} {c : CmdD} {fs hs : Value} (h : CmdIn w c fs hs) (p : Int) : lenB (fldD c p) ≤ 167772160 := by
  have l1 := lenB_nums c.fl h.f.fits
  have l2 := lenB_nums c.hl h.s.fits
  have := h.lf
  have := h.ls
  have a1 := num_size c.h h.h.1 h.h.2
  have a2 := num_size c.n h.n.1 h.n.2
  have a3 := word_sz h.u
  have a4 := word_sz h.v
  have a5 := byte_sz h.key
  have a6 := byte_sz h.elem
  unfold fldD
  by_cases p1 : p = 72
  · rw [if_pos p1, lenB_one]; omega
  rw [if_neg p1]
  by_cases p2 : p = 78
  · rw [if_pos p2, lenB_one]; omega
  rw [if_neg p2]
  by_cases p3 : p = 85
  · rw [if_pos p3, lenB_one]; omega
  rw [if_neg p3]
  by_cases p4 : p = 86
  · rw [if_pos p4, lenB_one]; omega
  rw [if_neg p4]
  by_cases p5 : p = 75
  · rw [if_pos p5, lenB_one]; omega
  rw [if_neg p5]
  by_cases p6 : p = 69
  · rw [if_pos p6, lenB_one]; omega
  rw [if_neg p6]
  by_cases p7 : p = 70
  · rw [if_pos p7]; omega
  rw [if_neg p7]
  by_cases p8 : p = 83
  · rw [if_pos p8]; omega
  rw [if_neg p8]
  simp [lenB, Lib.lens]

theorem flds_lens {w : World} {c : CmdD} {fs hs : Value} (h : CmdIn w c fs hs) : ∀ l : List UInt8, lenB (fldsD c l) ≤ 167772160 * l.length
  | [] => by simp [fldsD, lenB, Lib.lens]
  | x :: r => by
    have ih := flds_lens h r
    have := fld_lens h (x.toNat : Int)
    unfold fldsD at ih ⊢
    rw [List.flatMap_cons, lenB_append, List.length_cons]
    omega

theorem line_len {w : World} {c : CmdD} {fs hs : Value} (h : CmdIn w c fs hs) {i : Nat} (hi : i < 16) : (Lib.join ((nmN i :: fldsD c (fmN i).data.toList).map (·.data.toList)) [32]).length ≤ 1000000000 := by
  rw [List.map_cons, Lib.join_cons, List.length_append, Lib.joinTail_length, List.length_map]
  have a := flds_few h (fmN i).data.toList
  have b := flds_lens h (fmN i).data.toList
  have c' := (form_few i hi).1
  have d : (nmN i).data.toList.length ≤ 7 := by
    have : ∀ k : Fin 16, (nmN k.1).data.toList.length ≤ 7 := by decide +kernel
    exact this ⟨i, hi⟩
  unfold lenB at b
  have e : ([32] : List UInt8).length = 1 := rfl
  rw [e]
  have f : 8388608 * (fmN i).data.toList.length ≤ 8388608 * 3 := Nat.mul_le_mul_left _ c'
  have g : 167772160 * (fmN i).data.toList.length ≤ 167772160 * 3 := Nat.mul_le_mul_left _ c'
  omega

set_option maxRecDepth 100000 in
set_option maxHeartbeats 2000000 in
theorem line_found (kd : Int) (c : CmdD) (fs hs : Value) (w : World) (hc : CmdIn w c fs hs) (ht : TabW w) (hD : Deb w) (hR : RowsF w) : Calls Tryd.prog 25 #[.int .i64 kd, .agg (c.vals fs hs)] w fun e w' => ((∃ i, i < 16 ∧ kN i = kd ∧ oN i = c.op ∧ e = .returned (.string (lineI i c))) ∨ ((∀ j, j < 16 → ¬ (kN j = kd ∧ oN j = c.op)) ∧ e = .returned (.string ⟨#[]⟩))) ∧ Keeps w w' (fun _ => False) := by
  have HRow := hide (fun (W : World) (k : Keeps w W (fun _ => False)) => rowOfF_any kd c.op W (hR.keeps k))
  have HFld := hide (fun (W : World) (k : Keeps w W (fun _ => False)) (p : Int) => fld_any c fs hs p W (hc.keeps k) (ht.keeps k) (hD.keeps k))
  have hv : c.vals fs hs = #[.int .i64 c.op, .int .i64 c.h, fs, hs, .int .u64 (c.u : Int), .int .u64 (c.v : Int), .int .i64 c.n, .string c.key, .string c.elem] := rfl
  have HC := hide hc
  clear ht hD hR hc
  rw [hv]
  go_enter Tryd.func25, Tryd.ntmps25
  go_upto_region 1 with fail
  refine alloc1 (P := fun W => Code.wp _ _ _ _ W) fun W0 hb hz k0 => ?_
  obtain ⟨c0, c1, c2, c3, c4, c5, c6, c7, c8⟩ := cmd_cells (c := c) hb
  have HB := hide hb
  have HK0 := hide k0
  clear hb hz k0
  go_wp2_with fail
  (with_reducible refine (HRow.out W0 HK0.out).mono ?_)
  rintro e w1 ⟨hrow, k1⟩
  clear HRow c0 c1 c2 c3 c4 c5 c6 c7 c8
  have HK1 := hide (HK0.out.trans k1 (fun _ _ e => e))
  have HB1 := hide (k1.blk8 HB.out)
  clear HK0 HB k1
  rcases hrow with ⟨i, hi, hk, ho, rfl⟩ | ⟨hno, rfl⟩
  · obtain ⟨ND, hND⟩ : ∃ ND, nmN i = ND := ⟨_, rfl⟩
    obtain ⟨F, hF⟩ : ∃ F, fmN i = F := ⟨_, rfl⟩
    obtain ⟨kk, hkk⟩ : ∃ kk, kN i = kk := ⟨_, rfl⟩
    obtain ⟨oo, hoo⟩ : ∃ oo, oN i = oo := ⟨_, rfl⟩
    rw [hND, hF, hkk, hoo]
    have HIdx := hide (And.intro hi (And.intro hk (And.intro ho (And.intro hND hF))))
    clear hi hk ho hND hF hkk hoo
    go_upto_region 2 with fail
    refine alloc1 (P := fun W => Code.wp _ _ _ _ W) fun W2 hrb hz2 k2 => ?_
    have hr0 : W2.cell? ⟨w1.heap.size, 0, none⟩ = some (.string ND) := by simp [World.cell?, hrb]
    have hr3 : W2.cell? ⟨w1.heap.size, 3, none⟩ = some (.string F) := by simp [World.cell?, hrb]
    have hr3a := keeps_cell ((Keeps.refl W2 (fun _ => False)).alloc (.cells #[.string ND] 9)) hr3
    have HK2 := hide (HK1.out.trans k2 (fun _ _ e => e))
    have HB2 := hide (k2.blk8 HB1.out)
    clear hrb hz2 k2 HK1 HB1
    go_wp2_with fail
    have hown0 : ((W2.alloc (.cells #[.string ND] 9)).alloc (.stringIter F 0)).ownsRow W2.heap.size 9 1 (.slice (some ⟨W2.heap.size, 0, none⟩) 1 1) 1 [.string ND] := (show (W2.alloc (.cells #[.string ND] 9)).ownsRow W2.heap.size 9 1 (.slice (some ⟨W2.heap.size, 0, none⟩) 1 1) 1 [.string ND] from ⟨rfl, Or.inr ⟨W2.heap.size, 1, #[.string ND], rfl, Nat.le_refl _, heap_alloc_new _ _, Nat.le_refl _, by simp [maxLen], rfl, rfl⟩⟩).alloc _
    have HO := hide hown0
    clear hown0 hr0 hr3 hr3a
    go_loopg [7] F.size (fun gm v7 wr => ∃ pos n : Nat, gm = F.size - pos ∧ pos ≤ F.size ∧ wr.heap[W2.heap.size + 1]? = some (.stringIter F pos) ∧ Hid (wr.ownsRow W2.heap.size 9 1 v7 n ((ND :: fldsD c (F.data.toList.take pos)).map Value.string)) ∧ Hid (Keeps W2 wr (fun _ => False)))
    case atStart => exact ⟨0, 1, rfl, Nat.zero_le _, by have := World.iter_heap (W2.alloc (.cells #[.string ND] 9)) F 0; simpa using this, HO.out, ((Keeps.refl _ _).alloc _).alloc _⟩
    case round =>
      obtain ⟨pos, n, rfl, hp, hit, HRw, HKw⟩ := hrel
      obtain ⟨hi, -, -, hND, hF⟩ := HIdx.out
      have hfew := form_few i hi
      rw [hF] at hfew
      have hsz : F.data.toList.length = F.size := rfl
      have hF3 := hfew.1
      by_cases hlt : pos < F.size
      · obtain ⟨x, hx⟩ : ∃ x, F[pos] = x := ⟨_, rfl⟩
        have hxl : F.data.toList[pos]'(by omega) = x := hx
        have h128 : (F[pos]'hlt).toNat < 128 := by rw [hx]; exact hfew.2 x (hxl ▸ List.getElem_mem _)
        have hN := fun ty => nextF_at (P := Tryd.prog) ty hit hlt h128
        rw [hx] at hN
        have hms : F.size - (pos + 1) < F.size - pos := by omega
        have hit2 : (wr.putObj (W2.heap.size + 1) (.stringIter F (pos + 1))).heap[W2.heap.size + 1]? = some (.stringIter F (pos + 1)) := World.putObj_heap_same (heap_lt hit)
        have HRw2 := hide (rowF_put HRw.out hit (.stringIter F (pos + 1)))
        have HKw2 := hide (HKw.out.put8 (B := W2.heap.size + 1) (by omega) (.stringIter F (pos + 1)))
        have hcmd := HKw2.out.blk8 HB2.out
        obtain ⟨c0, c1, c2, c3, c4, c5, c6, c7, c8⟩ := cmd_cells (c := c) hcmd
        have HT := hide (fldsD_take (c := c) (l := F.data.toList) (i := pos) (by omega))
        rw [hxl] at HT
        have Hit2 := hide hit2
        have Hfew := hide (flds_few HC.out (F.data.toList.take pos))
        have Hfl := hide (fld_few HC.out (x.toNat : Int))
        have hcall := HFld.out _ (HK2.out.trans HKw2.out (fun _ _ e => e)) (x.toNat : Int)
        rw [hv] at hcall
        clear hit2 HRw HKw h128 hcmd hfew hit hF hND hxl
        go_wp2_with fail
        (with_reducible refine hcall.mono ?_)
        rintro e w3 ⟨r, rfl, hr, k3⟩
        clear hcall c0 c1 c2 c3 c4 c5 c6 c7 c8
        have hrow3 := ownsRow_keeps HRw2.out k3 (fun _ _ e => e)
        have hK3 := HKw2.out.trans k3 (fun _ _ e => e)
        have hit3 := k3.blk8 Hit2.out
        have hn : n = (fldsD c (F.data.toList.take pos)).length + 1 := by
          have := hrow3.1
          simp at this
          omega
        have hb1 := Hfew.out
        have hb2 := Hfl.out
        have hb3 : (F.data.toList.take pos).length ≤ 3 := by
          rw [List.length_take]
          omega
        rcases hr with ⟨rfl, hnil⟩ | ⟨g, cap, rfl, hpos, hcl⟩
        · have hap := fun ty => run_append_owned_none (P := Tryd.prog) (w := w3) W2.heap.size 42 ty 9 _ 1 Tryd.underlying42 (info_parts Tryd.infoS4).choose_spec.1 _ n _ hrow3
          have HN : Hid (w3.ownsRow W2.heap.size 9 1 u7 n ((ND :: fldsD c (F.data.toList.take (pos + 1))).map Value.string) ∧ Keeps W2 w3 (fun _ => False) ∧ w3.heap[W2.heap.size + 1]? = some (.stringIter F (pos + 1))) := by
            rw [HT.out, hnil, List.append_nil]
            exact ⟨hrow3, hK3, hit3⟩
          clear hrow3 hK3 hit3 hn hb1 hb2 hb3 hnil k3 HRw2 HKw2 Hit2 HT Hfew Hfl hsz hF3 hN
          go_wp2_with (first | (at_builtin; have _t := hap; refine app_run _ rfl (.tmp 28) (.tmp 31) 42 rfl rfl rfl hap ?_; clear hap))
          go_roundg (F.size - (pos + 1))
          case measure => exact hms
          case rel => exact ⟨pos + 1, n, rfl, hlt, HN.out.2.2, HN.out.1, HN.out.2.1⟩
        · obtain ⟨m, hm⟩ : ∃ m, (fldD c (x.toNat : Int)).length = m := ⟨_, rfl⟩
          rw [hm] at hpos hb2 ⊢
          have hz3 := hK3.size
          obtain ⟨g1, cap1, w4, hap, hown4, kk4⟩ := append_words (c := cap) hrow3 hcl hm hpos (by omega) (by simp only [maxLen]; omega) hz3
          have hnb : ¬ (u7.ownBlock = some (W2.heap.size + 1)) := fun e => by
            rcases hrow3.2 with ⟨e1, -⟩ | ⟨g', cap', cur, e1, -, e3, -⟩
            · rw [e1] at e
              cases e
            · rw [e1] at e
              have e2 : g' = W2.heap.size + 1 := Option.some.inj e
              rw [e2, hit3] at e3
              cases e3
          have HN : Hid (w4.ownsRow W2.heap.size 9 1 (.slice (some ⟨g1, 0, none⟩) (n + m) cap1) (n + m) ((ND :: fldsD c (F.data.toList.take (pos + 1))).map Value.string) ∧ Keeps W2 w4 (fun _ => False) ∧ w4.heap[W2.heap.size + 1]? = some (.stringIter F (pos + 1))) := by
            refine ⟨?_, hK3.trans kk4 (fun q hq e => ?_), (kk4.block _ (heap_lt hit3) hnb).trans hit3⟩
            · rw [HT.out, ← List.cons_append, List.map_append]
              exact hown4
            · have := (ownsRow_block hrow3 e).1
              omega
          clear hrow3 hK3 hit3 hn hb1 hb2 hb3 k3 HRw2 HKw2 Hit2 HT Hfew Hfl hsz hF3 hN hown4 kk4 hnb hz3 hcl hm hpos
          go_wp2_with (first | (at_builtin; have _t := hap; refine app_run _ rfl (.tmp 28) (.tmp 31) 42 rfl rfl rfl hap ?_; clear hap))
          go_roundg (F.size - (pos + 1))
          case measure => exact hms
          case rel => exact ⟨pos + 1, n + m, rfl, hlt, HN.out.2.2, HN.out.1, HN.out.2.1⟩
      · obtain rfl : pos = F.size := by omega
        have hN := fun ty => nextF_end (P := Tryd.prog) ty hit hlt
        have hrow := HRw.out
        rw [List.take_of_length_le (Nat.le_of_eq hsz)] at hrow
        have hn : (ND :: fldsD c F.data.toList).length = n := by
          have := hrow.1
          simpa using this
        have hlen := line_len HC.out hi
        rw [hND, hF] at hlen
        rcases hrow.2 with ⟨-, e0⟩ | ⟨g, cap, cur, rfl, hg0, hg, hcap, -⟩
        · exfalso
          simp at hn
          omega
        · have hJ := Tryd.strings_Join g 0 cap (ND :: fldsD c F.data.toList) ⟨#[32]⟩ wr (fun j z hj => by
            have hj2 : j < n := by
              rw [← hn]
              exact (List.getElem?_eq_some_iff.1 hj).1
            rw [Nat.zero_add, hrow.cellAt j (by omega), List.getElem?_map, hj]
            rfl) (heap_lt hg) (by
            have := flds_few HC.out F.data.toList
            rw [List.length_cons]
            have : 8388608 * F.data.toList.length ≤ 8388608 * 3 := Nat.mul_le_mul_left _ hF3
            omega) (by omega) (by
            show (Lib.join _ [32]).length ≤ _
            omega)
          rw [hn] at hJ
          obtain ⟨J, hJe⟩ : ∃ J, (⟨(Lib.join ((ND :: fldsD c F.data.toList).map (·.data.toList)) (⟨#[32]⟩ : ByteArray).data.toList).toArray⟩ : ByteArray) = J := ⟨_, rfl⟩
          rw [hJe] at hJ
          have hJs : J.size ≤ 1000000000 := by
            rw [← hJe]
            exact hlen
          have hsum : J.size + 1 ≤ 9223372036854775807 := by omega
          have HF : Hid (lineI i c = J ++ ⟨#[10]⟩) := by
            show lineI i c = _
            unfold lineI
            rw [hND, hF, ← hJe]
          have HK := hide (HK2.out.trans HKw.out (fun _ _ e => e))
          clear hrow hn hlen hg hg0 hcap hJe hJs hit HRw HKw hsz hF3 hfew hND hF
          go_wp2_with fail
          (with_reducible refine hJ.mono ?_)
          rintro e w5 ⟨rfl, hb5⟩
          clear hJ
          go_wp2_with fail
          go_ret
          refine ⟨Or.inl ⟨i, HIdx.out.1, HIdx.out.2.1, HIdx.out.2.2.1, ?_⟩, HK.out.trans (keeps_of_below hb5) (fun _ _ e => e)⟩
          exact congrArg (fun z => Ending.returned (Value.string z)) HF.out.symm
  · go_wp2_with fail
    go_ret
    exact ⟨Or.inr ⟨hno, rfl⟩, HK1.out.alloc _⟩
end Go.Proofs.YtfpiibccggjjpaaDoor
/-
  script: the library's Builder, written and read, out of what is laid for Join.
-/
namespace Go.Proofs
open Go.Shelf
theorem Tryd.laysW : Go.Proofs.Lays.n166 Tryd.prog Tryd.lays156_ren := { Tryd.lays156 with }
theorem Tryd.laysS : Go.Proofs.Lays.n169 Tryd.prog Tryd.lays156_ren := { Tryd.lays156 with }
end Go.Proofs
namespace Go.Proofs.YtfpiibccggjjpaaDoor
open Go.RowKit
theorem bld_write (B b : Nat) (l : List UInt8) (s : ByteArray) (w : World) (h : Lib.IsBuilder 56 5 B b (Lib.byteCells l) w) (hlen : l.length + s.size ≤ 140737488355328) (hBw : B ≤ w.heap.size) :
    Calls Tryd.prog 24 #[.pointer (some ⟨b, 0, none⟩), .string s] w fun e w' => e = .returned (.tuple #[.int .i64 s.size, .nilIface]) ∧ Lib.IsBuilder 56 5 B b (Lib.byteCells (l ++ s.data.toList)) w' ∧ Below B w w' := by
  have := Any.Builder_WriteString Tryd.laysW Tryd.Builder_Extra_156 B b (Lib.byteCells l) s w h (by simpa [Lib.byteCells] using hlen) hBw
  refine Calls.mono this ?_
  rintro e w' ⟨h1, h2, h3⟩
  refine ⟨h1, Or.inr ?_, h3⟩
  have e2 : Lib.byteCells l ++ Lib.strCells s = Lib.byteCells (l ++ s.data.toList) := by simp [Lib.byteCells, Lib.strCells]
  rw [← e2]
  exact h2
/-- What keeps all blocks keeps a builder. -/
theorem bld_keeps {T e : TypeId} {B b : Nat} {bs : List Value} {w w' : World} (h : Lib.IsBuilder T e B b bs w) (k : Keeps w w' (fun _ => False)) : Lib.IsBuilder T e B b bs w' := by
  rcases h with ⟨hB, v, hb, hown, hne⟩ | ⟨hB, v, hb, hown, hne⟩
  · exact Or.inl ⟨hB, v, (k.block b (heap_lt hb) id).trans hb, ownsRow_keeps hown k (fun _ _ e => e), hne⟩
  · exact Or.inr ⟨hB, v, (k.block b (heap_lt hb) id).trans hb, ownsRow_keeps hown k (fun _ _ e => e), hne⟩
theorem keeps_under {w w1 w2 : World} {B : Nat} (k : Keeps w w1 (fun _ => False)) (b : Below B w1 w2) (hB : w.heap.size ≤ B) : Keeps w w2 (fun _ => False) :=
  ⟨b.os.trans k.os, b.tape.trans k.tape, b.output.trans k.output, Nat.le_trans k.size b.size, fun i hi hn => (b.block i (by omega)).trans (k.block i hi hn)⟩
theorem bld_string (B b : Nat) (l : List UInt8) (w : World) (h : Lib.IsBuilder 56 5 B b (Lib.byteCells l) w) (hBw : B ≤ w.heap.size) :
    Calls Tryd.prog 26 #[.pointer (some ⟨b, 0, none⟩)] w fun e w' => e = .returned (.string ⟨l.toArray⟩) ∧ Below B w w' := Any.Builder_String_any Tryd.laysS Tryd.Builder_Extra_156 B b l w h hBw
end Go.Proofs.YtfpiibccggjjpaaDoor
/-
  script: a line as data, in one form; rows of overrides and of commands that lie somewhere; a script's text.
-/
namespace Go.Proofs.YtfpiibccggjjpaaDoor
open Go.RowKit
set_option linter.unusedVariables false

/-- Words, each with a blank ahead of it. -/
def tailD (ws : List ByteArray) : List UInt8 := ws.flatMap (fun x => 32 :: x.data.toList)
def lineW (i : Nat) (c : CmdD) : List UInt8 := (nmN i).data.toList ++ tailD (fldsD c (fmN i).data.toList)
theorem lineI_eq (i : Nat) (c : CmdD) : lineI i c = strOf (lineW i c ++ [10]) := by
  unfold lineI lineW
  rw [List.map_cons, Lib.join_cons]
  have e : Lib.joinTail [32] ((fldsD c (fmN i).data.toList).map (·.data.toList)) = tailD (fldsD c (fmN i).data.toList) := by
    unfold Lib.joinTail tailD
    rw [List.map_map, List.flatMap_def]
    rfl
  rw [e]
  exact strOf_append _ [10]
/-- A command's line with its end; none where there is no such command. -/
def cmdT (c : CmdD) : List UInt8 := if 1 ≤ c.op ∧ c.op ≤ 14 then lineW (c.op.toNat + 1) c ++ [10] else []
def limC (n : Int) : CmdD := ⟨0, 0, 0, 0, n, ⟨#[]⟩, ⟨#[]⟩, [], []⟩
abbrev Ovr := ByteArray × Nat
def ovC (o : Ovr) : CmdD := ⟨0, 0, o.2, 0, 0, o.1, ⟨#[]⟩, [], []⟩
def limT (n : Int) : List UInt8 := lineW 0 (limC n) ++ [10]
def ovT (o : Ovr) : List UInt8 := lineW 1 (ovC o) ++ [10]
theorem none_ints (w : World) : IntsIn w (.slice none 0 0) [] := ⟨Or.inl ⟨rfl, rfl⟩, fun n hn => by cases hn⟩
theorem lim_in (w : World) {n : Int} (h : -9223372036854775808 ≤ n ∧ n ≤ 9223372036854775807) : CmdIn w (limC n) (.slice none 0 0) (.slice none 0 0) :=
  ⟨none_ints w, none_ints w, by simp [limC], by simp [limC], by simp [limC], h, by simp [limC], by simp [limC], Nat.zero_le _, Nat.zero_le _⟩
theorem ov_in (w : World) {o : Ovr} (h1 : o.1.size ≤ 8388608) (h2 : o.2 < 18446744073709551616) : CmdIn w (ovC o) (.slice none 0 0) (.slice none 0 0) :=
  ⟨none_ints w, none_ints w, by simp [ovC], by simp [ovC], by simp [ovC], by simp [ovC], h2, by simp [ovC], h1, Nat.zero_le _⟩
theorem line_cmd (c : CmdD) (fs hs : Value) (w : World) (hc : CmdIn w c fs hs) (ht : TabW w) (hD : Deb w) (hR : RowsF w) : Calls Tryd.prog 25 #[.int .i64 3, .agg (c.vals fs hs)] w fun e w' => e = .returned (.string (strOf (cmdT c))) ∧ Keeps w w' (fun _ => False) := by
  refine (line_found 3 c fs hs w hc ht hD hR).mono ?_
  rintro e w' ⟨⟨i, hi, h1, h2, rfl⟩ | ⟨hno, rfl⟩, k⟩
  · refine ⟨?_, k⟩
    unfold kN at h1
    unfold oN at h2
    have h3 : 2 ≤ i := by
      split at h1
      · omega
      · split at h1
        · omega
        · omega
    rw [if_neg (by omega)] at h2
    unfold cmdT
    rw [if_pos (by omega), show c.op.toNat + 1 = i by omega, lineI_eq]
  · refine ⟨?_, k⟩
    have h4 : ¬ (1 ≤ c.op ∧ c.op ≤ 14) := fun q => by
      refine hno (c.op.toNat + 1) (by omega) ⟨?_, ?_⟩
      · unfold kN
        rw [if_neg (by omega), if_neg (by omega)]
      · unfold oN
        rw [if_neg (by omega)]
        omega
    unfold cmdT
    rw [if_neg h4]
    rfl
theorem line_lim (n : Int) (h : -9223372036854775808 ≤ n ∧ n ≤ 9223372036854775807) (w : World) (ht : TabW w) (hD : Deb w) (hR : RowsF w) : Calls Tryd.prog 25 #[.int .i64 1, .agg ((limC n).vals (.slice none 0 0) (.slice none 0 0))] w fun e w' => e = .returned (.string (strOf (limT n))) ∧ Keeps w w' (fun _ => False) := by
  refine (line_found 1 (limC n) _ _ w (lim_in w h) ht hD hR).mono ?_
  rintro e w' ⟨⟨i, hi, h1, h2, rfl⟩ | ⟨hno, rfl⟩, k⟩
  · refine ⟨?_, k⟩
    unfold kN at h1
    have h3 : i = 0 := by
      split at h1
      · assumption
      · split at h1 <;> omega
    subst h3
    rw [lineI_eq]
    rfl
  · exact absurd ⟨rfl, rfl⟩ (hno 0 (by omega))
theorem line_ov (o : Ovr) (h1 : o.1.size ≤ 8388608) (h2 : o.2 < 18446744073709551616) (w : World) (ht : TabW w) (hD : Deb w) (hR : RowsF w) : Calls Tryd.prog 25 #[.int .i64 2, .agg ((ovC o).vals (.slice none 0 0) (.slice none 0 0))] w fun e w' => e = .returned (.string (strOf (ovT o))) ∧ Keeps w w' (fun _ => False) := by
  refine (line_found 2 (ovC o) _ _ w (ov_in w h1 h2) ht hD hR).mono ?_
  rintro e w' ⟨⟨i, hi, h1, h2, rfl⟩ | ⟨hno, rfl⟩, k⟩
  · refine ⟨?_, k⟩
    unfold kN at h1
    have h3 : i = 1 := by
      split at h1
      · omega
      · split at h1
        · assumption
        · omega
    subst h3
    rw [lineI_eq]
    rfl
  · exact absurd ⟨rfl, rfl⟩ (hno 1 (by omega))

/-- What a command's line costs. -/
def costC (c : CmdD) : Nat := c.fl.length + c.hl.length + c.key.size + c.elem.size + 1
theorem tail_nums : ∀ l : List Int, (∀ n, n ∈ l → -9223372036854775808 ≤ n ∧ n ≤ 9223372036854775807) → (tailD (l.map numD)).length ≤ 22 * l.length
  | [], _ => by simp [tailD]
  | n :: r, h => by
    have ih := tail_nums r (fun m hm => h m (List.mem_cons_of_mem _ hm))
    have hz := num_size n (h n List.mem_cons_self).1 (h n List.mem_cons_self).2
    have e : (numD n).data.toList.length = (numD n).size := rfl
    unfold tailD at ih ⊢
    rw [List.map_cons, List.flatMap_cons, List.length_append, List.length_cons, List.length_cons]
    omega
theorem tail_one (x : ByteArray) : (tailD [x]).length = x.size + 1 := by
  simp [tailD]
theorem byte_sz2 (s : ByteArray) : (bytesD s).size ≤ 2 * s.size + 1 := by
  unfold bytesD
  split
  · show 1 ≤ 2 * s.size + 1
    omega
  · rw [strOf_size, hexL_length]
    have : s.data.toList.length = s.size := rfl
    omega
theorem fld_tail {w : World} {c : CmdD} {fs hs : Value} (h : CmdIn w c fs hs) (p : Int) : (tailD (fldD c p)).length ≤ 22 * costC c := by
  have l1 := tail_nums c.fl h.f.fits
  have l2 := tail_nums c.hl h.s.fits
  have a1 := num_size c.h h.h.1 h.h.2
  have a2 := num_size c.n h.n.1 h.n.2
  have a3 := word_sz h.u
  have a4 := word_sz h.v
  have a5 := byte_sz2 c.key
  have a6 := byte_sz2 c.elem
  unfold costC fldD
  by_cases p1 : p = 72
  · rw [if_pos p1, tail_one]; omega
  rw [if_neg p1]
  by_cases p2 : p = 78
  · rw [if_pos p2, tail_one]; omega
  rw [if_neg p2]
  by_cases p3 : p = 85
  · rw [if_pos p3, tail_one]; omega
  rw [if_neg p3]
  by_cases p4 : p = 86
  · rw [if_pos p4, tail_one]; omega
  rw [if_neg p4]
  by_cases p5 : p = 75
  · rw [if_pos p5, tail_one]; omega
  rw [if_neg p5]
  by_cases p6 : p = 69
  · rw [if_pos p6, tail_one]; omega
  rw [if_neg p6]
  by_cases p7 : p = 70
  · rw [if_pos p7]; omega
  rw [if_neg p7]
  by_cases p8 : p = 83
  · rw [if_pos p8]; omega
  rw [if_neg p8]
  simp [tailD]
theorem tail_append (a b : List ByteArray) : tailD (a ++ b) = tailD a ++ tailD b := by simp [tailD]
theorem flds_tail {w : World} {c : CmdD} {fs hs : Value} (h : CmdIn w c fs hs) : ∀ l : List UInt8, (tailD (fldsD c l)).length ≤ 22 * costC c * l.length
  | [] => by simp [fldsD, tailD]
  | x :: r => by
    have ih := flds_tail h r
    have := fld_tail h (x.toNat : Int)
    have e : fldsD c (x :: r) = fldD c (x.toNat : Int) ++ fldsD c r := by simp [fldsD]
    rw [e, tail_append, List.length_append, List.length_cons, Nat.mul_add]
    omega
theorem lineW_len {w : World} {c : CmdD} {fs hs : Value} (h : CmdIn w c fs hs) {i : Nat} (hi : i < 16) : (lineW i c).length + 1 ≤ 100 * costC c := by
  have a := flds_tail h (fmN i).data.toList
  have b := (form_few i hi).1
  have d : (nmN i).data.toList.length ≤ 7 := by
    have : ∀ k : Fin 16, (nmN k.1).data.toList.length ≤ 7 := by decide +kernel
    exact this ⟨i, hi⟩
  have e : 22 * costC c * (fmN i).data.toList.length ≤ 22 * costC c * 3 := Nat.mul_le_mul_left _ b
  have f : 1 ≤ costC c := by unfold costC; omega
  unfold lineW
  rw [List.length_append]
  omega
theorem cmdT_len {w : World} {c : CmdD} {fs hs : Value} (h : CmdIn w c fs hs) : (cmdT c).length ≤ 100 * costC c := by
  unfold cmdT
  split
  · rename_i q
    have := lineW_len h (i := c.op.toNat + 1) (by omega)
    simp
    omega
  · simp
theorem limT_len {n : Int} (h : -9223372036854775808 ≤ n ∧ n ≤ 9223372036854775807) : (limT n).length ≤ 100 := by
  have := lineW_len (lim_in default h) (i := 0) (by omega)
  unfold limT
  have e : costC (limC n) = 1 := rfl
  rw [e] at this
  simp
  omega
theorem ovT_len {o : Ovr} (h1 : o.1.size ≤ 8388608) (h2 : o.2 < 18446744073709551616) : (ovT o).length ≤ 100 * (o.1.size + 1) := by
  have := lineW_len (ov_in default h1 h2) (i := 1) (by omega)
  unfold ovT
  have e : costC (ovC o) = o.1.size + 1 := by
    show 0 + 0 + o.1.size + 0 + 1 = _
    omega
  rw [e] at this
  simp
  omega
end Go.Proofs.YtfpiibccggjjpaaDoor
/-
  script: rows of overrides and of commands that lie somewhere; a script's text as data.
-/
namespace Go.Proofs.YtfpiibccggjjpaaDoor
open Go.RowKit
set_option linter.unusedVariables false

theorem Tryd.infoOv : (Tryd.prog.info? 49).map (fun i => (i.zero, i.size, i.bytes)) = some (some (.agg #[.string ⟨#[]⟩, .int .u64 0]), 2, 24) := by kernel_rfl
theorem Tryd.infoCm : (Tryd.prog.info? 33).map (fun i => (i.zero, i.size, i.bytes)) = some (some (.agg #[.int .i64 0, .int .i64 0, .slice none 0 0, .slice none 0 0, .int .u64 0, .int .u64 0, .int .i64 0, .string ⟨#[]⟩, .string ⟨#[]⟩]), 9, 120) := by kernel_rfl
def ovCells : List Ovr → List Value
  | [] => []
  | o :: t => .string o.1 :: .int .u64 (o.2 : Int) :: ovCells t
theorem ovCells_length (os : List Ovr) : (ovCells os).length = os.length * 2 := by
  induction os with
  | nil => rfl
  | cons o t ih => simp [ovCells, ih]; omega
theorem ovCells_at (os : List Ovr) (j : Nat) (hj : j < os.length) : (ovCells os)[j * 2]? = some (.string os[j].1) ∧ (ovCells os)[j * 2 + 1]? = some (.int .u64 (os[j].2 : Int)) := by
  induction os generalizing j with
  | nil => simp at hj
  | cons o t ih =>
    cases j with
    | zero => exact ⟨rfl, rfl⟩
    | succ j =>
      have := ih j (by simpa using hj)
      rw [show (j + 1) * 2 = j * 2 + 2 by omega]
      exact this
theorem ovCells_one (os : List Ovr) : ∀ u ∈ ovCells os, u.oneCell' = true := by
  induction os with
  | nil => intro u hu; cases hu
  | cons o t ih =>
    intro u hu
    simp only [ovCells, List.mem_cons] at hu
    rcases hu with rfl | rfl | hu
    · rfl
    · rfl
    · exact ih u hu
/-- A command and the values of its two lists. -/
structure CmV where
  c : CmdD
  fs : Value
  hs : Value
def CmV.cells (x : CmV) : List Value := [.int .i64 x.c.op, .int .i64 x.c.h, x.fs, x.hs, .int .u64 (x.c.u : Int), .int .u64 (x.c.v : Int), .int .i64 x.c.n, .string x.c.key, .string x.c.elem]
def cmCells : List CmV → List Value
  | [] => []
  | x :: t => x.cells ++ cmCells t
theorem cmCells_length (L : List CmV) : (cmCells L).length = L.length * 9 := by
  induction L with
  | nil => rfl
  | cons o t ih => simp [cmCells, CmV.cells, ih]; omega
theorem cmCells_at (L : List CmV) (j : Nat) (hj : j < L.length) (i : Nat) (hi : i < 9) : (cmCells L)[j * 9 + i]? = L[j].cells[i]? := by
  induction L generalizing j with
  | nil => simp at hj
  | cons o t ih =>
    cases j with
    | zero =>
      rw [Nat.zero_mul, Nat.zero_add]
      show (o.cells ++ cmCells t)[i]? = o.cells[i]?
      rw [List.getElem?_append_left (by simp [CmV.cells]; omega)]
    | succ j =>
      have hj2 : j < t.length := by simpa using hj
      have := ih j hj2
      rw [show (j + 1) * 9 + i = 9 + (j * 9 + i) by omega]
      show (o.cells ++ cmCells t)[9 + (j * 9 + i)]? = t[j].cells[i]?
      rw [List.getElem?_append_right (by simp [CmV.cells]), ← this]
      congr 1
      simp [CmV.cells]
/-- A row of structs that lies somewhere. -/
def RowIn (w : World) (v : Value) (n : Nat) (xs : List Value) : Prop := (v = .slice none 0 0 ∧ n = 0) ∨ ∃ (a : Addr) (cap : Nat), v = .slice (some a) n cap ∧ ∀ j u, xs[j]? = some u → w.cell? (a.add j) = some u
theorem RowIn.keeps {w w' : World} {v : Value} {n : Nat} {xs : List Value} (h : RowIn w v n xs) (k : Keeps w w' (fun _ => False)) : RowIn w' v n xs := by
  rcases h with h | ⟨a, cap, e, hc⟩
  · exact Or.inl h
  · exact Or.inr ⟨a, cap, e, fun j u hu => keeps_cell k (hc j u hu)⟩
theorem RowIn.form {w : World} {v : Value} {n : Nat} {xs : List Value} (h : RowIn w v n xs) : ∃ so cap, v = .slice so n cap := by
  rcases h with ⟨rfl, rfl⟩ | ⟨a, cap, e, hc⟩
  · exact ⟨none, 0, rfl⟩
  · exact ⟨some a, cap, e⟩
theorem plainA {w : World} {a : Addr} {v : Value} (h : w.cell? (a.add 0) = some v) : ∃ bb oo, a = ⟨bb, oo, none⟩ ∧ bb < w.heap.size := by
  obtain ⟨bb, oo, sp⟩ := a
  have h' : w.cell? ⟨bb, oo, sp⟩ = some v := h
  have hlt : bb < w.heap.size := by
    rcases Nat.lt_or_ge bb w.heap.size with h1 | h1
    · exact h1
    · simp [World.cell?, Array.getElem?_eq_none h1] at h'
  cases sp with
  | none => exact ⟨bb, oo, rfl, hlt⟩
  | some s =>
    exfalso
    unfold World.cell? at h'
    split at h' <;> simp at h'
theorem RowIn.some {w : World} {so : Option Addr} {n cap : Nat} {xs : List Value} (h : RowIn w (.slice so n cap) n xs) (h0 : 0 < n) (hx : 0 < xs.length) : ∃ b o, so = some ⟨b, o, none⟩ ∧ b < w.heap.size ∧ ∀ j u, xs[j]? = Option.some u → w.cell? ⟨b, o + j, none⟩ = Option.some u := by
  rcases h with ⟨e, rfl⟩ | ⟨a, c, e, hc⟩
  · omega
  · injection e with e1 e2 e3
    subst e1
    obtain ⟨b, o, rfl, hb⟩ := plainA (hc 0 xs[0] (List.getElem?_eq_getElem hx))
    refine ⟨b, o, rfl, hb, fun j u hu => ?_⟩
    have := hc j u hu
    rwa [addr_add] at this
structure OvIn (w : World) (v : Value) (L : List Ovr) : Prop where
  row : RowIn w v L.length (ovCells L)
  ok : ∀ x ∈ L, x.1.size ≤ 8388608 ∧ x.2 < 18446744073709551616
structure CmIn (w : World) (v : Value) (L : List CmV) : Prop where
  row : RowIn w v L.length (cmCells L)
  ok : ∀ x ∈ L, CmdIn w x.c x.fs x.hs
theorem OvIn.keeps {w w' : World} {v : Value} {L : List Ovr} (h : OvIn w v L) (k : Keeps w w' (fun _ => False)) : OvIn w' v L := ⟨h.row.keeps k, h.ok⟩
theorem CmIn.keeps {w w' : World} {v : Value} {L : List CmV} (h : CmIn w v L) (k : Keeps w w' (fun _ => False)) : CmIn w' v L := ⟨h.row.keeps k, fun x hx => (h.ok x hx).keeps k⟩
theorem OvIn.at {w : World} {so : Option Addr} {cap : Nat} {L : List Ovr} (h : OvIn w (.slice so L.length cap) L) {i : Nat} (hi : i < L.length) :
    ∃ b o, so = some ⟨b, o, none⟩ ∧ w.cell? ⟨b, o + i * 2, none⟩ = some (.string L[i].1) ∧ w.cell? ⟨b, o + i * 2 + 1, none⟩ = some (.int .u64 (L[i].2 : Int)) := by
  obtain ⟨b, o, rfl, -, hc⟩ := h.row.some (by omega) (by rw [ovCells_length]; omega)
  obtain ⟨e1, e2⟩ := ovCells_at L i hi
  exact ⟨b, o, rfl, hc _ _ e1, by have := hc _ _ e2; rwa [← Nat.add_assoc] at this⟩
theorem CmIn.at {w : World} {so : Option Addr} {cap : Nat} {L : List CmV} (h : CmIn w (.slice so L.length cap) L) {i : Nat} (hi : i < L.length) :
    ∃ b o, so = some ⟨b, o, none⟩ ∧ ∀ j u, L[i].cells[j]? = Option.some u → w.cell? ⟨b, o + i * 9 + j, none⟩ = Option.some u := by
  obtain ⟨b, o, rfl, -, hc⟩ := h.row.some (by omega) (by rw [cmCells_length]; omega)
  refine ⟨b, o, rfl, fun j u hu => ?_⟩
  have hj : j < 9 := (List.getElem?_eq_some_iff.1 hu).1
  have := hc (i * 9 + j) u ((cmCells_at L i hi j hj).trans hu)
  rwa [← Nat.add_assoc] at this
/-- A script, as data. -/
def textD (n : Int) (os : List Ovr) (cs : List CmdD) : List UInt8 := limT n ++ os.flatMap ovT ++ cs.flatMap cmdT
def costO (os : List Ovr) : Nat := (os.map (fun o => o.1.size + 1)).sum
def costs (cs : List CmdD) : Nat := (cs.map costC).sum
theorem sum_take {l : List Nat} (i : Nat) : (l.take i).sum ≤ l.sum := by
  conv => rhs; rw [← List.take_append_drop i l, List.sum_append]
  omega
theorem ovs_len {os : List Ovr} (h : ∀ x ∈ os, x.1.size ≤ 8388608 ∧ x.2 < 18446744073709551616) : (os.flatMap ovT).length ≤ 100 * costO os := by
  induction os with
  | nil => simp [costO]
  | cons o t ih =>
    have a := ih (fun x hx => h x (List.mem_cons_of_mem _ hx))
    obtain ⟨h1, h2⟩ := h o List.mem_cons_self
    have b := ovT_len h1 h2
    unfold costO at a ⊢
    rw [List.flatMap_cons, List.length_append, List.map_cons, List.sum_cons]
    omega
theorem cms_len {w : World} {L : List CmV} (h : ∀ x ∈ L, CmdIn w x.c x.fs x.hs) : ((L.map (·.c)).flatMap cmdT).length ≤ 100 * costs (L.map (·.c)) := by
  induction L with
  | nil => simp [costs]
  | cons o t ih =>
    have a := ih (fun x hx => h x (List.mem_cons_of_mem _ hx))
    have b := cmdT_len (h o List.mem_cons_self)
    unfold costs at a ⊢
    rw [List.map_cons, List.flatMap_cons, List.length_append, List.map_cons, List.sum_cons]
    omega
theorem flat_take {α : Type} {f : α → List UInt8} {l : List α} {i : Nat} (h : i < l.length) : (l.take (i + 1)).flatMap f = (l.take i).flatMap f ++ f l[i] := by
  rw [List.take_succ_eq_append_getElem h, List.flatMap_append]
  simp
theorem flat_le {α : Type} (f : α → List UInt8) (l : List α) (i : Nat) : ((l.take i).flatMap f).length ≤ (l.flatMap f).length := by
  conv => rhs; rw [← List.take_append_drop i l, List.flatMap_append, List.length_append]
  omega
end Go.Proofs.YtfpiibccggjjpaaDoor
/-
  script: lines read one after the other, as data; what is printed is read as it was.
-/
namespace Go.Proofs.YtfpiibccggjjpaaDoor
open Go.RowKit
set_option linter.unusedVariables false

def rowI (nm : List UInt8) : Option Nat := (List.range 16).find? (fun i => decide ((nmN i).data.toList = nm))
theorem nm_inj : ∀ i j : Fin 16, (nmN i.1).data.toList = (nmN j.1).data.toList → i = j := by decide +kernel
theorem rowI_some {nm : List UInt8} {i : Nat} (hi : i < 16) (h : (nmN i).data.toList = nm) : rowI nm = some i := by
  unfold rowI
  cases hf : (List.range 16).find? (fun i => decide ((nmN i).data.toList = nm)) with
  | none =>
    have := List.find?_eq_none.1 hf i (List.mem_range.2 hi)
    simp [h] at this
  | some j =>
    have h1 := List.find?_some hf
    have h2 := List.mem_range.1 (List.mem_of_find?_eq_some hf)
    simp only [decide_eq_true_eq] at h1
    have := nm_inj ⟨j, h2⟩ ⟨i, hi⟩ (h1.trans h.symm)
    simp only [Fin.mk.injEq] at this
    rw [this]
theorem rowI_none {nm : List UInt8} (h : ∀ i, i < 16 → (nmN i).data.toList ≠ nm) : rowI nm = none := by
  unfold rowI
  exact List.find?_eq_none.2 (fun i hi => by simpa using h i (List.mem_range.1 hi))
def mayF (last k : Int) : Bool := if k = 1 then decide (last = 0) else (decide (last ≠ 0) && decide (last ≤ k))
def many (i : Nat) : Bool := i == 2 || i == 11
def fitN (i n : Nat) : Bool := if many i then decide ((fmN i).size ≤ n + 1) else decide (n = (fmN i).size)
def rowRd (i : Nat) (fs : List (List UInt8)) : CmdD × Int := rdFs { zeroC with op := oN i } (fmN i).data.toList fs
/-- What a line with words says. -/
def lnR (last : Int) (nm : List UInt8) (fs : List (List UInt8)) : Int × CmdD × Int :=
  match rowI nm with
  | none => (0, zeroC, 160)
  | some i => if (mayF last (kN i) && fitN i fs.length) = true then (if (rowRd i fs).2 = 0 then (kN i, (rowRd i fs).1, 0) else (0, zeroC, (rowRd i fs).2)) else (0, zeroC, 160)
/-- A script under way. -/
structure PSt where
  last : Int
  lim : Int
  os : List Ovr
  cs : List CmdD
def PSt.lay (s : PSt) (k : Int) (c : CmdD) : PSt := if k = 1 then ⟨k, c.n, s.os, s.cs⟩ else if k = 2 then ⟨k, s.lim, s.os ++ [(c.key, c.u)], s.cs⟩ else if k = 3 then ⟨k, s.lim, s.os, s.cs ++ [c]⟩ else ⟨k, s.lim, s.os, s.cs⟩
def psF : PSt → Nat → List (List UInt8) → PSt ⊕ (Nat × Int)
  | s, _, [] => .inl s
  | s, i, l :: r => match wdsD l with
    | [] => psF s (i + 1) r
    | nm :: fs => if (lnR s.last nm fs).2.2 = 0 then psF (s.lay (lnR s.last nm fs).1 (lnR s.last nm fs).2.1) (i + 1) r else .inr (i + 1, (lnR s.last nm fs).2.2)
def PSt.zero : PSt := ⟨0, 0, [], []⟩
def parseD (t : List UInt8) : PSt ⊕ (Nat × Int) :=
  if 1048576 < t.length then .inr (0, 160)
  else match psF PSt.zero 0 (linesD t) with
    | .inl s => if s.last = 0 then .inr ((linesD t).length + 1, 160) else .inl s
    | .inr x => .inr x

structure CmdOk (c : CmdD) : Prop where
  h : Fit c.h
  n : Fit c.n
  f : ∀ n, n ∈ c.fl → Fit n
  s : ∀ n, n ∈ c.hl → Fit n
  u : c.u < 18446744073709551616
  v : c.v < 18446744073709551616
theorem CmdIn.okD {w : World} {c : CmdD} {fs hs : Value} (h : CmdIn w c fs hs) : CmdOk c := ⟨h.h, h.n, h.f.fits, h.s.fits, h.u, h.v⟩
theorem lim_ok {n : Int} (h : Fit n) : CmdOk (limC n) := ⟨by simp [limC, Fit], h, by simp [limC], by simp [limC], by simp [limC], by simp [limC]⟩
theorem ov_ok {o : Ovr} (h : o.2 < 18446744073709551616) : CmdOk (ovC o) := ⟨by simp [ovC, Fit], by simp [ovC, Fit], by simp [ovC], by simp [ovC], h, by simp [ovC]⟩

theorem wd_dec (u : Nat) : ∀ y, y ∈ Lib.decDigits u → blank y = false ∧ y ≠ 10 ∧ y ≠ 35 := fun y hy => by
  have := dec_dig _ u (Nat.le_refl _) y hy
  have h : ∀ k : Fin 256, 48 ≤ k.1 ∧ k.1 ≤ 57 → blank (UInt8.ofNat k.1) = false ∧ UInt8.ofNat k.1 ≠ 10 ∧ UInt8.ofNat k.1 ≠ 35 := by decide +kernel
  have := h ⟨y.toNat, y.toNat_lt⟩ this
  simpa using this
theorem wd_of {x : List UInt8} (h0 : x ≠ []) (h : ∀ y, y ∈ x → blank y = false ∧ y ≠ 10 ∧ y ≠ 35) : Wd x := ⟨h0, fun y hy => ⟨(h y hy).1, (h y hy).2.1⟩, fun e => (h 35 (List.mem_of_getElem? e)).2.2 rfl⟩
theorem wd_num (n : Int) : Wd (numD n).data.toList := by
  unfold numD
  rw [strOf_data]
  unfold Lib.itoa
  split
  · refine wd_of (by simp) (fun y hy => ?_)
    rcases List.mem_cons.1 hy with rfl | hy
    · decide
    · exact wd_dec _ y hy
  · exact wd_of (dec_ne _) (wd_dec _)
theorem hexC_wd {v : Nat} (h : v < 16) : blank (hexC v) = false ∧ hexC v ≠ 10 ∧ hexC v ≠ 35 := by
  have : ∀ n : Fin 16, blank (hexC n.1) = false ∧ hexC n.1 ≠ 10 ∧ hexC n.1 ≠ 35 := by decide +kernel
  exact this ⟨v, h⟩
theorem wd_wrd (u : Nat) : Wd (wordD u).data.toList := by
  unfold wordD
  rw [strOf_data]
  refine wd_of (by simp) (fun y hy => ?_)
  rcases List.mem_cons.1 hy with rfl | hy
  · decide
  rcases List.mem_cons.1 hy with rfl | hy
  · decide
  obtain ⟨v, hv, rfl⟩ := hexW_mem u u (Nat.le_refl _) y hy
  exact hexC_wd hv
theorem wd_byt (s : ByteArray) : Wd (bytesD s).data.toList := by
  unfold bytesD
  split
  · refine wd_of (by simp) (fun y hy => ?_)
    obtain rfl : y = 45 := by simpa using hy
    decide
  · rename_i h
    rw [strOf_data]
    refine wd_of (fun e => ?_) (fun y hy => ?_)
    · have := congrArg List.length e
      rw [hexL_length] at this
      have h1 : 0 < s.data.toList.length := List.length_pos_iff.2 h
      have z : ([] : List UInt8).length = 0 := rfl
      omega
    · obtain ⟨v, hv, rfl⟩ := hex_mem hy
      exact hexC_wd hv
theorem wd_name {i : Nat} (hi : i < 16) : Wd (nmN i).data.toList := by
  have h : ∀ k : Fin 16, (nmN k.1).data.toList ≠ [] ∧ ∀ y, y ∈ (nmN k.1).data.toList → blank y = false ∧ y ≠ 10 ∧ y ≠ 35 := by decide +kernel
  exact wd_of (h ⟨i, hi⟩).1 (h ⟨i, hi⟩).2
theorem wd_fld (c : CmdD) (p : Int) : ∀ x, x ∈ fldD c p → Wd x.data.toList := fun x hx => by
  have num : ∀ l : List Int, x ∈ l.map numD → Wd x.data.toList := fun l q => by
    obtain ⟨n, -, rfl⟩ := List.mem_map.1 q
    exact wd_num n
  unfold fldD at hx
  split at hx
  · obtain rfl : x = numD c.h := by simpa using hx
    exact wd_num _
  split at hx
  · obtain rfl : x = numD c.n := by simpa using hx
    exact wd_num _
  split at hx
  · obtain rfl : x = wordD c.u := by simpa using hx
    exact wd_wrd _
  split at hx
  · obtain rfl : x = wordD c.v := by simpa using hx
    exact wd_wrd _
  split at hx
  · obtain rfl : x = bytesD c.key := by simpa using hx
    exact wd_byt _
  split at hx
  · obtain rfl : x = bytesD c.elem := by simpa using hx
    exact wd_byt _
  split at hx
  · exact num _ hx
  split at hx
  · exact num _ hx
  · cases hx
def fldW (i : Nat) (c : CmdD) : List (List UInt8) := (fldsD c (fmN i).data.toList).map (fun x : ByteArray => x.data.toList)
theorem lineW_eq (i : Nat) (c : CmdD) : lineW i c = (nmN i).data.toList ++ (fldW i c).flatMap (fun x => 32 :: x) := by
  unfold lineW tailD fldW
  rw [List.flatMap_map]
theorem fldW_wd (i : Nat) (c : CmdD) : ∀ x, x ∈ fldW i c → Wd x := fun x hx => by
  obtain ⟨b, hb, rfl⟩ := List.mem_map.1 hx
  obtain ⟨p, -, hp⟩ := List.mem_flatMap.1 hb
  exact wd_fld c _ b hp
/-- The words of a printed line. -/
theorem words_lineW {i : Nat} (hi : i < 16) (c : CmdD) : wdsD (lineW i c) = (nmN i).data.toList :: fldW i c ∧ (10 : UInt8) ∉ lineW i c := by
  rw [lineW_eq]
  exact ⟨words_line _ _ (wd_name hi) (fldW_wd i c), no_end _ _ (wd_name hi) (fldW_wd i c)⟩
/-- What of a command its line tells. -/
def keepF (c d : CmdD) (p : Int) : CmdD :=
  if p = 72 then { d with h := c.h } else if p = 78 then { d with n := c.n } else if p = 85 then { d with u := c.u } else if p = 86 then { d with v := c.v } else if p = 75 then { d with key := c.key } else if p = 69 then { d with elem := c.elem } else if p = 70 then { d with fl := c.fl } else if p = 83 then { d with hl := c.hl } else d
def tellI (i : Nat) (c : CmdD) : CmdD := (fmN i).data.toList.foldl (fun d x => keepF c d (x.toNat : Int)) { zeroC with op := oN i }
theorem fit_fld {i : Nat} (hi : i < 16) (c : CmdD) : fitN i (fldW i c).length = true := by
  have : ∀ k, k < 16 → fitN k (fldW k c).length = true := by
    intro k hk
    have hf : ∀ l : List Int, l.length ≤ l.length := fun _ => Nat.le_refl _
    match k, hk with
    | 0, _ => rfl
    | 1, _ => rfl
    | 2, _ =>
      have e : (fldW 2 c).length = c.fl.length + 2 := by
        show (([wordD c.u] ++ ([numD c.n] ++ (c.fl.map numD ++ []))).map (fun x : ByteArray => x.data.toList)).length = _
        simp
      rw [e]
      show decide ((fmN 2).size ≤ c.fl.length + 2 + 1) = true
      have e2 : (fmN 2).size = 3 := rfl
      rw [e2]
      simp
    | 3, _ => rfl
    | 4, _ => rfl
    | 5, _ => rfl
    | 6, _ => rfl
    | 7, _ => rfl
    | 8, _ => rfl
    | 9, _ => rfl
    | 10, _ => rfl
    | 11, _ =>
      have e2 : (fmN 11).size = 1 := rfl
      show decide ((fmN 11).size ≤ (fldW 11 c).length + 1) = true
      rw [e2]
      simp
    | 12, _ => rfl
    | 13, _ => rfl
    | 14, _ => rfl
    | 15, _ => rfl
    | k + 16, h => exact absurd h (by omega)
  exact this i hi
theorem rd_fld {i : Nat} (hi : i < 16) {c : CmdD} (hc : CmdOk c) : rowRd i (fldW i c) = (tellI i c, 0) := by
  have n1 := numE_num c.h hc.h
  have n2 := numE_num c.n hc.n
  have n3 := wrdE_word c.u hc.u
  have n4 := wrdE_word c.v hc.v
  have n5 := bytE_bytes c.key
  have n6 := bytE_bytes c.elem
  have n7 := numsE_nums c.fl hc.f
  have n8 := numsE_nums c.hl hc.s
  have m7 : ∀ l : List Int, (l.map numD).map (fun x : ByteArray => x.data.toList) = l.map (fun n => (numD n).data.toList) := fun l => by rw [List.map_map]; rfl
  have : ∀ k, k < 16 → rowRd k (fldW k c) = (tellI k c, 0) := by
    intro k hk
    match k, hk with
    | 0, _ =>
      show rdFs { zeroC with op := oN 0 } [78] [(numD c.n).data.toList] = _
      simp [rdFs, rdF, n2, tellI, fmN, fmL, keepF, zeroC]
    | 1, _ =>
      show rdFs { zeroC with op := oN 1 } [75, 85] [(bytesD c.key).data.toList, (wordD c.u).data.toList] = _
      simp [rdFs, rdF, n3, n5, tellI, fmN, fmL, keepF, zeroC]
    | 2, _ =>
      have e : fldW 2 c = (wordD c.u).data.toList :: (numD c.n).data.toList :: c.fl.map (fun n => (numD n).data.toList) := by
        show ([wordD c.u] ++ ([numD c.n] ++ (c.fl.map numD ++ []))).map (fun x : ByteArray => x.data.toList) = _
        rw [List.append_nil]
        simp
      rw [e]
      show rdFs { zeroC with op := oN 2 } [85, 78, 70] _ = _
      simp [rdFs, rdF, n2, n3, n7, tellI, fmN, fmL, keepF, zeroC]
    | 3, _ =>
      show rdFs { zeroC with op := oN 3 } [72, 75] [(numD c.h).data.toList, (bytesD c.key).data.toList] = _
      simp [rdFs, rdF, n1, n5, tellI, fmN, fmL, keepF, zeroC]
    | 4, _ =>
      show rdFs { zeroC with op := oN 4 } [72, 75, 69] [(numD c.h).data.toList, (bytesD c.key).data.toList, (bytesD c.elem).data.toList] = _
      simp [rdFs, rdF, n1, n5, n6, tellI, fmN, fmL, keepF, zeroC]
    | 5, _ =>
      show rdFs { zeroC with op := oN 5 } [72, 75] [(numD c.h).data.toList, (bytesD c.key).data.toList] = _
      simp [rdFs, rdF, n1, n5, tellI, fmN, fmL, keepF, zeroC]
    | 6, _ =>
      show rdFs { zeroC with op := oN 6 } [72] [(numD c.h).data.toList] = _
      simp [rdFs, rdF, n1, tellI, fmN, fmL, keepF, zeroC]
    | 7, _ =>
      show rdFs { zeroC with op := oN 7 } [72, 85] [(numD c.h).data.toList, (wordD c.u).data.toList] = _
      simp [rdFs, rdF, n1, n3, tellI, fmN, fmL, keepF, zeroC]
    | 8, _ =>
      show rdFs { zeroC with op := oN 8 } [72] [(numD c.h).data.toList] = _
      simp [rdFs, rdF, n1, tellI, fmN, fmL, keepF, zeroC]
    | 9, _ =>
      show rdFs { zeroC with op := oN 9 } [72, 85, 86] [(numD c.h).data.toList, (wordD c.u).data.toList, (wordD c.v).data.toList] = _
      simp [rdFs, rdF, n1, n3, n4, tellI, fmN, fmL, keepF, zeroC]
    | 10, _ =>
      show rdFs { zeroC with op := oN 10 } [72] [(numD c.h).data.toList] = _
      simp [rdFs, rdF, n1, tellI, fmN, fmL, keepF, zeroC]
    | 11, _ =>
      have e : fldW 11 c = c.hl.map (fun n => (numD n).data.toList) := by
        show (c.hl.map numD ++ []).map (fun x : ByteArray => x.data.toList) = _
        rw [List.append_nil]
        simp
      rw [e]
      show rdFs { zeroC with op := oN 11 } [83] _ = _
      simp [rdFs, rdF, n8, tellI, fmN, fmL, keepF, zeroC]
    | 12, _ => rfl
    | 13, _ =>
      show rdFs { zeroC with op := oN 13 } [72, 75] [(numD c.h).data.toList, (bytesD c.key).data.toList] = _
      simp [rdFs, rdF, n1, n5, tellI, fmN, fmL, keepF, zeroC]
    | 14, _ =>
      show rdFs { zeroC with op := oN 14 } [72] [(numD c.h).data.toList] = _
      simp [rdFs, rdF, n1, tellI, fmN, fmL, keepF, zeroC]
    | 15, _ => rfl
    | k + 16, h => exact absurd h (by omega)
  exact this i hi
/-- A printed line, read. -/
theorem lnR_line {i : Nat} (hi : i < 16) {c : CmdD} (hc : CmdOk c) {last : Int} (hm : mayF last (kN i) = true) : lnR last (nmN i).data.toList (fldW i c) = (kN i, tellI i c, 0) := by
  unfold lnR
  rw [rowI_some hi rfl]
  simp only [hm, fit_fld hi c, Bool.and_self, if_true, rd_fld hi hc]
end Go.Proofs.YtfpiibccggjjpaaDoor
