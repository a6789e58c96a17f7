import Derived.Deep.AppendSrc
import Derived.Deep.RegionHeldLaw
import Derived.Test.YtfpiibccggjjpaaDoorUn10
/-
  script: the law's cleaned, its walk.
-/
namespace Go.Proofs.YtfpiibccggjjpaaDoor
open Go.RowKit
set_option linter.unusedVariables false

theorem tellC_yes {c : CmdD} (h : 1 ≤ c.op ∧ c.op ≤ 14) : tellC c = some (tellI (c.op.toNat + 1) c) := by unfold tellC; rw [if_pos h]
theorem tellC_no {c : CmdD} (h : ¬ (1 ≤ c.op ∧ c.op ≤ 14)) : tellC c = none := by unfold tellC; rw [if_neg h]
theorem tellF_slice (c : CmdD) (so : Option Addr) (n k : Nat) : ∃ s1 n1 c1, tellF c (.slice so n k) = .slice s1 n1 c1 := by
  unfold tellF
  split
  · exact ⟨_, _, _, rfl⟩
  · exact ⟨_, _, _, rfl⟩
theorem tellH_slice (c : CmdD) (so : Option Addr) (n k : Nat) : ∃ s1 n1 c1, tellH c (.slice so n k) = .slice s1 n1 c1 := by
  unfold tellH
  split
  · exact ⟨_, _, _, rfl⟩
  · exact ⟨_, _, _, rfl⟩
set_option maxRecDepth 100000 in
set_option maxHeartbeats 8000000 in
theorem cleaned_any (n : Int) (vo vc : Value) (os : List Ovr) (L : List CmV) (w : World) (ho : OvIn w vo os) (hc : CmIn w vc L) (hL : L.length ≤ 4194304) : Calls Tryd.prog 15 #[.agg #[.int .i64 n, vo, vc]] w fun e w' => CdP w n vo ((L.map (·.c)).filterMap tellC) e w' := by
  obtain ⟨so, co, rfl⟩ := ho.row.form
  obtain ⟨sc, cc, rfl⟩ := hc.row.form
  have HC := hide hc
  have HL := hide hL
  obtain ⟨CS, hCS⟩ : ∃ CS, CS = (L.map (·.c)).filterMap tellC := ⟨_, rfl⟩
  rw [← hCS]
  have HCS := hide hCS
  clear ho hc hL hCS
  go_enter Tryd.func15, Tryd.ntmps15
  go_upto_region 2 with fail
  refine alloc3r (P := fun W => Code.wp _ _ _ _ W) fun W0 hb0 hb1 hb2 k0 => ?_
  obtain ⟨c0, c1, c2⟩ := three_cells9 hb0
  have H0 : Hid (ClS w n (.slice so os.length co) (.slice sc L.length cc) (.slice none 0 0) [] W0) := ⟨hb0, hb1, hb2, ⟨rfl, Or.inl ⟨rfl, rfl⟩⟩, k0⟩
  clear hb0 hb1 hb2 k0
  go_wp2_with fail
  clear c0 c1 c2
  go_loopw [16] (fun v16 wr => ∃ (i : Nat) (v2 : Value) (L2 : List CmV), v16 = .int .i64 (i : Int) ∧ i ≤ L.length ∧ ClS w n (.slice so os.length co) (.slice sc L.length cc) v2 L2 wr ∧ Hid (L2.map (·.c) = ((L.take i).map (·.c)).filterMap tellC ∧ L2.length ≤ i ∧ ∀ x, x ∈ L2 → CmdIn w x.c x.fs x.hs)) (fun v16 _ => L.length - (intOf v16).toNat)
  case atStart => exact ⟨0, _, [], rfl, Nat.zero_le _, H0.out, ⟨rfl, Nat.le_refl _, fun x hx => by cases hx⟩⟩
  case round =>
    obtain ⟨i, v2, L2, rfl, hi, hp, HI⟩ := hrel
    by_cases hlt : i < L.length
    · have hlt'' : (i : Int) < (L.length : Int) := by omega
      obtain ⟨b, o, rfl, hcl⟩ := (HC.out.keeps hp.keeps).at hlt
      have hci := HC.out.ok _ (List.getElem_mem hlt)
      have hT : ((L.take (i + 1)).map (·.c)).filterMap tellC = ((L.take i).map (·.c)).filterMap tellC ++ (tellC L[i].c).toList := by
        rw [List.take_succ_eq_append_getElem hlt, List.map_append, List.filterMap_append]
        congr 1
      obtain ⟨x, hx⟩ : ∃ x, L[i] = x := ⟨_, rfl⟩
      rw [hx] at hcl hci hT
      obtain ⟨sf, nf, cf, ef⟩ := hci.f.slice
      obtain ⟨sh, nh, ch, eh⟩ := hci.s.slice
      obtain ⟨cd, fs, hs⟩ := x
      dsimp only at ef eh hci hT
      subst ef eh
      have q0 := hcl 0 _ rfl
      have q1 := hcl 1 _ rfl
      have q2 := hcl 2 _ rfl
      have q3 := hcl 3 _ rfl
      have q4 := hcl 4 _ rfl
      have q5 := hcl 5 _ rfl
      have q6 := hcl 6 _ rfl
      have q7 := hcl 7 _ rfl
      have q8 := hcl 8 _ rfl
      rw [Nat.add_zero] at q0
      have HP := hide hp
      have Hms : Hid (L.length - (i + 1) < L.length - i) := by show L.length - (i + 1) < L.length - i; omega
      have Hi : Hid (i + 1 ≤ L.length) := hlt
      have hwr := hide (wr64s (n := i) (by have := HL.out; omega))
      have Hil : Hid (i ≤ 4194304) := by show i ≤ 4194304; have := HL.out; omega
      have HCI := hide hci
      have HT := hide hT
      clear hp hi hcl hx hci hT
      go_upto_region 5 with fail
      refine alloc1 (P := fun W => Code.wp _ _ _ _ W) fun W1 hb1 hs1 k1 => ?_
      obtain ⟨e0, e1, e2, e3, e4, e5, e6, e7, e8⟩ := at9 hb1
      have HP1 := hide (HP.out.stay k1)
      clear hb1 hs1 k1 HP q0 q1 q2 q3 q4 q5 q6 q7 q8
      by_cases hop : 1 ≤ cd.op ∧ cd.op ≤ 14
      · have hcall : Calls Tryd.prog 28 #[.agg #[.int .i64 cd.op, .int .i64 cd.h, .slice sf nf cf, .slice sh nh ch, .int .u64 (cd.u : Int), .int .u64 (cd.v : Int), .int .i64 cd.n, .string cd.key, .string cd.elem]] W1 fun e w' => ClP W1 ((tellI (cd.op.toNat + 1) cd).vals (tellF cd (.slice sf nf cf)) (tellH cd (.slice sh nh ch))) true e w' := clean_yes cd sf sh nf cf nh ch W1 hop
        have hin := tell_in HCI.out hop
        have ht := tellC_yes hop
        obtain ⟨s1, n1, c1, e1f⟩ := tellF_slice cd sf nf cf
        obtain ⟨s2, n2, c2, e2f⟩ := tellH_slice cd sh nh ch
        have HF : Hid (((L2 ++ [⟨tellI (cd.op.toNat + 1) cd, tellF cd (.slice sf nf cf), tellH cd (.slice sh nh ch)⟩] : List CmV)).map (·.c) = ((L.take (i + 1)).map (·.c)).filterMap tellC ∧ (L2 ++ [⟨tellI (cd.op.toNat + 1) cd, tellF cd (.slice sf nf cf), tellH cd (.slice sh nh ch)⟩] : List CmV).length ≤ i + 1 ∧ ∀ x, x ∈ (L2 ++ [⟨tellI (cd.op.toNat + 1) cd, tellF cd (.slice sf nf cf), tellH cd (.slice sh nh ch)⟩] : List CmV) → CmdIn w x.c x.fs x.hs) := by
          refine ⟨by rw [HT.out, ht, List.map_append, HI.out.1]; rfl, by rw [List.length_append]; have := HI.out.2.1; simp; omega, fun x hx => ?_⟩
          rcases List.mem_append.1 hx with q | q
          · exact HI.out.2.2 x q
          · obtain rfl : x = _ := by simpa using q
            exact hin
        rw [e1f, e2f] at hcall HF
        have Hlen := hide HI.out.2.1
        clear hin ht hop HT HCI HI e1f e2f
        generalize tellI (cd.op.toNat + 1) cd = D at *
        obtain ⟨op, hh, u, v, nn, key, elem, fl, hl⟩ := D
        simp only [CmdD.vals] at hcall
        go_wp2_with fail
        (with_reducible refine hcall.mono ?_)
        rintro e W2 ⟨rfl, k2⟩
        have HP2 := hide (HP1.out.stay k2)
        clear hcall k2 HP1 e0 e1 e2 e3 e4 e5 e6 e7 e8
        go_upto_region 6 with fail
        refine alloc1 (P := fun W => Code.wp _ _ _ _ W) fun W3 hb3 hs3 k3 => ?_
        obtain ⟨e0, e1, e2, e3, e4, e5, e6, e7, e8⟩ := at9 hb3
        have hP3 := HP2.out.stay k3
        obtain ⟨t0, t1, t2⟩ := three_cells9 hP3.t
        obtain ⟨g, c, W4, hap0, y2, fz, hS⟩ := hP3.more (Nat.le_trans Hlen.out Hil.out) ⟨⟨op, hh, u, v, nn, key, elem, fl, hl⟩, .slice s1 n1 c1, .slice s2 n2 c2⟩ s1 s2 n1 c1 n2 c2 rfl rfl
        have hap : ∀ ty, (Builtin.append_ #[23, 23] ty #[v2, .slice (some ⟨W3.heap.size, 0, none⟩) 1 1]).run Tryd.prog (W3.alloc (.cells #[.int .i64 op, .int .i64 hh, .slice s1 n1 c1, .slice s2 n2 c2, .int .u64 (u : Int), .int .u64 (v : Int), .int .i64 nn, .string key, .string elem] 33)) = .ok (.slice (some ⟨g, 0, none⟩) (L2.length + 1) c) W4 := hap0
        obtain ⟨s3, c3, rfl⟩ := ownsRow_slice hP3.row
        have HS := hide hS
        clear hap0 hS hP3 hs3 k3 hb3 HP2
        obtain ⟨a6, a7⟩ := hwr.out
        go_wp2_with (first | (at_builtin; have _t := hap; refine app_run _ rfl (.tmp 27) (.tmp 29) 23 rfl rfl rfl hap ?_; clear hap))
        go_roundw
        case rel => exact ⟨i + 1, _, _, by go_num, Hi.out, HS.out, HF.out⟩
        case measure => simp [intOf]; exact Hms.out
      · have hcall : Calls Tryd.prog 28 #[.agg #[.int .i64 cd.op, .int .i64 cd.h, .slice sf nf cf, .slice sh nh ch, .int .u64 (cd.u : Int), .int .u64 (cd.v : Int), .int .i64 cd.n, .string cd.key, .string cd.elem]] W1 fun e w' => ClP W1 #[.int .i64 cd.op, .int .i64 cd.h, .slice none 0 0, .slice none 0 0, .int .u64 0, .int .u64 0, .int .i64 0, .string ⟨#[]⟩, .string ⟨#[]⟩] false e w' := clean_no cd.op cd.h cd.n cd.u cd.v cd.key cd.elem sf sh nf cf nh ch W1 hop
        have HF : Hid (L2.map (·.c) = ((L.take (i + 1)).map (·.c)).filterMap tellC ∧ L2.length ≤ i + 1 ∧ ∀ x, x ∈ L2 → CmdIn w x.c x.fs x.hs) := by
          refine ⟨?_, Nat.le_succ_of_le HI.out.2.1, HI.out.2.2⟩
          rw [HT.out, tellC_no hop, HI.out.1]
          simp
        clear hop HT HCI HI
        go_wp2_with fail
        (with_reducible refine hcall.mono ?_)
        rintro e W2 ⟨rfl, k2⟩
        have HP2 := hide (HP1.out.stay k2)
        clear hcall k2 HP1 e0 e1 e2 e3 e4 e5 e6 e7 e8
        go_upto_region 6 with fail
        refine alloc1 (P := fun W => Code.wp _ _ _ _ W) fun W3 hb3 hs3 k3 => ?_
        have HP3 := hide (HP2.out.stay k3)
        clear hb3 hs3 k3 HP2
        obtain ⟨a6, a7⟩ := hwr.out
        go_wp2_with fail
        go_roundw
        case rel => exact ⟨i + 1, _, _, by go_num, Hi.out, HP3.out, HF.out⟩
        case measure => simp [intOf]; exact Hms.out
    · obtain rfl : i = L.length := by omega
      have hlt' : ¬ (L.length : Int) < (L.length : Int) := by omega
      have HF : Hid (L2.map (·.c) = CS ∧ ∀ x, x ∈ L2 → CmdIn w x.c x.fs x.hs) := by
        refine ⟨?_, HI.out.2.2⟩
        rw [HI.out.1, HCS.out, List.take_length]
      obtain ⟨s3, c3, rfl⟩ := ownsRow_slice hp.row
      obtain ⟨t0, t1, t2⟩ := three_cells9 hp.t
      obtain ⟨x0, x1, x2⟩ := three_cells9 hp.res
      obtain ⟨f0, f1, f2⟩ := fro3 hp.res
      have HP := hide hp
      clear HI hp
      go_wp2_with fail
      refine set3r (P := fun W => bodyPost _ _ _ _ _ W) HP.out.res fun W9 h9 k9 => ?_
      obtain ⟨y0, y1, y2⟩ := three_cells9 h9
      refine bodyPost_ret (v := .agg #[.int .i64 n, .slice so os.length co, .slice s3 L2.length c3]) (by simp [results, Tryd.results15, go_sem, y0, y1, y2]) rfl ?_
      have kk := keeps_out HP.out.keeps (show w.heap.size ≤ w.heap.size + 1 by omega) k9
      have hr := ownsRow_keeps HP.out.row k9 (own_ne2 HP.out.row HP.out.res (by decide))
      exact ⟨_, L2, rfl, ⟨own_rowIn hr, fun x hx => (HF.out.2 x hx).keeps kk⟩, HF.out.1, kk⟩
end Go.Proofs.YtfpiibccggjjpaaDoor
/-
  script: the reference's Line (made by gensg4.py).
-/
namespace Go.Proofs.YtfpiibccggjjpaaDoor
open Go.RowKit
set_option linter.unusedVariables false

theorem nine_cells {W : World} {q : Nat} {a0 a1 a2 a3 a4 a5 a6 a7 a8 : Value} {t : TypeId} (h : W.heap[q]? = some (.cells #[a0, a1, a2, a3, a4, a5, a6, a7, a8] t)) : W.cell? ⟨q, 0, none⟩ = some a0 ∧ W.cell? ⟨q, 1, none⟩ = some a1 ∧ W.cell? ⟨q, 2, none⟩ = some a2 ∧ W.cell? ⟨q, 3, none⟩ = some a3 ∧ W.cell? ⟨q, 4, none⟩ = some a4 ∧ W.cell? ⟨q, 5, none⟩ = some a5 ∧ W.cell? ⟨q, 6, none⟩ = some a6 ∧ W.cell? ⟨q, 7, none⟩ = some a7 ∧ W.cell? ⟨q, 8, none⟩ = some a8 := by
  simp [World.cell?, h]

theorem nm_size (op : Int) : (nameD op).size ≤ 7 := by
  unfold nameD
  split
  · rename_i h
    have : ∀ k : Fin 16, (nmN k.1).size ≤ 7 := by decide +kernel
    exact this ⟨op.toNat + 1, by omega⟩
  · exact Nat.zero_le _

theorem nums_size {l : List Int} (h : ∀ n, n ∈ l → -9223372036854775808 ≤ n ∧ n ≤ 9223372036854775807) (hl : l.length ≤ 8388608) : (strOf (numsL l)).size ≤ 200000000 := by
  have := numsL_len l h
  rw [strOf_size]
  omega
end Go.Proofs.YtfpiibccggjjpaaDoor
/-
  script: the reference's Line as data; rows of bytes that grow.
-/
namespace Go.Proofs.YtfpiibccggjjpaaDoor
open Go.RowKit
set_option linter.unusedVariables false

def lnD (c : CmdD) : List UInt8 := if 1 ≤ c.op ∧ c.op ≤ 14 then lineW (c.op.toNat + 1) c else []

theorem bext {a b : ByteArray} (h : a.data.toList = b.data.toList) : a = b := ByteArray.ext (Array.toList_inj.1 h)

theorem nums_tail (l : List Int) : tailD (l.map numD) = numsL l := by
  induction l with
  | nil => rfl
  | cons n r ih =>
    have e : tailD ((n :: r).map numD) = (32 :: (numD n).data.toList) ++ tailD (r.map numD) := rfl
    have e2 : numsL (n :: r) = (32 :: Lib.itoa n) ++ numsL r := rfl
    rw [e, e2, ih, numD, strOf_data]

/-- A row of bytes of one's own, from block lo on; the room behind it may be written. -/
def BRow (lo : Nat) (W : World) (v : Value) (l : List UInt8) : Prop := ∃ h c, v = .slice (some ⟨h, 0, none⟩) l.length c ∧ lo ≤ h ∧ l.length ≤ c ∧ (∀ j (hj : j < l.length), W.cell? ⟨h, j, none⟩ = some (.int .u8 (l[j].toNat : Int))) ∧ ∀ j, l.length ≤ j → j < c → (W.cell? ⟨h, j, none⟩).isSome = true ∧ W.frozen? ⟨h, j, none⟩ = false

theorem cell_lt {w : World} {b j : Nat} (h : (w.cell? ⟨b, j, none⟩).isSome = true) : b < w.heap.size := by
  rcases Nat.lt_or_ge b w.heap.size with h1 | h1
  · exact h1
  · simp [World.cell?, Array.getElem?_eq_none h1] at h

theorem frozen_keeps {w w' : World} (k : Keeps w w' (fun _ => False)) {b j : Nat} (hb : b < w.heap.size) : w'.frozen? ⟨b, j, none⟩ = w.frozen? ⟨b, j, none⟩ := by
  simp only [World.frozen?, k.block b hb id]

theorem BRow.keeps {lo : Nat} {W W' : World} {v : Value} {l : List UInt8} (h : BRow lo W v l) (k : Keeps W W' (fun _ => False)) : BRow lo W' v l := by
  obtain ⟨b, c, rfl, h1, h2, h3, h4⟩ := h
  refine ⟨b, c, rfl, h1, h2, fun j hj => keeps_cell k (h3 j hj), fun j hj hc => ?_⟩
  obtain ⟨e1, e2⟩ := h4 j hj hc
  obtain ⟨u, hu⟩ := Option.isSome_iff_exists.1 e1
  exact ⟨by rw [keeps_cell k hu]; rfl, (frozen_keeps k (cell_lt e1)).trans e2⟩

theorem BRow.made {W W2 : World} {s : List UInt8} {c : Nat} {fz : Nat × Nat} {lo : Nat} (hlo : lo ≤ W.heap.size) (h : W2.heap[W.heap.size]? = some (.cells (rowOf (s ++ zeros (c - s.length))) 5 fz)) (hc : s.length ≤ c) (hfz : c ≤ fz.1) : BRow lo W2 (.slice (some ⟨W.heap.size, 0, none⟩) s.length c) s := by
  have hlen : (s ++ zeros (c - s.length)).length = c := by
    rw [List.length_append, zeros_length]
    omega
  refine ⟨_, _, rfl, hlo, hc, fun j hj => ?_, fun j hj hjc => ⟨?_, ?_⟩⟩
  · have := rowOf_get (s ++ zeros (c - s.length)) j (by omega)
    rw [List.getElem_append_left hj] at this
    simp only [World.cell?, h]
    exact this
  · have := rowOf_get (s ++ zeros (c - s.length)) j (by omega)
    simp only [World.cell?, h]
    rw [this]
    rfl
  · simp only [World.frozen?, h]
    rw [Bool.and_eq_false_iff]
    left
    rw [decide_eq_false_iff_not]
    omega

theorem keeps_setCells {W : World} {h lo : Nat} (hlo : lo ≤ h) (vs : List Value) (o : Nat) : Keeps W (W.setCells h o vs) (fun k => lo ≤ k) := by
  induction vs generalizing W o with
  | nil => exact Keeps.refl _ _
  | cons v r ih => exact ((Keeps.refl W (fun k => lo ≤ k)).setCell ⟨h, o, none⟩ (fun _ => hlo) v).trans (ih (o + 1)) (fun _ _ e => e)

/-- Several bytes behind a row of one's own. -/
theorem BRow.more {lo : Nat} {W : World} {v : Value} {l : List UInt8} (h : BRow lo W v l) (hlo : lo ≤ W.heap.size) {p c2 : Nat} {us : List UInt8} (hu : ∀ j (hj : j < us.length), W.cell? ⟨p, j, none⟩ = some (.int .u8 (us[j].toNat : Int))) (hl : l.length + us.length ≤ 1099511627776) :
    ∃ v' W', (∀ ty, (Builtin.append_ #[54, 54] ty #[v, .slice (some ⟨p, 0, none⟩) us.length c2]).run Tryd.prog W = .ok v' W') ∧ BRow lo W' v' (l ++ us) ∧ Keeps W W' (fun k => lo ≤ k) := by
  obtain ⟨g, c, rfl, h1, h2, h3, h4⟩ := h
  obtain ⟨i, hi1, hi2, hi3, hi4⟩ := info_parts Tryd.infoE
  have hsrc : Src Tryd.prog i.size 54 (.slice (some ⟨p, 0, none⟩) us.length c2) us.length (cellsOf us) W := Src.ofSlice W Tryd.underlying54 ⟨p, 0, none⟩ us.length c2 (cellsOf us) (by rw [hi3, cellsOf_length, Nat.mul_one]) (fun j u hj => by
    unfold cellsOf at hj
    rw [List.getElem?_map] at hj
    obtain ⟨z, hz, rfl⟩ := Option.map_eq_some_iff.1 hj
    obtain ⟨hj2, rfl⟩ := List.getElem?_eq_some_iff.1 hz
    rw [addr_add, Nat.zero_add]
    exact hu j hj2) cellsOf_one
  by_cases hroom : l.length + us.length ≤ c
  · have hr := fun ty => run_append_room_src (P := Tryd.prog) W 54 54 ty 5 i Tryd.underlying54 hi1 g 0 l.length c _ us.length (cellsOf us) hsrc hroom
      (fun j hj => by
        rw [cellsOf_length] at hj
        rw [hi3]
        exact (h4 (0 + l.length * 1 + j) (by omega) (by omega)).1)
      (fun j hj => by
        rw [cellsOf_length] at hj
        rw [hi3]
        exact (h4 (0 + l.length * 1 + j) (by omega) (by omega)).2)
    rw [hi3, show 0 + l.length * 1 = l.length by omega] at hr
    refine ⟨_, _, hr, ⟨g, c, by rw [List.length_append], h1, by rw [List.length_append]; exact hroom, fun j hj => ?_, fun j hj hc => ?_⟩, keeps_setCells h1 _ _⟩
    · by_cases hjl : j < l.length
      · rw [World.cell?_setCells_out g (cellsOf us) l.length W ⟨g, j, none⟩ (fun _ _ => Or.inl hjl), h3 j hjl, List.getElem_append_left hjl]
      · have hj2 : j - l.length < us.length := by
          rw [List.length_append] at hj
          omega
        have := World.cell?_setCells_in g (cellsOf us) l.length W (fun m hm => by
          rw [cellsOf_length] at hm
          exact (h4 (l.length + m) (by omega) (by omega)).1) (j - l.length) (by rw [cellsOf_length]; exact hj2)
        rw [show l.length + (j - l.length) = j by omega] at this
        rw [this, List.getElem_append_right (by omega)]
        simp [cellsOf, cellOf]
    · rw [List.length_append] at hj
      obtain ⟨e1, e2⟩ := h4 j (by omega) hc
      refine ⟨?_, ?_⟩
      · rw [World.cell?_setCells_out g (cellsOf us) l.length W ⟨g, j, none⟩ (fun _ _ => Or.inr (by rw [cellsOf_length]; exact hj))]
        exact e1
      · rw [World.frozen?_setCells]
        exact e2
  · have hold : ∀ j u, (cellsOf l)[j]? = some u → W.drew.cell? ((⟨g, 0, none⟩ : Addr).add j) = some u := fun j u hj => by
      unfold cellsOf at hj
      rw [List.getElem?_map] at hj
      obtain ⟨z, hz, rfl⟩ := Option.map_eq_some_iff.1 hj
      obtain ⟨hj2, rfl⟩ := List.getElem?_eq_some_iff.1 hz
      rw [addr_add, Nat.zero_add]
      exact h3 j hj2
    have hr := fun ty => run_append_grow_src (P := Tryd.prog) W 54 54 ty 5 i (.int .u8 0) Tryd.underlying54 hi1 hi2 (some ⟨g, 0, none⟩) l.length c (cellsOf l) (run_firstCells_some (P := Tryd.prog) W.drew i.size l.length ⟨g, 0, none⟩ l.length c (cellsOf l) (by rw [hi3, cellsOf_length, Nat.mul_one]) hold) _ us.length (cellsOf us) hsrc (by omega) (by omega)
      (by have := nextslicecap_le (need := l.length + us.length) (old := c) (by omega); rw [hi4]; omega)
    have hge := grownCap_ge W (l.length + us.length) c 5
    have hnew := heap_alloc_new W.drew (.cells ((cellsOf l ++ cellsOf us).toArray ++ Builtin.zeroCells (Value.int .u8 0).cells (grownCap W (l.length + us.length) c 5 - (l.length + us.length))) 5)
    have hrow : (cellsOf l ++ cellsOf us).toArray ++ Builtin.zeroCells (Value.int .u8 0).cells (grownCap W (l.length + us.length) c 5 - (l.length + us.length)) = rowOf ((l ++ us) ++ zeros (grownCap W (l.length + us.length) c 5 - (l ++ us).length)) := by
      apply Array.ext'
      rw [rowOf_toList]
      simp [cellsOf, cellOf, zeros, Builtin.zeroCells, Value.cells]
      apply List.ext_getElem
      · simp
      · intro j a b
        simp [Nat.mod_one]
    rw [hrow] at hnew hr
    have hlen : ((l ++ us) ++ zeros (grownCap W (l.length + us.length) c 5 - (l ++ us).length)).length = grownCap W (l.length + us.length) c 5 := by
      rw [List.length_append, zeros_length, List.length_append]
      omega
    refine ⟨_, _, hr, ⟨W.heap.size, _, by rw [List.length_append], hlo, by rw [List.length_append]; exact hge, fun j hj => ?_, fun j hj hc => ⟨?_, ?_⟩⟩, (((Keeps.refl W _).drew).alloc _)⟩
    · have := rowOf_get ((l ++ us) ++ zeros (grownCap W (l.length + us.length) c 5 - (l ++ us).length)) j (by rw [List.length_append]; omega)
      rw [List.getElem_append_left hj] at this
      simp only [World.cell?]
      rw [show (W.drew.alloc _).heap[W.heap.size]? = _ from hnew]
      exact this
    · have := rowOf_get ((l ++ us) ++ zeros (grownCap W (l.length + us.length) c 5 - (l ++ us).length)) j (by rw [hlen]; exact hc)
      simp only [World.cell?]
      rw [show (W.drew.alloc _).heap[W.heap.size]? = _ from hnew]
      show ((rowOf _)[j]?).isSome = true
      rw [this]
      rfl
    · simp only [World.frozen?]
      rw [show (W.drew.alloc _).heap[W.heap.size]? = _ from hnew]
      simp
end Go.Proofs.YtfpiibccggjjpaaDoor
/-
  script: the reference's Print.
-/
namespace Go.Proofs.YtfpiibccggjjpaaDoor
open Go.RowKit
set_option linter.unusedVariables false

/-- What stands in each round of the reference's Print. -/
structure RfS (w : World) (vo vc : Value) (n : Int) (l : List UInt8) (v : Value) (W : World) : Prop where
  box : W.heap[w.heap.size]? = some (.cells #[.int .i64 n, vo, vc] 25)
  row : BRow (w.heap.size + 1) W v l
  keeps : Keeps w W (fun _ => False)

theorem RfS.stay {w W W' : World} {vo vc v : Value} {n : Int} {l : List UInt8} (h : RfS w vo vc n l v W) (k : Keeps W W' (fun _ => False)) : RfS w vo vc n l v W' := ⟨k.blk8 h.box, h.row.keeps k, h.keeps.trans k (fun _ _ e => e)⟩

/-- One text more: its bytes as a new list, appended. -/
theorem RfS.more {w W : World} {vo vc v : Value} {n : Int} {l : List UInt8} (h : RfS w vo vc n l v W) (s : List UInt8) (hl : l.length + s.length ≤ 1099511627776) :
    ∃ W1 c, (convert 9 54 (.string (strOf s))).run Tryd.prog W = .ok (.slice (some ⟨W.heap.size, 0, none⟩) s.length c) W1 ∧ Keeps W W1 (fun _ => False) ∧
    ∃ v' W2, (∀ ty, (Builtin.append_ #[54, 54] ty #[v, .slice (some ⟨W.heap.size, 0, none⟩) s.length c]).run Tryd.prog W1 = .ok v' W2) ∧ RfS w vo vc n (l ++ s) v' W2 := by
  obtain ⟨W1, c, fz, h1, k1, h3, h4, h5, h6⟩ := bytes_of_room (P := Tryd.prog) W 9 54 5 (strOf s) Tryd.underlying9 Tryd.underlying54 Tryd.underlying5
  have es : (strOf s).size = s.length := strOf_size s
  rw [es] at h1 h4 h6
  rw [strOf_data] at h6
  have hb1 := BRow.made (lo := 0) (Nat.zero_le _) h6 h4 h5
  obtain ⟨g, c', e, -, -, hcells, -⟩ := hb1
  injection e with e1 e2 e3
  injection e1 with e1
  injection e1 with e1
  subst e1
  have hz := heap_lt h.box
  have hz1 := k1.size
  obtain ⟨v', W2, h7, h8, h9⟩ := ((h.stay k1).row).more (by omega) (p := W.heap.size) (c2 := c) hcells hl
  refine ⟨W1, c, h1, k1, v', W2, h7, ⟨(h9.block _ (by omega) (fun e => by omega)).trans (k1.blk8 h.box), h8, (h.stay k1).keeps.trans h9 (fun i hi e => by omega)⟩⟩

theorem lim_text (n : Int) : (⟨#[108, 105, 109, 105, 116, 32]⟩ : ByteArray) ++ numD n ++ ⟨#[10]⟩ = strOf (limT n) := by
  apply bext
  rw [strOf_data]
  have e : limT n = (nmN 0).data.toList ++ tailD [numD n] ++ [10] := rfl
  rw [e]
  simp [tailD, nmN, nmL]

theorem ov_text (o : Ovr) : (⟨#[104, 97, 115, 104, 32]⟩ : ByteArray) ++ bytesD o.1 ++ ⟨#[32]⟩ ++ wordD o.2 ++ ⟨#[10]⟩ = strOf (ovT o) := by
  apply bext
  rw [strOf_data]
  have e : ovT o = (nmN 1).data.toList ++ tailD [bytesD o.1, wordD o.2] ++ [10] := rfl
  rw [e]
  simp [tailD, nmN, nmL]

theorem cmd_text (c : CmdD) : cmdT c = if lnD c = [] then [] else lnD c ++ [10] := by
  unfold cmdT lnD
  by_cases h : 1 ≤ c.op ∧ c.op ≤ 14
  · rw [if_pos h, if_pos h, if_neg]
    unfold lineW
    have : ∀ k : Fin 16, (nmN k.1).data.toList ≠ [] := by decide +kernel
    intro e
    exact this ⟨c.op.toNat + 1, by omega⟩ (List.append_eq_nil_iff.1 e).1
  · rw [if_neg h, if_neg h, if_pos rfl]
end Go.Proofs.YtfpiibccggjjpaaDoor
/-
  script: the law's ints, alike, same of what is alike.
-/
namespace Go.Proofs.YtfpiibccggjjpaaDoor
open Go.RowKit
set_option linter.unusedVariables false

theorem IntsIn.len {w : World} {v : Value} {l : List Int} (h : IntsIn w v l) : ∃ so c, v = .slice so l.length c := by
  rcases h.form with ⟨rfl, rfl⟩ | ⟨a, c, e, -⟩
  · exact ⟨none, 0, rfl⟩
  · exact ⟨some a, c, e⟩
theorem IntsIn.at {w : World} {so : Option Addr} {c : Nat} {l : List Int} (h : IntsIn w (.slice so l.length c) l) {i : Nat} (hi : i < l.length) : ∃ b o, so = some ⟨b, o, none⟩ ∧ w.cell? ⟨b, o + i, none⟩ = some (.int .i64 l[i]) := by
  rcases h.form with ⟨e, rfl⟩ | ⟨a, c', e, hc⟩
  · simp at hi
  · injection e with e1 e2 e3
    subst e1
    obtain ⟨b, o, rfl, -⟩ := plainA (hc 0 (by omega))
    have := hc i hi
    rw [addr_add] at this
    exact ⟨b, o, rfl, this⟩
set_option maxRecDepth 100000 in
set_option maxHeartbeats 2000000 in
theorem ints_true (x y : Value) (l : List Int) (hl : l.length ≤ 8388608) (w : World) (hx : IntsIn w x l) (hy : IntsIn w y l) : Calls Tryd.prog 33 #[x, y] w fun e w' => e = .returned (.bool true) ∧ Keeps w w' (fun _ => False) := by
  obtain ⟨sx, cx, rfl⟩ := hx.len
  obtain ⟨sy, cy, rfl⟩ := hy.len
  have HX := hide hx
  have HY := hide hy
  clear hx hy
  go_enter Tryd.func33, Tryd.ntmps33
  go_wp2_with fail
  go_loopw [13] (fun v13 wr => ∃ i : Nat, v13 = .int .i64 (i : Int) ∧ i ≤ l.length ∧ Keeps w wr (fun _ => False)) (fun v13 _ => l.length - (intOf v13).toNat)
  case atStart => exact ⟨0, rfl, Nat.zero_le _, Keeps.refl _ _⟩
  case round =>
    obtain ⟨i, rfl, hi, K⟩ := hrel
    by_cases hlt : i < l.length
    · have hlt' : (i : Int) < (l.length : Int) := by omega
      have h0' : (0 : Int) ≤ (i : Int) := by omega
      obtain ⟨b, o, rfl, q1⟩ := HX.out.at hlt
      obtain ⟨b2, o2, rfl, q2⟩ := HY.out.at hlt
      obtain ⟨z, hz⟩ : ∃ z, l[i] = z := ⟨_, rfl⟩
      rw [hz] at q1 q2
      replace q1 := keeps_cell K q1
      replace q2 := keeps_cell K q2
      have Hms : Hid (l.length - (i + 1) < l.length - i) := by show l.length - (i + 1) < l.length - i; omega
      have Hi : Hid (i + 1 ≤ l.length) := hlt
      obtain ⟨a6, a7⟩ := wr64s (n := i) (by omega)
      have HK := hide K
      clear K hi hz
      have S0 : (fun w' : World => w'.cell? ⟨b, o + i, none⟩ = some (.int .i64 z) ∧ w'.cell? ⟨b2, o2 + i, none⟩ = some (.int .i64 z)) wr.drew := ⟨q1, q2⟩
      go_wp2_with fail
      go_region_held3 (fun w' : World => w'.cell? ⟨b, o + i, none⟩ = some (.int .i64 z) ∧ w'.cell? ⟨b2, o2 + i, none⟩ = some (.int .i64 z)) (first | with_reducible exact S0 | with_reducible assumption) (fail)
      all_goals (
        go_wp2_with fail
        refine ⟨⟨i + 1, by go_num, Hi.out, HK.out.drew⟩, ?_⟩
        simp [intOf]
        exact Hms.out)
    · obtain rfl : i = l.length := by omega
      have hlt' : ¬ (l.length : Int) < (l.length : Int) := by omega
      have HK := hide K
      clear K
      go_wp2_with fail
      go_ret
      exact ⟨rfl, HK.out⟩
set_option maxRecDepth 100000 in
set_option maxHeartbeats 2000000 in
theorem alike_true (op h n : Int) (u v : Nat) (key elem : ByteArray) (fl hl : List Int) (f1 h1 f2 h2 : Value) (w : World) (hf1 : IntsIn w f1 fl) (hh1 : IntsIn w h1 hl) (hf2 : IntsIn w f2 fl) (hh2 : IntsIn w h2 hl) (lf : fl.length ≤ 8388608) (ls : hl.length ≤ 8388608) :
    Calls Tryd.prog 23 #[.agg #[.int .i64 op, .int .i64 h, f1, h1, .int .u64 (u : Int), .int .u64 (v : Int), .int .i64 n, .string key, .string elem], .agg #[.int .i64 op, .int .i64 h, f2, h2, .int .u64 (u : Int), .int .u64 (v : Int), .int .i64 n, .string key, .string elem]] w fun e w' => e = .returned (.bool true) ∧ Keeps w w' (fun _ => False) := by
  have HF := hide (fun W (k : Keeps w W (fun _ => False)) => ints_true f1 f2 fl lf W (hf1.keeps k) (hf2.keeps k))
  have HH := hide (fun W (k : Keeps w W (fun _ => False)) => ints_true h1 h2 hl ls W (hh1.keeps k) (hh2.keeps k))
  clear hf1 hh1 hf2 hh2 lf ls
  go_enter Tryd.func23, Tryd.ntmps23
  go_upto_region 1 with fail
  refine alloc2 (P := fun W => Code.wp _ _ _ _ W) fun W0 hb0 hb1 k0 => ?_
  obtain ⟨c0, c1, c2, c3, c4, c5, c6, c7, c8⟩ := nine_cells hb0
  obtain ⟨d0, d1, d2, d3, d4, d5, d6, d7, d8⟩ := nine_cells hb1
  have HK0 := hide k0
  clear hb0 hb1 k0
  go_wp2_with fail
  (with_reducible refine (HF.out _ HK0.out).mono ?_)
  rintro e w1 ⟨rfl, k1⟩
  replace c3 := keeps_cell k1 c3
  replace d3 := keeps_cell k1 d3
  have HK1 := hide (HK0.out.trans k1 (fun _ _ e => e))
  clear HF HK0 k1 c0 c1 c2 c4 c5 c6 c7 c8 d0 d1 d2 d4 d5 d6 d7 d8
  go_wp2_with fail
  (with_reducible refine (HH.out _ HK1.out).mono ?_)
  rintro e w2 ⟨rfl, k2⟩
  have HK2 := hide (HK1.out.trans k2 (fun _ _ e => e))
  clear HH HK1 k2 c3 d3
  go_wp2_with fail
  go_ret
  exact ⟨rfl, HK2.out⟩
end Go.Proofs.YtfpiibccggjjpaaDoor
/-
  script: the law's same of two scripts that are alike (made by a script).
-/
namespace Go.Proofs.YtfpiibccggjjpaaDoor
open Go.RowKit
set_option linter.unusedVariables false

set_option maxRecDepth 100000 in
set_option maxHeartbeats 8000000 in
theorem same_true (n : Int) (vo vo2 vc vc2 : Value) (os : List Ovr) (L L2 : List CmV) (hLL : L2.map (·.c) = L.map (·.c)) (w : World) (ho : OvIn w vo os) (ho2 : OvIn w vo2 os) (hc : CmIn w vc L) (hc2 : CmIn w vc2 L2) (hcost : costO os + costs (L.map (·.c)) ≤ 4194304) :
    Calls Tryd.prog 12 #[.agg #[.int .i64 n, vo, vc], .agg #[.int .i64 n, vo2, vc2]] w fun e w' => e = .returned (.bool true) ∧ Keeps w w' (fun _ => False) := by
  obtain ⟨so, co, rfl⟩ := ho.row.form
  obtain ⟨so2, co2, rfl⟩ := ho2.row.form
  obtain ⟨sc, cc, rfl⟩ := hc.row.form
  obtain ⟨sc2, cc2, rfl⟩ := hc2.row.form
  have hlen : L2.length = L.length := by
    have := congrArg List.length hLL
    simpa using this
  have hat : ∀ i (h1 : i < L.length) (h2 : i < L2.length), L2[i].c = L[i].c := fun i h1 h2 => by
    have := congrArg (fun l : List CmdD => l[i]?) hLL
    simpa [h1, h2] using this
  have hf1 : os.length ≤ 4194304 := by
    have := ovs_few os
    omega
  have hf2 : L.length ≤ 4194304 := by
    have := cms_few (L.map (·.c))
    rw [List.length_map] at this
    omega
  have HO := hide ho
  have HO2 := hide ho2
  have HC := hide hc
  have HC2 := hide hc2
  have HA := hide hat
  have HLen := hide hlen
  have HF := hide (And.intro hf1 hf2)
  rw [hlen]
  clear ho ho2 hc hc2 hat hcost hlen hLL hf1 hf2
  go_enter Tryd.func12, Tryd.ntmps12
  go_upto_region 1 with fail
  refine alloc2 (P := fun W => Code.wp _ _ _ _ W) fun W0 hb0 hb1 k0 => ?_
  obtain ⟨c0, c1, c2⟩ := three_cells hb0
  obtain ⟨d0, d1, d2⟩ := three_cells hb1
  have HB0 := hide hb0
  have HB1 := hide hb1
  have HK0 := hide k0
  clear hb0 hb1 k0
  go_wp2_with fail
  clear c0 c1 c2 d0 d1 d2
  go_loopw [33] (fun v33 wr => ∃ i : Nat, v33 = .int .i64 (i : Int) ∧ i ≤ os.length ∧ Keeps W0 wr (fun _ => False)) (fun v33 _ => os.length - (intOf v33).toNat)
  case atStart => exact ⟨0, rfl, Nat.zero_le _, Keeps.refl _ _⟩
  case round =>
    obtain ⟨i, rfl, hi, K⟩ := hrel
    by_cases hlt : i < os.length
    · have hlt' : (i : Int) < (os.length : Int) := by omega
      have h0' : (0 : Int) ≤ (i : Int) := by omega
      have KW := HK0.out.trans K (fun _ _ e => e)
      obtain ⟨b, o, rfl, q1, q2⟩ := (HO.out.keeps KW).at hlt
      obtain ⟨b2, o2, rfl, q3, q4⟩ := (HO2.out.keeps KW).at hlt
      obtain ⟨-, c1, -⟩ := three_cells (K.blk8 HB0.out)
      obtain ⟨-, d1, -⟩ := three_cells (K.blk8 HB1.out)
      obtain ⟨x, hx⟩ : ∃ x, os[i] = x := ⟨_, rfl⟩
      rw [hx] at q1 q2 q3 q4
      obtain ⟨ky, hu⟩ := x
      dsimp only at q1 q2 q3 q4
      have Hms : Hid (os.length - (i + 1) < os.length - i) := by show os.length - (i + 1) < os.length - i; omega
      have Hi : Hid (i + 1 ≤ os.length) := hlt
      obtain ⟨a6, a7⟩ := wr64s (n := i) (by have := HF.out.1; omega)
      have HK := hide K
      clear K KW hi hx
      have S0 : (fun w' : World => w'.cell? ⟨w.heap.size, 1, none⟩ = some (.slice (some ⟨b, o, none⟩) os.length co) ∧ w'.cell? ⟨w.heap.size + 1, 1, none⟩ = some (.slice (some ⟨b2, o2, none⟩) os.length co2) ∧ w'.cell? ⟨b, o + i * 2, none⟩ = some (.string ky) ∧ w'.cell? ⟨b, o + i * 2 + 1, none⟩ = some (.int .u64 (hu : Int)) ∧ w'.cell? ⟨b2, o2 + i * 2, none⟩ = some (.string ky) ∧ w'.cell? ⟨b2, o2 + i * 2 + 1, none⟩ = some (.int .u64 (hu : Int))) wr.drew := ⟨c1, d1, q1, q2, q3, q4⟩
      go_wp2_with fail
      go_region_held3 (fun w' : World => w'.cell? ⟨w.heap.size, 1, none⟩ = some (.slice (some ⟨b, o, none⟩) os.length co) ∧ w'.cell? ⟨w.heap.size + 1, 1, none⟩ = some (.slice (some ⟨b2, o2, none⟩) os.length co2) ∧ w'.cell? ⟨b, o + i * 2, none⟩ = some (.string ky) ∧ w'.cell? ⟨b, o + i * 2 + 1, none⟩ = some (.int .u64 (hu : Int)) ∧ w'.cell? ⟨b2, o2 + i * 2, none⟩ = some (.string ky) ∧ w'.cell? ⟨b2, o2 + i * 2 + 1, none⟩ = some (.int .u64 (hu : Int))) (first | with_reducible exact S0 | with_reducible assumption) (fail)
      all_goals (
        go_wp2_with fail
        refine ⟨⟨i + 1, by go_num, Hi.out, HK.out.drew⟩, ?_⟩
        simp [intOf]
        exact Hms.out)
    · obtain rfl : i = os.length := by omega
      have hlt' : ¬ (os.length : Int) < (os.length : Int) := by omega
      have HKa := hide K
      obtain ⟨-, -, c2⟩ := three_cells (K.blk8 HB0.out)
      clear K HO HO2
      go_wp2_with fail
      clear c2
      go_loopw [51] (fun v51 wr => ∃ i : Nat, v51 = .int .i64 (i : Int) ∧ i ≤ L.length ∧ Keeps W0 wr (fun _ => False)) (fun v51 _ => L.length - (intOf v51).toNat)
      case atStart => exact ⟨0, rfl, Nat.zero_le _, HKa.out⟩
      case round =>
        obtain ⟨i, rfl, hi, K⟩ := hrel
        by_cases hlt : i < L.length
        · have hlt'' : (i : Int) < (L.length : Int) := by omega
          have h0' : (0 : Int) ≤ (i : Int) := by omega
          have KW := HK0.out.trans K (fun _ _ e => e)
          have hlt2 : i < L2.length := by have := HLen.out; omega
          obtain ⟨b, o, rfl, hq⟩ := (HC.out.keeps KW).at hlt
          have hC2' := HC2.out
          rw [HLen.out] at hC2'
          obtain ⟨b2, o2, hsc2, hr⟩ := (show ∃ b o, sc2 = some ⟨b, o, none⟩ ∧ ∀ j u, L2[i].cells[j]? = Option.some u → wr.cell? ⟨b, o + i * 9 + j, none⟩ = Option.some u from (HC2.out.keeps KW).at hlt2)
          subst hsc2
          have k1 := (HC.out.ok _ (List.getElem_mem hlt)).keeps KW
          have k2 := (HC2.out.ok _ (List.getElem_mem hlt2)).keeps KW
          have ecc := HA.out i hlt hlt2
          obtain ⟨-, -, c2⟩ := three_cells (K.blk8 HB0.out)
          obtain ⟨-, -, d2⟩ := three_cells (K.blk8 HB1.out)
          obtain ⟨x, hx⟩ : ∃ x, L[i] = x := ⟨_, rfl⟩
          obtain ⟨y, hy⟩ : ∃ y, L2[i] = y := ⟨_, rfl⟩
          rw [hx] at hq k1 ecc
          rw [hy] at hr k2 ecc
          obtain ⟨cd, f1, h1⟩ := x
          obtain ⟨ce, f2, h2⟩ := y
          dsimp only at ecc k1 k2
          subst ecc
          obtain ⟨sf1, nf1, cf1, rfl⟩ := k1.f.slice
          obtain ⟨sh1, nh1, ch1, rfl⟩ := k1.s.slice
          obtain ⟨sf2, nf2, cf2, rfl⟩ := k2.f.slice
          obtain ⟨sh2, nh2, ch2, rfl⟩ := k2.s.slice
          obtain ⟨op, hh, u, v, nn, key, elem, fl, hl⟩ := ce
          have hcall := fun W (k : Keeps wr W (fun _ => False)) => alike_true op hh nn u v key elem fl hl _ _ _ _ W (k1.f.keeps k) (k1.s.keeps k) (k2.f.keeps k) (k2.s.keeps k) k1.lf k1.ls
          have q0 := hq 0 _ rfl
          have q1 := hq 1 _ rfl
          have q2 := hq 2 _ rfl
          have q3 := hq 3 _ rfl
          have q4 := hq 4 _ rfl
          have q5 := hq 5 _ rfl
          have q6 := hq 6 _ rfl
          have q7 := hq 7 _ rfl
          have q8 := hq 8 _ rfl
          have r0 := hr 0 _ rfl
          have r1 := hr 1 _ rfl
          have r2 := hr 2 _ rfl
          have r3 := hr 3 _ rfl
          have r4 := hr 4 _ rfl
          have r5 := hr 5 _ rfl
          have r6 := hr 6 _ rfl
          have r7 := hr 7 _ rfl
          have r8 := hr 8 _ rfl
          dsimp only at q0 q1 q2 q3 q4 q5 q6 q7 q8 r0 r1 r2 r3 r4 r5 r6 r7 r8
          rw [Nat.add_zero] at q0 r0
          have Hms : Hid (L.length - (i + 1) < L.length - i) := by show L.length - (i + 1) < L.length - i; omega
          have Hi : Hid (i + 1 ≤ L.length) := hlt
          obtain ⟨a6, a7⟩ := wr64s (n := i) (by have := HF.out.2; omega)
          have HK := hide K
          have HCall := hide hcall
          clear K KW hi hx hy hq hr k1 k2 hlt2 hC2' hcall
          have S0 : (fun w' : World => w'.cell? ⟨w.heap.size, 2, none⟩ = some (.slice (some ⟨b, o, none⟩) L.length cc) ∧ w'.cell? ⟨w.heap.size + 1, 2, none⟩ = some (.slice (some ⟨b2, o2, none⟩) L.length cc2) ∧ w'.cell? ⟨b, o + i * 9, none⟩ = some (.int .i64 op) ∧ w'.cell? ⟨b, o + i * 9 + 1, none⟩ = some (.int .i64 hh) ∧ w'.cell? ⟨b, o + i * 9 + 2, none⟩ = some (.slice sf1 nf1 cf1) ∧ w'.cell? ⟨b, o + i * 9 + 3, none⟩ = some (.slice sh1 nh1 ch1) ∧ w'.cell? ⟨b, o + i * 9 + 4, none⟩ = some (.int .u64 (u : Int)) ∧ w'.cell? ⟨b, o + i * 9 + 5, none⟩ = some (.int .u64 (v : Int)) ∧ w'.cell? ⟨b, o + i * 9 + 6, none⟩ = some (.int .i64 nn) ∧ w'.cell? ⟨b, o + i * 9 + 7, none⟩ = some (.string key) ∧ w'.cell? ⟨b, o + i * 9 + 8, none⟩ = some (.string elem) ∧ w'.cell? ⟨b2, o2 + i * 9, none⟩ = some (.int .i64 op) ∧ w'.cell? ⟨b2, o2 + i * 9 + 1, none⟩ = some (.int .i64 hh) ∧ w'.cell? ⟨b2, o2 + i * 9 + 2, none⟩ = some (.slice sf2 nf2 cf2) ∧ w'.cell? ⟨b2, o2 + i * 9 + 3, none⟩ = some (.slice sh2 nh2 ch2) ∧ w'.cell? ⟨b2, o2 + i * 9 + 4, none⟩ = some (.int .u64 (u : Int)) ∧ w'.cell? ⟨b2, o2 + i * 9 + 5, none⟩ = some (.int .u64 (v : Int)) ∧ w'.cell? ⟨b2, o2 + i * 9 + 6, none⟩ = some (.int .i64 nn) ∧ w'.cell? ⟨b2, o2 + i * 9 + 7, none⟩ = some (.string key) ∧ w'.cell? ⟨b2, o2 + i * 9 + 8, none⟩ = some (.string elem)) wr.drew := ⟨c2, d2, q0, q1, q2, q3, q4, q5, q6, q7, q8, r0, r1, r2, r3, r4, r5, r6, r7, r8⟩
          clear c2 d2 q0 q1 q2 q3 q4 q5 q6 q7 q8 r0 r1 r2 r3 r4 r5 r6 r7 r8
          go_wp2_with fail
          go_region_held3 (fun w' : World => w'.cell? ⟨w.heap.size, 2, none⟩ = some (.slice (some ⟨b, o, none⟩) L.length cc) ∧ w'.cell? ⟨w.heap.size + 1, 2, none⟩ = some (.slice (some ⟨b2, o2, none⟩) L.length cc2) ∧ w'.cell? ⟨b, o + i * 9, none⟩ = some (.int .i64 op) ∧ w'.cell? ⟨b, o + i * 9 + 1, none⟩ = some (.int .i64 hh) ∧ w'.cell? ⟨b, o + i * 9 + 2, none⟩ = some (.slice sf1 nf1 cf1) ∧ w'.cell? ⟨b, o + i * 9 + 3, none⟩ = some (.slice sh1 nh1 ch1) ∧ w'.cell? ⟨b, o + i * 9 + 4, none⟩ = some (.int .u64 (u : Int)) ∧ w'.cell? ⟨b, o + i * 9 + 5, none⟩ = some (.int .u64 (v : Int)) ∧ w'.cell? ⟨b, o + i * 9 + 6, none⟩ = some (.int .i64 nn) ∧ w'.cell? ⟨b, o + i * 9 + 7, none⟩ = some (.string key) ∧ w'.cell? ⟨b, o + i * 9 + 8, none⟩ = some (.string elem) ∧ w'.cell? ⟨b2, o2 + i * 9, none⟩ = some (.int .i64 op) ∧ w'.cell? ⟨b2, o2 + i * 9 + 1, none⟩ = some (.int .i64 hh) ∧ w'.cell? ⟨b2, o2 + i * 9 + 2, none⟩ = some (.slice sf2 nf2 cf2) ∧ w'.cell? ⟨b2, o2 + i * 9 + 3, none⟩ = some (.slice sh2 nh2 ch2) ∧ w'.cell? ⟨b2, o2 + i * 9 + 4, none⟩ = some (.int .u64 (u : Int)) ∧ w'.cell? ⟨b2, o2 + i * 9 + 5, none⟩ = some (.int .u64 (v : Int)) ∧ w'.cell? ⟨b2, o2 + i * 9 + 6, none⟩ = some (.int .i64 nn) ∧ w'.cell? ⟨b2, o2 + i * 9 + 7, none⟩ = some (.string key) ∧ w'.cell? ⟨b2, o2 + i * 9 + 8, none⟩ = some (.string elem)) (first | with_reducible exact S0 | with_reducible exact S1 | with_reducible assumption) (first | (go_at_call 23; (with_reducible refine (HCall.out _ ((Keeps.refl wr (fun _ => False)).drew)).mono ?_); rintro e w3 ⟨rfl, k3⟩; have HK3 := hide (Keeps.trans HK.out.drew k3 (fun _ _ e => e)); have S1 : (fun w' : World => w'.cell? ⟨w.heap.size, 2, none⟩ = some (.slice (some ⟨b, o, none⟩) L.length cc) ∧ w'.cell? ⟨w.heap.size + 1, 2, none⟩ = some (.slice (some ⟨b2, o2, none⟩) L.length cc2) ∧ w'.cell? ⟨b, o + i * 9, none⟩ = some (.int .i64 op) ∧ w'.cell? ⟨b, o + i * 9 + 1, none⟩ = some (.int .i64 hh) ∧ w'.cell? ⟨b, o + i * 9 + 2, none⟩ = some (.slice sf1 nf1 cf1) ∧ w'.cell? ⟨b, o + i * 9 + 3, none⟩ = some (.slice sh1 nh1 ch1) ∧ w'.cell? ⟨b, o + i * 9 + 4, none⟩ = some (.int .u64 (u : Int)) ∧ w'.cell? ⟨b, o + i * 9 + 5, none⟩ = some (.int .u64 (v : Int)) ∧ w'.cell? ⟨b, o + i * 9 + 6, none⟩ = some (.int .i64 nn) ∧ w'.cell? ⟨b, o + i * 9 + 7, none⟩ = some (.string key) ∧ w'.cell? ⟨b, o + i * 9 + 8, none⟩ = some (.string elem) ∧ w'.cell? ⟨b2, o2 + i * 9, none⟩ = some (.int .i64 op) ∧ w'.cell? ⟨b2, o2 + i * 9 + 1, none⟩ = some (.int .i64 hh) ∧ w'.cell? ⟨b2, o2 + i * 9 + 2, none⟩ = some (.slice sf2 nf2 cf2) ∧ w'.cell? ⟨b2, o2 + i * 9 + 3, none⟩ = some (.slice sh2 nh2 ch2) ∧ w'.cell? ⟨b2, o2 + i * 9 + 4, none⟩ = some (.int .u64 (u : Int)) ∧ w'.cell? ⟨b2, o2 + i * 9 + 5, none⟩ = some (.int .u64 (v : Int)) ∧ w'.cell? ⟨b2, o2 + i * 9 + 6, none⟩ = some (.int .i64 nn) ∧ w'.cell? ⟨b2, o2 + i * 9 + 7, none⟩ = some (.string key) ∧ w'.cell? ⟨b2, o2 + i * 9 + 8, none⟩ = some (.string elem)) w3 := ⟨keeps_cell k3 S0.1, keeps_cell k3 S0.2.1, keeps_cell k3 S0.2.2.1, keeps_cell k3 S0.2.2.2.1, keeps_cell k3 S0.2.2.2.2.1, keeps_cell k3 S0.2.2.2.2.2.1, keeps_cell k3 S0.2.2.2.2.2.2.1, keeps_cell k3 S0.2.2.2.2.2.2.2.1, keeps_cell k3 S0.2.2.2.2.2.2.2.2.1, keeps_cell k3 S0.2.2.2.2.2.2.2.2.2.1, keeps_cell k3 S0.2.2.2.2.2.2.2.2.2.2.1, keeps_cell k3 S0.2.2.2.2.2.2.2.2.2.2.2.1, keeps_cell k3 S0.2.2.2.2.2.2.2.2.2.2.2.2.1, keeps_cell k3 S0.2.2.2.2.2.2.2.2.2.2.2.2.2.1, keeps_cell k3 S0.2.2.2.2.2.2.2.2.2.2.2.2.2.2.1, keeps_cell k3 S0.2.2.2.2.2.2.2.2.2.2.2.2.2.2.2.1, keeps_cell k3 S0.2.2.2.2.2.2.2.2.2.2.2.2.2.2.2.2.1, keeps_cell k3 S0.2.2.2.2.2.2.2.2.2.2.2.2.2.2.2.2.2.1, keeps_cell k3 S0.2.2.2.2.2.2.2.2.2.2.2.2.2.2.2.2.2.2.1, keeps_cell k3 S0.2.2.2.2.2.2.2.2.2.2.2.2.2.2.2.2.2.2.2⟩))
          all_goals (
            clear S0 S1
            go_wp2_with fail
            refine ⟨⟨i + 1, by go_num, Hi.out, HK3.out⟩, ?_⟩
            simp [intOf]
            exact Hms.out)
        · obtain rfl : i = L.length := by omega
          have hlt'' : ¬ (L.length : Int) < (L.length : Int) := by omega
          have HK := hide (HK0.out.trans K (fun _ _ e => e))
          clear K
          go_wp2_with fail
          go_ret
          exact ⟨rfl, HK.out⟩
end Go.Proofs.YtfpiibccggjjpaaDoor
/-
  script: lists copied: an empty row of one's own and what is appended to it.
-/
namespace Go.Proofs.YtfpiibccggjjpaaDoor
open Go.RowKit
set_option linter.unusedVariables false

theorem cellI_one {l : List Int} : ∀ u ∈ l.map cellI, u.oneCell' = true := fun u hu => by
  obtain ⟨z, _, rfl⟩ := List.mem_map.1 hu
  rfl
theorem cm_one {w : World} {L : List CmV} (h : ∀ x ∈ L, CmdIn w x.c x.fs x.hs) : ∀ u ∈ cmCells L, u.oneCell' = true := by
  induction L with
  | nil => intro u hu; cases hu
  | cons x t ih =>
    intro u hu
    have hx := h x List.mem_cons_self
    obtain ⟨sf, nf, cf, e1⟩ := hx.f.slice
    obtain ⟨sh, nh, ch, e2⟩ := hx.s.slice
    simp only [cmCells, List.mem_append, CmV.cells, List.mem_cons, List.not_mem_nil, or_false] at hu
    rcases hu with (rfl | rfl | rfl | rfl | rfl | rfl | rfl | rfl | rfl) | hu
    · rfl
    · rfl
    · rw [e1]; rfl
    · rw [e2]; rfl
    · rfl
    · rfl
    · rfl
    · rfl
    · rfl
    · exact ih (fun y hy => h y (List.mem_cons_of_mem _ hy)) u hu
theorem IntsIn.row {w : World} {v : Value} {l : List Int} (h : IntsIn w v l) : RowIn w v l.length (l.map cellI) := by
  rcases h.form with ⟨rfl, rfl⟩ | ⟨a, c, e, hc⟩
  · exact Or.inl ⟨rfl, rfl⟩
  · refine Or.inr ⟨a, c, e, fun j u hu => ?_⟩
    rw [List.getElem?_map] at hu
    obtain ⟨z, hz, rfl⟩ := Option.map_eq_some_iff.1 hu
    obtain ⟨hj, rfl⟩ := List.getElem?_eq_some_iff.1 hz
    exact hc j hj
/-- An empty row of one's own, and a row that lies somewhere appended to it. -/
theorem copy_row (t e : TypeId) (z : Value) (size bytes : Nat) (ht : Tryd.prog.underlying t = some (.slice e)) (hi : (Tryd.prog.info? e).map (fun i => (i.zero, i.size, i.bytes)) = some (some z, size, bytes)) (hz : z.cells.size = size) (hs0 : 0 < size)
    {W : World} {g lo : Nat} (h7 : W.heap[g]? = some (.cells #[] e)) (hlo : lo ≤ g) {v : Value} {n : Nat} {xs : List Value} (hr : RowIn W v n xs) (hx : xs.length = n * size) (h1 : ∀ u ∈ xs, u.oneCell' = true) (hb : n * bytes ≤ 140737488355328) (hn : n ≤ 1099511627776) (hb0 : 1 ≤ bytes) :
    ∃ g2 c W', (∀ ty, (Builtin.append_ #[t, t] ty #[.slice (some ⟨g, 0, none⟩) 0 0, v]).run Tryd.prog W = .ok (.slice (some ⟨g2, 0, none⟩) n c) W') ∧ W'.ownsRow lo e size (.slice (some ⟨g2, 0, none⟩) n c) n xs ∧ Keeps W W' (fun _ => False) ∧ (g2 = g ∨ g2 = W.heap.size) := by
  have hglt := heap_lt h7
  have hi' : ∃ i, Tryd.prog.info? e = some i ∧ i.zero = some z ∧ i.size = size ∧ i.bytes = bytes := by
    cases h : Tryd.prog.info? e with
    | none => rw [h] at hi; cases hi
    | some i =>
      rw [h] at hi
      simp at hi
      exact ⟨i, rfl, hi.1, hi.2.1, hi.2.2⟩
  obtain ⟨i, q1, q2, q3, q4⟩ := hi'
  have own0 : W.ownsRow lo e size (.slice (some ⟨g, 0, none⟩) 0 0) 0 [] := ⟨by simp, Or.inr ⟨g, 0, #[], rfl, hlo, h7, Nat.le_refl _, by simp [maxLen], by simp, by simp⟩⟩
  rcases hr with ⟨rfl, rfl⟩ | ⟨a, cap, rfl, hc⟩
  · have r1 := fun ty => run_append_owned_none (P := Tryd.prog) (w := W) lo t ty e i size ht q1 _ 0 [] own0
    have : xs = [] := List.eq_nil_of_length_eq_zero (by omega)
    subst this
    exact ⟨g, 0, W, r1, own0, Keeps.refl _ _, Or.inl rfl⟩
  · obtain ⟨v', w2, hr, hown, hgr, hnil, hloc⟩ := run_append_own_at (P := Tryd.prog) W lo t 0 e i z size bytes ht q1 q2 q3 q4 hz hs0 _ 0 [] own0 a n cap xs hx hc h1 (by simp only [maxLen]; omega) (by rw [Nat.zero_add]; exact hb) (by omega)
    rw [Nat.zero_add, List.nil_append] at hown
    have hsrc : Src Tryd.prog i.size t (.slice (some a) n cap) n xs W := Src.ofSlice W ht a n cap xs (by rw [q3]; exact hx) hc h1
    rcases Nat.eq_zero_or_pos n with rfl | hpos
    · have : xs = [] := List.eq_nil_of_length_eq_zero (by omega)
      subst this
      have r1 := fun ty => run_append_room_src (P := Tryd.prog) W t t ty e i ht q1 g 0 0 0 _ 0 [] hsrc (by omega) (fun j hj => by simp at hj) (fun j hj => by simp at hj)
      exact ⟨g, 0, W, r1, own0, Keeps.refl _ _, Or.inl rfl⟩
    · have r1 := fun ty => run_append_grow_src (P := Tryd.prog) W t t ty e i z ht q1 q2 (some ⟨g, 0, none⟩) 0 0 [] (by have := run_firstCells_some (P := Tryd.prog) W.drew i.size 0 ⟨g, 0, none⟩ 0 0 [] (by simp) (by simp); exact this) _ n xs hsrc (by omega) (by omega)
        (by
          have a := nextslicecap_le (need := 0 + n) (old := 0) (by omega)
          rw [q4]
          refine Nat.le_trans (Nat.mul_le_mul_right bytes a) ?_
          rw [Nat.zero_add, Nat.mul_assoc]
          omega)
      have r2 := (r1 0).symm.trans hr
      injection r2 with e1 e2
      subst e1 e2
      rw [Nat.zero_add] at r1 hown
      exact ⟨W.heap.size, _, _, r1, hown, ((Keeps.refl _ _).drew).alloc _, Or.inr rfl⟩
/-- A copy by append, met in a region that draws. -/
theorem step_copy {n lo : Nat} {xs : List Value} (t e : TypeId) (z : Value) (size bytes : Nat) (ht : Tryd.prog.underlying t = some (.slice e)) (hi : (Tryd.prog.info? e).map (fun i => (i.zero, i.size, i.bytes)) = some (some z, size, bytes)) (hz : z.cells.size = size) (hs0 : 0 < size) (hx : xs.length = n * size) (h1 : ∀ u ∈ xs, u.oneCell' = true) (hb : n * bytes ≤ 140737488355328) (hn : n ≤ 1099511627776) (hb0 : 1 ≤ bytes)
    {w : World} {ops : Array Oper} {o : Oper} {a : Act} {K : Act → World → Prop} {Q : Exit → Act → World → Prop} {E : Prop} (hgd : o.guard = none) (s x : Operand)
    (ho : o.op = .call { callee := .builtin .append, args := #[s, x], argTypes := #[t, t] }) {g : Nat} {v : Value} (hs : a.eval s = .slice (some ⟨g, 0, none⟩) 0 0) (hv : a.eval x = v) (h7 : w.heap[g]? = some (.cells #[] e)) (hlo : lo ≤ g) (hr : RowIn w v n xs)
    (h : ∀ g2 c w', Keeps w w' (fun _ => False) → w'.ownsRow lo e size (.slice (some ⟨g2, 0, none⟩) n c) n xs → K (a.put o.dst (.slice (some ⟨g2, 0, none⟩) n c)) w') :
    if Region.wanted o (yielded ops a.tmps) = true then Oper.wp Tryd.prog o a w K Q else E := by
  obtain ⟨g2, c, W', hrun, hown, hk, -⟩ := copy_row t e z size bytes ht hi hz hs0 h7 hlo hr hx h1 hb hn hb0
  exact step_append_run hgd s x t ho hs hv hrun (h g2 c W' hk hown)
theorem n1 (w : World) (a : Obj) : (w.alloc a).heap[w.heap.size]? = some a := heap_alloc_new w a
theorem old1 {w : World} {b : Nat} {o : Obj} (h : w.heap[b]? = some o) (a : Obj) : (w.alloc a).heap[b]? = some o := ((Keeps.refl w (fun _ => False)).alloc a).blk8 h
theorem n20 (w : World) (a b : Obj) : ((w.alloc a).alloc b).heap[w.heap.size]? = some a := old1 (n1 w a) b
theorem n21 (w : World) (a b : Obj) : ((w.alloc a).alloc b).heap[w.heap.size + 1]? = some b := by
  have := n1 (w.alloc a) b
  rwa [World.size_alloc] at this
theorem n30 (w : World) (a b c : Obj) : (((w.alloc a).alloc b).alloc c).heap[w.heap.size]? = some a := old1 (n20 w a b) c
theorem n31 (w : World) (a b c : Obj) : (((w.alloc a).alloc b).alloc c).heap[w.heap.size + 1]? = some b := old1 (n21 w a b) c
theorem n32 (w : World) (a b c : Obj) : (((w.alloc a).alloc b).alloc c).heap[w.heap.size + 1 + 1]? = some c := by
  have := n21 (w.alloc a) b c
  rwa [World.size_alloc] at this
theorem n1d (w : World) (a : Obj) : (w.alloc a).drew.heap[w.heap.size]? = some a := n1 w a
theorem n20d (w : World) (a b : Obj) : ((w.alloc a).alloc b).drew.heap[w.heap.size]? = some a := n20 w a b
theorem n21d (w : World) (a b : Obj) : ((w.alloc a).alloc b).drew.heap[w.heap.size + 1]? = some b := n21 w a b
theorem n30d (w : World) (a b c : Obj) : (((w.alloc a).alloc b).alloc c).drew.heap[w.heap.size]? = some a := n30 w a b c
theorem n31d (w : World) (a b c : Obj) : (((w.alloc a).alloc b).alloc c).drew.heap[w.heap.size + 1]? = some b := n31 w a b c
theorem n32d (w : World) (a b c : Obj) : (((w.alloc a).alloc b).alloc c).drew.heap[w.heap.size + 1 + 1]? = some c := n32 w a b c
theorem n32e (w : World) (a b c : Obj) : (((w.alloc a).alloc b).alloc c).drew.heap[w.heap.size + 2]? = some c := n32 w a b c
/-- What stands in the first statement of copied. -/
def SP (W0 : World) (bx : Nat) (n : Int) (vo vc : Value) (W : World) : Prop := Keeps W0 W (fun _ => False) ∧ W.cell? ⟨bx, 0, none⟩ = some (.int .i64 n) ∧ W.cell? ⟨bx, 1, none⟩ = some vo ∧ W.cell? ⟨bx, 2, none⟩ = some vc
theorem spK {W0 W : World} {bx : Nat} {n : Int} {vo vc : Value} (h : Keeps W0 W (fun _ => False) ∧ W.cell? ⟨bx, 0, none⟩ = some (.int .i64 n) ∧ W.cell? ⟨bx, 1, none⟩ = some vo ∧ W.cell? ⟨bx, 2, none⟩ = some vc) : Keeps W0 W (fun _ => False) := h.1
theorem spI {W0 W : World} {bx : Nat} {n : Int} {vo vc : Value} (h : Keeps W0 W (fun _ => False) ∧ W.cell? ⟨bx, 0, none⟩ = some (.int .i64 n) ∧ W.cell? ⟨bx, 1, none⟩ = some vo ∧ W.cell? ⟨bx, 2, none⟩ = some vc) : SP W0 bx n vo vc W := h
theorem spO {W0 W : World} {bx : Nat} {n : Int} {vo vc : Value} (h : SP W0 bx n vo vc W) : Keeps W0 W (fun _ => False) ∧ W.cell? ⟨bx, 0, none⟩ = some (.int .i64 n) ∧ W.cell? ⟨bx, 1, none⟩ = some vo ∧ W.cell? ⟨bx, 2, none⟩ = some vc := h
theorem SP.k {W0 W : World} {bx : Nat} {n : Int} {vo vc : Value} (h : SP W0 bx n vo vc W) : Keeps W0 W (fun _ => False) := h.1
theorem SP.keeps {W0 W W' : World} {bx : Nat} {n : Int} {vo vc : Value} (h : SP W0 bx n vo vc W) (k : Keeps W W' (fun _ => False)) : SP W0 bx n vo vc W' := ⟨h.1.trans k (fun _ _ e => e), keeps_cell k h.2.1, keeps_cell k h.2.2.1, keeps_cell k h.2.2.2⟩
theorem SP.alloc {W0 W : World} {bx : Nat} {n : Int} {vo vc : Value} (h : SP W0 bx n vo vc W) (o : Obj) : SP W0 bx n vo vc (W.alloc o) := h.keeps ((Keeps.refl _ _).alloc o)
theorem SP.allocD {W0 W : World} {bx : Nat} {n : Int} {vo vc : Value} (h : SP W0 bx n vo vc W.drew) (o : Obj) : SP W0 bx n vo vc (W.alloc o).drew := h.keeps ((Keeps.refl W.drew _).alloc o)
theorem set3 {W : World} {N : Nat} {x y z : Value} {t : TypeId} (h : W.heap[N]? = some (.cells #[x, y, z] t)) (a b c : Value) : (((W.setCell ⟨N, 0, none⟩ a).setCell ⟨N, 1, none⟩ b).setCell ⟨N, 2, none⟩ c).heap[N]? = some (.cells #[a, b, c] t) := by
  simp [World.setCell, Array.getElem?_modify, h]
theorem keeps_set3 {W : World} {N : Nat} (a b c : Value) : Keeps W (((W.setCell ⟨N, 0, none⟩ a).setCell ⟨N, 1, none⟩ b).setCell ⟨N, 2, none⟩ c) (fun k => k = N) :=
  (((Keeps.refl W (fun k => k = N)).setCell ⟨N, 0, none⟩ (fun _ => rfl) a).setCell ⟨N, 1, none⟩ (fun _ => rfl) b).setCell ⟨N, 2, none⟩ (fun _ => rfl) c
theorem own_ne {W : World} {base : Nat} {e t : TypeId} {size : Nat} {v : Value} {n : Nat} {xs : List Value} (h : W.ownsRow base e size v n xs) {N : Nat} {cs : Array Value} {fz : Nat × Nat} (hN : W.heap[N]? = some (.cells cs t fz)) (hne : t ≠ e) : ∀ g, v.ownBlock = some g → ¬ g = N := fun g hg e1 => by
  subst e1
  obtain ⟨-, cur, hc⟩ := ownsRow_block h hg
  rw [hc] at hN
  injection hN with hN
  injection hN with _ e2 _
  exact hne e2.symm
theorem SP.set {W0 W : World} {bx : Nat} {n : Int} {vo vc : Value} (h : SP W0 bx n vo vc W) {N : Nat} (hN : W0.heap.size ≤ N) (hbx : bx < W0.heap.size) (a b c : Value) : SP W0 bx n vo vc (((W.setCell ⟨N, 0, none⟩ a).setCell ⟨N, 1, none⟩ b).setCell ⟨N, 2, none⟩ c) := by
  have k := keeps_set3 (W := W) (N := N) a b c
  have hlt : ∀ {i : Nat} {v : Value}, W.cell? ⟨bx, i, none⟩ = some v → bx < W.heap.size := fun e => cell_lt (by rw [e]; rfl)
  have hc : ∀ i v, W.cell? ⟨bx, i, none⟩ = some v → (((W.setCell ⟨N, 0, none⟩ a).setCell ⟨N, 1, none⟩ b).setCell ⟨N, 2, none⟩ c).cell? ⟨bx, i, none⟩ = some v := fun i v e => (World.cell?_of_block (w := W) (k.block bx (hlt e) (fun e2 => by omega))).trans e
  exact ⟨h.1.trans k (fun i hi e => by omega), hc _ _ h.2.1, hc _ _ h.2.2.1, hc _ _ h.2.2.2⟩
/-- What the first statement of copied leaves. -/
structure Fin1 (W0 : World) (n : Int) (os : List Ovr) (L : List CmV) (bt go co gc cc : Nat) (W : World) : Prop where
  box : W.heap[bt]? = some (.cells #[.int .i64 n, .slice (some ⟨go, 0, none⟩) os.length co, .slice (some ⟨gc, 0, none⟩) L.length cc] 25)
  ov : W.ownsRow W0.heap.size 49 2 (.slice (some ⟨go, 0, none⟩) os.length co) os.length (ovCells os)
  cm : W.ownsRow W0.heap.size 33 9 (.slice (some ⟨gc, 0, none⟩) L.length cc) L.length (cmCells L)
  keeps : Keeps W0 W (fun _ => False)
  low : W0.heap.size ≤ bt
theorem fin_set {W0 W : World} {n : Int} {os : List Ovr} {L : List CmV} {N go co gc cc : Nat} {x y z : Value} (h3 : W.heap[N]? = some (.cells #[x, y, z] 25)) (ho : W.ownsRow W0.heap.size 49 2 (.slice (some ⟨go, 0, none⟩) os.length co) os.length (ovCells os)) (hc : W.ownsRow W0.heap.size 33 9 (.slice (some ⟨gc, 0, none⟩) L.length cc) L.length (cmCells L)) (k : Keeps W0 W (fun _ => False)) (hN : W0.heap.size ≤ N) :
    Fin1 W0 n os L N go co gc cc (((W.setCell ⟨N, 0, none⟩ (.int .i64 n)).setCell ⟨N, 1, none⟩ (.slice (some ⟨go, 0, none⟩) os.length co)).setCell ⟨N, 2, none⟩ (.slice (some ⟨gc, 0, none⟩) L.length cc)) :=
  ⟨set3 h3 _ _ _, ownsRow_keeps ho (keeps_set3 _ _ _) (own_ne ho h3 (by decide)), ownsRow_keeps hc (keeps_set3 _ _ _) (own_ne hc h3 (by decide)), k.trans (keeps_set3 _ _ _) (fun i hi e => by omega), hN⟩
theorem fin_alloc {W0 W : World} {n : Int} {os : List Ovr} {L : List CmV} {go co gc cc : Nat} (ho : W.ownsRow W0.heap.size 49 2 (.slice (some ⟨go, 0, none⟩) os.length co) os.length (ovCells os)) (hc : W.ownsRow W0.heap.size 33 9 (.slice (some ⟨gc, 0, none⟩) L.length cc) L.length (cmCells L)) (k : Keeps W0 W (fun _ => False)) :
    Fin1 W0 n os L W.heap.size go co gc cc (W.alloc (.cells #[.int .i64 n, .slice (some ⟨go, 0, none⟩) os.length co, .slice (some ⟨gc, 0, none⟩) L.length cc] 25)) :=
  ⟨n1 _ _, ho.alloc _, hc.alloc _, k.alloc _, k.size⟩
/-- A command with lists of its own: the rows' blocks and rooms. -/
def lst (b : Bool) (c : CmdD) : List Int := if b then c.hl else c.fl
def rowV (G C : Nat → Bool → Nat) (i : Nat) (b : Bool) (c : CmdD) : Value := .slice (some ⟨G i b, 0, none⟩) (lst b c).length (C i b)
def newC (G C : Nat → Bool → Nat) (L : List CmV) : List CmV := L.mapIdx fun i x => ⟨x.c, rowV G C i false x.c, rowV G C i true x.c⟩
/-- A script's lists, all of one's own. -/
structure Cpy (lo : Nat) (os : List Ovr) (L : List CmV) (go co gc cc : Nat) (G C : Nat → Bool → Nat) (W : World) : Prop where
  ov : W.ownsRow lo 49 2 (.slice (some ⟨go, 0, none⟩) os.length co) os.length (ovCells os)
  cm : W.ownsRow lo 33 9 (.slice (some ⟨gc, 0, none⟩) L.length cc) L.length (cmCells (newC G C L))
  row : ∀ i (h : i < L.length) b, W.ownsRow lo 3 1 (rowV G C i b L[i].c) (lst b L[i].c).length ((lst b L[i].c).map cellI)
  apart : ∀ i j b b', i < L.length → j < L.length → G i b = G j b' → i = j ∧ b = b'
def CopyPost (w : World) (n : Int) (os : List Ovr) (L : List CmV) (e : Ending) (w' : World) : Prop := ∃ go co gc cc G C, e = .returned (.agg #[.int .i64 n, .slice (some ⟨go, 0, none⟩) os.length co, .slice (some ⟨gc, 0, none⟩) L.length cc]) ∧ Cpy w.heap.size os L go co gc cc G C w' ∧ Keeps w w' (fun _ => False)
theorem frozen_of {W : World} {N : Nat} {cs : Array Value} {t : TypeId} (h : W.heap[N]? = some (.cells cs t)) (j : Nat) : W.frozen? ⟨N, j, none⟩ = false := by
  simp [World.frozen?, h]
end Go.Proofs.YtfpiibccggjjpaaDoor
