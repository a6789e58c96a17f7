import Derived.Deep.RegionHeld3
import Derived.Test.YtdlibnjgmdffnaaGreatFn15
/-
  The document's Restore: rowed.
-/
namespace Go.Proofs.YtdlibnjgmdffnaaGreat
open Go.RowKit Go.Shelf
set_option linter.unusedVariables false

theorem okP_iff {limit : Int} {ps : List (Int × Int × Bool)} {k : Nat} (hk : k < ps.length) : okP limit ps k ↔ ps[k].1 = 16 + sumP (ps.take k) ∧ 1 ≤ ps[k].2.1 ∧ classI ps[k].2.1 = ps[k].2.1 ∧ clsP ps[k].2.1 (ps.take (k + 1)) ≤ limit := by
  constructor
  · intro h
    obtain ⟨a1, a2, a3, a4⟩ := h hk
    refine ⟨a1, ?_, a3.symm, a4⟩
    refine Int.not_lt.1 fun hb => a2 ?_
    unfold classI
    rw [if_neg (by omega)]
  · rintro ⟨a1, a2, a3, a4⟩ _
    exact ⟨a1, by omega, a3.symm, a4⟩

theorem head_parts (w : World) (b o len cap k : Nat) (hh : k + 1 ≤ cap) :
    (Instr.slice 40 (.slice (some ⟨b, o, none⟩) len cap) none (some (.int .i64 ((k : Int) + 1))) none).run Tryz.prog w = .ok (.slice (some ⟨b, o, none⟩) (k + 1) cap) w := by
  have ht' : Tryz.prog.underlying 40 = some (.slice (Tryz.prog.elem 40)) := by simp [Program.elem, Tryz.underlying40]
  have he : Tryz.prog.elem 40 = 44 := by simp [Program.elem, Tryz.underlying40]
  obtain ⟨i, h1, h2, h3, h4⟩ := info_parts Tryz.infoPart
  have hsz : (Go.sizeOf 44).run Tryz.prog w = .ok 3 w := by simp [Go.sizeOf, typeInfo, h1, h3]
  have e : ((k : Int) + 1).toNat = k + 1 := by omega
  rw [run_slice_h w _ _ _ _ ht' .i64 _ (by omega) (by omega), he, hsz]
  simp [Result.andThen, sliced, Addr.add, e]

set_option maxRecDepth 100000 in
set_option maxHeartbeats 8000000 in
theorem rowed_any (limit : Nat) (hlim : limit ≤ 2097152) (a : Option Addr) (ca : Nat) (ps : List (Int × Int × Bool)) (w : World) (hl : ps.length ≤ 134217728) (hca : ps.length ≤ ca) (h1 : PartsIn w a ps) :
    Calls Tryz.prog 27 #[.int .i64 (limit : Int), .slice a ps.length ca] w fun e w' => PossPost limit ps w e w' := by
  have H1 := hide h1
  clear h1
  go_enter Tryz.func27, Tryz.ntmps27
  go_wp2_with fail
  go_loopw [5, 6] (fun s i wr => ∃ k : Nat, k ≤ ps.length ∧ i = .int .i64 (k : Int) ∧ s = .int .i64 (16 + sumP (ps.take k)) ∧ Hid (Keeps w wr (fun _ => False) ∧ ∀ j, j < k → okP limit ps j)) (fun _ i _ => ps.length - (intOf i).toNat)
  case atStart => exact ⟨0, Nat.zero_le _, rfl, rfl, Keeps.refl _ _, fun j hj => by omega⟩
  case round =>
    obtain ⟨k, hk, rfl, rfl, hG⟩ := hrel
    by_cases hlt : k < ps.length
    · have hlt' : (k : Int) < (ps.length : Int) := by omega
      have hsz := okP.sizes hG.out.2
      have hsp := sumP_bound (m := 1048576) (by omega) (ps.take k) hsz
      rw [List.length_take] at hsp
      have hmin : min k ps.length = k := by omega
      rw [hmin] at hsp
      have hPr := H1.out.keeps hG.out.1
      rcases H1.out with e | ⟨b, o, rfl, hcell⟩
      · rw [e] at hlt
        simp at hlt
      obtain ⟨x0, x1, x2⟩ := hcell k hlt
      replace x0 := hG.out.1.cellK x0
      replace x1 := hG.out.1.cellK x1
      replace x2 := hG.out.1.cellK x2
      have hiff := okP_iff (limit := limit) hlt
      have HIFF := hide hiff
      have hIC := fun (hc : 1 ≤ ps[k].2.1 ∧ ps[k].2.1 ≤ 1048576) W (kW : Keeps wr W (fun _ => False)) => inClass_any (some ⟨b, o, none⟩) ca ps (k + 1) ps[k].2.1 W (by omega) hl hc (hPr.keeps kW)
      have HIC := hide hIC
      have hclb := classI_bounds ps[k].2.1
      have hsn : sumP (ps.take (k + 1)) = sumP (ps.take k) + ps[k].2.1 := by rw [List.take_succ_eq_append_getElem hlt, sumP_snoc]
      have HSN := hide hsn
      have hno : Hid (¬ okP limit ps k → ∀ W, Keeps w W (fun _ => False) → PossPost limit ps w (.returned (.bool false)) W) := fun hn W kW => ⟨false, rfl, ⟨fun e => (by cases e), fun hall => absurd (hall k) hn⟩, kW⟩
      have hyes : Hid (okP limit ps k → ∀ j, j < k + 1 → okP limit ps j) := fun hok j hj => by
        rcases Nat.lt_or_ge j k with h2 | h2
        · exact hG.out.2 j h2
        · obtain rfl : j = k := by omega
          exact hok
      have KG := hide hG.out.1
      clear hcell hsz hPr hiff hIC hsn hG H1 hmin
      generalize sumP (ps.take k) = e0 at *
      generalize clsP ps[k].2.1 (ps.take (k + 1)) = cl at *
      generalize ps[k].1 = u0 at *
      generalize ps[k].2.1 = u1 at *
      generalize ps[k].2.2 = u2 at *
      generalize hCC : classI u1 = C at *
      have HCC := hide hCC
      clear hCC
      have hkc : k + 1 ≤ ca := by omega
      have hcut := fun W => head_parts W b o ps.length ca k hkc
      have hkc' : (k : Int) + 1 ≤ (ca : Int) := by omega
      have hkb : (k : Int) + 1 ≤ 9223372036854775807 := by omega
      have KA : Hid (Keeps wr (wr.alloc (.cells #[.int .i64 u0, .int .i64 u1, .bool u2] 44)) (fun _ => False)) := ((Keeps.refl wr (fun _ => False)).alloc _ : Keeps _ _ _)
      have KW : Hid (∀ W, Keeps wr W (fun _ => False) → Keeps w W (fun _ => False)) := fun W kW => KG.out.trans kW (fun _ _ e => e)
      have KN : Hid (∀ n, Keeps wr ((wr.alloc (.cells #[.int .i64 u0, .int .i64 u1, .bool u2] 44)).drewN n) (fun _ => False)) := fun n => (let q := KA.out; ⟨q.os, q.tape, q.output, q.size, q.block⟩)
      by_cases g1 : u0 = 16 + e0
      · have g1' : (u0 != 16 + e0) = false := by simp [g1]
        have G1 := hide g1
        clear g1
        by_cases g2 : u1 < 1
        · have hbad : Hid (¬ okP limit ps k) := fun h => by have := (HIFF.out.1 h).2.1; omega
          clear HIC HIFF hyes HSN
          go_wp2_with fail
          go_big_quiet (fail)
          go_wp2_with fail
          go_ret
          exact hno.out hbad.out _ (KW.out _ (KN.out _))
        · have g2' : decide (u1 < 1) = false := decide_eq_false g2
          have hC := fun W => r2class_any u1 W
          by_cases g3 : C = u1
          · rw [HCC.out, g3] at hC
            have g3' : (u1 != u1) = false := by simp
            have hrange : 1 ≤ u1 ∧ u1 ≤ 1048576 := by omega
            have G3 := hide g3
            clear g3
            have HI : Hid (∀ n, _) := fun n => HIC.out hrange _ (KN.out n)
            clear HIC
            by_cases g4 : (limit : Int) < cl
            · have g4' : decide ((limit : Int) < cl) = true := decide_eq_true g4
              have hbad : Hid (¬ okP limit ps k) := fun h => by have := (HIFF.out.1 h).2.2.2; omega
              clear HIFF hyes HSN
              go_wp2_with fail
              go_big_quiet (first | (go_at_call 64; refine Calls.quiet_of_same (hC _)) | (go_at_call 65; refine Calls.quiet_of_same (HI.out _)))
              all_goals go_wp2_with fail
              all_goals go_ret
              all_goals exact hno.out hbad.out _ (KW.out _ (KN.out _))
            · have g4' : decide ((limit : Int) < cl) = false := decide_eq_false g4
              have hok : Hid (okP limit ps k) := HIFF.out.2 ⟨G1.out, by omega, G3.out, by omega⟩
              clear HIFF hno
              go_wp2_with fail
              go_big_quiet (first | (go_at_call 64; refine Calls.quiet_of_same (hC _)) | (go_at_call 65; refine Calls.quiet_of_same (HI.out _)))
              go_wp2_with fail
              go_roundw
              case rel => exact ⟨k + 1, by omega, by go_num, by rw [HSN.out, Int.add_assoc], KW.out _ (KN.out _), hyes.out hok.out⟩
              case measure => simp [intOf]; omega
          · have hbad : Hid (¬ okP limit ps k) := fun h => g3 (HIFF.out.1 h).2.2.1
            rw [HCC.out] at hC
            have g3' : (C != u1) = true := by simpa using g3
            clear HIC HIFF hyes HSN
            go_wp2_with fail
            go_big_quiet (first | (go_at_call 64; refine Calls.quiet_of_same (hC _)) | (go_at_call 65; refine Calls.quiet_of_same (HI.out _)))
            all_goals go_wp2_with fail
            all_goals go_ret
            all_goals exact hno.out hbad.out _ (KW.out _ (KN.out _))
      · have g1' : (u0 != 16 + e0) = true := by simpa using g1
        have hbad : Hid (¬ okP limit ps k) := fun h => g1 (HIFF.out.1 h).1
        clear HIC HIFF hyes HSN
        go_wp2_with fail
        go_big_quiet (fail)
        go_wp2_with fail
        go_ret
        exact hno.out hbad.out _ (KW.out _ (KN.out _))
    · obtain rfl : k = ps.length := by omega
      have hlt' : ¬ (ps.length : Int) < (ps.length : Int) := by omega
      have hfin : Hid (PossPost limit ps w (.returned (.bool true)) wr) := (show PossPost _ _ _ _ _ from ⟨true, rfl, ⟨fun _ j hj => hG.out.2 j hj hj, fun _ => rfl⟩, hG.out.1⟩)
      clear hG H1
      go_wp2_with fail
      go_ret
      exact hfin.out
end Go.Proofs.YtdlibnjgmdffnaaGreat
/-
  What the document's Restore makes, as data.
-/
namespace Go.Proofs.YtdlibnjgmdffnaaGreat
open Go.RowKit Go.Shelf
set_option linter.unusedVariables false

/-- One block more, as data. -/
theorem Sim.add {d d' : AD} {xs : List RB} (F : d.Fine) (s : Sim d xs) {n : Nat} {y : RB} (hL : d'.L = d.L ++ [(d.bs.length, n)]) (hlv : ∀ z ∈ d.L, d'.lv (z.1 : Int) = d.lv (z.1 : Int)) (hv : y.live = (d'.lv (d.bs.length : Int)).isSome) (hb : ∀ j, j < d.bs.length → d'.bs[j]? = d.bs[j]?) (ho : y.off = d.bs.length) (hn : y.bs.length = n) (hy : y.live = true → y.bs = (d'.bs.drop y.off).take y.bs.length) : Sim d' (xs ++ [y]) := by
  have hlen : xs.length = d.L.length := s.len
  refine ⟨by simp [hL, s.len], fun i hi hi' => ?_, fun i hi hlive => ?_⟩
  · by_cases h1 : i < xs.length
    · have h1' : i < d.L.length := by rw [← hlen]; exact h1
      obtain ⟨a1, a2, a3⟩ := s.one i h1 h1'
      have e2 : d'.L[i] = d.L[i] := by
        have : d'.L[i]? = d.L[i]? := by rw [hL, List.getElem?_append_left h1']
        rw [List.getElem?_eq_getElem hi', List.getElem?_eq_getElem h1'] at this
        exact Option.some.inj this
      rw [List.getElem_append_left h1, e2, hlv _ (List.getElem_mem h1')]
      exact ⟨a1, a2, a3⟩
    · have h2 : i = xs.length := by simp at hi; omega
      subst h2
      have e1 : (xs ++ [y])[xs.length]'hi = y := by simp
      have e2 : d'.L[xs.length] = (d.bs.length, n) := by
        have : d'.L[xs.length]? = some (d.bs.length, n) := by rw [hL, hlen, List.getElem?_append_right (Nat.le_refl _)]; simp
        rw [List.getElem?_eq_getElem hi'] at this
        exact Option.some.inj this
      rw [e1, e2]
      exact ⟨ho, hn, hv⟩
  · by_cases h1 : i < xs.length
    · rw [List.getElem_append_left h1] at hlive ⊢
      have hbd := s.bound F h1
      rw [span_ext (l := d.bs) (fun j hj => hb _ (by omega))]
      exact s.bs i h1 hlive
    · have h2 : i = xs.length := by simp at hi; omega
      subst h2
      have e1 : (xs ++ [y])[xs.length]'hi = y := by simp
      rw [e1] at hlive ⊢
      exact hy hlive
theorem Sim.putF {d : AD} {xs : List RB} (F : d.Fine) (s : Sim d xs) {y : RB} (ho : y.off = d.bs.length) (hv : y.live = false) : Sim (d.putF y.bs.length) (xs ++ [y]) := by
  refine s.add F (n := y.bs.length) rfl (fun _ _ => rfl) ?_ (fun j hj => ?_) ho rfl (fun h => ?_)
  · show y.live = (d.lv (d.bs.length : Int)).isSome
    rw [hv, F.lv_end]
    rfl
  · show (d.bs ++ zeros _)[j]? = _
    rw [List.getElem?_append_left hj]
  · rw [hv] at h
    cases h
theorem Sim.putL {d : AD} {xs : List RB} (F : d.Fine) (s : Sim d xs) {y : RB} (ho : y.off = d.bs.length) (hv : y.live = true) : Sim (d.putL y.bs.length y.bs) (xs ++ [y]) := by
  have hw : (d.took y.bs.length).bs = d.bs ++ zeros y.bs.length := AD.took_bs ..
  have hl : d.bs.length + y.bs.length ≤ (d.took y.bs.length).bs.length := by rw [hw, List.length_append, zeros_length]; exact Nat.le_refl _
  refine s.add F (n := y.bs.length) (AD.took_L ..) (fun z hz => ?_) ?_ (fun j hj => ?_) ho rfl (fun h => ?_)
  · show (d.took y.bs.length).lv _ = _
    rw [AD.took_lv, upd_other]
    have := tiles_mem F.tiles hz
    omega
  · show y.live = ((d.took y.bs.length).lv _).isSome
    rw [AD.took_lv, upd_same, hv]
    rfl
  · show (splice (d.took y.bs.length).bs d.bs.length y.bs)[j]? = _
    rw [splice_get hl, if_neg (by omega), hw, List.getElem?_append_left hj]
  · show y.bs = ((splice (d.took y.bs.length).bs d.bs.length y.bs).drop y.off).take y.bs.length
    rw [ho]
    refine List.ext_getElem? fun j => ?_
    rw [span_get, splice_get hl]
    by_cases hj : j < y.bs.length
    · rw [if_pos hj, if_pos (by omega), Nat.add_sub_cancel_left]
    · rw [if_neg hj, List.getElem?_eq_none (by omega)]

/-- The reference's row, part by part. -/
inductive RRow (ps : List (Int × Int × Bool)) (b : List UInt8) : Nat → List RB → Prop
  | nil : RRow ps b 0 []
  | more {i : Nat} {xs : List RB} {y : RB} (h : RRow ps b i xs) (hi : i < ps.length) (ho : (y.off : Int) = ps[i].1) (hn : (y.bs.length : Int) = ps[i].2.1) (hv : y.live = ps[i].2.2) (hb : y.live = true → y.bs = (b.drop (sumL (ps.take i)).toNat).take y.bs.length) : RRow ps b (i + 1) (xs ++ [y])
theorem RRow.len {ps : List (Int × Int × Bool)} {b : List UInt8} {i : Nat} {xs : List RB} (h : RRow ps b i xs) : xs.length = i := by
  induction h with
  | nil => rfl
  | more h hi _ _ _ _ ih => simp [ih]
theorem RRow.sim {limit : Nat} (hlim : limit ≤ 2097152) {ps : List (Int × Int × Bool)} {b : List UInt8} (hok : ∀ k, okP limit ps k) (hb : (b.length : Int) = sumL ps) (hle : sumL ps ≤ limit) {i : Nat} {xs : List RB} (h : RRow ps b i xs) : ∃ d, RestK limit ps b i d ∧ Sim d xs := by
  induction h with
  | nil => exact ⟨AD.fresh limit, RestK.zero hlim ps b, Sim.fresh limit⟩
  | @more i xs y h hi ho hn hv hy ih =>
    obtain ⟨d, hK, hS⟩ := ih
    obtain ⟨n1, n2, n3⟩ := hK.next hlim hok hb hle hi
    have ho' : y.off = d.bs.length := by
      have h1 := (hok i hi).1
      have h2 := hK.len
      omega
    have hu : (sumL (ps.take i)).toNat = d.used := by have := hK.used; omega
    have hn' : ps[i].2.1.toNat = y.bs.length := by omega
    rw [hn'] at n2 n3
    cases e : ps[i].2.2 with
    | true =>
      have hl : y.live = true := hv.trans e
      obtain ⟨_, hK'⟩ := n2 e
      rw [← hu, ← hy hl] at hK'
      exact ⟨_, hK', hS.putL hK.fine ho' hl⟩
    | false => exact ⟨_, n3 e, hS.putF hK.fine ho' (hv.trans e)⟩

theorem rising_lt {l : List Int} (h : l.Nodup) : (rising l).Pairwise (· < ·) := by
  have h1 := (rising_perm l).nodup_iff.2 h
  exact ((rising_sorted l).and h1).imp (fun h2 => by have a := h2.1; have b := h2.2; omega)
/-- What is restored is as an arena's data always is. -/
theorem restK_well {limit : Nat} (hlim : limit ≤ 2097152) {ps : List (Int × Int × Bool)} {b : List UInt8} (hok : ∀ k, okP limit ps k) (hb : (b.length : Int) = sumL ps) (hle : sumL ps ≤ limit) : ∀ i, i ≤ ps.length → ∃ d, RestK limit ps b i d ∧ d.rises ∧ d.L = natsP (ps.take i) := by
  intro i
  induction i with
  | zero => exact fun _ => ⟨AD.fresh limit, RestK.zero hlim ps b, fun x xs h => by simp [AD.fresh] at h, rfl⟩
  | succ i ih =>
    intro hi
    obtain ⟨d, hK, hr, hL⟩ := ih (by omega)
    have hi' : i < ps.length := hi
    obtain ⟨n1, n2, n3⟩ := hK.next hlim hok hb hle hi'
    have hsn : natsP (ps.take (i + 1)) = natsP (ps.take i) ++ [(d.bs.length, ps[i].2.1.toNat)] := by
      rw [← List.take_append_getElem hi']
      have h1 := (hok i hi').1
      have h2 := hK.len
      have e : ps[i].1.toNat = d.bs.length := by omega
      rw [natsP, natsP, List.map_append, List.map_cons, List.map_nil, e]
    have hp := (hok i).pos hi'
    cases e : ps[i].2.2 with
    | true =>
      refine ⟨_, (n2 e).2, hr, ?_⟩
      rw [hsn, ← hL]
      rfl
    | false =>
      have hF := hK.fine
      have hF' := (n3 e).fine
      refine ⟨_, n3 e, fun x xs hx => ?_, ?_⟩
      · have hnd := hF'.free.nodup x xs hx
        have hx' : upd d.fm ((ps[i].2.1.toNat : Nat) : Int) (some (rising ((d.fm ((ps[i].2.1.toNat : Nat) : Int)).getD [] ++ [(d.bs.length : Int)]))) x = some xs := hx
        by_cases e2 : x = ((ps[i].2.1.toNat : Nat) : Int)
        · subst e2
          rw [upd_same] at hx'
          cases hx'
          exact rising_lt ((rising_perm _).nodup_iff.1 hnd)
        · rw [upd_other _ _ _ _ e2] at hx'
          exact hr x xs hx'
      · rw [hsn, ← hL]
        rfl
theorem restD_well {limit : Nat} (hlim : limit ≤ 2097152) {ps : List (Int × Int × Bool)} {b : List UInt8} (hok : ∀ k, okP limit ps k) (hb : (b.length : Int) = sumL ps) (hle : sumL ps ≤ limit) : (restD (AD.fresh limit) ps b).Fine ∧ (restD (AD.fresh limit) ps b).Well := by
  obtain ⟨d, hK, hr, hL⟩ := restK_well hlim hok hb hle ps.length (Nat.le_refl _)
  have he := hK.eq
  rw [List.take_length] at he hL
  subst he
  have hpos : ∀ x ∈ ps, 0 ≤ x.2.1 := fun x hx => by
    obtain ⟨j, hj, rfl⟩ := List.getElem_of_mem hx
    exact ((hok j).size hj).1
  refine ⟨hK.fine, hr, fun y hy => ?_, fun c => ?_⟩
  · rw [hL] at hy
    obtain ⟨x, hx, rfl⟩ := List.mem_map.1 hy
    obtain ⟨j, hj, rfl⟩ := List.getElem_of_mem hx
    obtain ⟨_, a1, a2, _⟩ := hok j hj
    have hz : 1 ≤ ps[j].2.1 ∧ ps[j].2.1 ≤ 1048576 := ⟨(hok j).pos hj, ((hok j).size hj).2⟩
    have := classI_in ps[j].2.1 hz.1 hz.2
    rw [← a2] at this
    exact this
  · rw [hL, hK.limit]
    have h1 := okP.class_le (Nat.le_refl ps.length) (fun k _ => hok k) (c : Int)
    rw [List.take_length, natsP_class c hpos] at h1
    omega
end Go.Proofs.YtdlibnjgmdffnaaGreat
/-
  The document's Restore.
-/
namespace Go.Proofs.YtdlibnjgmdffnaaGreat
open Go.RowKit Go.Shelf
set_option linter.unusedVariables false

/-- The reference under way: i parts are there. -/
def RIt (w : World) (r limit : Nat) (ps : List (Int × Int × Bool)) (b : List UInt8) (i : Nat) (v : Value) (xs : List RB) (wr : World) : Prop :=
  (∃ en : Nat, RAt wr r limit en v xs ∧ (en : Int) = 16 + sumP (ps.take i)) ∧ RRow ps b i xs ∧ (∀ k, RFoot r v xs k → w.heap.size ≤ k) ∧ Keeps w wr (fun _ => False)
def RRestPost (w : World) (d : AD) (e : Ending) (w' : World) : Prop := ∃ r, e = .returned (.tuple #[.pointer (some ⟨r, 0, none⟩), .int .i64 0]) ∧ Ref w' r (fun k => w.heap.size ≤ k) d ∧ Keeps w w' (fun _ => False)
def RestAny (w : World) (limit : Nat) (ps : List (Int × Int × Bool)) (S : ByteArray) (e : Ending) (w' : World) : Prop :=
  (((S.size : Int) = sumL ps ∧ sumL ps ≤ limit) ∧ RRestPost w (restD (AD.fresh limit) ps S.data.toList) e w') ∨ (¬ ((S.size : Int) = sumL ps ∧ sumL ps ≤ limit) ∧ NoPost w (if (S.size : Int) = sumL ps then 22 else 26) e w')

theorem RIt.done {w wr : World} {r limit : Nat} (hlim : limit ≤ 2097152) {ps : List (Int × Int × Bool)} {S : ByteArray} {v : Value} {xs : List RB} (h : RIt w r limit ps S.data.toList ps.length v xs wr) (hok : ∀ k, okP limit ps k) (hS : (S.size : Int) = sumL ps) (hle : sumL ps ≤ limit) : RestAny w limit ps S (.returned (.tuple #[.pointer (some ⟨r, 0, none⟩), .int .i64 0])) wr := by
  obtain ⟨⟨en, hR, he⟩, hrow, hF, hk⟩ := h
  have hb : ((S.data.toList.length : Nat) : Int) = sumL ps := by rw [← hS, Array.length_toList]; rfl
  obtain ⟨d, hK, hs⟩ := hrow.sim hlim hok hb hle
  have heq := hK.eq
  rw [List.take_length] at heq
  have hlen := hK.len
  have hlm := hK.limit
  refine Or.inl ⟨⟨hS, hle⟩, r, rfl, ⟨v, xs, ?_, by rw [← heq]; exact hs, hF⟩, hk⟩
  rw [← heq, hlm]
  have : d.bs.length = en := by omega
  rw [this]
  exact hR

/-- A text's bytes as a row of their own. -/
theorem bytes_row (w : World) (s : ByteArray) : ∃ w2 sp fz, (convert 9 72 (.string s)).run Tryz.prog w = .ok (.slice (some ⟨w.heap.size, 0, none⟩) s.size (s.size + sp.length)) w2 ∧ Keeps w w2 (fun _ => False) ∧ w2.heap.size = w.heap.size + 1 ∧
    w2.heap[w.heap.size]? = some (.cells (rowOf (s.data.toList ++ sp)) 5 fz) ∧ (fz.2 = 0 ∨ (s.data.toList ++ sp).length ≤ fz.1) := by
  have h := run_bytes_of_string (P := Tryz.prog) w 9 72 5 s Tryz.underlying9 Tryz.underlying72 Tryz.underlying5
  have hge := grownCap_ge w s.size 0 5
  generalize grownCap w s.size 0 5 = c at *
  have hrow : bytesRow s c = rowOf (s.data.toList ++ zeros (c - s.size)) := by
    apply Array.ext'
    simp [bytesRow, rowOf, cellsOf, zeros, cellOf]
  rw [hrow] at h
  refine ⟨_, zeros (c - s.size), ((rowOf (s.data.toList ++ zeros (c - s.size))).size, (rowOf (s.data.toList ++ zeros (c - s.size))).size + 1), ?_, ((Keeps.refl _ _).drew).alloc _, by simp, heap_alloc_new w.drew _, Or.inr ?_⟩
  · rw [zeros_length, show s.size + (c - s.size) = c by omega]
    exact h
  · simp [rowOf, cellsOf]

theorem rbox {w : World} {B : Nat} {y : RB} (h : w.heap[B]? = some (.cells y.cells.toArray 74)) : w.cell? ⟨B, 0, none⟩ = some (.int .i64 (y.off : Int)) ∧ w.cell? ⟨B, 1, none⟩ = some (.bool y.live) ∧ w.cell? ⟨B, 2, none⟩ = some (.slice (some ⟨y.g, 0, none⟩) y.bs.length (y.bs.length + y.sp.length)) := three_cells h

structure BxR (R : Prop) : Prop where
  out : R
theorem once {R G : Prop} (h : BxR R → G) (r : R) : G := h ⟨r⟩
theorem cell_blk {w : World} {p : Addr} {v : Value} (h : w.cell? p = some v) : p.block < w.heap.size := by
  refine Nat.lt_of_not_le fun hn => ?_
  rw [World.cell?, Array.getElem?_eq_none hn] at h
  cases h
theorem RAt.setEnd {w : World} {r lim en : Nat} {v : Value} {xs : List RB} (h : RAt w r lim en v xs) (e2 : Nat) : RAt (w.setCell ⟨r, 1, none⟩ (.int .i64 (e2 : Int))) r lim e2 v xs ∧ Keeps w (w.setCell ⟨r, 1, none⟩ (.int .i64 (e2 : Int))) (fun k => k = r) := by
  have k : Keeps w (w.setCell ⟨r, 1, none⟩ (.int .i64 (e2 : Int))) (fun k => k = r) := Keeps.setCell (S := fun k => k = r) (Keeps.refl w _) ⟨r, 1, none⟩ (fun _ => rfl) _
  exact ⟨⟨rset1 h.hp, ownsRow_keeps h.own k (fun g hg e => h.r_row hg e.symm), fun i hi => (k.block _ (heap_lt (h.bytes i hi)) (fun e => h.r_byte hi e.symm)).trans (h.bytes i hi), h.apart, h.thaw⟩, k⟩
theorem RIt.next {w wr W1 W3 : World} {r limit : Nat} {ps : List (Int × Int × Bool)} {b : List UInt8} {i : Nat} {v : Value} {xs : List RB} {y : RB} {g2 c2 m e2 : Nat} (hF : ∀ k, RFoot r v xs k → w.heap.size ≤ k) (hkp : Keeps w wr (fun _ => False)) (kW : Keeps wr W1 (fun _ => False)) (hy : wr.heap.size ≤ y.g) (hrow : RRow ps b (i + 1) (xs ++ [y])) (h3 : RAt W3 r limit e2 (.slice (some ⟨g2, 0, none⟩) m c2) (xs ++ [y])) (k3 : Keeps W1 W3 (fun k => k = r ∨ v.ownBlock = some k)) (hg2 : v.ownBlock = some g2 ∨ W1.heap.size ≤ g2) (he : (e2 : Int) = 16 + sumP (ps.take (i + 1))) : RIt w r limit ps b (i + 1) (.slice (some ⟨g2, 0, none⟩) m c2) (xs ++ [y]) W3 := by
  have s1 := hkp.size
  have s2 := kW.size
  have hb : ∀ k, (k = r ∨ v.ownBlock = some k) → w.heap.size ≤ k := fun k hk => hF k (hk.imp id (fun e => Or.inl e))
  refine ⟨⟨e2, h3, he⟩, hrow, fun k hk => ?_, (hkp.trans kW (fun _ _ e => e)).trans k3 (fun j hj e => by have := hb j e; omega)⟩
  rcases hk with rfl | hk | ⟨j, hj, rfl⟩
  · exact hb _ (Or.inl rfl)
  · have : g2 = k := by simpa [Value.ownBlock] using hk
    subst this
    rcases hg2 with e | e
    · exact hb _ (Or.inr e)
    · omega
  · by_cases hj' : j < xs.length
    · rw [List.getElem_append_left hj']
      exact hF _ (Or.inr (Or.inr ⟨j, hj', rfl⟩))
    · have e : j = xs.length := by simp at hj; omega
      subst e
      have e1 : (xs ++ [y])[xs.length]'hj = y := by simp
      rw [e1]
      omega
/-- The box and its bytes, in whichever order they were made. -/
theorem box_first (w : World) (x y : Value) (n : Nat) : ∃ W, W = ((w.alloc (.cells #[x, y, .slice (some ⟨w.heap.size + 1, 0, none⟩) n n] 74)).alloc (.cells (rowOf (zeros n)) 5)).drew ∧ W.heap[w.heap.size]? = some (.cells #[x, y, .slice (some ⟨w.heap.size + 1, 0, none⟩) n n] 74) ∧ W.heap[w.heap.size + 1]? = some (.cells (rowOf (zeros n)) 5) ∧ Keeps w W (fun _ => False) := by
  have k1 : Keeps w (w.alloc (.cells #[x, y, .slice (some ⟨w.heap.size + 1, 0, none⟩) n n] 74)) (fun _ => False) := (Keeps.refl _ _).alloc _
  have k2 : Keeps (w.alloc (.cells #[x, y, .slice (some ⟨w.heap.size + 1, 0, none⟩) n n] 74)) ((w.alloc (.cells #[x, y, .slice (some ⟨w.heap.size + 1, 0, none⟩) n n] 74)).alloc (.cells (rowOf (zeros n)) 5)).drew (fun _ => False) := ((Keeps.refl _ _).alloc _).drew
  have n1 := heap_alloc_new w (.cells #[x, y, .slice (some ⟨w.heap.size + 1, 0, none⟩) n n] 74)
  have n2 := heap_alloc_new (w.alloc (.cells #[x, y, .slice (some ⟨w.heap.size + 1, 0, none⟩) n n] 74)) (.cells (rowOf (zeros n)) 5)
  have e : (w.alloc (.cells #[x, y, .slice (some ⟨w.heap.size + 1, 0, none⟩) n n] 74)).heap.size = w.heap.size + 1 := by simp
  rw [e] at n2
  exact ⟨_, rfl, (k2.block _ (heap_lt n1) id).trans n1, n2, k1.trans k2 (fun _ _ e => e)⟩
theorem box_last (w : World) (x y : Value) (n : Nat) : ∃ W, W = ((w.alloc (.cells (rowOf (zeros n)) 5)).alloc (.cells #[x, y, .slice (some ⟨w.heap.size, 0, none⟩) n n] 74)).drew ∧ W.heap[w.heap.size + 1]? = some (.cells #[x, y, .slice (some ⟨w.heap.size, 0, none⟩) n n] 74) ∧ W.heap[w.heap.size]? = some (.cells (rowOf (zeros n)) 5) ∧ Keeps w W (fun _ => False) := by
  have k1 : Keeps w (w.alloc (.cells (rowOf (zeros n)) 5)) (fun _ => False) := (Keeps.refl _ _).alloc _
  have k2 : Keeps (w.alloc (.cells (rowOf (zeros n)) 5)) ((w.alloc (.cells (rowOf (zeros n)) 5)).alloc (.cells #[x, y, .slice (some ⟨w.heap.size, 0, none⟩) n n] 74)).drew (fun _ => False) := ((Keeps.refl _ _).alloc _).drew
  have n1 := heap_alloc_new w (.cells (rowOf (zeros n)) 5)
  have n2 := heap_alloc_new (w.alloc (.cells (rowOf (zeros n)) 5)) (.cells #[x, y, .slice (some ⟨w.heap.size, 0, none⟩) n n] 74)
  have e : (w.alloc (.cells (rowOf (zeros n)) 5)).heap.size = w.heap.size + 1 := by simp
  rw [e] at n2
  exact ⟨_, rfl, n2, (k2.block _ (heap_lt n1) id).trans n1, k1.trans k2 (fun _ _ e => e)⟩

set_option maxRecDepth 100000 in
set_option maxHeartbeats 8000000 in
theorem ref_restore (limit : Nat) (hlim : limit ≤ 2097152) (a : Option Addr) (ca : Nat) (ps : List (Int × Int × Bool)) (w : World) (hl : ps.length ≤ 134217728) (hca : ps.length ≤ ca) (h1 : PartsIn w a ps) (hok : ∀ k, okP limit ps k) (S : ByteArray) (hS : S.size ≤ 140737488355328) :
    Calls Tryz.prog 12 #[.int .i64 (limit : Int), .slice a ps.length ca, .string S] w fun e w' => RestAny w limit ps S e w' := by
  have hR := rowed_any limit hlim a ca ps w hl hca h1
  have hl0 : ¬ (limit : Int) < 0 := by omega
  have hl1 : ¬ (2097152 : Int) < (limit : Int) := by omega
  have hall : ∀ x ∈ ps, 0 ≤ x.2.1 ∧ x.2.1 ≤ 1048576 := fun x hx => by
    obtain ⟨j, hj, rfl⟩ := List.getElem_of_mem hx
    exact (hok j).size hj
  have HALL := hide hall
  have HOK := hide hok
  have H1 := hide h1
  clear hall hok h1
  go_enter Tryz.func12, Tryz.ntmps12
  go_wp2_with fail
  (with_reducible refine hR.mono ?_)
  rintro e w1 ⟨t, rfl, ht, k1⟩
  obtain rfl : t = true := ht.2 HOK.out
  have K1 := hide k1
  have r0 : Hid (∃ v xs, RIt w w1.heap.size limit ps S.data.toList 0 v xs (w1.alloc (.cells #[.int .i64 (limit : Int), .int .i64 16, .slice none 0 0] 58))) := by
    refine (show ∃ v xs, RIt w w1.heap.size limit ps S.data.toList 0 v xs _ from ⟨.slice none 0 0, [], ⟨16, ⟨heap_alloc_new w1 _, World.ownsRow_nil _ _ _ _, fun i hi => by simp at hi, fun i j hi => by simp at hi, fun i hi => by simp at hi⟩, by simp [sumP]⟩, RRow.nil, fun k hk => ?_, k1.alloc _⟩)
    have := k1.size
    rcases hk with rfl | hk | ⟨i, hi, _⟩
    · exact this
    · simp [Value.ownBlock] at hk
    · simp at hi
  clear hR ht k1
  go_wp2_with fail
  go_loopw [10, 11] (fun s i wr => ∃ k : Nat, ∃ A : Nat, k ≤ ps.length ∧ i = .int .i64 (k : Int) ∧ s = .int .i64 (A : Int) ∧ A ≤ S.size ∧ Hid ((A : Int) = sumL (ps.take k) ∧ ∃ v xs, RIt w w1.heap.size limit ps S.data.toList k v xs wr)) (fun _ i _ => ps.length - (intOf i).toNat)
  case atStart => exact ⟨0, 0, Nat.zero_le _, rfl, rfl, Nat.zero_le _, (show _ ∧ _ from ⟨by simp [sumL], r0.out⟩)⟩
  case round =>
    clear r0
    obtain ⟨k, A, hk, rfl, rfl, hA, hG⟩ := hrel
    by_cases hlt : k < ps.length
    · have hlt' : (k : Int) < (ps.length : Int) := by omega
      obtain ⟨hAs, v, xs, hI⟩ := hG.out
      obtain ⟨⟨en, hR, hen⟩, hrow, hF, hkp⟩ := hI
      have hkp := hkp
      rcases H1.out with e | ⟨b, o, rfl, hcell⟩
      · rw [e] at hlt
        simp at hlt
      obtain ⟨x0, x1, x2⟩ := hcell k hlt
      have HBW : Hid (b < w.heap.size) := (show b < w.heap.size from cell_blk x0)
      replace x0 := hkp.cellK x0
      replace x1 := hkp.cellK x1
      replace x2 := hkp.cellK x2
      have hoff := (HOK.out k hlt).1
      have hsz := HALL.out _ (List.getElem_mem hlt)
      have hsn : ps.take (k + 1) = ps.take k ++ [ps[k]] := (List.take_append_getElem hlt).symm
      have e1 := sumP_snoc (ps.take k) ps[k]
      have e2 := sumL_snoc (ps.take k) ps[k]
      rw [← hsn] at e1 e2
      have hLk := (sumL_take HALL.out (k + 1)).2
      have hT := okP.total (i := k + 1) (by omega) (fun j _ => HOK.out j)
      obtain ⟨n, hn⟩ := Int.eq_ofNat_of_zero_le hsz.1
      have hn1 : n ≤ 1048576 := by omega
      have hmore : Hid (∀ (y : RB), (y.off : Int) = ps[k].1 → (y.bs.length : Int) = ps[k].2.1 → y.live = ps[k].2.2 → (y.live = true → y.bs = (S.data.toList.drop A).take y.bs.length) → RRow ps S.data.toList (k + 1) (xs ++ [y])) := fun y a1 a2 a3 a4 => RRow.more hrow hlt a1 a2 a3 (by rw [← hAs]; simpa using a4)
      have hxn : xs.length ≤ 134217728 := by have := hrow.len; omega
      have hmk := fun W : World => run_make_bytes (P := Tryz.prog) W 72 5 Tryz.underlying72 infoB5 n (by omega)
      have HR := hide hR
      have HF := hide hF
      have HKP := hide hkp
      rw [hn] at x1 e1 e2
      rw [hn] at hmore
      have E1 := hide e1
      have E2 := hide e2
      have HLK := hide hLk
      have HAS := hide hAs
      have HEN := hide hen
      have HOFF := hide hoff
      have HTT := hide hT
      clear hcell hsz hsn hG hR hF hkp hrow hAs hoff e1 e2 hLk hen hT hn H1
      generalize ps[k].1 = u0 at *
      generalize ps[k].2.2 = u2 at *
      obtain rfl : u0 = (en : Int) := by rw [HEN.out]; exact HOFF.out
      obtain ⟨so, cap, rfl, hcap, _⟩ := HR.out.list
      have HSS : Hid (∀ W, Keeps wr W (fun _ => False) → W.cell? ⟨b, o + k * 3, none⟩ = some (.int .i64 (en : Int)) ∧ W.cell? ⟨b, o + k * 3 + 1, none⟩ = some (.int .i64 (n : Int)) ∧ W.cell? ⟨b, o + k * 3 + 2, none⟩ = some (.bool u2)) := fun W kW => ⟨keep_cell kW x0, keep_cell kW x1, keep_cell kW x2⟩
      have hen : en ≤ 134217728 := by have := HEN.out; have := HTT.out; have := E1.out; omega
      have HSP : Hid (∀ W3 W1 : World, Keeps wr W1 (fun _ => False) → Keeps W1 W3 (fun k => k = w1.heap.size ∨ (Value.slice so xs.length cap).ownBlock = some k) → W3.cell? ⟨b, o + k * 3 + 1, none⟩ = some (.int .i64 (n : Int))) := fun W3 W1 kW k3 => by
        have hb1 := HF.out
        have hbw : b < w.heap.size := HBW.out
        have hs1 := HKP.out.size
        have hs2 := kW.size
        have hbl := k3.block b (by omega) (fun e => by have := hb1 b (e.imp id (fun e => Or.inl e)); omega)
        exact (World.cell?_of_block hbl).trans (keep_cell kW x1)
      go_wp2_with fail
      go_region_held3 (fun w' => w'.cell? ⟨b, o + k * 3, none⟩ = some (.int .i64 (en : Int)) ∧ w'.cell? ⟨b, o + k * 3 + 1, none⟩ = some (.int .i64 (n : Int)) ∧ w'.cell? ⟨b, o + k * 3 + 2, none⟩ = some (.bool u2)) (first | with_reducible assumption | exact HSS.out _ (Keeps.refl _ _).drew | exact HSS.out _ ((Keeps.refl _ _).alloc _).drew | exact HSS.out _ (((Keeps.refl _ _).alloc _).alloc _).drew) (fail)
      all_goals first
        | (obtain ⟨W1, hW, hbox, hrw, kW⟩ := box_first wr (.int .i64 (en : Int)) (.bool u2) n
           rw [← hW]
           clear hW
           have hBs : wr.heap.size ≤ wr.heap.size := Nat.le_refl _
           have hGs : wr.heap.size ≤ wr.heap.size + 1 := Nat.le_succ _
           generalize hG0 : wr.heap.size + 1 = G at hbox hrw hGs ⊢
           clear hG0
           generalize hB0 : wr.heap.size = B at hbox hrw ⊢
           replace hBs : wr.heap.size ≤ B := by omega
           clear hB0)
        | (obtain ⟨W1, hW, hbox, hrw, kW⟩ := box_last wr (.int .i64 (en : Int)) (.bool u2) n
           rw [← hW]
           clear hW
           have hBs : wr.heap.size ≤ wr.heap.size + 1 := Nat.le_succ _
           have hGs : wr.heap.size ≤ wr.heap.size := Nat.le_refl _
           generalize hB0 : wr.heap.size + 1 = B at hbox hrw hBs ⊢
           clear hB0
           generalize hG0 : wr.heap.size = G at hbox hrw ⊢
           replace hGs : wr.heap.size ≤ G := by omega
           clear hG0)
      all_goals cases u2 with
        | false =>
          obtain ⟨b0, b1, b2⟩ := three_cells hbox
          have y1 := (HSS.out W1 kW).2.1
          have HROW : Hid (RRow ps S.data.toList (k + 1) (xs ++ [(⟨en, false, G, zeros n, [], (0, 0)⟩ : RB)])) := hmore.out (⟨en, false, G, zeros n, [], (0, 0)⟩ : RB) rfl (by simp [zeros_length]) rfl (fun e => (by cases e))
          have RW := HR.out.stay kW
          have q2 := RW.cell2
          have q3 : (W1.alloc (.cells (⟨en, false, G, zeros n, [], (0, 0)⟩ : RB).cells.toArray 74)).cell? ⟨w1.heap.size, 2, none⟩ = some (.slice so xs.length cap) := (RW.stay ((Keeps.refl W1 (fun _ => False)).alloc (.cells (⟨en, false, G, zeros n, [], (0, 0)⟩ : RB).cells.toArray 74))).cell2
          obtain ⟨w', g2, cap2, hap, z0, z1, z2, ff, _, _, hg2, hfin⟩ := RW.drew.pushY hxn (⟨en, false, G, zeros n, [], (0, 0)⟩ : RB) (by rw [List.append_nil]; exact hrw) (Or.inl rfl) (fun j hj e => by have := heap_lt (HR.out.bytes j hj); have e' : xs[j].g = G := e; omega)
          have f2 := ff 2
          rw [show (RB.cells ⟨en, false, G, zeros n, [], (0, 0)⟩).toArray = #[.int .i64 (en : Int), .bool false, .slice (some ⟨G, 0, none⟩) n n] from (by simp [RB.cells, zeros_length])] at hap q3
          have HG2 : Hid ((Value.slice so xs.length cap).ownBlock = some g2 ∨ W1.heap.size ≤ g2) := hide hg2
          have HFIN := hide hfin
          clear ff hg2 hfin hmore
          go_wp2_with fail
          apply once
          · intro hrest
            go_region_law (refine step_append_run (by rfl) _ _ 56 (by rfl) (by rfl) (by rfl) hap ?_)
            all_goals exact hrest.out
          have K3 : Hid (Keeps W1 (w'.setCell ⟨w1.heap.size, 2, none⟩ (.slice (some ⟨g2, 0, none⟩) (xs.length + 1) cap2)) (fun k => k = w1.heap.size ∨ (Value.slice so xs.length cap).ownBlock = some k)) := (let q := HFIN.out.out.2; ⟨q.os, q.tape, q.output, q.size, q.block⟩)
          have R3 := HFIN.out.out.1
          clear HFIN hap q2 q3 z0 z1 z2 f2 hmk
          generalize (w'.setCell ⟨w1.heap.size, 2, none⟩ (.slice (some ⟨g2, 0, none⟩) (xs.length + 1) cap2)) = W3 at *
          have r1 := R3.cell1
          have rf1 := R3.frozen 1
          have y13 := HSP.out W3 (W1) kW K3.out
          obtain ⟨R4, K4⟩ := R3.setEnd (en + n)
          rw [show ((en + n : Nat) : Int) = (en : Int) + (n : Int) from by omega] at R4 K4
          have HEND : Hid (∃ v' xs', RIt w w1.heap.size limit ps S.data.toList (k + 1) v' xs' (W3.setCell ⟨w1.heap.size, 1, none⟩ (.int .i64 ((en : Int) + (n : Int)))).drew) := (show ∃ v' xs', RIt w w1.heap.size limit ps S.data.toList (k + 1) v' xs' _ from ⟨_, _, RIt.next (e2 := en + n) HF.out HKP.out kW (by show wr.heap.size ≤ G; omega) HROW.out R4.drew ((K3.out.trans K4 (fun i _ e => Or.inl e)).drew) HG2.out (by have := E1.out; have := HEN.out; omega)⟩)
          clear R3 R4 K4
          have hnum : (en : Int) + (n : Int) ≤ 9223372036854775807 := by omega
          go_wp2_with fail
          apply once
          · intro hrest
            go_region_law (fail)
            all_goals exact hrest.out
          go_wp2_with fail
          go_roundw
          case rel => exact ⟨k + 1, A, by omega, by go_num, by go_num, by omega, (show _ ∧ _ from ⟨by have h2 := E2.out; have h3 := HAS.out; simp at h2; omega, HEND.out⟩)⟩
          case measure => simp [intOf]; omega
        | true =>
          obtain ⟨b0, b1, b2⟩ := three_cells hbox
          have y1 := (HSS.out W1 kW).2.1
          by_cases hf : S.size < A + n
          · have hf' : (S.size : Int) - (A : Int) < (n : Int) := by omega
            have hbad : Hid (RestAny w limit ps S (.returned (.tuple #[.pointer none, .int .i64 26])) W1) := by
              have h2 := E2.out
              have h3 := HAS.out
              have h4 := HLK.out
              simp at h2
              have hne : ¬ (S.size : Int) = sumL ps := by omega
              exact (show RestAny _ _ _ _ _ _ from Or.inr ⟨fun h => hne h.1, by rw [if_neg hne], HKP.out.trans kW (fun _ _ e => e)⟩)
            clear hmore HSP HSS E1 E2 hmk HR HF hcap
            go_wp2_with fail
            go_ret2
            exact hbad.out
          · have hf' : ¬ (S.size : Int) - (A : Int) < (n : Int) := by omega
            have hfit : A + n ≤ S.size := by omega
            have hcut := fun W => run_cut W S A n hfit
            obtain ⟨w2, sp, fz, hconv, kc, hsz2, hrow2, hth2⟩ := bytes_row W1 (S.extract A (A + n))
            have HTB : Hid ((S.extract A (A + n)).data.toList = (S.data.toList.drop A).take n) := (show _ = _ by rw [Lib.extract_data]; simp)
            have hes : (S.extract A (A + n)).size = n := by simp; omega
            have htl : (S.extract A (A + n)).data.toList.length = n := by rw [Array.length_toList]; exact hes
            rw [hes] at hconv
            have hbox2 := (kc.block B (heap_lt hbox) id).trans hbox
            have hfz2 : w2.frozen? ⟨B, 2, none⟩ = false := by simp [World.frozen?, hbox2]
            have hcb2 := (three_cells hbox2).2.2
            have hbox3 : (w2.setCell ⟨B, 2, none⟩ (.slice (some ⟨W1.heap.size, 0, none⟩) n (n + sp.length))).heap[B]? = some (.cells #[.int .i64 (en : Int), .bool true, .slice (some ⟨W1.heap.size, 0, none⟩) n (n + sp.length)] 74) := rset2 hbox2
            have kW1s := kW.size
            have hBlt := heap_lt hbox
            have k22 : Keeps w2 (w2.setCell ⟨B, 2, none⟩ (.slice (some ⟨W1.heap.size, 0, none⟩) n (n + sp.length))) (fun k => k = B) := Keeps.setCell (S := fun k => k = B) (Keeps.refl w2 _) ⟨B, 2, none⟩ (fun _ => rfl) _
            have kW2 : Keeps wr (w2.setCell ⟨B, 2, none⟩ (.slice (some ⟨W1.heap.size, 0, none⟩) n (n + sp.length))) (fun _ => False) := ((kW.trans kc (fun _ _ e => e)).mono (S1 := fun k => k = B) (fun _ _ e => e.elim)).trans k22 (fun _ _ e => e) |>.mono (fun i hi e => by omega)
            have hrow3 : (w2.setCell ⟨B, 2, none⟩ (.slice (some ⟨W1.heap.size, 0, none⟩) n (n + sp.length))).heap[W1.heap.size]? = _ := (k22.block _ (heap_lt hrow2) (by omega)).trans hrow2
            have y2 := (HSS.out _ kW2).2.1
            have y2b := (HSS.out w2 (kW.trans kc (fun _ _ e => e))).2.1
            obtain ⟨b0', b1', b2'⟩ := three_cells hbox3
            clear k22 hbox2 hbox3 hrow2 kc
            go_wp2_with fail
            generalize (w2.setCell ⟨B, 2, none⟩ (.slice (some ⟨W1.heap.size, 0, none⟩) n (n + sp.length))) = W2 at *
            clear hconv hcut hcb2 hfz2 hsz2 b0 b1 b2 y1 y2b hes
            generalize (S.extract A (A + n)).data.toList = tb at *
            generalize S.extract A (A + n) = T at *
            have HROW : Hid (RRow ps S.data.toList (k + 1) (xs ++ [(⟨en, true, W1.heap.size, tb, sp, fz⟩ : RB)])) := hmore.out (⟨en, true, W1.heap.size, tb, sp, fz⟩ : RB) rfl (by simp [htl]) rfl (fun _ => by rw [htl]; exact HTB.out)
            have RW := HR.out.stay kW2
            have q2 := RW.cell2
            have q3 : (W2.alloc (.cells (⟨en, true, W1.heap.size, tb, sp, fz⟩ : RB).cells.toArray 74)).cell? ⟨w1.heap.size, 2, none⟩ = some (.slice so xs.length cap) := (RW.stay ((Keeps.refl W2 (fun _ => False)).alloc (.cells (⟨en, true, W1.heap.size, tb, sp, fz⟩ : RB).cells.toArray 74))).cell2
            obtain ⟨w', g2, cap2, hap, z0, z1, z2, ff, _, _, hg2, hfin⟩ := RW.drew.pushY hxn (⟨en, true, W1.heap.size, tb, sp, fz⟩ : RB) hrow3 hth2 (fun j hj e => by have := heap_lt (HR.out.bytes j hj); have e' : xs[j].g = W1.heap.size := e; omega)
            have f2 := ff 2
            rw [show (RB.cells ⟨en, true, W1.heap.size, tb, sp, fz⟩).toArray = #[.int .i64 (en : Int), .bool true, .slice (some ⟨W1.heap.size, 0, none⟩) n (n + sp.length)] from (by simp [RB.cells, htl])] at hap q3
            have HG2 : Hid ((Value.slice so xs.length cap).ownBlock = some g2 ∨ W2.heap.size ≤ g2) := hide hg2
            have HFIN := hide hfin
            clear ff hg2 hfin hmore
            go_wp2_with fail
            apply once
            · intro hrest
              go_region_law (refine step_append_run (by rfl) _ _ 56 (by rfl) (by rfl) (by rfl) hap ?_)
              all_goals exact hrest.out
            have K3 : Hid (Keeps W2 (w'.setCell ⟨w1.heap.size, 2, none⟩ (.slice (some ⟨g2, 0, none⟩) (xs.length + 1) cap2)) (fun k => k = w1.heap.size ∨ (Value.slice so xs.length cap).ownBlock = some k)) := (let q := HFIN.out.out.2; ⟨q.os, q.tape, q.output, q.size, q.block⟩)
            have R3 := HFIN.out.out.1
            clear HFIN hap q2 q3 z0 z1 z2 f2 hmk
            generalize (w'.setCell ⟨w1.heap.size, 2, none⟩ (.slice (some ⟨g2, 0, none⟩) (xs.length + 1) cap2)) = W3 at *
            have r1 := R3.cell1
            have rf1 := R3.frozen 1
            have y13 := HSP.out W3 (W2) kW2 K3.out
            obtain ⟨R4, K4⟩ := R3.setEnd (en + n)
            rw [show ((en + n : Nat) : Int) = (en : Int) + (n : Int) from by omega] at R4 K4
            have HEND : Hid (∃ v' xs', RIt w w1.heap.size limit ps S.data.toList (k + 1) v' xs' (W3.setCell ⟨w1.heap.size, 1, none⟩ (.int .i64 ((en : Int) + (n : Int)))).drew) := (show ∃ v' xs', RIt w w1.heap.size limit ps S.data.toList (k + 1) v' xs' _ from ⟨_, _, RIt.next (e2 := en + n) HF.out HKP.out kW2 (by show wr.heap.size ≤ W1.heap.size; omega) HROW.out R4.drew ((K3.out.trans K4 (fun i _ e => Or.inl e)).drew) HG2.out (by have := E1.out; have := HEN.out; omega)⟩)
            clear R3 R4 K4
            have hnum : (en : Int) + (n : Int) ≤ 9223372036854775807 := by omega
            go_wp2_with fail
            apply once
            · intro hrest
              go_region_law (fail)
              all_goals exact hrest.out
            go_wp2_with fail
            go_roundw
            case rel => exact ⟨k + 1, A + n, by omega, by go_num, by go_num, by omega, (show _ ∧ _ from ⟨by have h2 := E2.out; have h3 := HAS.out; simp at h2; omega, HEND.out⟩)⟩
            case measure => simp [intOf]; omega
    · obtain rfl : k = ps.length := by omega
      have hlt' : ¬ (ps.length : Int) < (ps.length : Int) := by omega
      obtain ⟨hAs, v, xs, hI⟩ := hG.out
      rw [List.take_length] at hAs
      have kk := hI.2.2.2
      clear hG H1
      by_cases g1 : A = S.size
      · have g1' : ((A : Int) != (S.size : Int)) = false := by simp [g1]
        have hS2 : (S.size : Int) = sumL ps := by omega
        by_cases g2 : (limit : Int) < (A : Int)
        · have hfin : Hid (RestAny w limit ps S (.returned (.tuple #[.pointer none, .int .i64 22])) wr) := (show RestAny _ _ _ _ _ _ from Or.inr ⟨fun h => by omega, by rw [if_pos hS2], kk⟩)
          clear hI kk hAs hS2 g1
          go_wp2_with fail
          go_ret2
          exact hfin.out
        · have hfin := hide (hI.done hlim HOK.out hS2 (by omega))
          clear hI kk hAs hS2 g1
          go_wp2_with fail
          go_ret2
          exact hfin.out
      · have g1' : ((A : Int) != (S.size : Int)) = true := by simp; omega
        have hfin : Hid (RestAny w limit ps S (.returned (.tuple #[.pointer none, .int .i64 26])) wr) := (show RestAny _ _ _ _ _ _ from Or.inr ⟨fun h => by omega, by rw [if_neg (by omega)], kk⟩)
        clear hI kk hAs
        go_wp2_with fail
        go_ret2
        exact hfin.out
end Go.Proofs.YtdlibnjgmdffnaaGreat
/-
  A list of parts that came in: its copy with two more, and sameParts of both.
-/
namespace Go.Proofs.YtdlibnjgmdffnaaGreat
open Go.RowKit Go.Shelf
set_option linter.unusedVariables false

def p3 (x : Int × Int × Bool) : List Value := [.int .i64 x.1, .int .i64 x.2.1, .bool x.2.2]
def p3s (ps : List (Int × Int × Bool)) : List Value := ps.flatMap p3
theorem p3s_cons (x : Int × Int × Bool) (r : List (Int × Int × Bool)) : p3s (x :: r) = p3 x ++ p3s r := by simp [p3s]
theorem p3s_append (a b : List (Int × Int × Bool)) : p3s (a ++ b) = p3s a ++ p3s b := by simp [p3s]
theorem p3s_length : ∀ ps : List (Int × Int × Bool), (p3s ps).length = ps.length * 3
  | [] => rfl
  | x :: r => by rw [p3s_cons, List.length_append, p3s_length r, List.length_cons]; simp [p3]; omega
theorem p3s_at : ∀ (ps : List (Int × Int × Bool)) (i j : Nat) (h : i < ps.length) (hj : j < 3), (p3s ps)[i * 3 + j]? = (p3 ps[i])[j]?
  | [], i, j, h, _ => by simp at h
  | x :: r, 0, j, _, hj => by
    rw [p3s_cons, List.getElem?_append_left (by simp [p3]; omega)]
    simp
  | x :: r, i + 1, j, h, hj => by
    rw [p3s_cons, List.getElem?_append_right (by simp [p3]; omega)]
    have e : (i + 1) * 3 + j - (p3 x).length = i * 3 + j := by simp [p3]; omega
    rw [e, p3s_at r i j (by simpa using h) hj]
    simp
theorem p3s_one {ps : List (Int × Int × Bool)} : ∀ u ∈ p3s ps, u.oneCell' = true := fun u hu => by
  obtain ⟨x, _, hx⟩ := List.mem_flatMap.1 hu
  simp [p3] at hx
  rcases hx with rfl | rfl | rfl <;> rfl
theorem row_form {w : World} {B : Nat} {e : TypeId} {s : Nat} {v : Value} {n : Nat} {xs : List Value} (h : w.ownsRow B e s v n xs) : ∃ so cap, v = .slice so n cap := by
  rcases h.2 with ⟨h2, h3⟩ | ⟨g, cap, cur, hv, _⟩
  · exact ⟨none, 0, by rw [h2, h3]⟩
  · exact ⟨_, _, hv⟩
theorem PartsIn.cell {w : World} {a : Addr} {ps : List (Int × Int × Bool)} (h : PartsIn w (some a) ps) {j : Nat} {u : Value} (hu : (p3s ps)[j]? = some u) : w.cell? (a.add j) = some u := by
  have hj : j < ps.length * 3 := by rw [← p3s_length]; exact (List.getElem?_eq_some_iff.1 hu).1
  rcases h with e | ⟨b, o, e, hc⟩
  · rw [e] at hj
    simp at hj
  · cases e
    rw [addr_add]
    obtain ⟨x0, x1, x2⟩ := hc (j / 3) (by omega)
    have h3 := p3s_at ps (j / 3) (j % 3) (by omega) (by omega)
    rw [show j / 3 * 3 + j % 3 = j by omega, hu] at h3
    have hm : j % 3 = 0 ∨ j % 3 = 1 ∨ j % 3 = 2 := by omega
    rcases hm with e | e | e
    · rw [e] at h3
      have : u = .int .i64 ps[j / 3].1 := by simpa [p3] using h3
      rw [this, show o + j = o + j / 3 * 3 by omega]
      exact x0
    · rw [e] at h3
      have : u = .int .i64 ps[j / 3].2.1 := by simpa [p3] using h3
      rw [this, show o + j = o + j / 3 * 3 + 1 by omega]
      exact x1
    · rw [e] at h3
      have : u = .bool ps[j / 3].2.2 := by simpa [p3] using h3
      rw [this, show o + j = o + j / 3 * 3 + 2 by omega]
      exact x2
/-- append(nil, parts...). -/
theorem parts_copy {w : World} (a : Option Addr) (cap : Nat) (ps : List (Int × Int × Bool)) (h : PartsIn w a ps) (hn : ps.length ≤ 134217728) (ha : a = none → cap = 0) :
    ∃ so cap1 w1, (∀ ty, (Builtin.append_ #[40, 40] ty #[.slice none 0 0, .slice a ps.length cap]).run Tryz.prog w = .ok (.slice so ps.length cap1) w1) ∧ w1.ownsRow w.heap.size 44 3 (.slice so ps.length cap1) ps.length (p3s ps) ∧ Keeps w w1 (fun _ => False) := by
  obtain ⟨i, q1, q2, q3, q4⟩ := info_parts Tryz.infoPart
  have own0 : w.ownsRow w.heap.size 44 3 (.slice none 0 0) 0 [] := World.ownsRow_nil _ _ _ _
  cases a with
  | none =>
    have hz : ps = [] := by
      rcases h with e | ⟨b, o, e, _⟩
      · exact e
      · cases e
    subst hz
    obtain rfl := ha rfl
    have r1 := fun ty => run_append_owned_none (P := Tryz.prog) (w := w) w.heap.size 40 ty 44 i 3 Tryz.underlying40 q1 _ 0 [] own0
    exact ⟨none, 0, w, r1, own0, Keeps.refl _ _⟩
  | some a =>
    obtain ⟨v', w2, hr, hown, hgr, hnil, hloc⟩ := run_append_own_at (P := Tryz.prog) w w.heap.size 40 0 44 i _ 3 24 Tryz.underlying40 q1 q2 q3 q4 rfl (by omega) _ 0 [] own0 a ps.length cap (p3s ps) (by rw [p3s_length])
      (fun j u hu => h.cell hu) p3s_one (by simp only [maxLen]; omega) (by omega) (by simp)
    rw [Nat.zero_add, List.nil_append] at hown
    obtain ⟨so, cap1, rfl⟩ := row_form hown
    exact ⟨so, cap1, w2, fun ty => hr, hown, (Keeps.ofGrown hgr).mono (fun i hi e => by simp [Value.ownBlock] at e)⟩
/-- Two parts more. -/
theorem parts_two {w : World} {B n : Nat} {v : Value} {xs : List Value} (h : w.ownsRow B 44 3 v n xs) (x1 x2 x3 x4 x5 x6 : Value) (h1 : x1.oneCell' = true ∧ x2.oneCell' = true ∧ x3.oneCell' = true ∧ x4.oneCell' = true ∧ x5.oneCell' = true ∧ x6.oneCell' = true) (hn : n ≤ 134217728) (hB : B ≤ w.heap.size) :
    ∃ g cap w2, (∀ ty, (Builtin.append_ #[40, 40] ty #[v, .slice (some ⟨w.heap.size, 0, none⟩) 2 2]).run Tryz.prog (w.alloc (.cells #[x1, x2, x3, x4, x5, x6] 44)) = .ok (.slice (some ⟨g, 0, none⟩) (n + 2) cap) w2) ∧
      w2.ownsRow B 44 3 (.slice (some ⟨g, 0, none⟩) (n + 2) cap) (n + 2) (xs ++ [x1, x2, x3, x4, x5, x6]) ∧ Keeps w w2 (fun k => v.ownBlock = some k) ∧ (v.ownBlock = some g ∨ w.heap.size ≤ g) := by
  obtain ⟨i', hi1, hi2, hi3, hi4⟩ := info_parts Tryz.infoPart
  have k0 : Keeps w (w.alloc (.cells #[x1, x2, x3, x4, x5, x6] 44)) (fun _ => False) := (Keeps.refl _ _).alloc _
  have hnew := heap_alloc_new w (.cells #[x1, x2, x3, x4, x5, x6] 44)
  obtain ⟨g2, c2, w', hr, h2, h3, h4, _⟩ := run_append_lies (P := Tryz.prog) (w.alloc (.cells #[x1, x2, x3, x4, x5, x6] 44)) 40 0 B 44 i' (.agg #[.int .i64 0, .int .i64 0, .bool false]) 3 24 Tryz.underlying40 hi1 hi2 hi3 hi4 rfl (by omega)
    v n xs (ownsRow_keeps h k0 (fun _ _ => id)) ⟨w.heap.size, 0, none⟩ 2 2 [x1, x2, x3, x4, x5, x6] rfl
    (fun j x hj => by
      rw [addr_add, Nat.zero_add]
      simp only [World.cell?, hnew]
      simpa using hj)
    (fun x hx => by
      simp only [List.mem_cons, List.not_mem_nil, or_false] at hx
      obtain ⟨a1, a2, a3, a4, a5, a6⟩ := h1
      rcases hx with rfl | rfl | rfl | rfl | rfl | rfl <;> assumption) (by omega) (by unfold maxLen; omega) (by omega) (by have := k0.size; omega) _ rfl
  refine ⟨g2, c2, w', fun ty => hr, h2, (k0.mono (fun _ _ x => x.elim)).trans (Keeps.ofGrown h3) (fun _ _ x => x), h4.imp id (fun e => by rw [e]; simp)⟩

/-- The list's copy, from part i on. -/
structure P3Left (w wr : World) (q i cap : Nat) (ps : List (Int × Int × Bool)) (cs : Array Value) : Prop where
  blk : wr.heap[q]? = some (.cells cs 44)
  room : ps.length ≤ cap
  top : cap ≤ maxLen
  size : cs.size = cap * 3
  left : ∀ j (h : j < ps.length), i ≤ j → wr.cell? ⟨q, j * 3, none⟩ = some (.int .i64 ps[j].1) ∧ wr.cell? ⟨q, j * 3 + 1, none⟩ = some (.int .i64 ps[j].2.1) ∧ wr.cell? ⟨q, j * 3 + 2, none⟩ = some (.bool ps[j].2.2)
  kp : Keeps w wr (fun k => k = q)
theorem P3Left.has {w wr : World} {q i cap : Nat} {ps : List (Int × Int × Bool)} {cs : Array Value} (h : P3Left w wr q i cap ps cs) (j : Nat) : wr.frozen? ⟨q, j, none⟩ = false := by simp [World.frozen?, h.blk]
theorem P3Left.drewN {w wr : World} {q i cap : Nat} {ps : List (Int × Int × Bool)} {cs : Array Value} (h : P3Left w wr q i cap ps cs) (n : Nat) : P3Left w (wr.drewN n) q i cap ps cs := by
  have k : Keeps wr (wr.drewN n) (fun k => k = q) := (Keeps.refl wr _).drewN n
  exact ⟨h.blk, h.room, h.top, h.size, h.left, h.kp.trans k (fun _ _ e => e)⟩
theorem P3Left.step {w wr : World} {q i cap : Nat} {ps : List (Int × Int × Bool)} {cs : Array Value} (h : P3Left w wr q i cap ps cs) (a b c : Value) :
    ∃ cs', P3Left w (((wr.setCell ⟨q, i * 3, none⟩ a).setCell ⟨q, i * 3 + 1, none⟩ b).setCell ⟨q, i * 3 + 2, none⟩ c) q (i + 1) cap ps cs' := by
  have hb := set_cell_row (set_cell_row (set_cell_row h.blk (i * 3) a) (i * 3 + 1) b) (i * 3 + 2) c
  refine ⟨_, hb, h.room, h.top, by simp [h.size], fun j hj hij => ?_, Keeps.setCell (S := fun k => k = q) (Keeps.setCell (S := fun k => k = q) (Keeps.setCell (S := fun k => k = q) h.kp ⟨q, i * 3, none⟩ (fun _ => rfl) _) ⟨q, i * 3 + 1, none⟩ (fun _ => rfl) _) ⟨q, i * 3 + 2, none⟩ (fun _ => rfl) _⟩
  have hc : ∀ m u, i * 3 + 2 < m → wr.cell? ⟨q, m, none⟩ = some u → (((wr.setCell ⟨q, i * 3, none⟩ a).setCell ⟨q, i * 3 + 1, none⟩ b).setCell ⟨q, i * 3 + 2, none⟩ c).cell? ⟨q, m, none⟩ = some u := fun m u hm hu => by
    simp only [World.cell?, h.blk] at hu
    simp only [World.cell?, hb]
    rw [Array.getElem?_setIfInBounds_ne (by omega), Array.getElem?_setIfInBounds_ne (by omega), Array.getElem?_setIfInBounds_ne (by omega)]
    exact hu
  obtain ⟨h1, h2, h3⟩ := h.left j hj (by omega)
  exact ⟨hc _ _ (by omega) h1, hc _ _ (by omega) h2, hc _ _ (by omega) h3⟩
theorem P3Left.two {w wr : World} {q i cap : Nat} {ps : List (Int × Int × Bool)} {cs : Array Value} (h : P3Left w wr q i cap ps cs) (hn : ps.length ≤ 134217728) (x1 x2 x3 x4 x5 x6 : Value) (h1 : x1.oneCell' = true ∧ x2.oneCell' = true ∧ x3.oneCell' = true ∧ x4.oneCell' = true ∧ x5.oneCell' = true ∧ x6.oneCell' = true) :
    ∃ g c2 w2, (∀ ty, (Builtin.append_ #[40, 40] ty #[.slice (some ⟨q, 0, none⟩) ps.length cap, .slice (some ⟨wr.heap.size, 0, none⟩) 2 2]).run Tryz.prog (wr.alloc (.cells #[x1, x2, x3, x4, x5, x6] 44)) = .ok (.slice (some ⟨g, 0, none⟩) (ps.length + 2) c2) w2) ∧ Keeps w w2 (fun k => k = q) := by
  have hr := h.room
  have own : wr.ownsRow 0 44 3 (.slice (some ⟨q, 0, none⟩) ps.length cap) ps.length (cs.toList.take (ps.length * 3)) := ⟨by simp [h.size]; omega, Or.inr ⟨q, cap, cs, rfl, Nat.zero_le _, h.blk, h.room, h.top, h.size, rfl⟩⟩
  obtain ⟨g, c2, w2, hr, _, kk, _⟩ := parts_two own x1 x2 x3 x4 x5 x6 h1 hn (Nat.zero_le _)
  refine ⟨g, c2, w2, hr, h.kp.trans kk (fun i _ e => ?_)⟩
  have e' : q = i := by simpa [Value.ownBlock] using e
  exact e'.symm

set_option maxRecDepth 100000 in
set_option maxHeartbeats 4000000 in
theorem sameI_any {w0 w : World} {q cap : Nat} {ps : List (Int × Int × Bool)} {cs : Array Value} (a : Option Addr) (ca : Nat) (h : P3Left w w q 0 cap ps cs) (hy : PartsIn w0 a ps) (kw : Keeps w0 w (fun _ => False)) (hq : w0.heap.size ≤ q) (hn : ps.length ≤ 134217728) :
    Calls Tryz.prog 13 #[.slice (some ⟨q, 0, none⟩) ps.length cap, .slice a ps.length ca] w fun e w' => e = .returned (.bool true) ∧ Keeps w w' (fun k => k = q) := by
  have HY : Hid (∀ wr, Keeps w wr (fun k => k = q) → PartsIn wr a ps) := fun wr kr => hy.keeps ((kw.mono (S1 := fun k => k = q) (fun _ _ e => e.elim)).trans kr (fun _ _ e => e) |>.mono (fun i hi e => by omega))
  have H0 := hide h
  clear h hy kw
  go_enter Tryz.func13, Tryz.ntmps13
  go_wp2_with fail
  go_loopw [5] (fun i wr => ∃ k : Nat, ∃ cs', k ≤ ps.length ∧ i = .int .i64 (k : Int) ∧ Hid (P3Left w wr q k cap ps cs')) (fun i _ => ps.length - (intOf i).toNat)
  case atStart => exact ⟨0, cs, Nat.zero_le _, rfl, H0⟩
  case round =>
    clear H0
    obtain ⟨k, cs', hk, rfl, hP⟩ := hrel
    by_cases hlt : k < ps.length
    · have hlt' : (k : Int) < (ps.length : Int) := by omega
      rcases HY.out _ hP.out.kp with e | ⟨b, o, rfl, hPt⟩
      · rw [e] at hlt
        simp at hlt
      obtain ⟨x0, x1, x2⟩ := hP.out.left k hlt (Nat.le_refl _)
      obtain ⟨y0, y1, y2⟩ := hPt k hlt
      have f0 := hP.out.has (k * 3)
      have f1 := hP.out.has (k * 3 + 1)
      have f2 := hP.out.has (k * 3 + 2)
      have HST := hide (fun n a b c => (hP.out.drewN n).step a b c)
      clear hPt hP
      generalize ps[k].1 = u0 at *
      generalize ps[k].2.1 = u1 at *
      generalize ps[k].2.2 = u2 at *
      go_wp2_with fail
      go_quiet (fail)
      go_wp2_with fail
      obtain ⟨cs2, h2⟩ := HST.out _ (.int .i64 (-1)) (.int .i64 (-1)) (.bool false)
      exact ⟨⟨k + 1, cs2, by omega, by simp, h2⟩, by simp [intOf]; omega⟩
    · obtain rfl : k = ps.length := by omega
      have hlt' : ¬ (ps.length : Int) < (ps.length : Int) := by omega
      obtain ⟨g, cap2, w2, hap, kk⟩ := hP.out.two hn (.int .i64 (-2)) (.int .i64 0) (.bool false) (.int .i64 (-3)) (.int .i64 0) (.bool false) ⟨rfl, rfl, rfl, rfl, rfl, rfl⟩
      have KK := hide kk
      clear kk hP HY
      go_wp2_with (first | (at_builtin; have _t := hap; refine append_run _ rfl (.tmp 30) (.tmp 33) 40 rfl rfl rfl hap ?_; clear hap))
      go_ret
      exact ⟨rfl, KK.out⟩
end Go.Proofs.YtdlibnjgmdffnaaGreat
