import Derived.Deep.RegionHeld3
import Derived.Deep.QuietTactic
import Derived.Test.YtdlibnjgmdffnaaGreatFn12
/-
  The law's allocs, where the blocks are let in.
-/
namespace Go.Proofs.YtdlibnjgmdffnaaGreat
open Go.RowKit Go.Shelf
set_option linter.unusedVariables false

theorem refE_zero {d : AD} {zs : List Int} (h : refE d zs = 0) : allOne zs ∧ fitsIn ((d.limit : Int) - (d.used : Int)) zs = true := by
  unfold refE at h
  by_cases ha : allOne zs
  · rw [if_pos ha] at h
    cases hf : fitsIn ((d.limit : Int) - (d.used : Int)) zs
    · rw [hf] at h
      simp at h
    · exact ⟨ha, rfl⟩
  · rw [if_neg ha] at h
    cases h

set_option maxRecDepth 100000 in
set_option maxHeartbeats 4000000 in
theorem allocs_yes {w : World} {p r : Nat} {F : Nat → Prop} {d : AD} (h : Duo w p r F d) (a : Option Addr) (cap : Nat) (zs : List Int) (hz : LIn w F a zs) (ha : a = none → cap = 0) (hn : zs.length ≤ 134217728) (hE : refE d zs = 0) :
    Calls Tryz.prog 18 #[.pointer (some ⟨p, 0, none⟩), .pointer (some ⟨r, 0, none⟩), .slice a zs.length cap] w fun e w' => DuoPost w p r F e w' := by
  obtain ⟨P, R, m, hF, hW⟩ := h
  have hl := lent_any a cap zs hz.ints hn ha
  obtain ⟨hall, hfit⟩ := refE_zero hE
  obtain ⟨t1, t2, t3_, t4_⟩ := takeAll_take listOK hW hF hall hfit zs.length (Nat.le_refl _)
  rw [List.take_length] at t1 t2
  have M := hide m
  have HF := hide hF
  have HW := hide hW
  have HZ := hide hz
  have HE := hide hE
  have HAL := hide hall
  have HFI := hide hfit
  have HF' := hide t1
  have HW' := hide t2
  have hol : (takeAll listT d zs).1.length = zs.length := takeAll_length _ _ _
  have HOL := hide hol
  clear m hF hW hz hE ha hall hfit t1 t2 hol t3_ t4_
  go_enter Tryz.func18, Tryz.ntmps18
  go_wp2_with fail
  (with_reducible refine hl.mono ?_)
  rintro e w1 ⟨g, cap1, rfl, hc1, hg1, hg2, ⟨cs, hcs1, hcs2⟩, k1⟩
  have m1 := lent_mid M.out hg1 hg2 k1
  have hA := allocAll_yes listOK m1.a HW.out HF.out g 0 cap1 zs (fun j hj => own_ints hcs1 hcs2 j hj) (fun e => (m1.pf g e).2.2 rfl) hg2 HAL HFI
  have M1 := hide m1
  have HC1 := hide hcs1
  have HC2 := hide hcs2
  have G1 := hide hg1
  clear hl m1 k1 hcs1 hcs2 hg1 hg2 M
  go_wp2_with fail
  (with_reducible refine hA.mono ?_)
  rintro e w2 ⟨hb, hb1, rfl, hb2, hb3, k2⟩
  have m2 := M1.out.turnP (X' := fun i => i = g ∨ i = hb) hb3 k2 (fun i e => e.1) (fun i e => by
    rcases e with e | e
    · exact ⟨Or.inl e, by rw [e]; exact Nat.lt_of_lt_of_le (heap_lt HC1.out) k2.size⟩
    · exact ⟨Or.inr ⟨by rw [e]; exact hb1, fun q => q.2 e⟩, by rw [e]; exact heap_lt hb2⟩)
  have hR := ref_all m2.b HF.out HW.out a cap zs hn ((m2.lin HZ.out).less (fun k _ hr => (m2.rf k hr).1))
  have hcs2b : Hid (w2.heap[g]? = some (.cells cs 3)) := (M1.out.x_prog k2 rfl).trans HC1.out
  have hgb : Hid (g ≠ hb) := (show g ≠ hb by have := heap_lt HC1.out; omega)
  have M2 := hide m2
  have HB2 := hide hb2
  clear hA m2 k2 hb2 hb3 hb1
  rw [HOL.out]
  go_wp2_with fail
  (with_reducible refine hR.mono ?_)
  intro e w3 hp
  have hp2 : ∃ so cap3, e = .returned (.tuple #[.slice so zs.length cap3, .int .i64 0]) ∧ w3.ownsRow w2.heap.size 3 1 (.slice so zs.length cap3) (takeAll listT d zs).1.length ((takeAll listT d zs).1.map cellI) ∧ RTurned w2 w3 r R (takeAll listT d zs).2 := by
    rcases hp with ⟨hh, _⟩ | ⟨_, h2⟩
    · exact absurd HE.out hh
    · exact h2
  obtain ⟨so, cap3, rfl, hrow3, hT3⟩ := hp2
  clear hp
  have m3 := M2.out.turnR (X' := fun i => i = g ∨ i = hb) hT3.1 hT3.2 (fun i e => e) (fun i e => ⟨Or.inl e, Nat.lt_of_lt_of_le (M2.out.xs i e).2 hT3.2.size⟩)
  have hcs3 : w3.heap[g]? = some (.cells cs 3) := (M2.out.x_doc hT3.2 (Or.inl rfl)).trans hcs2b.out
  have hb3 : Hid (w3.heap[hb]? = some (.cells ((takeAll listT d zs).1.map cellI).toArray 3)) := (M2.out.x_doc hT3.2 (Or.inr rfl)).trans HB2.out
  have hK := kept_any (cap := cap1) a cap zs (kept_of hcs3 HC2.out) ((m3.lin HZ.out).less (fun k _ e => Or.inr (by subst e; exact G1.out))) hn
  have hgl : Hid (g < w2.heap.size) := heap_lt hcs2b.out
  have M3 := hide m3
  have HR3 := hide hrow3
  clear hR m3 hT3 hcs3 hcs2b M2 M1 HC1 hrow3 HB2
  go_wp2_with fail
  (with_reducible refine hK.mono ?_)
  rintro e w4 ⟨rfl, k4⟩
  have M4 := hide (M3.out.keep (X' := fun i => i = hb) k4 (fun _ e => Or.inl e) (fun i e => ⟨Or.inl (Or.inr e), by rw [e]; exact Nat.lt_of_lt_of_le (heap_lt hb3.out) k4.size⟩))
  have hnm := num_any 0 w4
  have hb4 : Hid (w4.heap[hb]? = some (.cells ((takeAll listT d zs).1.map cellI).toArray 3)) := (k4.block hb (heap_lt hb3.out) (fun e => hgb.out e.symm)).trans hb3.out
  have hrow4 := ownsRow_keeps HR3.out k4 (fun b hb' e => by have := (ownsRow_block HR3.out hb').1; have := hgl.out; omega)
  obtain ⟨so', cap', hv', hI'⟩ := row_ints hrow4
  injection hv' with hv1 hv2 hv3
  subst hv1
  have hI1 : IntsAt w4 (some ⟨hb, 0, none⟩) (takeAll listT d zs).1 := fun j hj => by
    refine ⟨hb, 0, rfl, ?_⟩
    simp only [World.cell?, hb4.out]
    simp [cellI, hj]
  have hS := same_true (some ⟨hb, 0, none⟩) so zs.length cap3 (takeAll listT d zs).1 w4 (by rw [HOL.out]; omega) hI1 hI'
  rw [HOL.out] at hS
  have hoff : OffsAt w4 w4 hb 0 zs.length ((takeAll listT d zs).1.map cellI).toArray := ⟨hb4.out, by simp [HOL.out], Keeps.refl _ _⟩
  have HOFF := hide hoff
  clear hK k4 M3 hb3 HR3 hrow4 hI1 hI' hoff hv2 hv3 hb4
  go_wp2_with fail
  (with_reducible refine hnm.mono ?_)
  rintro e w5 ⟨rfl, hw5⟩
  subst hw5
  clear hnm
  go_wp2_with fail
  (with_reducible refine hS.mono ?_)
  rintro e w6 ⟨rfl, k6⟩
  have M6 := hide (M4.out.keep (X' := fun i => i = hb) k6 (fun _ e => e.elim) (fun i e => ⟨Or.inl e, Nat.lt_of_lt_of_le (M4.out.xs i e).2 k6.size⟩))
  have hoff6 : OffsAt w6 w6 hb 0 zs.length ((takeAll listT d zs).1.map cellI).toArray := ⟨(k6.block hb (heap_lt HOFF.out.blk) id).trans HOFF.out.blk, HOFF.out.size, Keeps.refl _ _⟩
  have HO6 := hide hoff6
  clear hS k6 M4 HOFF hoff6
  generalize takeAll listT d zs = TA at *
  go_wp2_with fail
  go_loopw [12] (fun i wr => ∃ k : Nat, ∃ cs', k ≤ zs.length ∧ i = .int .i64 (k : Int) ∧ Hid (OffsAt w6 wr hb k zs.length cs')) (fun i _ => zs.length - (intOf i).toNat)
  case atStart => exact ⟨0, _, Nat.zero_le _, rfl, HO6⟩
  case round =>
    clear HO6
    obtain ⟨k, cs', hk, rfl, hP⟩ := hrel
    by_cases hlt : k < zs.length
    · have hlt' : (k : Int) < (zs.length : Int) := by omega
      obtain ⟨⟨u, x0⟩, f0⟩ := hP.out.has hlt
      have HST := hide (hP.out.step (.int .i64 (-9)))
      clear hP
      go_wp2_with fail
      go_roundw
      case rel => exact ⟨k + 1, _, by omega, by go_num, HST⟩
      case measure => simp [intOf]; omega
    · obtain rfl : k = zs.length := by omega
      have hlt' : ¬ (zs.length : Int) < (zs.length : Int) := by omega
      obtain ⟨g7, cap7, w7, hap, k7⟩ := hP.out.two (-9) (-9) hn
      have M7 := hide (M6.out.keep (X' := fun _ => False) k7 (fun _ e => e) (fun i e => e.elim))
      clear hP M6 k7
      go_wp2_with (first | (at_builtin; have _t := hap; refine append_run _ rfl (.tmp 55) (.tmp 56) 32 rfl rfl rfl hap ?_; clear hap))
      go_ret
      exact M7.out.duo HF'.out HW'.out
theorem allocs_any {w : World} {p r : Nat} {F : Nat → Prop} {d : AD} (h : Duo w p r F d) (a : Option Addr) (cap : Nat) (zs : List Int) (hz : LIn w F a zs) (ha : a = none → cap = 0) (hn : zs.length ≤ 134217728) :
    Calls Tryz.prog 18 #[.pointer (some ⟨p, 0, none⟩), .pointer (some ⟨r, 0, none⟩), .slice a zs.length cap] w fun e w' => DuoPost w p r F e w' := by
  by_cases hE : refE d zs = 0
  · exact allocs_yes h a cap zs hz ha hn hE
  · exact allocs_no h a cap zs hz ha hn hE
end Go.Proofs.YtdlibnjgmdffnaaGreat
/-
  The law's frees; Alloc and Free of the program told as the document's are.
-/
namespace Go.Proofs.YtdlibnjgmdffnaaGreat
open Go.RowKit Go.Shelf
set_option linter.unusedVariables false

theorem prog_free {w : World} {p : Nat} {P : Nat → Prop} {d : AD} (h : Arena w p P d) (hPl : ∀ k, P k → k < w.heap.size) (hF : d.Fine) (g cap : Nat) (zs : List Int) (hn : zs.length ≤ 134217728) (hg : g < w.heap.size) (hz : ∀ j (hj : j < zs.length), w.cell? ⟨g, 0 + j, none⟩ = some (.int .i64 zs[j])) (hfit : ∀ z ∈ zs, fitsI z) :
    Calls Tryz.prog 46 #[.pointer (some ⟨p, 0, none⟩), .slice (some ⟨g, 0, none⟩) zs.length cap] w fun e w' =>
      (FreeOk d zs ∧ e = .returned (.int .i64 0) ∧ ∃ d', Gones d zs d' ∧ Turned w w' p P d') ∨ (¬ FreeOk d zs ∧ e = .returned (.int .i64 23) ∧ Keeps w w' (fun _ => False)) := by
  rcases Nat.eq_zero_or_pos zs.length with h0 | h0
  · obtain rfl : zs = [] := List.length_eq_zero_iff.1 h0
    refine (free_none (w := w) (p := p) (some ⟨g, 0, none⟩) cap).mono fun e w' hp => ?_
    exact Or.inl ⟨⟨List.nodup_nil, fun z hz => by cases hz⟩, hp.1, d, rfl, (h.keeps hp.2 (fun _ _ _ e => e)).mono (fun i _ e => Or.inl e), hp.2.mono (fun _ _ e => e.elim)⟩
  · refine (free_any h hPl hF (some ⟨g, 0, none⟩) cap zs h0 hn hfit (Or.inr ⟨g, 0, rfl, hg, fun j hj => ?_⟩)).mono fun e w' hp => ?_
    · rw [hz j hj, List.getElem?_eq_getElem hj]
      rfl
    · rcases hp with ⟨h1, h2, d', h3, h4⟩ | ⟨h1, h2, h3⟩
      · exact Or.inl ⟨good_two h1, h2, d', h3.perm (rising_perm zs), h4⟩
      · exact Or.inr ⟨fun hok => h1 (two_good hok.1 hok.2), h2, h3⟩

theorem prog_alloc {w : World} {p : Nat} {P : Nat → Prop} {d : AD} (h : Arena w p P d) (hPl : ∀ k, P k → k < w.heap.size) (hF : d.Fine) (hW : d.Well) (n : Int) :
    Calls Tryz.prog 16 #[.pointer (some ⟨p, 0, none⟩), .int .i64 n] w fun e w' =>
      (refE d [n] ≠ 0 ∧ e = .returned (.tuple #[.int .i64 0, .int .i64 (refE d [n])]) ∧ Keeps w w' (fun _ => False)) ∨
      (refE d [n] = 0 ∧ e = .returned (.tuple #[.int .i64 ((listT d (classI n).toNat).1 : Int), .int .i64 0]) ∧ Turned w w' p P (listT d (classI n).toNat).2) := by
  by_cases h0 : refE d [n] = 0
  · obtain ⟨a1, a2, a3⟩ := refE_yes h0
    obtain ⟨m, rfl⟩ := Int.eq_ofNat_of_zero_le (show 0 ≤ n by omega)
    have hcn : classI (m : Int) = (classN m : Int) := by unfold classI; rw [if_pos (by omega)]; simp
    have a4 : d.used + classN m ≤ d.limit := by omega
    refine (alloc_yes listOK h hPl hW hF m (by omega) (by omega) a4).mono fun e w' hp => ?_
    rw [hcn]
    exact Or.inr ⟨h0, by simpa using hp.1, by simpa using hp.2⟩
  · exact (alloc_ref h hF n _ rfl h0).mono fun e w' hp => Or.inl ⟨h0, hp.1, hp.2⟩
theorem alloc_next {d : AD} (hF : d.Fine) (hW : d.Well) {n : Int} (h0 : refE d [n] = 0) : (listT d (classI n).toNat).2.Fine ∧ (listT d (classI n).toNat).2.Well := by
  obtain ⟨a1, a2, a3⟩ := refE_yes h0
  have hin := classI_in n a1 a2
  have hp := class_pos hin
  obtain ⟨f1, f2, _⟩ := listOK.fine (classI n).toNat hW hF hin (by omega) (by omega)
  exact ⟨f1, f2⟩

set_option maxRecDepth 100000 in
set_option maxHeartbeats 4000000 in
theorem frees_any {w : World} {p r : Nat} {F : Nat → Prop} {d : AD} (h : Duo w p r F d) (a : Option Addr) (cap : Nat) (zs : List Int) (hz : LIn w F a zs) (ha : a = none → cap = 0) (hn : zs.length ≤ 134217728) (hfit : ∀ z ∈ zs, fitsI z) :
    Calls Tryz.prog 19 #[.pointer (some ⟨p, 0, none⟩), .pointer (some ⟨r, 0, none⟩), .slice a zs.length cap] w fun e w' => DuoPost w p r F e w' := by
  obtain ⟨P, R, m, hF, hW⟩ := h
  have hl := lent_any a cap zs hz.ints hn ha
  have M := hide m
  have HF := hide hF
  have HW := hide hW
  have HZ := hide hz
  have HFT := hide hfit
  clear m hF hW hz ha hfit
  go_enter Tryz.func19, Tryz.ntmps19
  go_wp2_with fail
  (with_reducible refine hl.mono ?_)
  rintro e w1 ⟨g, cap1, rfl, hc1, hg1, hg2, ⟨cs, hcs1, hcs2⟩, k1⟩
  have m1 := lent_mid M.out hg1 hg2 k1
  have hA := prog_free m1.a (fun k hk => (m1.pf k hk).2.1) HF.out g cap1 zs hn hg2 (fun j hj => own_ints hcs1 hcs2 j hj) HFT.out
  have M1 := hide m1
  have HC1 := hide hcs1
  have HC2 := hide hcs2
  have G1 := hide hg1
  clear hl m1 k1 hcs1 hcs2 hg1 hg2 M
  go_wp2_with fail
  (with_reducible refine hA.mono ?_)
  intro e w2 hp
  clear hA
  rcases hp with ⟨hok, rfl, d', hgs, hT⟩ | ⟨hok, rfl, k2⟩
  · obtain ⟨P', m2⟩ := M1.out.prog hT
    have hcs2b : Hid (w2.heap[g]? = some (.cells cs 3)) := (M1.out.x_prog hT.2 rfl).trans HC1.out
    have hR := ref_free m2.b HF.out a cap zs hn ((m2.lin HZ.out).less (fun k _ hr => (m2.rf k hr).1))
    have hnm := num_any 0 w2
    have M2 := hide m2
    have HGS := hide hgs
    have HOK := hide hok
    clear m2 hT hgs hok M1 HC1
    go_wp2_with fail
    (with_reducible refine hnm.mono ?_)
    rintro e wm ⟨rfl, hwm⟩
    subst hwm
    clear hnm
    go_wp2_with fail
    (with_reducible refine hR.mono ?_)
    intro e w3 hp
    have hp2 : e = .returned (.int .i64 0) ∧ RTurned wm w3 r R d' := by
      rcases hp with ⟨_, h1, d2, h2, h3⟩ | ⟨h1, _⟩
      · rw [HGS.out.one h2]
        exact ⟨h1, h3⟩
      · exact absurd HOK.out h1
    obtain ⟨rfl, hT3⟩ := hp2
    obtain ⟨R', m3⟩ := M2.out.doc hT3
    have hcs3 : w3.heap[g]? = some (.cells cs 3) := (M2.out.x_doc hT3.2 rfl).trans hcs2b.out
    have hK := kept_any (cap := cap1) a cap zs (kept_of hcs3 HC2.out) ((m3.lin HZ.out).less (fun k _ e => Or.inr (by subst e; exact G1.out))) hn
    have M3 := hide m3
    clear hR hp hT3 m3 hcs3 hcs2b M2
    go_wp2_with fail
    (with_reducible refine hK.mono ?_)
    rintro e w4 ⟨rfl, k4⟩
    have M4 := hide (M3.out.keep (X' := fun _ => False) k4 (fun _ e => e) (fun i e => e.elim))
    clear hK k4 M3
    go_wp2_with fail
    go_ret
    exact M4.out.duo (HF.out.gones HGS.out) (AD.Well.gones HW.out HF.out HGS.out)
  · have m2 := M1.out.keep (X' := fun i => i = g) k2 (fun _ e => e.elim) (fun i e => ⟨Or.inl e, by subst e; exact Nat.lt_of_lt_of_le (heap_lt HC1.out) k2.size⟩)
    have hcs2b : Hid (w2.heap[g]? = some (.cells cs 3)) := (k2.block g (heap_lt HC1.out) id).trans HC1.out
    have hR := ref_free m2.b HF.out a cap zs hn ((m2.lin HZ.out).less (fun k _ hr => (m2.rf k hr).1))
    have hnm := num_any 23 w2
    have M2 := hide m2
    have HOK := hide hok
    clear m2 k2 hok M1 HC1
    go_wp2_with fail
    (with_reducible refine hnm.mono ?_)
    rintro e wm ⟨rfl, hwm⟩
    subst hwm
    clear hnm
    go_wp2_with fail
    (with_reducible refine hR.mono ?_)
    intro e w3 hp
    have hp2 : e = .returned (.int .i64 23) ∧ Keeps wm w3 (fun _ => False) := by
      rcases hp with ⟨h1, _⟩ | ⟨_, h1, h2⟩
      · exact absurd h1 HOK.out
      · exact ⟨h1, h2⟩
    obtain ⟨rfl, k3⟩ := hp2
    have m3 := M2.out.keep (X' := fun i => i = g) k3 (fun _ e => e.elim) (fun i e => ⟨Or.inl e, by subst e; exact Nat.lt_of_lt_of_le (heap_lt hcs2b.out) k3.size⟩)
    have hcs3 : w3.heap[g]? = some (.cells cs 3) := (k3.block g (heap_lt hcs2b.out) id).trans hcs2b.out
    have hK := kept_any (cap := cap1) a cap zs (kept_of hcs3 HC2.out) ((m3.lin HZ.out).less (fun k _ e => Or.inr (by subst e; exact G1.out))) hn
    have M3 := hide m3
    clear hR hp k3 m3 hcs3 hcs2b M2
    go_wp2_with fail
    (with_reducible refine hK.mono ?_)
    rintro e w4 ⟨rfl, k4⟩
    have M4 := hide (M3.out.keep (X' := fun _ => False) k4 (fun _ e => e) (fun i e => e.elim))
    clear hK k4 M3
    go_wp2_with fail
    go_ret
    exact M4.out.duo HF.out HW.out
end Go.Proofs.YtdlibnjgmdffnaaGreat
/-
  The law's lays: Store, Fill, Copy.
-/
namespace Go.Proofs.YtdlibnjgmdffnaaGreat
open Go.RowKit Go.Shelf
set_option linter.unusedVariables false

theorem AD.Well.bytes {d : AD} (h : d.Well) (bs : List UInt8) : (d.bytes bs).Well := ⟨h.rises, h.sizes, h.most⟩
theorem store_next {d : AD} (hF : d.Fine) (hW : d.Well) (X N : Int) (V : Nat) : (storeR d X N V).2.Fine ∧ (storeR d X N V).2.Well := by
  unfold storeR
  split
  · split
    · rename_i hw hg
      obtain ⟨o, k, rfl, rfl, _, h⟩ := hF.span hg
      exact ⟨hF.bytes (splice_length (by rw [leBytes_length]; simpa using h)), hW.bytes _⟩
    · exact ⟨hF, hW⟩
  · exact ⟨hF, hW⟩
theorem fill_next {d : AD} (hF : d.Fine) (hW : d.Well) (X N : Int) (u : UInt8) : (fillR d X N u).2.Fine ∧ (fillR d X N u).2.Well := by
  unfold fillR
  split
  · rename_i hg
    obtain ⟨o, k, rfl, rfl, _, h⟩ := hF.span hg
    exact ⟨hF.bytes (splice_length (by rw [same_length]; simpa using h)), hW.bytes _⟩
  · exact ⟨hF, hW⟩
theorem copy_next {d : AD} (hF : d.Fine) (hW : d.Well) (X Y N : Int) : (copyR d X Y N).2.Fine ∧ (copyR d X Y N).2.Well := by
  unfold copyR
  split
  · rename_i hg
    rw [Bool.and_eq_true] at hg
    obtain ⟨o, k, rfl, rfl, _, h⟩ := hF.span hg.1
    obtain ⟨o2, k2, rfl, e2, _, h2⟩ := hF.span hg.2
    exact ⟨hF.bytes (splice_length (by simp; omega)), hW.bytes _⟩
  · exact ⟨hF, hW⟩
/-- What stands behind the box of the call's argument. -/
theorem box_mid {w : World} {p r : Nat} {F P R : Nat → Prop} {d : AD} (m : Mid w w p r F (fun _ => False) P R d d) (o : Obj) : Mid w (w.alloc o).drew p r F (fun i => i = w.heap.size) P R d d :=
  m.keep (((Keeps.refl w (fun _ => False)).alloc o).drew) (fun _ e => e.elim) (fun i e => by subst e; exact ⟨Or.inr (Nat.le_refl _), by show w.heap.size < (w.alloc o).heap.size; simp⟩)

set_option maxRecDepth 100000 in
set_option maxHeartbeats 4000000 in
theorem lays_store {w : World} {p r : Nat} {F : Nat → Prop} {d : AD} (h : Duo w p r F d) (X Y N : Int) (V : Nat) (l s : Value) (hV : V < 18446744073709551616) (hX : fitsI X) (hN : fitsI N) :
    Calls Tryz.prog 20 #[.pointer (some ⟨p, 0, none⟩), .pointer (some ⟨r, 0, none⟩), op2Arg 7 X Y N (V : Int) l s] w fun e w' => DuoPost w p r F e w' := by
  obtain ⟨P, R, m, hF, hW⟩ := h
  have m1 := box_mid m (.cells (op2Cells 7 X Y N (V : Int) l s) 35)
  have hbox : (w.alloc (.cells (op2Cells 7 X Y N (V : Int) l s) 35)).drew.heap[w.heap.size]? = some (.cells (op2Cells 7 X Y N (V : Int) l s) 35) := heap_alloc_new w _
  have hcell : ∀ W : World, W.heap[w.heap.size]? = some (.cells (op2Cells 7 X Y N (V : Int) l s) 35) → W.cell? ⟨w.heap.size, 1, none⟩ = some (.int .i64 X) ∧ W.cell? ⟨w.heap.size, 3, none⟩ = some (.int .i64 N) ∧ W.cell? ⟨w.heap.size, 4, none⟩ = some (.int .u64 (V : Int)) := fun W hb => by simp [World.cell?, hb, op2Cells]
  have hs1 := astore_any m1.a hF X N V hX hN
  have hs2 : ∀ W, Turned (w.alloc (.cells (op2Cells 7 X Y N (V : Int) l s) 35)).drew W p P (storeR d X N V).2 → Calls Tryz.prog 49 #[.pointer (some ⟨r, 0, none⟩), .int .i64 X, .int .i64 N, .int .u64 (V : Int)] W fun e w' => RErrPost W r R (storeR d X N V).1 (storeR d X N V).2 e w' := fun W hT => by
    obtain ⟨P', m2⟩ := m1.prog hT
    exact ref_store m2.b hF X N V hV hN
  have hS0 := hcell _ hbox
  have hS1 : ∀ W, Turned (w.alloc (.cells (op2Cells 7 X Y N (V : Int) l s) 35)).drew W p P (storeR d X N V).2 → W.cell? ⟨w.heap.size, 1, none⟩ = some (.int .i64 X) ∧ W.cell? ⟨w.heap.size, 3, none⟩ = some (.int .i64 N) ∧ W.cell? ⟨w.heap.size, 4, none⟩ = some (.int .u64 (V : Int)) := fun W hT => hcell W ((m1.x_prog hT.2 rfl).trans hbox)
  have hS2 : ∀ W W2, Turned (w.alloc (.cells (op2Cells 7 X Y N (V : Int) l s) 35)).drew W2 p P (storeR d X N V).2 → RTurned W2 W r R (storeR d X N V).2 → W.cell? ⟨w.heap.size, 1, none⟩ = some (.int .i64 X) ∧ W.cell? ⟨w.heap.size, 3, none⟩ = some (.int .i64 N) ∧ W.cell? ⟨w.heap.size, 4, none⟩ = some (.int .u64 (V : Int)) := fun W W2 hT hT2 => by
    obtain ⟨P', m2⟩ := m1.prog hT
    exact hcell W ((m2.x_doc hT2.2 rfl).trans ((m1.x_prog hT.2 rfl).trans hbox))
  have hend : ∀ W W2, Turned (w.alloc (.cells (op2Cells 7 X Y N (V : Int) l s) 35)).drew W2 p P (storeR d X N V).2 → RTurned W2 W r R (storeR d X N V).2 → DuoPost w p r F (.returned (.bool true)) W := fun W W2 hT hT2 => by
    obtain ⟨P', m2⟩ := m1.prog hT
    obtain ⟨R', m3⟩ := m2.doc hT2
    exact m3.duo (store_next hF hW X N V).1 (store_next hF hW X N V).2
  have HS2 := hide hs2
  have HC1 := hide hS1
  have HC2 := hide hS2
  have HEND := hide hend
  clear m m1 hF hW hbox hcell hs2 hS1 hS2 hend
  unfold op2Cells at *
  unfold op2Arg op2Cells
  generalize (storeR d X N V).1 = xx at *
  generalize (storeR d X N V).2 = dd at *
  go_enter Tryz.func20, Tryz.ntmps20
  go_wp2_with fail
  go_region_held3 (fun w' => w'.cell? ⟨w.heap.size, 1, none⟩ = some (.int .i64 X) ∧ w'.cell? ⟨w.heap.size, 3, none⟩ = some (.int .i64 N) ∧ w'.cell? ⟨w.heap.size, 4, none⟩ = some (.int .u64 (V : Int))) (first | with_reducible assumption | exact HC1.out _ (by assumption) | exact HC2.out _ _ (by assumption) (by assumption)) (first | (go_at_call 48; (with_reducible refine hs1.mono ?_); rintro e w2 ⟨rfl, hT2⟩) | (go_at_call 8; (with_reducible refine (num_any _ _).mono ?_); rintro e w3 ⟨rfl, hw3⟩; subst hw3) | (go_at_call 49; (with_reducible refine (HS2.out _ (by assumption)).mono ?_); rintro e w4 ⟨rfl, hT4⟩))
  all_goals (try go_wp2_with fail)
  all_goals go_ret
  all_goals exact HEND.out _ _ (by assumption) (by assumption)

set_option maxRecDepth 100000 in
set_option maxHeartbeats 4000000 in
theorem lays_copy {w : World} {p r : Nat} {F : Nat → Prop} {d : AD} (h : Duo w p r F d) (X Y N : Int) (V : Nat) (l s : Value) (hV : V < 18446744073709551616) (hX : fitsI X) (hY : fitsI Y) (hN : fitsI N) :
    Calls Tryz.prog 20 #[.pointer (some ⟨p, 0, none⟩), .pointer (some ⟨r, 0, none⟩), op2Arg 9 X Y N (V : Int) l s] w fun e w' => DuoPost w p r F e w' := by
  obtain ⟨P, R, m, hF, hW⟩ := h
  have m1 := box_mid m (.cells (op2Cells 9 X Y N (V : Int) l s) 35)
  have hbox : (w.alloc (.cells (op2Cells 9 X Y N (V : Int) l s) 35)).drew.heap[w.heap.size]? = some (.cells (op2Cells 9 X Y N (V : Int) l s) 35) := heap_alloc_new w _
  have hcell : ∀ W : World, W.heap[w.heap.size]? = some (.cells (op2Cells 9 X Y N (V : Int) l s) 35) → W.cell? ⟨w.heap.size, 1, none⟩ = some (.int .i64 X) ∧ W.cell? ⟨w.heap.size, 2, none⟩ = some (.int .i64 Y) ∧ W.cell? ⟨w.heap.size, 3, none⟩ = some (.int .i64 N) := fun W hb => by simp [World.cell?, hb, op2Cells]
  have hs1 := acopy_any m1.a hF X Y N hX hY hN
  have hs2 : ∀ W, Turned (w.alloc (.cells (op2Cells 9 X Y N (V : Int) l s) 35)).drew W p P (copyR d X Y N).2 → Calls Tryz.prog 53 #[.pointer (some ⟨r, 0, none⟩), .int .i64 X, .int .i64 Y, .int .i64 N] W fun e w' => RErrPost W r R (copyR d X Y N).1 (copyR d X Y N).2 e w' := fun W hT => by
    obtain ⟨P', m2⟩ := m1.prog hT
    exact ref_copy m2.b hF X Y N hN
  have hS0 := hcell _ hbox
  have hS1 : ∀ W, Turned (w.alloc (.cells (op2Cells 9 X Y N (V : Int) l s) 35)).drew W p P (copyR d X Y N).2 → W.cell? ⟨w.heap.size, 1, none⟩ = some (.int .i64 X) ∧ W.cell? ⟨w.heap.size, 2, none⟩ = some (.int .i64 Y) ∧ W.cell? ⟨w.heap.size, 3, none⟩ = some (.int .i64 N) := fun W hT => hcell W ((m1.x_prog hT.2 rfl).trans hbox)
  have hS2 : ∀ W W2, Turned (w.alloc (.cells (op2Cells 9 X Y N (V : Int) l s) 35)).drew W2 p P (copyR d X Y N).2 → RTurned W2 W r R (copyR d X Y N).2 → W.cell? ⟨w.heap.size, 1, none⟩ = some (.int .i64 X) ∧ W.cell? ⟨w.heap.size, 2, none⟩ = some (.int .i64 Y) ∧ W.cell? ⟨w.heap.size, 3, none⟩ = some (.int .i64 N) := fun W W2 hT hT2 => by
    obtain ⟨P', m2⟩ := m1.prog hT
    exact hcell W ((m2.x_doc hT2.2 rfl).trans ((m1.x_prog hT.2 rfl).trans hbox))
  have hend : ∀ W W2, Turned (w.alloc (.cells (op2Cells 9 X Y N (V : Int) l s) 35)).drew W2 p P (copyR d X Y N).2 → RTurned W2 W r R (copyR d X Y N).2 → DuoPost w p r F (.returned (.bool true)) W := fun W W2 hT hT2 => by
    obtain ⟨P', m2⟩ := m1.prog hT
    obtain ⟨R', m3⟩ := m2.doc hT2
    exact m3.duo (copy_next hF hW X Y N).1 (copy_next hF hW X Y N).2
  have HS2 := hide hs2
  have HC1 := hide hS1
  have HC2 := hide hS2
  have HEND := hide hend
  clear m m1 hF hW hbox hcell hs2 hS1 hS2 hend
  unfold op2Cells at *
  unfold op2Arg op2Cells
  generalize (copyR d X Y N).1 = xx at *
  generalize (copyR d X Y N).2 = dd at *
  go_enter Tryz.func20, Tryz.ntmps20
  go_wp2_with fail
  go_region_held3 (fun w' => w'.cell? ⟨w.heap.size, 1, none⟩ = some (.int .i64 X) ∧ w'.cell? ⟨w.heap.size, 2, none⟩ = some (.int .i64 Y) ∧ w'.cell? ⟨w.heap.size, 3, none⟩ = some (.int .i64 N)) (first | with_reducible assumption | exact HC1.out _ (by assumption) | exact HC2.out _ _ (by assumption) (by assumption)) (first | (go_at_call 52; (with_reducible refine hs1.mono ?_); rintro e w2 ⟨rfl, hT2⟩) | (go_at_call 8; (with_reducible refine (num_any _ _).mono ?_); rintro e w3 ⟨rfl, hw3⟩; subst hw3) | (go_at_call 53; (with_reducible refine (HS2.out _ (by assumption)).mono ?_); rintro e w4 ⟨rfl, hT4⟩))
  all_goals (try go_wp2_with fail)
  all_goals go_ret
  all_goals exact HEND.out _ _ (by assumption) (by assumption)
end Go.Proofs.YtdlibnjgmdffnaaGreat
/-
  The law's lays: Fill.
-/
namespace Go.Proofs.YtdlibnjgmdffnaaGreat
open Go.RowKit Go.Shelf
set_option linter.unusedVariables false

set_option maxRecDepth 100000 in
set_option maxHeartbeats 4000000 in
theorem lays_fill {w : World} {p r : Nat} {F : Nat → Prop} {d : AD} (h : Duo w p r F d) (X Y N : Int) (V : Nat) (l s : Value) (hV : V < 18446744073709551616) (hX : fitsI X) (hN : fitsI N) :
    Calls Tryz.prog 20 #[.pointer (some ⟨p, 0, none⟩), .pointer (some ⟨r, 0, none⟩), op2Arg 8 X Y N (V : Int) l s] w fun e w' => DuoPost w p r F e w' := by
  obtain ⟨P, R, m, hF, hW⟩ := h
  have m1 := box_mid m (.cells (op2Cells 8 X Y N (V : Int) l s) 35)
  have hbox : (w.alloc (.cells (op2Cells 8 X Y N (V : Int) l s) 35)).drew.heap[w.heap.size]? = some (.cells (op2Cells 8 X Y N (V : Int) l s) 35) := heap_alloc_new w _
  have hcell : ∀ W : World, W.heap[w.heap.size]? = some (.cells (op2Cells 8 X Y N (V : Int) l s) 35) → W.cell? ⟨w.heap.size, 1, none⟩ = some (.int .i64 X) ∧ W.cell? ⟨w.heap.size, 3, none⟩ = some (.int .i64 N) ∧ W.cell? ⟨w.heap.size, 4, none⟩ = some (.int .u64 (V : Int)) := fun W hb => by simp [World.cell?, hb, op2Cells]
  obtain ⟨u, hu⟩ : ∃ u : UInt8, ((V : Int) % 256) = (u.toNat : Int) := ⟨UInt8.ofNat (V % 256), by rw [UInt8.toNat_ofNat_of_lt' (show V % 256 < 256 by omega)]; omega⟩
  have hu8 : IntKind.u8.wrap (V : Int) = (u.toNat : Int) := by rw [← hu]; rfl
  have hs1 := afill_any m1.a hF X N u hX hN
  have hs2 : ∀ W, Turned (w.alloc (.cells (op2Cells 8 X Y N (V : Int) l s) 35)).drew W p P (fillR d X N u).2 → Calls Tryz.prog 51 #[.pointer (some ⟨r, 0, none⟩), .int .i64 X, .int .i64 N, .int .u8 (u.toNat : Int)] W fun e w' => RErrPost W r R (fillR d X N u).1 (fillR d X N u).2 e w' := fun W hT => by
    obtain ⟨P', m2⟩ := m1.prog hT
    exact ref_fill m2.b (fun k hk => (m2.rf k hk).2.1) hF X N u hN
  have hS0 := hcell _ hbox
  have hS1 : ∀ W, Turned (w.alloc (.cells (op2Cells 8 X Y N (V : Int) l s) 35)).drew W p P (fillR d X N u).2 → W.cell? ⟨w.heap.size, 1, none⟩ = some (.int .i64 X) ∧ W.cell? ⟨w.heap.size, 3, none⟩ = some (.int .i64 N) ∧ W.cell? ⟨w.heap.size, 4, none⟩ = some (.int .u64 (V : Int)) := fun W hT => hcell W ((m1.x_prog hT.2 rfl).trans hbox)
  have hS2 : ∀ W W2, Turned (w.alloc (.cells (op2Cells 8 X Y N (V : Int) l s) 35)).drew W2 p P (fillR d X N u).2 → RTurned W2 W r R (fillR d X N u).2 → W.cell? ⟨w.heap.size, 1, none⟩ = some (.int .i64 X) ∧ W.cell? ⟨w.heap.size, 3, none⟩ = some (.int .i64 N) ∧ W.cell? ⟨w.heap.size, 4, none⟩ = some (.int .u64 (V : Int)) := fun W W2 hT hT2 => by
    obtain ⟨P', m2⟩ := m1.prog hT
    exact hcell W ((m2.x_doc hT2.2 rfl).trans ((m1.x_prog hT.2 rfl).trans hbox))
  have hend : ∀ W W2, Turned (w.alloc (.cells (op2Cells 8 X Y N (V : Int) l s) 35)).drew W2 p P (fillR d X N u).2 → RTurned W2 W r R (fillR d X N u).2 → DuoPost w p r F (.returned (.bool true)) W := fun W W2 hT hT2 => by
    obtain ⟨P', m2⟩ := m1.prog hT
    obtain ⟨R', m3⟩ := m2.doc hT2
    exact m3.duo (fill_next hF hW X N u).1 (fill_next hF hW X N u).2
  have HS2 := hide hs2
  have HC1 := hide hS1
  have HC2 := hide hS2
  have HEND := hide hend
  clear m m1 hF hW hbox hcell hs2 hS1 hS2 hend
  unfold op2Cells at *
  unfold op2Arg op2Cells
  generalize (fillR d X N u).1 = xx at *
  generalize (fillR d X N u).2 = dd at *
  go_enter Tryz.func20, Tryz.ntmps20
  go_wp2_with fail
  go_region_held3 (fun w' => w'.cell? ⟨w.heap.size, 1, none⟩ = some (.int .i64 X) ∧ w'.cell? ⟨w.heap.size, 3, none⟩ = some (.int .i64 N) ∧ w'.cell? ⟨w.heap.size, 4, none⟩ = some (.int .u64 (V : Int))) (first | with_reducible assumption | exact HC1.out _ (by assumption) | exact HC2.out _ _ (by assumption) (by assumption)) (first | (go_at_call 50; (with_reducible refine hs1.mono ?_); rintro e w2 ⟨rfl, hT2⟩) | (go_at_call 8; (with_reducible refine (num_any _ _).mono ?_); rintro e w3 ⟨rfl, hw3⟩; subst hw3) | (go_at_call 51; (with_reducible refine (HS2.out _ (by assumption)).mono ?_); rintro e w4 ⟨rfl, hT4⟩))
  all_goals (try go_wp2_with fail)
  all_goals go_ret
  all_goals exact HEND.out _ _ (by assumption) (by assumption)
end Go.Proofs.YtdlibnjgmdffnaaGreat
/-
  The law's lays: Write.
-/
namespace Go.Proofs.YtdlibnjgmdffnaaGreat
open Go.RowKit Go.Shelf
set_option linter.unusedVariables false

theorem Tryz.infoS9 : (Tryz.prog.info? 9).map (fun i => (i.zero, i.size, i.bytes)) = some (some (.string ByteArray.empty), 1, 16) := by kernel_rfl
def cellS (t : ByteArray) : Value := .string t
theorem cellS_one {ts : List ByteArray} : ∀ u ∈ ts.map cellS, u.oneCell' = true := fun u hu => by
  obtain ⟨t, _, rfl⟩ := List.mem_map.1 hu
  rfl
/-- Texts that came in: their block is none of F. -/
def TIn (w : World) (F : Nat → Prop) (a : Option Addr) (ts : List ByteArray) : Prop := ∀ j (h : j < ts.length), ∃ b o, a = some ⟨b, o, none⟩ ∧ b < w.heap.size ∧ ¬ F b ∧ w.cell? ⟨b, o + j, none⟩ = some (.string ts[j])
theorem TIn.keeps {w w' : World} {F : Nat → Prop} {a : Option Addr} {ts : List ByteArray} (h : TIn w F a ts) (k : Keeps w w' F) : TIn w' F a ts := fun j hj => by
  obtain ⟨b, o, e, h1, h2, h3⟩ := h j hj
  exact ⟨b, o, e, Nat.lt_of_lt_of_le h1 k.size, h2, (World.cell?_of_block (k.block b h1 h2)).trans h3⟩
theorem TIn.texts {w : World} {F : Nat → Prop} {a : Option Addr} {ts : List ByteArray} (h : TIn w F a ts) : TextsAt w a ts := fun j hj => by
  obtain ⟨b, o, e, h1, h2, h3⟩ := h j hj
  exact ⟨b, o, e, h1, h3⟩
theorem Mid.tin {w W : World} {p r : Nat} {F X P R : Nat → Prop} {d1 d2 : AD} (m : Mid w W p r F X P R d1 d2) {a : Option Addr} {ts : List ByteArray} (hz : TIn w F a ts) : TIn W (fun k => F k ∨ w.heap.size ≤ k) a ts :=
  TIn.keeps (F := fun k => F k ∨ w.heap.size ≤ k) (fun j hj => by
    obtain ⟨b, o, e, h1, h2, h3⟩ := hz j hj
    refine ⟨b, o, e, h1, fun q => ?_, h3⟩
    rcases q with q | q
    · exact h2 q
    · omega) (m.kp.mono (fun _ _ e => Or.inl e))
theorem row_texts {W : World} {B : Nat} {v : Value} {ts : List ByteArray} (h : W.ownsRow B 9 1 v ts.length (ts.map cellS)) : ∃ so cap, v = .slice so ts.length cap := by
  rcases h.2 with ⟨h1, h2⟩ | ⟨g, cap, cur, hv, _⟩
  · exact ⟨none, 0, by rw [h1, h2]⟩
  · exact ⟨_, cap, hv⟩
theorem copy_texts {w : World} (a : Option Addr) (cap : Nat) (ts : List ByteArray) (h : TextsAt w a ts) (hn : ts.length ≤ 134217728) (ha : a = none → cap = 0) :
    ∃ so cap1 w1, (∀ ty, (Builtin.append_ #[33, 33] ty #[.slice none 0 0, .slice a ts.length cap]).run Tryz.prog w = .ok (.slice so ts.length cap1) w1) ∧ w1.ownsRow w.heap.size 9 1 (.slice so ts.length cap1) ts.length (ts.map cellS) ∧ Keeps w w1 (fun _ => False) := by
  obtain ⟨i, q1, q2, q3, q4⟩ := info_parts Tryz.infoS9
  have own0 : w.ownsRow w.heap.size 9 1 (.slice none 0 0) 0 [] := World.ownsRow_nil _ _ _ _
  cases a with
  | none =>
    have hz : ts = [] := by
      cases ts with
      | nil => rfl
      | cons z r =>
        obtain ⟨b, o, e, _⟩ := h 0 (by simp)
        cases e
    subst hz
    obtain rfl := ha rfl
    have r1 := fun ty => run_append_owned_none (P := Tryz.prog) (w := w) w.heap.size 33 ty 9 i 1 Tryz.underlying33 q1 _ 0 [] own0
    exact ⟨none, 0, w, r1, own0, Keeps.refl _ _⟩
  | some a =>
    obtain ⟨v', w2, hr, hown, hgr, hnil, hloc⟩ := run_append_own_at (P := Tryz.prog) w w.heap.size 33 0 9 i (.string ByteArray.empty) 1 16 Tryz.underlying33 q1 q2 q3 q4 rfl (by omega) _ 0 [] own0 a ts.length cap (ts.map cellS) (by simp)
      (fun j u hu => by
        rw [List.getElem?_map] at hu
        obtain ⟨z, hz, rfl⟩ := Option.map_eq_some_iff.1 hu
        obtain ⟨hj, rfl⟩ := List.getElem?_eq_some_iff.1 hz
        obtain ⟨b, o, e, _, hc⟩ := h j hj
        cases e
        rw [addr_add]
        exact hc) cellS_one (by simp only [maxLen]; omega) (by omega) (by simp)
    rw [Nat.zero_add, List.nil_append] at hown
    obtain ⟨so, cap1, rfl⟩ := row_texts hown
    exact ⟨so, cap1, w2, fun ty => hr, hown, (Keeps.ofGrown hgr).mono (fun i hi e => by simp [Value.ownBlock] at e)⟩
/-- The texts, and two more, in a block of one's own. -/
def RoomAt (w' : World) (g : Nat) (ts : List ByteArray) (x y : ByteArray) : Prop := ∃ cs, w'.heap[g]? = some (.cells cs 9) ∧ ∀ j (h : j < (ts ++ [x, y]).length), cs[j]? = some (.string (ts ++ [x, y])[j])
theorem texts_two {w : World} {B : Nat} {v : Value} {ts : List ByteArray} (h : w.ownsRow B 9 1 v ts.length (ts.map cellS)) (x y : ByteArray) (hn : ts.length ≤ 134217728) (hB : B ≤ w.heap.size) :
    ∃ g cap w2, (∀ ty, (Builtin.append_ #[33, 33] ty #[v, .slice (some ⟨w.heap.size, 0, none⟩) 2 2]).run Tryz.prog (w.alloc (.cells #[.string x, .string y] 9)) = .ok (.slice (some ⟨g, 0, none⟩) (ts.length + 2) cap) w2) ∧
      RoomAt w2 g ts x y ∧ ts.length + 2 ≤ cap ∧ B ≤ g ∧ Keeps w w2 (fun k => v.ownBlock = some k) := by
  obtain ⟨i, q1, q2, q3, q4⟩ := info_parts Tryz.infoS9
  have k0 : Keeps w (w.alloc (.cells #[.string x, .string y] 9)) (fun _ => False) := (Keeps.refl _ _).alloc _
  have hnew := heap_alloc_new w (.cells #[.string x, .string y] 9)
  obtain ⟨g2, c2, w', hr, h2, h3, h4, _⟩ := run_append_lies (P := Tryz.prog) (w.alloc (.cells #[.string x, .string y] 9)) 33 0 B 9 i (.string ByteArray.empty) 1 16 Tryz.underlying33 q1 q2 q3 q4 rfl (by omega)
    v ts.length (ts.map cellS) (ownsRow_keeps h k0 (fun _ _ => id)) ⟨w.heap.size, 0, none⟩ 2 2 [.string x, .string y] rfl
    (fun j u hj => by
      rw [addr_add, Nat.zero_add]
      simp only [World.cell?, hnew]
      simpa using hj)
    (fun u hu => by
      simp only [List.mem_cons, List.not_mem_nil, or_false] at hu
      rcases hu with rfl | rfl <;> rfl) (by omega) (by unfold maxLen; omega) (by omega) (by have := k0.size; omega) _ rfl
  have e : (ts ++ [x, y]).map cellS = ts.map cellS ++ [.string x, .string y] := by simp [cellS]
  have h5 : w'.ownsRow B 9 1 (.slice (some ⟨g2, 0, none⟩) (ts.length + 2) c2) (ts ++ [x, y]).length ((ts ++ [x, y]).map cellS) := by
    rw [e]
    simpa using h2
  rcases h5.2 with ⟨h6, _⟩ | ⟨g', cap', cur, hv, hb, hg, r1, r2, r3, r4⟩
  · cases h6
  · injection hv with e1 _ e3
    injection e1 with e1
    injection e1 with e1
    subst e1 e3
    refine ⟨g2, c2, w', fun ty => hr, ⟨cur, hg, fun j hj => ?_⟩, by simpa using r1, hb, (k0.mono (fun _ _ x => x.elim)).trans (Keeps.ofGrown h3) (fun _ _ x => x)⟩
    have e : (cur.toList.take ((ts ++ [x, y]).length * 1))[j]? = some (.string (ts ++ [x, y])[j]) := by
      rw [r4, List.getElem?_map, List.getElem?_eq_getElem hj]
      rfl
    rw [List.getElem?_take, if_pos (by omega)] at e
    simpa using e
theorem RoomAt.cell {w : World} {g : Nat} {ts : List ByteArray} {x y : ByteArray} (h : RoomAt w g ts x y) : (∀ j (hj : j < ts.length), w.cell? ⟨g, j, none⟩ = some (.string ts[j])) ∧ w.cell? ⟨g, ts.length, none⟩ = some (.string x) ∧ w.cell? ⟨g, ts.length + 1, none⟩ = some (.string y) := by
  obtain ⟨cs, h1, h2⟩ := h
  refine ⟨fun j hj => ?_, ?_, ?_⟩
  · have := h2 j (by simp; omega)
    simp only [World.cell?, h1]
    rw [this]
    simp [List.getElem_append_left hj]
  · have := h2 ts.length (by simp)
    simp only [World.cell?, h1]
    rw [this]
    simp
  · have := h2 (ts.length + 1) (by simp)
    simp only [World.cell?, h1]
    rw [this]
    simp
theorem RoomAt.same {w w' : World} {g : Nat} {ts : List ByteArray} {x y : ByteArray} (h : RoomAt w g ts x y) (hb : w'.heap[g]? = w.heap[g]?) : RoomAt w' g ts x y := by
  obtain ⟨cs, h1, h2⟩ := h
  exact ⟨cs, hb.trans h1, h2⟩
theorem RoomAt.lt {w : World} {g : Nat} {ts : List ByteArray} {x y : ByteArray} (h : RoomAt w g ts x y) : g < w.heap.size := by
  obtain ⟨cs, h1, h2⟩ := h
  exact heap_lt h1
theorem lens_mem {ts : List ByteArray} : ∀ t ∈ ts, t.size ≤ lens ts := by
  induction ts with
  | nil => intro t ht; cases ht
  | cons x r ih =>
    intro t ht
    have e : lens (x :: r) = x.size + lens r := rfl
    rcases List.mem_cons.1 ht with rfl | ht
    · omega
    · have := ih t ht
      omega
theorem well_small {d : AD} (hW : d.Well) : d.small := fun x hx => (class_pos (hW.sizes x hx)).2
theorem write_next {d : AD} (hF : d.Fine) (hW : d.Well) (X : Int) (ts : List ByteArray) : (writeR d X ts).2.Fine ∧ (writeR d X ts).2.Well := by
  unfold writeR
  split
  · rename_i hg
    rw [Bool.and_eq_true] at hg
    obtain ⟨o, k, rfl, e2, _, h⟩ := hF.span hg.1
    exact ⟨hF.bytes (splice_length (by rw [joined_length]; simp; omega)), hW.bytes _⟩
  · exact ⟨hF, hW⟩
end Go.Proofs.YtdlibnjgmdffnaaGreat
/-
  The law's lays: Write, walked.
-/
namespace Go.Proofs.YtdlibnjgmdffnaaGreat
open Go.RowKit Go.Shelf
set_option linter.unusedVariables false

def mineS : ByteArray := { data := #[109, 105, 110, 101] }
def mine2 : ByteArray := { data := #[109, 105, 110, 101, 32, 116, 111, 111] }

set_option maxRecDepth 100000 in
set_option maxHeartbeats 8000000 in
theorem lays_write {w : World} {p r : Nat} {F : Nat → Prop} {d : AD} (h : Duo w p r F d) (X Y N V : Int) (l : Value) (a : Option Addr) (cap : Nat) (ts : List ByteArray) (hX : fitsI X) (hts : TIn w F a ts) (ha : a = none → cap = 0) (hn : ts.length ≤ 134217728) (hlen : lens ts ≤ 1048576) :
    Calls Tryz.prog 20 #[.pointer (some ⟨p, 0, none⟩), .pointer (some ⟨r, 0, none⟩), op2Arg 12 X Y N V l (.slice a ts.length cap)] w fun e w' => DuoPost w p r F e w' := by
  obtain ⟨P, R, m, hF, hW⟩ := h
  have k1 : Keeps w (w.alloc (.cells (op2Cells 12 X Y N V l (.slice a ts.length cap)) 35)) (fun _ => False) := (Keeps.refl _ _).alloc _
  have hb1 := heap_alloc_new w (.cells (op2Cells 12 X Y N V l (.slice a ts.length cap)) 35)
  have m1 : Mid w (w.alloc (.cells (op2Cells 12 X Y N V l (.slice a ts.length cap)) 35)) p r F (fun i => i = w.heap.size) P R d d := m.keep k1 (fun _ e => e.elim) (fun i e => by subst e; exact ⟨Or.inr (Nat.le_refl _), heap_lt hb1⟩)
  obtain ⟨so2, cap2, w2, hap1, hrow2, k2⟩ := copy_texts a cap ts (m1.tin hts).texts hn ha
  obtain ⟨g, cap3, w3, hap2, hroom3, hcap3, hg3, k3⟩ := texts_two hrow2 mineS mine2 hn k2.size
  have hg1 : w.heap.size + 1 ≤ g := by simpa using hg3
  have k13 : Keeps (w.alloc (.cells (op2Cells 12 X Y N V l (.slice a ts.length cap)) 35)) w3 (fun _ => False) := k2.trans k3 (fun i hi e => by have := (ownsRow_block hrow2 e).1; omega)
  have m3 : Mid w w3 p r F (fun i => i = w.heap.size ∨ i = g) P R d d := m1.keep k13 (fun _ e => e.elim) (fun i e => by
    rcases e with e | e
    · exact ⟨Or.inl e, by rw [e]; exact Nat.lt_of_lt_of_le (heap_lt hb1) k13.size⟩
    · exact ⟨Or.inr (by rw [e]; simpa using hg1), by rw [e]; exact hroom3.lt⟩)
  have hb2 : w2.heap[w.heap.size]? = some (.cells (op2Cells 12 X Y N V l (.slice a ts.length cap)) 35) := (k2.block _ (heap_lt hb1) id).trans hb1
  have hb3 : w3.heap[w.heap.size]? = some (.cells (op2Cells 12 X Y N V l (.slice a ts.length cap)) 35) := (k13.block _ (heap_lt hb1) id).trans hb1
  have hcell : ∀ W : World, W.heap[w.heap.size]? = some (.cells (op2Cells 12 X Y N V l (.slice a ts.length cap)) 35) → W.cell? ⟨w.heap.size, 1, none⟩ = some (.int .i64 X) ∧ W.cell? ⟨w.heap.size, 6, none⟩ = some (.slice a ts.length cap) := fun W hb => by simp [World.cell?, hb, op2Cells]
  have hR := ref_write m3.b hF X a cap ts hn hlen (m3.tin hts).texts
  have x3 := hcell w3 hb3
  have hx31 := x3.1
  have hx36 := x3.2
  have HF := hide hF
  have HW := hide hW
  have M3 := hide m3
  have HTS := hide hts
  have HB3 := hide hb3
  have HRM := hide hroom3
  have HCELL := hide hcell
  have HG1 := hide hg1
  have HLEN := hide hlen
  have HXX := hide hX
  clear m m1 m3 hF hW hts k1 k2 k3 k13 hrow2 hroom3 hb2 hb3 hg3 hcell x3 hb1 hlen hX hg1 ha
  unfold op2Cells at *
  unfold op2Arg op2Cells
  unfold mineS mine2 at hap2
  go_enter Tryz.func20, Tryz.ntmps20
  go_wp2_with (first | (at_builtin; have _t := hap1; refine append_run _ rfl (.tmp 75) (.tmp 77) 33 rfl rfl rfl hap1 ?_; clear hap1) | (at_builtin; have _t := hap2; refine append_run _ rfl (.tmp 79) (.tmp 80) 33 rfl rfl rfl hap2 ?_; clear hap2))
  (with_reducible refine hR.mono ?_)
  rintro e w4 ⟨rfl, hT4⟩
  obtain ⟨R', m4⟩ := M3.out.doc hT4
  have hb4 := (M3.out.x_doc hT4.2 (Or.inl rfl)).trans HB3.out
  have hrm4 := HRM.out.same (M3.out.x_doc hT4.2 (Or.inr rfl))
  have x4 := HCELL.out w4 hb4
  have x4d := HCELL.out w4.drew hb4
  have m4d : Mid w w4.drew p r F (fun i => i = w.heap.size ∨ i = g) P R' d (writeR d X ts).2 := m4.keep (Keeps.refl w4 (fun _ => False)).drew (fun _ e => e.elim) (fun i e => ⟨Or.inl e, (m4.xs i e).2⟩)
  have hA := awrite_any joinOK m4d.a HF.out (well_small HW.out) X (some ⟨g, 0, none⟩) cap3 ts HXX.out (by omega) (by omega) (fun t ht => by have := lens_mem t ht; have := HLEN.out; omega) (fun j hj => ⟨g, 0, rfl, hrm4.lt, by rw [Nat.zero_add]; exact hrm4.cell.1 j hj⟩)
  have M4 := hide m4d
  have HB4 := hide hb4
  have HRM4 := hide hrm4
  have hnn : (ts.length : Int) ≤ (cap3 : Int) := by omega
  have hnn2 : ts.length ≤ cap3 := by omega
  clear hR hT4 m4 m4d hb4 hrm4 M3 HB3 HRM
  have hpost : Hid (∀ W, Turned w4.drew W p P (writeR d X ts).2 → W.cell? ⟨w.heap.size, 1, none⟩ = some (.int .i64 X) ∧ W.cell? ⟨w.heap.size, 6, none⟩ = some (.slice a ts.length cap)) := fun W hT => HCELL.out W ((M4.out.x_prog hT.2 (Or.inl rfl)).trans HB4.out)
  have HNX := hide (write_next HF.out HW.out X ts)
  generalize (writeR d X ts).1 = xx at *
  generalize (writeR d X ts).2 = dd at *
  go_wp2_with fail
  go_region_held3 (fun w' => w'.cell? ⟨w.heap.size, 1, none⟩ = some (.int .i64 X) ∧ w'.cell? ⟨w.heap.size, 6, none⟩ = some (.slice a ts.length cap)) (first | with_reducible assumption | exact x4d | exact hpost.out _ (by assumption)) (first | (go_at_call 55; (with_reducible refine hA.mono ?_); rintro e w5 ⟨rfl, hT5⟩))
  obtain ⟨P', m5⟩ := M4.out.prog hT5
  have hb5 := (M4.out.x_prog hT5.2 (Or.inl rfl)).trans HB4.out
  have hrm5 := HRM4.out.same (M4.out.x_prog hT5.2 (Or.inr rfl))
  have M5 := hide m5
  have HB5 := hide hb5
  have HRM5 := hide hrm5
  have hstay : Hid (∀ W, Keeps w5 W (fun _ => False) → W.cell? ⟨w.heap.size, 6, none⟩ = some (.slice a ts.length cap) ∧ W.cell? ⟨g, ts.length, none⟩ = some (.string mineS) ∧ W.cell? ⟨g, ts.length + 1, none⟩ = some (.string mine2)) := fun W kW => by
    have hb := (kW.block _ (heap_lt HB5.out) id).trans HB5.out
    have hr := HRM5.out.same (kW.block _ HRM5.out.lt id)
    exact ⟨(HCELL.out W hb).2, hr.cell.2.1, hr.cell.2.2⟩
  have hstayT : Hid (∀ W, Keeps w5 W (fun _ => False) → ∀ j (hj : j < ts.length), W.cell? ⟨g, j, none⟩ = some (.string ts[j]) ∧ ∃ b o, a = some ⟨b, o, none⟩ ∧ W.cell? ⟨b, o + j, none⟩ = some (.string ts[j])) := fun W kW j hj => by
    have hr := HRM5.out.same (kW.block _ HRM5.out.lt id)
    obtain ⟨b, o, e, h1, _, h3⟩ := M5.out.tin HTS.out j hj
    exact ⟨hr.cell.1 j hj, b, o, e, keep_cell kW h3⟩
  clear hT5 m5 hb5 hrm5 hA x4 x4d hpost hx31 hx36 M4 HB4 HRM4
  go_wp2_with fail
  go_loopw [10] (fun i wr => ∃ k : Nat, k ≤ ts.length ∧ i = .int .i64 (k : Int) ∧ Hid (Keeps w5 wr (fun _ => False))) (fun i _ => ts.length - (intOf i).toNat)
  case atStart => exact ⟨0, Nat.zero_le _, rfl, Keeps.refl _ _⟩
  case round =>
    obtain ⟨k, hk, rfl, hK⟩ := hrel
    obtain ⟨y6, yA, yB⟩ := hstay.out wr hK.out
    by_cases hlt : k < ts.length
    · have hlt' : (k : Int) < (ts.length : Int) := by omega
      have hlt2 : (k : Int) < (ts.length : Int) + 2 := by omega
      obtain ⟨z0, b, o, rfl, z1⟩ := hstayT.out wr hK.out k hlt
      clear yA yB hstay hstayT
      generalize ts[k] = t at *
      go_wp2_with fail
      go_quiet (fail)
      go_wp2_with fail
      exact ⟨⟨k + 1, by omega, by simp, (by have q := hK.out; exact ⟨q.os, q.tape, q.output, q.size, q.block⟩)⟩, by simp [intOf]; omega⟩
    · obtain rfl : k = ts.length := by omega
      have hlt' : ¬ (ts.length : Int) < (ts.length : Int) := by omega
      have hnm := num_any xx wr
      have M6 := hide (M5.out.keep (X' := fun _ => False) hK.out (fun _ e => e.elim) (fun i e => e.elim))
      unfold mineS at yA
      unfold mine2 at yB
      clear hstay hstayT hK M5
      go_wp2_with fail
      (with_reducible refine hnm.mono ?_)
      rintro e w7 ⟨rfl, hw7⟩
      subst hw7
      clear hnm
      go_wp2_with fail
      go_ret
      exact M6.out.duo HNX.out.1 HNX.out.2
end Go.Proofs.YtdlibnjgmdffnaaGreat
/-
  The law's plays.
-/
namespace Go.Proofs.YtdlibnjgmdffnaaGreat
open Go.RowKit Go.Shelf
set_option linter.unusedVariables false

theorem DuoPost.before {w w1 w' : World} {p r : Nat} {F : Nat → Prop} {e : Ending} (k : Keeps w w1 (fun _ => False)) (h : DuoPost w1 p r F e w') : DuoPost w p r F e w' := by
  obtain ⟨h1, h2, d', h3⟩ := h
  have hs := k.size
  exact ⟨h1, (k.mono (fun _ _ e => e.elim)).trans h2 (fun _ _ e => e), d', h3.mono (fun i _ e => e.imp id (fun e => by omega))⟩
theorem Duo.same {w w' : World} {p r : Nat} {F : Nat → Prop} {d : AD} (h : Duo w p r F d) {e : Ending} (hy : YesKeeps w e w') : DuoPost w p r F e w' := by
  obtain ⟨P, R, m, hF, hW⟩ := h
  obtain ⟨rfl, k⟩ := hy
  exact (m.keep (X' := fun _ => False) k (fun _ e => e.elim) (fun i e => e.elim)).duo hF hW
theorem YesKeeps.before {w w1 w' : World} {e : Ending} (k : Keeps w w1 (fun _ => False)) (h : YesKeeps w1 e w') : YesKeeps w e w' := ⟨h.1, k.trans h.2 (fun _ _ e => e)⟩

set_option maxRecDepth 100000 in
set_option maxHeartbeats 4000000 in
theorem plays_alloc {w : World} {p r : Nat} {F : Nat → Prop} {d : AD} (h : Duo w p r F d) (X Y N V : Int) (l s : Value) :
    Calls Tryz.prog 9 #[.pointer (some ⟨p, 0, none⟩), .pointer (some ⟨r, 0, none⟩), op2Arg 1 X Y N V l s] w fun e w' => DuoPost w p r F e w' := by
  obtain ⟨P, R, m, hF, hW⟩ := h
  have k1 : Keeps w (w.alloc (.cells (op2Cells 1 X Y N V l s) 35)) (fun _ => False) := (Keeps.refl _ _).alloc _
  have hb1 := heap_alloc_new w (.cells (op2Cells 1 X Y N V l s) 35)
  have m1 : Mid w (w.alloc (.cells (op2Cells 1 X Y N V l s) 35)) p r F (fun i => i = w.heap.size) P R d d := m.keep k1 (fun _ e => e.elim) (fun i e => by subst e; exact ⟨Or.inr (Nat.le_refl _), heap_lt hb1⟩)
  have hA := prog_alloc m1.a (fun k hk => (m1.pf k hk).2.1) hF hW N
  have hcell : ∀ W : World, W.heap[w.heap.size]? = some (.cells (op2Cells 1 X Y N V l s) 35) → W.cell? ⟨w.heap.size, 3, none⟩ = some (.int .i64 N) := fun W hb => by simp [World.cell?, hb, op2Cells]
  have M1 := hide m1
  have HF := hide hF
  have HW := hide hW
  have HB := hide hb1
  have HC := hide hcell
  clear m m1 hF hW k1 hb1 hcell
  unfold op2Cells at *
  unfold op2Arg op2Cells
  go_enter Tryz.func9, Tryz.ntmps9
  go_wp2_with fail
  (with_reducible refine hA.mono ?_)
  intro e w2 hp
  clear hA
  rcases hp with ⟨h0, rfl, k2⟩ | ⟨h0, rfl, hT⟩
  · have m2 := M1.out.keep (X' := fun i => i = w.heap.size) k2 (fun _ e => e.elim) (fun i e => ⟨Or.inl e, Nat.lt_of_lt_of_le (M1.out.xs i e).2 k2.size⟩)
    have x3 := HC.out w2 ((k2.block _ (heap_lt HB.out) id).trans HB.out)
    have hR := ref_alloc m2.b (fun k hk => (m2.rf k hk).2.1) HF.out HW.out N
    have M2 := hide m2
    have H0 := hide h0
    clear m2 k2 h0
    generalize hx : refE d [N] = x at *
    have HX := hide hx
    clear hx
    go_wp2_with fail
    (with_reducible refine hR.mono ?_)
    intro e w3 hp
    have hp2 : e = .returned (.tuple #[.int .i64 0, .int .i64 x]) ∧ Keeps w2 w3 (fun _ => False) := by
      rcases hp with ⟨_, h1, h2⟩ | ⟨h1, _⟩
      · rw [HX.out] at h1
        exact ⟨h1, h2⟩
      · exact absurd (HX.out.symm.trans h1) H0.out
    obtain ⟨rfl, k3⟩ := hp2
    have M3 := hide (M2.out.keep (X' := fun _ => False) k3 (fun _ e => e.elim) (fun i e => e.elim))
    have hnm := num_any x w3
    clear hR hp k3 M2
    go_wp2_with fail
    (with_reducible refine hnm.mono ?_)
    rintro e w4 ⟨rfl, hw4⟩
    subst hw4
    clear hnm
    go_wp2_with fail
    go_ret
    exact M3.out.duo HF.out HW.out
  · obtain ⟨P', m2⟩ := M1.out.prog hT
    have x3 := HC.out w2 ((M1.out.x_prog hT.2 rfl).trans HB.out)
    have hR := ref_alloc m2.b (fun k hk => (m2.rf k hk).2.1) HF.out HW.out N
    have M2 := hide m2
    have H0 := hide h0
    have HNX := hide (alloc_next HF.out HW.out h0)
    clear m2 hT h0
    generalize hz : (listT d (classI N).toNat).1 = z at *
    have HZ := hide hz
    clear hz
    go_wp2_with fail
    (with_reducible refine hR.mono ?_)
    intro e w3 hp
    have hp2 : e = .returned (.tuple #[.int .i64 (z : Int), .int .i64 0]) ∧ RTurned w2 w3 r R (listT d (classI N).toNat).2 := by
      rcases hp with ⟨h1, _⟩ | ⟨_, h1, h2⟩
      · exact absurd H0.out h1
      · rw [HZ.out] at h1
        exact ⟨h1, h2⟩
    obtain ⟨rfl, hT3⟩ := hp2
    obtain ⟨R', m3⟩ := M2.out.doc hT3
    have M3 := hide m3
    have hnm := num_any 0 w3
    clear hR hp hT3 M2 m3
    go_wp2_with fail
    (with_reducible refine hnm.mono ?_)
    rintro e w4 ⟨rfl, hw4⟩
    subst hw4
    clear hnm
    go_wp2_with fail
    go_ret
    exact M3.out.duo HNX.out.1 HNX.out.2

/-- A step of the law that hands its argument on. -/
theorem box_duo {w : World} {p r : Nat} {F : Nat → Prop} {d : AD} (h : Duo w p r F d) (hFl : ∀ k, F k → k < w.heap.size) (o : Obj) : Duo (w.alloc o) p r F d := h.keeps ((Keeps.refl w (fun _ => False)).alloc o) (fun _ _ e => e) hFl

set_option maxRecDepth 100000 in
set_option maxHeartbeats 4000000 in
theorem plays_all {w : World} {p r : Nat} {F : Nat → Prop} {d : AD} (h : Duo w p r F d) (hFl : ∀ k, F k → k < w.heap.size) (X Y N V : Int) (s : Value) (a : Option Addr) (cap : Nat) (zs : List Int) (hz : LIn w F a zs) (ha : a = none → cap = 0) (hn : zs.length ≤ 134217728) :
    Calls Tryz.prog 9 #[.pointer (some ⟨p, 0, none⟩), .pointer (some ⟨r, 0, none⟩), op2Arg 2 X Y N V (.slice a zs.length cap) s] w fun e w' => DuoPost w p r F e w' := by
  have k1 : Keeps w (w.alloc (.cells (op2Cells 2 X Y N V (.slice a zs.length cap) s) 35)) (fun _ => False) := (Keeps.refl _ _).alloc _
  have hA := allocs_any (box_duo h hFl (.cells (op2Cells 2 X Y N V (.slice a zs.length cap) s) 35)) a cap zs (hz.keeps (k1.mono (fun _ _ e => e.elim))) ha hn
  have K1 := hide k1
  clear h hz ha k1
  unfold op2Cells at *
  unfold op2Arg op2Cells
  go_enter Tryz.func9, Tryz.ntmps9
  go_wp2_with fail
  (with_reducible refine hA.mono ?_)
  intro e w2 hp
  have HP := hide (DuoPost.before K1.out hp)
  obtain ⟨rfl, _⟩ := hp
  clear hA
  go_wp2_with fail
  go_ret
  exact HP.out

set_option maxRecDepth 100000 in
set_option maxHeartbeats 4000000 in
theorem plays_free {w : World} {p r : Nat} {F : Nat → Prop} {d : AD} (h : Duo w p r F d) (hFl : ∀ k, F k → k < w.heap.size) (X Y N V : Int) (s : Value) (a : Option Addr) (cap : Nat) (zs : List Int) (hz : LIn w F a zs) (ha : a = none → cap = 0) (hn : zs.length ≤ 134217728) (hfit : ∀ z ∈ zs, fitsI z) :
    Calls Tryz.prog 9 #[.pointer (some ⟨p, 0, none⟩), .pointer (some ⟨r, 0, none⟩), op2Arg 3 X Y N V (.slice a zs.length cap) s] w fun e w' => DuoPost w p r F e w' := by
  have k1 : Keeps w (w.alloc (.cells (op2Cells 3 X Y N V (.slice a zs.length cap) s) 35)) (fun _ => False) := (Keeps.refl _ _).alloc _
  have hA := frees_any (box_duo h hFl (.cells (op2Cells 3 X Y N V (.slice a zs.length cap) s) 35)) a cap zs (hz.keeps (k1.mono (fun _ _ e => e.elim))) ha hn hfit
  have K1 := hide k1
  clear h hz ha k1 hfit
  unfold op2Cells at *
  unfold op2Arg op2Cells
  go_enter Tryz.func9, Tryz.ntmps9
  go_wp2_with fail
  (with_reducible refine hA.mono ?_)
  intro e w2 hp
  have HP := hide (DuoPost.before K1.out hp)
  obtain ⟨rfl, _⟩ := hp
  clear hA
  go_wp2_with fail
  go_ret
  exact HP.out
end Go.Proofs.YtdlibnjgmdffnaaGreat
