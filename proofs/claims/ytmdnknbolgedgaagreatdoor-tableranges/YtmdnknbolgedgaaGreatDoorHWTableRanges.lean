/-
  TableRanges.
-/
import Derived.Test.YtmdnknbolgedgaaGreatDoorUn20
import Derived.Test.YtmdnknbolgedgaaGreatDoorHTC12
import Derived.Test.YtmdnknbolgedgaaGreatDoorHT24
import Derived.Test.YtmdnknbolgedgaaGreatDoorHT25
import Derived.Test.YtmdnknbolgedgaaGreatDoorHT26
import Derived.Test.YtmdnknbolgedgaaGreatDoorHT27
import Derived.Test.YtmdnknbolgedgaaGreatDoorHT31
import Derived.Test.YtmdnknbolgedgaaGreatDoorHTM7
import Derived.OwnWalkIn
import Derived.Laws.EntriesVeiled
import Derived.TacticsInMore
namespace Go.Proofs.YtmdnknbolgedgaaGreatDoor
namespace tableRanges
open Go.RowKit Go.Shelf Ly Ct
set_option linter.unusedVariables false
attribute [local go_sem] Oper.semAt_some

theorem eq_nil_seq (W : World) (g : Nat) (x : Array Value) : (binOp .eql 80 (.func (.func g) #[] x) .nilFunc).run Tryz.prog W = .ok (.bool false) W := by
  kernel_rfl

attribute [local go_sem] eq_nil_seq
/-- The Bench, its pointer in a box. -/
theorem boxed {w wr wr' : World} {b p : Nat} {l : Lay} {G : Nat} {fs ts hs lv : Value} {L : List LifeD} {ad : Nat} {d : AD} {f : Nat → Int} {c : Nat → GC} (h : BM w wr b p l G fs ts hs lv L ad d f c) {B : Nat} (hB : wr.heap.size ≤ B) (k : Keeps wr wr' (fun _ => False)) (hb : wr'.heap[B]? = some (.cells #[.pointer (some ⟨b, 0, none⟩)] 46)) : @Bx.BM ⟨B⟩ w wr' b p l G fs ts hs lv L ad d f c := by
  letI : Bx.BoxNo := ⟨B⟩
  have h' := h.stay k
  have hs := (h.sw).box hB k (heap_lt hb)
  exact ⟨h'.blk, h'.row, h'.base, (hs.less (fun q e => by
    rcases e with e | e | e
    · exact Or.inl (Or.inl e)
    · exact Or.inl (Or.inr e)
    · exact Or.inr e)).own, h'.fine, h'.small, h'.tab, h'.f4, h'.f7, hb, by
    have := h.own.keeps.size
    show w.heap.size ≤ B
    omega⟩
/-- Is it this life? -/
def mt (x : Nat × GC) (y : LifeD) : Bool := decide (y.slot = (x.1 : Int) ∧ y.key = x.2.key ∧ y.elem = x.2.elem ∧ y.birth = x.2.birth)
theorem any_succ {x : Nat × GC} {L : List LifeD} {i : Nat} (h : i < L.length) : (L.take (i + 1)).any (mt x) = ((L.take i).any (mt x) || mt x L[i]) := by
  rw [List.take_succ_eq_append_getElem h, List.any_append]
  simp
theorem str_yes {a b : ByteArray} (h : a = b) : (a.toList == b.toList) = true := by simp [h]
theorem str_no {a b : ByteArray} (h : a ≠ b) : (a.toList == b.toList) = false := by
  simp only [beq_eq_false_iff_ne, ne_eq]
  exact fun e => h (ByteArray.ext (Array.toList_inj.1 (by simpa [ByteArray.toList_eq] using e)))
set_option maxRecDepth 100000 in
set_option maxHeartbeats 20000000 in
theorem walk {w : World} {l : Lay} {fs : Value} {S : Int} {ha : Option Addr} {nh hc : Nat} {hv : Nat → Nat} {ta : Option Addr} {tc : Nat} {ss : List (Int × Int × Int)} (h : PlanIn w l fs S ha nh hc hv ta tc ss) (stop : Int) (hwf : fitsI stop) :
    Calls Tryz.prog 7 #[.agg #[fs, .int .i64 S, .slice ha nh hc, .slice ta ss.length tc], .int .i64 stop] w fun e w' => e = .returned (.bool true) ∧ Keeps w w' (fun _ => False) := by
  have hBe := hide h.bench
  have hfew := h.few
  have hFit := hide h.fits
  have hTn : Hid (∀ i (hi : i < ss.length), _) := fun i hi => h.turn hi
  clear h
  refine (callsIn_wide (n := 8)).1 ?_
  refine callsIn_of_wp_marks Tryz.func7 rfl trivial ?_ rfl
  simp only [Tryz.ntmps7, List.size_toArray, List.length_cons, List.length_nil, Nat.reduceAdd, Nat.reduceSub, Array.replicate_succ, Array.replicate_zero, List.push_toArray, List.append_toArray, List.nil_append, List.cons_append]
  rw [wpIn_wide]
  go_wp2_with fail
  refine alloc3 (P := fun W => Calls _ _ _ W _) fun W0 hb hbs hbr hz k0 => ?_
  (with_reducible refine (hBe.out _ k0).mono ?_)
  clear hBe
  rintro r w1 (⟨rfl, k1⟩ | ⟨b, p, G, j, g, o, d, f, c, rfl, rfl, hS, hP, hB, hT, -⟩)
  · have kA : Keeps w1 (w1.alloc (.cells #[.pointer none] 46)) (fun _ => False) := (Keeps.refl _ _).alloc _
    have hb4 := kA.blk (k1.blk hbr)
    obtain ⟨r1, r2⟩ := Ct.one_cell hb4
    have hfin : Hid (Keeps w ((w1.alloc (.cells #[.pointer none] 46)).setCell ⟨w.heap.size + 1 + 1, 0, none⟩ (.bool true)) (fun _ => False)) := hide (((k0.trans k1 (fun _ _ e => e)).trans kA (fun _ _ e => e)).setCell _ (fun h => by have h : w.heap.size + 1 + 1 < w.heap.size := h; omega) _)
    have hres := (Ct.one_cell (set_one' hb4 0 (.bool true) (by simp))).1
    clear kA hb4 k1 hb hbs hbr hz
    go_wp2_with fail
    exact ⟨_, by simp [results, Tryz.results7, go_sem, hres], rfl, hfin.out⟩
  · have kA : Keeps w1 (w1.alloc (.cells #[.pointer (some ⟨b, 0, none⟩)] 46)) (fun _ => False) := (Keeps.refl _ _).alloc _
    have hq3 : Hid (∀ W, Keeps W0 W (fun _ => False) → W.cell? ⟨w.heap.size, 3, none⟩ = some (.slice ta ss.length tc)) := fun W q => by
      have := q.blk hb
      simp only [World.cell?, this]
      rfl
    have q3 := hq3.out _ (hB.keep.trans kA (fun _ _ e => e))
    have HP := hide hP
    have hbx := heap_alloc_new w1 (.cells #[.pointer (some ⟨b, 0, none⟩)] 46)
    obtain ⟨B5, hB5⟩ : ∃ B5, w1.heap.size = B5 := ⟨_, rfl⟩
    letI I0 : Bx.BoxNo := ⟨B5⟩
    have HB0 : Hid (∃ lv L ad d f c, Bx.BM W0 (w1.alloc (.cells #[.pointer (some ⟨b, 0, none⟩)] 46)) b p l G fs (.slice ta ss.length tc) (.slice (some ⟨g, o, none⟩) nh hc) lv L ad d f c ∧ LTie c G f (hsT hv nh) L ad ∧ ad ≤ 0 ∧ Keyed l L) := ⟨_, _, _, _, _, _, boxed hB (by omega) kA (by rw [← hB5]; exact hbx), hT, Nat.le_refl _, fun x hx => by cases hx⟩
    have HBR : Hid (∀ W, Keeps W0 W (fun _ => False) → W.heap[w.heap.size + 1]? = some (.cells #[.int .i64 stop] 3) ∧ W.heap[w.heap.size + 1 + 1]? = some (.cells #[.bool false] 4)) := fun W q => ⟨q.blk hbs, q.blk hbr⟩
    have HZ0 := hide hz
    clear hB hT hP hS hb hz d f c kA hbx hbs hbr
    go_wp2_with fail
    clear q3 hq3
    first | rw [hB5] | skip
    clear hB5
    generalize hB0 : w.heap.size = B0 at *
    go_loopw [44] (fun v44 wr => ∃ i : Nat, v44 = .int .i64 (i : Int) ∧ i ≤ ss.length ∧ Hid (∃ lv L ad d f c, Bx.BM W0 wr b p l G fs (.slice ta ss.length tc) (.slice (some ⟨g, o, none⟩) nh hc) lv L ad d f c ∧ LTie c G f (hsT hv nh) L ad ∧ ad ≤ i ∧ Keyed l L)) (fun v44 _ => ss.length - (intOf v44).toNat)
    case atStart => exact ⟨0, rfl, Nat.zero_le _, HB0⟩
    case round =>
      clear HB0
      obtain ⟨i, rfl, hi, HB⟩ := hrel
      by_cases hlt : i < ss.length
      · have hlt' : (i : Int) < (ss.length : Int) := by omega
        obtain ⟨tb, tq, hta, hcs⟩ := hTn.out i hlt
        have hfit := hide (hFit.out _ (List.getElem_mem hlt))
        obtain ⟨x1, x2, x3⟩ := hcs wr (k0.trans (by obtain ⟨_, _, _, _, _, _, q, -⟩ := HB.out; exact q.keep) (fun _ _ e => e))
        subst hta
        clear hcs
        generalize ss[i].1 = y1 at *
        generalize ss[i].2.1 = y2 at *
        generalize ss[i].2.2 = y3 at *
        have hTu : Hid (∀ W, Keeps wr W (fun _ => False) → Calls Tryz.prog 27 #[.pointer (some ⟨b, 0, none⟩), .agg #[.int .i64 y1, .int .i64 y2, .int .i64 y3]] W fun e w' => e = .returned (.bool true) ∧ Hid (∃ lv L ad d f c, Bx.BM W0 w' b p l G fs (.slice (some ⟨tb, tq, none⟩) ss.length tc) (.slice (some ⟨g, o, none⟩) nh hc) lv L ad d f c ∧ LTie c G f (hsT hv nh) L ad ∧ ad ≤ i + 1 ∧ Keyed l L)) := fun W q => by
          obtain ⟨lv, L, ad, d, f, c, hB, hT, had, hKy⟩ := HB.out
          refine (Bx.turn_any (hB.stay q) HP.out hT (by omega) y1 y2 y3 hfit.out.2.1 hfit.out.2.2).mono ?_
          rintro e w' ⟨rfl, lv', L', ad', d', f', c', hB', hT', had', -, hKy'⟩
          exact ⟨rfl, lv', L', ad', d', f', c', hB', hT', by omega, hKy' hKy⟩
        have ka : Keeps wr (wr.alloc (.cells #[.int .i64 y1, .int .i64 y2, .int .i64 y3] 62)) (fun _ => False) := (Keeps.refl _ _).alloc _
        have x5 : (wr.alloc (.cells #[.int .i64 y1, .int .i64 y2, .int .i64 y3] 62)).cell? ⟨B5, 0, none⟩ = some (.pointer (some ⟨b, 0, none⟩)) := by
          obtain ⟨lv, L, ad, d, f, c, hB, -⟩ := HB.out
          exact (Ct.one_cell (ka.blk (show wr.heap[B5]? = _ from hB.bx))).1
        have hTa := hTu.out _ ka
        clear HB hfit ka hTu
        go_wp2_with fail
        (with_reducible refine hTa.mono ?_)
        rintro e w3 ⟨rfl, HB3⟩
        clear hTa x1 x2 x3 x5
        go_wp2_with fail
        go_roundw
        case rel => exact ⟨i + 1, by go_num, by omega, HB3⟩
        case measure => simp [intOf]; omega
      · obtain rfl : i = ss.length := by omega
        have hlt' : ¬ (ss.length : Int) < (ss.length : Int) := by omega
        obtain ⟨lv, L, ad, d, f, c, hB, hT, had, hKy⟩ := HB.out
        clear HB had hTn hFit
        have HK := hide (k0.trans hB.keep (fun _ _ e => e))
        have hk0 := hide k0
        clear k0
        have ka : Keeps wr (wr.alloc (.cells #[] 75)) (fun _ => False) := (Keeps.refl _ _).alloc _
        have hBa := hB.stay ka
        have x5 : (wr.alloc (.cells #[] 75)).cell? ⟨B5, 0, none⟩ = some (.pointer (some ⟨b, 0, none⟩)) := (Ct.one_cell (show (wr.alloc (.cells #[] 75)).heap[B5]? = _ from hBa.bx)).1
        obtain ⟨z25, -⟩ := ben_25 hBa.blk
        obtain ⟨a, cap, hlv, hLa, hcap⟩ := hB.lives
        obtain ⟨vl, V1, hap, hrow, kV⟩ := copy_lives (w := W0) hB.row (by have := hT.few; have := HP.out.le; omega)
        obtain ⟨sa, scap, rfl, hLs, hsc⟩ := row_lives hrow
        rw [hlv] at z25 hap
        have hBV := hB.stay kV
        have kW : Keeps V1 (((V1.alloc (.cells #[.slice sa L.length scap] 55)).alloc (.cells #[.int .i64 0] 3)).alloc (.cells #[.int .i64 (-1)] 3)) (fun _ => False) := (((Keeps.refl _ _).alloc _).alloc _).alloc _
        have hBW := hBV.stay kW
        have y5 : (((V1.alloc (.cells #[.slice sa L.length scap] 55)).alloc (.cells #[.int .i64 0] 3)).alloc (.cells #[.int .i64 (-1)] 3)).cell? ⟨B5, 0, none⟩ = some (.pointer (some ⟨b, 0, none⟩)) := (Ct.one_cell (show _[B5]? = _ from hBW.bx)).1
        obtain ⟨t0, t1, t2, t3, t4, t5, t6, t7, t8, t9, t10⟩ := ben_T hBW.blk
        have hCC := fun W => tcells_call p l 16 W
        have HBV := hide hB
        have HT := hide hT
        have HKy := hide hKy
        have HR := hide hrow
        have HLs := hide hLs
        have HkV := hide kV
        clear hB hBa hT hKy hrow hLs kV kW hBW hBV hLa ka
        go_wp2_with (first | (at_builtin; have _t := hap; refine app_run8 _ rfl (.tmp 53) (.tmp 57) 55 rfl rfl rfl hap ?_; clear hap))
        refine alloc3 (P := fun W => Calls _ _ _ W _) fun WA ha1 ha2 ha3 hzA kA => ?_
        (with_reducible refine (hCC _).mono ?_)
        rintro r w7 ⟨rfl, hw7⟩
        rw [hzA]
        have k7 : Keeps WA w7 (fun _ => False) := by rw [hw7]; exact (Keeps.refl _ _).alloc _
        have hbt7 : w7.heap[V1.heap.size + 3]? = some (.cells #[.pointer (some ⟨p, 0, none⟩), .int .i64 l.k, .int .i64 l.e, .int .i64 l.a, .int .i64 l.b, .int .i64 l.c, .int .i64 l.eo, .int .i64 l.bo, .int .i64 l.s, .int .i64 l.g, .int .i64 (16 : Int)] 36) := by rw [hw7, ← hzA]; exact heap_alloc_new _ _
        have hz7 : w7.heap.size = V1.heap.size + 4 := by rw [hw7, World.size_alloc, hzA]
        have HF7 := hide (And.intro (k7.blk ha1) (And.intro (k7.blk ha2) (And.intro (k7.blk ha3) (And.intro hbt7 (kA.trans k7 (fun _ _ e => e))))))
        have Hz7 := hide hz7
        clear hz7 hw7 t0 t1 t2 t3 t4 t5 t6 t7 t8 t9 t10 x5 y5 z25 ha1 ha2 ha3 kA k7 hbt7 hCC hzA WA
        go_wp2_with fail
        rename_i Q9 KX hKX
        rw [← wpIn_wide (n := 8)]
        obtain ⟨w8, hw8⟩ : ∃ w8, w7.alloc (.cells #[.func (.func 60) #[] #[.pointer (some ⟨V1.heap.size + 3, 0, none⟩)]] 80) = w8 := ⟨_, rfl⟩
        rw [hw8, Hz7.out]
        have k78 : Keeps w7 w8 (fun _ => False) := by rw [← hw8]; exact (Keeps.refl _ _).alloc _
        have hall : w8.heap[V1.heap.size + 4]? = some (.cells #[.func (.func 60) #[] #[.pointer (some ⟨V1.heap.size + 3, 0, none⟩)]] 80) := by rw [← hw8, ← Hz7.out]; exact heap_alloc_new _ _
        have hz8 : w8.heap.size = V1.heap.size + 5 := by rw [← hw8, World.size_alloc, Hz7.out]
        have A : At1 W0 wr w8 b B5 V1.heap.size lv := ⟨fun q hq => ⟨HBV.out.low q hq, HBV.out.lt q hq⟩, HBV.out.keep.size, HkV.out.size, hz8⟩
        obtain ⟨f1, f2, f3, f4, k17⟩ := HF7.out
        have k18V := k17.trans k78 (fun _ _ e => e)
        have k18 := HkV.out.trans k18V (fun _ _ e => e)
        have g1 := k78.blk f1
        have g2 := k78.blk f2
        have g3 := k78.blk f3
        have g4 := k78.blk f4
        have hG8 := HP.out.le
        have hG9 := HP.out.hG
        have hj9 := HP.out.hj
        have hOT := tcells_one 7 (by omega) p (V1.heap.size + 3) l 16 80 G j (by omega) hG9 (fullL c (8 * G)) (by have := fullL_len c (8 * G); omega)
        obtain ⟨hs, hhs⟩ : ∃ hs, fullL c (8 * G) = hs := ⟨_, rfl⟩
        rw [hhs] at hOT
        have HH := hide hhs
        clear hhs f1 f2 f3 f4 k17 HF7 Hz7 hw8 k78
        have HO : Hid (∀ V o7 s sv lt, R1 W0 wr w8 V p b B5 V1.heap.size l G lv c o7 s sv lt → V.heap[B5]? = some (.cells #[.pointer (some ⟨b, 0, none⟩)] 46) ∧ V.heap[b]? = some (.cells (benC p l 16 fs ((8 * G : Nat) : Int) (.slice (some ⟨g, o, none⟩) nh hc) (.slice ta ss.length tc) lv (ad : Int)) 57) ∧ V.heap[V1.heap.size]? = some (.cells #[.slice sa L.length scap] 55) ∧ V.heap[V1.heap.size + 4]? = some (.cells #[.func (.func 60) #[] #[.pointer (some ⟨V1.heap.size + 3, 0, none⟩)]] 80) ∧ LivesAt V sa L) := fun V o7 s sv lt h => by
          have a5 := A.low B5 (Or.inr (Or.inr rfl))
          have ab := A.low b (Or.inl rfl)
          have an := A.n
          have aw := A.w
          have r5 := h.rest B5 (Or.inl (Or.inr (Or.inr rfl))) (by omega) (by omega) (by omega)
          have rb := h.rest b (Or.inl (Or.inl rfl)) (by omega) (by omega) (by omega)
          have rN := h.rest V1.heap.size (Or.inr ⟨an, by omega⟩) (by omega) (by omega) (by omega)
          have rA := h.rest (V1.heap.size + 4) (Or.inr ⟨by omega, by omega⟩) (by omega) (by omega) (by omega)
          refine ⟨r5.trans (k18.blk HBV.out.bx), rb.trans (k18.blk HBV.out.blk), rN.trans g1, rA.trans hall, ?_⟩
          have hrowX : V.ownsRow wr.heap.size 75 5 (.slice sa L.length scap) L.length (lifeC L) := row_kept8 HR.out (fun q hq => by
            have hq2 := HR.out.lt q hq
            exact (h.rest q (Or.inr ⟨hq2.1, by omega⟩) (by omega) (by omega) (by omega)).trans (k18V.block q hq2.2 id))
          obtain ⟨sa', sc', e1, hLX, -⟩ := row_lives hrowX
          injection e1 with e1 _ e3
          subst e1
          exact hLX
        have HVal : Hid (validB l = true) := HBV.out.tab.valid
        generalize ha9 : Act.mk _ _ = a9
        have tail : Hid (∀ (o' : Option Nat) (s : Nat) (V : World), s ≤ hs.length → (s = hs.length ∨ (s : Int) = stop) → R1 W0 wr w8 V p b B5 V1.heap.size l G lv c o' s (s : Int) (lastOf hs s) → V.heap[w8.heap.size]? = some (.deferred (some [])) → KX { a9 with defers := { target := .collected w8.heap.size, args := #[] } :: a9.defers } V) := ?tl9
        refine range_one (n := 8) (by omega) (gf := 60) (lb := #[.pointer (some ⟨V1.heap.size + 3, 0, none⟩)]) ?hop (enters_of Tryz.func60 (by kernel_rfl) rfl) hOT (fun _ => rfl)
          (fun o7 a x a' V => ∃ b15, a' = { tmps := (((a.tmps.setIfInBounds 67 (.int .i64 (x.1 : Int))).setIfInBounds 68 x.2.val).setIfInBounds 14 (.int .i64 (x.1 : Int))).setIfInBounds 15 (.pointer (some ⟨b15, 0, none⟩)), defers := [] } ∧ V.heap[b15]? = some (.cells #[.int .i64 x.2.kind, .int .i64 x.2.tag, .string x.2.key, .string x.2.elem, .int .i64 x.2.birth] 83) ∧ RB W0 wr w8 V p b B5 l G lv o7 b15)
          ?hAx
          (fun o s V => s ≤ hs.length ∧ R1 W0 wr w8 V p b B5 V1.heap.size l G lv c o s (s : Int) (lastOf hs s))
          (fun c' V => c' = .exit 2 ∧ ∃ (o : Option Nat) (s : Nat), s ≤ hs.length ∧ (s : Int) = stop ∧ R1 W0 wr w8 V p b B5 V1.heap.size l G lv c o s (s : Int) (lastOf hs s))
          ?hR ?hlt ?hI ?hIp ?hXp ?h0 ?hassign ?hbody ?hdone ?hstop
        case hop => subst ha9; rfl
        case hAx =>
          rintro o7 x a' V r y ⟨b15, e1, e2, e3⟩ hL
          refine ⟨b15, e1, putBlk e2 (fun e => ?_), e3.put A (Or.inr ⟨by have := A.n; omega, by omega⟩) y⟩
          rw [e, hL] at e2
          cases e2
        case hR =>
          rintro o s V ⟨-, h⟩
          refine ⟨(h.rest _ (Or.inr ⟨by have := A.n; omega, by omega⟩) (by omega) (by omega) (by omega)).trans g4, fun e => ?_⟩
          obtain ⟨d', f', c', hS, -, hc⟩ := h.tab
          rw [hc e] at hS
          exact ⟨_, d', f', c, hS.own.here, hS.fine, hS.tab, hS.f4, hS.f7, HH.out.symm⟩
        case hlt =>
          rintro o s V ⟨-, h⟩ q e
          exact (h.ob q e).2
        case hI =>
          rintro o s V V' ⟨h1, h2⟩ kk
          exact ⟨h1, h2.stay kk⟩
        case hIp =>
          rintro o s V r x ⟨h1, h2⟩ hL
          exact ⟨h1, h2.put A x⟩
        case hXp =>
          rintro c' V r x ⟨h1, o, s, h2, h3, h4⟩ hL
          exact ⟨h1, o, s, h2, h3, h4.put A x⟩
        case h0 =>
          intro o V r kk hl hd hb
          exact ⟨Nat.zero_le _, r1_new HBV.out HT.out rfl A k18 g2 g3 kk hl hd hb⟩
        case hassign =>
          rintro o7 ⟨i, ⟨kd, tg, ky, el, bi⟩⟩ t V K' hI' hK'
          have hK2 := hide hK'
          have hI2 := hide hI'.2
          clear hK' hI' hOT tail HO HVal
          subst ha9
          simp only [GC.val]
          gi_wp2_with fail
          refine hK2.out _ _ ((Keeps.refl _ _).alloc _) ⟨V.heap.size, ?_, heap_alloc_new _ _, hI2.out.rb ((Keeps.refl _ _).alloc _) (Nat.le_refl _) (by rw [World.size_alloc]; omega) (by have := hI2.out.ins (w8.heap.size + 1) (Or.inl (Or.inr ⟨by have := A.n; omega, by omega⟩)); omega)⟩
          simp only [GC.val, List.setIfInBounds_toArray, List.set_cons_zero, List.set_cons_succ]
        case hstop =>
          rintro c' V ⟨rfl, o, s, h0, h1, h2⟩ hD
          refine wpIn_exit ?_
          exact tail.out o s V h0 (Or.inr h1) h2 hD
        case hdone =>
          rintro o s V hs' ⟨h1, h2⟩ hD
          exact tail.out o s V h1 (Or.inl hs') h2 hD
        case hbody =>
          obtain ⟨wq, rfl⟩ : ∃ wq, wq = wr := ⟨_, rfl⟩
          rintro o' x s a' X ⟨r, hl⟩ ⟨hs1, h⟩ ⟨b15, rfl, hb15, hRB⟩ hx
          clear tail hOT
          subst ha9
          obtain ⟨m, ⟨kd, tg, ky, el, bi⟩⟩ := x
          obtain ⟨-, -, xl, -, hLX⟩ := HO.out X o' s _ _ h
          have HLX := hide hLX
          have HX := hide h
          have Hx := hide hx
          have Hb15 := hide hb15
          have Hl := hide hl
          have HRB := hide hRB
          obtain ⟨xl1, -⟩ := Ct.one_cell xl
          clear hLX h hx hb15 hl xl hRB g1 g2 g3 g4 k18 k18V hall HLs HR HkV HBV
          dsimp only
          simp only [GC.val, List.setIfInBounds_toArray, List.set_cons_zero, List.set_cons_succ]
          repeat (first | ((with_reducible refine region_out ?_ ?_ ?_); kernel_rfl; exact (fun ⟨_, _, h⟩ => h); go_wp2_with fail) | ((fail_if_success (with_reducible refine region_in (S := fun _ => True) ?_ ?_ ?_ ?_ ?_)); gi_step))
          clear xl1
          gi_loopg [16, 71] L.length (fun gm v16 v71 wx => ∃ i : Nat, gm = L.length - i ∧ i ≤ L.length ∧ v71 = .int .i64 (i : Int) ∧ v16 = .bool ((L.take i).any (mt (m, ⟨kd, tg, ky, el, bi⟩))) ∧ Hid (Keeps X wx (fun _ => False)))
          case atStart => exact ⟨0, rfl, Nat.zero_le _, rfl, rfl, hide (Keeps.refl _ _)⟩
          case round =>
            obtain ⟨i, rfl, hi, rfl, rfl, HKx⟩ := hrel
            by_cases hlt2 : i < L.length
            · have hlt' : (i : Int) < (L.length : Int) := by omega
              have hlt3 : ¬ L.length ≤ i := by omega
              have hms : L.length - (i + 1) < L.length - i := by omega
              rcases HLX.out with e | ⟨sb, so, rfl, hcs⟩
              · rw [e] at hlt2
                cases hlt2
              obtain ⟨z1, z2, z3, z4, z5⟩ := hcs i hlt2
              replace z1 := keeps_cell HKx.out id z1
              replace z2 := keeps_cell HKx.out id z2
              replace z3 := keeps_cell HKx.out id z3
              replace z4 := keeps_cell HKx.out id z4
              replace z5 := keeps_cell HKx.out id z5
              have hmt : Hid (mt (m, ⟨kd, tg, ky, el, bi⟩) L[i] = decide (L[i].slot = (m : Int) ∧ L[i].key = ky ∧ L[i].elem = el ∧ L[i].birth = bi)) := hide rfl
              obtain ⟨mv, hmv⟩ : ∃ mv, mt (m, ⟨kd, tg, ky, el, bi⟩) L[i] = mv := ⟨_, rfl⟩
              have hsucc := hide (any_succ (x := (m, ⟨kd, tg, ky, el, bi⟩)) hlt2)
              rw [hmv] at hmt hsucc
              clear hmv hcs
              generalize L[i].key = yk at *
              generalize L[i].elem = ye at *
              generalize L[i].hash = yh at *
              generalize L[i].birth = yb at *
              generalize L[i].slot = ys at *
              have ka : Keeps wr (wr.alloc (.cells #[.string yk, .string ye, .int .u64 (yh : Int), .int .i64 yb, .int .i64 ys] 75)) (fun _ => False) := (Keeps.refl _ _).alloc _
              have Hka := hide (HKx.out.trans ka (fun _ _ e => e))
              obtain ⟨b0, b1, b2, b3, b4, -⟩ := five_cells (Hka.out.blk Hb15.out)
              obtain ⟨wi1, wi2⟩ : wrap64 ((i : Int) + 1) = (i : Int) + 1 ∧ IntKind.i64.wrap ((i : Int) + 1) = (i : Int) + 1 := by
                have : L.length ≤ 1024 := by have := HT.out.few; omega
                constructor
                · unfold wrap64; omega
                · rw [IntKind.wrap_i64]; omega
              clear ka HKx
              generalize hkn : (L.take i).any (mt (m, ⟨kd, tg, ky, el, bi⟩)) = kn at *
              have HJ : Hid (∀ r, r = (kn || mv) → (L.take (i + 1)).any (mt (m, ⟨kd, tg, ky, el, bi⟩)) = r) := hide (fun r e => by rw [e]; exact hsucc.out)
              clear hkn hsucc
              cases kn with
              | true =>
                repeat (first | ((with_reducible refine region_out ?_ ?_ ?_); kernel_rfl; exact (fun ⟨_, _, h⟩ => h); go_wp2_with fail) | ((fail_if_success (with_reducible refine region_in (S := fun _ => True) ?_ ?_ ?_ ?_ ?_)); gi_step))
                gi_roundg (L.length - (i + 1))
                case measure => exact hms
                case rel => exact ⟨i + 1, rfl, hlt2, rfl, by rw [HJ.out true (by simp)], Hka⟩
              | false =>
                by_cases s1 : ys = (m : Int)
                · have t1 : (ys == (m : Int)) = true := by simp [s1]
                  have t1' : decide (ys = (m : Int)) = true := by simp [s1]
                  by_cases s2 : yk = ky
                  · have t2 : (yk.toList == ky.toList) = true := str_yes s2
                    by_cases s3 : ye = el
                    · have t3 : (ye.toList == el.toList) = true := str_yes s3
                      by_cases s4 : yb = bi
                      · have t4 : (yb == bi) = true := by simp [s4]
                        obtain rfl : mv = true := by rw [hmt.out]; exact decide_eq_true ⟨s1, s2, s3, s4⟩
                        clear hmt s1 s2 s3 s4
                        repeat (first | ((with_reducible refine region_out ?_ ?_ ?_); kernel_rfl; exact (fun ⟨_, _, h⟩ => h); go_wp2_with fail) | ((fail_if_success (with_reducible refine region_in (S := fun _ => True) ?_ ?_ ?_ ?_ ?_)); gi_step))
                        gi_roundg (L.length - (i + 1))
                        case measure => exact hms
                        case rel => exact ⟨i + 1, rfl, hlt2, rfl, by rw [HJ.out true (by simp)], Hka⟩
                      · have t4 : (yb == bi) = false := beq_eq_false_iff_ne.2 s4
                        obtain rfl : mv = false := by rw [hmt.out]; exact decide_eq_false (fun q => s4 q.2.2.2)
                        clear hmt s1 s2 s3 s4
                        repeat (first | ((with_reducible refine region_out ?_ ?_ ?_); kernel_rfl; exact (fun ⟨_, _, h⟩ => h); go_wp2_with fail) | ((fail_if_success (with_reducible refine region_in (S := fun _ => True) ?_ ?_ ?_ ?_ ?_)); gi_step))
                        gi_roundg (L.length - (i + 1))
                        case measure => exact hms
                        case rel => exact ⟨i + 1, rfl, hlt2, rfl, by rw [HJ.out false (by simp)], Hka⟩
                    · have t3 : (ye.toList == el.toList) = false := str_no s3
                      obtain rfl : mv = false := by rw [hmt.out]; exact decide_eq_false (fun q => s3 q.2.2.1)
                      clear hmt s1 s2 s3
                      repeat (first | ((with_reducible refine region_out ?_ ?_ ?_); kernel_rfl; exact (fun ⟨_, _, h⟩ => h); go_wp2_with fail) | ((fail_if_success (with_reducible refine region_in (S := fun _ => True) ?_ ?_ ?_ ?_ ?_)); gi_step))
                      gi_roundg (L.length - (i + 1))
                      case measure => exact hms
                      case rel => exact ⟨i + 1, rfl, hlt2, rfl, by rw [HJ.out false (by simp)], Hka⟩
                  · have t2 : (yk.toList == ky.toList) = false := str_no s2
                    obtain rfl : mv = false := by rw [hmt.out]; exact decide_eq_false (fun q => s2 q.2.1)
                    clear hmt s1 s2
                    repeat (first | ((with_reducible refine region_out ?_ ?_ ?_); kernel_rfl; exact (fun ⟨_, _, h⟩ => h); go_wp2_with fail) | ((fail_if_success (with_reducible refine region_in (S := fun _ => True) ?_ ?_ ?_ ?_ ?_)); gi_step))
                    gi_roundg (L.length - (i + 1))
                    case measure => exact hms
                    case rel => exact ⟨i + 1, rfl, hlt2, rfl, by rw [HJ.out false (by simp)], Hka⟩
                · have t1 : (ys == (m : Int)) = false := beq_eq_false_iff_ne.2 s1
                  obtain rfl : mv = false := by rw [hmt.out]; exact decide_eq_false (fun q => s1 q.1)
                  clear hmt s1
                  repeat (first | ((with_reducible refine region_out ?_ ?_ ?_); kernel_rfl; exact (fun ⟨_, _, h⟩ => h); go_wp2_with fail) | ((fail_if_success (with_reducible refine region_in (S := fun _ => True) ?_ ?_ ?_ ?_ ?_)); gi_step))
                  gi_roundg (L.length - (i + 1))
                  case measure => exact hms
                  case rel => exact ⟨i + 1, rfl, hlt2, rfl, by rw [HJ.out false (by simp)], Hka⟩
            · obtain rfl : i = L.length := by omega
              have hlt' : ¬ (L.length : Int) < (L.length : Int) := by omega
              have hkn : (L.take L.length).any (mt (m, ⟨kd, tg, ky, el, bi⟩)) = true := by
                obtain ⟨y, hy, q1, q2, q3, q4, -⟩ := fullL_life HT.out (by rw [HH.out]; exact Hx.out)
                rw [List.take_length, List.any_eq_true]
                exact ⟨y, hy, decide_eq_true ⟨q1, q2, q3, q4⟩⟩
              rw [hkn]
              have hla := lastOf_lt (c := c) (n := 8 * G) (by rw [HH.out]; exact Hx.out)
              rw [HH.out] at hla
              obtain ⟨lt, hlt0⟩ : ∃ lt, lastOf hs s = lt := ⟨_, rfl⟩
              rw [hlt0] at HX hla
              have hla' : ¬ (m : Int) ≤ lt := by
                have hla : lt < (m : Int) := hla
                omega
              have Hlsu := hide (lastOf_succ Hx.out)
              obtain ⟨q4, q1, q2, q3, q5, q6, hkd⟩ := fullL_life HT.out (by rw [HH.out]; exact Hx.out)
              obtain rfl : kd = 2 := hkd
              clear q1 q2 q3 q5 q6 q4 hkn hla hlt0
              have hsl : s + 1 ≤ hs.length := (List.getElem?_eq_some_iff.1 Hx.out).1
              have hhl : hs.length ≤ 1024 := by
                have := fullL_len c (8 * G)
                rw [HH.out] at this
                omega
              have hm8 : m < 8 * G := by
                have := (fullL_mem c (8 * G) _ (List.mem_of_getElem? (by rw [HH.out]; exact Hx.out))).1
                exact this
              obtain ⟨ws1, ws2⟩ := wr_succ (n := s) (Nat.le_trans (Nat.le_of_succ_le hsl) (Nat.le_trans hhl (by decide)))
              have HX2 := hide (HX.out.stay HKx.out)
              obtain ⟨y1, y2⟩ := Ct.one_cell HX2.out.last
              have HX3 := hide (HX2.out.setLast A (m : Int))
              obtain ⟨y3, y4⟩ := Ct.one_cell HX3.out.seen
              have HX4 := hide (HX3.out.setSeen A ((s : Int) + 1))
              obtain ⟨y5, -⟩ := Ct.one_cell HX4.out.seen
              have y6 := (Ct.one_cell (HBR.out _ HX4.out.keep).1).1
              obtain ⟨c0, -⟩ := five_cells (HKx.out.blk Hb15.out)
              have HQ : Hid (∀ q, (q = w8.heap.size ∨ q = w8.heap.size + 1 ∨ o' = some q) → ((wr.setCell ⟨V1.heap.size + 1 + 1, 0, none⟩ (.int .i64 (m : Int))).setCell ⟨V1.heap.size + 1, 0, none⟩ (.int .i64 ((s : Int) + 1))).heap[q]? = X.heap[q]?) := fun q hq => by
                have aw := A.w
                have k2 : Keeps wr ((wr.setCell ⟨V1.heap.size + 1 + 1, 0, none⟩ (.int .i64 (m : Int))).setCell ⟨V1.heap.size + 1, 0, none⟩ (.int .i64 ((s : Int) + 1))) (fun q => q = V1.heap.size + 1 ∨ q = V1.heap.size + 1 + 1) := (Keeps.setCell (S := fun q => q = V1.heap.size + 1 ∨ q = V1.heap.size + 1 + 1) (Keeps.refl wr _) ⟨V1.heap.size + 1 + 1, 0, none⟩ (fun _ => Or.inr rfl) _).setCell ⟨V1.heap.size + 1, 0, none⟩ (fun _ => Or.inl rfl) _
                have hqX : q < X.heap.size ∧ w8.heap.size ≤ q := by
                  rcases hq with hq | hq | hq
                  · have := heap_lt HX.out.df
                    omega
                  · have := heap_lt Hl.out
                    omega
                  · have := HX.out.ob q hq
                    omega
                exact (k2.block q (Nat.lt_of_lt_of_le hqX.1 HKx.out.size) (by omega)).trans (HKx.out.block q hqX.1 id)
              have HRB4 := hide (((HRB.out.stay HKx.out).set A (q := V1.heap.size + 1 + 1) (Or.inr ⟨by have := A.n; omega, by have := A.w; omega⟩) (.int .i64 (m : Int))).set A (q := V1.heap.size + 1) (Or.inr ⟨by have := A.n; omega, by have := A.w; omega⟩) (.int .i64 ((s : Int) + 1)))
              have Hb4 : Hid (((wr.setCell ⟨V1.heap.size + 1 + 1, 0, none⟩ (.int .i64 (m : Int))).setCell ⟨V1.heap.size + 1, 0, none⟩ (.int .i64 ((s : Int) + 1))).heap[b15]? = some (.cells #[.int .i64 2, .int .i64 tg, .string ky, .string el, .int .i64 bi] 83)) := by
                have aw := A.w
                have ab := HRB.out.bb
                have k2 : Keeps wr ((wr.setCell ⟨V1.heap.size + 1 + 1, 0, none⟩ (.int .i64 (m : Int))).setCell ⟨V1.heap.size + 1, 0, none⟩ (.int .i64 ((s : Int) + 1))) (fun q => q = V1.heap.size + 1 ∨ q = V1.heap.size + 1 + 1) := (Keeps.setCell (S := fun q => q = V1.heap.size + 1 ∨ q = V1.heap.size + 1 + 1) (Keeps.refl wr _) ⟨V1.heap.size + 1 + 1, 0, none⟩ (fun _ => Or.inr rfl) _).setCell ⟨V1.heap.size + 1, 0, none⟩ (fun _ => Or.inl rfl) _
                exact k2.blkS (HKx.out.blk Hb15.out) (by omega)
              have hT2 : Hid (TabAt W0) := HP.out.tabs
              clear HX2 HX3 HX HRB HLX Hb15 HKx HBR
              by_cases hst : (s : Int) + 1 = stop
              · have hst1 : (((s : Int) + 1) == stop) = true := by simp [hst]
                have Hst := hide hst
                clear hst
                repeat (first | ((with_reducible refine region_out ?_ ?_ ?_); kernel_rfl; exact (fun ⟨_, _, h⟩ => h); go_wp2_with fail) | ((fail_if_success (with_reducible refine region_in (S := fun _ => True) ?_ ?_ ?_ ?_ ?_)); gi_step))
                have e1 : ((s + 1 : Nat) : Int) = (s : Int) + 1 := by omega
                refine ⟨fun q e => HQ.out q (Or.inr (Or.inr e)), fun k e => HQ.out k (e.elim Or.inl (fun e => Or.inr (Or.inl e))), rfl, o', s + 1, hsl, e1.trans Hst.out, ?_⟩
                rw [e1, Hlsu.out]
                exact HX4.out.later s
              · have hst1 : (((s : Int) + 1) == stop) = false := beq_eq_false_iff_ne.2 hst
                obtain ⟨-, -, xl, -, -⟩ := HO.out _ _ _ _ _ HX4.out
                obtain ⟨xl1, -⟩ := Ct.one_cell xl
                clear hst xl
                repeat (first | ((with_reducible refine region_out ?_ ?_ ?_); kernel_rfl; exact (fun ⟨_, _, h⟩ => h); go_wp2_with fail) | ((fail_if_success (with_reducible refine region_in (S := fun _ => True) ?_ ?_ ?_ ?_ ?_)); gi_step))
                clear xl1 y1 y2 y3 y4 y5 y6 c0 hst1 ws1 ws2
                generalize hX4 : ((wr.setCell ⟨V1.heap.size + 1 + 1, 0, none⟩ (.int .i64 (m : Int))).setCell ⟨V1.heap.size + 1, 0, none⟩ (.int .i64 ((s : Int) + 1))) = X4 at *
                clear hX4
                have HI0 : Hid (R1 W0 wq w8 X4 p b B5 V1.heap.size l G lv c o' (s + 1) ((s : Int) + 1) (m : Int) ∧ RB W0 wq w8 X4 p b B5 l G lv o' b15 ∧ ∀ q, (OwnR wq w8 b B5 lv q ∨ o' = some q) ∨ q = b15 → X4.heap[q]? = X4.heap[q]?) := ⟨HX4.out.later s, HRB4.out, fun _ _ => rfl⟩
                clear wr
                gi_loopg [124] L.length (fun gm v124 wx => ∃ i : Nat, gm = L.length - i ∧ i ≤ L.length ∧ v124 = .int .i64 (i : Int) ∧ Hid (R1 W0 wq w8 wx p b B5 V1.heap.size l G lv c o' (s + 1) ((s : Int) + 1) (m : Int) ∧ RB W0 wq w8 wx p b B5 l G lv o' b15 ∧ ∀ q, (OwnR wq w8 b B5 lv q ∨ o' = some q) ∨ q = b15 → wx.heap[q]? = X4.heap[q]?))
                case atStart => exact ⟨0, rfl, Nat.zero_le _, rfl, HI0⟩
                case round =>
                  clear HI0 HX4 HRB4
                  obtain ⟨i, rfl, hi, rfl, HIv⟩ := hrel
                  obtain ⟨hR, hRB, hq⟩ := HIv.out
                  obtain ⟨x5, xb, -, -, hLv⟩ := HO.out _ _ _ _ _ hR
                  by_cases hlt2 : i < L.length
                  · have hlt' : (i : Int) < (L.length : Int) := by omega
                    have hlt3 : ¬ L.length ≤ i := by omega
                    have hms : L.length - (i + 1) < L.length - i := by omega
                    rcases hLv with e | ⟨sb, so, rfl, hcs⟩
                    · rw [e] at hlt2
                      cases hlt2
                    obtain ⟨z1, z2, z3, z4, z5⟩ := hcs i hlt2
                    have hlf := HT.out.life _ (List.getElem_mem hlt2)
                    have hyh : Hid (L[i].hash < 18446744073709551616) := by
                      show L[i].hash < 18446744073709551616
                      rw [hlf.2.2.2]
                      exact HP.out.word _
                    have hyk : Hid ((L[i].key.size : Int) = l.k) := by
                      obtain ⟨n9, hn9⟩ := HKy.out _ (List.getElem_mem hlt2)
                      show (L[i].key.size : Int) = l.k
                      rw [hn9]
                      exact keyT_size HVal.out n9
                    clear hlf hcs
                    generalize L[i].key = yk at *
                    generalize L[i].elem = ye at *
                    generalize L[i].hash = yh at *
                    generalize L[i].birth = yb at *
                    generalize L[i].slot = ys at *
                    have ka : Keeps wr (wr.alloc (.cells #[.string yk, .string ye, .int .u64 (yh : Int), .int .i64 yb, .int .i64 ys] 75)) (fun _ => False) := (Keeps.refl _ _).alloc _
                    obtain ⟨b0, b1, b2, b3, b4, -⟩ := five_cells (ka.blk ((hq b15 (Or.inr rfl)).trans Hb4.out))
                    have hi5 : i ≤ 100000 := by have := HT.out.few; omega
                    have hm5 : m ≤ 100000 := by omega
                    obtain ⟨wi1, wi2⟩ := wr_succ hi5
                    obtain ⟨wm1, wm2⟩ := wr_succ hm5
                    obtain ⟨d', f', c', hSv, hWv⟩ := hRB.tab
                    have hnext : Hid (R1 W0 wq w8 (wr.alloc (.cells #[.string yk, .string ye, .int .u64 (yh : Int), .int .i64 yb, .int .i64 ys] 75)) p b B5 V1.heap.size l G lv c o' (s + 1) ((s : Int) + 1) (m : Int) ∧ RB W0 wq w8 (wr.alloc (.cells #[.string yk, .string ye, .int .u64 (yh : Int), .int .i64 yb, .int .i64 ys] 75)) p b B5 l G lv o' b15 ∧ ∀ q, (OwnR wq w8 b B5 lv q ∨ o' = some q) ∨ q = b15 → (wr.alloc (.cells #[.string yk, .string ye, .int .u64 (yh : Int), .int .i64 yb, .int .i64 ys] 75)).heap[q]? = X4.heap[q]?) := ⟨hR.stay ka, hRB.stay ka, fun q e => (ka.block q (hSv.lt q e) id).trans (hq q e)⟩
                    have kd1 : Keeps wr (wr.alloc (.cells #[.string yk, .string ye, .int .u64 (yh : Int), .int .i64 yb, .int .i64 ys] 75)).drew (fun _ => False) := ka.drew
                    have HD5 := hide (kd1.blk x5)
                    have HDb := hide (kd1.blk xb)
                    have HDv : Hid ((wr.alloc (.cells #[.string yk, .string ye, .int .u64 (yh : Int), .int .i64 yb, .int .i64 ys] 75)).drew.heap[wr.heap.size]? = some (.cells #[.string yk, .string ye, .int .u64 (yh : Int), .int .i64 yb, .int .i64 ys] 75)) := heap_alloc_new wr _
                    have HS35 := hide (s35_of HD5.out HDb.out HDv.out)
                    have HDel := hide (sw_del (hSv.box (Nat.le_refl _) kd1 (heap_lt HDv.out)) hWv HP.out.hj HP.out.hG hT2.out hyh.out hyk.out)
                    have HIx := hide (show ∀ w5, (∃ d' f' c', SW W0 w5 p (fun q => ((OwnR wq w8 b B5 lv q ∨ o' = some q) ∨ q = b15) ∨ q = wr.heap.size) l G d' f' c' ∧ WT c' G f') → (∀ q, ((OwnR wq w8 b B5 lv q ∨ o' = some q) ∨ q = b15) ∨ q = wr.heap.size → w5.heap[q]? = (wr.alloc (.cells #[.string yk, .string ye, .int .u64 (yh : Int), .int .i64 yb, .int .i64 ys] 75)).drew.heap[q]?) → R1 W0 wq w8 w5 p b B5 V1.heap.size l G lv c o' (s + 1) ((s : Int) + 1) (m : Int) ∧ RB W0 wq w8 w5 p b B5 l G lv o' b15 ∧ ∀ q, (OwnR wq w8 b B5 lv q ∨ o' = some q) ∨ q = b15 → w5.heap[q]? = X4.heap[q]? from by
                      rintro w5 ⟨d5, f5, c5, hS5, hW5⟩ hq5
                      exact ⟨((hR.stay kd1).turn A ⟨d5, f5, c5, hS5.less (fun q e => Or.inl (Or.inl e)), hW5⟩ (fun q e => hq5 q (Or.inl (Or.inl e)))).later s, ⟨⟨d5, f5, c5, hS5.less (fun q e => Or.inl e), hW5⟩, hRB.ob, hRB.bb⟩, fun q e => (hq5 q (Or.inl e)).trans ((kd1.block q (hSv.lt q e) id).trans (hq q e))⟩)
                    clear hR hRB hq x5 xb hSv hWv HIv ka kd1 hyh hyk
                    by_cases d1 : yk = ky
                    · have t1 : (yk.toList == ky.toList) = true := str_yes d1
                      clear d1
                      clear hnext
                      repeat (first | ((with_reducible refine region_out ?_ ?_ ?_); kernel_rfl; exact (fun ⟨_, _, h⟩ => h); go_wp2_with fail) | ((fail_if_success (with_reducible refine region_in (S := fun _ => True) ?_ ?_ ?_ ?_ ?_)); gi_step))
                      clear z1 z2 z3 z4 z5 b0 b1 b2 b3 b4
                      generalize hW1 : wr.alloc (.cells #[.string yk, .string ye, .int .u64 (yh : Int), .int .i64 yb, .int .i64 ys] 75) = W1 at *
                      refine region_in (S := (S35 b B5 p wr.heap.size l yk yh)) (by kernel_rfl) (by kernel_rfl) (fun ⟨_, _, h⟩ => h) HS35.out (fun hHeld => ?_)
                      refine wpAnyH_take (i := 0) (oi := { dst := some 140, op := Op.load 46 (Operand.tmp 5), type := 46, pos := "outright.go:424", after := #[], guard := none }) (v := ?v1_0) rfl (by kernel_rfl) (by kernel_rfl) (by kernel_rfl) (fun _ _ _ h => h) (Or.inl ⟨by rfl, ?hy1_0⟩) hHeld ?rs1_0
                      case hy1_0 => (intro wS hSw; dsimp only [S35, S1T] at hSw; go_simp; try with_reducible rfl)
                      try simp only [Act.put, List.setIfInBounds_toArray, List.set_cons_zero, List.set_cons_succ]
                      refine wpAnyH_take (i := 1) (oi := { dst := some 141, op := Op.nilCheck (Operand.tmp 140), type := 0, pos := "outright.go:424", after := #[{ on := 0, ground := Ground.data }], guard := none }) (v := ?v1_1) rfl (by kernel_rfl) (by kernel_rfl) (by kernel_rfl) (fun _ _ _ h => h) (Or.inl ⟨by rfl, ?hy1_1⟩) hHeld ?rs1_1
                      case hy1_1 => (intro wS hSw; dsimp only [S35, S1T] at hSw; go_simp; try with_reducible rfl)
                      try simp only [Act.put, List.setIfInBounds_toArray, List.set_cons_zero, List.set_cons_succ]
                      refine wpAnyH_take (i := 2) (oi := { dst := some 142, op := Op.fieldAddr 57 (Operand.tmp 141) 2, type := 0, pos := "outright.go:424", after := #[{ on := 1, ground := Ground.data }], guard := none }) (v := ?v1_2) rfl (by kernel_rfl) (by kernel_rfl) (by kernel_rfl) (fun _ _ _ h => h) (Or.inl ⟨by rfl, ?hy1_2⟩) hHeld ?rs1_2
                      case hy1_2 => (intro wS hSw; dsimp only [S35, S1T] at hSw; go_simp; try with_reducible rfl)
                      try simp only [Act.put, List.setIfInBounds_toArray, List.set_cons_zero, List.set_cons_succ]
                      refine wpAnyH_take (i := 3) (oi := { dst := some 143, op := Op.load 36 (Operand.tmp 142), type := 36, pos := "outright.go:424", after := #[{ on := 2, ground := Ground.data }], guard := none }) (v := ?v1_3) rfl (by kernel_rfl) (by kernel_rfl) (by kernel_rfl) (fun _ _ _ h => h) (Or.inl ⟨by rfl, ?hy1_3⟩) hHeld ?rs1_3
                      case hy1_3 => (intro wS hSw; dsimp only [S35, S1T] at hSw; go_simp; try with_reducible rfl)
                      try simp only [Act.put, List.setIfInBounds_toArray, List.set_cons_zero, List.set_cons_succ]
                      refine wpAnyH_take (i := 4) (oi := { dst := some 144, op := Op.fieldAddr 75 (Operand.tmp 20) 2, type := 0, pos := "outright.go:424", after := #[], guard := none }) (v := ?v1_4) rfl (by kernel_rfl) (by kernel_rfl) (by kernel_rfl) (fun _ _ _ h => h) (Or.inl ⟨by rfl, ?hy1_4⟩) hHeld ?rs1_4
                      case hy1_4 => (intro wS hSw; dsimp only [S35, S1T] at hSw; go_simp; try with_reducible rfl)
                      try simp only [Act.put, List.setIfInBounds_toArray, List.set_cons_zero, List.set_cons_succ]
                      refine wpAnyH_take (i := 5) (oi := { dst := some 145, op := Op.load 23 (Operand.tmp 144), type := 23, pos := "outright.go:424", after := #[{ on := 4, ground := Ground.data }], guard := none }) (v := ?v1_5) rfl (by kernel_rfl) (by kernel_rfl) (by kernel_rfl) (fun _ _ _ h => h) (Or.inl ⟨by rfl, ?hy1_5⟩) hHeld ?rs1_5
                      case hy1_5 => (intro wS hSw; dsimp only [S35, S1T] at hSw; go_simp; try with_reducible rfl)
                      try simp only [Act.put, List.setIfInBounds_toArray, List.set_cons_zero, List.set_cons_succ]
                      refine wpAnyH_take (i := 6) (oi := { dst := some 146, op := Op.fieldAddr 75 (Operand.tmp 20) 0, type := 0, pos := "outright.go:424", after := #[], guard := none }) (v := ?v1_6) rfl (by kernel_rfl) (by kernel_rfl) (by kernel_rfl) (fun _ _ _ h => h) (Or.inl ⟨by rfl, ?hy1_6⟩) hHeld ?rs1_6
                      case hy1_6 => (intro wS hSw; dsimp only [S35, S1T] at hSw; go_simp; try with_reducible rfl)
                      try simp only [Act.put, List.setIfInBounds_toArray, List.set_cons_zero, List.set_cons_succ]
                      refine wpAnyH_take (i := 7) (oi := { dst := some 147, op := Op.load 9 (Operand.tmp 146), type := 9, pos := "outright.go:424", after := #[{ on := 6, ground := Ground.data }], guard := none }) (v := ?v1_7) rfl (by kernel_rfl) (by kernel_rfl) (by kernel_rfl) (fun _ _ _ h => h) (Or.inl ⟨by rfl, ?hy1_7⟩) hHeld ?rs1_7
                      case hy1_7 => (intro wS hSw; dsimp only [S35, S1T] at hSw; go_simp; try with_reducible rfl)
                      try simp only [Act.put, List.setIfInBounds_toArray, List.set_cons_zero, List.set_cons_succ]
                      refine wpAnyH_ready (rs := [8]) (by kernel_rfl) (by simp) ?_
                      refine AllReadyH.cons (o := { dst := some 148, op := Op.call { callee := Callee.value (Operand.func 29), args := #[Operand.tmp 143, Operand.tmp 145, Operand.tmp 147], argTypes := #[36, 23, 9] }, type := 76, pos := "outright.go:424", after := #[{ on := 3, ground := Ground.data }, { on := 5, ground := Ground.data }, { on := 7, ground := Ground.data }], guard := none }) rfl (fun K hK => ?_) AllReadyH.nil
                      go_simp
                      refine HDel.out.mono ?_
                      rintro e w5 ⟨⟨rb, rfl⟩, hT5, hq5⟩
                      have HT5 := hide hT5
                      have Hq5 := hide hq5
                      clear hT5 hq5
                      refine hK.out _ _ ?hS1_8 (fun hHeld2 => ?_)
                      case hS1_8 => exact s35_of ((Hq5.out B5 (Or.inl (Or.inl (Or.inl (Or.inl (Or.inr (Or.inr rfl))))))).trans HD5.out) ((Hq5.out b (Or.inl (Or.inl (Or.inl (Or.inl (Or.inl rfl)))))).trans HDb.out) ((Hq5.out wr.heap.size (Or.inr rfl)).trans HDv.out)
                      clear hK K hHeld
                      have hHeld := hHeld2
                      clear hHeld2
                      try simp only [Act.put, List.setIfInBounds_toArray, List.set_cons_zero, List.set_cons_succ]
                      refine wpAnyH_done (by kernel_rfl) ?_ _
                      have HI5 := hide (HIx.out w5 HT5.out Hq5.out)
                      clear HIx HT5 Hq5 hHeld HD5 HDb HDv HS35 HDel
                      repeat (first | ((with_reducible refine region_out ?_ ?_ ?_); kernel_rfl; exact (fun ⟨_, _, h⟩ => h); go_wp2_with fail) | ((fail_if_success (with_reducible refine region_in (S := fun _ => True) ?_ ?_ ?_ ?_ ?_)); gi_step))
                      gi_roundg (L.length - (i + 1))
                      case measure => exact hms
                      case rel => exact ⟨i + 1, rfl, hlt2, rfl, HI5⟩
                    · have t1 : (yk.toList == ky.toList) = false := str_no d1
                      clear d1
                      by_cases d2 : ys = (m : Int) + 1
                      · have t2 : (ys == (m : Int) + 1) = true := by simp [d2]
                        clear d2
                        clear hnext
                        repeat (first | ((with_reducible refine region_out ?_ ?_ ?_); kernel_rfl; exact (fun ⟨_, _, h⟩ => h); go_wp2_with fail) | ((fail_if_success (with_reducible refine region_in (S := fun _ => True) ?_ ?_ ?_ ?_ ?_)); gi_step))
                        clear z1 z2 z3 z4 z5 b0 b1 b2 b3 b4
                        generalize hW1 : wr.alloc (.cells #[.string yk, .string ye, .int .u64 (yh : Int), .int .i64 yb, .int .i64 ys] 75) = W1 at *
                        refine region_in (S := (S35 b B5 p wr.heap.size l yk yh)) (by kernel_rfl) (by kernel_rfl) (fun ⟨_, _, h⟩ => h) HS35.out (fun hHeld => ?_)
                        refine wpAnyH_take (i := 0) (oi := { dst := some 140, op := Op.load 46 (Operand.tmp 5), type := 46, pos := "outright.go:424", after := #[], guard := none }) (v := ?v2_0) rfl (by kernel_rfl) (by kernel_rfl) (by kernel_rfl) (fun _ _ _ h => h) (Or.inl ⟨by rfl, ?hy2_0⟩) hHeld ?rs2_0
                        case hy2_0 => (intro wS hSw; dsimp only [S35, S1T] at hSw; go_simp; try with_reducible rfl)
                        try simp only [Act.put, List.setIfInBounds_toArray, List.set_cons_zero, List.set_cons_succ]
                        refine wpAnyH_take (i := 1) (oi := { dst := some 141, op := Op.nilCheck (Operand.tmp 140), type := 0, pos := "outright.go:424", after := #[{ on := 0, ground := Ground.data }], guard := none }) (v := ?v2_1) rfl (by kernel_rfl) (by kernel_rfl) (by kernel_rfl) (fun _ _ _ h => h) (Or.inl ⟨by rfl, ?hy2_1⟩) hHeld ?rs2_1
                        case hy2_1 => (intro wS hSw; dsimp only [S35, S1T] at hSw; go_simp; try with_reducible rfl)
                        try simp only [Act.put, List.setIfInBounds_toArray, List.set_cons_zero, List.set_cons_succ]
                        refine wpAnyH_take (i := 2) (oi := { dst := some 142, op := Op.fieldAddr 57 (Operand.tmp 141) 2, type := 0, pos := "outright.go:424", after := #[{ on := 1, ground := Ground.data }], guard := none }) (v := ?v2_2) rfl (by kernel_rfl) (by kernel_rfl) (by kernel_rfl) (fun _ _ _ h => h) (Or.inl ⟨by rfl, ?hy2_2⟩) hHeld ?rs2_2
                        case hy2_2 => (intro wS hSw; dsimp only [S35, S1T] at hSw; go_simp; try with_reducible rfl)
                        try simp only [Act.put, List.setIfInBounds_toArray, List.set_cons_zero, List.set_cons_succ]
                        refine wpAnyH_take (i := 3) (oi := { dst := some 143, op := Op.load 36 (Operand.tmp 142), type := 36, pos := "outright.go:424", after := #[{ on := 2, ground := Ground.data }], guard := none }) (v := ?v2_3) rfl (by kernel_rfl) (by kernel_rfl) (by kernel_rfl) (fun _ _ _ h => h) (Or.inl ⟨by rfl, ?hy2_3⟩) hHeld ?rs2_3
                        case hy2_3 => (intro wS hSw; dsimp only [S35, S1T] at hSw; go_simp; try with_reducible rfl)
                        try simp only [Act.put, List.setIfInBounds_toArray, List.set_cons_zero, List.set_cons_succ]
                        refine wpAnyH_take (i := 4) (oi := { dst := some 144, op := Op.fieldAddr 75 (Operand.tmp 20) 2, type := 0, pos := "outright.go:424", after := #[], guard := none }) (v := ?v2_4) rfl (by kernel_rfl) (by kernel_rfl) (by kernel_rfl) (fun _ _ _ h => h) (Or.inl ⟨by rfl, ?hy2_4⟩) hHeld ?rs2_4
                        case hy2_4 => (intro wS hSw; dsimp only [S35, S1T] at hSw; go_simp; try with_reducible rfl)
                        try simp only [Act.put, List.setIfInBounds_toArray, List.set_cons_zero, List.set_cons_succ]
                        refine wpAnyH_take (i := 5) (oi := { dst := some 145, op := Op.load 23 (Operand.tmp 144), type := 23, pos := "outright.go:424", after := #[{ on := 4, ground := Ground.data }], guard := none }) (v := ?v2_5) rfl (by kernel_rfl) (by kernel_rfl) (by kernel_rfl) (fun _ _ _ h => h) (Or.inl ⟨by rfl, ?hy2_5⟩) hHeld ?rs2_5
                        case hy2_5 => (intro wS hSw; dsimp only [S35, S1T] at hSw; go_simp; try with_reducible rfl)
                        try simp only [Act.put, List.setIfInBounds_toArray, List.set_cons_zero, List.set_cons_succ]
                        refine wpAnyH_take (i := 6) (oi := { dst := some 146, op := Op.fieldAddr 75 (Operand.tmp 20) 0, type := 0, pos := "outright.go:424", after := #[], guard := none }) (v := ?v2_6) rfl (by kernel_rfl) (by kernel_rfl) (by kernel_rfl) (fun _ _ _ h => h) (Or.inl ⟨by rfl, ?hy2_6⟩) hHeld ?rs2_6
                        case hy2_6 => (intro wS hSw; dsimp only [S35, S1T] at hSw; go_simp; try with_reducible rfl)
                        try simp only [Act.put, List.setIfInBounds_toArray, List.set_cons_zero, List.set_cons_succ]
                        refine wpAnyH_take (i := 7) (oi := { dst := some 147, op := Op.load 9 (Operand.tmp 146), type := 9, pos := "outright.go:424", after := #[{ on := 6, ground := Ground.data }], guard := none }) (v := ?v2_7) rfl (by kernel_rfl) (by kernel_rfl) (by kernel_rfl) (fun _ _ _ h => h) (Or.inl ⟨by rfl, ?hy2_7⟩) hHeld ?rs2_7
                        case hy2_7 => (intro wS hSw; dsimp only [S35, S1T] at hSw; go_simp; try with_reducible rfl)
                        try simp only [Act.put, List.setIfInBounds_toArray, List.set_cons_zero, List.set_cons_succ]
                        refine wpAnyH_ready (rs := [8]) (by kernel_rfl) (by simp) ?_
                        refine AllReadyH.cons (o := { dst := some 148, op := Op.call { callee := Callee.value (Operand.func 29), args := #[Operand.tmp 143, Operand.tmp 145, Operand.tmp 147], argTypes := #[36, 23, 9] }, type := 76, pos := "outright.go:424", after := #[{ on := 3, ground := Ground.data }, { on := 5, ground := Ground.data }, { on := 7, ground := Ground.data }], guard := none }) rfl (fun K hK => ?_) AllReadyH.nil
                        go_simp
                        refine HDel.out.mono ?_
                        rintro e w5 ⟨⟨rb, rfl⟩, hT5, hq5⟩
                        have HT5 := hide hT5
                        have Hq5 := hide hq5
                        clear hT5 hq5
                        refine hK.out _ _ ?hS2_8 (fun hHeld2 => ?_)
                        case hS2_8 => exact s35_of ((Hq5.out B5 (Or.inl (Or.inl (Or.inl (Or.inl (Or.inr (Or.inr rfl))))))).trans HD5.out) ((Hq5.out b (Or.inl (Or.inl (Or.inl (Or.inl (Or.inl rfl)))))).trans HDb.out) ((Hq5.out wr.heap.size (Or.inr rfl)).trans HDv.out)
                        clear hK K hHeld
                        have hHeld := hHeld2
                        clear hHeld2
                        try simp only [Act.put, List.setIfInBounds_toArray, List.set_cons_zero, List.set_cons_succ]
                        refine wpAnyH_done (by kernel_rfl) ?_ _
                        have HI5 := hide (HIx.out w5 HT5.out Hq5.out)
                        clear HIx HT5 Hq5 hHeld HD5 HDb HDv HS35 HDel
                        repeat (first | ((with_reducible refine region_out ?_ ?_ ?_); kernel_rfl; exact (fun ⟨_, _, h⟩ => h); go_wp2_with fail) | ((fail_if_success (with_reducible refine region_in (S := fun _ => True) ?_ ?_ ?_ ?_ ?_)); gi_step))
                        gi_roundg (L.length - (i + 1))
                        case measure => exact hms
                        case rel => exact ⟨i + 1, rfl, hlt2, rfl, HI5⟩
                      · have t2 : (ys == (m : Int) + 1) = false := beq_eq_false_iff_ne.2 d2
                        clear d2 HIx HDel HS35 HD5 HDb HDv
                        repeat (first | ((with_reducible refine region_out ?_ ?_ ?_); kernel_rfl; exact (fun ⟨_, _, h⟩ => h); go_wp2_with fail) | ((fail_if_success (with_reducible refine region_in (S := fun _ => True) ?_ ?_ ?_ ?_ ?_)); gi_step))
                        gi_roundg (L.length - (i + 1))
                        case measure => exact hms
                        case rel => exact ⟨i + 1, rfl, hlt2, rfl, hnext⟩
                  · obtain rfl : i = L.length := by omega
                    have hlt' : ¬ (L.length : Int) < (L.length : Int) := by omega
                    have hg0 : Hid (∀ W, Keeps W0 W (fun _ => False) → W.cell? ⟨g, o, none⟩ = some (.int .u64 ((hv 0 : Nat) : Int))) := fun W k => keeps_cell k id (HP.out.hash 0 HP.out.pos)
                    have hnh : (0 : Int) < (nh : Int) := by have := HP.out.pos; omega
                    have hnh2 : 0 < nh := HP.out.pos
                    have hs5 : s ≤ 100000 := Nat.le_trans (Nat.le_of_succ_le hsl) (Nat.le_trans hhl (by decide))
                    obtain ⟨wp1, wp2⟩ := wr_2000 hs5
                    have kDd : Hid (Keeps wr wr.drew (fun _ => False)) := (Keeps.refl _ _).drew
                    have hSk : Hid (∀ W, Keeps wr W (fun _ => False) → S37 b B5 p (V1.heap.size + 1) g o nh hc l (hv 0) ((s : Int) + 1) W) := fun W k => s37_of (k.blk x5) (k.blk xb) (hg0.out W (hR.keep.trans k (fun _ _ e => e))) (k.blk hR.seen)
                    have hTk : Hid (∀ W, Calls Tryz.prog 14 #[.int .i64 (2000 + ((s : Int) + 1)), .int .i64 l.k] W fun e w' => e = .returned (.string (strOf (txL (2000 + ((s : Int) + 1)) l.k.toNat))) ∧ Keeps W w' (fun _ => False)) := fun W => txk_2000 HVal.out hs5 W
                    have hTe : Hid (∀ W, Calls Tryz.prog 14 #[.int .i64 ((s : Int) + 1), .int .i64 l.e] W fun e w' => e = .returned (.string (elemT l ((s : Int) + 1))) ∧ Keeps W w' (fun _ => False)) := fun W => txe_succ HVal.out hs5 W
                    have hPut : Hid (∀ W, Keeps wr W (fun _ => False) → Calls Tryz.prog 15 #[.agg #[.pointer (some ⟨p, 0, none⟩), .int .i64 l.k, .int .i64 l.e, .int .i64 l.a, .int .i64 l.b, .int .i64 l.c, .int .i64 l.eo, .int .i64 l.bo, .int .i64 l.s, .int .i64 l.g, .int .i64 (16 : Int)], .int .u64 ((hv 0 : Nat) : Int), .string (strOf (txL (2000 + ((s : Int) + 1)) l.k.toNat)), .string (elemT l ((s : Int) + 1)), .int .i64 5] W fun e w' => (∃ r : Int, e = .returned (.tuple #[.int .i64 r, .int .i64 0])) ∧ (∃ d' f' c', SW W0 w' p (fun q => (OwnR wq w8 b B5 lv q ∨ o' = some q) ∨ q = b15) l G d' f' c' ∧ WT c' G f') ∧ ∀ q, (OwnR wq w8 b B5 lv q ∨ o' = some q) ∨ q = b15 → w'.heap[q]? = wr.heap[q]?) := fun W k => by
                      obtain ⟨d', f', c', hSv, hWv⟩ := hRB.tab
                      refine (sw_put5 (hSv.stay k) hWv HP.out.hj HP.out.hG hT2.out HVal.out (HP.out.word 0) _ _).mono ?_
                      rintro e w' ⟨h1, h2, h3⟩
                      exact ⟨h1, h2, fun q e => (h3 q e).trans (k.block q (hSv.lt q e) id)⟩
                    have hS6 : Hid (∀ w6, (∃ d' f' c', SW W0 w6 p (fun q => (OwnR wq w8 b B5 lv q ∨ o' = some q) ∨ q = b15) l G d' f' c' ∧ WT c' G f') → (∀ q, (OwnR wq w8 b B5 lv q ∨ o' = some q) ∨ q = b15 → w6.heap[q]? = wr.heap[q]?) → S37 b B5 p (V1.heap.size + 1) g o nh hc l (hv 0) ((s : Int) + 1) w6) := fun w6 h1 h2 => by
                      obtain ⟨d6, f6, c6, hS6, -⟩ := h1
                      exact s37_of ((h2 B5 (Or.inl (Or.inl (Or.inl (Or.inr (Or.inr rfl)))))).trans x5) ((h2 b (Or.inl (Or.inl (Or.inl (Or.inl rfl))))).trans xb) (hg0.out w6 hS6.keep) ((h2 (V1.heap.size + 1) (Or.inl (Or.inl (Or.inr ⟨by have := A.n; omega, by have := A.w; omega⟩)))).trans hR.seen)
                    have HE : Hid (∀ w6, (∃ d' f' c', SW W0 w6 p (fun q => (OwnR wq w8 b B5 lv q ∨ o' = some q) ∨ q = b15) l G d' f' c' ∧ WT c' G f') → (∀ q, (OwnR wq w8 b B5 lv q ∨ o' = some q) ∨ q = b15 → w6.heap[q]? = wr.heap[q]?) → StayO o' X w6 ∧ (∀ k, k = w8.heap.size ∨ k = w8.heap.size + 1 → w6.heap[k]? = X.heap[k]?) ∧ R1 W0 wq w8 w6 p b B5 V1.heap.size l G lv c o' (s + 1) (((s + 1 : Nat)) : Int) (lastOf hs (s + 1))) := fun w6 h1 h2 => by
                      have an := A.n
                      have aw := A.w
                      have e1 : ((s + 1 : Nat) : Int) = (s : Int) + 1 := by omega
                      refine ⟨fun q e => (h2 q (Or.inl (Or.inr e))).trans ((hq q (Or.inl (Or.inr e))).trans (HQ.out q (Or.inr (Or.inr e)))), fun k e => ?_, ?_⟩
                      · have hk : OwnR wq w8 b B5 lv k := Or.inr ⟨by omega, by omega⟩
                        exact (h2 k (Or.inl (Or.inl hk))).trans ((hq k (Or.inl (Or.inl hk))).trans (HQ.out k (e.elim Or.inl (fun e => Or.inr (Or.inl e)))))
                      · rw [e1, Hlsu.out]
                        obtain ⟨d6, f6, c6, hS6, hW6⟩ := h1
                        exact (hR.turn A ⟨d6, f6, c6, hS6.less (fun q e => Or.inl e), hW6⟩ (fun q e => h2 q (Or.inl e))).later s
                    have hS37 := hSk.out _ kDd.out
                    have hTk' := hTk.out
                    have hTe' := hTe.out
                    clear hR hRB hq x5 xb HIv hLv
                    repeat (first | ((with_reducible refine region_out ?_ ?_ ?_); kernel_rfl; exact (fun ⟨_, _, h⟩ => h); go_wp2_with fail) | ((fail_if_success (with_reducible refine region_in (S := fun _ => True) ?_ ?_ ?_ ?_ ?_)); gi_step))
                    refine region_in (S := (S37 b B5 p (V1.heap.size + 1) g o nh hc l (hv 0) ((s : Int) + 1))) (by kernel_rfl) (by kernel_rfl) (fun ⟨_, _, h⟩ => h) hS37 (fun hHeld => ?_)
                    refine wpAnyH_take (i := 0) (oi := { dst := some 151, op := Op.load 46 (Operand.tmp 5), type := 46, pos := "outright.go:427", after := #[], guard := none }) (v := ?v3_0) rfl (by kernel_rfl) (by kernel_rfl) (by kernel_rfl) (fun _ _ _ h => h) (Or.inl ⟨by rfl, ?hy3_0⟩) hHeld ?rs3_0
                    case hy3_0 => (intro wS hSw; dsimp only [S37, S1T] at hSw; go_simp; try with_reducible rfl)
                    try simp only [Act.put, List.setIfInBounds_toArray, List.set_cons_zero, List.set_cons_succ]
                    refine wpAnyH_take (i := 1) (oi := { dst := some 152, op := Op.nilCheck (Operand.tmp 151), type := 0, pos := "outright.go:427", after := #[{ on := 0, ground := Ground.data }], guard := none }) (v := ?v3_1) rfl (by kernel_rfl) (by kernel_rfl) (by kernel_rfl) (fun _ _ _ h => h) (Or.inl ⟨by rfl, ?hy3_1⟩) hHeld ?rs3_1
                    case hy3_1 => (intro wS hSw; dsimp only [S37, S1T] at hSw; go_simp; try with_reducible rfl)
                    try simp only [Act.put, List.setIfInBounds_toArray, List.set_cons_zero, List.set_cons_succ]
                    refine wpAnyH_take (i := 2) (oi := { dst := some 153, op := Op.fieldAddr 57 (Operand.tmp 152) 2, type := 0, pos := "outright.go:427", after := #[{ on := 1, ground := Ground.data }], guard := none }) (v := ?v3_2) rfl (by kernel_rfl) (by kernel_rfl) (by kernel_rfl) (fun _ _ _ h => h) (Or.inl ⟨by rfl, ?hy3_2⟩) hHeld ?rs3_2
                    case hy3_2 => (intro wS hSw; dsimp only [S37, S1T] at hSw; go_simp; try with_reducible rfl)
                    try simp only [Act.put, List.setIfInBounds_toArray, List.set_cons_zero, List.set_cons_succ]
                    refine wpAnyH_take (i := 3) (oi := { dst := some 154, op := Op.load 36 (Operand.tmp 153), type := 36, pos := "outright.go:427", after := #[{ on := 2, ground := Ground.data }], guard := none }) (v := ?v3_3) rfl (by kernel_rfl) (by kernel_rfl) (by kernel_rfl) (fun _ _ _ h => h) (Or.inl ⟨by rfl, ?hy3_3⟩) hHeld ?rs3_3
                    case hy3_3 => (intro wS hSw; dsimp only [S37, S1T] at hSw; go_simp; try with_reducible rfl)
                    try simp only [Act.put, List.setIfInBounds_toArray, List.set_cons_zero, List.set_cons_succ]
                    refine wpAnyH_take (i := 4) (oi := { dst := some 155, op := Op.load 46 (Operand.tmp 5), type := 46, pos := "outright.go:427", after := #[], guard := none }) (v := ?v3_4) rfl (by kernel_rfl) (by kernel_rfl) (by kernel_rfl) (fun _ _ _ h => h) (Or.inl ⟨by rfl, ?hy3_4⟩) hHeld ?rs3_4
                    case hy3_4 => (intro wS hSw; dsimp only [S37, S1T] at hSw; go_simp; try with_reducible rfl)
                    try simp only [Act.put, List.setIfInBounds_toArray, List.set_cons_zero, List.set_cons_succ]
                    refine wpAnyH_take (i := 5) (oi := { dst := some 156, op := Op.nilCheck (Operand.tmp 155), type := 0, pos := "outright.go:427", after := #[{ on := 4, ground := Ground.data }], guard := none }) (v := ?v3_5) rfl (by kernel_rfl) (by kernel_rfl) (by kernel_rfl) (fun _ _ _ h => h) (Or.inl ⟨by rfl, ?hy3_5⟩) hHeld ?rs3_5
                    case hy3_5 => (intro wS hSw; dsimp only [S37, S1T] at hSw; go_simp; try with_reducible rfl)
                    try simp only [Act.put, List.setIfInBounds_toArray, List.set_cons_zero, List.set_cons_succ]
                    refine wpAnyH_take (i := 6) (oi := { dst := some 157, op := Op.fieldAddr 57 (Operand.tmp 156) 3, type := 0, pos := "outright.go:427", after := #[{ on := 5, ground := Ground.data }], guard := none }) (v := ?v3_6) rfl (by kernel_rfl) (by kernel_rfl) (by kernel_rfl) (fun _ _ _ h => h) (Or.inl ⟨by rfl, ?hy3_6⟩) hHeld ?rs3_6
                    case hy3_6 => (intro wS hSw; dsimp only [S37, S1T] at hSw; go_simp; try with_reducible rfl)
                    try simp only [Act.put, List.setIfInBounds_toArray, List.set_cons_zero, List.set_cons_succ]
                    refine wpAnyH_take (i := 7) (oi := { dst := some 158, op := Op.fieldAddr 52 (Operand.tmp 157) 2, type := 0, pos := "outright.go:427", after := #[{ on := 6, ground := Ground.data }], guard := none }) (v := ?v3_7) rfl (by kernel_rfl) (by kernel_rfl) (by kernel_rfl) (fun _ _ _ h => h) (Or.inl ⟨by rfl, ?hy3_7⟩) hHeld ?rs3_7
                    case hy3_7 => (intro wS hSw; dsimp only [S37, S1T] at hSw; go_simp; try with_reducible rfl)
                    try simp only [Act.put, List.setIfInBounds_toArray, List.set_cons_zero, List.set_cons_succ]
                    refine wpAnyH_take (i := 8) (oi := { dst := some 159, op := Op.load 49 (Operand.tmp 158), type := 49, pos := "outright.go:427", after := #[{ on := 7, ground := Ground.data }], guard := none }) (v := ?v3_8) rfl (by kernel_rfl) (by kernel_rfl) (by kernel_rfl) (fun _ _ _ h => h) (Or.inl ⟨by rfl, ?hy3_8⟩) hHeld ?rs3_8
                    case hy3_8 => (intro wS hSw; dsimp only [S37, S1T] at hSw; go_simp; try with_reducible rfl)
                    try simp only [Act.put, List.setIfInBounds_toArray, List.set_cons_zero, List.set_cons_succ]
                    refine wpAnyH_take (i := 9) (oi := { dst := some 160, op := Op.indexAddr 49 (Operand.tmp 159) (Operand.const (Value.int IntKind.i64 0)), type := 0, pos := "outright.go:427", after := #[{ on := 8, ground := Ground.data }], guard := none }) (v := ?v3_9) rfl (by kernel_rfl) (by kernel_rfl) (by kernel_rfl) (fun _ _ _ h => h) (Or.inl ⟨by rfl, ?hy3_9⟩) hHeld ?rs3_9
                    case hy3_9 => (intro wS hSw; dsimp only [S37, S1T] at hSw; go_simp; try with_reducible rfl)
                    try simp only [Act.put, List.setIfInBounds_toArray, List.set_cons_zero, List.set_cons_succ]
                    refine wpAnyH_take (i := 10) (oi := { dst := some 161, op := Op.load 23 (Operand.tmp 160), type := 23, pos := "outright.go:427", after := #[{ on := 9, ground := Ground.data }], guard := none }) (v := ?v3_10) rfl (by kernel_rfl) (by kernel_rfl) (by kernel_rfl) (fun _ _ _ h => h) (Or.inl ⟨by rfl, ?hy3_10⟩) hHeld ?rs3_10
                    case hy3_10 => (intro wS hSw; dsimp only [S37, S1T] at hSw; go_simp; try with_reducible rfl)
                    try simp only [Act.put, List.setIfInBounds_toArray, List.set_cons_zero, List.set_cons_succ]
                    refine wpAnyH_take (i := 11) (oi := { dst := some 162, op := Op.load 3 (Operand.tmp 11), type := 3, pos := "outright.go:427", after := #[], guard := none }) (v := ?v3_11) rfl (by kernel_rfl) (by kernel_rfl) (by kernel_rfl) (fun _ _ _ h => h) (Or.inl ⟨by rfl, ?hy3_11⟩) hHeld ?rs3_11
                    case hy3_11 => (intro wS hSw; dsimp only [S37, S1T] at hSw; go_simp; try with_reducible rfl)
                    try simp only [Act.put, List.setIfInBounds_toArray, List.set_cons_zero, List.set_cons_succ]
                    refine wpAnyH_take (i := 12) (oi := { dst := some 163, op := Op.binOp BinOp.add 3 (Operand.const (Value.int IntKind.i64 2000)) (Operand.tmp 162) 3, type := 3, pos := "outright.go:427", after := #[{ on := 11, ground := Ground.data }], guard := none }) (v := ?v3_12) rfl (by kernel_rfl) (by kernel_rfl) (by kernel_rfl) (fun _ _ _ h => h) (Or.inl ⟨by rfl, ?hy3_12⟩) hHeld ?rs3_12
                    case hy3_12 => (intro wS hSw; dsimp only [S37, S1T] at hSw; go_simp; try with_reducible rfl)
                    try simp only [Act.put, List.setIfInBounds_toArray, List.set_cons_zero, List.set_cons_succ]
                    refine wpAnyH_take (i := 13) (oi := { dst := some 164, op := Op.load 46 (Operand.tmp 5), type := 46, pos := "outright.go:427", after := #[], guard := none }) (v := ?v3_13) rfl (by kernel_rfl) (by kernel_rfl) (by kernel_rfl) (fun _ _ _ h => h) (Or.inl ⟨by rfl, ?hy3_13⟩) hHeld ?rs3_13
                    case hy3_13 => (intro wS hSw; dsimp only [S37, S1T] at hSw; go_simp; try with_reducible rfl)
                    try simp only [Act.put, List.setIfInBounds_toArray, List.set_cons_zero, List.set_cons_succ]
                    refine wpAnyH_take (i := 14) (oi := { dst := some 165, op := Op.nilCheck (Operand.tmp 164), type := 0, pos := "outright.go:427", after := #[{ on := 13, ground := Ground.data }], guard := none }) (v := ?v3_14) rfl (by kernel_rfl) (by kernel_rfl) (by kernel_rfl) (fun _ _ _ h => h) (Or.inl ⟨by rfl, ?hy3_14⟩) hHeld ?rs3_14
                    case hy3_14 => (intro wS hSw; dsimp only [S37, S1T] at hSw; go_simp; try with_reducible rfl)
                    try simp only [Act.put, List.setIfInBounds_toArray, List.set_cons_zero, List.set_cons_succ]
                    refine wpAnyH_take (i := 15) (oi := { dst := some 166, op := Op.fieldAddr 57 (Operand.tmp 165) 1, type := 0, pos := "outright.go:427", after := #[{ on := 14, ground := Ground.data }], guard := none }) (v := ?v3_15) rfl (by kernel_rfl) (by kernel_rfl) (by kernel_rfl) (fun _ _ _ h => h) (Or.inl ⟨by rfl, ?hy3_15⟩) hHeld ?rs3_15
                    case hy3_15 => (intro wS hSw; dsimp only [S37, S1T] at hSw; go_simp; try with_reducible rfl)
                    try simp only [Act.put, List.setIfInBounds_toArray, List.set_cons_zero, List.set_cons_succ]
                    refine wpAnyH_take (i := 16) (oi := { dst := some 167, op := Op.fieldAddr 27 (Operand.tmp 166) 0, type := 0, pos := "outright.go:427", after := #[{ on := 15, ground := Ground.data }], guard := none }) (v := ?v3_16) rfl (by kernel_rfl) (by kernel_rfl) (by kernel_rfl) (fun _ _ _ h => h) (Or.inl ⟨by rfl, ?hy3_16⟩) hHeld ?rs3_16
                    case hy3_16 => (intro wS hSw; dsimp only [S37, S1T] at hSw; go_simp; try with_reducible rfl)
                    try simp only [Act.put, List.setIfInBounds_toArray, List.set_cons_zero, List.set_cons_succ]
                    refine wpAnyH_take (i := 17) (oi := { dst := some 168, op := Op.load 3 (Operand.tmp 167), type := 3, pos := "outright.go:427", after := #[{ on := 16, ground := Ground.data }], guard := none }) (v := ?v3_17) rfl (by kernel_rfl) (by kernel_rfl) (by kernel_rfl) (fun _ _ _ h => h) (Or.inl ⟨by rfl, ?hy3_17⟩) hHeld ?rs3_17
                    case hy3_17 => (intro wS hSw; dsimp only [S37, S1T] at hSw; go_simp; try with_reducible rfl)
                    try simp only [Act.put, List.setIfInBounds_toArray, List.set_cons_zero, List.set_cons_succ]
                    refine wpAnyH_take (i := 19) (oi := { dst := some 170, op := Op.load 3 (Operand.tmp 11), type := 3, pos := "outright.go:427", after := #[], guard := none }) (v := ?v3_19) rfl (by kernel_rfl) (by kernel_rfl) (by kernel_rfl) (fun _ _ _ h => h) (Or.inl ⟨by rfl, ?hy3_19⟩) hHeld ?rs3_19
                    case hy3_19 => (intro wS hSw; dsimp only [S37, S1T] at hSw; go_simp; try with_reducible rfl)
                    try simp only [Act.put, List.setIfInBounds_toArray, List.set_cons_zero, List.set_cons_succ]
                    refine wpAnyH_take (i := 20) (oi := { dst := some 171, op := Op.load 46 (Operand.tmp 5), type := 46, pos := "outright.go:427", after := #[], guard := none }) (v := ?v3_20) rfl (by kernel_rfl) (by kernel_rfl) (by kernel_rfl) (fun _ _ _ h => h) (Or.inl ⟨by rfl, ?hy3_20⟩) hHeld ?rs3_20
                    case hy3_20 => (intro wS hSw; dsimp only [S37, S1T] at hSw; go_simp; try with_reducible rfl)
                    try simp only [Act.put, List.setIfInBounds_toArray, List.set_cons_zero, List.set_cons_succ]
                    refine wpAnyH_take (i := 21) (oi := { dst := some 172, op := Op.nilCheck (Operand.tmp 171), type := 0, pos := "outright.go:427", after := #[{ on := 20, ground := Ground.data }], guard := none }) (v := ?v3_21) rfl (by kernel_rfl) (by kernel_rfl) (by kernel_rfl) (fun _ _ _ h => h) (Or.inl ⟨by rfl, ?hy3_21⟩) hHeld ?rs3_21
                    case hy3_21 => (intro wS hSw; dsimp only [S37, S1T] at hSw; go_simp; try with_reducible rfl)
                    try simp only [Act.put, List.setIfInBounds_toArray, List.set_cons_zero, List.set_cons_succ]
                    refine wpAnyH_take (i := 22) (oi := { dst := some 173, op := Op.fieldAddr 57 (Operand.tmp 172) 1, type := 0, pos := "outright.go:427", after := #[{ on := 21, ground := Ground.data }], guard := none }) (v := ?v3_22) rfl (by kernel_rfl) (by kernel_rfl) (by kernel_rfl) (fun _ _ _ h => h) (Or.inl ⟨by rfl, ?hy3_22⟩) hHeld ?rs3_22
                    case hy3_22 => (intro wS hSw; dsimp only [S37, S1T] at hSw; go_simp; try with_reducible rfl)
                    try simp only [Act.put, List.setIfInBounds_toArray, List.set_cons_zero, List.set_cons_succ]
                    refine wpAnyH_take (i := 23) (oi := { dst := some 174, op := Op.fieldAddr 27 (Operand.tmp 173) 1, type := 0, pos := "outright.go:427", after := #[{ on := 22, ground := Ground.data }], guard := none }) (v := ?v3_23) rfl (by kernel_rfl) (by kernel_rfl) (by kernel_rfl) (fun _ _ _ h => h) (Or.inl ⟨by rfl, ?hy3_23⟩) hHeld ?rs3_23
                    case hy3_23 => (intro wS hSw; dsimp only [S37, S1T] at hSw; go_simp; try with_reducible rfl)
                    try simp only [Act.put, List.setIfInBounds_toArray, List.set_cons_zero, List.set_cons_succ]
                    refine wpAnyH_take (i := 24) (oi := { dst := some 175, op := Op.load 3 (Operand.tmp 174), type := 3, pos := "outright.go:427", after := #[{ on := 23, ground := Ground.data }], guard := none }) (v := ?v3_24) rfl (by kernel_rfl) (by kernel_rfl) (by kernel_rfl) (fun _ _ _ h => h) (Or.inl ⟨by rfl, ?hy3_24⟩) hHeld ?rs3_24
                    case hy3_24 => (intro wS hSw; dsimp only [S37, S1T] at hSw; go_simp; try with_reducible rfl)
                    try simp only [Act.put, List.setIfInBounds_toArray, List.set_cons_zero, List.set_cons_succ]
                    refine wpAnyH_ready (rs := [18]) (by kernel_rfl) (by simp) ?_
                    refine AllReadyH.cons (o := { dst := some 169, op := Op.call { callee := Callee.value (Operand.func 14), args := #[Operand.tmp 163, Operand.tmp 168], argTypes := #[3, 3] }, type := 9, pos := "outright.go:427", after := #[{ on := 12, ground := Ground.data }, { on := 17, ground := Ground.data }], guard := none }) rfl (fun K hK => ?_) AllReadyH.nil
                    go_simp
                    refine (hTk.out _).mono ?_
                    rintro e wA ⟨rfl, kA⟩
                    have KA := hide (kDd.out.trans kA (fun _ _ e => e))
                    clear kA
                    refine hK.out _ _ ?hS3_18 (fun hHeld2 => ?_)
                    case hS3_18 => exact hSk.out _ KA.out
                    clear hK K hHeld
                    have hHeld := hHeld2
                    clear hHeld2
                    try simp only [Act.put, List.setIfInBounds_toArray, List.set_cons_zero, List.set_cons_succ]
                    refine wpAnyH_ready (rs := [25]) (by kernel_rfl) (by simp) ?_
                    refine AllReadyH.cons (o := { dst := some 176, op := Op.call { callee := Callee.value (Operand.func 14), args := #[Operand.tmp 170, Operand.tmp 175], argTypes := #[3, 3] }, type := 9, pos := "outright.go:427", after := #[{ on := 19, ground := Ground.data }, { on := 24, ground := Ground.data }, { on := 18, ground := Ground.chain }], guard := none }) rfl (fun K hK => ?_) AllReadyH.nil
                    go_simp
                    refine (hTe.out _).mono ?_
                    rintro e wB ⟨rfl, kB⟩
                    have KB := hide (KA.out.trans kB (fun _ _ e => e))
                    clear kB
                    refine hK.out _ _ ?hS3_25 (fun hHeld2 => ?_)
                    case hS3_25 => exact hSk.out _ KB.out
                    clear hK K hHeld
                    have hHeld := hHeld2
                    clear hHeld2
                    try simp only [Act.put, List.setIfInBounds_toArray, List.set_cons_zero, List.set_cons_succ]
                    refine wpAnyH_ready (rs := [26]) (by kernel_rfl) (by simp) ?_
                    refine AllReadyH.cons (o := { dst := some 177, op := Op.call { callee := Callee.value (Operand.func 15), args := #[Operand.tmp 154, Operand.tmp 161, Operand.tmp 169, Operand.tmp 176, Operand.const (Value.int IntKind.i64 5)], argTypes := #[36, 23, 9, 9, 3] }, type := 39, pos := "outright.go:427", after := #[{ on := 3, ground := Ground.data }, { on := 10, ground := Ground.data }, { on := 18, ground := Ground.data }, { on := 25, ground := Ground.data }, { on := 25, ground := Ground.chain }], guard := none }) rfl (fun K hK => ?_) AllReadyH.nil
                    go_simp
                    refine (hPut.out _ KB.out).mono ?_
                    rintro e w6 ⟨⟨rr, rfl⟩, hT6, hq6⟩
                    have HT6 := hide hT6
                    have Hq6 := hide hq6
                    clear hT6 hq6
                    refine hK.out _ _ ?hS3_26 (fun hHeld2 => ?_)
                    case hS3_26 => exact hS6.out w6 HT6.out Hq6.out
                    clear hK K hHeld
                    have hHeld := hHeld2
                    clear hHeld2
                    try simp only [Act.put, List.setIfInBounds_toArray, List.set_cons_zero, List.set_cons_succ]
                    refine wpAnyH_take (i := 27) (oi := { dst := some 150, op := Op.move (Operand.tmp 177), type := 39, pos := "outright.go:427", after := #[{ on := 26, ground := Ground.data }], guard := none }) (v := ?v3_27) rfl (by kernel_rfl) (by kernel_rfl) (by kernel_rfl) (fun _ _ _ h => h) (Or.inl ⟨by rfl, ?hy3_27⟩) hHeld ?rs3_27
                    case hy3_27 => (intro wS hSw; dsimp only [S37, S1T] at hSw; go_simp; try with_reducible rfl)
                    try simp only [Act.put, List.setIfInBounds_toArray, List.set_cons_zero, List.set_cons_succ]
                    refine wpAnyH_take (i := 28) (oi := { dst := some 178, op := Op.extract (Operand.tmp 150) 0, type := 3, pos := "outright.go:427", after := #[{ on := 27, ground := Ground.data }], guard := none }) (v := ?v3_28) rfl (by kernel_rfl) (by kernel_rfl) (by kernel_rfl) (fun _ _ _ h => h) (Or.inl ⟨by rfl, ?hy3_28⟩) hHeld ?rs3_28
                    case hy3_28 => (intro wS hSw; dsimp only [S37, S1T] at hSw; go_simp; try with_reducible rfl)
                    try simp only [Act.put, List.setIfInBounds_toArray, List.set_cons_zero, List.set_cons_succ]
                    refine wpAnyH_take (i := 30) (oi := { dst := some 21, op := Op.assign (Operand.tmp 178), type := 3, pos := "outright.go:427", after := #[{ on := 28, ground := Ground.data }, { on := 26, ground := Ground.chain }, { on := 0, ground := Ground.phase }, { on := 1, ground := Ground.phase }, { on := 2, ground := Ground.phase }, { on := 3, ground := Ground.phase }, { on := 4, ground := Ground.phase }, { on := 5, ground := Ground.phase }, { on := 6, ground := Ground.phase }, { on := 7, ground := Ground.phase }, { on := 8, ground := Ground.phase }, { on := 9, ground := Ground.phase }, { on := 10, ground := Ground.phase }, { on := 11, ground := Ground.phase }, { on := 12, ground := Ground.phase }, { on := 13, ground := Ground.phase }, { on := 14, ground := Ground.phase }, { on := 15, ground := Ground.phase }, { on := 16, ground := Ground.phase }, { on := 17, ground := Ground.phase }, { on := 18, ground := Ground.phase }, { on := 19, ground := Ground.phase }, { on := 20, ground := Ground.phase }, { on := 21, ground := Ground.phase }, { on := 22, ground := Ground.phase }, { on := 23, ground := Ground.phase }, { on := 24, ground := Ground.phase }, { on := 25, ground := Ground.phase }, { on := 26, ground := Ground.phase }, { on := 27, ground := Ground.phase }, { on := 28, ground := Ground.phase }, { on := 29, ground := Ground.textOnly Departure.lateStores }], guard := none }) (v := ?v3_30) rfl (by kernel_rfl) (by kernel_rfl) (by kernel_rfl) (fun _ _ _ h => h) (Or.inl ⟨by rfl, ?hy3_30⟩) hHeld ?rs3_30
                    case hy3_30 => (intro wS hSw; dsimp only [S37, S1T] at hSw; go_simp; try with_reducible rfl)
                    try simp only [Act.put, List.setIfInBounds_toArray, List.set_cons_zero, List.set_cons_succ]
                    refine wpAnyH_take (i := 29) (oi := { dst := some 179, op := Op.extract (Operand.tmp 150) 1, type := 31, pos := "outright.go:427", after := #[{ on := 27, ground := Ground.data }, { on := 30, ground := Ground.gcOnly Departure.lateStores }], guard := none }) (v := ?v3_29) rfl (by kernel_rfl) (by kernel_rfl) (by kernel_rfl) (fun _ _ _ h => h) (Or.inl ⟨by rfl, ?hy3_29⟩) hHeld ?rs3_29
                    case hy3_29 => (intro wS hSw; dsimp only [S37, S1T] at hSw; go_simp; try with_reducible rfl)
                    try simp only [Act.put, List.setIfInBounds_toArray, List.set_cons_zero, List.set_cons_succ]
                    refine wpAnyH_take (i := 31) (oi := { dst := some 22, op := Op.assign (Operand.tmp 179), type := 31, pos := "outright.go:427", after := #[{ on := 29, ground := Ground.data }, { on := 30, ground := Ground.chain }, { on := 0, ground := Ground.phase }, { on := 1, ground := Ground.phase }, { on := 2, ground := Ground.phase }, { on := 3, ground := Ground.phase }, { on := 4, ground := Ground.phase }, { on := 5, ground := Ground.phase }, { on := 6, ground := Ground.phase }, { on := 7, ground := Ground.phase }, { on := 8, ground := Ground.phase }, { on := 9, ground := Ground.phase }, { on := 10, ground := Ground.phase }, { on := 11, ground := Ground.phase }, { on := 12, ground := Ground.phase }, { on := 13, ground := Ground.phase }, { on := 14, ground := Ground.phase }, { on := 15, ground := Ground.phase }, { on := 16, ground := Ground.phase }, { on := 17, ground := Ground.phase }, { on := 18, ground := Ground.phase }, { on := 19, ground := Ground.phase }, { on := 20, ground := Ground.phase }, { on := 21, ground := Ground.phase }, { on := 22, ground := Ground.phase }, { on := 23, ground := Ground.phase }, { on := 24, ground := Ground.phase }, { on := 25, ground := Ground.phase }, { on := 26, ground := Ground.phase }, { on := 27, ground := Ground.phase }, { on := 28, ground := Ground.phase }, { on := 29, ground := Ground.phase }, { on := 30, ground := Ground.phase }], guard := none }) (v := ?v3_31) rfl (by kernel_rfl) (by kernel_rfl) (by kernel_rfl) (fun _ _ _ h => h) (Or.inl ⟨by rfl, ?hy3_31⟩) hHeld ?rs3_31
                    case hy3_31 => (intro wS hSw; dsimp only [S37, S1T] at hSw; go_simp; try with_reducible rfl)
                    try simp only [Act.put, List.setIfInBounds_toArray, List.set_cons_zero, List.set_cons_succ]
                    refine wpAnyH_done (by kernel_rfl) ?_ _
                    have HE6 := hide (HE.out w6 HT6.out Hq6.out)
                    clear HE HT6 Hq6 hHeld hS6 hSk hPut hTk hTe hTk' hTe' hg0 hS37
                    have hN8 := fun W => num8_any 0 W
                    repeat (first | ((with_reducible refine region_out ?_ ?_ ?_); kernel_rfl; exact (fun ⟨_, _, h⟩ => h); go_wp2_with fail) | ((fail_if_success (with_reducible refine region_in (S := fun _ => True) ?_ ?_ ?_ ?_ ?_)); gi_step))
                    refine (hN8 _).mono ?_
                    rintro e w7 ⟨rfl, rfl⟩
                    go_wp2_with fail
                    repeat (first | ((with_reducible refine region_out ?_ ?_ ?_); kernel_rfl; exact (fun ⟨_, _, h⟩ => h); go_wp2_with fail) | ((fail_if_success (with_reducible refine region_in (S := fun _ => True) ?_ ?_ ?_ ?_ ?_)); gi_step))
                    exact ⟨HE6.out.1, HE6.out.2.1, s + 1, rfl, hsl, HE6.out.2.2⟩
        case tl9 =>
          intro o' s V h0 h1 h2 hD
          subst ha9
          refine hKX _ _ ?_
          obtain ⟨wq, rfl⟩ : ∃ wq, wq = wr := ⟨_, rfl⟩
          obtain ⟨v5, vb, vl, vA, -⟩ := HO.out _ _ _ _ _ h2
          have hLn : hs.length = L.length := by
            have e1 := fullL_cnt c (8 * G)
            have e2 := HT.out.fulls
            rw [HH.out] at e1
            omega
          obtain ⟨x1, -⟩ := Ct.one_cell h2.seen
          obtain ⟨x2, -⟩ := Ct.one_cell vl
          have x3 := (Ct.one_cell (HBR.out _ h2.keep).1).1
          have kV2 : Keeps V ((V.alloc (.cells #[.int .i64 0] 3)).alloc (.cells #[.int .i64 0] 3)) (fun _ => False) := ((Keeps.refl _ _).alloc _).alloc _
          have x4 := (Ct.one_cell (kV2.blk vA)).1
          have H2 := hide h2
          have HD := hide hD
          have Hv5 := hide v5
          have Hvb := hide vb
          have HvA := hide vA
          have HkV2 := hide kV2
          clear h2 hD v5 vb vl vA kV2 g1 g2 g3 k18 k18V hall HLs HR HkV hOT
          by_cases hc1 : (s : Int) = (L.length : Int)
          · have n1 : ((s : Int) != (L.length : Int)) = false := by simp [hc1]
            clear hc1
            go_wp2_with fail
            rename_i KY hKY
            clear x1 x2 x3 x4 n1
            rw [← wpIn_wide (n := 8)]
            obtain ⟨d, f, c', hSV, hWV, -⟩ := H2.out.tab
            have hSV2 := hSV.news HkV2.out
            have aN := A.n
            have aW := A.w
            have aB := A.base
            have hVs : w8.heap.size + 2 ≤ V.heap.size := by
              have := H2.out.ins (w8.heap.size + 1) (Or.inl (Or.inr ⟨by omega, by omega⟩))
              omega
            have hM0 : ((V.alloc (.cells #[.int .i64 0] 3)).alloc (.cells #[.int .i64 0] 3)).heap[V.heap.size]? = some (.cells #[.int .i64 0] 3) := (((Keeps.refl _ (fun _ => False)).alloc _).blk (heap_alloc_new V _))
            have hM1 : ((V.alloc (.cells #[.int .i64 0] 3)).alloc (.cells #[.int .i64 0] 3)).heap[V.heap.size + 1]? = some (.cells #[.int .i64 0] 3) := by
              have := heap_alloc_new (V.alloc (.cells #[.int .i64 0] 3)) (.cells #[.int .i64 0] 3)
              rwa [World.size_alloc] at this
            have hVz : ((V.alloc (.cells #[.int .i64 0] 3)).alloc (.cells #[.int .i64 0] 3)).heap.size = V.heap.size + 2 := by rw [World.size_alloc, World.size_alloc]
            have v3 : ((V.alloc (.cells #[.int .i64 0] 3)).alloc (.cells #[.int .i64 0] 3)).heap[V1.heap.size + 3]? = some (.cells #[.pointer (some ⟨p, 0, none⟩), .int .i64 l.k, .int .i64 l.e, .int .i64 l.a, .int .i64 l.b, .int .i64 l.c, .int .i64 l.eo, .int .i64 l.bo, .int .i64 l.s, .int .i64 l.g, .int .i64 (16 : Int)] 36) := HkV2.out.blk ((H2.out.rest (V1.heap.size + 3) (Or.inr ⟨by omega, by omega⟩) (by omega) (by omega) (by omega)).trans g4)
            have u5 := HkV2.out.blk Hv5.out
            have ub := HkV2.out.blk Hvb.out
            have uA := HkV2.out.blk HvA.out
            have uD := HkV2.out.blk HD.out
            have uR := (HBR.out _ (H2.out.keep.trans HkV2.out (fun _ _ e => e))).2
            have hlow : Hid (∀ q, (OwnR wq w8 b B5 lv q ∨ o' = some q) ∨ (V.heap.size ≤ q ∧ q < ((V.alloc (.cells #[.int .i64 0] 3)).alloc (.cells #[.int .i64 0] 3)).heap.size) → W0.heap.size ≤ q) := fun q hq => by
              have := H2.out.keep.size
              rcases hq with hq | hq
              · exact H2.out.lows A q hq
              · omega
            have hk0W : Hid (Keeps w ((V.alloc (.cells #[.int .i64 0] 3)).alloc (.cells #[.int .i64 0] 3)) (fun _ => False)) := (hk0.out.trans H2.out.keep (fun _ _ e => e)).trans HkV2.out (fun _ _ e => e)
            have hB0s : Hid (B0 + 1 + 1 < W0.heap.size ∧ w.heap.size ≤ B0) := by
              have := HZ0.out
              rw [← hB0]
              constructor <;> omega
            generalize hV2 : ((V.alloc (.cells #[.int .i64 0] 3)).alloc (.cells #[.int .i64 0] 3)) = V2 at *
            have HSV2 := hide hSV2
            have HWV := hide hWV
            have Hv3 := hide v3
            have Hu5 := hide u5
            have Hub := hide ub
            have HuA := hide uA
            have HuD := hide uD
            have HuR := hide uR
            clear hSV hSV2 hWV v3 u5 ub uA uD uR hV2 HkV2 Hv5 Hvb HvA
            obtain ⟨hs2, hhs2⟩ : ∃ hs2, fullL c' (8 * G) = hs2 := ⟨_, rfl⟩
            have hlen2 : hs2.length ≤ 1024 := by
              have := fullL_len c' (8 * G)
              rw [hhs2] at this
              omega
            have hOT := tcells_one 7 (by omega) p (V1.heap.size + 3) l 16 80 G j (by omega) hG9 hs2 (by omega)
            have HH2 := hide hhs2
            clear hhs2
            generalize ha9 : Act.mk _ _ = a9
            have HSX : Hid (∀ X o7 nw wi, R2 V2 X V.heap.size o7 nw wi → SW W0 X p (fun q => (OwnR wq w8 b B5 lv q ∨ o' = some q) ∨ (V.heap.size ≤ q ∧ q < V2.heap.size)) l G d f c') := fun X o7 nw wi h => h.sw HSV2.out (Or.inr ⟨by omega, by omega⟩) (Or.inr ⟨by omega, by omega⟩) hlow.out
            have HRx : Hid (∀ X o7 nw wi (n : Nat), R2 V2 X V.heap.size o7 nw wi → RxT p (V1.heap.size + 3) l 16 80 G hs2 n X) := fun X o7 nw wi n h => by
              have hS := HSX.out X o7 nw wi h
              exact ⟨h.blk Hv3.out (by omega) (by omega), fun _ => ⟨_, d, f, c', hS.own.here, hS.fine, hS.tab, hS.f4, hS.f7, HH2.out.symm⟩⟩
            refine range_one (n := 8) (by omega) (gf := 60) (lb := #[.pointer (some ⟨V1.heap.size + 3, 0, none⟩)]) ?hop2 (enters_of Tryz.func60 (by kernel_rfl) rfl) hOT (fun _ => rfl)
              (fun o7 a x a' X => ∃ b26, a' = { tmps := (((a.tmps.setIfInBounds 193 (.int .i64 (x.1 : Int))).setIfInBounds 194 x.2.val).setIfInBounds 25 (.int .i64 (x.1 : Int))).setIfInBounds 26 (.pointer (some ⟨b26, 0, none⟩)), defers := [] } ∧ X.heap[b26]? = some (.cells #[.int .i64 x.2.kind, .int .i64 x.2.tag, .string x.2.key, .string x.2.elem, .int .i64 x.2.birth] 83))
              ?hAx2
              (fun o7 n X => n ≤ hs2.length ∧ R2 V2 X V.heap.size o7 (n : Int) (wiN n hs2.length))
              (fun _ _ => False)
              ?hR2 ?hlt2 ?hI2 ?hIp2 ?hXp2 ?h02 ?hassign2 ?hbody2 ?hdone2 ?hstop2
            case hop2 => subst ha9; rfl
            case hAx2 =>
              rintro o7 x a' X r y ⟨b26, e1, e2⟩ hL
              refine ⟨b26, e1, putBlk e2 (fun e => ?_)⟩
              rw [e, hL] at e2
              cases e2
            case hR2 =>
              rintro o7 n X ⟨-, h⟩
              exact HRx.out X o7 _ _ n h
            case hlt2 =>
              rintro o7 n X ⟨-, h⟩ q e
              exact (h.ob q e).2
            case hI2 =>
              rintro o7 n X X' ⟨h1, h2⟩ kk
              exact ⟨h1, h2.stay kk⟩
            case hIp2 =>
              rintro o7 n X r y ⟨h1, h2⟩ hL
              exact ⟨h1, h2.put hVz (Nat.le_refl _) y⟩
            case hXp2 =>
              intro c8 X r y h hL
              exact h
            case h02 =>
              intro o7 X r kk hl hd hb
              refine ⟨Nat.zero_le _, ?_⟩
              rw [show wiN 0 hs2.length = 0 from by simp [wiN]]
              exact ⟨kk.mono (fun _ _ e => e.elim), kk.blk hM0, kk.blk hM1, hd, fun q e => ⟨(hb q e).1, (hb q e).2⟩⟩
            case hstop2 =>
              intro c8 X h hD
              exact h.elim
            case hassign2 =>
              rintro o7 ⟨i, ⟨kd, tg, ky, el, bi⟩⟩ t X K' hI' hK'
              have hK2 := hide hK'
              clear hK' hI' hOT
              subst ha9
              simp only [GC.val]
              gi_wp2_with fail
              refine hK2.out _ _ ((Keeps.refl _ _).alloc _) ⟨X.heap.size, ?_, heap_alloc_new _ _⟩
              simp only [GC.val, List.setIfInBounds_toArray, List.set_cons_zero, List.set_cons_succ]
            case hdone2 =>
              rintro o7 n X rfl ⟨hn1, h⟩ hD
              subst ha9
              refine hKY _ _ ?_
              have a5 := A.low B5 (Or.inr (Or.inr rfl))
              have ab := A.low b (Or.inl rfl)
              have hSX := HSX.out X o7 _ _ h
              have y5 := (Ct.one_cell (h.blk Hu5.out (by omega) (by omega))).1
              obtain ⟨t0, t1, t2, t3, t4, t5, t6, t7, t8, t9, t10⟩ := ben_T (h.blk Hub.out (by omega) (by omega))
              have hSt := sw_stat hSX
              have hused : f 3 = (hs2.length : Int) := by
                rw [HWV.out.used, ← HH2.out, fullL_cnt]
              have hb0 := hB0s.out
              have hVW := H2.out.keep.size
              have hwW := hk0.out.size
              rw [hused] at hSt
              have hX8 := h.blk HuD.out (by omega) (by omega)
              have hXr := h.blk HuR.out (by omega) (by omega)
              have kwX : Hid (Keeps w X (fun _ => False)) := hk0W.out.trans h.k (fun q hq e => by omega)
              have hN8 := fun W => num8_any 0 W
              have Hh := hide h
              have HDX := hide hD
              have HX8 := hide hX8
              have HXr := hide hXr
              clear h hD hX8 hXr hSX
              go_wp2_with fail
              (with_reducible refine hSt.mono ?_)
              rintro e X1 ⟨rfl, k1⟩
              clear hSt y5 t0 t1 t2 t3 t4 t5 t6 t7 t8 t9 t10
              have ka : Keeps X1 (X1.alloc (.cells #[.int .i64 (hs2.length : Int), .int .i64 (f 4), .int .i64 (f 5), .int .i64 (f 6), .int .i64 (f 1), .int .i64 (f 2), .bool (f 0 == 4), .int .i64 (f 7)] 64)) (fun _ => False) := (Keeps.refl _ _).alloc _
              have K1 := hide (k1.trans ka (fun _ _ e => e))
              clear k1 ka hused
              have H1 := hide (Hh.out.stay K1.out)
              obtain ⟨p1, -⟩ := Ct.one_cell H1.out.n
              obtain ⟨p2, -⟩ := Ct.one_cell H1.out.i
              obtain ⟨p3, p4⟩ := Ct.one_cell (K1.out.blk HXr.out)
              go_wp2_with fail
              refine (hN8 _).mono ?_
              rintro e X2 ⟨rfl, rfl⟩
              go_wp2_with fail
              rw [wiN_end hlen2]
              have hBw := hB0
              clear p1 p2
              have ks : Keeps (X1.alloc (.cells #[.int .i64 (hs2.length : Int), .int .i64 (f 4), .int .i64 (f 5), .int .i64 (f 6), .int .i64 (f 1), .int .i64 (f 2), .bool (f 0 == 4), .int .i64 (f 7)] 64)) ((X1.alloc (.cells #[.int .i64 (hs2.length : Int), .int .i64 (f 4), .int .i64 (f 5), .int .i64 (f 6), .int .i64 (f 1), .int .i64 (f 2), .bool (f 0 == 4), .int .i64 (f 7)] 64)).setCell ⟨B0 + 1 + 1, 0, none⟩ (.bool true)) (fun q => q = B0 + 1 + 1) := Keeps.setCell (S := fun q => q = B0 + 1 + 1) (Keeps.refl _ _) ⟨B0 + 1 + 1, 0, none⟩ (fun _ => rfl) _
              have z2 := ks.blkS (K1.out.blk HDX.out) (by omega)
              have z1 := putBlk (l := V2.heap.size) (o := .deferred none) (ks.blkS (K1.out.blk HX8.out) (by omega)) (by omega)
              have zr := (Ct.one_cell (putBlk (l := w8.heap.size) (o := .deferred none) (putBlk (l := V2.heap.size) (o := .deferred none) (set_one' (K1.out.blk HXr.out) 0 (.bool true) (by simp)) (by omega)) (by omega))).1
              have kz := ((((kwX.out.trans K1.out (fun _ _ e => e)).trans ks (fun q hq e => by omega)).put (by omega : w.heap.size ≤ V2.heap.size) (.deferred none)).put (by omega : w.heap.size ≤ w8.heap.size) (.deferred none))
              rw [hVz] at z2 z1 zr kz
              rw [aW] at z1 zr kz
              refine ⟨by simp, .inl ⟨_, _, rfl, run_takeDeferred z2, ?_⟩⟩
              refine ⟨by simp, .inl ⟨_, _, rfl, run_takeDeferred z1, ?_⟩⟩
              exact ⟨_, by simp [results, Tryz.results7, go_sem, zr], rfl, kz⟩
            case hbody2 =>
              rintro o7 x n a' X ⟨r, hl⟩ ⟨hn1, h⟩ ⟨b26, rfl, hb26⟩ hx
              clear hOT
              subst ha9
              obtain ⟨m, ⟨kd, tg, ky, el, bi⟩⟩ := x
              obtain ⟨hm8, hcm, hk2⟩ := fullL_mem c' (8 * G) (m, ⟨kd, tg, ky, el, bi⟩) (List.mem_of_getElem? (by rw [HH2.out]; exact hx))
              dsimp only at hm8 hcm hk2
              rw [← hcm] at hk2
              obtain rfl : kd = 2 := hk2
              have a5 := A.low B5 (Or.inr (Or.inr rfl))
              have ab := A.low b (Or.inl rfl)
              have hSX := HSX.out X o7 _ _ h
              have hCe : Hid (∀ W, Keeps X W (fun _ => False) → Calls Tryz.prog 31 #[.agg #[.pointer (some ⟨p, 0, none⟩), .int .i64 l.k, .int .i64 l.e, .int .i64 l.a, .int .i64 l.b, .int .i64 l.c, .int .i64 l.eo, .int .i64 l.bo, .int .i64 l.s, .int .i64 l.g, .int .i64 (16 : Int)], .int .i64 (m : Int)] W fun e w' => e = .returned (.tuple #[.agg #[.int .i64 2, .int .i64 tg, .string ky, .string el, .int .i64 bi], .int .i64 0]) ∧ Keeps W w' (fun _ => False)) := fun W k => by
                have := tcell_yes (off := 16) (hSX.stay k).own.here hSX.fine hSX.tab hSX.f4 hSX.f7 m hm8
                rw [← hcm] at this
                exact this
              have hCx := hCe.out X (Keeps.refl _ _)
              have y5 := (Ct.one_cell (h.blk Hu5.out (by omega) (by omega))).1
              obtain ⟨t0, t1, t2, t3, t4, t5, t6, t7, t8, t9, t10⟩ := ben_T (h.blk Hub.out (by omega) (by omega))
              have hsn : n + 1 ≤ hs2.length := (List.getElem?_eq_some_iff.1 hx).1
              have H := hide h
              have Hl := hide hl
              have Hb26 := hide hb26
              have HX := hide hSX
              have hN8 := fun W => num8_any 0 W
              clear hSX hm8 hcm h hl hb26 hx hCe a5 ab
              dsimp only
              simp only [GC.val, List.setIfInBounds_toArray, List.set_cons_zero, List.set_cons_succ]
              repeat (first | ((with_reducible refine region_out ?_ ?_ ?_); kernel_rfl; exact (fun ⟨_, _, h⟩ => h); go_wp2_with fail) | ((fail_if_success (with_reducible refine region_in (S := fun _ => True) ?_ ?_ ?_ ?_ ?_)); gi_step))
              refine hCx.mono ?_
              rintro e X1 ⟨rfl, k1⟩
              clear hCx y5 t0 t1 t2 t3 t4 t5 t6 t7 t8 t9 t10
              have ka : Keeps X1 (X1.alloc (.cells #[.int .i64 2, .int .i64 tg, .string ky, .string el, .int .i64 bi] 83)) (fun _ => False) := (Keeps.refl _ _).alloc _
              have K1 := hide (k1.trans ka (fun _ _ e => e))
              obtain ⟨b0, b1, b2, b3, b4, -⟩ := five_cells (K1.out.blk Hb26.out)
              clear k1 ka
              go_wp2_with fail
              repeat (first | ((with_reducible refine region_out ?_ ?_ ?_); kernel_rfl; exact (fun ⟨_, _, h⟩ => h); go_wp2_with fail) | ((fail_if_success (with_reducible refine region_in (S := fun _ => True) ?_ ?_ ?_ ?_ ?_)); gi_step))
              refine (hN8 _).mono ?_
              rintro e X2 ⟨rfl, rfl⟩
              clear hN8
              have H1 := hide (H.out.stay K1.out)
              obtain ⟨p1, p2⟩ := Ct.one_cell H1.out.n
              obtain ⟨nn, hnn⟩ : ∃ nn : Int, (n : Int) + 1 = nn := ⟨_, rfl⟩
              have H3 := hide (H1.out.setN hVz nn)
              obtain ⟨p3, p4⟩ := Ct.one_cell H3.out.n
              have hn5 : n ≤ 100000 := Nat.le_trans (Nat.le_of_succ_le hsn) (Nat.le_trans hlen2 (by decide))
              have hKs : Hid (∀ q, q < X.heap.size → q ≠ V.heap.size → ((X1.alloc (.cells #[.int .i64 2, .int .i64 tg, .string ky, .string el, .int .i64 bi] 83)).setCell ⟨V.heap.size, 0, none⟩ (.int .i64 nn)).heap[q]? = X.heap[q]?) := fun q h1 h2 => by
                have ks : Keeps (X1.alloc (.cells #[.int .i64 2, .int .i64 tg, .string ky, .string el, .int .i64 bi] 83)) ((X1.alloc (.cells #[.int .i64 2, .int .i64 tg, .string ky, .string el, .int .i64 bi] 83)).setCell ⟨V.heap.size, 0, none⟩ (.int .i64 nn)) (fun q => q = V.heap.size) := Keeps.setCell (S := fun q => q = V.heap.size) (Keeps.refl _ _) ⟨V.heap.size, 0, none⟩ (fun _ => rfl) _
                exact (ks.block q (Nat.lt_of_lt_of_le h1 K1.out.size) h2).trans (K1.out.block q h1 id)
              by_cases hn3 : n < 2
              · have hn3' : nn < 3 := by omega
                have y9 := (Ct.one_cell (H3.out.blk HuA.out (by omega) (by omega))).1
                obtain ⟨wn1, wn2⟩ := wr_succ hn5
                rw [hnn] at wn1 wn2
                have wn3 : wrap64 ((n : Int) + 1) = nn := by rw [hnn]; exact wn1
                have wn4 : IntKind.i64.wrap ((n : Int) + 1) = nn := by rw [hnn]; exact wn2
                have Hnn := hide hnn
                clear hn5 wn1 wn2 hnn
                go_wp2_with fail
                repeat (first | ((with_reducible refine region_out ?_ ?_ ?_); kernel_rfl; exact (fun ⟨_, _, h⟩ => h); go_wp2_with fail) | ((fail_if_success (with_reducible refine region_in (S := fun _ => True) ?_ ?_ ?_ ?_ ?_)); gi_step))
                clear p1 p2 p3 p4 wn3 wn4 y9 b0 b1 b2 b3 b4 hn3'
                generalize hX3 : ((X1.alloc (.cells #[.int .i64 2, .int .i64 tg, .string ky, .string el, .int .i64 bi] 83)).setCell ⟨V.heap.size, 0, none⟩ (.int .i64 nn)) = X3 at *
                clear hX3
                have hl3 : X3.heap[V2.heap.size + 1]? = some (.loop r) := (hKs.out _ (heap_lt Hl.out) (by omega)).trans Hl.out
                have hz3 := heap_lt hl3
                have hOT3 := tcells_one 5 (by omega) p (V1.heap.size + 3) l 16 80 G j (by omega) hG9 hs2 (by omega)
                have hwb := wiN_bound (n := n) hlen2
                generalize ha8 : Act.mk _ _ = a8
                refine range_oneN (n := 6) hl3 (by omega) (gf := 60) (lb := #[.pointer (some ⟨V1.heap.size + 3, 0, none⟩)]) ?hop3 (enters_of Tryz.func60 (by kernel_rfl) rfl) hOT3 (fun _ => rfl)
                  (fun o8 a x a' Y => a' = { tmps := (a.tmps.setIfInBounds 222 (.int .i64 (x.1 : Int))).setIfInBounds 223 x.2.val, defers := [] })
                  ?hAx3
                  (fun o8 t Y => t ≤ hs2.length ∧ R2 V2 Y V.heap.size o7 nn (wiN n hs2.length + (t : Int)) ∧ Keeps X3 Y (fun q => q = V.heap.size + 1) ∧ ∀ q, o8 = some q → X3.heap.size + 1 ≤ q ∧ q < Y.heap.size)
                  (fun _ _ => False)
                  ?hR3 ?hlt3 ?hI3 ?hIp3 ?hXp3 ?h03 ?hassign3 ?hbody3 ?hdone3 ?hstop3
                case hop3 => subst ha8; rfl
                case hAx3 =>
                  intro o8 x a' Y r8 y h hL
                  exact h
                case hR3 =>
                  rintro o8 t Y ⟨-, h, -⟩
                  exact HRx.out Y o7 _ _ t h
                case hlt3 =>
                  rintro o8 t Y ⟨-, -, -, h⟩ q e
                  exact (h q e).2
                case hI3 =>
                  rintro o8 t Y Y' ⟨h1, h2, h3, h4⟩ kk
                  exact ⟨h1, h2.stay kk, h3.trans kk (fun _ _ e => e.elim), fun q e => ⟨(h4 q e).1, Nat.lt_of_lt_of_le (h4 q e).2 kk.size⟩⟩
                case hIp3 =>
                  rintro o8 t Y r8 y ⟨h1, h2, h3, h4⟩ hL
                  have kp : Keeps Y (Y.putObj X3.heap.size y) (fun q => q = X3.heap.size) := keeps_putX (X := fun q => q = X3.heap.size) rfl y
                  exact ⟨h1, h2.put hVz (Nat.le_of_lt hz3) y, h3.trans kp (fun q hq e => by omega), fun q e => ⟨(h4 q e).1, Nat.lt_of_lt_of_le (h4 q e).2 kp.size⟩⟩
                case hXp3 =>
                  intro c8 Y r8 y h hL
                  exact h
                case h03 =>
                  intro o8 Y r8 kk hl8 hb
                  refine ⟨Nat.zero_le _, ?_, kk.mono (fun _ _ e => e.elim), fun q e => ⟨(hb q e).1, (hb q e).2⟩⟩
                  rw [show wiN n hs2.length + ((0 : Nat) : Int) = wiN n hs2.length from by simp]
                  exact H3.out.stay kk
                case hstop3 =>
                  intro c8 Y h
                  exact h.elim
                case hassign3 =>
                  rintro o8 ⟨i, gc⟩ t Y K' hI' hK'
                  have hK2 := hide hK'
                  clear hK' hI' hOT3
                  subst ha8
                  repeat (first | ((with_reducible refine region_out ?_ ?_ ?_); kernel_rfl; exact (fun ⟨_, _, h⟩ => h); go_wp2_with fail) | ((fail_if_success (with_reducible refine region_in (S := fun _ => True) ?_ ?_ ?_ ?_ ?_)); gi_step))
                  refine hK2.out _ _ (Keeps.refl _ _) ?_
                  first | rfl | kernel_rfl | (simp; done)
                case hdone3 =>
                  rintro o8 t Y rfl ⟨h1, h2, h3, h4⟩
                  subst ha8
                  have e1 : ((n + 1 : Nat) : Int) = nn := by
                    have := Hnn.out
                    omega
                  repeat (first | ((with_reducible refine region_out ?_ ?_ ?_); kernel_rfl; exact (fun ⟨_, _, h⟩ => h); go_wp2_with fail) | ((fail_if_success (with_reducible refine region_in (S := fun _ => True) ?_ ?_ ?_ ?_ ?_)); gi_step))
                  refine ⟨fun q e => (h3.block q ?_ ?_).trans (hKs.out q (H.out.ob q e).2 ?_), fun k e => (h3.block k ?_ ?_).trans (hKs.out k ?_ ?_), n + 1, rfl, hsn, ?_⟩
                  · have := H3.out.ob q e
                    omega
                  · have := H3.out.ob q e
                    omega
                  · have := H3.out.ob q e
                    omega
                  · omega
                  · omega
                  · rcases e with e | e
                    · rw [e]
                      exact heap_lt H.out.d
                    · rw [e]
                      exact heap_lt Hl.out
                  · omega
                  · rw [e1, wiN_lt hn3]
                    exact h2
                case hbody3 =>
                  rintro o8 x t a' Y ⟨r8, hl8⟩ ⟨h1, h2, h3, h4⟩ rfl hx
                  have hst : t + 1 ≤ hs2.length := (List.getElem?_eq_some_iff.1 hx).1
                  obtain ⟨wv, hwv⟩ : ∃ wv : Int, wiN n hs2.length + (t : Int) = wv := ⟨_, rfl⟩
                  have hwr := wr_int (x := wv) (by omega) (by omega)
                  rw [hwv] at h2
                  obtain ⟨p1, p2⟩ := Ct.one_cell h2.i
                  have hfi : Hid (OnePostN o8 X3.heap.size (fun o8 t Y => t ≤ hs2.length ∧ R2 V2 Y V.heap.size o7 nn (wiN n hs2.length + (t : Int)) ∧ Keeps X3 Y (fun q => q = V.heap.size + 1) ∧ ∀ q, o8 = some q → X3.heap.size + 1 ≤ q ∧ q < Y.heap.size) (fun _ _ => False) (fun s' => s' = t + 1) Y .normal { tmps := #[], defers := [] } (Y.setCell ⟨V.heap.size + 1, 0, none⟩ (.int .i64 (wv + 1)))) := by
                    obtain ⟨q1, q2, q3⟩ := h2.step hVz h3 (wv + 1)
                    have hz := q2.size
                    refine ⟨fun q e => (q3 q (by have := h4 q e; omega) (h4 q e).2).1, (q3 _ (by omega) (heap_lt hl8)).1, t + 1, rfl, hst, ?_, q2, fun q e => ⟨(h4 q e).1, ?_⟩⟩
                    · rw [show wiN n hs2.length + ((t + 1 : Nat) : Int) = wv + 1 from by omega]
                      exact q1
                    · exact Nat.lt_of_lt_of_le (h4 q e).2 (q3 _ (by omega) (heap_lt hl8)).2
                  obtain ⟨wr1, wr2⟩ := hwr
                  clear h2 h3 h4 hx hl8 hwv hOT3 hwb
                  subst ha8
                  dsimp only
                  simp only [List.setIfInBounds_toArray, List.set_cons_zero, List.set_cons_succ]
                  repeat (first | ((with_reducible refine region_out ?_ ?_ ?_); kernel_rfl; exact (fun ⟨_, _, h⟩ => h); go_wp2_with fail) | ((fail_if_success (with_reducible refine region_in (S := fun _ => True) ?_ ?_ ?_ ?_ ?_)); gi_step))
                  exact hfi.out
              · have hn3' : ¬ nn < 3 := by omega
                obtain ⟨wn1, wn2⟩ := wr_succ hn5
                rw [hnn] at wn1 wn2
                have wn3 : wrap64 ((n : Int) + 1) = nn := by rw [hnn]; exact wn1
                have wn4 : IntKind.i64.wrap ((n : Int) + 1) = nn := by rw [hnn]; exact wn2
                have Hnn := hide hnn
                clear hn5 wn1 wn2 hnn
                go_wp2_with fail
                repeat (first | ((with_reducible refine region_out ?_ ?_ ?_); kernel_rfl; exact (fun ⟨_, _, h⟩ => h); go_wp2_with fail) | ((fail_if_success (with_reducible refine region_in (S := fun _ => True) ?_ ?_ ?_ ?_ ?_)); gi_step))
                clear wn3 wn4 p1 p2 p3 p4 hn3' b0 b1 b2 b3 b4
                have e1 : ((n + 1 : Nat) : Int) = nn := by
                  have := Hnn.out
                  omega
                refine ⟨fun q e => hKs.out q (H.out.ob q e).2 (by have := (H.out.ob q e).1; omega), fun k e => hKs.out k ?_ (by omega), n + 1, rfl, hsn, ?_⟩
                · rcases e with e | e
                  · rw [e]
                    exact heap_lt H.out.d
                  · rw [e]
                    exact heap_lt Hl.out
                · rw [e1, wiN_ge (by omega)]
                  exact H3.out
          · have n1 : ((s : Int) != (L.length : Int)) = true := by simp [hc1]
            have n2 : ((s : Int) != stop) = false := by
              have : (s : Int) = stop := by
                rcases h1 with e | e
                · exact absurd (by omega) hc1
                · exact e
              simp [this]
            clear hc1
            go_wp2_with fail
            rename_i KY hKY
            clear x1 x2 x3 x4 n1
            rw [← wpIn_wide (n := 8)]
            obtain ⟨d, f, c', hSV, hWV, -⟩ := H2.out.tab
            have hSV2 := hSV.news HkV2.out
            have aN := A.n
            have aW := A.w
            have aB := A.base
            have hVs : w8.heap.size + 2 ≤ V.heap.size := by
              have := H2.out.ins (w8.heap.size + 1) (Or.inl (Or.inr ⟨by omega, by omega⟩))
              omega
            have hM0 : ((V.alloc (.cells #[.int .i64 0] 3)).alloc (.cells #[.int .i64 0] 3)).heap[V.heap.size]? = some (.cells #[.int .i64 0] 3) := (((Keeps.refl _ (fun _ => False)).alloc _).blk (heap_alloc_new V _))
            have hM1 : ((V.alloc (.cells #[.int .i64 0] 3)).alloc (.cells #[.int .i64 0] 3)).heap[V.heap.size + 1]? = some (.cells #[.int .i64 0] 3) := by
              have := heap_alloc_new (V.alloc (.cells #[.int .i64 0] 3)) (.cells #[.int .i64 0] 3)
              rwa [World.size_alloc] at this
            have hVz : ((V.alloc (.cells #[.int .i64 0] 3)).alloc (.cells #[.int .i64 0] 3)).heap.size = V.heap.size + 2 := by rw [World.size_alloc, World.size_alloc]
            have v3 : ((V.alloc (.cells #[.int .i64 0] 3)).alloc (.cells #[.int .i64 0] 3)).heap[V1.heap.size + 3]? = some (.cells #[.pointer (some ⟨p, 0, none⟩), .int .i64 l.k, .int .i64 l.e, .int .i64 l.a, .int .i64 l.b, .int .i64 l.c, .int .i64 l.eo, .int .i64 l.bo, .int .i64 l.s, .int .i64 l.g, .int .i64 (16 : Int)] 36) := HkV2.out.blk ((H2.out.rest (V1.heap.size + 3) (Or.inr ⟨by omega, by omega⟩) (by omega) (by omega) (by omega)).trans g4)
            have u5 := HkV2.out.blk Hv5.out
            have ub := HkV2.out.blk Hvb.out
            have uA := HkV2.out.blk HvA.out
            have uD := HkV2.out.blk HD.out
            have uR := (HBR.out _ (H2.out.keep.trans HkV2.out (fun _ _ e => e))).2
            have hlow : Hid (∀ q, (OwnR wq w8 b B5 lv q ∨ o' = some q) ∨ (V.heap.size ≤ q ∧ q < ((V.alloc (.cells #[.int .i64 0] 3)).alloc (.cells #[.int .i64 0] 3)).heap.size) → W0.heap.size ≤ q) := fun q hq => by
              have := H2.out.keep.size
              rcases hq with hq | hq
              · exact H2.out.lows A q hq
              · omega
            have hk0W : Hid (Keeps w ((V.alloc (.cells #[.int .i64 0] 3)).alloc (.cells #[.int .i64 0] 3)) (fun _ => False)) := (hk0.out.trans H2.out.keep (fun _ _ e => e)).trans HkV2.out (fun _ _ e => e)
            have hB0s : Hid (B0 + 1 + 1 < W0.heap.size ∧ w.heap.size ≤ B0) := by
              have := HZ0.out
              rw [← hB0]
              constructor <;> omega
            generalize hV2 : ((V.alloc (.cells #[.int .i64 0] 3)).alloc (.cells #[.int .i64 0] 3)) = V2 at *
            have HSV2 := hide hSV2
            have HWV := hide hWV
            have Hv3 := hide v3
            have Hu5 := hide u5
            have Hub := hide ub
            have HuA := hide uA
            have HuD := hide uD
            have HuR := hide uR
            clear hSV hSV2 hWV v3 u5 ub uA uD uR hV2 HkV2 Hv5 Hvb HvA
            obtain ⟨hs2, hhs2⟩ : ∃ hs2, fullL c' (8 * G) = hs2 := ⟨_, rfl⟩
            have hlen2 : hs2.length ≤ 1024 := by
              have := fullL_len c' (8 * G)
              rw [hhs2] at this
              omega
            have hOT := tcells_one 7 (by omega) p (V1.heap.size + 3) l 16 80 G j (by omega) hG9 hs2 (by omega)
            have HH2 := hide hhs2
            clear hhs2
            generalize ha9 : Act.mk _ _ = a9
            have HSX : Hid (∀ X o7 nw wi, R2 V2 X V.heap.size o7 nw wi → SW W0 X p (fun q => (OwnR wq w8 b B5 lv q ∨ o' = some q) ∨ (V.heap.size ≤ q ∧ q < V2.heap.size)) l G d f c') := fun X o7 nw wi h => h.sw HSV2.out (Or.inr ⟨by omega, by omega⟩) (Or.inr ⟨by omega, by omega⟩) hlow.out
            have HRx : Hid (∀ X o7 nw wi (n : Nat), R2 V2 X V.heap.size o7 nw wi → RxT p (V1.heap.size + 3) l 16 80 G hs2 n X) := fun X o7 nw wi n h => by
              have hS := HSX.out X o7 nw wi h
              exact ⟨h.blk Hv3.out (by omega) (by omega), fun _ => ⟨_, d, f, c', hS.own.here, hS.fine, hS.tab, hS.f4, hS.f7, HH2.out.symm⟩⟩
            refine range_one (n := 8) (by omega) (gf := 60) (lb := #[.pointer (some ⟨V1.heap.size + 3, 0, none⟩)]) ?hop2 (enters_of Tryz.func60 (by kernel_rfl) rfl) hOT (fun _ => rfl)
              (fun o7 a x a' X => ∃ b26, a' = { tmps := (((a.tmps.setIfInBounds 193 (.int .i64 (x.1 : Int))).setIfInBounds 194 x.2.val).setIfInBounds 25 (.int .i64 (x.1 : Int))).setIfInBounds 26 (.pointer (some ⟨b26, 0, none⟩)), defers := [] } ∧ X.heap[b26]? = some (.cells #[.int .i64 x.2.kind, .int .i64 x.2.tag, .string x.2.key, .string x.2.elem, .int .i64 x.2.birth] 83))
              ?hAx2
              (fun o7 n X => n ≤ hs2.length ∧ R2 V2 X V.heap.size o7 (n : Int) (wiN n hs2.length))
              (fun _ _ => False)
              ?hR2 ?hlt2 ?hI2 ?hIp2 ?hXp2 ?h02 ?hassign2 ?hbody2 ?hdone2 ?hstop2
            case hop2 => subst ha9; rfl
            case hAx2 =>
              rintro o7 x a' X r y ⟨b26, e1, e2⟩ hL
              refine ⟨b26, e1, putBlk e2 (fun e => ?_)⟩
              rw [e, hL] at e2
              cases e2
            case hR2 =>
              rintro o7 n X ⟨-, h⟩
              exact HRx.out X o7 _ _ n h
            case hlt2 =>
              rintro o7 n X ⟨-, h⟩ q e
              exact (h.ob q e).2
            case hI2 =>
              rintro o7 n X X' ⟨h1, h2⟩ kk
              exact ⟨h1, h2.stay kk⟩
            case hIp2 =>
              rintro o7 n X r y ⟨h1, h2⟩ hL
              exact ⟨h1, h2.put hVz (Nat.le_refl _) y⟩
            case hXp2 =>
              intro c8 X r y h hL
              exact h
            case h02 =>
              intro o7 X r kk hl hd hb
              refine ⟨Nat.zero_le _, ?_⟩
              rw [show wiN 0 hs2.length = 0 from by simp [wiN]]
              exact ⟨kk.mono (fun _ _ e => e.elim), kk.blk hM0, kk.blk hM1, hd, fun q e => ⟨(hb q e).1, (hb q e).2⟩⟩
            case hstop2 =>
              intro c8 X h hD
              exact h.elim
            case hassign2 =>
              rintro o7 ⟨i, ⟨kd, tg, ky, el, bi⟩⟩ t X K' hI' hK'
              have hK2 := hide hK'
              clear hK' hI' hOT
              subst ha9
              simp only [GC.val]
              repeat (first | ((with_reducible refine region_out ?_ ?_ ?_); kernel_rfl; exact (fun ⟨_, _, h⟩ => h); go_wp2_with fail) | ((fail_if_success (with_reducible refine region_in (S := fun _ => True) ?_ ?_ ?_ ?_ ?_)); gi_step))
              refine hK2.out _ _ ((Keeps.refl _ _).alloc _) ⟨X.heap.size, ?_, heap_alloc_new _ _⟩
              simp only [GC.val, List.setIfInBounds_toArray, List.set_cons_zero, List.set_cons_succ]
            case hdone2 =>
              rintro o7 n X rfl ⟨hn1, h⟩ hD
              subst ha9
              refine hKY _ _ ?_
              have a5 := A.low B5 (Or.inr (Or.inr rfl))
              have ab := A.low b (Or.inl rfl)
              have hSX := HSX.out X o7 _ _ h
              have y5 := (Ct.one_cell (h.blk Hu5.out (by omega) (by omega))).1
              obtain ⟨t0, t1, t2, t3, t4, t5, t6, t7, t8, t9, t10⟩ := ben_T (h.blk Hub.out (by omega) (by omega))
              have hSt := sw_stat hSX
              have hused : f 3 = (hs2.length : Int) := by
                rw [HWV.out.used, ← HH2.out, fullL_cnt]
              have hb0 := hB0s.out
              have hVW := H2.out.keep.size
              have hwW := hk0.out.size
              rw [hused] at hSt
              have hX8 := h.blk HuD.out (by omega) (by omega)
              have hXr := h.blk HuR.out (by omega) (by omega)
              have kwX : Hid (Keeps w X (fun _ => False)) := hk0W.out.trans h.k (fun q hq e => by omega)
              have hN8 := fun W => num8_any 0 W
              have Hh := hide h
              have HDX := hide hD
              have HX8 := hide hX8
              have HXr := hide hXr
              clear h hD hX8 hXr hSX
              go_wp2_with fail
              (with_reducible refine hSt.mono ?_)
              rintro e X1 ⟨rfl, k1⟩
              clear hSt y5 t0 t1 t2 t3 t4 t5 t6 t7 t8 t9 t10
              have ka : Keeps X1 (X1.alloc (.cells #[.int .i64 (hs2.length : Int), .int .i64 (f 4), .int .i64 (f 5), .int .i64 (f 6), .int .i64 (f 1), .int .i64 (f 2), .bool (f 0 == 4), .int .i64 (f 7)] 64)) (fun _ => False) := (Keeps.refl _ _).alloc _
              have K1 := hide (k1.trans ka (fun _ _ e => e))
              clear k1 ka hused
              have H1 := hide (Hh.out.stay K1.out)
              obtain ⟨p1, -⟩ := Ct.one_cell H1.out.n
              obtain ⟨p2, -⟩ := Ct.one_cell H1.out.i
              obtain ⟨p3, p4⟩ := Ct.one_cell (K1.out.blk HXr.out)
              go_wp2_with fail
              refine (hN8 _).mono ?_
              rintro e X2 ⟨rfl, rfl⟩
              go_wp2_with fail
              rw [wiN_end hlen2]
              have hBw := hB0
              clear p1 p2
              have ks : Keeps (X1.alloc (.cells #[.int .i64 (hs2.length : Int), .int .i64 (f 4), .int .i64 (f 5), .int .i64 (f 6), .int .i64 (f 1), .int .i64 (f 2), .bool (f 0 == 4), .int .i64 (f 7)] 64)) ((X1.alloc (.cells #[.int .i64 (hs2.length : Int), .int .i64 (f 4), .int .i64 (f 5), .int .i64 (f 6), .int .i64 (f 1), .int .i64 (f 2), .bool (f 0 == 4), .int .i64 (f 7)] 64)).setCell ⟨B0 + 1 + 1, 0, none⟩ (.bool true)) (fun q => q = B0 + 1 + 1) := Keeps.setCell (S := fun q => q = B0 + 1 + 1) (Keeps.refl _ _) ⟨B0 + 1 + 1, 0, none⟩ (fun _ => rfl) _
              have z2 := ks.blkS (K1.out.blk HDX.out) (by omega)
              have z1 := putBlk (l := V2.heap.size) (o := .deferred none) (ks.blkS (K1.out.blk HX8.out) (by omega)) (by omega)
              have zr := (Ct.one_cell (putBlk (l := w8.heap.size) (o := .deferred none) (putBlk (l := V2.heap.size) (o := .deferred none) (set_one' (K1.out.blk HXr.out) 0 (.bool true) (by simp)) (by omega)) (by omega))).1
              have kz := ((((kwX.out.trans K1.out (fun _ _ e => e)).trans ks (fun q hq e => by omega)).put (by omega : w.heap.size ≤ V2.heap.size) (.deferred none)).put (by omega : w.heap.size ≤ w8.heap.size) (.deferred none))
              rw [hVz] at z2 z1 zr kz
              rw [aW] at z1 zr kz
              refine ⟨by simp, .inl ⟨_, _, rfl, run_takeDeferred z2, ?_⟩⟩
              refine ⟨by simp, .inl ⟨_, _, rfl, run_takeDeferred z1, ?_⟩⟩
              exact ⟨_, by simp [results, Tryz.results7, go_sem, zr], rfl, kz⟩
            case hbody2 =>
              rintro o7 x n a' X ⟨r, hl⟩ ⟨hn1, h⟩ ⟨b26, rfl, hb26⟩ hx
              clear hOT
              subst ha9
              obtain ⟨m, ⟨kd, tg, ky, el, bi⟩⟩ := x
              obtain ⟨hm8, hcm, hk2⟩ := fullL_mem c' (8 * G) (m, ⟨kd, tg, ky, el, bi⟩) (List.mem_of_getElem? (by rw [HH2.out]; exact hx))
              dsimp only at hm8 hcm hk2
              rw [← hcm] at hk2
              obtain rfl : kd = 2 := hk2
              have a5 := A.low B5 (Or.inr (Or.inr rfl))
              have ab := A.low b (Or.inl rfl)
              have hSX := HSX.out X o7 _ _ h
              have hCe : Hid (∀ W, Keeps X W (fun _ => False) → Calls Tryz.prog 31 #[.agg #[.pointer (some ⟨p, 0, none⟩), .int .i64 l.k, .int .i64 l.e, .int .i64 l.a, .int .i64 l.b, .int .i64 l.c, .int .i64 l.eo, .int .i64 l.bo, .int .i64 l.s, .int .i64 l.g, .int .i64 (16 : Int)], .int .i64 (m : Int)] W fun e w' => e = .returned (.tuple #[.agg #[.int .i64 2, .int .i64 tg, .string ky, .string el, .int .i64 bi], .int .i64 0]) ∧ Keeps W w' (fun _ => False)) := fun W k => by
                have := tcell_yes (off := 16) (hSX.stay k).own.here hSX.fine hSX.tab hSX.f4 hSX.f7 m hm8
                rw [← hcm] at this
                exact this
              have hCx := hCe.out X (Keeps.refl _ _)
              have y5 := (Ct.one_cell (h.blk Hu5.out (by omega) (by omega))).1
              obtain ⟨t0, t1, t2, t3, t4, t5, t6, t7, t8, t9, t10⟩ := ben_T (h.blk Hub.out (by omega) (by omega))
              have hsn : n + 1 ≤ hs2.length := (List.getElem?_eq_some_iff.1 hx).1
              have H := hide h
              have Hl := hide hl
              have Hb26 := hide hb26
              have HX := hide hSX
              have hN8 := fun W => num8_any 0 W
              clear hSX hm8 hcm h hl hb26 hx hCe a5 ab
              dsimp only
              simp only [GC.val, List.setIfInBounds_toArray, List.set_cons_zero, List.set_cons_succ]
              repeat (first | ((with_reducible refine region_out ?_ ?_ ?_); kernel_rfl; exact (fun ⟨_, _, h⟩ => h); go_wp2_with fail) | ((fail_if_success (with_reducible refine region_in (S := fun _ => True) ?_ ?_ ?_ ?_ ?_)); gi_step))
              refine hCx.mono ?_
              rintro e X1 ⟨rfl, k1⟩
              clear hCx y5 t0 t1 t2 t3 t4 t5 t6 t7 t8 t9 t10
              have ka : Keeps X1 (X1.alloc (.cells #[.int .i64 2, .int .i64 tg, .string ky, .string el, .int .i64 bi] 83)) (fun _ => False) := (Keeps.refl _ _).alloc _
              have K1 := hide (k1.trans ka (fun _ _ e => e))
              obtain ⟨b0, b1, b2, b3, b4, -⟩ := five_cells (K1.out.blk Hb26.out)
              clear k1 ka
              go_wp2_with fail
              repeat (first | ((with_reducible refine region_out ?_ ?_ ?_); kernel_rfl; exact (fun ⟨_, _, h⟩ => h); go_wp2_with fail) | ((fail_if_success (with_reducible refine region_in (S := fun _ => True) ?_ ?_ ?_ ?_ ?_)); gi_step))
              refine (hN8 _).mono ?_
              rintro e X2 ⟨rfl, rfl⟩
              clear hN8
              have H1 := hide (H.out.stay K1.out)
              obtain ⟨p1, p2⟩ := Ct.one_cell H1.out.n
              obtain ⟨nn, hnn⟩ : ∃ nn : Int, (n : Int) + 1 = nn := ⟨_, rfl⟩
              have H3 := hide (H1.out.setN hVz nn)
              obtain ⟨p3, p4⟩ := Ct.one_cell H3.out.n
              have hn5 : n ≤ 100000 := Nat.le_trans (Nat.le_of_succ_le hsn) (Nat.le_trans hlen2 (by decide))
              have hKs : Hid (∀ q, q < X.heap.size → q ≠ V.heap.size → ((X1.alloc (.cells #[.int .i64 2, .int .i64 tg, .string ky, .string el, .int .i64 bi] 83)).setCell ⟨V.heap.size, 0, none⟩ (.int .i64 nn)).heap[q]? = X.heap[q]?) := fun q h1 h2 => by
                have ks : Keeps (X1.alloc (.cells #[.int .i64 2, .int .i64 tg, .string ky, .string el, .int .i64 bi] 83)) ((X1.alloc (.cells #[.int .i64 2, .int .i64 tg, .string ky, .string el, .int .i64 bi] 83)).setCell ⟨V.heap.size, 0, none⟩ (.int .i64 nn)) (fun q => q = V.heap.size) := Keeps.setCell (S := fun q => q = V.heap.size) (Keeps.refl _ _) ⟨V.heap.size, 0, none⟩ (fun _ => rfl) _
                exact (ks.block q (Nat.lt_of_lt_of_le h1 K1.out.size) h2).trans (K1.out.block q h1 id)
              by_cases hn3 : n < 2
              · have hn3' : nn < 3 := by omega
                have y9 := (Ct.one_cell (H3.out.blk HuA.out (by omega) (by omega))).1
                obtain ⟨wn1, wn2⟩ := wr_succ hn5
                rw [hnn] at wn1 wn2
                have wn3 : wrap64 ((n : Int) + 1) = nn := by rw [hnn]; exact wn1
                have wn4 : IntKind.i64.wrap ((n : Int) + 1) = nn := by rw [hnn]; exact wn2
                have Hnn := hide hnn
                clear hn5 wn1 wn2 hnn
                go_wp2_with fail
                repeat (first | ((with_reducible refine region_out ?_ ?_ ?_); kernel_rfl; exact (fun ⟨_, _, h⟩ => h); go_wp2_with fail) | ((fail_if_success (with_reducible refine region_in (S := fun _ => True) ?_ ?_ ?_ ?_ ?_)); gi_step))
                clear p1 p2 p3 p4 wn3 wn4 y9 b0 b1 b2 b3 b4 hn3'
                generalize hX3 : ((X1.alloc (.cells #[.int .i64 2, .int .i64 tg, .string ky, .string el, .int .i64 bi] 83)).setCell ⟨V.heap.size, 0, none⟩ (.int .i64 nn)) = X3 at *
                clear hX3
                have hl3 : X3.heap[V2.heap.size + 1]? = some (.loop r) := (hKs.out _ (heap_lt Hl.out) (by omega)).trans Hl.out
                have hz3 := heap_lt hl3
                have hOT3 := tcells_one 5 (by omega) p (V1.heap.size + 3) l 16 80 G j (by omega) hG9 hs2 (by omega)
                have hwb := wiN_bound (n := n) hlen2
                generalize ha8 : Act.mk _ _ = a8
                refine range_oneN (n := 6) hl3 (by omega) (gf := 60) (lb := #[.pointer (some ⟨V1.heap.size + 3, 0, none⟩)]) ?hop3 (enters_of Tryz.func60 (by kernel_rfl) rfl) hOT3 (fun _ => rfl)
                  (fun o8 a x a' Y => a' = { tmps := (a.tmps.setIfInBounds 222 (.int .i64 (x.1 : Int))).setIfInBounds 223 x.2.val, defers := [] })
                  ?hAx3
                  (fun o8 t Y => t ≤ hs2.length ∧ R2 V2 Y V.heap.size o7 nn (wiN n hs2.length + (t : Int)) ∧ Keeps X3 Y (fun q => q = V.heap.size + 1) ∧ ∀ q, o8 = some q → X3.heap.size + 1 ≤ q ∧ q < Y.heap.size)
                  (fun _ _ => False)
                  ?hR3 ?hlt3 ?hI3 ?hIp3 ?hXp3 ?h03 ?hassign3 ?hbody3 ?hdone3 ?hstop3
                case hop3 => subst ha8; rfl
                case hAx3 =>
                  intro o8 x a' Y r8 y h hL
                  exact h
                case hR3 =>
                  rintro o8 t Y ⟨-, h, -⟩
                  exact HRx.out Y o7 _ _ t h
                case hlt3 =>
                  rintro o8 t Y ⟨-, -, -, h⟩ q e
                  exact (h q e).2
                case hI3 =>
                  rintro o8 t Y Y' ⟨h1, h2, h3, h4⟩ kk
                  exact ⟨h1, h2.stay kk, h3.trans kk (fun _ _ e => e.elim), fun q e => ⟨(h4 q e).1, Nat.lt_of_lt_of_le (h4 q e).2 kk.size⟩⟩
                case hIp3 =>
                  rintro o8 t Y r8 y ⟨h1, h2, h3, h4⟩ hL
                  have kp : Keeps Y (Y.putObj X3.heap.size y) (fun q => q = X3.heap.size) := keeps_putX (X := fun q => q = X3.heap.size) rfl y
                  exact ⟨h1, h2.put hVz (Nat.le_of_lt hz3) y, h3.trans kp (fun q hq e => by omega), fun q e => ⟨(h4 q e).1, Nat.lt_of_lt_of_le (h4 q e).2 kp.size⟩⟩
                case hXp3 =>
                  intro c8 Y r8 y h hL
                  exact h
                case h03 =>
                  intro o8 Y r8 kk hl8 hb
                  refine ⟨Nat.zero_le _, ?_, kk.mono (fun _ _ e => e.elim), fun q e => ⟨(hb q e).1, (hb q e).2⟩⟩
                  rw [show wiN n hs2.length + ((0 : Nat) : Int) = wiN n hs2.length from by simp]
                  exact H3.out.stay kk
                case hstop3 =>
                  intro c8 Y h
                  exact h.elim
                case hassign3 =>
                  rintro o8 ⟨i, gc⟩ t Y K' hI' hK'
                  have hK2 := hide hK'
                  clear hK' hI' hOT3
                  subst ha8
                  repeat (first | ((with_reducible refine region_out ?_ ?_ ?_); kernel_rfl; exact (fun ⟨_, _, h⟩ => h); go_wp2_with fail) | ((fail_if_success (with_reducible refine region_in (S := fun _ => True) ?_ ?_ ?_ ?_ ?_)); gi_step))
                  refine hK2.out _ _ (Keeps.refl _ _) ?_
                  first | rfl | kernel_rfl | (simp; done)
                case hdone3 =>
                  rintro o8 t Y rfl ⟨h1, h2, h3, h4⟩
                  subst ha8
                  have e1 : ((n + 1 : Nat) : Int) = nn := by
                    have := Hnn.out
                    omega
                  repeat (first | ((with_reducible refine region_out ?_ ?_ ?_); kernel_rfl; exact (fun ⟨_, _, h⟩ => h); go_wp2_with fail) | ((fail_if_success (with_reducible refine region_in (S := fun _ => True) ?_ ?_ ?_ ?_ ?_)); gi_step))
                  refine ⟨fun q e => (h3.block q ?_ ?_).trans (hKs.out q (H.out.ob q e).2 ?_), fun k e => (h3.block k ?_ ?_).trans (hKs.out k ?_ ?_), n + 1, rfl, hsn, ?_⟩
                  · have := H3.out.ob q e
                    omega
                  · have := H3.out.ob q e
                    omega
                  · have := H3.out.ob q e
                    omega
                  · omega
                  · omega
                  · rcases e with e | e
                    · rw [e]
                      exact heap_lt H.out.d
                    · rw [e]
                      exact heap_lt Hl.out
                  · omega
                  · rw [e1, wiN_lt hn3]
                    exact h2
                case hbody3 =>
                  rintro o8 x t a' Y ⟨r8, hl8⟩ ⟨h1, h2, h3, h4⟩ rfl hx
                  have hst : t + 1 ≤ hs2.length := (List.getElem?_eq_some_iff.1 hx).1
                  obtain ⟨wv, hwv⟩ : ∃ wv : Int, wiN n hs2.length + (t : Int) = wv := ⟨_, rfl⟩
                  have hwr := wr_int (x := wv) (by omega) (by omega)
                  rw [hwv] at h2
                  obtain ⟨p1, p2⟩ := Ct.one_cell h2.i
                  have hfi : Hid (OnePostN o8 X3.heap.size (fun o8 t Y => t ≤ hs2.length ∧ R2 V2 Y V.heap.size o7 nn (wiN n hs2.length + (t : Int)) ∧ Keeps X3 Y (fun q => q = V.heap.size + 1) ∧ ∀ q, o8 = some q → X3.heap.size + 1 ≤ q ∧ q < Y.heap.size) (fun _ _ => False) (fun s' => s' = t + 1) Y .normal { tmps := #[], defers := [] } (Y.setCell ⟨V.heap.size + 1, 0, none⟩ (.int .i64 (wv + 1)))) := by
                    obtain ⟨q1, q2, q3⟩ := h2.step hVz h3 (wv + 1)
                    have hz := q2.size
                    refine ⟨fun q e => (q3 q (by have := h4 q e; omega) (h4 q e).2).1, (q3 _ (by omega) (heap_lt hl8)).1, t + 1, rfl, hst, ?_, q2, fun q e => ⟨(h4 q e).1, ?_⟩⟩
                    · rw [show wiN n hs2.length + ((t + 1 : Nat) : Int) = wv + 1 from by omega]
                      exact q1
                    · exact Nat.lt_of_lt_of_le (h4 q e).2 (q3 _ (by omega) (heap_lt hl8)).2
                  obtain ⟨wr1, wr2⟩ := hwr
                  clear h2 h3 h4 hx hl8 hwv hOT3 hwb
                  subst ha8
                  dsimp only
                  simp only [List.setIfInBounds_toArray, List.set_cons_zero, List.set_cons_succ]
                  repeat (first | ((with_reducible refine region_out ?_ ?_ ?_); kernel_rfl; exact (fun ⟨_, _, h⟩ => h); go_wp2_with fail) | ((fail_if_success (with_reducible refine region_in (S := fun _ => True) ?_ ?_ ?_ ?_ ?_)); gi_step))
                  exact hfi.out
              · have hn3' : ¬ nn < 3 := by omega
                obtain ⟨wn1, wn2⟩ := wr_succ hn5
                rw [hnn] at wn1 wn2
                have wn3 : wrap64 ((n : Int) + 1) = nn := by rw [hnn]; exact wn1
                have wn4 : IntKind.i64.wrap ((n : Int) + 1) = nn := by rw [hnn]; exact wn2
                have Hnn := hide hnn
                clear hn5 wn1 wn2 hnn
                go_wp2_with fail
                repeat (first | ((with_reducible refine region_out ?_ ?_ ?_); kernel_rfl; exact (fun ⟨_, _, h⟩ => h); go_wp2_with fail) | ((fail_if_success (with_reducible refine region_in (S := fun _ => True) ?_ ?_ ?_ ?_ ?_)); gi_step))
                clear wn3 wn4 p1 p2 p3 p4 hn3' b0 b1 b2 b3 b4
                have e1 : ((n + 1 : Nat) : Int) = nn := by
                  have := Hnn.out
                  omega
                refine ⟨fun q e => hKs.out q (H.out.ob q e).2 (by have := (H.out.ob q e).1; omega), fun k e => hKs.out k ?_ (by omega), n + 1, rfl, hsn, ?_⟩
                · rcases e with e | e
                  · rw [e]
                    exact heap_lt H.out.d
                  · rw [e]
                    exact heap_lt Hl.out
                · rw [e1, wiN_ge (by omega)]
                  exact H3.out
end tableRanges
end Go.Proofs.YtmdnknbolgedgaaGreatDoor
