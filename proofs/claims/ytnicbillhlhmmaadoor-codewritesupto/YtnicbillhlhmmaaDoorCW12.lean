/-
  code: Assemble.
-/
import Derived.Test.YtnicbillhlhmmaaDoorCW11
import Derived.Deep.RegionWith
namespace Go.Proofs.YtnicbillhlhmmaaDoor
namespace Cw
open Go.RowKit
set_option linter.unusedVariables false
theorem cd_set3 {w : World} {g : Nat} {v m : Int} {sl : Value} (h : CdB w g v m sl) {x y : Int} {z : Value} {P : World → Prop} (hP : ∀ W, CdB W g x y z → Keeps w W (fun i => i = g) → P W) : P (((w.setCell ⟨g, 0, none⟩ (.int .i64 x)).setCell ⟨g, 1, none⟩ (.int .i64 y)).setCell ⟨g, 2, none⟩ z) :=
  hP _ (((h.set0 x).set1 y).set2 z) ((((Keeps.refl w (fun i => i = g)).setCell _ (fun _ => rfl) _).setCell _ (fun _ => rfl) _).setCell _ (fun _ => rfl) _)
/-- What Assemble answers. -/
def AsmP (w : World) (o : Sum Cd Nat) (e : Ending) (w' : World) : Prop :=
  Keeps w w' (fun _ => False) ∧ (match o with
    | .inl c => ∃ sl, e = .returned (.tuple #[cdV c.v c.m sl, .int .i64 0, .int .i64 0]) ∧ w'.ownsRow w.heap.size 36 3 sl c.is.length (flatI c.is)
    | .inr k => e = .returned (.tuple #[cdV 0 0 (.slice none 0 0), .int .i64 (k : Nat), .int .i64 241]))
/-- A call of a function's value with three arguments, as one step of a drawn region. -/
theorem step_call3 {P : Program} {w : World} {ops : Array Oper} {o : Oper} {a : Act} {K : Act → World → Prop} {Q : Exit → Act → World → Prop} {E : Prop} (hgd : o.guard = none) (f : FuncId) (fo x y z : Operand) (tys : Array TypeId)
    (ho : o.op = .call { callee := .value fo, args := #[x, y, z], argTypes := tys }) (hcf : ∀ vs, (callFunc f vs).run P w = .ok (.enter f vs) w) (hfo : a.eval fo = .func (.func f) #[] #[]) {vx vy vz : Value} (hx : a.eval x = vx) (hy : a.eval y = vy) (hz : a.eval z = vz) {R : Ending → World → Prop} (hc : Calls P f #[vx, vy, vz] w R)
    (h : ∀ e w', R e w' → ∃ v, e = .returned v ∧ K (a.put o.dst v) w') : if Region.wanted o (yielded ops a.tmps) = true then Oper.wp P o a w K Q else E := by
  have hw : Region.wanted o (yielded ops a.tmps) = true := by simp [Region.wanted, hgd]
  rw [if_pos hw]
  have e : (execOp a.eval o).run P w = .ok (.enter f #[vx, vy, vz]) w := by
    simp only [execOp, ho, resolve, invoke, Sem.run_bind, List.map_toArray, List.map_cons, List.map_nil, hx, hy, hz, hfo]
    simp [go_sem]
    exact hcf _
  unfold Oper.wp
  rw [e, Oper.upon_enter]
  refine hc.mono fun e w' he => ?_
  obtain ⟨v, rfl, hk⟩ := h e w' he
  exact hk
theorem cf_readInst (w : World) (vs : Array Value) : (callFunc 21 vs).run Tryd.prog w = .ok (.enter 21 vs) w := by
  unfold callFunc
  simp [Tryd.func21, go_sem]
  try rfl
theorem cf_readHead (w : World) (vs : Array Value) : (callFunc 22 vs).run Tryd.prog w = .ok (.enter 22 vs) w := by
  unfold callFunc
  simp [Tryd.func22, go_sem]
  try rfl
theorem own_form {W : World} {base size n : Nat} {e : TypeId} {v : Value} {xs : List Value} (h : W.ownsRow base e size v n xs) : ∃ p l c, v = .slice p l c := by
  rcases h.2 with ⟨h2, -⟩ | ⟨g, cap, cur, e1, -⟩
  · exact ⟨_, _, _, h2⟩
  · exact ⟨_, _, _, e1⟩
theorem lines_few (t : Bs) : (linesD t).length ≤ t.length + 1 := by
  have := cut_size t
  unfold linesD
  split
  · omega
  · rw [List.length_append, List.length_singleton]
    omega
set_option maxRecDepth 100000 in
set_option maxHeartbeats 2000000 in
theorem asm_big (t : Bs) (w : World) (hbig : t.length > 1048576) : Calls Tryd.prog 9 #[.string (sB t)] w fun e w' => AsmP w (asmD t) e w' := by
  have hR : asmD t = .inr 0 := by unfold asmD; rw [if_pos hbig]
  rw [hR]
  have hs : (sB t).size > 1048576 := hbig
  have hs' : ((sB t).size : Int) > 1048576 := by omega
  clear hbig hR
  generalize sB t = st at *
  go_enter Tryd.func9, Tryd.ntmps9
  go_wp2_with fail
  obtain ⟨t0, t1, t2⟩ := cells3 (heap_alloc_new w (.cells #[.int .i64 0, .int .i64 0, .slice none 0 0] 24))
  refine bodyPost_ret (v := .tuple #[cdV 0 0 (.slice none 0 0), .int .i64 0, .int .i64 241]) (by simp [results, Tryd.results9, go_sem, t0, t1, t2, cdV]) rfl ?_
  exact ⟨(Keeps.refl _ _).alloc _, rfl⟩
theorem words_few (l : Bs) : (wdsD l).length ≤ l.length := by
  rw [words_fields]
  exact Nat.le_trans (List.takeWhile_prefix _).length_le (fields_few l)
set_option maxRecDepth 100000 in
set_option maxHeartbeats 4000000 in
theorem asm_small (t : Bs) (w : World) (hF : FormsAt w) (he : ErrW w) (hsm : t.length ≤ 1048576) : Calls Tryd.prog 9 #[.string (sB t)] w fun e w' => AsmP w (asmD t) e w' := by
  obtain ⟨R, hR⟩ : ∃ R, asmD t = R := ⟨_, rfl⟩
  rw [hR]
  unfold asmD at hR
  rw [if_neg (by omega)] at hR
  have hs' : ((sB t).size : Int) ≤ 1048576 := by show ((t.length : Nat) : Int) ≤ 1048576; omega
  obtain ⟨W2, hW2⟩ : ∃ W2, W2 = (w.alloc (.cells #[.int .i64 0, .int .i64 0, .slice none 0 0] 24)).alloc (.cells #[.int .i64 0, .int .i64 0, .slice none 0 0] 24) := ⟨_, rfl⟩
  have kW2 : Keeps w W2 (fun _ => False) := by rw [hW2]; exact ((Keeps.refl _ _).alloc _).alloc _
  have hres : CdB W2 w.heap.size 0 0 (.slice none 0 0) := by
    rw [hW2]
    exact (((Keeps.refl (w.alloc (.cells #[.int .i64 0, .int .i64 0, .slice none 0 0] 24)) (fun _ => False)).alloc _).block _ (heap_lt (heap_alloc_new w _)) id).trans (heap_alloc_new w _)
  have hcd : CdB W2 (w.heap.size + 1) 0 0 (.slice none 0 0) := by
    rw [hW2]
    have := heap_alloc_new (w.alloc (.cells #[.int .i64 0, .int .i64 0, .slice none 0 0] 24)) (.cells #[.int .i64 0, .int .i64 0, .slice none 0 0] 24)
    rw [show (w.alloc (.cells #[.int .i64 0, .int .i64 0, .slice none 0 0] 24)).heap.size = w.heap.size + 1 by simp] at this
    exact this
  have hL := linesOf_any t (by omega) W2 (he.keeps kW2)
  have hwl : (linesD t).length ≤ 8388608 := by have := lines_few t; omega
  have hll : ∀ l, l ∈ linesD t → l.length ≤ 8388608 := fun l hl => by have := line_small hl; omega
  generalize linesD t = L at *
  have Hw := hide (And.intro kW2 (And.intro hres (And.intro hcd (And.intro hF (And.intro he (And.intro hll hR))))))
  clear kW2 hres hcd hF he hsm hR hll
  generalize sB t = st at *
  go_enter Tryd.func9, Tryd.ntmps9
  go_wp2_with fail
  rw [← hW2]
  clear hW2
  refine hL.mono ?_
  rintro e W5 ⟨r, rfl, ⟨hs, -⟩, k5⟩
  obtain ⟨p, cc, rfl, -⟩ := id hs
  obtain ⟨base, hbase⟩ : ∃ base, W5.heap.size = base := ⟨_, rfl⟩
  obtain ⟨b, hb⟩ : ∃ b, w.heap.size + 1 = b := ⟨_, rfl⟩
  obtain ⟨g, hg⟩ : ∃ g, w.heap.size = g := ⟨_, rfl⟩
  rw [hb]
  have hsz2 : b < W5.heap.size := Nat.lt_of_lt_of_le (by rw [← hb]; exact heap_lt Hw.out.2.2.1) k5.size
  have HG : Hid (b < base ∧ w.heap.size + 1 = b ∧ CdR base b ⟨0, 0, []⟩ W5 ∧ ∀ wr, Keeps W5 wr (fun i => i = b ∨ base ≤ i) → (Keeps w wr (fun _ => False) ∧ CdB wr w.heap.size 0 0 (.slice none 0 0) ∧ StrV wr (.slice p L.length cc) L ∧ ErrW wr ∧ FormsAt wr ∧ base ≤ wr.heap.size)) := by
    obtain ⟨kW2, hres, hcd, hF, he, hll, hR⟩ := Hw.out
    rw [hb] at hcd
    have hcd5 : CdB W5 b 0 0 (.slice none 0 0) := (k5.block b (heap_lt hcd) id).trans hcd
    have hres5 : CdB W5 w.heap.size 0 0 (.slice none 0 0) := (k5.block _ (heap_lt hres) id).trans hres
    refine ⟨by omega, hb, ⟨_, hcd5, rfl, Or.inl ⟨rfl, rfl⟩⟩, fun wr k => ?_⟩
    have kw : Keeps w wr (fun _ => False) := (kW2.trans k5 (fun _ _ e => e)).trans k (fun q hq e => by rcases e with e | e <;> omega)
    exact ⟨kw, (k.block _ (heap_lt hres5) (fun e => by rcases e with e | e <;> omega)).trans hres5, hs.keepsX hcd5 ⟨_, _, _, rfl⟩ (by omega) k, he.keeps kw, hF.keeps kw, by have := k.size; omega⟩
  have HR0 := hide Hw.out.2.2.2.2.2.2
  have Hll := hide Hw.out.2.2.2.2.2.1
  clear hL hs k5 hsz2 Hw hbase hb
  rw [hg]
  rw [hg] at HG
  go_wp2_with fail
  go_loopw [6, 8, 9, 10, 11, 20] (fun v6 v8 v9 v10 v11 v20 wr => ∃ (i : Nat) (bg : Bool) (c : Cd), v20 = .int .i64 (i : Int) ∧ v6 = .bool bg ∧ i ≤ L.length ∧ Hid (CdR base b c wr ∧ Keeps W5 wr (fun i => i = b ∨ base ≤ i) ∧ R = asmL bg c i (L.drop i) ∧ c.is.length ≤ i)) (fun _ _ _ _ _ v20 _ => L.length - (intOf v20).toNat)
  case atStart => exact ⟨0, false, ⟨0, 0, []⟩, rfl, rfl, Nat.zero_le _, HG.out.2.2.1, Keeps.refl _ _, by rw [List.drop_zero]; exact HR0.out.symm, Nat.le_refl _⟩
  case round =>
    obtain ⟨i, bg, c, rfl, rfl, hi, HR⟩ := hrel
    have hi' : (i : Int) ≤ (L.length : Int) := by omega
    by_cases hlt : i < L.length
    · have hlt' : (i : Int) < (L.length : Int) := by omega
      have Hm : Hid (L.length - (i + 1) < L.length - i) := sub_down hlt
      have Hle : Hid (i + 1 ≤ L.length) := hlt
      obtain ⟨r1, r2, r3, r4⟩ := HR.out
      obtain ⟨kw, hres, hst, he, hF, hbs⟩ := HG.out.2.2.2 wr r2
      obtain ⟨sn, sc⟩ := asm_step hlt r3
      have hsz := Hll.out _ (List.getElem_mem hlt)
      have hWd := wordsOf_any L[i] hsz wr
      have hwsm : ∀ x, x ∈ wdsD L[i] → x.length ≤ 8388608 := fun x hx => Nat.le_trans (word_small hx) hsz
      have hwl2 : (wdsD L[i]).length ≤ 8388608 := Nat.le_trans (words_few L[i]) hsz
      obtain ⟨p', c', hve, hvc⟩ := hst
      injection hve with hp hn' hc'
      subst hp
      obtain ⟨g', o', rfl, d0⟩ := hvc i hlt
      have HX := hide (And.intro r1 (And.intro r2 (And.intro r4 (And.intro he (And.intro hF (And.intro hbs (And.intro sn (And.intro sc (And.intro hwsm hwl2)))))))))
      clear r1 r2 r3 r4 kw hres he hF hbs sn sc hsz hwsm hwl2 hvc hn' hc' HR
      generalize L[i] = l at *
      generalize sB l = sl at *
      go_wp2_with fail
      (with_reducible refine hWd.mono ?_)
      rintro e w1 ⟨rv, rfl, ⟨hs1, hc1⟩, k1⟩
      have K1 := hide k1
      clear hWd k1
      obtain ⟨r1, r2, r4, he, hF, hbs, sn, sc, hwsm, hwl2⟩ := HX.out
      cases hws : wdsD l with
      | nil =>
        rw [hws] at hs1
        have HN : Hid (CdR base b c w1 ∧ Keeps W5 w1 (fun i => i = b ∨ base ≤ i) ∧ R = asmL bg c (i + 1) (L.drop (i + 1)) ∧ c.is.length ≤ i + 1) := ⟨r1.keeps K1.out, r2.trans (keepsX K1.out) (fun _ _ e => e), sn hws, by omega⟩
        obtain ⟨p2, c2, rfl, -⟩ := hs1
        clear r1 r2 r4 he hF hbs sn sc hwsm hwl2 hws HX hc1
        go_wp2_with fail
        go_roundw
        case rel => exact ⟨i + 1, bg, c, by go_num, rfl, Hle.out, HN⟩
        case measure => simp [intOf]; exact Hm.out
      | cons word fs =>
        rw [hws] at hs1 hwsm hwl2
        obtain ⟨g2, o2, n2, fv, rfl, hcell, hcut, hfs⟩ := str_cut hs1 hc1
        obtain ⟨st1, st2⟩ := sc word fs hws
        have HK : Hid (Keeps W5 w1 (fun i => i = b ∨ base ≤ i)) := r2.trans (keepsX K1.out) (fun _ _ e => e)
        have Hcl := hide r4
        have r1' := r1.keeps K1.out
        have he1 := he.keeps K1.out
        have hF1 := hF.keeps K1.out
        have hsm2 : ∀ x, x ∈ fs → x.length ≤ 8388608 := fun x hx => hwsm x (List.mem_cons_of_mem _ hx)
        have hl2 : fs.length ≤ 8388608 := by rw [List.length_cons] at hwl2; omega
        have hbs1 : base ≤ w1.heap.size := Nat.le_trans hbs K1.out.size
        have hcn : c.is.length ≤ 8388608 := by omega
        obtain ⟨nn, hnn⟩ : ∃ nn, fs.length + 1 = nn := ⟨_, rfl⟩
        have hfl : ((nn : Nat) : Int) ≤ 8388609 := by omega
        have hf0 : 0 < nn := by omega
        have hfz : (((nn : Nat) : Int) == 0) = false := by simp; omega
        rw [hnn] at hcut hs1 hc1 ⊢
        clear hnn
        cases bg with
        | true =>
          have hC := readInst_any base b HG.out.1 c word fv fs w1.drew hF1 (he1.keeps (Keeps.refl _ _).drew) r1' hbs1 hcn hfs hsm2 hl2
          clear r1 r2 r4 he hF hbs sn sc hwsm hwl2 hws HX hc1 hs1 r1' he1 hF1 hsm2 hl2 hbs1 hcn hfs
          generalize sB word = sw at *
          cases hr : rdD true c word fs with
          | none =>
            rw [hr] at hC
            have HE := hide (st1 hr)
            clear hr st1 st2
            go_wp2_with fail
            go_region_law (refine step_call3 (by rfl) 21 _ _ _ _ _ (by rfl) (cf_readInst _) (by rfl) (by rfl) (by rfl) (by rfl) hC ?_; rintro e w2 ⟨k2, rfl⟩; refine ⟨_, rfl, ?_⟩)
            all_goals (
              have k5' : Keeps W5 w2 (fun i => i = b ∨ base ≤ i) := HK.out.drew.trans k2 (fun _ _ e => e)
              obtain ⟨kw, hres, -⟩ := HG.out.2.2.2 w2 k5'
              obtain ⟨⟨c0, c1, c2⟩, f0, f1, f2⟩ := hres.cells
              have HQ := hide (And.intro kw hres)
              clear k2 k5' kw hres hC
              go_wp2_with fail
              refine cd_set3 (P := fun W => bodyPost _ _ _ _ _ W) HQ.out.2 fun W6 h6 k6 => ?_
              obtain ⟨⟨t0, t1, t2⟩, -⟩ := h6.cells
              refine bodyPost_ret (v := .tuple #[cdV 0 0 (.slice none 0 0), .int .i64 ((i : Int) + 1), .int .i64 241]) (by simp [results, Tryd.results9, go_sem, t0, t1, t2, cdV]) rfl ?_
              rw [HE.out]
              exact ⟨HQ.out.1.trans k6 (fun q hq e => by omega), rfl⟩)
          | some c' =>
            rw [hr] at hC
            have HE := hide (And.intro (st2 c' hr) (rdD_len hr))
            clear hr st1 st2
            go_wp2_with fail
            go_region_law (refine step_call3 (by rfl) 21 _ _ _ _ _ (by rfl) (cf_readInst _) (by rfl) (by rfl) (by rfl) (by rfl) hC ?_; rintro e w2 ⟨k2, rfl, r2'⟩; refine ⟨_, rfl, ?_⟩)
            all_goals (
              have HN : Hid (CdR base b c' w2 ∧ Keeps W5 w2 (fun i => i = b ∨ base ≤ i) ∧ R = asmL true c' (i + 1) (L.drop (i + 1)) ∧ c'.is.length ≤ i + 1) := ⟨r2', HK.out.drew.trans k2 (fun _ _ e => e), HE.out.1, by have h1 := HE.out.2; have h2 := Hcl.out; omega⟩
              clear k2 r2' hC
              go_wp2_with fail
              go_roundw
              case rel => exact ⟨i + 1, true, c', by go_num, rfl, Hle.out, HN⟩
              case measure => simp [intOf]; exact Hm.out)
        | false =>
          have hC := readHead_any base b HG.out.1 c word fv fs w1.drew (he1.keeps (Keeps.refl _ _).drew) r1' hfs hsm2 hl2
          clear r1 r2 r4 he hF hbs sn sc hwsm hwl2 hws HX hc1 hs1 r1' he1 hF1 hsm2 hl2 hbs1 hcn hfs
          generalize sB word = sw at *
          cases hr : rdD false c word fs with
          | none =>
            rw [hr] at hC
            have HE := hide (st1 hr)
            clear hr st1 st2
            go_wp2_with fail
            go_region_law (refine step_call3 (by rfl) 22 _ _ _ _ _ (by rfl) (cf_readHead _) (by rfl) (by rfl) (by rfl) (by rfl) hC ?_; rintro e w2 ⟨k2, rfl⟩; refine ⟨_, rfl, ?_⟩)
            all_goals (
              have k5' : Keeps W5 w2 (fun i => i = b ∨ base ≤ i) := HK.out.drew.trans k2 (fun _ _ e => e)
              obtain ⟨kw, hres, -⟩ := HG.out.2.2.2 w2 k5'
              obtain ⟨⟨c0, c1, c2⟩, f0, f1, f2⟩ := hres.cells
              have HQ := hide (And.intro kw hres)
              clear k2 k5' kw hres hC
              go_wp2_with fail
              refine cd_set3 (P := fun W => bodyPost _ _ _ _ _ W) HQ.out.2 fun W6 h6 k6 => ?_
              obtain ⟨⟨t0, t1, t2⟩, -⟩ := h6.cells
              refine bodyPost_ret (v := .tuple #[cdV 0 0 (.slice none 0 0), .int .i64 ((i : Int) + 1), .int .i64 241]) (by simp [results, Tryd.results9, go_sem, t0, t1, t2, cdV]) rfl ?_
              rw [HE.out]
              exact ⟨HQ.out.1.trans k6 (fun q hq e => by omega), rfl⟩)
          | some c' =>
            rw [hr] at hC
            have HE := hide (And.intro (st2 c' hr) (rdD_len hr))
            clear hr st1 st2
            go_wp2_with fail
            go_region_law (refine step_call3 (by rfl) 22 _ _ _ _ _ (by rfl) (cf_readHead _) (by rfl) (by rfl) (by rfl) (by rfl) hC ?_; rintro e w2 ⟨k2, rfl, r2'⟩; refine ⟨_, rfl, ?_⟩)
            all_goals (
              have HN : Hid (CdR base b c' w2 ∧ Keeps W5 w2 (fun i => i = b ∨ base ≤ i) ∧ R = asmL true c' (i + 1) (L.drop (i + 1)) ∧ c'.is.length ≤ i + 1) := ⟨r2', HK.out.drew.trans k2 (fun _ _ e => e), HE.out.1, by have h1 := HE.out.2; have h2 := Hcl.out; omega⟩
              clear k2 r2' hC
              go_wp2_with fail
              go_roundw
              case rel => exact ⟨i + 1, true, c', by go_num, rfl, Hle.out, HN⟩
              case measure => simp [intOf]; exact Hm.out)
    · obtain rfl : i = L.length := by omega
      have hE := asm_end (Nat.le_refl _) HR.out.2.2.1
      obtain ⟨r1, r2, r3, r4⟩ := HR.out
      obtain ⟨kw, hres, hst, he, hF, hbs⟩ := HG.out.2.2.2 wr r2
      obtain ⟨⟨c0, c1, c2⟩, f0, f1, f2⟩ := hres.cells
      cases bg with
      | true =>
        rw [if_pos rfl] at hE
        subst hE
        obtain ⟨sl, q1, q2⟩ := r1
        obtain ⟨p2, l2, n2, rfl⟩ := own_form q2
        obtain ⟨⟨d0, d1, d2⟩, -⟩ := q1.cells
        have HQ := hide (And.intro kw (And.intro hres (And.intro q2 HG.out.1)))
        clear r2 r3 r4 kw hres hst he hF hbs q1 q2 HR
        go_wp2_with fail
        refine cd_set3 (P := fun W => bodyPost _ _ _ _ _ W) HQ.out.2.1 fun W6 h6 k6 => ?_
        obtain ⟨⟨t0, t1, t2⟩, -⟩ := h6.cells
        refine bodyPost_ret (v := .tuple #[cdV c.v c.m (.slice p2 l2 n2), .int .i64 0, .int .i64 0]) (by simp [results, Tryd.results9, go_sem, t0, t1, t2, cdV]) rfl ?_
        obtain ⟨kw, -, q2, hbb⟩ := HQ.out
        have hgb := HG.out.2.1
        refine ⟨kw.trans k6 (fun q hq e => by omega), _, rfl, own_mono (ownsRow_keeps q2 k6 (fun q eq e => ?_)) (by omega)⟩
        have := (ownsRow_block q2 eq).1
        omega
      | false =>
        rw [if_neg (by decide)] at hE
        subst hE
        have HQ := hide (And.intro kw hres)
        clear r1 r2 r3 r4 kw hres hst he hF hbs HR
        go_wp2_with fail
        refine cd_set3 (P := fun W => bodyPost _ _ _ _ _ W) HQ.out.2 fun W6 h6 k6 => ?_
        obtain ⟨⟨t0, t1, t2⟩, -⟩ := h6.cells
        refine bodyPost_ret (v := .tuple #[cdV 0 0 (.slice none 0 0), .int .i64 ((L.length : Int) + 1), .int .i64 241]) (by simp [results, Tryd.results9, go_sem, t0, t1, t2, cdV]) rfl ?_
        exact ⟨HQ.out.1.trans k6 (fun q hq e => by omega), rfl⟩
theorem assemble_any (t : Bs) (w : World) (hF : FormsAt w) (he : ErrW w) : Calls Tryd.prog 9 #[.string (sB t)] w fun e w' => AsmP w (asmD t) e w' := by
  by_cases h : t.length > 1048576
  · exact asm_big t w h
  · exact asm_small t w hF he (by omega)
end Cw
end Go.Proofs.YtnicbillhlhmmaaDoor
