import Derived.Deep.LoopGhost
import Derived.Deep.RegionLaw
import Derived.Deep.RegionHeld3
import Derived.Test.YtlpfnikhnchpdaaDoorLn6
/-
  lang: block.
-/
namespace Go.Proofs.YtlpfnikhnchpdaaDoor
namespace Lg
open Go.RowKit
set_option linter.unusedVariables false
theorem StsR.own_lt {W : World} {base : Nat} {v : Value} {l : List St} (h : StsR W base v l) {i : Nat} (hv : v.ownBlock = some i) : base ≤ i ∧ i < W.heap.size := by
  obtain ⟨xs, own, hx⟩ := h
  rcases own.2 with ⟨rfl, hn⟩ | ⟨g, cap, cur, rfl, hb, hg, r⟩
  · cases hv
  · have e : g = i := by simpa [Value.ownBlock] using hv
    exact e ▸ ⟨hb, heap_lt hg⟩
theorem StsR.nil (W : World) (base : Nat) : StsR W base (.slice none 0 0) [] := ⟨[], ⟨rfl, Or.inl ⟨rfl, rfl⟩⟩, .nil⟩
theorem infoSt : (Tryd.prog.info? 49).map (fun i => (i.zero, i.size, i.bytes)) = some (some (.agg #[.int .i64 0, .string ⟨#[]⟩, .string ⟨#[]⟩, .string ⟨#[]⟩, .slice none 0 0, .slice none 0 0, .slice none 0 0]), 7, 128) := by kernel_rfl
theorem one7 {a : Int} {r s t : ByteArray} {p p2 p3 : Option Addr} {m c m2 c2 m3 c3 : Nat} : ∀ u ∈ [Value.int .i64 a, .string r, .string s, .string t, .slice p m c, .slice p2 m2 c2, .slice p3 m3 c3], u.oneCell' = true := by
  intro u hu
  simp only [List.mem_cons, List.not_mem_nil, or_false] at hu
  rcases hu with rfl | rfl | rfl | rfl | rfl | rfl | rfl <;> rfl
/-- block's loop. -/
def BkL (w : World) (b : Nat) (T : Bs) (R : Rs (List St)) (n m : Nat) (v : Value) (l : List St) (ts : List Tk) (W : World) : Prop :=
  manyD m l ts = R ∧ l.length + m ≤ n ∧ RAt W b T ts ∧ Ev W b T ∧ Keeps w W (fun i => i = b) ∧ StsR W w.heap.size v l
theorem StsR.step {w w5 : World} {v : Value} {l : List St} {y : St} (hL5 : StsR w5 w.heap.size v l) {k : Int} {nm ky vl : Bs} {ep : Option Addr} {em ec : Nat} {bp : Option Addr} {bm bc : Nat} {lp : Option Addr} {lm lc : Nat} {P : Nat → Prop}
    (hy : StC w5 P y [.int .i64 k, .string (sB nm), .string (sB ky), .string (sB vl), .slice ep em ec, .slice bp bm bc, .slice lp lm lc]) (hP : ∀ i, P i → w.heap.size ≤ i ∧ v.ownBlock ≠ some i) (hn : l.length + 1 ≤ 1073741825) (hw : w.heap.size ≤ w5.heap.size) :
    ∃ g2 c2 W6, (∀ ty, (Builtin.append_ #[23, 23] ty #[v, .slice (some ⟨w5.heap.size, 0, none⟩) 1 1]).run Tryd.prog (w5.alloc (.cells #[.int .i64 k, .string (sB nm), .string (sB ky), .string (sB vl), .slice ep em ec, .slice bp bm bc, .slice lp lm lc] 49)) = .ok (.slice (some ⟨g2, 0, none⟩) (l.length + 1) c2) W6) ∧
      StsR W6 w.heap.size (.slice (some ⟨g2, 0, none⟩) (l.length + 1) c2) (l ++ [y]) ∧ Keeps w5 W6 (fun i => v.ownBlock = some i) := by
  have kA := (Keeps.refl w5 (fun _ => False)).alloc (.cells #[.int .i64 k, .string (sB nm), .string (sB ky), .string (sB vl), .slice ep em ec, .slice bp bm bc, .slice lp lm lc] 49)
  have hsA := kA.size
  obtain ⟨xs, own, hxs⟩ := hL5.keeps kA (fun _ _ q => q)
  have hyA := (hy.keeps kA (fun _ _ q => q)).mono hP
  obtain ⟨g2, c2, W6, hap, own6, k6, hl6⟩ := append_row 23 49 _ 7 128 Tryd.underlying23 infoSt rfl (by decide) own (heap_alloc_new w5 _) (us := [.int .i64 k, .string (sB nm), .string (sB ky), .string (sB vl), .slice ep em ec, .slice bp bm bc, .slice lp lm lc]) rfl one7 (by omega) (by omega) (by omega)
  exact ⟨g2, c2, W6, hap, StsR.more rfl (by simp) hxs hyA own6 k6 hl6, (kA.mono (fun _ _ q => q.elim)).trans k6 (fun _ _ q => q)⟩

set_option maxRecDepth 100000 in
set_option maxHeartbeats 4000000 in
theorem block_step {b : Nat} {T : Bs} {n : Nat} (hn9 : n ≤ 1073741824) (hS : ∀ m, m ≤ n → ReadsG 67 #[.pointer (some ⟨b, 0, none⟩)] b T (stmtD m) StG) : ReadsG 91 #[.pointer (some ⟨b, 0, none⟩)] b T (blockD (n + 1)) StsG := by
  intro w ts h E hD
  have hbw := hide h.lt
  have HSt := hide hS
  have Hn := hide hn9
  have HI := hide (And.intro h E)
  clear h E hS hn9
  obtain ⟨R, hR⟩ : ∃ R, blockD (n + 1) ts = R := ⟨_, rfl⟩
  have HR : Hid (R = (mustD kLc ts).bind fun _ ts2 => manyD n [] ts2) := hide (by rw [← hR, blockD])
  rw [hR] at hD ⊢
  have HRo := hide hD
  generalize hQ : Part w b T R (StsG w.heap.size) = Q
  replace hQ := hide hQ
  clear hR hD
  have hc : Calls Tryd.prog 66 #[.pointer (some ⟨b, 0, none⟩), .string ⟨#[123]⟩] _ (Part _ b T (mustD kLc ts) fun _ v _ => v = .tuple #[]) := must_any HI.out.1 HI.out.2 kLc
  cases hR1 : mustD kLc ts with
  | out => exact absurd hR1 (bind_out HR.out HRo.out)
  | no l er =>
    rw [hR1] at hc
    replace HR := hide (bind_no HR.out hR1)
    clear hR1
    go_enter Tryd.func91, Tryd.ntmps91
    go_wp2_with fail
    refine hc.mono ?_
    rintro e w9 ⟨rfl, h5, k5⟩
    refine ⟨rfl, ?_⟩
    rw [← hQ.out]
    exact part_no HR.out h5 (Keeps.refl _ _) k5
  | ok u ts2 =>
    rw [hR1] at hc
    replace HR := hide (bind_ok HR.out hR1)
    clear hR1
    go_enter Tryd.func91, Tryd.ntmps91
    go_wp2_with fail
    refine hc.mono ?_
    rintro e w1 ⟨v1, rfl, rfl, hA⟩
    have HL : Hid (∃ l ts, BkL w b T R n n (.slice none 0 0) l ts w1) := ⟨[], ts2, HR.out.symm, by show 0 + n ≤ n; omega, hA.1, hA.2.1, hA.2.2, StsR.nil _ _⟩
    clear hA hc HR HI
    go_wp2_with fail
    go_loopg [3] n (fun m v3 wr => Hid (∃ l ts, BkL w b T R n m v3 l ts wr))
    case atStart => exact HL
    case round =>
      clear HL
      obtain ⟨l, ts', hRR, hlm, hA, hE, hK, hL⟩ := hrel.out
      obtain ⟨m, rfl⟩ : ∃ m, gk = m + 1 := by
        cases gk with
        | zero => exact absurd (hRR.symm.trans (by rw [manyD])) HRo.out
        | succ m => exact ⟨m, rfl⟩
      have eL : manyD (m + 1) l ts' = if isF kRc ts' = true then .ok l ts'.tail else (stmtD m ts').bind fun s ts2 => manyD m (l ++ [s]) ts2 := by rw [manyD]
      rw [eL] at hRR
      clear eL
      have hm : Calls Tryd.prog 64 #[.pointer (some ⟨b, 0, none⟩), .string ⟨#[125]⟩] wr fun e w' => e = .returned (.bool (isF kRc ts')) ∧ AdvP wr b T (if isF kRc ts' then ts'.tail else ts') w' := met_any hA hE kRc
      have HW := hide (And.intro hlm (And.intro hK hL))
      have hbr := hide hA.lt
      clear hA hE hK hL hlm hrel
      by_cases hC : isF kRc ts' = true
      · rw [hC] at hm
        simp only [if_true] at hm
        rw [if_pos hC] at hRR
        clear hC
        have HRR := hide hRR
        clear hRR
        go_upto_region 5 with (go_at_call 64; (with_reducible refine hm.mono ?_); rintro e w4 ⟨rfl, hA4⟩)
        have HA4 := hide hA4
        clear hm hA4
        go_wp2_with fail
        rw [← hQ.out, ← HRR.out]
        have hb1 := hbw.out
        exact ⟨_, rfl, (HW.out.2.2.keeps HA4.out.2.2 (fun i hi q => by omega)).args, HA4.out.1, HA4.out.2.1, HW.out.2.1.trans HA4.out.2.2 (fun _ _ q => q)⟩
      · rw [Bool.eq_false_iff.2 hC] at hm
        simp only [Bool.false_eq_true, if_false] at hm
        rw [if_neg hC] at hRR
        clear hC
        go_upto_region 4 with (go_at_call 64; (with_reducible refine hm.mono ?_); rintro e w4 ⟨rfl, hA4⟩)
        have hne : stmtD m ts' ≠ .out := fun q => HRo.out (by rw [← hRR, q]; rfl)
        have hc := HSt.out m (by have := HW.out.1; omega) _ _ hA4.1 hA4.2.1 hne
        have HA4 := hide hA4
        clear hm hA4
        cases hR2 : stmtD m ts' with
        | out => exact absurd hR2 hne
        | no l2 er =>
          rw [hR2] at hc hRR
          replace hRR : R = .no l2 er := hRR.symm
          have HRR := hide hRR
          clear hRR hR2 hne
          go_wp2_with fail
          refine hc.mono ?_
          rintro e w9 ⟨rfl, h5, k5⟩
          refine ⟨rfl, ?_⟩
          rw [← hQ.out, HRR.out]
          exact ⟨rfl, h5, HW.out.2.1.trans (HA4.out.2.2.trans k5 (fun _ _ q => q)) (fun _ _ q => q)⟩
        | ok y ts3 =>
          rw [hR2] at hc hRR
          replace hRR : manyD m (l ++ [y]) ts3 = R := hRR
          have HRR := hide hRR
          clear hRR hR2 hne
          go_wp2_with fail
          refine hc.mono ?_
          rintro e w5 ⟨v, rfl, ⟨cs, hv, hy⟩, hA5⟩
          obtain ⟨k2, nm2, ky2, vl2, ep, em, ec, bp, bm, bc, lp, lm, lc, rfl⟩ := hy.form
          replace hv : v = .agg #[.int .i64 k2, .string (sB nm2), .string (sB ky2), .string (sB vl2), .slice ep em ec, .slice bp bm bc, .slice lp lm lc] := hv
          subst hv
          have hb1 := hbw.out
          have hs4 := HA4.out.2.2.size
          have hs1 := HW.out.2.1.size
          have hs5 := hA5.2.2.size
          have hL4 := HW.out.2.2.keeps HA4.out.2.2 (fun i hi q => by omega)
          have hL5 := hL4.keeps hA5.2.2 (fun i hi q => by omega)
          obtain ⟨g2, c2, W6, hap, hrow, kk⟩ := hL5.step hy (fun i hi => by
            have hi' : _ ≤ i := hi
            refine ⟨by omega, fun q => ?_⟩
            have := (hL4.own_lt q).2
            omega) (by have := HW.out.1; have := Hn.out; omega) (by omega)
          have hvb : ∀ i, u3.ownBlock = some i → w.heap.size ≤ i := fun i q => (hL5.own_lt q).1
          have HF : Hid (∃ l' ts, BkL w b T R n m (.slice (some ⟨g2, 0, none⟩) (l.length + 1) c2) l' ts W6) := by
            refine ⟨l ++ [y], ts3, HRR.out, by have := HW.out.1; rw [List.length_append]; show l.length + 1 + m ≤ n; omega, hA5.1.keeps kk (fun q => by have := hvb _ q; omega), hA5.2.1.keeps kk (fun i q => ?_), (HW.out.2.1.trans (HA4.out.2.2.trans hA5.2.2 (fun _ _ q => q)) (fun _ _ q => q)).trans kk (fun i hi q => by have := hvb _ q; omega), hrow⟩
            have h9 := hA5.2.1.hi
            have := hvb _ q
            unfold Hi at h9 ⊢
            omega
          clear hrow kk hvb hL4 hL5 hb1 hs4 hs1 hs5 hy hA5
          go_wp2_with (first | (at_builtin; have _t := hap; refine wpList_append_run _ rfl (.tmp 9) (.tmp 12) 23 rfl rfl rfl hap ?_; clear hap))
          go_roundg m
          case measure => exact Nat.lt_succ_self m
          case rel =>
            obtain ⟨l2, ts4, h⟩ := HF.out
            exact ⟨l2, ts4, h⟩
end Lg
end Go.Proofs.YtlpfnikhnchpdaaDoor
/-
  lang: what a drawn region with a call that may throw is walked by; a list of expressions that gets one more.
-/
namespace Go.Proofs.YtlpfnikhnchpdaaDoor
namespace Lg
open Go.RowKit
set_option linter.unusedVariables false
theorem step_append_run {P : Program} {w : World} {ops : Array Oper} {o : Oper} {a : Act} {K : Act → World → Prop} {Q : Exit → Act → World → Prop} {E : Prop} (hgd : o.guard = none) (s x : Operand) (t : TypeId)
    (ho : o.op = .call { callee := .builtin .append, args := #[s, x], argTypes := #[t, t] }) {v u v' : Value} {w' : World} (hs : a.eval s = v) (hx : a.eval x = u)
    (hrun : ∀ ty, (Builtin.append_ #[t, t] ty #[v, u]).run P w = .ok v' w') (h : K (a.put o.dst v') w') :
    if Region.wanted o (yielded ops a.tmps) = true then Oper.wp P o a w K Q else E := by
  have hw : Region.wanted o (yielded ops a.tmps) = true := by simp [Region.wanted, hgd]
  rw [if_pos hw]
  unfold Oper.wp execOp
  simp only [ho, resolve, invoke, builtin, Sem.run_bind, Sem.run_pure, Result.andThen_ok, List.map_toArray, List.map_cons, List.map_nil, hs, hx, hrun]
  exact h
/-- A call of a part of the reader, as one step of a drawn region: it goes on, or the whole is given up. -/
theorem step_part {w : World} {ops : Array Oper} {o : Oper} {a : Act} {K : Act → World → Prop} {Q : Exit → Act → World → Prop} {E : Prop} (hgd : o.guard = none) (f : FuncId) (x : Operand) (tys : Array TypeId)
    (ho : o.op = .call { callee := .value (.func f), args := #[x], argTypes := tys }) (hcf : ∀ vs, (callFunc f vs).run Tryd.prog w = .ok (.enter f vs) w) {u : Value} (hx : a.eval x = u) {α : Type} {w0 : World} {b : Nat} {T : Bs} {r : Rs α} {good : α → Value → World → Prop}
    (hc : Calls Tryd.prog f #[u] w (Part w0 b T r good)) (hne : r ≠ .out) (hno : ∀ l n c w', thrown l n = .panicked c → r = .no l n → Ev w' b T → Keeps w0 w' (fun i => i = b) → Q (.panic c) a w')
    (h : ∀ x ts v w', r = .ok x ts → good x v w' → AdvP w0 b T ts w' → K (a.put o.dst v) w') :
    if Region.wanted o (yielded ops a.tmps) = true then Oper.wp Tryd.prog o a w K Q else E := by
  have hw : Region.wanted o (yielded ops a.tmps) = true := by simp [Region.wanted, hgd]
  rw [if_pos hw]
  have e : (execOp a.eval o).run Tryd.prog w = .ok (.enter f #[u]) w := by
    simp only [execOp, ho, resolve, invoke, Sem.run_bind, List.map_toArray, List.map_cons, List.map_nil, hx]
    simp [go_sem, Act.eval]
    exact hcf _
  unfold Oper.wp
  rw [e, Oper.upon_enter]
  refine hc.mono fun e w' he => ?_
  cases hr : r with
  | out => exact absurd hr hne
  | no l n =>
    rw [hr] at he
    obtain ⟨he, h5, k5⟩ := he
    subst he
    exact hno l n _ w' rfl hr h5 k5
  | ok x ts =>
    rw [hr] at he
    obtain ⟨v, rfl, hg, hA⟩ := he
    exact h x ts v w' hr hg hA
theorem cf_key (w : World) (vs : Array Value) : (callFunc 116 vs).run Tryd.prog w = .ok (.enter 116 vs) w := by
  unfold callFunc
  simp [Tryd.func116, go_sem]
  try rfl
theorem cf_expr (w : World) (vs : Array Value) : (callFunc 90 vs).run Tryd.prog w = .ok (.enter 90 vs) w := by
  unfold callFunc
  simp [Tryd.func90, go_sem]
  try rfl
theorem cf_block (w : World) (vs : Array Value) : (callFunc 91 vs).run Tryd.prog w = .ok (.enter 91 vs) w := by
  unfold callFunc
  simp [Tryd.func91, go_sem]
  try rfl
theorem cf_stmt (w : World) (vs : Array Value) : (callFunc 67 vs).run Tryd.prog w = .ok (.enter 67 vs) w := by
  unfold callFunc
  simp [Tryd.func67, go_sem]
  try rfl
theorem cf_name (w : World) (vs : Array Value) : (callFunc 65 vs).run Tryd.prog w = .ok (.enter 65 vs) w := by
  unfold callFunc
  simp [Tryd.func65, go_sem]
  try rfl
theorem ExsR.nil (W : World) (base : Nat) : ExsR W base (.slice none 0 0) [] := ⟨[], ⟨rfl, Or.inl ⟨rfl, rfl⟩⟩, .nil⟩
theorem ExsR.own_ge {W : World} {base : Nat} {v : Value} {l : List Ex} (h : ExsR W base v l) {i : Nat} (hv : v.ownBlock = some i) : base ≤ i := by
  obtain ⟨xs, own, hx⟩ := h
  rcases own.2 with ⟨rfl, hn⟩ | ⟨g, cap, cur, rfl, hb, hg, r⟩
  · cases hv
  · have e : g = i := by simpa [Value.ownBlock] using hv
    exact e ▸ hb
/-- One expression more: its struct lies in a new block, and the list is grown. -/
theorem ExsR.step {w5 : World} {base m : Nat} {v : Value} {l : List Ex} {y : Ex} (hL5 : ExsR w5 base v l) (hm : m = l.length + 1) {k n : Int} {nm op : Bs} {sp : Option Addr} {sm sc : Nat} {P : Nat → Prop}
    (hy : ExC w5 P y [.int .i64 k, .int .i64 n, .string (sB nm), .string (sB op), .slice sp sm sc]) (hP : ∀ i, P i → base ≤ i ∧ v.ownBlock ≠ some i) (hn : m ≤ 1073741825) (hw : base ≤ w5.heap.size) :
    ∃ g2 c2 W6, (∀ ty, (Builtin.append_ #[40, 40] ty #[v, .slice (some ⟨w5.heap.size, 0, none⟩) 1 1]).run Tryd.prog (w5.alloc (.cells #[.int .i64 k, .int .i64 n, .string (sB nm), .string (sB op), .slice sp sm sc] 42)) = .ok (.slice (some ⟨g2, 0, none⟩) m c2) W6) ∧
      ExsR W6 base (.slice (some ⟨g2, 0, none⟩) m c2) (l ++ [y]) ∧ Keeps w5 W6 (fun i => v.ownBlock = some i) := by
  subst hm
  have kA := (Keeps.refl w5 (fun _ => False)).alloc (.cells #[.int .i64 k, .int .i64 n, .string (sB nm), .string (sB op), .slice sp sm sc] 42)
  have hsA := kA.size
  obtain ⟨xs, own, hxs⟩ := hL5.keeps kA (fun _ _ q => q)
  have hyA := (hy.keeps kA (fun _ _ q => q)).mono hP
  obtain ⟨g2, c2, W6, hap, own6, k6, hl6⟩ := append_row 40 42 _ 5 72 Tryd.underlying40 infoEx rfl (by decide) own (heap_alloc_new w5 _) (us := [.int .i64 k, .int .i64 n, .string (sB nm), .string (sB op), .slice sp sm sc]) rfl one5 (by omega) (by omega) (by omega)
  exact ⟨g2, c2, W6, hap, ExsR.more rfl (by simp) hxs hyA own6 k6 hl6, (kA.mono (fun _ _ q => q.elim)).trans k6 (fun _ _ q => q)⟩
end Lg
end Go.Proofs.YtlpfnikhnchpdaaDoor
/-
  lang: a program in memory; lists of names that grow.
-/
namespace Go.Proofs.YtlpfnikhnchpdaaDoor
namespace Lg
open Go.RowKit
set_option linter.unusedVariables false
theorem Rs.assoc {α β γ : Type} (r : Rs α) (f : α → List Tk → Rs β) (g : β → List Tk → Rs γ) : (r.bind f).bind g = r.bind (fun a ts => (f a ts).bind g) := by cases r <;> rfl
/-- A list of names that is appended to. -/
def StrsR (W : World) (base : Nat) (v : Value) (l : List Bs) : Prop := W.ownsRow base 9 1 v l.length (l.map fun s => .string (sB s))
theorem StrsR.nil (W : World) (base : Nat) : StrsR W base (.slice none 0 0) [] := ⟨rfl, Or.inl ⟨rfl, rfl⟩⟩
theorem StrsR.keeps {W W' : World} {base : Nat} {v : Value} {l : List Bs} (h : StrsR W base v l) {S : Nat → Prop} (k : Keeps W W' S) (hS : ∀ i, base ≤ i → ¬ S i) : StrsR W' base v l := by
  refine ⟨h.1, ?_⟩
  rcases h.2 with h2 | ⟨g, cap, cur, hv, hb, hg, r⟩
  · exact Or.inl h2
  · exact Or.inr ⟨g, cap, cur, hv, hb, (k.block g (heap_lt hg) (hS g hb)).trans hg, r⟩
theorem StrsR.mono {W : World} {base base' : Nat} {v : Value} {l : List Bs} (h : StrsR W base v l) (hb : base' ≤ base) : StrsR W base' v l := by
  refine ⟨h.1, ?_⟩
  rcases h.2 with h2 | ⟨g, cap, cur, hv, hg0, hg, r⟩
  · exact Or.inl h2
  · exact Or.inr ⟨g, cap, cur, hv, Nat.le_trans hb hg0, hg, r⟩
theorem StrsR.own_lt {W : World} {base : Nat} {v : Value} {l : List Bs} (h : StrsR W base v l) {i : Nat} (hv : v.ownBlock = some i) : base ≤ i ∧ i < W.heap.size := by
  rcases h.2 with ⟨rfl, hn⟩ | ⟨g, cap, cur, rfl, hb, hg, r⟩
  · cases hv
  · have e : g = i := by simpa [Value.ownBlock] using hv
    exact e ▸ ⟨hb, heap_lt hg⟩
theorem StrsR.form {W : World} {base : Nat} {v : Value} {l : List Bs} (h : StrsR W base v l) : ∃ p n c, v = .slice p n c := by
  rcases h.2 with ⟨rfl, hn⟩ | ⟨g, cap, cur, rfl, hb, hg, r⟩
  · exact ⟨_, _, _, rfl⟩
  · exact ⟨_, _, _, rfl⟩
theorem infoStr : (Tryd.prog.info? 9).map (fun i => (i.zero, i.size, i.bytes)) = some (some (.string ⟨#[]⟩), 1, 16) := by kernel_rfl
theorem one1 {s : ByteArray} : ∀ u ∈ [Value.string s], u.oneCell' = true := by
  intro u hu
  simp only [List.mem_cons, List.not_mem_nil, or_false] at hu
  subst hu
  rfl
theorem StrsR.step {w5 : World} {base m : Nat} {v : Value} {l : List Bs} (hL5 : StrsR w5 base v l) (s : Bs) (hm : m = l.length + 1) (hn : m ≤ 1073741825) (hw : base ≤ w5.heap.size) :
    ∃ g2 c2 W6, (∀ ty, (Builtin.append_ #[22, 22] ty #[v, .slice (some ⟨w5.heap.size, 0, none⟩) 1 1]).run Tryd.prog (w5.alloc (.cells #[.string (sB s)] 9)) = .ok (.slice (some ⟨g2, 0, none⟩) m c2) W6) ∧
      StrsR W6 base (.slice (some ⟨g2, 0, none⟩) m c2) (l ++ [s]) ∧ Keeps w5 W6 (fun i => v.ownBlock = some i) := by
  subst hm
  have kA := (Keeps.refl w5 (fun _ => False)).alloc (.cells #[.string (sB s)] 9)
  have hsA := kA.size
  have own := hL5.keeps kA (fun _ _ q => q)
  obtain ⟨g2, c2, W6, hap, own6, k6, hl6⟩ := append_row 22 9 _ 1 16 Tryd.underlying22 infoStr rfl (by decide) own (heap_alloc_new w5 _) (us := [.string (sB s)]) rfl one1 (by omega) (by omega) (by omega)
  refine ⟨g2, c2, W6, hap, ?_, (kA.mono (fun _ _ q => q.elim)).trans k6 (fun _ _ q => q)⟩
  have e1 : (l ++ [s]).length = l.length + 1 := by simp
  have e2 : (l ++ [s]).map (fun s => Value.string (sB s)) = l.map (fun s => .string (sB s)) ++ [.string (sB s)] := by simp
  unfold StrsR
  rw [e1, e2]
  exact own6
/-- A program's block. -/
def P2 (w : World) (g : Nat) (a b : Value) : Prop := w.heap[g]? = some (.cells #[a, b] 25)
theorem P2.cells {w : World} {g : Nat} {a b : Value} (q : P2 w g a b) : (w.cell? ⟨g, 0, none⟩ = some a ∧ w.cell? ⟨g, 1, none⟩ = some b) ∧ w.frozen? ⟨g, 0, none⟩ = false ∧ w.frozen? ⟨g, 1, none⟩ = false := by
  have q : w.heap[g]? = _ := q
  simp [World.cell?, World.frozen?, q]
theorem P2.keeps {w W : World} {g : Nat} {a b : Value} (q : P2 w g a b) {S : Nat → Prop} (k : Keeps w W S) (hS : ¬ S g) : P2 W g a b := (k.block g (heap_lt q) hS).trans q
theorem P2.lt {w : World} {g : Nat} {a b : Value} (q : P2 w g a b) : g < w.heap.size := heap_lt q
theorem P2.set0 {w : World} {g : Nat} {a b : Value} (x : Value) {P : World → Prop} (q : P2 w g a b) (hp : ∀ W, P2 W g x b → Keeps w W (fun i => i = g) → P W) : P (w.setCell ⟨g, 0, none⟩ x) := hp _ (set_one' q 0 x (by simp)) ((Keeps.refl w (fun i => i = g)).setCell _ (fun _ => rfl) _)
theorem P2.set1 {w : World} {g : Nat} {a b : Value} (x : Value) {P : World → Prop} (q : P2 w g a b) (hp : ∀ W, P2 W g a x → Keeps w W (fun i => i = g) → P W) : P (w.setCell ⟨g, 1, none⟩ x) := hp _ (set_one' q 1 x (by simp)) ((Keeps.refl w (fun i => i = g)).setCell _ (fun _ => rfl) _)
theorem P2.set2 {w : World} {g : Nat} {a b a' b' : Value} {P : World → Prop} (q : P2 w g a b) (hp : ∀ W, P2 W g a' b' → Keeps w W (fun i => i = g) → P W) : P ((w.setCell ⟨g, 0, none⟩ a').setCell ⟨g, 1, none⟩ b') := by
  have h1 := set_one' q 0 a' (by simp)
  exact hp _ (set_one' h1 1 b' (by simp)) (((Keeps.refl w (fun i => i = g)).setCell _ (fun _ => rfl) _).setCell _ (fun _ => rfl) _)
/-- A value that is a program. -/
def PgG (B : Nat) (p : Pg) (v : Value) (w : World) : Prop := ∃ mv lv : Value, v = .agg #[mv, lv] ∧ StrsR w B mv p.maps ∧ StsV w (fun i => B ≤ i) p.stmts lv
/-- The world within a call of program: g the result's block, gp that of p. -/
structure AtP (w : World) (b : Nat) (T : Bs) (ts : List Tk) (gp : Nat) (mv lv : Value) (l : List Bs) (s : List St) (W : World) : Prop where
  rat : RAt W b T ts
  ev : Ev W b T
  kp : Keeps w W (fun i => i = b)
  zero : P2 W w.heap.size (.slice none 0 0) (.slice none 0 0)
  box : P2 W gp mv lv
  maps : StrsR W (gp + 1) mv l
  stmts : StsR W (gp + 1) lv s
  gl : w.heap.size < gp
  bl : b < w.heap.size
  ap : ∀ i, mv.ownBlock = some i → lv.ownBlock ≠ some i
theorem AtP.adv {w W W' : World} {b gp : Nat} {T : Bs} {ts ts' : List Tk} {mv lv : Value} {l : List Bs} {s : List St} (h : AtP w b T ts gp mv lv l s W) (a : AdvP W b T ts' W') : AtP w b T ts' gp mv lv l s W' := by
  have h1 := h.gl
  have h2 := h.bl
  exact ⟨a.1, a.2.1, h.kp.trans a.2.2 (fun _ _ q => q), h.zero.keeps a.2.2 (fun q => by omega), h.box.keeps a.2.2 (fun q => by omega), h.maps.keeps a.2.2 (fun i hi q => by omega), h.stmts.keeps a.2.2 (fun i hi q => by omega), h1, h2, h.ap⟩
theorem AtP.new {w W W' : World} {b gp : Nat} {T : Bs} {ts : List Tk} {mv lv : Value} {l : List Bs} {s : List St} (h : AtP w b T ts gp mv lv l s W) (k : Keeps W W' (fun _ => False)) : AtP w b T ts gp mv lv l s W' :=
  ⟨h.rat.keeps k id, h.ev.keeps k (fun _ q => q.elim), h.kp.trans (kF k b) (fun _ _ q => q), h.zero.keeps k id, h.box.keeps k id, h.maps.keeps k (fun _ _ q => q), h.stmts.keeps k (fun _ _ q => q), h.gl, h.bl, h.ap⟩
theorem Ev.keepsUp {w w' : World} {b g : Nat} {T : Bs} (h : Ev w b T) {S : Nat → Prop} (k : Keeps w w' S) (hS : ∀ i, S i → b ≤ i) : Ev w' b T :=
  h.keeps k (fun i q => by have h9 := h.hi; have := hS i q; unfold Hi at h9 ⊢; omega)
theorem StrsR.keepsOwn {W W' : World} {base : Nat} {v : Value} {l : List Bs} (h : StrsR W base v l) {S : Nat → Prop} (k : Keeps W W' S) (hS : ∀ i, v.ownBlock = some i → ¬ S i) : StrsR W' base v l := by
  refine ⟨h.1, ?_⟩
  rcases h.2 with h2 | ⟨g, cap, cur, hv, hb, hg, r⟩
  · exact Or.inl h2
  · exact Or.inr ⟨g, cap, cur, hv, hb, (k.block g (heap_lt hg) (hS g (by rw [hv]; rfl))).trans hg, r⟩
/-- One name more. -/
theorem AtP.name {w W W6 W7 : World} {b gp g2 c2 m : Nat} {T : Bs} {ts : List Tk} {mv : Value} {l l' : List Bs} (h : AtP w b T ts gp mv (.slice none 0 0) l [] W) (k6 : Keeps W W6 (fun i => mv.ownBlock = some i)) (hr : StrsR W6 (gp + 1) (.slice (some ⟨g2, 0, none⟩) m c2) l')
    (k7 : Keeps W6 W7 (fun i => i = gp)) (hb : P2 W7 gp (.slice (some ⟨g2, 0, none⟩) m c2) (.slice none 0 0)) : AtP w b T ts gp (.slice (some ⟨g2, 0, none⟩) m c2) (.slice none 0 0) l' [] W7 := by
  have h1 := h.gl
  have h2 := h.bl
  have ho : ∀ i, mv.ownBlock = some i → gp + 1 ≤ i := fun i q => (h.maps.own_lt q).1
  have kk : Keeps W W7 (fun i => mv.ownBlock = some i ∨ i = gp) := (k6.mono (fun _ _ q => Or.inl q)).trans (k7.mono (fun _ _ q => Or.inr q)) (fun _ _ q => q)
  have hS : ∀ i, (mv.ownBlock = some i ∨ i = gp) → gp ≤ i := fun i q => q.elim (fun q => by have := ho i q; omega) (fun q => by omega)
  exact ⟨h.rat.keeps kk (fun q => by have := hS _ q; omega), h.ev.keepsUp (g := 0) kk (fun i q => by have := hS i q; omega), h.kp.trans kk (fun i hi q => by have := hS i q; omega), h.zero.keeps kk (fun q => by have := hS _ q; omega), hb, hr.keeps k7 (fun i hi q => by omega), StsR.nil _ _, h1, h2, fun i q z => nomatch z⟩
/-- One statement more. -/
theorem AtP.stmt {w W W6 W7 : World} {b gp g2 c2 m : Nat} {T : Bs} {ts : List Tk} {mv lv : Value} {l : List Bs} {s s' : List St} (h : AtP w b T ts gp mv lv l s W) (k6 : Keeps W W6 (fun i => lv.ownBlock = some i)) (hr : StsR W6 (gp + 1) (.slice (some ⟨g2, 0, none⟩) m c2) s')
    (hn : lv.ownBlock = some g2 ∨ W.heap.size ≤ g2) (k7 : Keeps W6 W7 (fun i => i = gp)) (hb : P2 W7 gp mv (.slice (some ⟨g2, 0, none⟩) m c2)) : AtP w b T ts gp mv (.slice (some ⟨g2, 0, none⟩) m c2) l s' W7 := by
  have h1 := h.gl
  have h2 := h.bl
  have ho : ∀ i, lv.ownBlock = some i → gp + 1 ≤ i := fun i q => (h.stmts.own_lt q).1
  have kk : Keeps W W7 (fun i => lv.ownBlock = some i ∨ i = gp) := (k6.mono (fun _ _ q => Or.inl q)).trans (k7.mono (fun _ _ q => Or.inr q)) (fun _ _ q => q)
  have hS : ∀ i, (lv.ownBlock = some i ∨ i = gp) → gp ≤ i := fun i q => q.elim (fun q => by have := ho i q; omega) (fun q => by omega)
  exact ⟨h.rat.keeps kk (fun q => by have := hS _ q; omega), h.ev.keepsUp (g := 0) kk (fun i q => by have := hS i q; omega), h.kp.trans kk (fun i hi q => by have := hS i q; omega), h.zero.keeps kk (fun q => by have := hS _ q; omega), hb,
    h.maps.keepsOwn kk (fun i q z => z.elim (fun z => h.ap i q z) (fun z => by have := (h.maps.own_lt q).1; omega)), hr.keeps k7 (fun i hi q => by omega), h1, h2, fun i q z => by
    have e : g2 = i := by simpa [Value.ownBlock] using z
    rcases hn with hn | hn
    · exact h.ap i q (e ▸ hn)
    · have := (h.maps.own_lt q).2
      omega⟩
end Lg
end Go.Proofs.YtlpfnikhnchpdaaDoor
/-
  lang: program. (Made by genLGZ.py.)
-/
namespace Go.Proofs.YtlpfnikhnchpdaaDoor
namespace Lg
open Go.RowKit
set_option linter.unusedVariables false
theorem StsR.step2 {w5 : World} {base m : Nat} {v : Value} {l : List St} {y : St} (hL5 : StsR w5 base v l) (hm : m = l.length + 1) {k : Int} {nm ky vl : Bs} {ep : Option Addr} {em ec : Nat} {bp : Option Addr} {bm bc : Nat} {lp : Option Addr} {lm lc : Nat} {P : Nat → Prop}
    (hy : StC w5 P y [.int .i64 k, .string (sB nm), .string (sB ky), .string (sB vl), .slice ep em ec, .slice bp bm bc, .slice lp lm lc]) (hP : ∀ i, P i → base ≤ i ∧ v.ownBlock ≠ some i) (hn : m ≤ 1073741825) (hw : base ≤ w5.heap.size) :
    ∃ g2 c2 W6, (∀ ty, (Builtin.append_ #[23, 23] ty #[v, .slice (some ⟨w5.heap.size, 0, none⟩) 1 1]).run Tryd.prog (w5.alloc (.cells #[.int .i64 k, .string (sB nm), .string (sB ky), .string (sB vl), .slice ep em ec, .slice bp bm bc, .slice lp lm lc] 49)) = .ok (.slice (some ⟨g2, 0, none⟩) m c2) W6) ∧
      StsR W6 base (.slice (some ⟨g2, 0, none⟩) m c2) (l ++ [y]) ∧ Keeps w5 W6 (fun i => v.ownBlock = some i) ∧ (v.ownBlock = some g2 ∨ w5.heap.size ≤ g2) := by
  subst hm
  have kA := (Keeps.refl w5 (fun _ => False)).alloc (.cells #[.int .i64 k, .string (sB nm), .string (sB ky), .string (sB vl), .slice ep em ec, .slice bp bm bc, .slice lp lm lc] 49)
  have hsA := kA.size
  obtain ⟨xs, own, hxs⟩ := hL5.keeps kA (fun _ _ q => q)
  have hyA := (hy.keeps kA (fun _ _ q => q)).mono hP
  obtain ⟨g2, c2, W6, hap, own6, k6, hl6⟩ := append_row 23 49 _ 7 128 Tryd.underlying23 infoSt rfl (by decide) own (heap_alloc_new w5 _) (us := [.int .i64 k, .string (sB nm), .string (sB ky), .string (sB vl), .slice ep em ec, .slice bp bm bc, .slice lp lm lc]) rfl one7 (by omega) (by omega) (by omega)
  exact ⟨g2, c2, W6, hap, StsR.more rfl (by simp) hxs hyA own6 k6 hl6, (kA.mono (fun _ _ q => q.elim)).trans k6 (fun _ _ q => q), hl6.imp id (fun e => by omega)⟩

set_option maxRecDepth 100000 in
set_option maxHeartbeats 4000000 in
theorem program_any {b : Nat} {T : Bs} {n : Nat} (hn9 : n ≤ 1073741824) (hS : ∀ m, m ≤ n → ReadsG 67 #[.pointer (some ⟨b, 0, none⟩)] b T (stmtD m) StG) : ReadsG 40 #[.pointer (some ⟨b, 0, none⟩)] b T (programD n) PgG := by
  intro w ts h E hD
  have hbw := hide h.lt
  have HSt := hide hS
  have Hn := hide hn9
  have HI := hide (And.intro h E)
  clear h E hS hn9
  obtain ⟨R, hR⟩ : ∃ R, programD n ts = R := ⟨_, rfl⟩
  obtain ⟨kk, hkk⟩ : ∃ kk : List Bs → List Tk → Rs Pg, kk = fun m ts2 => (allD n [] ts2).bind fun l ts3 => .ok ⟨m, l⟩ ts3 := ⟨_, rfl⟩
  have HKK := hide hkk
  have HR : Hid ((mapsD n [] ts).bind kk = R) := hide (by rw [← hR, hkk]; rfl)
  rw [hR] at hD ⊢
  have HRo := hide hD
  generalize hQ : Part w b T R (PgG w.heap.size) = Q
  replace hQ := hide hQ
  clear hR hD hkk
  go_enter Tryd.func40, Tryd.ntmps40
  go_upto_region 1 with fail
  refine alloc1 (P := fun W => Code.wp _ _ _ _ W) fun W0 hg hz k0 => ?_
  have HG := hide (And.intro hg (And.intro hz k0))
  clear hg hz k0
  go_wp2_with fail
  refine alloc1 (P := fun W => Code.wp _ _ _ _ W) fun W1 h1 hz1 k1 => ?_
  have HL : Hid (∃ l ts mv, (mapsD n l ts).bind kk = R ∧ l.length + n ≤ n ∧ AtP w b T ts W0.heap.size mv (.slice none 0 0) l [] W1) := by
    have k01 := HG.out.2.2.trans k1 (fun _ _ q => q)
    have z0 : P2 W0 w.heap.size (.slice none 0 0) (.slice none 0 0) := HG.out.1
    exact ⟨[], ts, .slice none 0 0, HR.out, by show 0 + n ≤ n; omega, HI.out.1.keeps k01 id, HI.out.2.keeps k01 (fun _ q => q.elim), kF k01 b, z0.keeps k1 id, h1, StrsR.nil _ _, StsR.nil _ _, by have := HG.out.2.1; omega, hbw.out, fun i q => nomatch q⟩
  clear h1 hz1 k1 HR HG HI
  generalize W0.heap.size = gp at *
  go_loopg [] n (fun m wr => Hid (∃ l ts mv, (mapsD m l ts).bind kk = R ∧ l.length + m ≤ n ∧ AtP w b T ts gp mv (.slice none 0 0) l [] wr))
  case atStart => exact HL
  case round =>
    clear HL
    obtain ⟨l, ts', mv, hRR, hlm, hP⟩ := hrel.out
    obtain ⟨m, rfl⟩ : ∃ m, gk = m + 1 := by
      cases gk with
      | zero => exact absurd (hRR.symm.trans (by rw [mapsD]; rfl)) HRo.out
      | succ m => exact ⟨m, rfl⟩
    have eL : mapsD (m + 1) l ts' = if isF kMap ts' = true then (nameD ts'.tail).bind fun s ts2 => (mustD kSemi ts2).bind fun _ ts3 => mapsD m (l ++ [s]) ts3 else .ok l ts' := by rw [mapsD]
    rw [eL] at hRR
    clear eL
    have hm : Calls Tryd.prog 64 #[.pointer (some ⟨b, 0, none⟩), .string ⟨#[109, 97, 112]⟩] wr fun e w' => e = .returned (.bool (isF kMap ts')) ∧ AdvP wr b T (if isF kMap ts' then ts'.tail else ts') w' := met_any hP.rat hP.ev kMap
    have HP := hide hP
    have Hlm := hide hlm
    clear hP hlm hrel
    by_cases hC : isF kMap ts' = true
    · rw [hC] at hm
      simp only [if_true] at hm
      rw [if_pos hC] at hRR
      clear hC
      go_upto_region 3 with (go_at_call 64; (with_reducible refine hm.mono ?_); rintro e wm ⟨rfl, hA⟩)
      replace HP := hide (HP.out.adv hA)
      clear hm hA
      have HR : Hid (R = (nameD ts'.tail).bind fun s ts2 => ((mustD kSemi ts2).bind fun _ ts3 => mapsD m (l ++ [s]) ts3).bind kk) := hide (by rw [← hRR, Rs.assoc])
      clear hRR
      have hne : nameD ts'.tail ≠ .out := bind_out HR.out HRo.out
      have kD := hide ((Keeps.refl wm (fun _ => False)).drew)
      have hcF : Calls Tryd.prog 65 #[.pointer (some ⟨b, 0, none⟩)] wm.drew (Part wm.drew b T (nameD ts'.tail) fun s v _ => v = .string (sB s)) := name_any (HP.out.new kD.out).rat (HP.out.new kD.out).ev
      obtain ⟨mp, ml, mc, rfl⟩ := HP.out.maps.form
      obtain ⟨⟨d0, d1⟩, e0, e1⟩ := HP.out.box.cells
      go_region_law (first
        | (refine step_append_run (by rfl) _ _ 22 (by rfl) (by rfl) (by rfl) hap ?_)
        | (refine step_part (by rfl) 65 _ _ (by rfl) (cf_name _) (by rfl) hcF hne (fun l n c w9 e hr h5 k5 => ⟨rfl, by rw [← e, ← hQ.out]; exact part_no (bind_no HR.out hr) h5 (HP.out.new kD.out).kp k5⟩) ?_
           rintro s ts3 v w8 hR3 rfl hA
           have HR3 := hide (bind_ok HR.out hR3)
           have hP8 := (HP.out.new kD.out).adv hA
           obtain ⟨g2, cp, W6, hap, hrow, k6⟩ := hP8.maps.step (m := l.length + 1) s rfl (by have := Hlm.out; have := Hn.out; omega) (by have := hP8.box.lt; omega)
           have hb8a := (hP8.new ((Keeps.refl w8 (fun _ => False)).alloc (.cells #[.string (sB s)] 9))).box
           have hb6 := hP8.box.keeps k6 (fun q => by have := (hP8.maps.own_lt q).1; omega)
           obtain ⟨⟨d80, d81⟩, -⟩ := hP8.box.cells
           obtain ⟨⟨da0, da1⟩, -⟩ := hb8a.cells
           obtain ⟨⟨d60, d61⟩, e60, e61⟩ := hb6.cells
           have HF := hide (And.intro hP8 (And.intro k6 (And.intro hrow hb6)))
           clear hA hP8 hrow k6 hb8a hb6 hR3))
      all_goals (
        go_upto_region 4 with fail
        refine P2.set0 (P := fun W => Code.wp _ _ _ _ W) _ HF.out.2.2.2 fun W7 h7 k7 => ?_
        have HP7 := hide (HF.out.1.name HF.out.2.1 HF.out.2.2.1 k7 h7)
        clear hne hcF kD HP HF h7 k7 HR d0 d1 e0 e1 d80 d81 da0 da1 d60 d61 e60 e61 hap
        have HP := HP7
        have HR := HR3
        clear HP7 HR3
        have hc : Calls Tryd.prog 66 #[.pointer (some ⟨b, 0, none⟩), .string ⟨#[59]⟩] _ (Part _ b T (mustD kSemi ts3) fun _ v _ => v = .tuple #[]) := must_any HP.out.rat HP.out.ev kSemi
        replace HR : Hid (R = (mustD kSemi ts3).bind fun _ ts4 => (mapsD m (l ++ [s]) ts4).bind kk) := hide (by rw [HR.out, Rs.assoc])
        cases hR4 : mustD kSemi ts3 with
        | out => exact absurd hR4 (bind_out HR.out HRo.out)
        | no l2 er =>
          rw [hR4] at hc
          replace HR := hide (bind_no HR.out hR4)
          clear hR4
          go_wp2_with fail
          refine hc.mono ?_
          rintro e w9 ⟨rfl, h5, k5⟩
          refine ⟨rfl, ?_⟩
          rw [← hQ.out]
          exact part_no HR.out h5 HP.out.kp k5
        | ok u ts4 =>
          rw [hR4] at hc
          replace HR := hide (bind_ok HR.out hR4)
          clear hR4
          go_wp2_with fail
          refine hc.mono ?_
          rintro e w9 ⟨v1, rfl, rfl, hA⟩
          replace HP := hide (HP.out.adv hA)
          clear hc hA
          go_wp2_with fail
          go_roundg m
          case measure => exact Nat.lt_succ_self m
          case rel => exact ⟨l ++ [s], ts4, _, HR.out.symm, by have := Hlm.out; rw [List.length_append]; show l.length + 1 + m ≤ n; omega, HP.out⟩)
    · rw [Bool.eq_false_iff.2 hC] at hm
      simp only [Bool.false_eq_true, if_false] at hm
      rw [if_neg hC] at hRR
      clear hC
      replace hRR : (allD n [] ts').bind (fun l' ts3 => .ok ⟨l, l'⟩ ts3) = R := by rw [← hRR, HKK.out]; rfl
      have HRR := hide hRR
      clear hRR
      go_wp2_with (go_at_call 64; (with_reducible refine hm.mono ?_); rintro e wm ⟨rfl, hA⟩)
      replace HP := hide (HP.out.adv hA)
      clear hm hA
      have HL : Hid (∃ s ts lv, (allD n s ts).bind (fun l' ts3 => .ok ⟨l, l'⟩ ts3) = R ∧ s.length + n ≤ n ∧ AtP w b T ts gp mv lv l s wm) := ⟨[], ts', _, HRR.out, by show 0 + n ≤ n; omega, HP.out⟩
      clear HRR HP Hlm
      go_loopg [] n (fun m wr => Hid (∃ s ts lv, (allD m s ts).bind (fun l' ts3 => .ok ⟨l, l'⟩ ts3) = R ∧ s.length + m ≤ n ∧ AtP w b T ts gp mv lv l s wr))
      case atStart => exact HL
      case round =>
        clear HL
        obtain ⟨s, ts', lv, hRR, hlm, hP⟩ := hrel.out
        obtain ⟨m, rfl⟩ : ∃ m, gk = m + 1 := by
          cases gk with
          | zero => exact absurd (hRR.symm.trans (by rw [allD]; rfl)) HRo.out
          | succ m => exact ⟨m, rfl⟩
        obtain ⟨t, rest, rfl⟩ : ∃ t rest, ts' = t :: rest := by
          obtain ⟨a, l, c, t, rest, e, -⟩ := hP.rat
          exact ⟨t, rest, e⟩
        have eL : allD (m + 1) s (t :: rest) = if (t.kind == 0) = true then .ok s (t :: rest) else (stmtD m (t :: rest)).bind fun y ts2 => allD m (s ++ [y]) ts2 := by
          rw [allD]
          rfl
        rw [eL] at hRR
        clear eL
        have c4 : wr.cell? ⟨b, 4, none⟩ = some (.int .i64 (t.kind : Int)) := by
          obtain ⟨a, l, c, t', rest', e, h1, -⟩ := hP.rat
          injection e with e1 e2
          subst e1
          obtain ⟨⟨c0, c1, c2, c3, c4, c5, c6⟩, -⟩ := h1.cells
          exact c4
        have hk := kind_is (k := t.kind) (n := 0) (z := 0) rfl
        have HP := hide hP
        have Hlm := hide hlm
        clear hP hlm hrel
        cases h0 : t.kind == 0 with
        | true =>
          rw [h0] at hk hRR
          replace hRR : R = .ok ⟨l, s⟩ (t :: rest) := hRR.symm
          have HRR := hide hRR
          clear hRR h0
          go_upto_region 7 with fail
          clear hk c4
          obtain ⟨mp, ml, mc, rfl⟩ := HP.out.maps.form
          obtain ⟨lp, lm, lc, rfl⟩ := HP.out.stmts.args.form
          obtain ⟨⟨d0, d1⟩, -⟩ := HP.out.box.cells
          obtain ⟨⟨c0, c1⟩, f0, f1⟩ := HP.out.zero.cells
          have hz9 := HP.out.zero
          have HP9 := HP
          generalize hgz : w.heap.size = g at *
          replace hgz := hide hgz
          go_wp2_with fail
          refine P2.set2 (P := fun W => bodyPost _ _ _ _ _ W) hz9 fun W5 h11 k11 => ?_
          obtain ⟨⟨q0, q1⟩, -⟩ := h11.cells
          refine bodyPost_ret (v := .agg #[.slice mp ml mc, .slice lp lm lc]) (by simp [results, Tryd.results40, go_sem, q0, q1]) rfl ?_
          rw [← hQ.out]
          have hp := HP9.out
          have hgl := hp.gl
          have hbl := hp.bl
          have hg := hgz.out
          exact part_ok HRR.out ⟨_, rfl, ⟨_, _, rfl, (hp.maps.keeps k11 (fun i hi q => by omega)).mono (by omega), StsV.mono (fun i hi => by have : _ ≤ i := hi; show g ≤ i; omega) (hp.stmts.keeps k11 (fun i hi q => by omega)).args⟩, hp.rat.keeps k11 (fun q => by omega), hp.ev.keepsUp (g := 0) k11 (fun i q => by omega), hp.kp.trans k11 (fun i hi q => by omega)⟩
        | false =>
          rw [h0] at hk hRR
          have HR : Hid (R = (stmtD m (t :: rest)).bind fun y ts2 => (allD m (s ++ [y]) ts2).bind (fun l' ts3 => .ok ⟨l, l'⟩ ts3)) := hide (by rw [← hRR, if_neg (by decide), Rs.assoc])
          clear hRR h0
          have hne : stmtD m (t :: rest) ≠ .out := bind_out HR.out HRo.out
          have kD := hide ((Keeps.refl wr (fun _ => False)).drew)
          have hcF := HSt.out m (by have := Hlm.out; omega) _ (t :: rest) (HP.out.new kD.out).rat (HP.out.new kD.out).ev hne
          go_upto_region 6 with fail
          clear hk c4
          obtain ⟨lp0, lm0, lc0, rfl⟩ := HP.out.stmts.args.form
          obtain ⟨mp, ml, mc, rfl⟩ := HP.out.maps.form
          obtain ⟨⟨d0, d1⟩, e0, e1⟩ := HP.out.box.cells
          go_region_law (first
            | (refine step_append_run (by rfl) _ _ 23 (by rfl) (by rfl) (by rfl) hap ?_)
            | (refine step_part (by rfl) 67 _ _ (by rfl) (cf_stmt _) (by rfl) hcF hne (fun l n c w9 e hr h5 k5 => ⟨rfl, by rw [← e, ← hQ.out]; exact part_no (bind_no HR.out hr) h5 (HP.out.new kD.out).kp k5⟩) ?_
               rintro y ts3 v w8 hR3 ⟨cs, hv, hx⟩ hA
               have HR3 := hide (bind_ok HR.out hR3)
               obtain ⟨k', nm, ky, vl, ep, em, ec, bp, bm, bc, lp, lm, lc, rfl⟩ := hx.form
               replace hv : v = .agg #[.int .i64 k', .string (sB nm), .string (sB ky), .string (sB vl), .slice ep em ec, .slice bp bm bc, .slice lp lm lc] := hv
               subst hv
               have hPd := HP.out.new kD.out
               have hP8 := hPd.adv hA
               have hsz8 := hA.2.2.size
               have hgpl := hPd.box.lt
               obtain ⟨g2, cp, W6, hap, hrow, k6, hl6⟩ := hP8.stmts.step2 (m := s.length + 1) rfl hx (fun i hi => by
                 have hi' : _ ≤ i := hi
                 refine ⟨by omega, fun q => ?_⟩
                 have := (hPd.stmts.own_lt q).2
                 omega) (by have := Hlm.out; have := Hn.out; omega) (by omega)
               have hb8a := (hP8.new ((Keeps.refl w8 (fun _ => False)).alloc (.cells #[.int .i64 k', .string (sB nm), .string (sB ky), .string (sB vl), .slice ep em ec, .slice bp bm bc, .slice lp lm lc] 49))).box
               have hb6 := hP8.box.keeps k6 (fun q => by have := (hP8.stmts.own_lt q).1; omega)
               obtain ⟨⟨d80, d81⟩, -⟩ := hP8.box.cells
               obtain ⟨⟨da0, da1⟩, -⟩ := hb8a.cells
               obtain ⟨⟨d60, d61⟩, e60, e61⟩ := hb6.cells
               have HF := hide (And.intro hP8 (And.intro k6 (And.intro hrow (And.intro hb6 hl6))))
               clear hA hP8 hrow k6 hb8a hb6 hR3 hx hPd hsz8 hgpl hl6))
          all_goals (
            go_wp2_with fail
            refine P2.set1 (P := fun W => _) _ HF.out.2.2.2.1 fun W7 h7 k7 => ?_
            have HP7 := hide (HF.out.1.stmt HF.out.2.1 HF.out.2.2.1 HF.out.2.2.2.2 k7 h7)
            clear hne hcF kD HP HF h7 k7 HR d0 d1 e0 e1 d80 d81 da0 da1 d60 d61 e60 e61 hap
            go_roundg m
            case measure => exact Nat.lt_succ_self m
            case rel => exact ⟨s ++ [y], ts3, _, HR3.out.symm, by have := Hlm.out; rw [List.length_append]; show s.length + 1 + m ≤ n; omega, HP7.out⟩)
end Lg
end Go.Proofs.YtlpfnikhnchpdaaDoor
/-
  lang: rangeStmt. (Made by genLGT.py.)
-/
namespace Go.Proofs.YtlpfnikhnchpdaaDoor
namespace Lg
open Go.RowKit
set_option linter.unusedVariables false
/-- What stands behind the word for. -/
def rangeD (n : Nat) (ts : List Tk) : Rs St :=
  (nameD ts).bind fun k ts2 => (mustD kComma ts2).bind fun _ ts3 => (nameD ts3).bind fun v ts4 => (mustD kIn ts4).bind fun _ ts5 => (nameD ts5).bind fun m ts6 =>
    (blockD n ts6).bind fun b ts7 => .ok (.mk 8 m k v [] b []) ts7

set_option maxRecDepth 100000 in
set_option maxHeartbeats 4000000 in
theorem rangeStmt_step {b : Nat} {T : Bs} {n : Nat} (hB : ReadsG 91 #[.pointer (some ⟨b, 0, none⟩)] b T (blockD n) StsG) : ReadsG 92 #[.pointer (some ⟨b, 0, none⟩)] b T (rangeD n) StG := by
  intro w ts h E hD
  have hbw := hide h.lt
  have hgb := hide (show ¬ w.heap.size = b from fun q => Nat.lt_irrefl _ (q ▸ h.lt))
  have HI := hide (And.intro h E)
  clear h E
  obtain ⟨R, hR⟩ : ∃ R, rangeD n ts = R := ⟨_, rfl⟩
  have HR : Hid (R = (nameD ts).bind fun k ts2 => (mustD kComma ts2).bind fun _ ts3 => (nameD ts3).bind fun v ts4 => (mustD kIn ts4).bind fun _ ts5 => (nameD ts5).bind fun m ts6 =>
    (blockD n ts6).bind fun b ts7 => .ok (.mk 8 m k v [] b []) ts7) := hide (by rw [← hR]; first | rfl | (unfold rangeD; rfl))
  rw [hR] at hD ⊢
  have HRo := hide hD
  generalize hQ : Part w b T R (StG w.heap.size) = Q
  replace hQ := hide hQ
  clear hR hD
  have HBk := hide hB
  clear hB
  go_enter Tryd.func92, Tryd.ntmps92
  go_upto_region 1 with fail
  refine alloc1 (P := fun W => Code.wp _ _ _ _ W) fun W0 hg hz k0 => ?_
  have HA : Hid (AtS w w.heap.size b T ts W0) := hide ⟨HI.out.1.keeps k0 id, HI.out.2.keeps k0 (fun _ q => q.elim), kF k0 b, hg⟩
  clear hg hz k0 HI
  have hc : Calls Tryd.prog 65 #[.pointer (some ⟨b, 0, none⟩)] _ (Part _ b T (nameD (ts)) fun s v _ => v = .string (sB s)) := name_any HA.out.1 HA.out.2.1
  cases hR1 : nameD (ts) with
  | out => exact absurd hR1 (bind_out HR.out HRo.out)
  | no l er =>
    rw [hR1] at hc
    replace HR := hide (bind_no HR.out hR1)
    clear hR1
    go_wp2_with fail
    refine hc.mono ?_
    rintro e w9 ⟨rfl, h5, k5⟩
    refine ⟨rfl, ?_⟩
    rw [← hQ.out]
    exact part_no HR.out h5 HA.out.2.2.1 k5
  | ok k ts2 =>
    rw [hR1] at hc
    replace HR := hide (bind_ok HR.out hR1)
    clear hR1
    go_wp2_with fail
    refine hc.mono ?_
    rintro e wn1 ⟨v0, rfl, rfl, hA⟩
    replace HA := hide (HA.out.adv hA hgb.out)
    clear hc hA
    have hgl := hide HA.out.lt
    go_upto_region 2 with fail
    refine alloc1 (P := fun W => Code.wp _ _ _ _ W) fun W1 h1 hz1 k1 => ?_
    have HS : Hid (Sc W1 wn1.heap.size (.int .i64 8) (.string ⟨#[]⟩) (.string (sB k)) (.string ⟨#[]⟩) (.slice none 0 0) (.slice none 0 0) (.slice none 0 0)) := hide h1
    have hgl2 := hide (show wn1.heap.size < W1.heap.size by omega)
    replace HA := hide (HA.out.new k1)
    clear h1 hz1 k1
    generalize wn1.heap.size = gs at *
    have hbs : Hid (¬ gs = b) := hide (fun q => by have := hgl.out; have := hbw.out; omega)
    have hgg : Hid (¬ w.heap.size = gs) := hide (fun q => by have := hgl.out; omega)
    have hle : Hid (w.heap.size ≤ gs) := hide (Nat.le_of_lt hgl.out)
    have hc : Calls Tryd.prog 66 #[.pointer (some ⟨b, 0, none⟩), .string ⟨#[44]⟩] _ (Part _ b T (mustD kComma (ts2)) fun _ v _ => v = .tuple #[]) := must_any HA.out.1 HA.out.2.1 kComma
    cases hR2 : mustD kComma (ts2) with
    | out => exact absurd hR2 (bind_out HR.out HRo.out)
    | no l er =>
      rw [hR2] at hc
      replace HR := hide (bind_no HR.out hR2)
      clear hR2
      go_wp2_with fail
      refine hc.mono ?_
      rintro e w9 ⟨rfl, h5, k5⟩
      refine ⟨rfl, ?_⟩
      rw [← hQ.out]
      exact part_no HR.out h5 HA.out.2.2.1 k5
    | ok u2 ts3 =>
      rw [hR2] at hc
      replace HR := hide (bind_ok HR.out hR2)
      clear hR2
      go_wp2_with fail
      refine hc.mono ?_
      rintro e wn2 ⟨v0, rfl, rfl, hA⟩
      replace HS := hide (HS.out.keeps hA.2.2 hbs.out)
      replace HA := hide (HA.out.adv hA hgb.out)
      clear hc hA
      have hc : Calls Tryd.prog 65 #[.pointer (some ⟨b, 0, none⟩)] _ (Part _ b T (nameD (ts3)) fun s v _ => v = .string (sB s)) := name_any HA.out.1 HA.out.2.1
      cases hR3 : nameD (ts3) with
      | out => exact absurd hR3 (bind_out HR.out HRo.out)
      | no l er =>
        rw [hR3] at hc
        replace HR := hide (bind_no HR.out hR3)
        clear hR3
        go_wp2_with fail
        refine hc.mono ?_
        rintro e w9 ⟨rfl, h5, k5⟩
        refine ⟨rfl, ?_⟩
        rw [← hQ.out]
        exact part_no HR.out h5 HA.out.2.2.1 k5
      | ok v ts4 =>
        rw [hR3] at hc
        replace HR := hide (bind_ok HR.out hR3)
        clear hR3
        go_wp2_with fail
        refine hc.mono ?_
        rintro e wn3 ⟨v0, rfl, rfl, hA⟩
        replace HS := hide (HS.out.keeps hA.2.2 hbs.out)
        replace HA := hide (HA.out.adv hA hgb.out)
        clear hc hA
        obtain ⟨⟨d0, d1, d2, d3, d4, d5, d6⟩, e0, e1, e2, e3, e4, e5, e6⟩ := HS.out.cells
        go_upto_region 4 with fail
        refine Sc.set3 (P := fun W => Code.wp _ _ _ _ W) _ HS.out fun W1 h1 k1 => ?_
        replace HA := hide (HA.out.own k1 hle.out hbw.out hgg.out)
        replace HS := hide h1
        clear d0 d1 d2 d3 d4 d5 d6 e0 e1 e2 e3 e4 e5 e6
        clear h1 k1
        have hc : Calls Tryd.prog 66 #[.pointer (some ⟨b, 0, none⟩), .string ⟨#[105, 110]⟩] _ (Part _ b T (mustD kIn (ts4)) fun _ v _ => v = .tuple #[]) := must_any HA.out.1 HA.out.2.1 kIn
        cases hR4 : mustD kIn (ts4) with
        | out => exact absurd hR4 (bind_out HR.out HRo.out)
        | no l er =>
          rw [hR4] at hc
          replace HR := hide (bind_no HR.out hR4)
          clear hR4
          go_wp2_with fail
          refine hc.mono ?_
          rintro e w9 ⟨rfl, h5, k5⟩
          refine ⟨rfl, ?_⟩
          rw [← hQ.out]
          exact part_no HR.out h5 HA.out.2.2.1 k5
        | ok u4 ts5 =>
          rw [hR4] at hc
          replace HR := hide (bind_ok HR.out hR4)
          clear hR4
          go_wp2_with fail
          refine hc.mono ?_
          rintro e wn4 ⟨v0, rfl, rfl, hA⟩
          replace HS := hide (HS.out.keeps hA.2.2 hbs.out)
          replace HA := hide (HA.out.adv hA hgb.out)
          clear hc hA
          have hc : Calls Tryd.prog 65 #[.pointer (some ⟨b, 0, none⟩)] _ (Part _ b T (nameD (ts5)) fun s v _ => v = .string (sB s)) := name_any HA.out.1 HA.out.2.1
          cases hR5 : nameD (ts5) with
          | out => exact absurd hR5 (bind_out HR.out HRo.out)
          | no l er =>
            rw [hR5] at hc
            replace HR := hide (bind_no HR.out hR5)
            clear hR5
            go_wp2_with fail
            refine hc.mono ?_
            rintro e w9 ⟨rfl, h5, k5⟩
            refine ⟨rfl, ?_⟩
            rw [← hQ.out]
            exact part_no HR.out h5 HA.out.2.2.1 k5
          | ok m ts6 =>
            rw [hR5] at hc
            replace HR := hide (bind_ok HR.out hR5)
            clear hR5
            go_wp2_with fail
            refine hc.mono ?_
            rintro e wn5 ⟨v0, rfl, rfl, hA⟩
            replace HS := hide (HS.out.keeps hA.2.2 hbs.out)
            replace HA := hide (HA.out.adv hA hgb.out)
            clear hc hA
            obtain ⟨⟨d0, d1, d2, d3, d4, d5, d6⟩, e0, e1, e2, e3, e4, e5, e6⟩ := HS.out.cells
            go_upto_region 6 with fail
            refine Sc.set1 (P := fun W => Code.wp _ _ _ _ W) _ HS.out fun W1 h1 k1 => ?_
            replace HA := hide (HA.out.own k1 hle.out hbw.out hgg.out)
            replace HS := hide h1
            clear d0 d1 d2 d3 d4 d5 d6 e0 e1 e2 e3 e4 e5 e6
            clear h1 k1
            have hne6 : blockD n (ts6) ≠ .out := bind_out HR.out HRo.out
            have hc := HBk.out _ (ts6) HA.out.1 HA.out.2.1 hne6
            cases hR6 : blockD n (ts6) with
            | out => exact absurd hR6 (bind_out HR.out HRo.out)
            | no l er =>
              rw [hR6] at hc
              replace HR := hide (bind_no HR.out hR6)
              clear hR6 hne6
              go_wp2_with fail
              refine hc.mono ?_
              rintro e w9 ⟨rfl, h5, k5⟩
              refine ⟨rfl, ?_⟩
              rw [← hQ.out]
              exact part_no HR.out h5 HA.out.2.2.1 k5
            | ok bl ts7 =>
              rw [hR6] at hc
              replace HR := hide (bind_ok HR.out hR6)
              clear hR6 hne6
              go_wp2_with fail
              have hb7 := hide (show gs < _ from HS.out.lt)
              refine hc.mono ?_
              rintro e w7 ⟨v0, rfl, hx, hA⟩
              have hx' : StsV w7 (fun i => _ ≤ i) bl v0 := hx
              obtain ⟨sp, sm, sc, rfl⟩ := hx'.form
              have HX := hide hx
              replace HS := hide (HS.out.keeps hA.2.2 hbs.out)
              replace HA := hide (HA.out.adv hA hgb.out)
              clear hc hA hx hx'
              obtain ⟨⟨d0, d1, d2, d3, d4, d5, d6⟩, e0, e1, e2, e3, e4, e5, e6⟩ := HS.out.cells
              go_upto_region 7 with fail
              refine Sc.set5 (P := fun W => Code.wp _ _ _ _ W) _ HS.out fun W1 h1 k1 => ?_
              replace HA := hide (HA.out.own k1 hle.out hbw.out hgg.out)
              have HX2 := hide (StsV.keeps k1 (fun i hi q => by have : _ ≤ i := hi; have := hb7.out; omega) HX.out)
              replace HS := hide h1
              clear d0 d1 d2 d3 d4 d5 d6 e0 e1 e2 e3 e4 e5 e6
              clear h1 k1
              obtain ⟨⟨d0, d1, d2, d3, d4, d5, d6⟩, e0, e1, e2, e3, e4, e5, e6⟩ := HS.out.cells
              obtain ⟨⟨c0, c1, c2, c3, c4, c5, c6⟩, f0, f1, f2, f3, f4, f5, f6⟩ := HA.out.2.2.2.cells
              generalize hgz : w.heap.size = g at *
              replace hgz := hide hgz
              go_wp2_with fail
              refine set7 (P := fun W => bodyPost _ _ _ _ _ W) HA.out.2.2.2 fun W5 h11 k11 => ?_
              obtain ⟨⟨q0, q1, q2, q3, q4, q5, q6⟩, -⟩ := h11.cells
              refine bodyPost_ret (v := .agg #[.int .i64 8, .string (sB m), .string (sB k), .string (sB v), .slice none 0 0, .slice sp sm sc, .slice none 0 0]) (by simp [results, Tryd.results92, go_sem, q0, q1, q2, q3, q4, q5, q6]) rfl ?_
              rw [← hQ.out]
              exact part_ok HR.out (res_st rfl hgz.out HA.out.2.2.1 (StC.mk ArgsV.nil HX2.out StsV.nil) (fun i hi => by have : _ ≤ i := hi; have := hb7.out; have := hgl.out; omega) HA.out.1 HA.out.2.1 hbw.out k11)
end Lg
end Go.Proofs.YtlpfnikhnchpdaaDoor
