/-
  code: readHead, readInst.
-/
import Derived.Test.YtnicbillhlhmmaaDoorCW8
import Derived.Deep.AppendLies
import Derived.Deep.RegionLaw
namespace Go.Proofs.YtnicbillhlhmmaaDoor
namespace Cw
open Go.RowKit
set_option linter.unusedVariables false
theorem step_append_run {P : Program} {w : World} {ops : Array Oper} {o : Oper} {a : Act} {K : Act → World → Prop} {Q : Exit → Act → World → Prop} {E : Prop} (hgd : o.guard = none) (s x : Operand) (t : TypeId)
    (ho : o.op = .call { callee := .builtin .append, args := #[s, x], argTypes := #[t, t] }) {v u v' : Value} {w' : World} (hs : a.eval s = v) (hx : a.eval x = u)
    (hrun : ∀ ty, (Builtin.append_ #[t, t] ty #[v, u]).run P w = .ok v' w') (h : K (a.put o.dst v') w') :
    if Region.wanted o (yielded ops a.tmps) = true then Oper.wp P o a w K Q else E := by
  have hw : Region.wanted o (yielded ops a.tmps) = true := by simp [Region.wanted, hgd]
  rw [if_pos hw]
  unfold Oper.wp execOp
  simp only [ho, resolve, invoke, builtin, Sem.run_bind, Sem.run_pure, Result.andThen_ok, List.map_toArray, List.map_cons, List.map_nil, hs, hx, hrun]
  exact h
/-- One struct more. -/
theorem append_row (t e : TypeId) (z : Value) (size bytes : Nat) (ht : Tryd.prog.underlying t = some (.slice e)) (hi : (Tryd.prog.info? e).map (fun i => (i.zero, i.size, i.bytes)) = some (some z, size, bytes)) (hz : z.cells.size = size) (hs0 : 0 < size)
    {W : World} {base n : Nat} {v : Value} {xs us : List Value} (own : W.ownsRow base e size v n xs) {p : Nat} {ut : TypeId} {fz : Nat × Nat} (hp : W.heap[p]? = some (.cells us.toArray ut fz)) (hus : us.length = size) (h1 : ∀ u ∈ us, u.oneCell' = true) (hb : (n + 1) * bytes ≤ 140737488355328) (hn : n + 1 ≤ 1099511627776) (hbase : base ≤ W.heap.size) :
    ∃ g2 c2 W', (∀ ty, (Builtin.append_ #[t, t] ty #[v, .slice (some ⟨p, 0, none⟩) 1 1]).run Tryd.prog W = .ok (.slice (some ⟨g2, 0, none⟩) (n + 1) c2) W') ∧ W'.ownsRow base e size (.slice (some ⟨g2, 0, none⟩) (n + 1) c2) (n + 1) (xs ++ us) ∧ Keeps W W' (fun k => v.ownBlock = some k) := by
  have hi' : ∃ i, Tryd.prog.info? e = some i ∧ i.zero = some z ∧ i.size = size ∧ i.bytes = bytes := by
    cases h : Tryd.prog.info? e with
    | none => rw [h] at hi; cases hi
    | some i =>
      rw [h] at hi
      simp at hi
      exact ⟨i, rfl, hi.1, hi.2.1, hi.2.2⟩
  obtain ⟨i, q1, q2, q3, q4⟩ := hi'
  obtain ⟨g, cap, w', hr, h2, h3, h4, _⟩ := run_append_lies (P := Tryd.prog) W t 0 base e i z size bytes ht q1 q2 q3 q4 hz hs0 v n xs own ⟨p, 0, none⟩ 1 1 us (by omega)
    (fun j x hj => by
      rw [addr_add, Nat.zero_add]
      simp only [World.cell?, hp]
      simpa using hj) h1 (by omega) (by simp only [maxLen]; omega) hb hbase W.heap.size rfl
  exact ⟨g, cap, w', fun ty => hr, h2, ⟨h3.os, h3.tape, h3.output, h3.size, fun k hk hn => h3.block k hk (fun e => hn e.symm)⟩⟩
def flatI (is : List In) : List Value := is.flatMap fun x => [.int .i64 x.op, .int .i64 x.a, .int .i64 x.n]
theorem flatI_app (is : List In) (x : In) : flatI (is ++ [x]) = flatI is ++ [.int .i64 x.op, .int .i64 x.a, .int .i64 x.n] := by simp [flatI]
theorem infoInst : (Tryd.prog.info? 36).map (fun i => (i.zero, i.size, i.bytes)) = some (some (.agg #[.int .i64 0, .int .i64 0, .int .i64 0]), 3, 24) := by kernel_rfl
/-- A code that is being read: its block, and its list, in a block from base on. -/
def CdB (W : World) (b : Nat) (v m : Int) (sl : Value) : Prop := W.heap[b]? = some (.cells #[.int .i64 v, .int .i64 m, sl] 24)
def CdR (base b : Nat) (c : Cd) (W : World) : Prop := ∃ sl, CdB W b c.v c.m sl ∧ W.ownsRow base 36 3 sl c.is.length (flatI c.is)
theorem CdR.keeps {base b : Nat} {c : Cd} {W W' : World} (h : CdR base b c W) (k : Keeps W W' (fun _ => False)) : CdR base b c W' := by
  obtain ⟨sl, h1, h2⟩ := h
  exact ⟨sl, (k.block b (heap_lt h1) id).trans h1, ownsRow_keeps h2 k (fun _ _ e => e)⟩
theorem CdB.cells {W : World} {b : Nat} {v m : Int} {sl : Value} (h : CdB W b v m sl) : (W.cell? ⟨b, 0, none⟩ = some (.int .i64 v) ∧ W.cell? ⟨b, 1, none⟩ = some (.int .i64 m) ∧ W.cell? ⟨b, 2, none⟩ = some sl) ∧ W.frozen? ⟨b, 0, none⟩ = false ∧ W.frozen? ⟨b, 1, none⟩ = false ∧ W.frozen? ⟨b, 2, none⟩ = false := by
  unfold CdB at h
  simp [World.cell?, World.frozen?, h]
theorem set_one' {w : World} {b : Nat} {cs : Array Value} {t : TypeId} (h : w.heap[b]? = some (.cells cs t)) (i : Nat) (v : Value) (hi : i < cs.size) :
    (w.setCell ⟨b, i, none⟩ v).heap[b]? = some (.cells (cs.set i v hi) t) := by
  have hlt := (Array.getElem?_eq_some_iff.1 h).1
  have hv := (Array.getElem?_eq_some_iff.1 h).2
  simp only [World.setCell, Array.getElem?_modify]
  simp [hlt, hv, hi, Array.setIfInBounds]
theorem CdB.set0 {w : World} {g : Nat} {v m : Int} {sl : Value} (h : CdB w g v m sl) (x : Int) : CdB (w.setCell ⟨g, 0, none⟩ (.int .i64 x)) g x m sl := set_one' h 0 _ (by simp)
theorem CdB.set1 {w : World} {g : Nat} {v m : Int} {sl : Value} (h : CdB w g v m sl) (x : Int) : CdB (w.setCell ⟨g, 1, none⟩ (.int .i64 x)) g v x sl := set_one' h 1 _ (by simp)
theorem CdB.set2 {w : World} {g : Nat} {v m : Int} {sl : Value} (h : CdB w g v m sl) (x : Value) : CdB (w.setCell ⟨g, 2, none⟩ x) g v m x := set_one' h 2 _ (by simp)
theorem cd_set2 {w : World} {g : Nat} {v m : Int} {sl : Value} (h : CdB w g v m sl) {x : Value} {P : World → Prop} (hP : ∀ W, CdB W g v m x → Keeps w W (fun i => i = g) → P W) : P (w.setCell ⟨g, 2, none⟩ x) :=
  hP _ (h.set2 x) ((Keeps.refl w (fun i => i = g)).setCell _ (fun _ => rfl) _)
theorem cd_set01 {w : World} {g : Nat} {v m : Int} {sl : Value} (h : CdB w g v m sl) {x y : Int} {P : World → Prop} (hP : ∀ W, CdB W g x y sl → Keeps w W (fun i => i = g) → P W) : P ((w.setCell ⟨g, 0, none⟩ (.int .i64 x)).setCell ⟨g, 1, none⟩ (.int .i64 y)) :=
  hP _ ((h.set0 x).set1 y) (((Keeps.refl w (fun i => i = g)).setCell _ (fun _ => rfl) _).setCell _ (fun _ => rfl) _)
/-- What a line's reading comes to. -/
def LineP (base b : Nat) (w : World) (o : Option Cd) (e : Ending) (w' : World) : Prop :=
  Keeps w w' (fun i => i = b ∨ base ≤ i) ∧ (match o with
    | some c => e = .returned (.bool true) ∧ CdR base b c w'
    | none => e = .returned (.bool false))
theorem keepsX {w w' : World} {S : Nat → Prop} (k : Keeps w w' (fun _ => False)) : Keeps w w' S := ⟨k.os, k.tape, k.output, k.size, fun i hi _ => k.block i hi id⟩
theorem keepsB {w w' : World} {base b : Nat} (k : Keeps w w' (fun i => i = b)) : Keeps w w' (fun i => i = b ∨ base ≤ i) := ⟨k.os, k.tape, k.output, k.size, fun i hi hn => k.block i hi (fun e => hn (Or.inl e))⟩
set_option maxRecDepth 100000 in
set_option maxHeartbeats 2000000 in
theorem readHead_any (base b : Nat) (hbb : b < base) (c : Cd) (s : Bs) (v : Value) (fs : List Bs) (w : World) (he : ErrW w) (hb : CdR base b c w) (hv : StrV w v fs) (hsz : ∀ s, s ∈ fs → s.length ≤ 8388608) (hl : fs.length ≤ 8388608) :
    Calls Tryd.prog 22 #[.pointer (some ⟨b, 0, none⟩), .string (sB s), v] w fun e w' => LineP base b w (rdD false c s fs) e w' := by
  have hN := numbersOf_any v fs w he hv hsz hl
  obtain ⟨R, hR⟩ : ∃ R, rdD false c s fs = R := ⟨_, rfl⟩
  rw [hR]
  unfold rdD at hR
  have Hb := hide hb
  clear he hv hsz hl hb
  have hlit : (sB codeB).toList = [99, 111, 100, 101] := by decide +kernel
  cases hns : numsD fs with
  | none =>
    rw [hns] at hN hR
    have hR' : none = R := hR
    subst hR'
    clear hns hR hlit
    go_enter Tryd.func22, Tryd.ntmps22
    go_wp2_with fail
    (with_reducible refine hN.mono ?_)
    rintro e w1 ⟨h1, k1⟩
    obtain rfl := h1
    have K1 := hide k1
    clear hN k1
    go_wp2_with fail
    go_ret
    exact ⟨keepsX K1.out, rfl⟩
  | some ns =>
    rw [hns] at hN hR
    have hR' : (if s = codeB then (match ns with | [v, m] => some { c with v := v, m := m } | _ => none) else none) = R := hR
    clear hns hR
    by_cases hc : s = codeB
    · rw [if_pos hc] at hR'
      have hcmp : ((sB s).toList == [99, 111, 100, 101]) = true := by rw [hc, hlit]; rfl
      clear hc hlit
      generalize sB s = sw at *
      by_cases h2 : ns.length = 2
      · obtain ⟨x, y, rfl⟩ : ∃ x y, ns = [x, y] := by
          rcases ns with _ | ⟨x, _ | ⟨y, _ | ⟨z, r⟩⟩⟩
          · cases h2
          · cases h2
          · exact ⟨x, y, rfl⟩
          · simp at h2
        have hR2 : some { c with v := x, m := y } = R := hR'
        subst hR2
        clear h2 hR'
        go_enter Tryd.func22, Tryd.ntmps22
        go_wp2_with fail
        (with_reducible refine hN.mono ?_)
        rintro e w1 ⟨⟨r, h1, h2, -⟩, k1⟩
        obtain rfl := h1
        obtain ⟨g, o, cc, rfl, hcs⟩ := i64_cells h2 (by simp)
        have d0 := hcs 0 (by show 0 < 2; decide)
        have d1 := hcs 1 (by show 1 < 2; decide)
        simp only [List.getElem_cons_zero, List.getElem_cons_succ, Nat.add_zero] at d0 d1
        obtain ⟨sl, q1, q2⟩ := Hb.out.keeps k1
        obtain ⟨⟨c0, c1, c2⟩, f0, f1, f2⟩ := q1.cells
        have HQ := hide (And.intro q1 (And.intro q2 k1))
        clear hN k1 h2 hcs q1 q2
        go_wp2_with fail
        go_region
        all_goals (go_wp2_with fail)
        refine cd_set01 (P := fun W => bodyPost _ _ _ _ _ W.drew) HQ.out.1 fun W5 h5 k5 => ?_
        refine bodyPost_ret (v := .bool true) (by simp [results, Tryd.results22, go_sem]) rfl ?_
        obtain ⟨q1, q2, q3⟩ := HQ.out
        refine ⟨(keepsX q3).trans (keepsB k5.drew) (fun _ _ e => e), rfl, sl, h5, ownsRow_keeps q2 k5.drew (fun g eg e => ?_)⟩
        have := (ownsRow_block q2 eg).1
        omega
      · have hR2 : none = R := by
          rw [← hR']
          rcases ns with _ | ⟨x, _ | ⟨y, _ | ⟨z, r⟩⟩⟩
          · rfl
          · rfl
          · exact absurd rfl h2
          · rfl
        subst hR2
        have e2 : (((ns.length : Nat) : Int) != 2) = true := by simp; omega
        clear h2 hR'
        go_enter Tryd.func22, Tryd.ntmps22
        go_wp2_with fail
        (with_reducible refine hN.mono ?_)
        rintro e w1 ⟨⟨r, h1, ⟨p, cc, rfl, -⟩, -⟩, k1⟩
        obtain rfl := h1
        have K1 := hide k1
        clear hN k1
        go_wp2_with fail
        go_ret
        exact ⟨keepsX K1.out, rfl⟩
    · rw [if_neg hc] at hR'
      subst hR'
      have hcmp : ((sB s).toList == [99, 111, 100, 101]) = false := by
        have h1 := str_no (sB_ne hc)
        rw [hlit] at h1
        exact h1
      clear hc hlit
      generalize sB s = sw at *
      go_enter Tryd.func22, Tryd.ntmps22
      go_wp2_with fail
      (with_reducible refine hN.mono ?_)
      rintro e w1 ⟨⟨r, h1, ⟨p, cc, rfl, -⟩, -⟩, k1⟩
      obtain rfl := h1
      have K1 := hide k1
      clear hN k1
      go_wp2_with fail
      go_ret
      exact ⟨keepsX K1.out, rfl⟩
set_option maxRecDepth 100000 in
set_option maxHeartbeats 2000000 in
theorem readInst_any (base b : Nat) (hbb : b < base) (c : Cd) (s : Bs) (v : Value) (fs : List Bs) (w : World) (hF : FormsAt w) (he : ErrW w) (hb : CdR base b c w) (hbw : base ≤ w.heap.size) (hn : c.is.length ≤ 8388608) (hv : StrV w v fs) (hsz : ∀ s, s ∈ fs → s.length ≤ 8388608) (hl : fs.length ≤ 8388608) :
    Calls Tryd.prog 21 #[.pointer (some ⟨b, 0, none⟩), .string (sB s), v] w fun e w' => LineP base b w (rdD true c s fs) e w' := by
  have hN := numbersOf_any v fs w he hv hsz hl
  obtain ⟨R, hR⟩ : ∃ R, rdD true c s fs = R := ⟨_, rfl⟩
  rw [hR]
  unfold rdD at hR
  have Hb := hide (And.intro hb (And.intro hF (And.intro hbw hn)))
  clear he hv hsz hl hb hF hbw hn
  cases hns : numsD fs with
  | none =>
    rw [hns] at hN hR
    have hR' : none = R := hR
    subst hR'
    clear hns hR
    go_enter Tryd.func21, Tryd.ntmps21
    go_wp2_with fail
    (with_reducible refine hN.mono ?_)
    rintro e w1 ⟨h1, k1⟩
    obtain rfl := h1
    have K1 := hide k1
    clear hN k1
    go_wp2_with fail
    go_ret
    exact ⟨keepsX K1.out, rfl⟩
  | some ns =>
    rw [hns] at hN hR
    have hR' : (instD s ns).map (fun x => { c with is := c.is ++ [x] }) = R := hR
    clear hns hR
    have hI := fun (r : Value) (W : World) (k : Keeps w W (fun _ => False)) (h : I64V W r ns) => instOf_any s r ns W (Hb.out.2.1.keeps k) h
    have HI := hide hI
    clear hI
    cases hi : instD s ns with
    | none =>
      rw [hi] at hR' HI
      have hR2 : none = R := hR'
      subst hR2
      clear hi hR'
      generalize sB s = sw at *
      go_enter Tryd.func21, Tryd.ntmps21
      go_wp2_with fail
      (with_reducible refine hN.mono ?_)
      rintro e w1 ⟨⟨r, h1, h2, -⟩, k1⟩
      obtain rfl := h1
      have hI1 := HI.out r w1 k1 h2
      have K1 := hide k1
      clear hN k1 h2
      go_wp2_with fail
      (with_reducible refine hI1.mono ?_)
      rintro e w2 ⟨⟨⟨yo, ya, yn⟩, h1⟩, k2⟩
      unfold inV at h1
      obtain rfl := h1
      have K2 := hide k2
      clear hI1 k2
      go_wp2_with fail
      go_ret
      exact ⟨(keepsX (K1.out.trans (K2.out.alloc _) (fun _ _ e => e))), rfl⟩
    | some x =>
      rw [hi] at hR' HI
      have hR2 : some { c with is := c.is ++ [x] } = R := hR'
      subst hR2
      clear hi hR'
      obtain ⟨xo, xa, xn⟩ := x
      generalize sB s = sw at *
      go_enter Tryd.func21, Tryd.ntmps21
      go_wp2_with fail
      (with_reducible refine hN.mono ?_)
      rintro e w1 ⟨⟨r, h1, h2, -⟩, k1⟩
      obtain rfl := h1
      have hI1 := HI.out r w1 k1 h2
      have K1 := hide k1
      clear hN k1 h2
      go_wp2_with fail
      (with_reducible refine hI1.mono ?_)
      rintro e w2 ⟨h1, k2⟩
      have h1' : e = .returned (.tuple #[.agg #[.int .i64 xo, .int .i64 xa, .int .i64 xn], .bool true]) := h1
      subst h1'
      obtain ⟨hb, hF, hbw, hn⟩ := Hb.out
      have k02 := K1.out.trans k2 (fun _ _ e => e)
      obtain ⟨W3, hW3⟩ : ∃ W3, W3 = w2.alloc (.cells #[.int .i64 xo, .int .i64 xa, .int .i64 xn] 36) := ⟨_, rfl⟩
      have k23 : Keeps w2 W3 (fun _ => False) := by rw [hW3]; exact (Keeps.refl _ _).alloc _
      have hloc : W3.heap[w2.heap.size]? = some (.cells #[.int .i64 xo, .int .i64 xa, .int .i64 xn] 36) := by rw [hW3]; exact heap_alloc_new _ _
      have k03 := k02.trans k23 (fun _ _ e => e)
      obtain ⟨sl, q1, q2⟩ := hb.keeps k03
      obtain ⟨⟨c0, c1, c2⟩, f0, f1, f2⟩ := q1.cells
      obtain ⟨l0, l1, l2⟩ := cells3 hloc
      have hslf : ∃ pp ll cc, sl = .slice pp ll cc := by
        rcases q2.2 with ⟨e1, -⟩ | ⟨g, cap, cur, e1, -⟩
        · exact ⟨_, _, _, e1⟩
        · exact ⟨_, _, _, e1⟩
      have own4 : (W3.alloc (.cells #[.int .i64 xo, .int .i64 xa, .int .i64 xn] 36)).drew.ownsRow base 36 3 sl c.is.length (flatI c.is) := ownsRow_drew (World.ownsRow.alloc q2 _)
      have hnew : (W3.alloc (.cells #[.int .i64 xo, .int .i64 xa, .int .i64 xn] 36)).drew.heap[W3.heap.size]? = some (.cells #[.int .i64 xo, .int .i64 xa, .int .i64 xn] 36) := heap_alloc_new W3 (.cells #[.int .i64 xo, .int .i64 xa, .int .i64 xn] 36)
      obtain ⟨g2, c2', W4, hap, own5, k45⟩ := append_row 22 36 _ 3 24 Tryd.underlying22 infoInst rfl (by decide) own4 (us := [.int .i64 xo, .int .i64 xa, .int .i64 xn]) hnew rfl (by simp [Value.oneCell']) (by omega) (by omega) (by have := k03.size; show base ≤ (W3.alloc (.cells #[.int .i64 xo, .int .i64 xa, .int .i64 xn] 36)).heap.size; simp; omega)
      have kA : Keeps W3 (W3.alloc (.cells #[.int .i64 xo, .int .i64 xa, .int .i64 xn] 36)) (fun _ => False) := (Keeps.refl _ _).alloc _
      have q1a : CdB (W3.alloc (.cells #[.int .i64 xo, .int .i64 xa, .int .i64 xn] 36)) b c.v c.m sl := (kA.block b (heap_lt q1) id).trans q1
      have q1b : CdB W4 b c.v c.m sl := (k45.block b (heap_lt q1a) (fun q => by have := (ownsRow_block own4 q).1; omega)).trans q1a
      obtain ⟨⟨d0, d1, d2⟩, e0, e1, e2⟩ := q1a.cells
      obtain ⟨⟨g0, g1, g2'⟩, f0', f1', f2'⟩ := q1b.cells
      have hloca : (W3.alloc (.cells #[.int .i64 xo, .int .i64 xa, .int .i64 xn] 36)).heap[w2.heap.size]? = some (.cells #[.int .i64 xo, .int .i64 xa, .int .i64 xn] 36) := (kA.block _ (heap_lt hloc) id).trans hloc
      obtain ⟨m0, m1, m2⟩ := cells3 hloca
      have kF : Keeps w W4 (fun i => i = b ∨ base ≤ i) := ((keepsX k03 : Keeps w W3 (fun i => i = b ∨ base ≤ i)).alloc (.cells #[.int .i64 xo, .int .i64 xa, .int .i64 xn] 36)).drew.trans k45 (fun q _ eq => Or.inr (ownsRow_block own4 eq).1)
      have HQ := hide (And.intro q1b (And.intro own5 kF))
      obtain ⟨pp, ll, cc, rfl⟩ := hslf
      clear hI1 k2 hb hF hbw hn k02 k23 hloc k03 q1 q2 own4 own5 k45 q1a q1b hloca kF hnew kA
      go_wp2_with fail
      rw [← hW3]
      clear hW3
      go_region_law (refine step_append_run (by rfl) _ _ 22 (by rfl) (by rfl) (by rfl) hap ?_)
      all_goals (
        go_wp2_with fail
        refine cd_set2 (P := fun W => bodyPost _ _ _ _ _ W) HQ.out.1 fun W5 h5 k5 => ?_
        refine bodyPost_ret (v := .bool true) (by simp [results, Tryd.results21, go_sem]) rfl ?_
        obtain ⟨q1, q2, q3⟩ := HQ.out
        refine ⟨q3.trans (keepsB k5) (fun _ _ e => e), rfl, _, h5, ?_⟩
        rw [flatI_app, List.length_append]
        refine ownsRow_keeps q2 k5 (fun g eg e => ?_)
        have := (ownsRow_block q2 eg).1
        omega)
end Cw
end Go.Proofs.YtnicbillhlhmmaaDoor
