import Derived.Test.YtkjbhhfnhpnifaaPF1
import Derived.Test.YtkjbhhfnhpnifaaPO3
namespace Go.Proofs.Ytkjbhhfnhpnifaa

theorem u64_nat {a : Int} (h : (Lit.int .u64 a).wf = true) : ∃ A : Nat, a = (A : Int) ∧ A < 18446744073709551616 := by
  have h2 : 0 ≤ a ∧ a < 18446744073709551616 := by
    have e1 : IntKind.u64.min = 0 := rfl
    have e2 : IntKind.u64.max = 18446744073709551615 := rfl
    simp only [Lit.wf, decide_eq_true_eq, Bool.and_eq_true] at h
    rw [e1, e2] at h
    omega
  exact ⟨a.toNat, by omega, by omega⟩

namespace probeOrders
open Go.RowKit Go.Shelf
set_option linter.unusedVariables false

theorem run_store_func {P : Program} {w : World} {a : Addr} {m : Mode} (f : Fn) (xs ys : Array Value) : (store a (.func f xs ys) m).run P w = stored P w a (.func f xs ys) m := run_store P w a _ m rfl

attribute [local go_sem] Oper.semAt_some run_store_func

theorem eq_nil_seq (W : World) (g : Nat) (x : Array Value) : (binOp .eql 26 (.func (.func g) #[] x) .nilFunc).run Try.prog W = .ok (.bool false) W := by
  rfl
theorem resO (tmps : Array Value) (w : World) (B : Nat) (v : Value) (hp : tmps.getD 6 undef = .pointer (some ⟨B, 0, none⟩)) (hc : w.cell? ⟨B, 0, none⟩ = some v) : (results Try.f4 tmps).run Try.prog w = .ok v w := by
  have hp' : tmps[6]?.getD undef = .pointer (some ⟨B, 0, none⟩) := by simpa using hp
  simp [results, Try.results4, go_sem, hp', hc]

theorem allocs2 (w : World) (o0 o1 : Obj) : ∃ W, W = (w.alloc o0).alloc o1 ∧ Kp w W ∧ W.heap.size = w.heap.size + 2 ∧ W.heap[w.heap.size]? = some o0 ∧ W.heap[w.heap.size + 1]? = some o1 := by
  have s1 : (w.alloc o0).heap.size = w.heap.size + 1 := by simp
  refine ⟨_, rfl, ((Kp.refl w).alloc o0).alloc o1, by simp, ?_, ?_⟩
  · exact heap_old (heap_new w o0)
  · have := heap_new (w.alloc o0) o1; rwa [s1] at this

/-- The list that is wanted, in blocks below N. -/
def WantAt (N : Nat) (W : World) (a : Option Addr) (L : List Nat) : Prop := ∀ k (hk : k < L.length), ∃ b, b < N ∧ a = some ⟨b, 0, none⟩ ∧ W.cell? ⟨b, k, none⟩ = some (.int .i64 ((L[k] : Nat) : Int))
theorem WantAt.but {N g : Nat} {W W' : World} {a : Option Addr} {L : List Nat} (h : WantAt N W a L) (hb : But g W W') (hg : N ≤ g) : WantAt N W' a L := fun k hk => by
  obtain ⟨b, h1, h2, h3⟩ := h k hk
  exact ⟨b, h1, h2, hb.cell h3 (by show b ≠ g; omega)⟩
theorem WantAt.kp {N : Nat} {W W' : World} {a : Option Addr} {L : List Nat} (h : WantAt N W a L) (hb : Kp W W') : WantAt N W' a L := fun k hk => by
  obtain ⟨b, h1, h2, h3⟩ := h k hk
  exact ⟨b, h1, h2, hb.cell h3⟩

set_option maxRecDepth 100000 in
set_option maxHeartbeats 8000000 in
theorem core (h : Nat) (g stop : Int) (w : World) (hh : h < 18446744073709551616) :
    Calls Try.prog 4 #[.int .u64 (h : Int), .int .i64 g, .int .i64 stop] w fun e w' => e = .returned (.bool true) ∧ Kp w w' := by
  have hO := order_call (h : Int) g
  have hR := fun w => rorder_any h g w hh
  have hlen := ordN_len_le (h := h) (g := g)
  have hnil := eq_nil_seq
  obtain ⟨L, hL⟩ : ∃ L, L = ordN h g := ⟨_, rfl⟩
  rw [← hL] at hlen hR
  replace hL := hide hL
  refine (callsIn_wide (n := 8)).1 ?_
  refine callsIn_of_wp_marks Try.func4 rfl trivial ?_ rfl
  simp only [Try.ntmps4, List.size_toArray, List.length_cons, List.length_nil, Nat.reduceAdd, Nat.reduceSub, Array.replicate_succ, Array.replicate_zero, List.push_toArray, List.append_toArray, List.nil_append, List.cons_append]
  rw [wpIn_wide]
  obtain ⟨V0, hV0, kv, hszv, hsv, hrv⟩ := allocs2 w (.cells #[.int .i64 stop] 3) (.cells #[.bool false] 4)
  go_wp2_with fail
  rw [← hV0]
  clear hV0
  refine (hR _).mono ?_
  rintro e W1 ⟨v, rfl, hrow, k1⟩
  obtain ⟨a, cap, rfl, hcells⟩ := hrow.slice
  have hwant1 : WantAt W1.heap.size W1 a L := fun k hk => by
    obtain ⟨b, h1, h2, h3, h4⟩ := hcells k hk
    exact ⟨b, h2, h3, h4⟩
  clear hcells hrow hR
  have hst1 := k1.blk hsv
  have hrs1 := k1.blk hrv
  have hk1 := kv.trans k1
  have hsz1 : Aside (w.heap.size + 2 ≤ W1.heap.size) := by have := k1.size; show _ ≤ _; omega
  clear hsv hrv kv k1 hszv
  go_wp2_with fail
  refine (hO _).mono ?_
  rintro e W ⟨rfl, rfl⟩
  obtain ⟨W0, hW0, k0, hsz0, hw0, hb0, hg0, ho0, hn0⟩ := allocs5 W1 (.cells #[.slice a L.length cap] 29) (.cells #[.int .u64 (h : Int)] 22) (.cells #[.int .i64 g] 3) (.cells #[.func (.func 19) #[] #[.pointer (some ⟨W1.heap.size + 1 + 1, 0, none⟩), .pointer (some ⟨W1.heap.size + 1, 0, none⟩)]] 26) (.cells #[.int .i64 0] 3)
  go_wp2_with fail
  rw [← hW0]
  clear hW0 hO hnil
  have hwant := hwant1.kp k0
  have hst := k0.blk hst1
  have hrs := k0.blk hrs1
  have kw := hk1.trans k0
  clear hwant1 hst1 hrs1 hk1 k0
  obtain ⟨S0, hS0⟩ : ∃ B, B = w.heap.size := ⟨_, rfl⟩
  obtain ⟨S1, hS1⟩ : ∃ B, B = w.heap.size + 1 := ⟨_, rfl⟩
  obtain ⟨Bw, hBw⟩ : ∃ B, B = W1.heap.size := ⟨_, rfl⟩
  obtain ⟨Bh, hBh⟩ : ∃ B, B = W1.heap.size + 1 := ⟨_, rfl⟩
  obtain ⟨Bg, hBg⟩ : ∃ B, B = W1.heap.size + 1 + 1 := ⟨_, rfl⟩
  obtain ⟨Bo, hBo⟩ : ∃ B, B = W1.heap.size + 1 + 1 + 1 := ⟨_, rfl⟩
  obtain ⟨Bn, hBn⟩ : ∃ B, B = W1.heap.size + 1 + 1 + 1 + 1 := ⟨_, rfl⟩
  rw [← hBn] at hn0 ⊢
  rw [← hBo] at ho0 ⊢
  rw [← hBg] at hg0 ho0 ⊢
  rw [← hBh] at hb0 ho0 ⊢
  rw [← hBw] at hw0 hwant ⊢
  rw [← hS1] at hrs ⊢
  rw [← hS0] at hst ⊢
  have hN : Aside (S0 = w.heap.size ∧ S1 = w.heap.size + 1 ∧ w.heap.size + 2 ≤ Bw ∧ Bh = Bw + 1 ∧ Bg = Bw + 2 ∧ Bo = Bw + 3 ∧ Bn = Bw + 4 ∧ W0.heap.size = Bw + 5) := by
    have := hsz1.out
    exact ⟨hS0, hS1, by omega, by omega, by omega, by omega, by omega, by omega⟩
  clear hS0 hS1 hBw hBh hBg hBo hBn hsz0 hsz1
  refine range_tail (n := 8) (by omega) (Bg := Bg) (Bh := Bh) (g := g) hL.out hh rfl hg0 hb0 rfl
    (fun a x => { tmps := (a.tmps.setIfInBounds 23 (.int .i64 (x : Int))).setIfInBounds 10 (.int .i64 (x : Int)), defers := [] })
    (fun pre W => (Boxed W Bn 3 (.int .i64 (pre.length : Int)) ∧ pre <+: L) ∧ But Bn W0 W)
    (fun c xs W => (c = .exit 0 ∧ (Boxed W Bn 3 (.int .i64 (xs.length : Int)) ∧ (xs.length : Int) = stop) ∧ But Bn W0 W) ∨ (c = .ret ∧ ¬ xs <+: L))
    ?hI ?hIx ⟨⟨hn0, List.nil_prefix⟩, But.refl _ _⟩
    (fun D W => (∃ sv : Nat, Boxed W Bn 3 (.int .i64 (sv : Int)) ∧ ((sv : Int) = stop ∨ sv = L.length)) ∧ But Bn W0 W ∧ W0.heap.size ≤ D ∧ W.heap[D]? = some (.deferred (some [])))
    ?tail ?hassign ?hbody ?hdone ?hstop
  case hI => exact OwnFrom.and (OwnFrom.and (Own.from (boxed_own _ _ _) _) (ownFrom_pure _ _)) (But.own (Nat.le_refl _))
  case hIx =>
    intro c s X Y row hs hg hr
    rcases hs with ⟨h1, ⟨h2, h3⟩, h4⟩ | h
    · exact .inl ⟨h1, ⟨boxed_own Bn 3 (fun (_ : Unit) => Value.int .i64 (s.length : Int)) () X Y row h2 hg (fun r e => (hr r e).2), h3⟩, But.own (β := Unit) (Nat.le_refl _) () X Y row h4 hg hr⟩
    · exact .inr h
  case hdone => exact fun D W hD hi hK => ⟨⟨_, hi.1.1, .inr rfl⟩, hi.2, hD, hK⟩
  case hstop =>
    rintro D c pre W hD hp (⟨rfl, ⟨h2, h3⟩, h4⟩ | ⟨_, h⟩) hK
    · exact ⟨⟨⟨_, h2, .inl h3⟩, h4, hD, hK⟩, fun a' W' h => by rw [wpIn_wide]; exact wp_exit h⟩
    · exact absurd hp h
  case hassign =>
    intro l x W K hK
    gi_wp2
    exact hK
  case hbody =>
    rintro l pre x X hl ⟨rr, hrr⟩ ⟨⟨hS, hpre⟩, hbut⟩ hlt
    obtain ⟨e0, e1, e2, e3, e4, e5, e6, e7⟩ := hN.out
    have hSlt := hS.lt
    obtain ⟨b, hb1, hb2, hb3⟩ := (hwant.but hbut (by omega)) pre.length hlt
    subst hb2
    obtain ⟨r1, r2⟩ := one_cell (hbut.blk hrs (by omega))
    have cw := (one_cell (hbut.blk hw0 (by omega))).1
    have cS := hS.cell
    have fS := hS.frozen
    have hlen1 : ¬ ((L.length : Nat) : Int) ≤ (pre.length : Int) := by omega
    have hlen2 : (pre.length : Int) < ((L.length : Nat) : Int) := by omega
    have hle8 : ((L.length : Nat) : Int) ≤ 8192 := by omega
    have hlast : Aside (pre ++ [x] <+: L ↔ x = L[pre.length]) := ⟨fun h => prefix_last h hlt, fun e => by rw [e]; exact prefix_snoc hpre hlt⟩
    obtain ⟨sx, hxe⟩ : ∃ sx, L[pre.length] = sx := ⟨_, rfl⟩
    rw [hxe] at hb3 hlast
    have hbut1 : But Bn W0 (X.setCell ⟨Bn, 0, none⟩ (.int .i64 ((pre.length : Int) + 1))) := hbut.setCell 0 _
    have hB1 : Boxed (X.setCell ⟨Bn, 0, none⟩ (.int .i64 ((pre.length : Int) + 1))) Bn 3 (.int .i64 ((pre.length : Int) + 1)) := hS.set _
    have cS1 := hB1.cell
    have cst1 := (one_cell (hbut1.blk hst (by omega))).1
    have kI : Kp (X.setCell ⟨Bn, 0, none⟩ (.int .i64 ((pre.length : Int) + 1))) ((X.setCell ⟨Bn, 0, none⟩ (.int .i64 ((pre.length : Int) + 1))).alloc (.cells #[.int .i64 0] 3)) := (Kp.refl _).alloc _
    have hbut2 := hbut1.kp kI
    have hB2 := kI.blk hB1
    have hk2 := Boxed.new (X.setCell ⟨Bn, 0, none⟩ (.int .i64 ((pre.length : Int) + 1))) 3 (.int .i64 0)
    have hr2 := kI.blk (set_blk (v := .int .i64 ((pre.length : Int) + 1)) hrr (fun e => by rw [e, show X.heap[Bn]? = _ from hS] at hrr; cases hrr))
    have cO := (one_cell (hbut2.blk ho0 (by omega))).1
    have hstay1 : Stay Bg Bh X (X.setCell ⟨Bn, 0, none⟩ (.int .i64 ((pre.length : Int) + 1))) := stay_set (by omega) (by omega)
    have hkf1 : KeepsFrom W0.heap.size X (X.setCell ⟨Bn, 0, none⟩ (.int .i64 ((pre.length : Int) + 1))) := keepsFrom_set _
    have hkf : KeepsFrom W0.heap.size X ((X.setCell ⟨Bn, 0, none⟩ (.int .i64 ((pre.length : Int) + 1))).alloc (.cells #[.int .i64 0] 3)) := hkf1.trans (keepsFrom_kp kI)
    have hsX : (X.setCell ⟨Bn, 0, none⟩ (.int .i64 ((pre.length : Int) + 1))).heap.size = X.heap.size := by simp [World.setCell]
    have hpl : (pre ++ [x]).length = pre.length + 1 := by simp
    have hM : Aside (Bn < X.heap.size ∧ (X.setCell ⟨Bn, 0, none⟩ (.int .i64 ((pre.length : Int) + 1))).heap.size = X.heap.size ∧ (pre ++ [x]).length = pre.length + 1 ∧ W0.heap.size ≤ X.heap.size) := ⟨hSlt, hsX, hpl, hbut.size⟩
    have hF1 : Aside (But Bn W0 _ ∧ Boxed _ Bn 3 _ ∧ Stay Bg Bh X _ ∧ KeepsFrom W0.heap.size X _) := ⟨hbut1, hB1, hstay1, hkf1⟩
    have hF2 : Aside (But Bn W0 _ ∧ Boxed _ Bn 3 _ ∧ Boxed _ _ 3 _ ∧ _ ∧ KeepsFrom W0.heap.size X _) := ⟨hbut2, hB2, hk2, hr2, hkf⟩
    clear hxe e0 e1 e2 e3 e4 e5 e6 e7 hS hbut hlt hpre hSlt kI hbut1 hbut2 hB1 hB2 hk2 hr2 hstay1 hkf1 hkf hsX hpl hl hrr
    generalize hNN : L.length = N at *
    generalize hnn : pre.length = n at *
    replace hNN := hide hNN
    replace hnn := hide hnn
    dsimp only
    simp only [List.setIfInBounds_toArray, List.set_cons_zero, List.set_cons_succ]
    by_cases hxx : x = sx
    · subst hxx
      by_cases hstp : (n : Int) + 1 = stop
      · have hstp' : ((n : Int) + 1 == stop) = true := beq_iff_eq.2 hstp
        replace hstp := hide hstp
        gi_wp2_with fail
        obtain ⟨m1, m2, m3, m4⟩ := hM.out
        obtain ⟨f1, f2, f3, f4, f5⟩ := hF2.out
        have hsz2 : ((X.setCell ⟨Bn, 0, none⟩ (.int .i64 ((n : Int) + 1))).alloc (.cells #[.int .i64 0] 3)).heap.size = X.heap.size + 1 := by rw [World.size_alloc, m2]
        rw [m2] at f3
        clear cw cS fS r1 r2 hlen1 hlen2 hb3 cS1 cst1 cO hF1 hF2 hM m2 hstp' hb1
        generalize (X.setCell ⟨Bn, 0, none⟩ (.int .i64 ((n : Int) + 1))).alloc (.cells #[.int .i64 0] 3) = X2 at *
        obtain ⟨Bk, hBk⟩ : ∃ B, B = X.heap.size := ⟨_, rfl⟩
        rw [← hBk] at f3 m1 m4 hsz2 ⊢
        obtain ⟨e0, e1, e2, e3, e4, e5, e6, e7⟩ := hN.out
        have wX2 := hwant.but f1 (by omega)
        have bg2 := f1.blk hg0 (by omega)
        have bh2 := f1.blk hb0 (by omega)
        have bw2 := f1.blk hw0 (by omega)
        have br2 := f1.blk hrs (by omega)
        have hnum4 : Aside (Bn < Bk ∧ W0.heap.size ≤ Bk ∧ X2.heap.size = Bk + 1 ∧ Bw < Bk ∧ S1 < Bk ∧ Bg < Bk ∧ Bh < Bk) := ⟨m1, m4, hsz2, by omega, by omega, by omega, by omega⟩
        have hfx : Aside (But Bn W0 X2 ∧ Boxed X2 Bn 3 (.int .i64 ((n : Int) + 1)) ∧ Boxed X2 Bk 3 (.int .i64 0) ∧ KeepsFrom W0.heap.size X X2) := ⟨f1, f2, f3, f5⟩
        clear e0 e1 e2 e3 e4 e5 e6 e7 f1 f2 f5 hBk m1 m4 hsz2
        refine range_inner (n := 6) rfl f4 (by omega) (Bg := Bg) (Bh := Bh) (g := g) hL.out hh rfl bg2 bh2 rfl
          (fun a x => { tmps := (a.tmps.setIfInBounds 42 (.int .i64 (x : Int))).setIfInBounds 12 (.int .i64 (x : Int)), defers := [] })
          (fun pre W => (Boxed W Bk 3 (.int .i64 (pre.length : Int)) ∧ pre <+: L) ∧ But Bk X2 W)
          (fun c xs W => c = .ret ∧ ¬ xs <+: L)
          ?hI3 ?hIx3 ⟨⟨f3, List.nil_prefix⟩, But.refl _ _⟩
          ?hassign3 ?hbody3 ?hdone3 ?hstop3
        case hI3 => exact OwnFrom.and (OwnFrom.and (Own.from (boxed_own _ _ _) _) (ownFrom_pure _ _)) (But.own (Nat.le_refl _))
        case hIx3 => exact fun c s X Y row hs hg hr => hs
        case hstop3 =>
          rintro c pre W hp ⟨_, h⟩
          exact absurd hp h
        case hassign3 =>
          intro l x W K hK
          gi_wp2
          exact hK
        case hbody3 =>
          rintro l2 pre2 y Y hl2 ⟨⟨hS, hpre⟩, hbut⟩ hlt
          obtain ⟨e1, e2, e3, e4, e5, e6, e7⟩ := hnum4.out
          obtain ⟨e0, -⟩ := hN.out
          have e8 := hN.out.2.2.2.2.2.2.1
          obtain ⟨b2, hb1, hb2, hb3⟩ := (wX2.but hbut (by omega)) pre2.length hlt
          obtain ⟨r1, r2⟩ := one_cell (hbut.blk br2 (by omega))
          have cw := (one_cell (hbut.blk bw2 (by omega))).1
          rw [hb2] at cw
          have cS := hS.cell
          have fS := hS.frozen
          have hlt' : pre2.length < N := hNN.out ▸ hlt
          have hlen1 : ¬ ((N : Nat) : Int) ≤ (pre2.length : Int) := by omega
          have hlen2 : (pre2.length : Int) < ((N : Nat) : Int) := by omega
          have hlast2 : Aside (pre2 ++ [y] <+: L ↔ y = L[pre2.length]) := ⟨fun h => prefix_last h hlt, fun e => by rw [e]; exact prefix_snoc hpre hlt⟩
          obtain ⟨sx, hxe⟩ : ∃ sx, L[pre2.length] = sx := ⟨_, rfl⟩
          rw [hxe] at hb3 hlast2
          have hYb : Aside (But Bk X2 (Y.setCell ⟨Bk, 0, none⟩ (.int .i64 ((pre2.length : Int) + 1))) ∧ Boxed (Y.setCell ⟨Bk, 0, none⟩ (.int .i64 ((pre2.length : Int) + 1))) Bk 3 (.int .i64 ((pre2.length : Int) + 1)) ∧ Stay Bg Bh Y (Y.setCell ⟨Bk, 0, none⟩ (.int .i64 ((pre2.length : Int) + 1))) ∧ (pre2 ++ [y]).length = pre2.length + 1) := ⟨hbut.setCell 0 _, hS.set _, stay_set (by omega) (by omega), by simp⟩
          clear hxe e0 e1 e2 e3 e4 e5 e6 e7 e8 hS hbut hlt hlt' hpre hb2
          generalize pre2.length = n2 at *
          dsimp only
          simp only [List.setIfInBounds_toArray, List.set_cons_zero, List.set_cons_succ]
          by_cases hyy : y = sx
          · subst hyy
            gi_wp2_with fail
            exact ⟨keepsFrom_set _, hYb.out.2.2.1, ⟨by rw [hYb.out.2.2.2]; exact hYb.out.2.1, hlast2.out.2 trivial⟩, hYb.out.1⟩
          · have hyy' : ((y : Int) == (sx : Int)) = false := beq_eq_false_iff_ne.2 (by omega)
            gi_wp2_with fail
            exact ⟨keepsFrom_set _, rfl, fun h => hyy (hlast2.out.1 h)⟩
        case hdone3 =>
          rintro Y ⟨⟨hS, -⟩, hbut⟩
          obtain ⟨e1, e2, e3, e4, e5, e6, e7⟩ := hnum4.out
          obtain ⟨g1, g2, g3, g4⟩ := hfx.out
          rw [hNN.out] at hS
          have cS := hS.cell
          have cw := (one_cell (hbut.blk bw2 (by omega))).1
          have hfin : Aside (KeepsFrom W0.heap.size X Y ∧ Boxed Y Bn 3 (.int .i64 (((pre ++ [x]).length : Nat) : Int)) ∧ (((pre ++ [x]).length : Nat) : Int) = stop ∧ But Bn W0 Y) := by
            refine ⟨g4.trans (keepsFrom_but hbut g3), ?_, ?_, g1.trans2 hbut (by omega)⟩
            · rw [m3]
              exact hbut.blk g2 (by omega)
            · rw [m3]
              exact hstp.out
          clear e1 e2 e3 e4 e5 e6 e7 g1 g2 g3 g4 hS hbut
          gi_wp2_with fail
          exact ⟨hfin.out.1, .inl ⟨rfl, ⟨hfin.out.2.1, hfin.out.2.2.1⟩, hfin.out.2.2.2⟩⟩
      · have hstp' : ((n : Int) + 1 == stop) = false := beq_eq_false_iff_ne.2 hstp
        replace hstp := hide hstp
        gi_wp2_with fail
        obtain ⟨f1, f2, f3, f4⟩ := hF1.out
        refine ⟨f4, f3, ⟨?_, hlast.out.2 trivial⟩, f1⟩
        rw [hM.out.2.2.1]
        exact f2
    · have hxx' : ((x : Int) == (sx : Int)) = false := beq_eq_false_iff_ne.2 (by omega)
      gi_wp2_with fail
      exact ⟨keepsFrom_set _, .inr ⟨rfl, fun h => hxx (hlast.out.1 h)⟩⟩
  case tail =>
    rintro D W ⟨⟨sv, hS, hsv⟩, hbut, hD, hK⟩
    obtain ⟨e0, e1, e2, e3, e4, e5, e6, e7⟩ := hN.out
    have cS := hS.cell
    have fS := hS.frozen
    have cw := (one_cell (hbut.blk hw0 (by omega))).1
    have cst := (one_cell (hbut.blk hst (by omega))).1
    have hb3 : But Bn W0 (W.setCell ⟨Bn, 0, none⟩ (.int .i64 0)) := hbut.setCell 0 _
    have hS3 : Boxed (W.setCell ⟨Bn, 0, none⟩ (.int .i64 0)) Bn 3 (.int .i64 0) := hS.set _
    have hK3 : (W.setCell ⟨Bn, 0, none⟩ (.int .i64 0)).heap[D]? = some (.deferred (some [])) := set_blk hK (by omega)
    have cO := (one_cell (hb3.blk ho0 (by omega))).1
    have hG : Aside (But Bn W0 _ ∧ Boxed _ Bn 3 _ ∧ _ ∧ W0.heap.size ≤ D) := ⟨hb3, hS3, hK3, hD⟩
    have hle8 : ((L.length : Nat) : Int) ≤ 8192 := by omega
    clear e0 e1 e2 e3 e4 e5 e6 e7 hS hbut hb3 hS3 hK3 hD hK
    generalize hNN : L.length = N at *
    replace hNN := hide hNN
    by_cases hsn : sv = N
    · have hsn' : ((sv : Int) != (N : Int)) = false := by simp [hsn]
      clear hsv hsn
      go_wp2_with fail
      clear hsn'
      obtain ⟨b3, s3, k3, hD⟩ := hG.out
      obtain ⟨e0, e1, e2, e3, e4, e5, e6, e7⟩ := hN.out
      have hDl : D < (W.setCell ⟨Bn, 0, none⟩ (.int .i64 0)).heap.size := (Array.getElem?_eq_some_iff.1 k3).1
      generalize W.setCell ⟨Bn, 0, none⟩ (.int .i64 0) = W3 at *
      have wW := hwant.but b3 (by omega)
      have bg3 := b3.blk hg0 (by omega)
      have bh3 := b3.blk hb0 (by omega)
      have bw3 := b3.blk hw0 (by omega)
      have br3 := b3.blk hrs (by omega)
      have kW3 : Kp w W3 := b3.to_kp kw (by omega)
      have hn3 : Aside (S1 = w.heap.size + 1 ∧ w.heap.size + 2 ≤ Bw ∧ Bh = Bw + 1 ∧ Bg = Bw + 2 ∧ Bn = Bw + 4 ∧ Bw + 5 ≤ W3.heap.size ∧ D < W3.heap.size ∧ Bw + 5 ≤ D) := ⟨e1, e2, e3, e4, e6, by have := b3.size; omega, hDl, by omega⟩
      clear e0 e1 e2 e3 e4 e5 e6 e7 hG hN hwant hst hrs hb0 hg0 ho0 hn0 hw0 kw b3 cS fS cw cst cO hD hDl
      refine range_tail (n := 8) (by omega) (Bg := Bg) (Bh := Bh) (g := g) hL.out hh rfl bg3 bh3 rfl
        (fun a x => { tmps := (a.tmps.setIfInBounds 71 (.int .i64 (x : Int))).setIfInBounds 13 (.int .i64 (x : Int)), defers := [] })
        (fun pre W => (Boxed W Bn 3 (.int .i64 (pre.length : Int)) ∧ pre <+: L) ∧ But Bn W3 W)
        (fun c xs W => c = .ret ∧ ¬ xs <+: L)
        ?hI2 ?hIx2 ⟨⟨s3, List.nil_prefix⟩, But.refl _ _⟩
        (fun D' W' => Boxed W' Bn 3 (.int .i64 (L.length : Int)) ∧ But Bn W3 W' ∧ W3.heap.size ≤ D' ∧ W'.heap[D']? = some (.deferred (some [])))
        ?tail2 ?hassign2 ?hbody2 ?hdone2 ?hstop2
      case hI2 => exact OwnFrom.and (OwnFrom.and (Own.from (boxed_own _ _ _) _) (ownFrom_pure _ _)) (But.own (Nat.le_refl _))
      case hIx2 => exact fun c s X Y row hs hg hr => hs
      case hdone2 => exact fun D W hD hi hK => ⟨hi.1.1, hi.2, hD, hK⟩
      case hstop2 =>
        rintro D c pre W hD hp ⟨_, h⟩ hK
        exact absurd hp h
      case hassign2 =>
        intro l x W K hK
        gi_wp2
        exact hK
      case hbody2 =>
        rintro l2 pre2 y Y hl2 - ⟨⟨hS, hpre⟩, hbut⟩ hlt
        obtain ⟨e1, e2, e3, e4, e5, e6, e7, e8⟩ := hn3.out
        obtain ⟨b2, hb1, hb2, hb3⟩ := (wW.but hbut (by omega)) pre2.length hlt
        obtain ⟨r1, r2⟩ := one_cell (hbut.blk br3 (by omega))
        have cw := (one_cell (hbut.blk bw3 (by omega))).1
        rw [hb2] at cw
        have cS := hS.cell
        have fS := hS.frozen
        have hlt' : pre2.length < N := hNN.out ▸ hlt
        have hlen1 : ¬ ((N : Nat) : Int) ≤ (pre2.length : Int) := by omega
        have hlen2 : (pre2.length : Int) < ((N : Nat) : Int) := by omega
        have hlast2 : Aside (pre2 ++ [y] <+: L ↔ y = L[pre2.length]) := ⟨fun h => prefix_last h hlt, fun e => by rw [e]; exact prefix_snoc hpre hlt⟩
        obtain ⟨sx, hxe⟩ : ∃ sx, L[pre2.length] = sx := ⟨_, rfl⟩
        rw [hxe] at hb3 hlast2
        have hYb : Aside (But Bn W3 (Y.setCell ⟨Bn, 0, none⟩ (.int .i64 ((pre2.length : Int) + 1))) ∧ Boxed (Y.setCell ⟨Bn, 0, none⟩ (.int .i64 ((pre2.length : Int) + 1))) Bn 3 (.int .i64 ((pre2.length : Int) + 1)) ∧ Stay Bg Bh Y (Y.setCell ⟨Bn, 0, none⟩ (.int .i64 ((pre2.length : Int) + 1))) ∧ (pre2 ++ [y]).length = pre2.length + 1) := ⟨hbut.setCell 0 _, hS.set _, stay_set (by omega) (by omega), by simp⟩
        clear hxe e1 e2 e3 e4 e5 e6 e7 e8 hS hbut hlt hlt' hpre hb2
        generalize pre2.length = n2 at *
        dsimp only
        simp only [List.setIfInBounds_toArray, List.set_cons_zero, List.set_cons_succ]
        by_cases hyy : y = sx
        · subst hyy
          gi_wp2_with fail
          exact ⟨keepsFrom_set _, hYb.out.2.2.1, ⟨by rw [hYb.out.2.2.2]; exact hYb.out.2.1, hlast2.out.2 trivial⟩, hYb.out.1⟩
        · have hyy' : ((y : Int) == (sx : Int)) = false := beq_eq_false_iff_ne.2 (by omega)
          gi_wp2_with fail
          exact ⟨keepsFrom_set _, rfl, fun h => hyy (hlast2.out.1 h)⟩
      case tail2 =>
        rintro D2 Y ⟨hS, hbut, hD2, hK2⟩
        obtain ⟨e1, e2, e3, e4, e5, e6, e7, e8⟩ := hn3.out
        rw [hNN.out] at hS
        have cS := hS.cell
        have cw := (one_cell (hbut.blk bw3 (by omega))).1
        have hrB := hbut.blk br3 (by omega)
        obtain ⟨r1, r2⟩ := one_cell hrB
        have hd2 : (Y.setCell ⟨S1, 0, none⟩ (.bool true)).heap[D2]? = some (.deferred (some [])) := set_blk hK2 (by omega)
        have hd1 : (Y.setCell ⟨S1, 0, none⟩ (.bool true)).heap[D]? = some (.deferred (some [])) := set_blk (hbut.blk k3 (by omega)) (by omega)
        have r3 : Boxed (Y.setCell ⟨S1, 0, none⟩ (.bool true)) S1 4 (.bool true) := Boxed.set _ hrB
        have r4 := (one_cell (put_blk (l := D) (o := .deferred none) (put_blk (l := D2) (o := .deferred none) r3 (by omega)) (by omega))).1
        have kf : Kp w (((Y.setCell ⟨S1, 0, none⟩ (.bool true)).putObj D2 (.deferred none)).putObj D (.deferred none)) := kp_put (kp_put (show Kp w (Y.setCell ⟨S1, 0, none⟩ (.bool true)) from Below.setCell (hbut.to_kp kW3 (by omega)) (by show w.heap.size ≤ S1; omega) _) (by omega) _) (by omega) _
        have hfin : Aside (_ ∧ _ ∧ _ ∧ Kp w _) := ⟨hd2, put_blk (l := D2) (o := .deferred none) hd1 (by omega), r4, kf⟩
        clear e1 e2 e3 e4 e5 e6 e7 e8 hS hbut hD2 hK2 hrB hd2 hd1 r3 r4 kf hn3 kW3 br3 bw3 bh3 bg3 wW s3 k3
        go_wp2_with fail
        obtain ⟨d2, d1, r4, kf⟩ := hfin.out
        refine ⟨by simp, .inl ⟨_, _, rfl, run_takeDeferred d2, ?_⟩⟩
        refine ⟨by simp, .inl ⟨_, _, rfl, run_takeDeferred d1, ?_⟩⟩
        exact ⟨_, resO _ _ S1 _ rfl r4, rfl, kf⟩
    · have hsn' : ((sv : Int) != (N : Int)) = true := by
        rw [bne_iff_ne]
        omega
      have hst2 : (sv : Int) = stop := hsv.elim id (fun e => absurd e hsn)
      have hst' : ((sv : Int) != stop) = false := by simp [hst2]
      clear hsv hsn hst2
      go_wp2_with fail
      clear hsn' hst'
      obtain ⟨b3, s3, k3, hD⟩ := hG.out
      obtain ⟨e0, e1, e2, e3, e4, e5, e6, e7⟩ := hN.out
      have hDl : D < (W.setCell ⟨Bn, 0, none⟩ (.int .i64 0)).heap.size := (Array.getElem?_eq_some_iff.1 k3).1
      generalize W.setCell ⟨Bn, 0, none⟩ (.int .i64 0) = W3 at *
      have wW := hwant.but b3 (by omega)
      have bg3 := b3.blk hg0 (by omega)
      have bh3 := b3.blk hb0 (by omega)
      have bw3 := b3.blk hw0 (by omega)
      have br3 := b3.blk hrs (by omega)
      have kW3 : Kp w W3 := b3.to_kp kw (by omega)
      have hn3 : Aside (S1 = w.heap.size + 1 ∧ w.heap.size + 2 ≤ Bw ∧ Bh = Bw + 1 ∧ Bg = Bw + 2 ∧ Bn = Bw + 4 ∧ Bw + 5 ≤ W3.heap.size ∧ D < W3.heap.size ∧ Bw + 5 ≤ D) := ⟨e1, e2, e3, e4, e6, by have := b3.size; omega, hDl, by omega⟩
      clear e0 e1 e2 e3 e4 e5 e6 e7 hG hN hwant hst hrs hb0 hg0 ho0 hn0 hw0 kw b3 cS fS cw cst cO hD hDl
      refine range_tail (n := 8) (by omega) (Bg := Bg) (Bh := Bh) (g := g) hL.out hh rfl bg3 bh3 rfl
        (fun a x => { tmps := (a.tmps.setIfInBounds 71 (.int .i64 (x : Int))).setIfInBounds 13 (.int .i64 (x : Int)), defers := [] })
        (fun pre W => (Boxed W Bn 3 (.int .i64 (pre.length : Int)) ∧ pre <+: L) ∧ But Bn W3 W)
        (fun c xs W => c = .ret ∧ ¬ xs <+: L)
        ?hI2 ?hIx2 ⟨⟨s3, List.nil_prefix⟩, But.refl _ _⟩
        (fun D' W' => Boxed W' Bn 3 (.int .i64 (L.length : Int)) ∧ But Bn W3 W' ∧ W3.heap.size ≤ D' ∧ W'.heap[D']? = some (.deferred (some [])))
        ?tail2 ?hassign2 ?hbody2 ?hdone2 ?hstop2
      case hI2 => exact OwnFrom.and (OwnFrom.and (Own.from (boxed_own _ _ _) _) (ownFrom_pure _ _)) (But.own (Nat.le_refl _))
      case hIx2 => exact fun c s X Y row hs hg hr => hs
      case hdone2 => exact fun D W hD hi hK => ⟨hi.1.1, hi.2, hD, hK⟩
      case hstop2 =>
        rintro D c pre W hD hp ⟨_, h⟩ hK
        exact absurd hp h
      case hassign2 =>
        intro l x W K hK
        gi_wp2
        exact hK
      case hbody2 =>
        rintro l2 pre2 y Y hl2 - ⟨⟨hS, hpre⟩, hbut⟩ hlt
        obtain ⟨e1, e2, e3, e4, e5, e6, e7, e8⟩ := hn3.out
        obtain ⟨b2, hb1, hb2, hb3⟩ := (wW.but hbut (by omega)) pre2.length hlt
        obtain ⟨r1, r2⟩ := one_cell (hbut.blk br3 (by omega))
        have cw := (one_cell (hbut.blk bw3 (by omega))).1
        rw [hb2] at cw
        have cS := hS.cell
        have fS := hS.frozen
        have hlt' : pre2.length < N := hNN.out ▸ hlt
        have hlen1 : ¬ ((N : Nat) : Int) ≤ (pre2.length : Int) := by omega
        have hlen2 : (pre2.length : Int) < ((N : Nat) : Int) := by omega
        have hlast2 : Aside (pre2 ++ [y] <+: L ↔ y = L[pre2.length]) := ⟨fun h => prefix_last h hlt, fun e => by rw [e]; exact prefix_snoc hpre hlt⟩
        obtain ⟨sx, hxe⟩ : ∃ sx, L[pre2.length] = sx := ⟨_, rfl⟩
        rw [hxe] at hb3 hlast2
        have hYb : Aside (But Bn W3 (Y.setCell ⟨Bn, 0, none⟩ (.int .i64 ((pre2.length : Int) + 1))) ∧ Boxed (Y.setCell ⟨Bn, 0, none⟩ (.int .i64 ((pre2.length : Int) + 1))) Bn 3 (.int .i64 ((pre2.length : Int) + 1)) ∧ Stay Bg Bh Y (Y.setCell ⟨Bn, 0, none⟩ (.int .i64 ((pre2.length : Int) + 1))) ∧ (pre2 ++ [y]).length = pre2.length + 1) := ⟨hbut.setCell 0 _, hS.set _, stay_set (by omega) (by omega), by simp⟩
        clear hxe e1 e2 e3 e4 e5 e6 e7 e8 hS hbut hlt hlt' hpre hb2
        generalize pre2.length = n2 at *
        dsimp only
        simp only [List.setIfInBounds_toArray, List.set_cons_zero, List.set_cons_succ]
        by_cases hyy : y = sx
        · subst hyy
          gi_wp2_with fail
          exact ⟨keepsFrom_set _, hYb.out.2.2.1, ⟨by rw [hYb.out.2.2.2]; exact hYb.out.2.1, hlast2.out.2 trivial⟩, hYb.out.1⟩
        · have hyy' : ((y : Int) == (sx : Int)) = false := beq_eq_false_iff_ne.2 (by omega)
          gi_wp2_with fail
          exact ⟨keepsFrom_set _, rfl, fun h => hyy (hlast2.out.1 h)⟩
      case tail2 =>
        rintro D2 Y ⟨hS, hbut, hD2, hK2⟩
        obtain ⟨e1, e2, e3, e4, e5, e6, e7, e8⟩ := hn3.out
        rw [hNN.out] at hS
        have cS := hS.cell
        have cw := (one_cell (hbut.blk bw3 (by omega))).1
        have hrB := hbut.blk br3 (by omega)
        obtain ⟨r1, r2⟩ := one_cell hrB
        have hd2 : (Y.setCell ⟨S1, 0, none⟩ (.bool true)).heap[D2]? = some (.deferred (some [])) := set_blk hK2 (by omega)
        have hd1 : (Y.setCell ⟨S1, 0, none⟩ (.bool true)).heap[D]? = some (.deferred (some [])) := set_blk (hbut.blk k3 (by omega)) (by omega)
        have r3 : Boxed (Y.setCell ⟨S1, 0, none⟩ (.bool true)) S1 4 (.bool true) := Boxed.set _ hrB
        have r4 := (one_cell (put_blk (l := D) (o := .deferred none) (put_blk (l := D2) (o := .deferred none) r3 (by omega)) (by omega))).1
        have kf : Kp w (((Y.setCell ⟨S1, 0, none⟩ (.bool true)).putObj D2 (.deferred none)).putObj D (.deferred none)) := kp_put (kp_put (show Kp w (Y.setCell ⟨S1, 0, none⟩ (.bool true)) from Below.setCell (hbut.to_kp kW3 (by omega)) (by show w.heap.size ≤ S1; omega) _) (by omega) _) (by omega) _
        have hfin : Aside (_ ∧ _ ∧ _ ∧ Kp w _) := ⟨hd2, put_blk (l := D2) (o := .deferred none) hd1 (by omega), r4, kf⟩
        clear e1 e2 e3 e4 e5 e6 e7 e8 hS hbut hD2 hK2 hrB hd2 hd1 r3 r4 kf hn3 kW3 br3 bw3 bh3 bg3 wW s3 k3
        go_wp2_with fail
        obtain ⟨d2, d1, r4, kf⟩ := hfin.out
        refine ⟨by simp, .inl ⟨_, _, rfl, run_takeDeferred d2, ?_⟩⟩
        refine ⟨by simp, .inl ⟨_, _, rfl, run_takeDeferred d1, ?_⟩⟩
        exact ⟨_, resO _ _ S1 _ rfl r4, rfl, kf⟩

theorem walk (h g n : Int) (w0 : (Lit.int .u64 h).wf = true) (w1 : (Lit.int .i64 g).wf = true) (w2 : (Lit.int .i64 n).wf = true) (w : World) :
    Calls Try.prog 4 #[.int .u64 h, .int .i64 g, .int .i64 n] w fun e w' => e = .returned (.bool true) ∧ Below w.heap.size w w' := by
  obtain ⟨H, rfl, hH⟩ := u64_nat w0
  exact core H g n w hH
end probeOrders
end Go.Proofs.Ytkjbhhfnhpnifaa
