import Derived.Test.YtkjbhhfnhpnifaaPO2
import Derived.Laws.MakeOwn
import Derived.Laws.Slices
import Derived.Lib.SliceRun
namespace Go.Proofs.Ytkjbhhfnhpnifaa

theorem u64_nat {a : Int} (h : (Lit.int .u64 a).wf = true) : ∃ A : Nat, a = (A : Int) ∧ A < 18446744073709551616 := by
  have h2 : 0 ≤ a ∧ a < 18446744073709551616 := by
    have e1 : IntKind.u64.min = 0 := rfl
    have e2 : IntKind.u64.max = 18446744073709551615 := rfl
    simp only [Lit.wf, decide_eq_true_eq, Bool.and_eq_true] at h
    rw [e1, e2] at h
    omega
  exact ⟨a.toNat, by omega, by omega⟩

namespace probeOnce
open Go.RowKit Go.Shelf
set_option linter.unusedVariables false

attribute [local go_sem] Oper.semAt_some

theorem eq_nil_seq (W : World) (g : Nat) (x : Array Value) : (binOp .eql 26 (.func (.func g) #[] x) .nilFunc).run Try.prog W = .ok (.bool false) W := by
  rfl
theorem resO (tmps : Array Value) (w : World) (B : Nat) (v : Value) (hp : tmps.getD 4 undef = .pointer (some ⟨B, 0, none⟩)) (hc : w.cell? ⟨B, 0, none⟩ = some v) : (results Try.f3 tmps).run Try.prog w = .ok v w := by
  have hp' : tmps[4]?.getD undef = .pointer (some ⟨B, 0, none⟩) := by simpa using hp
  simp [results, Try.results3, go_sem, hp', hc]

theorem set_one {w : World} {b : Nat} {cs : Array Value} {t : TypeId} (h : w.heap[b]? = some (.cells cs t)) (i : Nat) (v : Value) (hi : i < cs.size) :
    (w.setCell ⟨b, i, none⟩ v).heap[b]? = some (.cells (cs.set i v hi) t) := by
  have hlt := (Array.getElem?_eq_some_iff.1 h).1
  have hv := (Array.getElem?_eq_some_iff.1 h).2
  simp only [World.setCell, Array.getElem?_modify]
  simp [hlt, hv, hi, Array.setIfInBounds]
/-- A row of G bools at q: just those of l are true. -/
def Marks (W : World) (q G : Nat) (l : List Nat) : Prop := ∃ cs : Array Value, W.heap[q]? = some (.cells cs 4) ∧ cs.size = G ∧ ∀ j, j < G → cs[j]? = some (.bool (decide (j ∈ l)))
theorem Marks.cell {W : World} {q G : Nat} {l : List Nat} (h : Marks W q G l) {j : Nat} (hj : j < G) : W.cell? ⟨q, j, none⟩ = some (.bool (decide (j ∈ l))) := by
  obtain ⟨cs, hb, _, hf⟩ := h
  have hb' : W.cell? ⟨q, j, none⟩ = cs[j]? := by simp [World.cell?, hb]
  rw [hb']
  exact hf j hj
theorem Marks.frozen {W : World} {q G : Nat} {l : List Nat} (h : Marks W q G l) (j : Nat) : W.frozen? ⟨q, j, none⟩ = false := by
  obtain ⟨cs, hb, _⟩ := h
  simp [World.frozen?, hb]
theorem Marks.set {W : World} {q G : Nat} {l : List Nat} (h : Marks W q G l) {x : Nat} (hx : x < G) : Marks (W.setCell ⟨q, x, none⟩ (.bool true)) q G (l ++ [x]) := by
  obtain ⟨cs, hb, hs, hf⟩ := h
  have hlt : q < W.heap.size := (Array.getElem?_eq_some_iff.1 hb).1
  refine ⟨cs.set x (.bool true) (by omega), set_one hb x _ (by omega), by simp [hs], fun j hj => ?_⟩
  · rw [Array.getElem?_set]
    split
    · rename_i e
      subst e
      simp
    · rename_i e
      rw [hf j hj]
      have : (j ∈ l ++ [x]) ↔ j ∈ l := by
        simp only [List.mem_append, List.mem_singleton]
        exact ⟨fun h => h.elim id (fun e' => absurd e'.symm e), Or.inl⟩
      simp only [this]
theorem Marks.of {W W' : World} {q G : Nat} {l : List Nat} (h : Marks W q G l) (e : W'.heap[q]? = W.heap[q]?) : Marks W' q G l := by
  obtain ⟨cs, hb, r⟩ := h
  exact ⟨cs, e.trans hb, r⟩
theorem make_bools (N : Nat) (hN : N ≤ 8192) :
    ∃ o : Obj, (∀ W : World, (Instr.makeSlice 23 (.int .i64 (N : Int)) (.int .i64 (N : Int))).run Try.prog W = .ok (.slice (some ⟨W.heap.size, 0, none⟩) N N) (W.alloc o)) ∧ ∀ W : World, Marks (W.alloc o) W.heap.size N [] := by
  have hi : (Try.prog.info? 4).map (fun i => (i.zero, i.size, i.bytes)) = some (some (.bool false), 1, 1) := by kernel_rfl
  obtain ⟨i, h1, h2, h3, h4⟩ := info_parts hi
  have hs : (madeCells (Value.bool false).cells (N * 1)).size = N := by simp [size_madeCells]
  have hc : ∀ j, j < N → (madeCells (Value.bool false).cells (N * 1))[j]? = some (.bool false) := fun j hj => by
    rw [Array.getElem?_eq_getElem (by omega)]
    simp [madeCells, Value.cells, Nat.mod_one]
  refine ⟨.cells (madeCells (Value.bool false).cells (N * 1)) 4, fun W => ?_, fun W => ⟨_, heap_new _ _, hs, fun j hj => by rw [hc j hj]; simp⟩⟩
  have h := run_make (P := Try.prog) W 23 4 i (.bool false) Try.underlying23 h1 h2 .i64 .i64 (N : Int) (N : Int) (by omega) (by omega) (by rw [h4]; omega) (by omega)
  rw [h, h3]
  simp only [Int.toNat_natCast]

set_option maxRecDepth 100000 in
set_option maxHeartbeats 4000000 in
theorem walk_no (h : Nat) (g : Int) (w : World) (hh : h < 18446744073709551616) (hq : pw g 1 8192 = false) :
    Calls Try.prog 3 #[.int .u64 (h : Int), .int .i64 g] w fun e w' => e = .returned (.bool true) ∧ Kp w w' := by
  have hO := order_call (h : Int) g
  have hv := valid_any g
  rw [hq] at hv
  have hon := ordN_no (h := h) hq
  have hnil := eq_nil_seq
  refine (callsIn_wide (n := 8)).1 ?_
  refine callsIn_of_wp_marks Try.func3 rfl trivial ?_ rfl
  simp only [Try.ntmps3, List.size_toArray, List.length_cons, List.length_nil, Nat.reduceAdd, Nat.reduceSub, Array.replicate_succ, Array.replicate_zero, List.push_toArray, List.append_toArray, List.nil_append, List.cons_append]
  rw [wpIn_wide]
  go_wp2_with fail
  refine (hv _).mono ?_
  rintro e W ⟨rfl, rfl⟩
  go_wp2_with fail
  refine (hO _).mono ?_
  rintro e W ⟨rfl, rfl⟩
  obtain ⟨W0, hW0, k0, hsz, hr, hs, hb, hg, hn⟩ := allocs5 w (.cells #[.bool false] 4) (.cells #[.slice none 0 0] 23) (.cells #[.int .u64 (h : Int)] 22) (.cells #[.int .i64 g] 3) (.cells #[.int .i64 0] 3)
  go_wp2_with fail
  rw [← hW0]
  clear hW0 hO hv hnil
  obtain ⟨B0, hB0⟩ : ∃ B, B = w.heap.size := ⟨_, rfl⟩
  obtain ⟨B1, hB1⟩ : ∃ B, B = w.heap.size + 1 := ⟨_, rfl⟩
  obtain ⟨B2, hB2⟩ : ∃ B, B = w.heap.size + 1 + 1 := ⟨_, rfl⟩
  obtain ⟨B3, hB3⟩ : ∃ B, B = w.heap.size + 1 + 1 + 1 := ⟨_, rfl⟩
  obtain ⟨B4, hB4⟩ : ∃ B, B = w.heap.size + 1 + 1 + 1 + 1 := ⟨_, rfl⟩
  rw [← hB4] at hn ⊢
  rw [← hB3] at hg ⊢
  rw [← hB2] at hb ⊢
  rw [← hB1] at hs ⊢
  rw [← hB0] at hr ⊢
  have hN : Aside (B0 = w.heap.size ∧ B1 = w.heap.size + 1 ∧ B2 = w.heap.size + 2 ∧ B3 = w.heap.size + 3 ∧ B4 = w.heap.size + 4 ∧ W0.heap.size = w.heap.size + 5) := ⟨hB0, hB1, hB2, hB3, hB4, hsz⟩
  clear hB0 hB1 hB2 hB3 hB4 hsz
  refine range_order (n := 8) (by omega) hh (Bg := B3) (Bh := B2) (g := g) rfl hg hb rfl
    (fun a x => { tmps := (a.tmps.setIfInBounds 19 (.int .i64 (x : Int))).setIfInBounds 8 (.int .i64 (x : Int)), defers := [] })
    (fun pre W => Kp W0 W)
    (fun c xs W => False)
    ?hI ?hIx (Kp.refl _) ?hassign ?hbody ?hdone ?hstop
  case hI => exact Kp.own (Nat.le_refl _)
  case hIx => exact fun c s X Y row hs hg hr => hs
  case hassign =>
    intro l x W K hK
    gi_wp2
    exact hK
  case hbody =>
    intro l pre y X hl hr hI hlt
    rw [hon] at hlt
    simp at hlt
  case hdone =>
    intro D X hD hk hK
    obtain ⟨n0, n1, n2, n3, n4, n5⟩ := hN.out
    have hrB := hk.blk hr
    obtain ⟨r1, r2⟩ := one_cell hrB
    have cs := (one_cell (hk.blk hs)).1
    have cn := (one_cell (hk.blk hn)).1
    have hd : (X.setCell ⟨B0, 0, none⟩ (.bool true)).heap[D]? = some (.deferred (some [])) := set_blk hK (by omega)
    have r3 : Boxed (X.setCell ⟨B0, 0, none⟩ (.bool true)) B0 4 (.bool true) := Boxed.set _ hrB
    have r4 := (one_cell (put_blk (l := D) (o := .deferred none) r3 (by omega))).1
    have kf : Kp w ((X.setCell ⟨B0, 0, none⟩ (.bool true)).putObj D (.deferred none)) := kp_put (show Kp w (X.setCell ⟨B0, 0, none⟩ (.bool true)) from Below.setCell (k0.trans hk) (by show w.heap.size ≤ B0; omega) _) (by omega) _
    have hfin : Aside (_ ∧ _ ∧ _) := ⟨hd, r4, kf⟩
    clear n0 n1 n2 n3 n4 n5 hrB hK hD hd r3 r4 kf hr hn hb hg hs k0 hN hk
    go_wp2_with fail
    obtain ⟨d1, r4, kf⟩ := hfin.out
    refine ⟨by simp, .inl ⟨_, _, rfl, run_takeDeferred d1, ?_⟩⟩
    exact ⟨_, resO _ _ B0 _ rfl r4, rfl, kf⟩
  case hstop => exact fun _ _ _ _ _ _ h _ => h.elim

theorem allocs3 (w : World) (o0 o1 o2 : Obj) : ∃ W, W = ((w.alloc o0).alloc o1).alloc o2 ∧ Kp w W ∧ W.heap.size = w.heap.size + 3 ∧ W.heap[w.heap.size]? = some o0 ∧ W.heap[w.heap.size + 1]? = some o1 ∧ W.heap[w.heap.size + 1 + 1]? = some o2 := by
  have s1 : (w.alloc o0).heap.size = w.heap.size + 1 := by simp
  have s2 : ((w.alloc o0).alloc o1).heap.size = w.heap.size + 1 + 1 := by simp
  refine ⟨_, rfl, (((Kp.refl w).alloc o0).alloc o1).alloc o2, by simp, ?_, ?_, ?_⟩
  · exact heap_old (heap_old (heap_new w o0))
  · have := heap_old (o := o2) (heap_new (w.alloc o0) o1); rwa [s1] at this
  · have := heap_new ((w.alloc o0).alloc o1) o2; rwa [s2] at this

/-- All blocks of w stand, but g and b. -/
structure But2 (g b : Nat) (w w' : World) : Prop where
  os : w'.os = w.os
  tape : w'.tape = w.tape
  output : w'.output = w.output
  size : w.heap.size ≤ w'.heap.size
  block : ∀ k, k < w.heap.size → k ≠ g → k ≠ b → w'.heap[k]? = w.heap[k]?
theorem But2.refl (g b : Nat) (w : World) : But2 g b w w := ⟨rfl, rfl, rfl, Nat.le_refl _, fun _ _ _ _ => rfl⟩
theorem But2.blk {g b : Nat} {w w' : World} (h : But2 g b w w') {k : Nat} {o : Obj} (hk : w.heap[k]? = some o) (h1 : k ≠ g) (h2 : k ≠ b) : w'.heap[k]? = some o := (h.block k (Array.getElem?_eq_some_iff.1 hk).1 h1 h2).trans hk
theorem But2.set1 {g b : Nat} {w w' : World} (h : But2 g b w w') (o : Nat) (v : Value) : But2 g b w (w'.setCell ⟨g, o, none⟩ v) := ⟨h.os, h.tape, h.output, by rw [show (w'.setCell ⟨g, o, none⟩ v).heap.size = w'.heap.size by simp [World.setCell]]; exact h.size, fun i hi h1 h2 => (Below.heap_setCell w' ⟨g, o, none⟩ v i h1).trans (h.block i hi h1 h2)⟩
theorem But2.set2 {g b : Nat} {w w' : World} (h : But2 g b w w') (o : Nat) (v : Value) : But2 g b w (w'.setCell ⟨b, o, none⟩ v) := ⟨h.os, h.tape, h.output, by rw [show (w'.setCell ⟨b, o, none⟩ v).heap.size = w'.heap.size by simp [World.setCell]]; exact h.size, fun i hi h1 h2 => (Below.heap_setCell w' ⟨b, o, none⟩ v i h2).trans (h.block i hi h1 h2)⟩
theorem But2.to_kp {g b : Nat} {w2 w w' : World} (h : But2 g b w w') (k : Kp w2 w) (hg : w2.heap.size ≤ g) (hb : w2.heap.size ≤ b) : Kp w2 w' := ⟨h.os.trans k.os, h.tape.trans k.tape, h.output.trans k.output, Nat.le_trans k.size h.size, fun i hi => (h.block i (Nat.lt_of_lt_of_le hi k.size) (by omega) (by omega)).trans (k.block i hi)⟩
theorem But2.own {g b : Nat} {w : World} {β : Type} {B : Nat} (hB : w.heap.size ≤ B) : OwnFrom B (fun (_ : β) W => But2 g b w W) := fun _ X Y row hs hg hr =>
  ⟨hg.os.trans hs.os, hg.tape.trans hs.tape, hg.output.trans hs.output, Nat.le_trans hs.size hg.size, fun k hk h1 h2 => (hg.block k (Nat.lt_of_lt_of_le hk hs.size) (fun e => by have := (hr k e.symm).1; omega)).trans (hs.block k hk h1 h2)⟩
theorem Marks.own {β : Type} {q G B : Nat} {f : β → List Nat} (hq : q < B) : OwnFrom B (fun (s : β) W => Marks W q G (f s)) := fun s X Y row hs hg hr =>
  hs.of (hg.block q (by obtain ⟨cs, hb, _⟩ := hs; exact (Array.getElem?_eq_some_iff.1 hb).1) (fun e => by have := (hr q e.symm).1; omega))

/-- No number twice, all below G. -/
def Good (G : Nat) (xs : List Nat) : Prop := xs.Nodup ∧ ∀ x, x ∈ xs → x < G

set_option maxRecDepth 100000 in
set_option maxHeartbeats 8000000 in
theorem walk_yes (h k : Nat) (w : World) (hh : h < 18446744073709551616) (hk : k ≤ 13) :
    Calls Try.prog 3 #[.int .u64 (h : Int), .int .i64 ((2 ^ k : Nat) : Int)] w fun e w' => e = .returned (.bool true) ∧ Kp w w' := by
  have hO := order_call (h : Int) ((2 ^ k : Nat) : Int)
  have hv := valid_any ((2 ^ k : Nat) : Int)
  rw [pwG_pow hk] at hv
  obtain ⟨g1, g2⟩ := pow_bounds hk
  have hon := ordN_yes (h := h) hk
  have hgood : Hid ((ordN h ((2 ^ k : Nat) : Int)).length = 2 ^ k ∧ (∀ x, x ∈ ordN h ((2 ^ k : Nat) : Int) → x < 2 ^ k) ∧ (ordN h ((2 ^ k : Nat) : Int)).Nodup) := by
    refine ⟨by rw [hon]; simp, fun x hx => ?_, ?_⟩
    · rw [hon] at hx
      obtain ⟨j, hj, rfl⟩ := List.mem_map.1 hx
      exact metN_lt g1
    · rw [hon]
      unfold List.Nodup
      rw [List.pairwise_map]
      refine List.Pairwise.imp_of_mem ?_ (List.nodup_range (n := 2 ^ k))
      intro a b ha hb hab e
      exact hab (metN_inj (List.mem_range.1 ha) (List.mem_range.1 hb) e)
  have hnil := eq_nil_seq
  obtain ⟨ob, hmk, hmo⟩ := make_bools (2 ^ k) g2
  replace hmo := hide hmo
  clear hon
  have hgood2 := hgood
  generalize hGe : 2 ^ k = G at *
  replace hGe := hide hGe
  refine (callsIn_wide (n := 8)).1 ?_
  refine callsIn_of_wp_marks Try.func3 rfl trivial ?_ rfl
  simp only [Try.ntmps3, List.size_toArray, List.length_cons, List.length_nil, Nat.reduceAdd, Nat.reduceSub, Array.replicate_succ, Array.replicate_zero, List.push_toArray, List.append_toArray, List.nil_append, List.cons_append]
  rw [wpIn_wide]
  go_wp2_with fail
  refine (hv _).mono ?_
  rintro e W ⟨rfl, rfl⟩
  obtain ⟨W1, hW1, k1, hsz1, hr1, hs1, hq1⟩ := allocs3 w (.cells #[.bool false] 4) (.cells #[.slice (some ⟨w.heap.size + 1 + 1, 0, none⟩) G G] 23) ob
  have hm1 : Marks W1 (w.heap.size + 1 + 1) G [] := by
    have e : ((w.alloc (.cells #[.bool false] 4)).alloc (.cells #[.slice (some ⟨w.heap.size + 1 + 1, 0, none⟩) G G] 23)).heap.size = w.heap.size + 1 + 1 := by simp
    have h2 := hmo.out ((w.alloc (.cells #[.bool false] 4)).alloc (.cells #[.slice (some ⟨w.heap.size + 1 + 1, 0, none⟩) G G] 23))
    rw [e] at h2
    rw [hW1]
    exact h2
  clear hq1
  go_wp2_with fail
  rw [← hW1]
  clear hW1 hv hmo hmk
  refine (hO _).mono ?_
  rintro e W ⟨rfl, rfl⟩
  obtain ⟨W0, hW0, k0, hsz0, hb, hg, hn⟩ := allocs3 W1 (.cells #[.int .u64 (h : Int)] 22) (.cells #[.int .i64 (G : Int)] 3) (.cells #[.int .i64 0] 3)
  go_wp2_with fail
  rw [← hW0]
  clear hW0 hO hnil
  have hr := k0.blk hr1
  have hs := k0.blk hs1
  have hm : Marks W0 (w.heap.size + 1 + 1) G [] := hm1.of (k0.block _ (by rw [hsz1]; omega))
  have kw := k1.trans k0
  have hsz : W0.heap.size = w.heap.size + 6 := by omega
  rw [hsz1] at hb hg hn
  clear hr1 hs1 hm1 k0 k1 hsz0
  obtain ⟨B0, hB0⟩ : ∃ B, B = w.heap.size := ⟨_, rfl⟩
  obtain ⟨B1, hB1⟩ : ∃ B, B = w.heap.size + 1 := ⟨_, rfl⟩
  obtain ⟨B2, hB2⟩ : ∃ B, B = w.heap.size + 1 + 1 := ⟨_, rfl⟩
  obtain ⟨B3, hB3⟩ : ∃ B, B = w.heap.size + 3 := ⟨_, rfl⟩
  obtain ⟨B4, hB4⟩ : ∃ B, B = w.heap.size + 3 + 1 := ⟨_, rfl⟩
  obtain ⟨B5, hB5⟩ : ∃ B, B = w.heap.size + 3 + 1 + 1 := ⟨_, rfl⟩
  rw [← hB5] at hn ⊢
  rw [← hB4] at hg ⊢
  rw [← hB3] at hb ⊢
  rw [← hB2] at hm hs ⊢
  rw [← hB1] at hs ⊢
  rw [← hB0] at hr ⊢
  have hN : Aside (B0 = w.heap.size ∧ B1 = w.heap.size + 1 ∧ B2 = w.heap.size + 2 ∧ B3 = w.heap.size + 3 ∧ B4 = w.heap.size + 4 ∧ B5 = w.heap.size + 5 ∧ W0.heap.size = w.heap.size + 6) := ⟨hB0, hB1, hB2, hB3, hB4, hB5, hsz⟩
  clear hB0 hB1 hB2 hB3 hB4 hB5 hsz hsz1
  refine range_order (n := 8) (by omega) hh (Bg := B4) (Bh := B3) (g := (G : Int)) rfl hg hb rfl
    (fun a x => { tmps := (a.tmps.setIfInBounds 19 (.int .i64 (x : Int))).setIfInBounds 8 (.int .i64 (x : Int)), defers := [] })
    (fun pre W => (Boxed W B5 3 (.int .i64 (pre.length : Int)) ∧ pre.Nodup ∧ ∀ x, x ∈ pre → x < G) ∧ Marks W B2 G pre ∧ But2 B5 B2 W0 W)
    (fun c xs W => ¬ Good G xs)
    ?hI ?hIx ⟨⟨hn, List.nodup_nil, by simp⟩, hm, But2.refl _ _ _⟩ ?hassign ?hbody ?hdone ?hstop
  case hI =>
    obtain ⟨n0, n1, n2, n3, n4, n5, n6⟩ := hN.out
    exact OwnFrom.and (OwnFrom.and (Own.from (boxed_own _ _ _) _) (ownFrom_pure _ _)) (OwnFrom.and (Marks.own (f := fun s => s) (by omega)) (But2.own (Nat.le_refl _)))
  case hIx => exact fun c s X Y row hs hg hr => hs
  case hassign =>
    intro l x W K hK
    gi_wp2
    exact hK
  case hbody =>
    rintro l pre y X hl ⟨rr, hrr⟩ ⟨⟨hS, hnd, hlt⟩, hM, hbut⟩ hlen
    obtain ⟨n0, n1, n2, n3, n4, n5, n6⟩ := hN.out
    rw [hgood.out.1] at hlen
    obtain ⟨s1, s2⟩ := one_cell (hbut.blk hs (by omega) (by omega))
    obtain ⟨r1, r2⟩ := one_cell (hbut.blk hr (by omega) (by omega))
    have cS := hS.cell
    have fS := hS.frozen
    have hle : (pre.length : Int) ≤ 8192 := by omega
    by_cases hy : y < G
    · have hcy := hM.cell hy
      have hfy := hM.frozen y
      by_cases hmem : y ∈ pre
      · rw [decide_eq_true hmem] at hcy
        have hx : Hid (KeepsFrom W0.heap.size X (X.setCell ⟨B0, 0, none⟩ (.bool false)) ∧ ¬ Good G (pre ++ [y])) := ⟨keepsFrom_set _, fun h => by
          have := (List.nodup_append.1 h.1).2.2 y hmem y (by simp)
          exact this rfl⟩
        have hy' : (y : Int) < (G : Int) := by omega
        clear n0 n1 n2 n3 n4 n5 n6 hS hbut hM hnd hlt hmem hlen hrr
        dsimp only
        simp only [List.setIfInBounds_toArray, List.set_cons_zero, List.set_cons_succ]
        gi_wp2_with fail
        exact hx.out
      · rw [decide_eq_false hmem] at hcy
        have hy' : (y : Int) < (G : Int) := by omega
        have hS1 : Boxed (X.setCell ⟨B2, y, none⟩ (.bool true)) B5 3 (.int .i64 (pre.length : Int)) := (Below.heap_setCell X ⟨B2, y, none⟩ _ B5 (by show B5 ≠ B2; omega)).trans hS
        have cS1 := hS1.cell
        have fS1 := hS1.frozen
        have e1 : ((X.setCell ⟨B2, y, none⟩ (.bool true)).setCell ⟨B5, 0, none⟩ (.int .i64 ((pre.length : Int) + 1))).heap[B2]? = (X.setCell ⟨B2, y, none⟩ (.bool true)).heap[B2]? := Below.heap_setCell _ ⟨B5, 0, none⟩ _ B2 (by show B2 ≠ B5; omega)
        have hx : Hid (KeepsFrom W0.heap.size X ((X.setCell ⟨B2, y, none⟩ (.bool true)).setCell ⟨B5, 0, none⟩ (.int .i64 ((pre.length : Int) + 1))) ∧ Stay B4 B3 X ((X.setCell ⟨B2, y, none⟩ (.bool true)).setCell ⟨B5, 0, none⟩ (.int .i64 ((pre.length : Int) + 1))) ∧ (Boxed ((X.setCell ⟨B2, y, none⟩ (.bool true)).setCell ⟨B5, 0, none⟩ (.int .i64 ((pre.length : Int) + 1))) B5 3 (.int .i64 (((pre ++ [y]).length : Nat) : Int)) ∧ (pre ++ [y]).Nodup ∧ ∀ x, x ∈ pre ++ [y] → x < G) ∧ Marks ((X.setCell ⟨B2, y, none⟩ (.bool true)).setCell ⟨B5, 0, none⟩ (.int .i64 ((pre.length : Int) + 1))) B2 G (pre ++ [y]) ∧ But2 B5 B2 W0 ((X.setCell ⟨B2, y, none⟩ (.bool true)).setCell ⟨B5, 0, none⟩ (.int .i64 ((pre.length : Int) + 1)))) := by
          refine ⟨(keepsFrom_set _).trans (keepsFrom_set _), (stay_set (by omega) (by omega)).trans (stay_set (by omega) (by omega)), ⟨?_, ?_, ?_⟩, (hM.set hy).of e1, (hbut.set2 _ _).set1 _ _⟩
          · rw [show (((pre ++ [y]).length : Nat) : Int) = (pre.length : Int) + 1 by simp]
            exact hS1.set _
          · refine List.nodup_append.2 ⟨hnd, by simp, fun a ha b hb e => ?_⟩
            simp only [List.mem_singleton] at hb
            subst hb
            subst e
            exact hmem ha
          · intro x hx
            rcases List.mem_append.1 hx with h | h
            · exact hlt x h
            · rw [List.mem_singleton.1 h]; exact hy
        clear n0 n1 n2 n3 n4 n5 n6 hS hbut hM hnd hlt hmem hlen hrr e1 hS1
        dsimp only
        simp only [List.setIfInBounds_toArray, List.set_cons_zero, List.set_cons_succ]
        gi_wp2_with fail
        exact hx.out
    · have hx : Hid (KeepsFrom W0.heap.size X (X.setCell ⟨B0, 0, none⟩ (.bool false)) ∧ ¬ Good G (pre ++ [y])) := ⟨keepsFrom_set _, fun h => hy (h.2 y (by simp))⟩
      have hy' : ¬ (y : Int) < (G : Int) := by omega
      have hy2 : (G : Int) ≤ (y : Int) := by omega
      clear n0 n1 n2 n3 n4 n5 n6 hS hbut hM hnd hlt hlen hrr
      dsimp only
      simp only [List.setIfInBounds_toArray, List.set_cons_zero, List.set_cons_succ]
      gi_wp2_with fail
      exact hx.out
  case hdone =>
    rintro D X hD ⟨⟨hS, hnd, hlt⟩, hM, hbut⟩ hK
    obtain ⟨n0, n1, n2, n3, n4, n5, n6⟩ := hN.out
    rw [hgood.out.1] at hS
    have hrB := hbut.blk hr (by omega) (by omega)
    obtain ⟨r1, r2⟩ := one_cell hrB
    have cs := (one_cell (hbut.blk hs (by omega) (by omega))).1
    have cn := hS.cell
    have hd : (X.setCell ⟨B0, 0, none⟩ (.bool true)).heap[D]? = some (.deferred (some [])) := set_blk hK (by omega)
    have r3 : Boxed (X.setCell ⟨B0, 0, none⟩ (.bool true)) B0 4 (.bool true) := Boxed.set _ hrB
    have r4 := (one_cell (put_blk (l := D) (o := .deferred none) r3 (by omega))).1
    have kf : Kp w ((X.setCell ⟨B0, 0, none⟩ (.bool true)).putObj D (.deferred none)) := kp_put (show Kp w (X.setCell ⟨B0, 0, none⟩ (.bool true)) from Below.setCell (hbut.to_kp kw (by omega) (by omega)) (by show w.heap.size ≤ B0; omega) _) (by omega) _
    have hfin : Aside (_ ∧ _ ∧ _) := ⟨hd, r4, kf⟩
    clear n0 n1 n2 n3 n4 n5 n6 hrB hK hD hd r3 r4 kf hr hn hb hg hs kw hN hbut hM hnd hlt hS hm hgood hgood2
    go_wp2_with fail
    obtain ⟨d1, r4, kf⟩ := hfin.out
    refine ⟨by simp, .inl ⟨_, _, rfl, run_takeDeferred d1, ?_⟩⟩
    exact ⟨_, resO _ _ B0 _ rfl r4, rfl, kf⟩
  case hstop =>
    intro D c pre X hD hp hx hK
    exfalso
    refine hx ⟨hp.sublist.nodup hgood.out.2.2, fun x hxm => hgood.out.2.1 x (hp.subset hxm)⟩

theorem walk (h g : Int) (w0 : (Lit.int .u64 h).wf = true) (w1 : (Lit.int .i64 g).wf = true) (w : World) :
    Calls Try.prog 3 #[.int .u64 h, .int .i64 g] w fun e w' => e = .returned (.bool true) ∧ Below w.heap.size w w' := by
  obtain ⟨H, rfl, hH⟩ := u64_nat w0
  cases hq : pw g 1 8192
  · exact walk_no H g w hH hq
  · obtain ⟨k, hk, rfl⟩ := pwG hq
    exact walk_yes H k w hH hk
end probeOnce
end Go.Proofs.Ytkjbhhfnhpnifaa
