/-
  A range over Order, as the program and the statements meet it; Steps.
-/
import Derived.Test.YtkjbhhfnhpnifaaPO1
namespace Go.Proofs.Ytkjbhhfnhpnifaa
open Go.RowKit Go.Shelf
set_option linter.unusedVariables false

theorem Stay.put {b c : Nat} {W : World} {l : Nat} (o' : Obj) (hb : b < l) (hc : c < l) : Stay b c W (W.putObj l o') := fun q o hq e =>
  ((grownBy_putObj' W l o').block q (Array.getElem?_eq_some_iff.1 e).1 (fun e' => by cases e'; omega)).trans e

/-- All blocks of w stand, but g. -/
structure But (g : Nat) (w w' : World) : Prop where
  os : w'.os = w.os
  tape : w'.tape = w.tape
  output : w'.output = w.output
  size : w.heap.size ≤ w'.heap.size
  block : ∀ k, k < w.heap.size → k ≠ g → w'.heap[k]? = w.heap[k]?
theorem But.refl (g : Nat) (w : World) : But g w w := ⟨rfl, rfl, rfl, Nat.le_refl _, fun _ _ _ => rfl⟩
theorem But.blk {g : Nat} {w w' : World} (h : But g w w') {k : Nat} {o : Obj} (hk : w.heap[k]? = some o) (hne : k ≠ g) : w'.heap[k]? = some o := (h.block k (Array.getElem?_eq_some_iff.1 hk).1 hne).trans hk
theorem But.cell {g : Nat} {w w' : World} (h : But g w w') {p : Addr} {v : Value} (hp : w.cell? p = some v) (hne : p.block ≠ g) : w'.cell? p = some v := by
  have : p.block < w.heap.size := by
    refine Nat.lt_of_not_le fun hn => ?_
    rw [World.cell?, Array.getElem?_eq_none hn] at hp
    cases hp
  exact (World.cell?_of_block (w := w) (h.block p.block this hne)).trans hp
theorem But.kp {g : Nat} {w w1 w' : World} (h : But g w w1) (k : Kp w1 w') : But g w w' := ⟨k.os.trans h.os, k.tape.trans h.tape, k.output.trans h.output, Nat.le_trans h.size k.size, fun i hi hne => (k.block i (Nat.lt_of_lt_of_le hi h.size)).trans (h.block i hi hne)⟩
theorem But.setCell {g : Nat} {w w' : World} (h : But g w w') (o : Nat) (v : Value) : But g w (w'.setCell ⟨g, o, none⟩ v) := ⟨h.os, h.tape, h.output, by rw [show (w'.setCell ⟨g, o, none⟩ v).heap.size = w'.heap.size by simp [World.setCell]]; exact h.size, fun i hi hne => (Below.heap_setCell w' ⟨g, o, none⟩ v i hne).trans (h.block i hi hne)⟩
theorem But.to_kp {g : Nat} {w2 w w' : World} (h : But g w w') (k : Kp w2 w) (hg : w2.heap.size ≤ g) : Kp w2 w' := ⟨h.os.trans k.os, h.tape.trans k.tape, h.output.trans k.output, Nat.le_trans k.size h.size, fun i hi => (h.block i (Nat.lt_of_lt_of_le hi k.size) (by omega)).trans (k.block i hi)⟩
theorem But.own {g : Nat} {w : World} {β : Type} {B : Nat} (hB : w.heap.size ≤ B) : OwnFrom B (fun (_ : β) W => But g w W) := fun _ X Y row hs hg hr =>
  ⟨hg.os.trans hs.os, hg.tape.trans hs.tape, hg.output.trans hs.output, Nat.le_trans hs.size hg.size, fun k hk hne => (hg.block k (Nat.lt_of_lt_of_le hk hs.size) (fun e => by have := (hr k e.symm).1; omega)).trans (hs.block k hk hne)⟩
theorem But.trans2 {g b : Nat} {A B C : World} (h : But g A B) (k : But b B C) (hb : A.heap.size ≤ b) : But g A C := ⟨k.os.trans h.os, k.tape.trans h.tape, k.output.trans h.output, Nat.le_trans h.size k.size, fun i hi hne => (k.block i (Nat.lt_of_lt_of_le hi h.size) (by omega)).trans (h.block i hi hne)⟩

theorem prefix_snoc {pre l : List Nat} (h : pre <+: l) (hl : pre.length < l.length) : pre ++ [l[pre.length]] <+: l := by
  obtain ⟨t, rfl⟩ := h
  cases t with
  | nil => simp at hl
  | cons x t => exact ⟨t, by simp⟩
theorem prefix_last {pre l : List Nat} {x : Nat} (h : pre ++ [x] <+: l) (hl : pre.length < l.length) : x = l[pre.length] := by
  obtain ⟨t, rfl⟩ := h
  simp
theorem keepsFrom_kp {B : Nat} {W W' : World} (k : Kp W W') : KeepsFrom B W W' := ⟨k.size, fun q o _ hq _ => k.blk hq⟩
theorem keepsFrom_set {B : Nat} {W : World} {q o : Nat} (v : Value) : KeepsFrom B W (W.setCell ⟨q, o, none⟩ v) := (KeepsOthers.setCell _ _ _).from _
theorem keepsFrom_but {B g : Nat} {W W' : World} {cs : Array Value} {t : TypeId} (h : But g W W') (hg : W.heap[g]? = some (.cells cs t)) : KeepsFrom B W W' := ⟨h.size, fun q o _ hq ho => h.blk hq (fun e => by
  subst e
  rw [hg] at hq
  cases hq
  cases ho)⟩
theorem stay_set {b c : Nat} {W : World} {q o : Nat} {v : Value} (h1 : b ≠ q) (h2 : c ≠ q) : Stay b c W (W.setCell ⟨q, o, none⟩ v) := fun j x hj e => (Below.heap_setCell W ⟨q, o, none⟩ v j (by rcases hj with rfl | rfl <;> assumption)).trans e
theorem stay_but {b c g : Nat} {W W' : World} (h : But g W W') (h1 : b ≠ g) (h2 : c ≠ g) : Stay b c W W' := fun j x hj e => h.blk e (by rcases hj with rfl | rfl <;> assumption)
theorem kp_put {w W : World} (k : Kp w W) {l : Nat} (hl : w.heap.size ≤ l) (o : Obj) : Kp w (W.putObj l o) := by
  have g := grownBy_putObj' W l o
  exact ⟨g.os.trans k.os, g.tape.trans k.tape, g.output.trans k.output, Nat.le_trans k.size g.size, fun i hi => (g.block i (Nat.lt_of_lt_of_le hi k.size) (fun e => by cases e; omega)).trans (k.block i hi)⟩
theorem put_blk {W : World} {l q : Nat} {o o' : Obj} (h : W.heap[q]? = some o') (hne : q ≠ l) : (W.putObj l o).heap[q]? = some o' :=
  ((grownBy_putObj' W l o).block q (Array.getElem?_eq_some_iff.1 h).1 (fun e => hne (by cases e; rfl))).trans h
theorem set_blk {W : World} {l q : Nat} {v : Value} {o' : Obj} (h : W.heap[q]? = some o') (hne : q ≠ l) : (W.setCell ⟨l, 0, none⟩ v).heap[q]? = some o' := (Below.heap_setCell W ⟨l, 0, none⟩ v q hne).trans h

section
variable {op : Operand} {ps : Array Tmp} {assign body : Code} {Q : Exit → Act → World → Prop} {a : Act} {w : World} {n : Nat}

/-- The outer range. -/
theorem range_order (h1 : 2 ≤ n) {Bg Bh h : Nat} {g : Int} (hh : h < 18446744073709551616) (hop : a.eval op = .func (.func 19) #[] #[.pointer (some ⟨Bg, 0, none⟩), .pointer (some ⟨Bh, 0, none⟩)]) (hg : w.heap[Bg]? = some (.cells #[.int .i64 g] 3)) (hb : w.heap[Bh]? = some (.cells #[.int .u64 (h : Int)] 22)) (hps : ps.size = 1)
    (A : Act → Nat → Act) (I : List Nat → World → Prop) (Ix : Code → List Nat → World → Prop) (hI : OwnFrom w.heap.size I) (hIx : ∀ c, OwnFrom w.heap.size (Ix c)) (h0 : I [] w)
    (hassign : ∀ (l : Nat) (x : Nat) (W : World) (K : Act → World → Prop), K (A a x) W →
      assign.wpIn (Fence.wide.inRound l) (n - 1 - 1) Try.prog (Exit.then K (fun _ _ _ => False)) { tmps := (ps.zip #[Value.int .i64 (x : Int)]).foldl (fun t (p, v) => t.setIfInBounds p v) a.tmps, defers := [] } W)
    (hbody : ∀ (l : Nat) (pre : List Nat) (x : Nat) (W : World), w.heap.size ≤ l → (∃ r, W.heap[l]? = some (.loop r)) → I pre W → pre.length < (ordN h g).length → body.wpIn (Fence.wide.inRound l) (n - 1 - 1) Try.prog (ownPostG w.heap.size (Stay Bg Bh) I Ix (pre ++ [x]) W) (A a x) W)
    (hdone : ∀ (D : Nat) (W : World), w.heap.size ≤ D → I (ordN h g) W → W.heap[D]? = some (.deferred (some [])) → Q .normal { a with defers := { target := .collected D, args := #[] } :: a.defers } W)
    (hstop : ∀ (D : Nat) (c : Code) (pre : List Nat) (W : World), w.heap.size ≤ D → pre <+: ordN h g → Ix c pre W → W.heap[D]? = some (.deferred (some [])) → c.wpIn Fence.wide n Try.prog Q { a with defers := { target := .collected D, args := #[] } :: a.defers } W) :
    (Code.rangeFunc op ps assign body).wp Try.prog Q a w := by
  have hlb : Bg < w.heap.size := (Array.getElem?_eq_some_iff.1 hg).1
  have hlc : Bh < w.heap.size := (Array.getElem?_eq_some_iff.1 hb).1
  rw [← wpIn_wide (n := n)]
  exact wpIn_rangeFunc_ownH rfl (by omega) (gf := 19) (lb := #[.pointer (some ⟨Bg, 0, none⟩), .pointer (some ⟨Bh, 0, none⟩)]) hop trivial (enters_of Try.func19 (by kernel_rfl) rfl)
    (order_stops (n - 1) (by omega) Bg Bh h g hh w hg hb) Stay.trans (fun W l o o' hl h hc _ => Stay.put o' (by omega) (by omega)) (Below.refl _ _) (fun _ => by rw [hps]; rfl)
    I Ix hI hIx h0 (fun x a' _ => a' = A a x) (fun _ _ _ _ _ _ hs _ _ => hs)
    (fun l pre x W K hi hK => hassign l x W K (hK _ _ (KeepsFrom.refl _ _) (Stay.refl _ _ _) hi rfl))
    (fun l pre x a' W hl hr hi e hlt => by subst e; exact hbody l pre x W hl hr hi hlt)
    (fun D xs W hD hS hi hK => by subst hS; exact hdone D W hD hi hK)
    hstop

/-- The inner range: within a round of loop l₀. -/
theorem range_within {F : Fence} {l₀ : Nat} {r₀ : Loop} (hF : F = Fence.wide.inRound l₀) (hl₀ : w.heap[l₀]? = some (.loop r₀)) (h1 : 2 ≤ n) {Bg Bh h : Nat} {g : Int} (hh : h < 18446744073709551616) (hop : a.eval op = .func (.func 19) #[] #[.pointer (some ⟨Bg, 0, none⟩), .pointer (some ⟨Bh, 0, none⟩)]) (hg : w.heap[Bg]? = some (.cells #[.int .i64 g] 3)) (hb : w.heap[Bh]? = some (.cells #[.int .u64 (h : Int)] 22)) (hps : ps.size = 1)
    (A : Act → Nat → Act) (I : List Nat → World → Prop) (Ix : Code → List Nat → World → Prop) (hI : OwnFrom w.heap.size I) (hIx : ∀ c, OwnFrom w.heap.size (Ix c)) (h0 : I [] w)
    (hassign : ∀ (l : Nat) (x : Nat) (W : World) (K : Act → World → Prop), K (A a x) W →
      assign.wpIn (F.inRound l) (n - 1 - 1) Try.prog (Exit.then K (fun _ _ _ => False)) { tmps := (ps.zip #[Value.int .i64 (x : Int)]).foldl (fun t (p, v) => t.setIfInBounds p v) a.tmps, defers := [] } W)
    (hbody : ∀ (l : Nat) (pre : List Nat) (x : Nat) (W : World), w.heap.size ≤ l → I pre W → pre.length < (ordN h g).length → body.wpIn (F.inRound l) (n - 1 - 1) Try.prog (ownPostG w.heap.size (Stay Bg Bh) I Ix (pre ++ [x]) W) (A a x) W)
    (hdone : ∀ (W : World), I (ordN h g) W → Q .normal a W)
    (hstop : ∀ (c : Code) (pre : List Nat) (W : World), pre <+: ordN h g → Ix c pre W → c.wpIn F n Try.prog Q a W) :
    (Code.rangeFunc op ps assign body).wpIn F n Try.prog Q a w := by
  have hlb : Bg < w.heap.size := (Array.getElem?_eq_some_iff.1 hg).1
  have hlc : Bh < w.heap.size := (Array.getElem?_eq_some_iff.1 hb).1
  subst hF
  exact wpIn_rangeFunc_ownN (l₀ := l₀) (r₀ := r₀) rfl hl₀ (by omega) (gf := 19) (lb := #[.pointer (some ⟨Bg, 0, none⟩), .pointer (some ⟨Bh, 0, none⟩)]) hop trivial (enters_of Try.func19 (by kernel_rfl) rfl)
    ((order_stops (n - 1) (by omega) Bg Bh h g hh w hg hb).inRound l₀) Stay.trans (fun W l o o' hl h hc _ => Stay.put o' (by omega) (by omega)) (Below.refl _ _) (fun _ => by rw [hps]; rfl)
    I Ix hI hIx h0 (fun x a' _ => a' = A a x) (fun _ _ _ _ _ _ hs _ _ => hs)
    (fun l pre x W K hi hK => hassign l x W K (hK _ _ (KeepsFrom.refl _ _) (Stay.refl _ _ _) hi rfl))
    (fun l pre x a' W hl hr hi e hlt => by subst e; exact hbody l pre x W hl hi hlt)
    (fun xs W hS hi => by subst hS; exact hdone W hi)
    (fun c pre W hS hi => hstop c pre W hS hi)
end

/-- At which step a group is looked at. -/
def stepsL (x : Int) : List Nat → Nat → Int
  | [], _ => -1
  | y :: ys, i => if (y : Int) = x then (i : Int) else stepsL x ys (i + 1)
def stepsN (h : Nat) (g x : Int) : Int := stepsL x (ordN h g) 0
theorem stepsL_none {x : Int} : ∀ {l : List Nat} {i : Nat}, (∀ y, y ∈ l → (y : Int) ≠ x) → stepsL x l i = -1
  | [], _, _ => rfl
  | y :: ys, i, h => by
    unfold stepsL
    rw [if_neg (h y (by simp))]
    exact stepsL_none (fun z hz => h z (by simp [hz]))
theorem stepsL_some {x : Int} {t : List Nat} {y : Nat} (hy : (y : Int) = x) : ∀ {pre : List Nat} {i : Nat}, (∀ z, z ∈ pre → (z : Int) ≠ x) → stepsL x (pre ++ y :: t) i = ((i + pre.length : Nat) : Int)
  | [], i, _ => by
    show stepsL x (y :: t) i = _
    unfold stepsL
    rw [if_pos hy]
    rfl
  | z :: zs, i, h => by
    show stepsL x (z :: (zs ++ y :: t)) i = _
    unfold stepsL
    rw [if_neg (h z (by simp)), stepsL_some hy (pre := zs) (fun u hu => h u (by simp [hu]))]
    simp only [List.length_cons]
    omega

theorem Kp.own {w : World} {β : Type} {B : Nat} (hB : w.heap.size ≤ B) : OwnFrom B (fun (_ : β) W => Kp w W) := fun _ X Y row hs hg hr =>
  ⟨hg.os.trans hs.os, hg.tape.trans hs.tape, hg.output.trans hs.output, Nat.le_trans hs.size hg.size, fun k hk => (hg.block k (Nat.lt_of_lt_of_le hk hs.size) (fun e => by have := (hr k e.symm).1; omega)).trans (hs.block k hk)⟩
theorem allocs5 (w : World) (o0 o1 o2 o3 o4 : Obj) : ∃ W, W = ((((w.alloc o0).alloc o1).alloc o2).alloc o3).alloc o4 ∧ Kp w W ∧ W.heap.size = w.heap.size + 5 ∧ W.heap[w.heap.size]? = some o0 ∧ W.heap[w.heap.size + 1]? = some o1 ∧ W.heap[w.heap.size + 1 + 1]? = some o2 ∧ W.heap[w.heap.size + 1 + 1 + 1]? = some o3 ∧ W.heap[w.heap.size + 1 + 1 + 1 + 1]? = some o4 := by
  have s1 : (w.alloc o0).heap.size = w.heap.size + 1 := by simp
  have s2 : ((w.alloc o0).alloc o1).heap.size = w.heap.size + 1 + 1 := by simp
  have s3 : (((w.alloc o0).alloc o1).alloc o2).heap.size = w.heap.size + 1 + 1 + 1 := by simp
  have s4 : ((((w.alloc o0).alloc o1).alloc o2).alloc o3).heap.size = w.heap.size + 1 + 1 + 1 + 1 := by simp
  refine ⟨_, rfl, ((((Kp.refl w).alloc o0).alloc o1).alloc o2).alloc o3 |>.alloc o4, by simp, ?_, ?_, ?_, ?_, ?_⟩
  · exact heap_old (heap_old (heap_old (heap_old (heap_new w o0))))
  · have := heap_old (o := o4) (heap_old (o := o3) (heap_old (o := o2) (heap_new (w.alloc o0) o1))); rwa [s1] at this
  · have := heap_old (o := o4) (heap_old (o := o3) (heap_new ((w.alloc o0).alloc o1) o2)); rwa [s2] at this
  · have := heap_old (o := o4) (heap_new (((w.alloc o0).alloc o1).alloc o2) o3); rwa [s3] at this
  · have := heap_new ((((w.alloc o0).alloc o1).alloc o2).alloc o3) o4; rwa [s4] at this
theorem ordN_len_le {h : Nat} {g : Int} : (ordN h g).length ≤ 8192 := by
  cases hq : pw g 1 8192
  · rw [ordN_no hq]; simp
  · obtain ⟨k, hk, rfl⟩ := pwG hq
    rw [ordN_yes hk]
    simpa using (pow_bounds hk).2

theorem resS (tmps : Array Value) (w : World) (B : Nat) (v : Value) (hp : tmps.getD 6 undef = .pointer (some ⟨B, 0, none⟩)) (hc : w.cell? ⟨B, 0, none⟩ = some v) : (results Try.f14 tmps).run Try.prog w = .ok v w := by
  have hp' : tmps[6]?.getD undef = .pointer (some ⟨B, 0, none⟩) := by simpa using hp
  simp [results, Try.results14, go_sem, hp', hc]

attribute [local go_sem] Oper.semAt_some

set_option maxRecDepth 100000 in
set_option maxHeartbeats 4000000 in
theorem steps_any (h : Nat) (g x : Int) (w : World) (hh : h < 18446744073709551616) :
    Calls Try.prog 14 #[.int .u64 (h : Int), .int .i64 g, .int .i64 x] w fun e w' => e = .returned (.int .i64 (stepsN h g x)) ∧ Kp w w' := by
  have hO := order_call (h : Int) g
  obtain ⟨V, hV⟩ : ∃ V, stepsN h g x = V := ⟨_, rfl⟩
  rw [hV]
  replace hV := hide hV
  refine (callsIn_wide (n := 8)).1 ?_
  refine callsIn_of_wp_marks Try.func14 rfl trivial ?_ rfl
  simp only [Try.ntmps14, List.size_toArray, List.length_cons, List.length_nil, Nat.reduceAdd, Nat.reduceSub, Array.replicate_succ, Array.replicate_zero, List.push_toArray, List.append_toArray, List.nil_append, List.cons_append]
  rw [wpIn_wide]
  go_wp2_with fail
  refine (hO _).mono ?_
  rintro e W ⟨rfl, rfl⟩
  obtain ⟨W0, hW0, k0, hsz, hx, hr, hn, hb, hg⟩ := allocs5 w (.cells #[.int .i64 x] 3) (.cells #[.int .i64 0] 3) (.cells #[.int .i64 0] 3) (.cells #[.int .u64 (h : Int)] 22) (.cells #[.int .i64 g] 3)
  go_wp2_with fail
  rw [← hW0]
  clear hW0 hO
  obtain ⟨B0, hB0⟩ : ∃ B, B = w.heap.size := ⟨_, rfl⟩
  obtain ⟨B1, hB1⟩ : ∃ B, B = w.heap.size + 1 := ⟨_, rfl⟩
  obtain ⟨B2, hB2⟩ : ∃ B, B = w.heap.size + 1 + 1 := ⟨_, rfl⟩
  obtain ⟨B3, hB3⟩ : ∃ B, B = w.heap.size + 1 + 1 + 1 := ⟨_, rfl⟩
  obtain ⟨B4, hB4⟩ : ∃ B, B = w.heap.size + 1 + 1 + 1 + 1 := ⟨_, rfl⟩
  rw [← hB4] at hg ⊢
  rw [← hB3] at hb ⊢
  rw [← hB2] at hn ⊢
  rw [← hB1] at hr ⊢
  rw [← hB0] at hx ⊢
  have hN : Aside (B0 = w.heap.size ∧ B1 = w.heap.size + 1 ∧ B2 = w.heap.size + 2 ∧ B3 = w.heap.size + 3 ∧ B4 = w.heap.size + 4 ∧ W0.heap.size = w.heap.size + 5) := ⟨hB0, hB1, hB2, hB3, hB4, hsz⟩
  clear hB0 hB1 hB2 hB3 hB4 hsz
  have hlen := ordN_len_le (h := h) (g := g)
  refine range_order (n := 8) (by omega) hh (Bg := B4) (Bh := B3) (g := g) rfl hg hb rfl
    (fun a x => { tmps := (a.tmps.setIfInBounds 12 (.int .i64 (x : Int))).setIfInBounds 8 (.int .i64 (x : Int)), defers := [] })
    (fun pre W => (Boxed W B2 3 (.int .i64 (pre.length : Int)) ∧ ∀ y, y ∈ pre → (y : Int) ≠ x) ∧ But B2 W0 W)
    (fun c xs W => (c = .ret ∧ ∃ (ps : List Nat) (y : Nat), xs = ps ++ [y] ∧ (y : Int) = x ∧ (∀ z, z ∈ ps → (z : Int) ≠ x) ∧ Boxed W B1 3 (.int .i64 (ps.length : Int))) ∧ Kp w W)
    ?hI ?hIx ⟨⟨hn, by simp⟩, But.refl _ _⟩ ?hassign ?hbody ?hdone ?hstop
  case hI => exact OwnFrom.and (OwnFrom.and (Own.from (boxed_own _ _ _) _) (ownFrom_pure _ _)) (But.own (Nat.le_refl _))
  case hIx =>
    intro c s X Y row hs hg hr
    obtain ⟨⟨h1, ps, y, h2, h3, h4, h5⟩, h6⟩ := hs
    obtain ⟨n0, n1, n2, n3, n4, n5⟩ := hN.out
    refine ⟨⟨h1, ps, y, h2, h3, h4, h5.kept hg (fun e => ?_)⟩, Kp.own (β := Unit) (B := W0.heap.size) (by omega) () X Y row h6 hg hr⟩
    have := (hr B1 e.symm).1
    omega
  case hassign =>
    intro l x W K hK
    gi_wp2
    exact hK
  case hbody =>
    rintro l pre y X hl ⟨rr, hrr⟩ ⟨⟨hS, hpre⟩, hbut⟩ hlt
    obtain ⟨n0, n1, n2, n3, n4, n5⟩ := hN.out
    obtain ⟨x1, x2⟩ := one_cell (hbut.blk hx (by omega))
    obtain ⟨r1, r2⟩ := one_cell (hbut.blk hr (by omega))
    have cS := hS.cell
    have fS := hS.frozen
    have hrB : Boxed X B1 3 (.int .i64 0) := hbut.blk hr (by omega)
    have hfin : Aside (KeepsFrom W0.heap.size X (X.setCell ⟨B2, 0, none⟩ (.int .i64 ((pre.length : Int) + 1))) ∧ Stay B4 B3 X (X.setCell ⟨B2, 0, none⟩ (.int .i64 ((pre.length : Int) + 1))) ∧ Boxed (X.setCell ⟨B2, 0, none⟩ (.int .i64 ((pre.length : Int) + 1))) B2 3 (.int .i64 (((pre ++ [y]).length : Nat) : Int)) ∧ But B2 W0 (X.setCell ⟨B2, 0, none⟩ (.int .i64 ((pre.length : Int) + 1)))) :=
      ⟨keepsFrom_set _, stay_set (by omega) (by omega), by rw [show (((pre ++ [y]).length : Nat) : Int) = (pre.length : Int) + 1 by simp]; exact hS.set _, hbut.setCell 0 _⟩
    have hfin2 : Aside (KeepsFrom W0.heap.size X (X.setCell ⟨B1, 0, none⟩ (.int .i64 (pre.length : Int))) ∧ Boxed (X.setCell ⟨B1, 0, none⟩ (.int .i64 (pre.length : Int))) B1 3 (.int .i64 (pre.length : Int)) ∧ Kp w (X.setCell ⟨B1, 0, none⟩ (.int .i64 (pre.length : Int)))) :=
      ⟨keepsFrom_set _, hrB.set _, Below.setCell (hbut.to_kp k0 (by omega)) (by show w.heap.size ≤ B1; omega) _⟩
    have HP := hide hpre
    have hle : (pre.length : Int) ≤ 8192 := by omega
    clear n0 n1 n2 n3 n4 n5 hS hbut hrB hpre hlt hrr
    dsimp only
    simp only [List.setIfInBounds_toArray, List.set_cons_zero, List.set_cons_succ]
    by_cases hy : (y : Int) = x
    · have hy' : ((y : Int) == x) = true := beq_iff_eq.2 hy
      have HY := hide hy
      clear hy
      gi_wp2_with fail
      exact ⟨hfin2.out.1, ⟨⟨rfl, pre, y, rfl, HY.out, HP.out, hfin2.out.2.1⟩, hfin2.out.2.2⟩⟩
    · have hy' : ((y : Int) == x) = false := beq_eq_false_iff_ne.2 hy
      have HY := hide hy
      clear hy
      gi_wp2_with fail
      refine ⟨hfin.out.1, hfin.out.2.1, ⟨hfin.out.2.2.1, fun z hz => ?_⟩, hfin.out.2.2.2⟩
      rcases List.mem_append.1 hz with h | h
      · exact HP.out z h
      · rw [List.mem_singleton.1 h]; exact HY.out
  case hdone =>
    rintro D X hD ⟨⟨hS, hall⟩, hbut⟩ hK
    obtain ⟨n0, n1, n2, n3, n4, n5⟩ := hN.out
    have e : V = -1 := hV.out.symm.trans (stepsL_none hall)
    subst e
    have hrB : X.heap[B1]? = some (.cells #[.int .i64 0] 3) := hbut.blk hr (by omega)
    obtain ⟨r1, r2⟩ := one_cell hrB
    have hd : (X.setCell ⟨B1, 0, none⟩ (.int .i64 (-1))).heap[D]? = some (.deferred (some [])) := set_blk hK (by omega)
    have r3 : Boxed (X.setCell ⟨B1, 0, none⟩ (.int .i64 (-1))) B1 3 (.int .i64 (-1)) := Boxed.set _ hrB
    have r4 := (one_cell (put_blk (l := D) (o := .deferred none) r3 (by omega))).1
    have kf : Kp w ((X.setCell ⟨B1, 0, none⟩ (.int .i64 (-1))).putObj D (.deferred none)) := kp_put (show Kp w (X.setCell ⟨B1, 0, none⟩ (.int .i64 (-1))) from Below.setCell (hbut.to_kp k0 (by omega)) (by show w.heap.size ≤ B1; omega) _) (by omega) _
    have hfin : Aside (_ ∧ _ ∧ _) := ⟨hd, r4, kf⟩
    clear n0 n1 n2 n3 n4 n5 hS hbut hrB hall hK hD hd r3 r4 kf hx hr hn hb hg k0 hN hlen hV
    go_wp2_with fail
    obtain ⟨d1, r4, kf⟩ := hfin.out
    refine ⟨by simp, .inl ⟨_, _, rfl, run_takeDeferred d1, ?_⟩⟩
    exact ⟨_, resS _ _ B1 _ rfl r4, rfl, kf⟩
  case hstop =>
    rintro D c pre X hD hp ⟨⟨rfl, ps, y, rfl, h3, h4, h5⟩, h6⟩ hK
    obtain ⟨n0, n1, n2, n3, n4, n5⟩ := hN.out
    obtain ⟨t, ht⟩ := hp
    have e : V = (ps.length : Int) := hV.out.symm.trans (by
      unfold stepsN
      rw [← ht, List.append_assoc]
      exact (stepsL_some h3 h4).trans (by omega))
    subst e
    have r4 := (one_cell (put_blk (l := D) (o := .deferred none) h5 (by omega))).1
    have kf : Kp w (X.putObj D (.deferred none)) := kp_put h6 (by omega) _
    have hfin : Aside (_ ∧ _ ∧ _) := ⟨hK, r4, kf⟩
    clear n0 n1 n2 n3 n4 n5 h3 h4 h5 h6 ht hK hD r4 kf hx hr hn hb hg k0 hN hlen hV
    rw [wpIn_wide]
    go_wp2_with fail
    obtain ⟨d1, r4, kf⟩ := hfin.out
    refine ⟨by simp, .inl ⟨_, _, rfl, run_takeDeferred d1, ?_⟩⟩
    exact ⟨_, resS _ _ B1 _ rfl r4, rfl, kf⟩
end Go.Proofs.Ytkjbhhfnhpnifaa
