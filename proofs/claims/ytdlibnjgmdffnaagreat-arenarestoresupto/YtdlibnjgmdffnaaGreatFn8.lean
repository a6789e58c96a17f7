import Derived.RangeFuncNested
import Derived.Deep.QuietTactic
import Derived.BigQuiet
import Derived.Test.YtdlibnjgmdffnaaGreatFn7
/-
  The statements' list of what Blocks gives.
-/
namespace Go.Proofs.YtdlibnjgmdffnaaGreat
open Go.RowKit Go.Shelf

attribute [local go_sem] Oper.semAt_some

theorem PartsStay.put {W : World} {l : Nat} {o : Obj} (h : W.heap[l]? = some o) (hc : o.isCells = false) (o' : Obj) : PartsStay W (W.putObj l o') := fun q cs e => by
  have hne : q ≠ l := fun e' => by
    subst e'
    rw [e] at h
    cases h
    cases hc
  exact ((grownBy_putObj' W l o').block q (heap_lt e) (fun e' => hne (by cases e'; rfl))).trans e

theorem cell_two_new (w : World) (x y : Value) (t : TypeId) : ∀ j u, [x, y][j]? = some u → (w.alloc (.cells #[x, y] t)).cell? ((⟨w.heap.size, 0, none⟩ : Addr).add j) = some u := by
  intro j u hj
  have h : (w.alloc (.cells #[x, y] t)).heap[w.heap.size]? = some (.cells #[x, y] t) := heap_alloc_new _ _
  have hc : (w.alloc (.cells #[x, y] t)).cell? ⟨w.heap.size, 0 + j, none⟩ = (#[x, y] : Array Value)[0 + j]? := by
    unfold World.cell?
    rw [h]
    rfl
  have e : (⟨w.heap.size, 0, none⟩ : Addr).add j = ⟨w.heap.size, 0 + j, none⟩ := by
    simp [Addr.add]
    exact fun e => e.symm
  rw [e, hc]
  simpa using hj
theorem ownsRow_from {w : World} {n₀ e size k g : Nat} {v : Value} {xs : List Value} (h : w.ownsRow n₀ e size v k xs) (hg : v.ownBlock = some g) : n₀ ≤ g := by
  rcases h.2 with ⟨rfl, _⟩ | ⟨g', cap, cur, rfl, hb, _⟩
  · simp [Value.ownBlock] at hg
  · simp [Value.ownBlock] at hg
    omega
theorem ownsRow_less {w : World} {n₀ m e size k : Nat} {v : Value} {xs : List Value} (h : w.ownsRow n₀ e size v k xs) (hm : m ≤ n₀) : w.ownsRow m e size v k xs := by
  refine ⟨h.1, ?_⟩
  rcases h.2 with h | ⟨g', cap, cur, hv, hb, r⟩
  · exact Or.inl h
  · exact Or.inr ⟨g', cap, cur, hv, by omega, r⟩
/-- An append to a list of ints in a box leaves the lists of parts. -/
theorem parts_appended {W w1 : World} {n₀ B : Nat} {v : Value} {k : Nat} {xs : List Value} {tmp : Obj} (hv : Boxed W B 32 v) (hrow : W.ownsRow n₀ 3 1 v k xs) (hgrow : (W.alloc tmp).grownBy w1 v.ownBlock) (u : Value) : PartsStay W (w1.setCell ⟨B, 0, none⟩ u) := fun q cs e => by
  have hqB : q ≠ B := fun e' => by
    subst e'
    have h2 : W.heap[q]? = _ := hv
    rw [e] at h2
    simp at h2
  have hqr : some q ≠ v.ownBlock := fun e' => by
    rcases hrow.2 with ⟨rfl, _⟩ | ⟨g, cap, cur, rfl, _, hg, _⟩
    · simp [Value.ownBlock] at e'
    · obtain rfl : q = g := by simpa [Value.ownBlock] using e'
      rw [e] at hg
      simp at hg
  have h1 : (W.alloc tmp).heap[q]? = some (.cells cs 44) := (Below.heap_alloc _ _ _ (heap_lt e)).trans e
  have h2 := (hgrow.block q (heap_lt h1) hqr).trans h1
  exact (Below.heap_setCell _ ⟨B, 0, none⟩ _ q hqB).trans h2

/-- The list: offset, bytes, offset, bytes, and so on. -/
def flatOf (l : List (Nat × Nat)) : List Int := l.flatMap (fun x => [(x.1 : Int), (x.2 : Int)])

theorem flatOf_length (l : List (Nat × Nat)) : (flatOf l).length = 2 * l.length := by
  induction l with
  | nil => rfl
  | cons x r ih =>
    have : flatOf (x :: r) = [(x.1 : Int), (x.2 : Int)] ++ flatOf r := rfl
    rw [this, List.length_append, ih]
    simp
    omega
theorem flatOf_snoc (l : List (Nat × Nat)) (x : Nat × Nat) : flatOf (l ++ [x]) = flatOf l ++ [(x.1 : Int), (x.2 : Int)] := by simp [flatOf]

set_option maxRecDepth 100000 in
theorem eq_nil_func (W : World) (g : Nat) (x : Array Value) : (binOp .eql 114 (.func (.func g) #[] x) .nilFunc).run Tryz.prog W = .ok (.bool false) W := by
  rfl

set_option maxRecDepth 100000 in
set_option maxHeartbeats 2000000 in
theorem list_in (n : Nat) (hn : 3 ≤ n) (p : Nat) {X : Nat → Prop} {d : AD} (most : Nat) (w : World) (hA : Arena w p X d) (hF : d.Fine) (hlen : d.L.length ≤ 134217728) (hm : (livesOf d.L d.lv).length ≤ most) (hm2 : most ≤ 134217728) :
    CallsIn Fence.wide n Tryz.prog 31 #[.pointer (some ⟨p, 0, none⟩), .int .i64 (most : Int)] w fun e W' => ∃ v, e = .returned v ∧ W'.ownsRow w.heap.size 3 1 v (flatOf (livesOf d.L d.lv)).length ((flatOf (livesOf d.L d.lv)).map (Value.int .i64)) ∧ Below w.heap.size w W' := by
  have hro : Fence.wide.round = none := rfl
  obtain ⟨i0, hi, hz0, hz1, hz2⟩ := info_parts Tryz.infoI2
  have hB : ∀ m W, CallsIn Fence.wide m Tryz.prog 67 #[.pointer (some ⟨p, 0, none⟩)] W fun e w' => e = .returned (.func (.func 91) #[] #[.pointer (some ⟨W.heap.size, 0, none⟩)]) ∧ w' = W.alloc (.cells #[.pointer (some ⟨p, 0, none⟩)] 23) := fun m W => callsIn_wide.2 (blocks_call W p)
  have hne := fun W x => eq_nil_func W 91 x
  refine callsIn_of_wp_marks Tryz.func31 rfl trivial ?_ hro
  simp only [Tryz.ntmps31, List.size_toArray, List.length_cons, List.length_nil, Nat.reduceAdd, Nat.reduceSub, Array.replicate_succ, Array.replicate_zero, List.push_toArray, List.append_toArray, List.nil_append, List.cons_append]
  gi_wp2_with fail
  refine ⟨trivial, (fun _ => by omega), (hB _ _).mono ?_⟩
  rintro e w1 ⟨rfl, rfl⟩
  gi_wp2_with fail
  have hs3 : (((w.alloc (.cells #[.int .i64 (most : Int)] 3)).alloc (.cells #[.slice none 0 0] 32)).alloc (.cells #[.pointer (some ⟨p, 0, none⟩)] 23)).heap.size = w.heap.size + 1 + 1 + 1 := by simp
  have kA : Keeps w (((w.alloc (.cells #[.int .i64 (most : Int)] 3)).alloc (.cells #[.slice none 0 0] 32)).alloc (.cells #[.pointer (some ⟨p, 0, none⟩)] 23)) (fun _ => False) := (((Keeps.refl _ _).alloc _).alloc _).alloc _
  have bM : Boxed (((w.alloc (.cells #[.int .i64 (most : Int)] 3)).alloc (.cells #[.slice none 0 0] 32)).alloc (.cells #[.pointer (some ⟨p, 0, none⟩)] 23)) w.heap.size 3 (.int .i64 (most : Int)) := ((Boxed.new w 3 _).alloc _).alloc _
  have bL : Boxed (((w.alloc (.cells #[.int .i64 (most : Int)] 3)).alloc (.cells #[.slice none 0 0] 32)).alloc (.cells #[.pointer (some ⟨p, 0, none⟩)] 23)) (w.heap.size + 1) 32 (.slice none 0 0) := by
    have := (Boxed.new (w.alloc (.cells #[.int .i64 (most : Int)] 3)) 32 (.slice none 0 0)).alloc (.cells #[.pointer (some ⟨p, 0, none⟩)] 23)
    simpa using this
  have bA : (((w.alloc (.cells #[.int .i64 (most : Int)] 3)).alloc (.cells #[.slice none 0 0] 32)).alloc (.cells #[.pointer (some ⟨p, 0, none⟩)] 23)).cell? ⟨w.heap.size + 1 + 1, 0, none⟩ = some (.pointer (some ⟨p, 0, none⟩)) := by
    have := (Boxed.new ((w.alloc (.cells #[.int .i64 (most : Int)] 3)).alloc (.cells #[.slice none 0 0] 32)) 23 (.pointer (some ⟨p, 0, none⟩))).cell
    simpa using this
  have hA3 := hA.keeps kA (fun _ _ _ e => e)
  have hB0 : Below w.heap.size w (((w.alloc (.cells #[.int .i64 (most : Int)] 3)).alloc (.cells #[.slice none 0 0] 32)).alloc (.cells #[.pointer (some ⟨p, 0, none⟩)] 23)) := kA.below (Nat.le_refl _) (fun _ _ e => e)
  generalize (((w.alloc (.cells #[.int .i64 (most : Int)] 3)).alloc (.cells #[.slice none 0 0] 32)).alloc (.cells #[.pointer (some ⟨p, 0, none⟩)] 23)) = W3 at *
  refine wpIn_rangeFunc_ownG hro (by omega) (gf := 91) (lb := #[.pointer (some ⟨w.heap.size + 1 + 1, 0, none⟩)]) rfl trivial (enters_of Tryz.func91 (by kernel_rfl) rfl)
    (blocks_stops (n - 1) (by omega) (w.heap.size + 1 + 1) p W3 hA3 hF hlen (by omega) bA) PartsStay.trans (fun W l o o' hl h hc _ => PartsStay.put h hc o') (Below.refl _ _) (fun _ => rfl)
    (fun pre W => ((∃ v, Boxed W (w.heap.size + 1) 32 v ∧ W.ownsRow (w.heap.size + 1) 3 1 v (flatOf pre).length ((flatOf pre).map (Value.int .i64)) ∧ True) ∧ Boxed W w.heap.size 3 (.int .i64 (most : Int))) ∧ Below w.heap.size w W)
    (fun _ _ _ => False)
    (OwnFrom.and (OwnFrom.and (Own.from (holdsRow_own (w.heap.size + 1) (w.heap.size + 1) 32 3 1 (fun pre => (flatOf pre).length) (fun pre => (flatOf pre).map (Value.int .i64)) (fun _ _ => True)) _) (Own.from (boxed_own w.heap.size 3 (fun _ => .int .i64 (most : Int))) _)) (ownFrom_below (Nat.le_refl _) (by omega)))
    (fun _ _ _ _ _ hs _ _ => hs)
    ⟨⟨⟨_, bL, World.ownsRow_nil _ _ _ _, trivial⟩, bM⟩, hB0⟩
    (fun x => { tmps := #[.pointer (some ⟨p, 0, none⟩), .int .i64 (most : Int), undef, .pointer (some ⟨w.heap.size, 0, none⟩), .slice none 0 0, .pointer (some ⟨w.heap.size + 1, 0, none⟩), .func (.func 91) #[] #[.pointer (some ⟨w.heap.size + 1 + 1, 0, none⟩)], .int .i64 (x.1 : Int), .int .i64 (x.2 : Int), .pointer (some ⟨p, 0, none⟩), .func (.func 91) #[] #[.pointer (some ⟨w.heap.size + 1 + 1, 0, none⟩)], .func (.func 91) #[] #[.pointer (some ⟨w.heap.size + 1 + 1, 0, none⟩)], .bool false, undef, .func (.func 91) #[] #[.pointer (some ⟨w.heap.size + 1 + 1, 0, none⟩)], .int .i64 (x.1 : Int), .int .i64 (x.2 : Int), undef, undef, undef, undef, undef, undef, undef, undef, undef, undef, undef], defers := [] }) ?assign ?body ?done ?stop
  case assign =>
    intro l x W K hK
    gi_wp2
    exact hK
  case body =>
    rintro l pre x W ⟨⟨⟨v, hv, hrow, -⟩, hM⟩, hB⟩ hlt
    have hc := hv.cell
    have hcm := hM.cell
    have hfl := flatOf_length pre
    have hneM : some w.heap.size ≠ v.ownBlock := fun e => by have := ownsRow_from hrow e.symm; omega
    have hBs : w.heap.size + 1 ≤ W.heap.size := Nat.le_of_lt hv.lt
    have hgt : ¬ (2 * (most : Int)) < 2 * (pre.length : Int) + 1 + 1 := by omega
    gi_wp2_with (gi_at_builtin; refine wpListIn_append_own _ rfl _ _ 32 rfl (w.heap.size + 1) 3 i0 (.int .i64 0) 1 8 Tryz.underlying32 hi hz0 hz1 hz2 rfl (by decide) _ _ _ rfl (hrow.alloc _) ⟨W.heap.size, 0, none⟩ 2 2 [.int .i64 (x.1 : Int), .int .i64 (x.2 : Int)] rfl rfl (cell_two_new _ _ _ _) (by simp [Value.oneCell']) (by unfold maxLen; omega) (by omega) (by simp; omega) ?_; intro v' w1 hown' hgrow _; obtain ⟨g', cap', rfl⟩ := ownsRow_succ hown'; obtain ⟨hv1, hv2, hr2, hk2, hb2⟩ := hv.appended (by decide) hrow hBs (Nat.le_refl _) hown' hgrow; have hM1 := (hM.alloc _).kept hgrow hneM; have hM2 := fun u => hide (hM1.other (show w.heap.size ≠ w.heap.size + 1 by omega) u); have hcm1 := hM1.cell; have hps := parts_appended hv hrow hgrow; have Hr2 := hide hr2; clear hr2; have hc1 := hv1.cell; have hf1 := hv1.frozen)
    rw [← hfl]
    exact ⟨hk2.from _, hps _, ⟨⟨_, hv2, by rw [flatOf_snoc, List.map_append]; simpa using Hr2.out⟩, (hM2 _).out⟩, hB.trans (hb2.mono (by omega))⟩
  case done =>
    rintro D ys W hD rfl ⟨⟨⟨v, hv, hrow, -⟩, hM⟩, hB⟩ hK
    have hc := hv.cell
    gi_wp2
    refine ⟨by simp, .inl ⟨_, _, rfl, run_takeDeferred hK, ?_⟩⟩
    exact ⟨_, results_tmp rfl _ _ _, v, rfl, ownsRow_less (ownsRow_putObj hrow _ hK rfl) (by omega), hB.trans (belowK_b (w := w) (Nat.le_refl _) W D _ _ (by omega) hK rfl rfl)⟩
  case stop =>
    rintro D c pre W _ _ h _
    exact h.elim

/-- The list of the live blocks, in a block of its own. -/
theorem list_any (p : Nat) {X : Nat → Prop} {d : AD} (most : Nat) (w : World) (hA : Arena w p X d) (hF : d.Fine) (hlen : d.L.length ≤ 134217728) (hm : (livesOf d.L d.lv).length ≤ most) (hm2 : most ≤ 134217728) :
    Calls Tryz.prog 31 #[.pointer (some ⟨p, 0, none⟩), .int .i64 (most : Int)] w fun e W' => ∃ v, e = .returned v ∧ W'.ownsRow w.heap.size 3 1 v (flatOf (livesOf d.L d.lv)).length ((flatOf (livesOf d.L d.lv)).map (Value.int .i64)) ∧ Below w.heap.size w W' :=
  callsIn_wide.1 (list_in 3 (Nat.le_refl _) p most w hA hF hlen hm hm2)
end Go.Proofs.YtdlibnjgmdffnaaGreat
/-
  Two lists that are the same; Size.
-/
namespace Go.Proofs.YtdlibnjgmdffnaaGreat
open Go.RowKit Go.Shelf

set_option maxRecDepth 100000 in
set_option maxHeartbeats 1000000 in
theorem same_true (a b : Option Addr) (ca cb : Nat) (zs : List Int) (w : World) (hl : zs.length ≤ 140737488355328) (h1 : IntsAt w a zs) (h2 : IntsAt w b zs) :
    Calls Tryz.prog 30 #[.slice a zs.length ca, .slice b zs.length cb] w fun e w' => e = .returned (.bool true) ∧ Keeps w w' (fun _ => False) := by
  rcases h1.two with rfl | ⟨b1, o1, rfl, h0, hc1⟩
  · clear h1 h2
    go_enter Tryz.func30, Tryz.ntmps30
    go_wp2_with fail
    go_loopw [5] (fun vi wr => vi = .int .i64 0 ∧ wr = w) (fun _ _ => 0)
    case atStart => exact ⟨rfl, rfl⟩
    case round =>
      obtain ⟨rfl, rfl⟩ := hrel
      go_wp2_with fail
      go_ret
      exact ⟨rfl, Keeps.refl _ _⟩
  rcases h2.two with rfl | ⟨b2, o2, rfl, _, hc2⟩
  · simp at h0
  clear h1 h2
  go_enter Tryz.func30, Tryz.ntmps30
  go_wp2_with fail
  go_loopw [5] (fun vi wr => ∃ i : Nat, vi = .int .i64 (i : Int) ∧ i ≤ zs.length ∧ (wr.heap = w.heap ∧ Keeps w wr (fun _ => False))) (fun vi _ => zs.length - (intOf vi).toNat)
  case atStart => exact ⟨0, rfl, Nat.zero_le _, rfl, Keeps.refl _ _⟩
  case round =>
    obtain ⟨i, rfl, hi, hw, kr⟩ := hrel
    by_cases hlt : i < zs.length
    · have x1 : wr.cell? ⟨b1, o1 + i, none⟩ = some (.int .i64 zs[i]) := (World.cell?_of_block (by rw [hw])).trans (hc1 i hlt)
      have x2 : wr.cell? ⟨b2, o2 + i, none⟩ = some (.int .i64 zs[i]) := (World.cell?_of_block (by rw [hw])).trans (hc2 i hlt)
      have hlt' : (i : Int) < (zs.length : Int) := by omega
      have HW := hide hw
      clear hc1 hc2 hw
      go_wp2_with fail
      go_quiet (fail)
      go_wp2_with fail
      exact ⟨⟨i + 1, by simp, by omega, HW.out, ⟨kr.os, kr.tape, kr.output, kr.size, kr.block⟩⟩, by simp [intOf]; omega⟩
    · have hlt' : ¬ (i : Int) < (zs.length : Int) := by omega
      clear hw
      go_wp2_with fail
      go_ret
      exact ⟨rfl, kr⟩

set_option maxRecDepth 100000 in
set_option maxHeartbeats 1000000 in
theorem size_any {w : World} {p : Nat} {c : AR} {d : AD} (h : ArenaAt w p c d) (off : Int) (ho : fitsI off) :
    Calls Tryz.prog 28 #[.pointer (some ⟨p, 0, none⟩), .int .i64 off] w fun e w' => e = .returned (.tuple #[.int .i64 ((d.lv off).getD 0), .int .i64 (if (d.lv off).isSome then 0 else 23)]) ∧ w' = w := by
  have c4 := h.cell4
  have hlk := look_ok_int (w := w) Tryz.underlying3 Tryz.underlying52 (Tryz.zeroI _) h.live (x := off) ho
  clear h
  cases hl : d.lv off with
  | none =>
    rw [hl] at hlk
    simp only [Option.getD_none, Option.isSome_none] at hlk
    go_enter Tryz.func28, Tryz.ntmps28
    go_wp2_with fail
    go_ret2
    exact ⟨rfl, rfl⟩
  | some s =>
    rw [hl] at hlk
    simp only [Option.getD_some, Option.isSome_some] at hlk
    go_enter Tryz.func28, Tryz.ntmps28
    go_wp2_with fail
    go_ret2
    exact ⟨rfl, rfl⟩
end Go.Proofs.YtdlibnjgmdffnaaGreat
/-
  The document's own arena: a row of blocks, each with bytes of its own.
-/
namespace Go.Proofs.YtdlibnjgmdffnaaGreat
open Go.RowKit Go.Shelf
set_option linter.unusedVariables false

/-- A block of the reference; g: where its bytes lie. -/
structure RB where
  off : Nat
  live : Bool
  g : Nat
  bs : List UInt8
  sp : List UInt8
  fz : Nat × Nat
def RB.cells (x : RB) : List Value := [.int .i64 (x.off : Int), .bool x.live, .slice (some ⟨x.g, 0, none⟩) x.bs.length (x.bs.length + x.sp.length)]
def rbCells (xs : List RB) : List Value := xs.flatMap RB.cells
theorem RB.cells_length (x : RB) : x.cells.length = 3 := rfl
theorem rbCells_cons (x : RB) (r : List RB) : rbCells (x :: r) = x.cells ++ rbCells r := by simp [rbCells]
theorem rbCells_append (a b : List RB) : rbCells (a ++ b) = rbCells a ++ rbCells b := by simp [rbCells]
theorem rbCells_one (x : RB) : rbCells [x] = x.cells := by simp [rbCells]
theorem rbCells_length : ∀ xs : List RB, (rbCells xs).length = xs.length * 3
  | [] => rfl
  | x :: r => by rw [rbCells_cons, List.length_append, rbCells_length r, RB.cells_length, List.length_cons]; omega
theorem rbCells_at : ∀ (xs : List RB) (i j : Nat) (h : i < xs.length) (hj : j < 3), (rbCells xs)[i * 3 + j]? = xs[i].cells[j]?
  | [], i, j, h, _ => by simp at h
  | x :: r, 0, j, _, hj => by
    rw [rbCells_cons, List.getElem?_append_left (by rw [RB.cells_length]; omega)]
    simp
  | x :: r, i + 1, j, h, hj => by
    rw [rbCells_cons, List.getElem?_append_right (by rw [RB.cells_length]; omega), RB.cells_length, show (i + 1) * 3 + j - 3 = i * 3 + j by omega, rbCells_at r i j (by simpa using h) hj]
    simp
theorem rbCells_get (xs : List RB) (i : Nat) (h : i < xs.length) : (rbCells xs)[i * 3]? = some (.int .i64 (xs[i].off : Int)) ∧ (rbCells xs)[i * 3 + 1]? = some (.bool xs[i].live) ∧ (rbCells xs)[i * 3 + 2]? = some (.slice (some ⟨xs[i].g, 0, none⟩) xs[i].bs.length (xs[i].bs.length + xs[i].sp.length)) :=
  ⟨rbCells_at xs i 0 h (by omega), rbCells_at xs i 1 h (by omega), rbCells_at xs i 2 h (by omega)⟩
theorem rbCells_set : ∀ (xs : List RB) (i : Nat) (y : RB) (h : i < xs.length), rbCells (xs.set i y) = (((rbCells xs).set (i * 3) (.int .i64 (y.off : Int))).set (i * 3 + 1) (.bool y.live)).set (i * 3 + 2) (.slice (some ⟨y.g, 0, none⟩) y.bs.length (y.bs.length + y.sp.length))
  | [], i, y, h => by simp at h
  | x :: r, 0, y, _ => by simp [rbCells, RB.cells]
  | x :: r, i + 1, y, h => by
    rw [List.set_cons_succ, rbCells_cons, rbCells_set r i y (by simpa using h), rbCells_cons]
    have e : ∀ (l : List Value) (j : Nat) (u : Value), (x.cells ++ l).set (3 + j) u = x.cells ++ l.set j u := fun l j u => by
      rw [List.set_append_right _ _ (by rw [RB.cells_length]; omega), RB.cells_length, Nat.add_sub_cancel_left]
    rw [show (i + 1) * 3 = 3 + i * 3 by omega, e, Nat.add_assoc, e, Nat.add_assoc, e]

/-- The reference's arena: block r. -/
structure RAt (w : World) (r lim en : Nat) (v : Value) (xs : List RB) : Prop where
  hp : w.heap[r]? = some (.cells #[.int .i64 (lim : Int), .int .i64 (en : Int), v] 58)
  own : w.ownsRow 0 74 3 v xs.length (rbCells xs)
  bytes : ∀ i (h : i < xs.length), w.heap[xs[i].g]? = some (.cells (rowOf (xs[i].bs ++ xs[i].sp)) 5 xs[i].fz)
  apart : ∀ i j (hi : i < xs.length) (hj : j < xs.length), xs[i].g = xs[j].g → i = j
  thaw : ∀ i (h : i < xs.length), xs[i].fz.2 = 0 ∨ (xs[i].bs ++ xs[i].sp).length ≤ xs[i].fz.1
def RFoot (r : Nat) (v : Value) (xs : List RB) (k : Nat) : Prop := k = r ∨ v.ownBlock = some k ∨ ∃ i, ∃ h : i < xs.length, xs[i].g = k

section
variable {w : World} {r lim en : Nat} {v : Value} {xs : List RB} (h : RAt w r lim en v xs)
include h
theorem RAt.cell0 : w.cell? ⟨r, 0, none⟩ = some (.int .i64 (lim : Int)) := by simp [World.cell?, h.hp]
theorem RAt.cell1 : w.cell? ⟨r, 1, none⟩ = some (.int .i64 (en : Int)) := by simp [World.cell?, h.hp]
theorem RAt.cell2 : w.cell? ⟨r, 2, none⟩ = some v := by simp [World.cell?, h.hp]
theorem RAt.frozen (j : Nat) : w.frozen? ⟨r, j, none⟩ = false := by simp [World.frozen?, h.hp]
theorem RAt.keeps {w' : World} {S : Nat → Prop} (k : Keeps w w' S) (hS : ∀ i, RFoot r v xs i → ¬ S i) : RAt w' r lim en v xs :=
  ⟨(k.block r (heap_lt h.hp) (hS r (Or.inl rfl))).trans h.hp, ownsRow_keeps h.own k (fun g hg => hS g (Or.inr (Or.inl hg))),
    fun i hi => (k.block _ (heap_lt (h.bytes i hi)) (hS _ (Or.inr (Or.inr ⟨i, hi, rfl⟩)))).trans (h.bytes i hi), h.apart, h.thaw⟩
theorem RAt.stay {w' : World} (k : Keeps w w' (fun _ => False)) : RAt w' r lim en v xs := h.keeps k (fun _ _ e => e)
theorem RAt.row_obj {k : Nat} (hk : v.ownBlock = some k) : ∃ cur, w.heap[k]? = some (.cells cur 74 (0, 0)) := (ownsRow_block h.own hk).2
theorem RAt.r_row {k : Nat} (hk : v.ownBlock = some k) : r ≠ k := by obtain ⟨cur, hb⟩ := h.row_obj hk; exact ne_of_obj h.hp hb (by simp)
theorem RAt.r_byte {i : Nat} (hi : i < xs.length) : r ≠ xs[i].g := ne_of_obj h.hp (h.bytes i hi) (by simp)
theorem RAt.row_byte {k : Nat} (hk : v.ownBlock = some k) {i : Nat} (hi : i < xs.length) : k ≠ xs[i].g := by obtain ⟨cur, hb⟩ := h.row_obj hk; exact ne_of_obj hb (h.bytes i hi) (by simp)
theorem RAt.foot_lt {k : Nat} (hk : RFoot r v xs k) : k < w.heap.size := by
  rcases hk with rfl | hk | ⟨i, hi, rfl⟩
  · exact heap_lt h.hp
  · obtain ⟨cur, hb⟩ := h.row_obj hk
    exact heap_lt hb
  · exact heap_lt (h.bytes i hi)
/-- The list's form. -/
theorem RAt.form : (v = .slice none 0 0 ∧ xs = []) ∨ ∃ g cap cur, v = .slice (some ⟨g, 0, none⟩) xs.length cap ∧ w.heap[g]? = some (.cells cur 74 (0, 0)) ∧ xs.length ≤ cap ∧ cur.size = cap * 3 ∧ cur.toList.take (xs.length * 3) = rbCells xs := by
  rcases h.own.2 with ⟨h2, h3⟩ | ⟨g, cap, cur, hv, hb, hg, r1, r2, r3, r4⟩
  · exact Or.inl ⟨h2, List.eq_nil_of_length_eq_zero h3⟩
  · exact Or.inr ⟨g, cap, cur, hv, hg, r1, r3, r4⟩
end
/-- The list's cells. -/
def RCells (w : World) (so : Option Addr) (xs : List RB) : Prop := ∀ i (hi : i < xs.length), ∃ g, so = some ⟨g, 0, none⟩ ∧ w.cell? ⟨g, i * 3, none⟩ = some (.int .i64 (xs[i].off : Int)) ∧ w.cell? ⟨g, i * 3 + 1, none⟩ = some (.bool xs[i].live) ∧ w.cell? ⟨g, i * 3 + 2, none⟩ = some (.slice (some ⟨xs[i].g, 0, none⟩) xs[i].bs.length (xs[i].bs.length + xs[i].sp.length)) ∧ ∀ j, w.frozen? ⟨g, j, none⟩ = false
theorem RAt.list {w : World} {r lim en : Nat} {v : Value} {xs : List RB} (h : RAt w r lim en v xs) : ∃ so cap, v = .slice so xs.length cap ∧ xs.length ≤ cap ∧ RCells w so xs := by
  rcases h.form with ⟨rfl, rfl⟩ | ⟨g, cap, cur, hv, hg, h1, h2, h3⟩
  · exact ⟨none, 0, rfl, Nat.le_refl _, fun i hi => by simp at hi⟩
  · refine ⟨some ⟨g, 0, none⟩, cap, hv, h1, fun i hi => ?_⟩
    have hc : ∀ j u, j < 3 → xs[i].cells[j]? = some u → w.cell? ⟨g, i * 3 + j, none⟩ = some u := fun j u hj hu => by
      have e : (cur.toList.take (xs.length * 3))[i * 3 + j]? = some u := by rw [h3, rbCells_at xs i j hi hj, hu]
      rw [List.getElem?_take, if_pos (by omega)] at e
      simp only [World.cell?, hg]
      simpa using e
    exact ⟨g, rfl, hc 0 _ (by omega) rfl, hc 1 _ (by omega) rfl, hc 2 _ (by omega) rfl, fun j => by simp [World.frozen?, hg]⟩
theorem RAt.gcell {w : World} {r lim en : Nat} {v : Value} {xs : List RB} (h : RAt w r lim en v xs) {i : Nat} (hi : i < xs.length) (j : Nat) (hj : j < xs[i].bs.length) : w.cell? ⟨xs[i].g, j, none⟩ = some (.int .u8 (xs[i].bs[j].toNat : Int)) := by
  have := rowOf_get (xs[i].bs ++ xs[i].sp) j (by simp; omega)
  simp only [World.cell?, h.bytes i hi]
  simpa [List.getElem_append_left hj] using this
theorem RAt.gfrozen {w : World} {r lim en : Nat} {v : Value} {xs : List RB} (h : RAt w r lim en v xs) {i : Nat} (hi : i < xs.length) (j : Nat) (hj : j < xs[i].bs.length) : w.frozen? ⟨xs[i].g, j, none⟩ = false := by
  have ht := h.thaw i hi
  have hb := h.bytes i hi
  rw [List.length_append] at ht
  generalize xs[i].fz = f at *
  obtain ⟨lo, hh⟩ := f
  simp only at ht
  simp only [World.frozen?, hb]
  simp
  omega

/-- The reference tells what the arena's data tells. -/
structure Sim (d : AD) (xs : List RB) : Prop where
  len : xs.length = d.L.length
  one : ∀ i (h : i < xs.length) (h' : i < d.L.length), xs[i].off = d.L[i].1 ∧ xs[i].bs.length = d.L[i].2 ∧ xs[i].live = (d.lv (d.L[i].1 : Int)).isSome
  bs : ∀ i (h : i < xs.length), xs[i].live = true → xs[i].bs = (d.bs.drop xs[i].off).take xs[i].bs.length
theorem Sim.fresh (n : Nat) : Sim (AD.fresh n) [] := ⟨rfl, fun i h => by simp at h, fun i h => by simp at h⟩
theorem Sim.mem {d : AD} {xs : List RB} (s : Sim d xs) {i : Nat} (hi : i < xs.length) : (xs[i].off, xs[i].bs.length) ∈ d.L := by
  have hi' : i < d.L.length := by rw [← s.len]; exact hi
  obtain ⟨h1, h2, _⟩ := s.one i hi hi'
  rw [h1, h2]
  exact List.getElem_mem hi'
theorem Sim.live {d : AD} {xs : List RB} (s : Sim d xs) {i : Nat} (hi : i < xs.length) : xs[i].live = (d.lv (xs[i].off : Int)).isSome := by
  have hi' : i < d.L.length := by rw [← s.len]; exact hi
  obtain ⟨h1, h2, h3⟩ := s.one i hi hi'
  rw [h3, h1]
theorem Sim.get {d : AD} {xs : List RB} (s : Sim d xs) {i : Nat} (hi : i < xs.length) : d.L[i]'(by rw [← s.len]; exact hi) = (xs[i].off, xs[i].bs.length) := by
  have hi' : i < d.L.length := by rw [← s.len]; exact hi
  obtain ⟨h1, h2, h3⟩ := s.one i hi hi'
  rw [h1, h2]
/-- A live block of the data is one of the reference's. -/
theorem Sim.find {d : AD} {xs : List RB} (s : Sim d xs) {y : Nat × Nat} (hy : y ∈ d.L) : ∃ i, ∃ hi : i < xs.length, xs[i].off = y.1 ∧ xs[i].bs.length = y.2 := by
  obtain ⟨i, hi, e⟩ := List.getElem_of_mem hy
  have hi' : i < xs.length := by rw [s.len]; exact hi
  have e2 := s.get hi'
  rw [e] at e2
  exact ⟨i, hi', by rw [e2], by rw [e2]⟩
theorem Sim.lv {d : AD} (F : d.Fine) {xs : List RB} (s : Sim d xs) {i : Nat} (hi : i < xs.length) (hl : xs[i].live = true) : d.lv (xs[i].off : Int) = some (xs[i].bs.length : Int) := by
  have h1 := s.live hi
  rw [hl] at h1
  obtain ⟨t, ht⟩ := Option.isSome_iff_exists.1 h1.symm
  obtain ⟨o, n, e1, e2, hm⟩ := F.live _ _ ht
  have := tiles_unique F.tiles hm (s.mem hi) (by simp; omega)
  rw [ht, e2]
  simp at this
  rw [this.2]
theorem Sim.inj {d : AD} (F : d.Fine) {xs : List RB} (s : Sim d xs) {i j : Nat} (hi : i < xs.length) (hj : j < xs.length) (h : i < j) : xs[i].off + xs[i].bs.length ≤ xs[j].off := by
  have hi' : i < d.L.length := by rw [← s.len]; exact hi
  have hj' : j < d.L.length := by rw [← s.len]; exact hj
  obtain ⟨a1, a2, _⟩ := s.one i hi hi'
  obtain ⟨b1, b2, _⟩ := s.one j hj hj'
  have hsort := tiles_sorted F.tiles
  have hk : i + 1 < d.L.length := by omega
  have h1 := (tiles_get F.tiles hi').1 hk
  have h2 : d.L[i + 1].1 ≤ d.L[j].1 := by
    rcases Nat.lt_or_ge (i + 1) j with h3 | h3
    · have := (List.pairwise_iff_getElem.1 hsort) (i + 1) j (by simpa using hk) (by simpa using hj') h3
      simp at this
      omega
    · have : j = i + 1 := by omega
      subst this
      exact Nat.le_refl _
  omega
theorem Sim.bound {d : AD} (F : d.Fine) {xs : List RB} (s : Sim d xs) {i : Nat} (hi : i < xs.length) : 16 ≤ xs[i].off ∧ 0 < xs[i].bs.length ∧ xs[i].off + xs[i].bs.length ≤ d.bs.length := by
  have := tiles_mem F.tiles (s.mem hi)
  simpa using this

/-- The document's arena with the data d behind the pointer to r; its blocks are among F. -/
def Ref (w : World) (r : Nat) (F : Nat → Prop) (d : AD) : Prop := ∃ v xs, RAt w r d.limit d.bs.length v xs ∧ Sim d xs ∧ ∀ k, RFoot r v xs k → F k
def RTurned (w w' : World) (r : Nat) (F : Nat → Prop) (d' : AD) : Prop := Ref w' r (fun k => F k ∨ w.heap.size ≤ k) d' ∧ Keeps w w' F
theorem Ref.keeps {w w' : World} {r : Nat} {F S : Nat → Prop} {d : AD} (h : Ref w r F d) (k : Keeps w w' S) (hS : ∀ i, i < w.heap.size → F i → ¬ S i) : Ref w' r F d := by
  obtain ⟨v, xs, h1, h2, hF⟩ := h
  exact ⟨v, xs, h1.keeps k (fun i hi => hS i (h1.foot_lt hi) (hF i hi)), h2, hF⟩
theorem Ref.mono {w : World} {r : Nat} {F G : Nat → Prop} {d : AD} (h : Ref w r F d) (hG : ∀ i, i < w.heap.size → F i → G i) : Ref w r G d := by
  obtain ⟨v, xs, h1, h2, hF⟩ := h
  exact ⟨v, xs, h1, h2, fun k hk => hG k (h1.foot_lt hk) (hF k hk)⟩
theorem Ref.stay {w w' : World} {r : Nat} {F : Nat → Prop} {d : AD} (h : Ref w r F d) (k : Keeps w w' (fun _ => False)) : Ref w' r F d := h.keeps k (fun _ _ _ e => e)
end Go.Proofs.YtdlibnjgmdffnaaGreat
/-
  The document's own arena: New, Class, Live, find, Size.
-/
namespace Go.Proofs.YtdlibnjgmdffnaaGreat
open Go.RowKit Go.Shelf
set_option linter.unusedVariables false

theorem r2new_no (n : Int) (w : World) (h : n < 0 ∨ 2097152 < n) :
    Calls Tryz.prog 7 #[.int .i64 n] w fun e w' => e = .returned (.tuple #[.pointer none, .int .i64 20]) ∧ w' = w := by
  rcases h with h | h
  · go_enter Tryz.func7, Tryz.ntmps7
    go_wp2
    go_ret2
    exact ⟨rfl, rfl⟩
  · have h0 : ¬ n < 0 := by omega
    go_enter Tryz.func7, Tryz.ntmps7
    go_wp2
    go_ret2
    exact ⟨rfl, rfl⟩

def R2NewPost (w : World) (n : Nat) (e : Ending) (w' : World) : Prop :=
  ∃ r, e = .returned (.tuple #[.pointer (some ⟨r, 0, none⟩), .int .i64 0]) ∧ Ref w' r (fun k => w.heap.size ≤ k) (AD.fresh n) ∧ Keeps w w' (fun _ => False)
theorem r2new_yes (n : Nat) (w : World) (h : n ≤ 2097152) :
    Calls Tryz.prog 7 #[.int .i64 (n : Int)] w fun e w' => R2NewPost w n e w' := by
  have h0 : ¬ (n : Int) < 0 := by omega
  have h1 : ¬ (2097152 : Int) < (n : Int) := by omega
  have hfin : Hid (R2NewPost w n (.returned (.tuple #[.pointer (some ⟨w.heap.size, 0, none⟩), .int .i64 0])) (w.alloc (.cells #[.int .i64 (n : Int), .int .i64 16, .slice none 0 0] 58))) := by
    refine ⟨w.heap.size, rfl, ⟨.slice none 0 0, [], ⟨?_, World.ownsRow_nil _ _ _ _, fun i hi => by simp at hi, fun i j hi => by simp at hi, fun i hi => by simp at hi⟩, Sim.fresh n, fun k hk => ?_⟩, (Keeps.refl _ _).alloc _⟩
    · have := heap_alloc_new w (.cells #[.int .i64 (n : Int), .int .i64 16, .slice none 0 0] 58)
      simpa [AD.fresh, zeros_length] using this
    · rcases hk with rfl | hk | ⟨i, hi, _⟩
      · exact Nat.le_refl _
      · simp [Value.ownBlock] at hk
      · simp at hi
  go_enter Tryz.func7, Tryz.ntmps7
  go_wp2
  go_ret2
  exact hfin.out

theorem r2width_any (w : World) (n : Int) :
    Calls Tryz.prog 71 #[.int .i64 n] w fun e w' => e = .returned (.bool (widthB n)) ∧ w' = w := by
  cases h : widthB n
  · obtain ⟨h1, h2, h3, h4⟩ := widthB_false h
    have b1 : (n == 1) = false := beq_eq_false_iff_ne.2 h1
    have b2 : (n == 2) = false := beq_eq_false_iff_ne.2 h2
    have b3 : (n == 4) = false := beq_eq_false_iff_ne.2 h3
    have b4 : (n == 8) = false := beq_eq_false_iff_ne.2 h4
    clear h h1 h2 h3 h4
    go_enter Tryz.func71, Tryz.ntmps71
    go_wp2
    go_ret
    exact ⟨rfl, rfl⟩
  · rcases widthB_true h with rfl | rfl | rfl | rfl
    all_goals
      clear h
      go_enter Tryz.func71, Tryz.ntmps71
      go_wp2
      go_ret
      exact ⟨rfl, rfl⟩

def powList : List Nat := [16, 32, 64, 128, 256, 512, 1024, 2048, 4096, 8192, 16384, 32768, 65536, 131072, 262144, 524288, 1048576]
theorem pairs_two : ∀ x ∈ classPairs, x.1 ∈ powList → x.1 < 1048576 → 2 * x.1 ∈ powList ∧ ((x.1 = 16 ∧ (2 * x.1, x.1) ∈ classPairs) ∨ (16 < x.1 ∧ (3 * (x.1 / 2), x.1) ∈ classPairs ∧ (2 * x.1, 3 * (x.1 / 2)) ∈ classPairs)) := by decide +kernel

set_option maxRecDepth 100000 in
set_option maxHeartbeats 1000000 in
theorem r2class_core (n N : Nat) (w : World) (h1 : 1 ≤ n) (h2 : n ≤ 1048576) (hN : Hid (∀ x ∈ classPairs, x.2 < n → n ≤ x.1 → x.1 = N)) :
    Calls Tryz.prog 64 #[.int .i64 (n : Int)] w fun e w' => e = .returned (.int .i64 (N : Int)) ∧ w' = w := by
  have a1 : ¬ (n : Int) < 1 := by omega
  have a2 : ¬ (1048576 : Int) < (n : Int) := by omega
  go_enter Tryz.func64, Tryz.ntmps64
  go_wp2
  go_loop [3] (fun v => ∃ c b : Nat, v = .int .i64 (c : Int) ∧ Hid ((c, b) ∈ classPairs ∧ c ∈ powList ∧ b < n) ∧ 16 ≤ c ∧ c ≤ 1048576) (fun v => 1048577 - (intOf v).toNat)
  case atStart => exact ⟨16, 0, rfl, ⟨by decide +kernel, by decide +kernel, by omega⟩, by omega, by omega⟩
  case round =>
    obtain ⟨c, b, rfl, hc, hc1, hc2⟩ := hrel
    by_cases hlt : c < 1048576
    · have hlt' : (c : Int) < 1048576 := by omega
      by_cases hle : n ≤ c
      · have hE : c = N := hN.out _ hc.out.1 hc.out.2.2 (by simp; omega)
        have hle' : (n : Int) ≤ (c : Int) := by omega
        subst hE
        clear hc hN
        go_wp2
        go_ret
        exact ⟨rfl, rfl⟩
      · have hle' : ¬ (n : Int) ≤ (c : Int) := by omega
        obtain ⟨hpw, hcase⟩ := pairs_two _ hc.out.1 hc.out.2.1 (by simp; omega)
        simp only at hpw hcase
        rcases hcase with ⟨e1, e2⟩ | ⟨e1, e2, e3⟩
        · subst e1
          have HM : Hid ((2 * 16, 16) ∈ classPairs ∧ 2 * 16 ∈ powList ∧ 16 < n) := ⟨e2, hpw, by omega⟩
          clear hN e2 hc hpw
          go_wp2
          go_round
          case rel => exact ⟨2 * 16, 16, by go_num, HM, by omega, by omega⟩
          case measure => simp [intOf]
        · have f1 : (16 : Int) < (c : Int) := by omega
          have hq : (c : Int) / 2 = ((c / 2 : Nat) : Int) := by omega
          by_cases h3 : n ≤ 3 * (c / 2)
          · have hE : 3 * (c / 2) = N := hN.out _ e2 (by simp; omega) (by simpa using h3)
            have h3' : (n : Int) ≤ 3 * ((c / 2 : Nat) : Int) := by omega
            have h3'' : (n : Int) ≤ 3 * ((c : Int) / 2) := by omega
            have HE : Hid ((3 : Int) * ((c : Int) / 2) = (N : Int)) := show _ = _ by omega
            clear hc hN e2 e3 hpw hE hq h3'
            go_wp2
            go_ret
            exact ⟨by rw [← HE.out]; go_num, rfl⟩
          · have h3'' : ¬ (n : Int) ≤ 3 * ((c : Int) / 2) := by omega
            have HM : Hid ((2 * c, 3 * (c / 2)) ∈ classPairs ∧ 2 * c ∈ powList ∧ 3 * (c / 2) < n) := ⟨e3, hpw, by omega⟩
            have hle2 := pairs_le _ e3
            simp only at hle2
            clear hN e2 hc hpw e3 hq
            go_wp2
            go_round
            case rel => exact ⟨2 * c, 3 * (c / 2), by go_num, HM, by omega, by omega⟩
            case measure => simp [intOf]; omega
    · have hcE : c = 1048576 := by omega
      subst hcE
      have hE : 1048576 = N := hN.out _ hc.out.1 hc.out.2.2 h2
      subst hE
      clear hc hN
      go_wp2
      go_ret
      exact ⟨rfl, rfl⟩
set_option maxHeartbeats 1000000 in
theorem r2class_any (n : Int) (w : World) :
    Calls Tryz.prog 64 #[.int .i64 n] w fun e w' => e = .returned (.int .i64 (classI n)) ∧ w' = w := by
  by_cases h : 1 ≤ n ∧ n ≤ 1048576
  · obtain ⟨m, rfl⟩ := Int.eq_ofNat_of_zero_le (show 0 ≤ n by omega)
    have e : classI (m : Int) = (classN m : Int) := by unfold classI; rw [if_pos h]; simp
    rw [e]
    exact r2class_core m (classN m) w (by omega) (by omega) (fun _ hx ha hb => class_at (by omega) (by omega) hx ha hb)
  · have e : classI n = 0 := by unfold classI; rw [if_neg h]
    rw [e]
    clear e
    by_cases h1 : n < 1
    · clear h
      go_enter Tryz.func64, Tryz.ntmps64
      go_wp2
      go_ret
      exact ⟨rfl, rfl⟩
    · have h2 : 1048576 < n := by omega
      clear h
      go_enter Tryz.func64, Tryz.ntmps64
      go_wp2
      go_ret
      exact ⟨rfl, rfl⟩

/-- The live blocks' bytes. -/
def rsum (xs : List RB) : Nat := (xs.map (fun x => if x.live then x.bs.length else 0)).sum
theorem rsum_take (xs : List RB) (i : Nat) (h : i < xs.length) : rsum (xs.take (i + 1)) = rsum (xs.take i) + (if xs[i].live then xs[i].bs.length else 0) := by
  have e := List.take_append_getElem h
  rw [← e]
  simp only [rsum, List.map_append, List.sum_append, List.map_cons, List.map_nil, List.sum_cons, List.sum_nil, Nat.add_zero]
theorem rsum_le (xs : List RB) (i : Nat) : rsum (xs.take i) ≤ rsum xs := by
  have e := List.take_append_drop i xs
  have e2 : rsum xs = rsum (xs.take i) + rsum (xs.drop i) := by
    rw [rsum, rsum, rsum, ← List.sum_append, ← List.map_append, e]
  omega
theorem Sim.sum {d : AD} {xs : List RB} (s : Sim d xs) : rsum xs = liveSum d.L d.lv := by
  unfold rsum liveSum
  congr 1
  refine List.ext_getElem (by simp [s.len]) (fun i h1 h2 => ?_)
  simp only [List.getElem_map]
  have hi : i < xs.length := by simpa using h1
  have hi' : i < d.L.length := by simpa using h2
  obtain ⟨a1, a2, a3⟩ := s.one i hi hi'
  rw [a2, a3]

set_option maxRecDepth 100000 in
set_option maxHeartbeats 1000000 in
theorem r2live_any {w : World} {r lim en : Nat} {v : Value} {xs : List RB} (h : RAt w r lim en v xs) (hn : xs.length ≤ 134217728) (hs : rsum xs ≤ 134217728) :
    Calls Tryz.prog 33 #[.pointer (some ⟨r, 0, none⟩)] w fun e w' => e = .returned (.int .i64 (rsum xs : Int)) ∧ w' = w := by
  have c2 := h.cell2
  obtain ⟨so, cap, rfl, hcap, hC⟩ := h.list
  have HC := hide hC
  clear h hC
  go_enter Tryz.func33, Tryz.ntmps33
  go_wp2_with fail
  go_loopw [3, 4] (fun s i wr => ∃ k : Nat, k ≤ xs.length ∧ i = .int .i64 (k : Int) ∧ s = .int .i64 (rsum (xs.take k) : Int) ∧ w = wr) (fun _ i _ => xs.length - (intOf i).toNat)
  case atStart => exact ⟨0, Nat.zero_le _, rfl, rfl, rfl⟩
  case round =>
    obtain ⟨k, hk, rfl, rfl, rfl⟩ := hrel
    by_cases hlt : k < xs.length
    · obtain ⟨g, rfl, x0, x1, x2, _⟩ := HC.out k hlt
      have hlt' : (k : Int) < (xs.length : Int) := by omega
      have e1 := rsum_take xs k hlt
      have e2 := rsum_le xs (k + 1)
      clear HC
      by_cases hl : xs[k].live = true
      · rw [hl] at x1 e1
        simp only [if_true] at e1
        generalize xs[k].bs.length = y at *
        generalize rsum (xs.take k) = z at *
        have HE := hide e1
        clear e1 hl
        have hb : (z : Int) + (y : Int) ≤ 134217728 := by have := HE.out; omega
        clear e2
        go_wp2_with fail
        go_roundw
        case rel => exact ⟨k + 1, by omega, by go_num, by rw [HE.out]; go_num, by trivial⟩
        case measure => simp [intOf]; omega
      · have hl' : xs[k].live = false := by simpa using hl
        rw [hl'] at x1 e1
        simp only [Bool.false_eq_true, if_false, Nat.add_zero] at e1
        have HE := hide e1
        clear e1 hl hl' e2
        go_wp2_with fail
        go_roundw
        case rel => exact ⟨k + 1, by omega, by go_num, by rw [HE.out], by trivial⟩
        case measure => simp [intOf]; omega
    · obtain rfl : k = xs.length := by omega
      have hlt' : ¬ (xs.length : Int) < (xs.length : Int) := by omega
      rw [List.take_length]
      clear HC
      go_wp2_with fail
      go_ret
      exact ⟨rfl, rfl⟩

def FindPost (w : World) (xs : List RB) (off : Int) (e : Ending) (w' : World) : Prop :=
  w' = w ∧ ((∃ k, ∃ hk : k < xs.length, e = .returned (.int .i64 (k : Int)) ∧ xs[k].live = true ∧ (xs[k].off : Int) = off) ∨ (e = .returned (.int .i64 (-1)) ∧ ∀ k (hk : k < xs.length), xs[k].live = true → (xs[k].off : Int) ≠ off))
set_option maxRecDepth 100000 in
set_option maxHeartbeats 1000000 in
theorem r2find_any {w : World} {r lim en : Nat} {v : Value} {xs : List RB} (h : RAt w r lim en v xs) (hn : xs.length ≤ 134217728) (off : Int) :
    Calls Tryz.prog 66 #[.pointer (some ⟨r, 0, none⟩), .int .i64 off] w fun e w' => FindPost w xs off e w' := by
  have c2 := h.cell2
  obtain ⟨so, cap, rfl, hcap, hC⟩ := h.list
  have HC := hide hC
  clear h hC
  go_enter Tryz.func66, Tryz.ntmps66
  go_wp2_with fail
  go_loopw [5] (fun i wr => ∃ k : Nat, k ≤ xs.length ∧ i = .int .i64 (k : Int) ∧ w = wr ∧ Hid (∀ j (hj : j < xs.length), j < k → xs[j].live = true → (xs[j].off : Int) ≠ off)) (fun i _ => xs.length - (intOf i).toNat)
  case atStart => exact ⟨0, Nat.zero_le _, rfl, rfl, fun j _ hj => by omega⟩
  case round =>
    obtain ⟨k, hk, rfl, rfl, hno⟩ := hrel
    by_cases hlt : k < xs.length
    · obtain ⟨g, rfl, x0, x1, x2, _⟩ := HC.out k hlt
      have hlt' : (k : Int) < (xs.length : Int) := by omega
      clear HC
      have hnext : Hid (¬ (xs[k].live = true ∧ (xs[k].off : Int) = off) → ∀ j (hj : j < xs.length), j < k + 1 → xs[j].live = true → (xs[j].off : Int) ≠ off) := fun hne j hj hjk hl he => by
        rcases Nat.lt_or_ge j k with h1 | h1
        · exact hno.out j hj h1 hl he
        · obtain rfl : j = k := by omega
          exact hne ⟨hl, he⟩
      clear hno
      by_cases hl : xs[k].live = true
      · by_cases ho : (xs[k].off : Int) = off
        · have hfin : Hid (FindPost w xs off (.returned (.int .i64 (k : Int))) w) := ⟨rfl, Or.inl ⟨k, hlt, rfl, hl, ho⟩⟩
          have hq : ((xs[k].off : Int) == off) = true := by simpa using ho
          rw [hl] at x1
          clear hl hnext ho
          generalize xs[k].off = y at *
          go_wp2_with fail
          go_ret
          exact hfin.out
        · have hN : Hid (∀ j (hj : j < xs.length), j < k + 1 → xs[j].live = true → (xs[j].off : Int) ≠ off) := hnext.out (fun hh => ho hh.2)
          have hq : ((xs[k].off : Int) == off) = false := beq_eq_false_iff_ne.2 ho
          rw [hl] at x1
          clear hl hnext
          generalize xs[k].off = y at *
          go_wp2_with fail
          go_roundw
          case rel => exact ⟨k + 1, by omega, by go_num, by trivial, hN⟩
          case measure => simp [intOf]; omega
      · have hN : Hid (∀ j (hj : j < xs.length), j < k + 1 → xs[j].live = true → (xs[j].off : Int) ≠ off) := hnext.out (fun hh => hl hh.1)
        have hl' : xs[k].live = false := by simpa using hl
        rw [hl'] at x1
        clear hl hl' hnext
        go_wp2_with fail
        go_roundw
        case rel => exact ⟨k + 1, by omega, by go_num, by trivial, hN⟩
        case measure => simp [intOf]; omega
    · obtain rfl : k = xs.length := by omega
      have hlt' : ¬ (xs.length : Int) < (xs.length : Int) := by omega
      have hfin : Hid (FindPost w xs off (.returned (.int .i64 (-1))) w) := ⟨rfl, Or.inr ⟨rfl, fun j hj hl => hno.out j hj hj hl⟩⟩
      clear HC hno
      go_wp2_with fail
      go_ret
      exact hfin.out
end Go.Proofs.YtdlibnjgmdffnaaGreat
/-
  The document's own arena: span, Size, Blocks.
-/
namespace Go.Proofs.YtdlibnjgmdffnaaGreat
open Go.RowKit Go.Shelf
set_option linter.unusedVariables false

theorem keep_cell {w w' : World} (k : Keeps w w' (fun _ => False)) {p : Addr} {v : Value} (h : w.cell? p = some v) : w'.cell? p = some v := by
  have : p.block < w.heap.size := by
    refine Nat.lt_of_not_le fun hn => ?_
    rw [World.cell?, Array.getElem?_eq_none hn] at h
    cases h
  exact (World.cell?_of_block (w := w) (k.block p.block this (fun x => x))).trans h

/-- Is the span inside this block? -/
def RB.has (x : RB) (off n : Int) : Prop := x.live = true ∧ 0 ≤ n ∧ (x.off : Int) ≤ off ∧ off - (x.off : Int) ≤ (x.bs.length : Int) - n
def SpanPost (w : World) (xs : List RB) (off n : Int) (e : Ending) (w' : World) : Prop :=
  Keeps w w' (fun _ => False) ∧ ((∃ k, ∃ hk : k < xs.length, e = .returned (.tuple #[.int .i64 (k : Int), .int .i64 (off - (xs[k].off : Int))]) ∧ xs[k].has off n) ∨ (e = .returned (.tuple #[.int .i64 (-1), .int .i64 0]) ∧ ∀ k (hk : k < xs.length), ¬ xs[k].has off n))

set_option maxRecDepth 100000 in
set_option maxHeartbeats 2000000 in
theorem r2span_no {w : World} {r lim en : Nat} {v : Value} {xs : List RB} (h : RAt w r lim en v xs) (off n : Int) (h0 : n < 0 ∨ off < 16 ∨ (en : Int) < off) :
    Calls Tryz.prog 58 #[.pointer (some ⟨r, 0, none⟩), .int .i64 off, .int .i64 n] w fun e w' => e = .returned (.tuple #[.int .i64 (-1), .int .i64 0]) ∧ w' = w := by
  have c1 := h.cell1
  clear h
  by_cases a1 : n < 0
  · clear h0
    go_enter Tryz.func58, Tryz.ntmps58
    go_wp2_with fail
    go_ret2
    exact ⟨rfl, rfl⟩
  · by_cases a2 : off < 16
    · clear h0
      go_enter Tryz.func58, Tryz.ntmps58
      go_wp2_with fail
      go_ret2
      exact ⟨rfl, rfl⟩
    · have a3 : (en : Int) < off := by omega
      clear h0
      go_enter Tryz.func58, Tryz.ntmps58
      go_wp2_with fail
      go_ret2
      exact ⟨rfl, rfl⟩

set_option maxRecDepth 100000 in
set_option maxHeartbeats 4000000 in
theorem r2span_in {w : World} {r lim en : Nat} {v : Value} {xs : List RB} (h : RAt w r lim en v xs) (hn : xs.length ≤ 134217728) (hen : en ≤ 134217728) (hb : ∀ k (hk : k < xs.length), xs[k].off + xs[k].bs.length ≤ en) (off n : Int) (a1 : 0 ≤ n) (a2 : 16 ≤ off) (a3 : off ≤ (en : Int)) (hn2 : n ≤ 9223372036854775807) :
    Calls Tryz.prog 58 #[.pointer (some ⟨r, 0, none⟩), .int .i64 off, .int .i64 n] w fun e w' => SpanPost w xs off n e w' := by
  have c1 := h.cell1
  have c2 := h.cell2
  obtain ⟨so, cap, rfl, hcap, hC⟩ := h.list
  have HC := hide hC
  have b1 : ¬ n < 0 := by omega
  have b2 : ¬ off < 16 := by omega
  have b3 : ¬ (en : Int) < off := by omega
  have HB := hide hb
  clear h hC hb
  go_enter Tryz.func58, Tryz.ntmps58
  go_wp2_with fail
  go_loopw [8] (fun i wr => ∃ k : Nat, k ≤ xs.length ∧ i = .int .i64 (k : Int) ∧ Hid (Keeps w wr (fun _ => False)) ∧ Hid (∀ j (hj : j < xs.length), j < k → ¬ xs[j].has off n)) (fun i _ => xs.length - (intOf i).toNat)
  case atStart => exact ⟨0, Nat.zero_le _, rfl, Keeps.refl _ _, fun j _ hj => by omega⟩
  case round =>
    obtain ⟨k, hk, rfl, kr, hno⟩ := hrel
    have c2r := keep_cell kr.out c2
    by_cases hlt : k < xs.length
    · obtain ⟨g, rfl, x0, x1, x2, _⟩ := HC.out k hlt
      replace x0 := keep_cell kr.out x0
      replace x1 := keep_cell kr.out x1
      replace x2 := keep_cell kr.out x2
      have hlt' : (k : Int) < (xs.length : Int) := by omega
      have hbk := HB.out k hlt
      clear HC HB c1 c2
      have hnext : Hid (¬ xs[k].has off n → ∀ j (hj : j < xs.length), j < k + 1 → ¬ xs[j].has off n) := fun hne j hj hjk hh => by
        rcases Nat.lt_or_ge j k with h1 | h1
        · exact hno.out j hj h1 hh
        · obtain rfl : j = k := by omega
          exact hne hh
      have hyes : Hid (xs[k].has off n → ∀ w', Keeps w w' (fun _ => False) → SpanPost w xs off n (.returned (.tuple #[.int .i64 (k : Int), .int .i64 (off - (xs[k].off : Int))])) w') := fun hh w' kk => ⟨kk, Or.inl ⟨k, hlt, rfl, hh⟩⟩
      have hdef : Hid (xs[k].has off n ↔ xs[k].live = true ∧ 0 ≤ n ∧ (xs[k].off : Int) ≤ off ∧ off - (xs[k].off : Int) ≤ (xs[k].bs.length : Int) - n) := show _ ↔ _ from Iff.rfl
      clear hno
      generalize xs[k].has off n = Q at *
      generalize xs[k].off = y at *
      generalize xs[k].bs.length = z at *
      generalize xs[k].sp.length = zs at *
      generalize xs[k].g = gg at *
      by_cases hl : xs[k].live = true
      · rw [hl] at x1
        by_cases g1 : (y : Int) ≤ off
        · by_cases g2 : off - (y : Int) ≤ (z : Int)
          · by_cases g3 : n ≤ (z : Int) - (off - (y : Int))
            · have hq : Hid Q := hdef.out.2 ⟨hl, a1, g1, by omega⟩
              clear hdef hnext hl
              go_wp2_with fail
              go_quiet (fail)
              go_wp2_with fail
              go_ret2
              exact hyes.out hq.out _ (by have q := kr.out.alloc (.cells #[.int .i64 (y : Int), .bool true, .slice (some ⟨gg, 0, none⟩) z (z + zs)] 74); exact ⟨q.os, q.tape, q.output, q.size, q.block⟩)
            · have hq : Hid (¬ Q) := fun hq => by have := (hdef.out.1 hq).2.2.2; omega
              clear hdef hyes hl
              go_wp2_with fail
              go_roundw
              case rel => exact ⟨k + 1, by omega, by go_num, kr.out.alloc _, hnext.out hq.out⟩
              case measure => simp [intOf]; omega
          · have hq : Hid (¬ Q) := fun hq => by have := (hdef.out.1 hq).2.2.2; omega
            clear hdef hyes hl
            go_wp2_with fail
            go_roundw
            case rel => exact ⟨k + 1, by omega, by go_num, kr.out.alloc _, hnext.out hq.out⟩
            case measure => simp [intOf]; omega
        · have hq : Hid (¬ Q) := fun hq => by have := (hdef.out.1 hq).2.2.1; omega
          clear hdef hyes hl
          go_wp2_with fail
          go_roundw
          case rel => exact ⟨k + 1, by omega, by go_num, kr.out.alloc _, hnext.out hq.out⟩
          case measure => simp [intOf]; omega
      · have hl' : xs[k].live = false := by simpa using hl
        rw [hl'] at x1
        have hq : Hid (¬ Q) := fun hq => hl (hdef.out.1 hq).1
        clear hdef hyes hl hl'
        go_wp2_with fail
        go_roundw
        case rel => exact ⟨k + 1, by omega, by go_num, kr.out.alloc _, hnext.out hq.out⟩
        case measure => simp [intOf]; omega
    · obtain rfl : k = xs.length := by omega
      have hlt' : ¬ (xs.length : Int) < (xs.length : Int) := by omega
      have hfin : Hid (SpanPost w xs off n (.returned (.tuple #[.int .i64 (-1), .int .i64 0])) wr) := ⟨kr.out, Or.inr ⟨rfl, fun j hj => hno.out j hj hj⟩⟩
      clear HC HB hno c1 c2
      go_wp2_with fail
      go_ret2
      exact hfin.out

theorem r2span_any {w : World} {r lim en : Nat} {v : Value} {xs : List RB} (h : RAt w r lim en v xs) (hn : xs.length ≤ 134217728) (hen : en ≤ 134217728) (hb : ∀ k (hk : k < xs.length), 16 ≤ xs[k].off ∧ xs[k].off + xs[k].bs.length ≤ en) (off n : Int) (hfn : fitsI n) :
    Calls Tryz.prog 58 #[.pointer (some ⟨r, 0, none⟩), .int .i64 off, .int .i64 n] w fun e w' => SpanPost w xs off n e w' := by
  by_cases h0 : n < 0 ∨ off < 16 ∨ (en : Int) < off
  · refine (r2span_no h off n h0).mono fun e w' hp => ?_
    obtain ⟨rfl, rfl⟩ := hp
    refine ⟨Keeps.refl _ _, Or.inr ⟨rfl, fun k hk hh => ?_⟩⟩
    have := hb k hk
    obtain ⟨_, q1, q2, q3⟩ := hh
    omega
  · exact r2span_in h hn hen (fun k hk => (hb k hk).2) off n (by omega) (by omega) (by omega) (fitsI_bounds hfn).2
end Go.Proofs.YtdlibnjgmdffnaaGreat
