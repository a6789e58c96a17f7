/-
  script: the reference's guess.
-/
import Derived.Test.YteimjilngabebaaDoorSE8
import Derived.Deep.Cut
import Derived.Test.YteimjilngabebaaDoorSD3
namespace Go.Proofs.YteimjilngabebaaDoor
open Go.RowKit
set_option linter.unusedVariables false
/-- What guess makes of the words behind the name. -/
def RGX (op : Int) (xs : List ByteArray) (err n off : Int) (yes : Bool) (key elem : ByteArray) : Prop :=
  match xs with
  | [] => err = 0 ∧ n = 0 ∧ off = 0 ∧ yes = false ∧ key = ⟨#[]⟩ ∧ elem = ⟨#[]⟩
  | [a] => err = 0 ∧ (if op = 2 then n = 0 ∧ off = 0 ∧ yes = (a.toList == [121, 101, 115]) ∧ key = ⟨#[]⟩ ∧ elem = ⟨#[]⟩
      else if op = 3 then n = 0 ∧ off = 0 ∧ yes = (a.toList == [110, 101, 119]) ∧ key = ⟨#[]⟩ ∧ elem = ⟨#[]⟩
      else if op = 4 then n = 0 ∧ off = 0 ∧ yes = (a.toList == [121, 101, 115]) ∧ key = ⟨#[]⟩ ∧ elem = ⟨#[]⟩
      else if op = 9 then n = 0 ∧ off = 0 ∧ yes = (a.toList == [112, 97, 105, 114]) ∧ key = ⟨#[]⟩ ∧ elem = ⟨#[]⟩
      else if op = 14 then n = 0 ∧ off = 0 ∧ yes = false ∧ key = ⟨#[]⟩ ∧ elem = ⟨#[]⟩
      else NumR a n ∧ off = 0 ∧ yes = false ∧ key = ⟨#[]⟩ ∧ elem = ⟨#[]⟩)
  | [a, b] => if a = errB then NumR b err ∧ n = 0 ∧ off = 0 ∧ yes = false ∧ key = ⟨#[]⟩ ∧ elem = ⟨#[]⟩
      else err = 0 ∧ (if op = 2 then n = 0 ∧ off = 0 ∧ yes = (a.toList == [121, 101, 115]) ∧ key = ⟨#[]⟩ ∧ elem = (bytD b).1
      else if op = 3 then n = 0 ∧ off = 0 ∧ yes = (a.toList == [110, 101, 119]) ∧ key = ⟨#[]⟩ ∧ elem = ⟨#[]⟩
      else if op = 4 then n = 0 ∧ off = 0 ∧ yes = (a.toList == [121, 101, 115]) ∧ key = ⟨#[]⟩ ∧ elem = ⟨#[]⟩
      else if op = 9 then n = 0 ∧ off = 0 ∧ yes = (a.toList == [112, 97, 105, 114]) ∧ key = ⟨#[]⟩ ∧ elem = ⟨#[]⟩
      else if op = 14 then n = 0 ∧ off = 0 ∧ yes = false ∧ key = ⟨#[]⟩ ∧ elem = ⟨#[]⟩
      else NumR a n ∧ off = 0 ∧ yes = false ∧ key = ⟨#[]⟩ ∧ elem = ⟨#[]⟩)
  | a :: b :: c :: _ => err = 0 ∧ (if op = 2 then n = 0 ∧ off = 0 ∧ yes = (a.toList == [121, 101, 115]) ∧ key = ⟨#[]⟩ ∧ elem = (bytD b).1
      else if op = 3 then n = 0 ∧ off = 0 ∧ yes = (a.toList == [110, 101, 119]) ∧ key = ⟨#[]⟩ ∧ elem = ⟨#[]⟩
      else if op = 4 then n = 0 ∧ off = 0 ∧ yes = (a.toList == [121, 101, 115]) ∧ key = ⟨#[]⟩ ∧ elem = ⟨#[]⟩
      else if op = 9 then n = 0 ∧ off = 0 ∧ yes = (a.toList == [112, 97, 105, 114]) ∧ key = (bytD b).1 ∧ elem = (bytD c).1
      else if op = 14 then NumR b n ∧ NumR c off ∧ yes = false ∧ key = ⟨#[]⟩ ∧ elem = ⟨#[]⟩
      else NumR a n ∧ off = 0 ∧ yes = false ∧ key = ⟨#[]⟩ ∧ elem = ⟨#[]⟩)
/-- What the reference's guess answers. -/
def RGuess (op : Int) (xs : List ByteArray) (v : Value) : Prop := ∃ err n off yes key elem, v = .agg #[.int .i64 op, .int .i64 err, .int .i64 n, .int .i64 off, .bool yes, .string key, .string elem] ∧ Fit err ∧ Fit n ∧ Fit off ∧ key.size ≤ 8388608 ∧ elem.size ≤ 8388608 ∧ RGX op xs err n off yes key elem
/-- guess under way: its result in block w.heap.size, the row in block p, its answer in block p + 1, its words in block g. -/
structure GR (w wr : World) (p g : Nat) (row : Array Value) (ws : List ByteArray) (cs : Array Value) : Prop where
  keep : Keeps w wr (fun _ => False)
  rb : wr.heap[w.heap.size]? = some (.cells #[.int .i64 0, .int .i64 0, .int .i64 0, .int .i64 0, .bool false, .string ⟨#[]⟩, .string ⟨#[]⟩] 24)
  rwb : wr.heap[p]? = some (.cells row 65)
  ab : wr.heap[p + 1]? = some (.cells cs 24)
  cl : ∀ j u, (ws.map Value.string)[j]? = some u → wr.cell? ⟨g, j, none⟩ = some u
  lt : g < w.heap.size ∧ w.heap.size < p
theorem GR.stay {w wr w2 : World} {p g : Nat} {row : Array Value} {ws : List ByteArray} {cs : Array Value} (h : GR w wr p g row ws cs) (k : Keeps wr w2 (fun _ => False)) : GR w w2 p g row ws cs :=
  ⟨h.keep.trans k (fun _ _ e => e), k.blk h.rb, k.blk h.rwb, k.blk h.ab, fun j u hj => keeps_cell k (h.cl j u hj), h.lt⟩
theorem GR.set {w wr : World} {p g : Nat} {row : Array Value} {ws : List ByteArray} {cs : Array Value} (h : GR w wr p g row ws cs) (i : Nat) (v : Value) : GR w (wr.setCell ⟨p + 1, i, none⟩ v) p g row ws (cs.setIfInBounds i v) := by
  have hlt := h.lt
  refine ⟨h.keep.setCell _ (fun e => ?_) _, blk_set_ne h.rb (by omega) i v, blk_set_ne h.rwb (by omega) i v, set_cell7 h.ab i v, fun j u hj => ?_, h.lt⟩
  · simp at e
    omega
  · rw [cell_set_ne _ (by omega)]
    exact h.cl j u hj
theorem alloc2 {w : World} {o1 o2 : Obj} {P : World → Prop} (h : ∀ W0, W0.heap[w.heap.size]? = some o1 → W0.heap[w.heap.size + 1]? = some o2 → Keeps w W0 (fun _ => False) → P W0) : P ((w.alloc o1).alloc o2) := by
  have k1 : Keeps (w.alloc o1) ((w.alloc o1).alloc o2) (fun _ => False) := (Keeps.refl _ _).alloc _
  have e1 := heap_alloc_new (w.alloc o1) o2
  simp only [World.size_alloc] at e1
  exact h _ (k1.blk (heap_alloc_new w o1)) e1 (((Keeps.refl _ _).alloc _).alloc _)
set_option maxRecDepth 100000 in
set_option maxHeartbeats 2000000 in
theorem rg_0 (x : ByteArray) (g cap : Nat) (w : World) (hcl : ∀ j u, ([x].map Value.string)[j]? = some u → w.cell? ⟨g, j, none⟩ = some u) (op : Int) (hrow : ∀ W, Calls Tryd.prog 27 #[.string x] W fun e w' => (∃ nm f mo kn, e = .returned (.tuple #[.agg #[.string nm, .int .i64 op, .string f, .bool mo], .bool kn])) ∧ Keeps W w' (fun _ => False))  :
    Calls Tryd.prog 16 #[.slice (some ⟨g, 0, none⟩) 1 cap] w fun e w' => (∃ v, e = .returned v ∧ RGuess op [] v) ∧ Keeps w w' (fun _ => False) := by
  have cz := hcl 0 _ rfl
  have hg : g < w.heap.size := by
    simp only [World.cell?] at cz
    cases hh : w.heap[g]? with
    | none => rw [hh] at cz; cases cz
    | some o => exact heap_lt hh
  have Hrow := hide hrow
  have Hcl := hide hcl
  have Hg := hide hg
  have kZ : Keeps w (w.alloc (.cells #[.int .i64 0, .int .i64 0, .int .i64 0, .int .i64 0, .bool false, .string ⟨#[]⟩, .string ⟨#[]⟩] 24)) (fun _ => False) := (Keeps.refl _ _).alloc _
  have cz1 := keeps_cell kZ cz
  have KZ := hide kZ
  clear hrow hcl hg kZ cz
  go_enter Tryd.func16, Tryd.ntmps16
  go_wp2_with fail
  refine alloc1 (P := fun W => Calls _ _ _ W _) fun W0 hb0 hz0 k0 => ?_
  (with_reducible refine (Hrow.out W0).mono ?_)
  rintro e w1 ⟨⟨nm, f, mo, kn, rfl⟩, k1⟩
  have HB0 := hide hb0
  have K0 := hide k0
  have K1 := hide k1
  have HZ0 := hide hz0
  clear hb0 k0 k1 hz0 cz1 KZ
  go_upto_region 3 with fail
  refine alloc2 (P := fun W => Code.wp _ _ _ _ W) fun W hr2 ha2 k2 => ?_
  have k12 := K1.out.trans k2 (fun _ _ e => e)
  have k02 := K0.out.trans k12 (fun _ _ e => e)
  have G1 : GR w W w1.heap.size g #[.string nm, .int .i64 op, .string f, .bool mo] [x] #[.int .i64 op, .int .i64 0, .int .i64 0, .int .i64 0, .bool false, .string ⟨#[]⟩, .string ⟨#[]⟩] := ⟨k02, k12.blk HB0.out, hr2, ha2, fun j u hj => keeps_cell k02 (Hcl.out j u hj), Hg.out, by
    have := K1.out.size
    have := HZ0.out
    omega⟩
  have n1 : ¬ w.heap.size = w1.heap.size + 1 := by have := G1.lt; omega
  have n2 : ¬ w1.heap.size + 1 = w.heap.size := by have := G1.lt; omega
  have n3 : ¬ g = w1.heap.size + 1 := by have := G1.lt; omega
  have n4 : ¬ w1.heap.size + 1 = g := by have := G1.lt; omega
  clear hr2 ha2 k2 k12 k02 HB0 K0 K1 HZ0 Hcl Hg
  obtain ⟨⟨a0, a1, a2, a3, a4, a5, a6⟩, f0, f1, f2, f3, f4, f5, f6⟩ := ans_open G1.ab
  obtain ⟨⟨r0, r1, r2, r3, r4, r5, r6⟩, q0, q1, q2, q3, q4, q5, q6⟩ := ans_open G1.rb
  obtain ⟨⟨-, o1, -, -⟩, -⟩ := four_open G1.rwb
  have HG1 := hide G1
  clear G1
  go_wp2_with fail
  have G9 := HG1.out
  refine ans_set (P := bodyPost Tryd.prog _ _ Exit.ret _) G9.rb G9.keep (Nat.le_refl _) (fun w9 hb9 k9 => ?_)
  obtain ⟨⟨d0, d1, d2, d3, d4, d5, d6⟩, -⟩ := ans_open hb9
  refine bodyPost_ret (v := .agg #[.int .i64 op, .int .i64 0, .int .i64 0, .int .i64 0, .bool false, .string ⟨#[]⟩, .string ⟨#[]⟩]) (by simp [results, Tryd.results16, go_sem, d0, d1, d2, d3, d4, d5, d6]) rfl ?_
  exact ⟨⟨_, rfl, _, _, _, _, _, _, rfl, ⟨by omega, by omega⟩, ⟨by omega, by omega⟩, ⟨by omega, by omega⟩, Nat.zero_le _, Nat.zero_le _, ⟨rfl, rfl, rfl, rfl, rfl, rfl⟩⟩, k9⟩
set_option maxRecDepth 100000 in
set_option maxHeartbeats 2000000 in
theorem rg_1_2 (x a : ByteArray) (ha : a.size ≤ 8388608) (g cap : Nat) (w : World) (hcl : ∀ j u, ([x, a].map Value.string)[j]? = some u → w.cell? ⟨g, j, none⟩ = some u) (op : Int) (hrow : ∀ W, Calls Tryd.prog 27 #[.string x] W fun e w' => (∃ nm f mo kn, e = .returned (.tuple #[.agg #[.string nm, .int .i64 op, .string f, .bool mo], .bool kn])) ∧ Keeps W w' (fun _ => False)) (ho : op = 2) :
    Calls Tryd.prog 16 #[.slice (some ⟨g, 0, none⟩) 2 cap] w fun e w' => (∃ v, e = .returned v ∧ RGuess op [a] v) ∧ Keeps w w' (fun _ => False) := by
  subst ho
  have cz := hcl 0 _ rfl
  have hg : g < w.heap.size := by
    simp only [World.cell?] at cz
    cases hh : w.heap[g]? with
    | none => rw [hh] at cz; cases cz
    | some o => exact heap_lt hh
  have HNa := hide (fun W => rnum_any a ha W)
  have HBa := hide (fun W => rbyt_any a ha W)
  have Hrow := hide hrow
  have Hcl := hide hcl
  have Hg := hide hg
  have kZ : Keeps w (w.alloc (.cells #[.int .i64 0, .int .i64 0, .int .i64 0, .int .i64 0, .bool false, .string ⟨#[]⟩, .string ⟨#[]⟩] 24)) (fun _ => False) := (Keeps.refl _ _).alloc _
  have cz1 := keeps_cell kZ cz
  have KZ := hide kZ
  clear hrow hcl hg kZ cz
  go_enter Tryd.func16, Tryd.ntmps16
  go_wp2_with fail
  refine alloc1 (P := fun W => Calls _ _ _ W _) fun W0 hb0 hz0 k0 => ?_
  (with_reducible refine (Hrow.out W0).mono ?_)
  rintro e w1 ⟨⟨nm, f, mo, kn, rfl⟩, k1⟩
  have HB0 := hide hb0
  have K0 := hide k0
  have K1 := hide k1
  have HZ0 := hide hz0
  clear hb0 k0 k1 hz0 cz1 KZ
  go_upto_region 3 with fail
  refine alloc2 (P := fun W => Code.wp _ _ _ _ W) fun W hr2 ha2 k2 => ?_
  have k12 := K1.out.trans k2 (fun _ _ e => e)
  have k02 := K0.out.trans k12 (fun _ _ e => e)
  have G1 : GR w W w1.heap.size g #[.string nm, .int .i64 2, .string f, .bool mo] [x, a] #[.int .i64 2, .int .i64 0, .int .i64 0, .int .i64 0, .bool false, .string ⟨#[]⟩, .string ⟨#[]⟩] := ⟨k02, k12.blk HB0.out, hr2, ha2, fun j u hj => keeps_cell k02 (Hcl.out j u hj), Hg.out, by
    have := K1.out.size
    have := HZ0.out
    omega⟩
  have n1 : ¬ w.heap.size = w1.heap.size + 1 := by have := G1.lt; omega
  have n2 : ¬ w1.heap.size + 1 = w.heap.size := by have := G1.lt; omega
  have n3 : ¬ g = w1.heap.size + 1 := by have := G1.lt; omega
  have n4 : ¬ w1.heap.size + 1 = g := by have := G1.lt; omega
  clear hr2 ha2 k2 k12 k02 HB0 K0 K1 HZ0 Hcl Hg
  obtain ⟨⟨a0, a1, a2, a3, a4, a5, a6⟩, f0, f1, f2, f3, f4, f5, f6⟩ := ans_open G1.ab
  obtain ⟨⟨r0, r1, r2, r3, r4, r5, r6⟩, q0, q1, q2, q3, q4, q5, q6⟩ := ans_open G1.rb
  obtain ⟨⟨-, o1, -, -⟩, -⟩ := four_open G1.rwb
  have c1 : W.cell? ⟨g, 1, none⟩ = some (.string a) := G1.cl 1 _ rfl
  have HG1 := hide G1
  clear G1
  go_wp2_with fail
  have G9 := (HG1.out.set 4 (.bool (a.toList == [121, 101, 115])))
  refine ans_set (P := bodyPost Tryd.prog _ _ Exit.ret _) G9.rb G9.keep (Nat.le_refl _) (fun w9 hb9 k9 => ?_)
  obtain ⟨⟨d0, d1, d2, d3, d4, d5, d6⟩, -⟩ := ans_open hb9
  refine bodyPost_ret (v := .agg #[.int .i64 2, .int .i64 0, .int .i64 0, .int .i64 0, .bool (a.toList == [121, 101, 115]), .string ⟨#[]⟩, .string ⟨#[]⟩]) (by simp [results, Tryd.results16, go_sem, d0, d1, d2, d3, d4, d5, d6]) rfl ?_
  exact ⟨⟨_, rfl, _, _, _, _, _, _, rfl, ⟨by omega, by omega⟩, ⟨by omega, by omega⟩, ⟨by omega, by omega⟩, Nat.zero_le _, Nat.zero_le _, (by unfold RGX; simp)⟩, k9⟩
set_option maxRecDepth 100000 in
set_option maxHeartbeats 2000000 in
theorem rg_1_3 (x a : ByteArray) (ha : a.size ≤ 8388608) (g cap : Nat) (w : World) (hcl : ∀ j u, ([x, a].map Value.string)[j]? = some u → w.cell? ⟨g, j, none⟩ = some u) (op : Int) (hrow : ∀ W, Calls Tryd.prog 27 #[.string x] W fun e w' => (∃ nm f mo kn, e = .returned (.tuple #[.agg #[.string nm, .int .i64 op, .string f, .bool mo], .bool kn])) ∧ Keeps W w' (fun _ => False)) (ho : op = 3) :
    Calls Tryd.prog 16 #[.slice (some ⟨g, 0, none⟩) 2 cap] w fun e w' => (∃ v, e = .returned v ∧ RGuess op [a] v) ∧ Keeps w w' (fun _ => False) := by
  subst ho
  have cz := hcl 0 _ rfl
  have hg : g < w.heap.size := by
    simp only [World.cell?] at cz
    cases hh : w.heap[g]? with
    | none => rw [hh] at cz; cases cz
    | some o => exact heap_lt hh
  have HNa := hide (fun W => rnum_any a ha W)
  have HBa := hide (fun W => rbyt_any a ha W)
  have Hrow := hide hrow
  have Hcl := hide hcl
  have Hg := hide hg
  have kZ : Keeps w (w.alloc (.cells #[.int .i64 0, .int .i64 0, .int .i64 0, .int .i64 0, .bool false, .string ⟨#[]⟩, .string ⟨#[]⟩] 24)) (fun _ => False) := (Keeps.refl _ _).alloc _
  have cz1 := keeps_cell kZ cz
  have KZ := hide kZ
  clear hrow hcl hg kZ cz
  go_enter Tryd.func16, Tryd.ntmps16
  go_wp2_with fail
  refine alloc1 (P := fun W => Calls _ _ _ W _) fun W0 hb0 hz0 k0 => ?_
  (with_reducible refine (Hrow.out W0).mono ?_)
  rintro e w1 ⟨⟨nm, f, mo, kn, rfl⟩, k1⟩
  have HB0 := hide hb0
  have K0 := hide k0
  have K1 := hide k1
  have HZ0 := hide hz0
  clear hb0 k0 k1 hz0 cz1 KZ
  go_upto_region 3 with fail
  refine alloc2 (P := fun W => Code.wp _ _ _ _ W) fun W hr2 ha2 k2 => ?_
  have k12 := K1.out.trans k2 (fun _ _ e => e)
  have k02 := K0.out.trans k12 (fun _ _ e => e)
  have G1 : GR w W w1.heap.size g #[.string nm, .int .i64 3, .string f, .bool mo] [x, a] #[.int .i64 3, .int .i64 0, .int .i64 0, .int .i64 0, .bool false, .string ⟨#[]⟩, .string ⟨#[]⟩] := ⟨k02, k12.blk HB0.out, hr2, ha2, fun j u hj => keeps_cell k02 (Hcl.out j u hj), Hg.out, by
    have := K1.out.size
    have := HZ0.out
    omega⟩
  have n1 : ¬ w.heap.size = w1.heap.size + 1 := by have := G1.lt; omega
  have n2 : ¬ w1.heap.size + 1 = w.heap.size := by have := G1.lt; omega
  have n3 : ¬ g = w1.heap.size + 1 := by have := G1.lt; omega
  have n4 : ¬ w1.heap.size + 1 = g := by have := G1.lt; omega
  clear hr2 ha2 k2 k12 k02 HB0 K0 K1 HZ0 Hcl Hg
  obtain ⟨⟨a0, a1, a2, a3, a4, a5, a6⟩, f0, f1, f2, f3, f4, f5, f6⟩ := ans_open G1.ab
  obtain ⟨⟨r0, r1, r2, r3, r4, r5, r6⟩, q0, q1, q2, q3, q4, q5, q6⟩ := ans_open G1.rb
  obtain ⟨⟨-, o1, -, -⟩, -⟩ := four_open G1.rwb
  have c1 : W.cell? ⟨g, 1, none⟩ = some (.string a) := G1.cl 1 _ rfl
  have HG1 := hide G1
  clear G1
  go_wp2_with fail
  have G9 := (HG1.out.set 4 (.bool (a.toList == [110, 101, 119])))
  refine ans_set (P := bodyPost Tryd.prog _ _ Exit.ret _) G9.rb G9.keep (Nat.le_refl _) (fun w9 hb9 k9 => ?_)
  obtain ⟨⟨d0, d1, d2, d3, d4, d5, d6⟩, -⟩ := ans_open hb9
  refine bodyPost_ret (v := .agg #[.int .i64 3, .int .i64 0, .int .i64 0, .int .i64 0, .bool (a.toList == [110, 101, 119]), .string ⟨#[]⟩, .string ⟨#[]⟩]) (by simp [results, Tryd.results16, go_sem, d0, d1, d2, d3, d4, d5, d6]) rfl ?_
  exact ⟨⟨_, rfl, _, _, _, _, _, _, rfl, ⟨by omega, by omega⟩, ⟨by omega, by omega⟩, ⟨by omega, by omega⟩, Nat.zero_le _, Nat.zero_le _, (by unfold RGX; simp)⟩, k9⟩
set_option maxRecDepth 100000 in
set_option maxHeartbeats 2000000 in
theorem rg_1_4 (x a : ByteArray) (ha : a.size ≤ 8388608) (g cap : Nat) (w : World) (hcl : ∀ j u, ([x, a].map Value.string)[j]? = some u → w.cell? ⟨g, j, none⟩ = some u) (op : Int) (hrow : ∀ W, Calls Tryd.prog 27 #[.string x] W fun e w' => (∃ nm f mo kn, e = .returned (.tuple #[.agg #[.string nm, .int .i64 op, .string f, .bool mo], .bool kn])) ∧ Keeps W w' (fun _ => False)) (ho : op = 4) :
    Calls Tryd.prog 16 #[.slice (some ⟨g, 0, none⟩) 2 cap] w fun e w' => (∃ v, e = .returned v ∧ RGuess op [a] v) ∧ Keeps w w' (fun _ => False) := by
  subst ho
  have cz := hcl 0 _ rfl
  have hg : g < w.heap.size := by
    simp only [World.cell?] at cz
    cases hh : w.heap[g]? with
    | none => rw [hh] at cz; cases cz
    | some o => exact heap_lt hh
  have HNa := hide (fun W => rnum_any a ha W)
  have HBa := hide (fun W => rbyt_any a ha W)
  have Hrow := hide hrow
  have Hcl := hide hcl
  have Hg := hide hg
  have kZ : Keeps w (w.alloc (.cells #[.int .i64 0, .int .i64 0, .int .i64 0, .int .i64 0, .bool false, .string ⟨#[]⟩, .string ⟨#[]⟩] 24)) (fun _ => False) := (Keeps.refl _ _).alloc _
  have cz1 := keeps_cell kZ cz
  have KZ := hide kZ
  clear hrow hcl hg kZ cz
  go_enter Tryd.func16, Tryd.ntmps16
  go_wp2_with fail
  refine alloc1 (P := fun W => Calls _ _ _ W _) fun W0 hb0 hz0 k0 => ?_
  (with_reducible refine (Hrow.out W0).mono ?_)
  rintro e w1 ⟨⟨nm, f, mo, kn, rfl⟩, k1⟩
  have HB0 := hide hb0
  have K0 := hide k0
  have K1 := hide k1
  have HZ0 := hide hz0
  clear hb0 k0 k1 hz0 cz1 KZ
  go_upto_region 3 with fail
  refine alloc2 (P := fun W => Code.wp _ _ _ _ W) fun W hr2 ha2 k2 => ?_
  have k12 := K1.out.trans k2 (fun _ _ e => e)
  have k02 := K0.out.trans k12 (fun _ _ e => e)
  have G1 : GR w W w1.heap.size g #[.string nm, .int .i64 4, .string f, .bool mo] [x, a] #[.int .i64 4, .int .i64 0, .int .i64 0, .int .i64 0, .bool false, .string ⟨#[]⟩, .string ⟨#[]⟩] := ⟨k02, k12.blk HB0.out, hr2, ha2, fun j u hj => keeps_cell k02 (Hcl.out j u hj), Hg.out, by
    have := K1.out.size
    have := HZ0.out
    omega⟩
  have n1 : ¬ w.heap.size = w1.heap.size + 1 := by have := G1.lt; omega
  have n2 : ¬ w1.heap.size + 1 = w.heap.size := by have := G1.lt; omega
  have n3 : ¬ g = w1.heap.size + 1 := by have := G1.lt; omega
  have n4 : ¬ w1.heap.size + 1 = g := by have := G1.lt; omega
  clear hr2 ha2 k2 k12 k02 HB0 K0 K1 HZ0 Hcl Hg
  obtain ⟨⟨a0, a1, a2, a3, a4, a5, a6⟩, f0, f1, f2, f3, f4, f5, f6⟩ := ans_open G1.ab
  obtain ⟨⟨r0, r1, r2, r3, r4, r5, r6⟩, q0, q1, q2, q3, q4, q5, q6⟩ := ans_open G1.rb
  obtain ⟨⟨-, o1, -, -⟩, -⟩ := four_open G1.rwb
  have c1 : W.cell? ⟨g, 1, none⟩ = some (.string a) := G1.cl 1 _ rfl
  have HG1 := hide G1
  clear G1
  go_wp2_with fail
  have G9 := (HG1.out.set 4 (.bool (a.toList == [121, 101, 115])))
  refine ans_set (P := bodyPost Tryd.prog _ _ Exit.ret _) G9.rb G9.keep (Nat.le_refl _) (fun w9 hb9 k9 => ?_)
  obtain ⟨⟨d0, d1, d2, d3, d4, d5, d6⟩, -⟩ := ans_open hb9
  refine bodyPost_ret (v := .agg #[.int .i64 4, .int .i64 0, .int .i64 0, .int .i64 0, .bool (a.toList == [121, 101, 115]), .string ⟨#[]⟩, .string ⟨#[]⟩]) (by simp [results, Tryd.results16, go_sem, d0, d1, d2, d3, d4, d5, d6]) rfl ?_
  exact ⟨⟨_, rfl, _, _, _, _, _, _, rfl, ⟨by omega, by omega⟩, ⟨by omega, by omega⟩, ⟨by omega, by omega⟩, Nat.zero_le _, Nat.zero_le _, (by unfold RGX; simp)⟩, k9⟩
set_option maxRecDepth 100000 in
set_option maxHeartbeats 2000000 in
theorem rg_1_9 (x a : ByteArray) (ha : a.size ≤ 8388608) (g cap : Nat) (w : World) (hcl : ∀ j u, ([x, a].map Value.string)[j]? = some u → w.cell? ⟨g, j, none⟩ = some u) (op : Int) (hrow : ∀ W, Calls Tryd.prog 27 #[.string x] W fun e w' => (∃ nm f mo kn, e = .returned (.tuple #[.agg #[.string nm, .int .i64 op, .string f, .bool mo], .bool kn])) ∧ Keeps W w' (fun _ => False)) (ho : op = 9) :
    Calls Tryd.prog 16 #[.slice (some ⟨g, 0, none⟩) 2 cap] w fun e w' => (∃ v, e = .returned v ∧ RGuess op [a] v) ∧ Keeps w w' (fun _ => False) := by
  subst ho
  have cz := hcl 0 _ rfl
  have hg : g < w.heap.size := by
    simp only [World.cell?] at cz
    cases hh : w.heap[g]? with
    | none => rw [hh] at cz; cases cz
    | some o => exact heap_lt hh
  have HNa := hide (fun W => rnum_any a ha W)
  have HBa := hide (fun W => rbyt_any a ha W)
  have Hrow := hide hrow
  have Hcl := hide hcl
  have Hg := hide hg
  have kZ : Keeps w (w.alloc (.cells #[.int .i64 0, .int .i64 0, .int .i64 0, .int .i64 0, .bool false, .string ⟨#[]⟩, .string ⟨#[]⟩] 24)) (fun _ => False) := (Keeps.refl _ _).alloc _
  have cz1 := keeps_cell kZ cz
  have KZ := hide kZ
  clear hrow hcl hg kZ cz
  go_enter Tryd.func16, Tryd.ntmps16
  go_wp2_with fail
  refine alloc1 (P := fun W => Calls _ _ _ W _) fun W0 hb0 hz0 k0 => ?_
  (with_reducible refine (Hrow.out W0).mono ?_)
  rintro e w1 ⟨⟨nm, f, mo, kn, rfl⟩, k1⟩
  have HB0 := hide hb0
  have K0 := hide k0
  have K1 := hide k1
  have HZ0 := hide hz0
  clear hb0 k0 k1 hz0 cz1 KZ
  go_upto_region 3 with fail
  refine alloc2 (P := fun W => Code.wp _ _ _ _ W) fun W hr2 ha2 k2 => ?_
  have k12 := K1.out.trans k2 (fun _ _ e => e)
  have k02 := K0.out.trans k12 (fun _ _ e => e)
  have G1 : GR w W w1.heap.size g #[.string nm, .int .i64 9, .string f, .bool mo] [x, a] #[.int .i64 9, .int .i64 0, .int .i64 0, .int .i64 0, .bool false, .string ⟨#[]⟩, .string ⟨#[]⟩] := ⟨k02, k12.blk HB0.out, hr2, ha2, fun j u hj => keeps_cell k02 (Hcl.out j u hj), Hg.out, by
    have := K1.out.size
    have := HZ0.out
    omega⟩
  have n1 : ¬ w.heap.size = w1.heap.size + 1 := by have := G1.lt; omega
  have n2 : ¬ w1.heap.size + 1 = w.heap.size := by have := G1.lt; omega
  have n3 : ¬ g = w1.heap.size + 1 := by have := G1.lt; omega
  have n4 : ¬ w1.heap.size + 1 = g := by have := G1.lt; omega
  clear hr2 ha2 k2 k12 k02 HB0 K0 K1 HZ0 Hcl Hg
  obtain ⟨⟨a0, a1, a2, a3, a4, a5, a6⟩, f0, f1, f2, f3, f4, f5, f6⟩ := ans_open G1.ab
  obtain ⟨⟨r0, r1, r2, r3, r4, r5, r6⟩, q0, q1, q2, q3, q4, q5, q6⟩ := ans_open G1.rb
  obtain ⟨⟨-, o1, -, -⟩, -⟩ := four_open G1.rwb
  have c1 : W.cell? ⟨g, 1, none⟩ = some (.string a) := G1.cl 1 _ rfl
  have HG1 := hide G1
  clear G1
  go_wp2_with fail
  have G9 := (HG1.out.set 4 (.bool (a.toList == [112, 97, 105, 114])))
  refine ans_set (P := bodyPost Tryd.prog _ _ Exit.ret _) G9.rb G9.keep (Nat.le_refl _) (fun w9 hb9 k9 => ?_)
  obtain ⟨⟨d0, d1, d2, d3, d4, d5, d6⟩, -⟩ := ans_open hb9
  refine bodyPost_ret (v := .agg #[.int .i64 9, .int .i64 0, .int .i64 0, .int .i64 0, .bool (a.toList == [112, 97, 105, 114]), .string ⟨#[]⟩, .string ⟨#[]⟩]) (by simp [results, Tryd.results16, go_sem, d0, d1, d2, d3, d4, d5, d6]) rfl ?_
  exact ⟨⟨_, rfl, _, _, _, _, _, _, rfl, ⟨by omega, by omega⟩, ⟨by omega, by omega⟩, ⟨by omega, by omega⟩, Nat.zero_le _, Nat.zero_le _, (by unfold RGX; simp)⟩, k9⟩
set_option maxRecDepth 100000 in
set_option maxHeartbeats 2000000 in
theorem rg_1_14 (x a : ByteArray) (ha : a.size ≤ 8388608) (g cap : Nat) (w : World) (hcl : ∀ j u, ([x, a].map Value.string)[j]? = some u → w.cell? ⟨g, j, none⟩ = some u) (op : Int) (hrow : ∀ W, Calls Tryd.prog 27 #[.string x] W fun e w' => (∃ nm f mo kn, e = .returned (.tuple #[.agg #[.string nm, .int .i64 op, .string f, .bool mo], .bool kn])) ∧ Keeps W w' (fun _ => False)) (ho : op = 14) :
    Calls Tryd.prog 16 #[.slice (some ⟨g, 0, none⟩) 2 cap] w fun e w' => (∃ v, e = .returned v ∧ RGuess op [a] v) ∧ Keeps w w' (fun _ => False) := by
  subst ho
  have cz := hcl 0 _ rfl
  have hg : g < w.heap.size := by
    simp only [World.cell?] at cz
    cases hh : w.heap[g]? with
    | none => rw [hh] at cz; cases cz
    | some o => exact heap_lt hh
  have HNa := hide (fun W => rnum_any a ha W)
  have HBa := hide (fun W => rbyt_any a ha W)
  have Hrow := hide hrow
  have Hcl := hide hcl
  have Hg := hide hg
  have kZ : Keeps w (w.alloc (.cells #[.int .i64 0, .int .i64 0, .int .i64 0, .int .i64 0, .bool false, .string ⟨#[]⟩, .string ⟨#[]⟩] 24)) (fun _ => False) := (Keeps.refl _ _).alloc _
  have cz1 := keeps_cell kZ cz
  have KZ := hide kZ
  clear hrow hcl hg kZ cz
  go_enter Tryd.func16, Tryd.ntmps16
  go_wp2_with fail
  refine alloc1 (P := fun W => Calls _ _ _ W _) fun W0 hb0 hz0 k0 => ?_
  (with_reducible refine (Hrow.out W0).mono ?_)
  rintro e w1 ⟨⟨nm, f, mo, kn, rfl⟩, k1⟩
  have HB0 := hide hb0
  have K0 := hide k0
  have K1 := hide k1
  have HZ0 := hide hz0
  clear hb0 k0 k1 hz0 cz1 KZ
  go_upto_region 3 with fail
  refine alloc2 (P := fun W => Code.wp _ _ _ _ W) fun W hr2 ha2 k2 => ?_
  have k12 := K1.out.trans k2 (fun _ _ e => e)
  have k02 := K0.out.trans k12 (fun _ _ e => e)
  have G1 : GR w W w1.heap.size g #[.string nm, .int .i64 14, .string f, .bool mo] [x, a] #[.int .i64 14, .int .i64 0, .int .i64 0, .int .i64 0, .bool false, .string ⟨#[]⟩, .string ⟨#[]⟩] := ⟨k02, k12.blk HB0.out, hr2, ha2, fun j u hj => keeps_cell k02 (Hcl.out j u hj), Hg.out, by
    have := K1.out.size
    have := HZ0.out
    omega⟩
  have n1 : ¬ w.heap.size = w1.heap.size + 1 := by have := G1.lt; omega
  have n2 : ¬ w1.heap.size + 1 = w.heap.size := by have := G1.lt; omega
  have n3 : ¬ g = w1.heap.size + 1 := by have := G1.lt; omega
  have n4 : ¬ w1.heap.size + 1 = g := by have := G1.lt; omega
  clear hr2 ha2 k2 k12 k02 HB0 K0 K1 HZ0 Hcl Hg
  obtain ⟨⟨a0, a1, a2, a3, a4, a5, a6⟩, f0, f1, f2, f3, f4, f5, f6⟩ := ans_open G1.ab
  obtain ⟨⟨r0, r1, r2, r3, r4, r5, r6⟩, q0, q1, q2, q3, q4, q5, q6⟩ := ans_open G1.rb
  obtain ⟨⟨-, o1, -, -⟩, -⟩ := four_open G1.rwb
  have c1 : W.cell? ⟨g, 1, none⟩ = some (.string a) := G1.cl 1 _ rfl
  have HG1 := hide G1
  clear G1
  go_wp2_with fail
  have G9 := HG1.out
  refine ans_set (P := bodyPost Tryd.prog _ _ Exit.ret _) G9.rb G9.keep (Nat.le_refl _) (fun w9 hb9 k9 => ?_)
  obtain ⟨⟨d0, d1, d2, d3, d4, d5, d6⟩, -⟩ := ans_open hb9
  refine bodyPost_ret (v := .agg #[.int .i64 14, .int .i64 0, .int .i64 0, .int .i64 0, .bool false, .string ⟨#[]⟩, .string ⟨#[]⟩]) (by simp [results, Tryd.results16, go_sem, d0, d1, d2, d3, d4, d5, d6]) rfl ?_
  exact ⟨⟨_, rfl, _, _, _, _, _, _, rfl, ⟨by omega, by omega⟩, ⟨by omega, by omega⟩, ⟨by omega, by omega⟩, Nat.zero_le _, Nat.zero_le _, (by unfold RGX; simp)⟩, k9⟩
set_option maxRecDepth 100000 in
set_option maxHeartbeats 2000000 in
theorem rg_1_x (x a : ByteArray) (ha : a.size ≤ 8388608) (g cap : Nat) (w : World) (hcl : ∀ j u, ([x, a].map Value.string)[j]? = some u → w.cell? ⟨g, j, none⟩ = some u) (op : Int) (hrow : ∀ W, Calls Tryd.prog 27 #[.string x] W fun e w' => (∃ nm f mo kn, e = .returned (.tuple #[.agg #[.string nm, .int .i64 op, .string f, .bool mo], .bool kn])) ∧ Keeps W w' (fun _ => False)) (ho : op ≠ 2 ∧ op ≠ 3 ∧ op ≠ 4 ∧ op ≠ 9 ∧ op ≠ 14) :
    Calls Tryd.prog 16 #[.slice (some ⟨g, 0, none⟩) 2 cap] w fun e w' => (∃ v, e = .returned v ∧ RGuess op [a] v) ∧ Keeps w w' (fun _ => False) := by
  have o2 : (op == 2) = false := by simp; omega
  have o3 : (op == 3) = false := by simp; omega
  have o4 : (op == 4) = false := by simp; omega
  have o9 : (op == 9) = false := by simp; omega
  have o14 : (op == 14) = false := by simp; omega
  have cz := hcl 0 _ rfl
  have hg : g < w.heap.size := by
    simp only [World.cell?] at cz
    cases hh : w.heap[g]? with
    | none => rw [hh] at cz; cases cz
    | some o => exact heap_lt hh
  have HNa := hide (fun W => rnum_any a ha W)
  have HBa := hide (fun W => rbyt_any a ha W)
  have Hrow := hide hrow
  have Hcl := hide hcl
  have Hg := hide hg
  have kZ : Keeps w (w.alloc (.cells #[.int .i64 0, .int .i64 0, .int .i64 0, .int .i64 0, .bool false, .string ⟨#[]⟩, .string ⟨#[]⟩] 24)) (fun _ => False) := (Keeps.refl _ _).alloc _
  have cz1 := keeps_cell kZ cz
  have KZ := hide kZ
  clear hrow hcl hg kZ cz
  go_enter Tryd.func16, Tryd.ntmps16
  go_wp2_with fail
  refine alloc1 (P := fun W => Calls _ _ _ W _) fun W0 hb0 hz0 k0 => ?_
  (with_reducible refine (Hrow.out W0).mono ?_)
  rintro e w1 ⟨⟨nm, f, mo, kn, rfl⟩, k1⟩
  have HB0 := hide hb0
  have K0 := hide k0
  have K1 := hide k1
  have HZ0 := hide hz0
  clear hb0 k0 k1 hz0 cz1 KZ
  go_upto_region 3 with fail
  refine alloc2 (P := fun W => Code.wp _ _ _ _ W) fun W hr2 ha2 k2 => ?_
  have k12 := K1.out.trans k2 (fun _ _ e => e)
  have k02 := K0.out.trans k12 (fun _ _ e => e)
  have G1 : GR w W w1.heap.size g #[.string nm, .int .i64 op, .string f, .bool mo] [x, a] #[.int .i64 op, .int .i64 0, .int .i64 0, .int .i64 0, .bool false, .string ⟨#[]⟩, .string ⟨#[]⟩] := ⟨k02, k12.blk HB0.out, hr2, ha2, fun j u hj => keeps_cell k02 (Hcl.out j u hj), Hg.out, by
    have := K1.out.size
    have := HZ0.out
    omega⟩
  have n1 : ¬ w.heap.size = w1.heap.size + 1 := by have := G1.lt; omega
  have n2 : ¬ w1.heap.size + 1 = w.heap.size := by have := G1.lt; omega
  have n3 : ¬ g = w1.heap.size + 1 := by have := G1.lt; omega
  have n4 : ¬ w1.heap.size + 1 = g := by have := G1.lt; omega
  clear hr2 ha2 k2 k12 k02 HB0 K0 K1 HZ0 Hcl Hg
  obtain ⟨⟨a0, a1, a2, a3, a4, a5, a6⟩, f0, f1, f2, f3, f4, f5, f6⟩ := ans_open G1.ab
  obtain ⟨⟨r0, r1, r2, r3, r4, r5, r6⟩, q0, q1, q2, q3, q4, q5, q6⟩ := ans_open G1.rb
  obtain ⟨⟨-, o1, -, -⟩, -⟩ := four_open G1.rwb
  have c1 : W.cell? ⟨g, 1, none⟩ = some (.string a) := G1.cl 1 _ rfl
  have HG1 := hide G1
  clear G1
  go_wp2_with fail
  (with_reducible refine (HNa.out _).mono ?_)
  rintro e w2 ⟨⟨v2, er2, rfl, hv2⟩, rfl⟩
  have HV2 := hide hv2
  clear hv2
  go_wp2_with fail
  have G9 := (HG1.out.set 2 (.int .i64 v2))
  refine ans_set (P := bodyPost Tryd.prog _ _ Exit.ret _) G9.rb G9.keep (Nat.le_refl _) (fun w9 hb9 k9 => ?_)
  obtain ⟨⟨d0, d1, d2, d3, d4, d5, d6⟩, -⟩ := ans_open hb9
  refine bodyPost_ret (v := .agg #[.int .i64 op, .int .i64 0, .int .i64 v2, .int .i64 0, .bool false, .string ⟨#[]⟩, .string ⟨#[]⟩]) (by simp [results, Tryd.results16, go_sem, d0, d1, d2, d3, d4, d5, d6]) rfl ?_
  exact ⟨⟨_, rfl, _, _, _, _, _, _, rfl, ⟨by omega, by omega⟩, HV2.out.1, ⟨by omega, by omega⟩, Nat.zero_le _, Nat.zero_le _, (by unfold RGX; obtain ⟨o2, o3, o4, o9, o14⟩ := ho; refine ⟨by trivial, ?_⟩; rw [if_neg o2, if_neg o3, if_neg o4, if_neg o9, if_neg o14]; exact ⟨HV2.out, by trivial, by trivial, by trivial, by trivial⟩)⟩, k9⟩
set_option maxRecDepth 100000 in
set_option maxHeartbeats 2000000 in
theorem rg_2_2 (x a b : ByteArray) (ha : a.size ≤ 8388608) (hb : b.size ≤ 8388608) (g cap : Nat) (w : World) (hcl : ∀ j u, ([x, a, b].map Value.string)[j]? = some u → w.cell? ⟨g, j, none⟩ = some u) (op : Int) (hrow : ∀ W, Calls Tryd.prog 27 #[.string x] W fun e w' => (∃ nm f mo kn, e = .returned (.tuple #[.agg #[.string nm, .int .i64 op, .string f, .bool mo], .bool kn])) ∧ Keeps W w' (fun _ => False)) (y0 : (a.toList == [101, 114, 114, 111, 114]) = false) (hne : a ≠ errB) (ho : op = 2) :
    Calls Tryd.prog 16 #[.slice (some ⟨g, 0, none⟩) 3 cap] w fun e w' => (∃ v, e = .returned v ∧ RGuess op [a, b] v) ∧ Keeps w w' (fun _ => False) := by
  subst ho
  have cz := hcl 0 _ rfl
  have hg : g < w.heap.size := by
    simp only [World.cell?] at cz
    cases hh : w.heap[g]? with
    | none => rw [hh] at cz; cases cz
    | some o => exact heap_lt hh
  have HNa := hide (fun W => rnum_any a ha W)
  have HBa := hide (fun W => rbyt_any a ha W)
  have HNb := hide (fun W => rnum_any b hb W)
  have HBb := hide (fun W => rbyt_any b hb W)
  have Hrow := hide hrow
  have Hcl := hide hcl
  have Hg := hide hg
  have kZ : Keeps w (w.alloc (.cells #[.int .i64 0, .int .i64 0, .int .i64 0, .int .i64 0, .bool false, .string ⟨#[]⟩, .string ⟨#[]⟩] 24)) (fun _ => False) := (Keeps.refl _ _).alloc _
  have cz1 := keeps_cell kZ cz
  have KZ := hide kZ
  clear hrow hcl hg kZ cz
  go_enter Tryd.func16, Tryd.ntmps16
  go_wp2_with fail
  refine alloc1 (P := fun W => Calls _ _ _ W _) fun W0 hb0 hz0 k0 => ?_
  (with_reducible refine (Hrow.out W0).mono ?_)
  rintro e w1 ⟨⟨nm, f, mo, kn, rfl⟩, k1⟩
  have HB0 := hide hb0
  have K0 := hide k0
  have K1 := hide k1
  have HZ0 := hide hz0
  clear hb0 k0 k1 hz0 cz1 KZ
  go_upto_region 3 with fail
  refine alloc2 (P := fun W => Code.wp _ _ _ _ W) fun W hr2 ha2 k2 => ?_
  have k12 := K1.out.trans k2 (fun _ _ e => e)
  have k02 := K0.out.trans k12 (fun _ _ e => e)
  have G1 : GR w W w1.heap.size g #[.string nm, .int .i64 2, .string f, .bool mo] [x, a, b] #[.int .i64 2, .int .i64 0, .int .i64 0, .int .i64 0, .bool false, .string ⟨#[]⟩, .string ⟨#[]⟩] := ⟨k02, k12.blk HB0.out, hr2, ha2, fun j u hj => keeps_cell k02 (Hcl.out j u hj), Hg.out, by
    have := K1.out.size
    have := HZ0.out
    omega⟩
  have n1 : ¬ w.heap.size = w1.heap.size + 1 := by have := G1.lt; omega
  have n2 : ¬ w1.heap.size + 1 = w.heap.size := by have := G1.lt; omega
  have n3 : ¬ g = w1.heap.size + 1 := by have := G1.lt; omega
  have n4 : ¬ w1.heap.size + 1 = g := by have := G1.lt; omega
  clear hr2 ha2 k2 k12 k02 HB0 K0 K1 HZ0 Hcl Hg
  obtain ⟨⟨a0, a1, a2, a3, a4, a5, a6⟩, f0, f1, f2, f3, f4, f5, f6⟩ := ans_open G1.ab
  obtain ⟨⟨r0, r1, r2, r3, r4, r5, r6⟩, q0, q1, q2, q3, q4, q5, q6⟩ := ans_open G1.rb
  obtain ⟨⟨-, o1, -, -⟩, -⟩ := four_open G1.rwb
  have c1 : W.cell? ⟨g, 1, none⟩ = some (.string a) := G1.cl 1 _ rfl
  have c2 : W.cell? ⟨g, 2, none⟩ = some (.string b) := G1.cl 2 _ rfl
  have HG1 := hide G1
  clear G1
  go_wp2_with fail
  (with_reducible refine (HBb.out _).mono ?_)
  rintro e w2 ⟨⟨er2, rfl⟩, k2⟩
  have G2 : GR w w2 w1.heap.size g #[.string nm, .int .i64 2, .string f, .bool mo] [x, a, b] #[.int .i64 2, .int .i64 0, .int .i64 0, .int .i64 0, .bool (a.toList == [121, 101, 115]), .string ⟨#[]⟩, .string ⟨#[]⟩] := (HG1.out.set 4 (.bool (a.toList == [121, 101, 115]))).stay k2
  clear a0 a1 a2 a3 a4 a5 a6 f0 f1 f2 f3 f4 f5 f6 r0 r1 r2 r3 r4 r5 r6 q0 q1 q2 q3 q4 q5 q6 o1 c1 c2
  clear k2
  obtain ⟨⟨a0, a1, a2, a3, a4, a5, a6⟩, f0, f1, f2, f3, f4, f5, f6⟩ := ans_open G2.ab
  obtain ⟨⟨r0, r1, r2, r3, r4, r5, r6⟩, q0, q1, q2, q3, q4, q5, q6⟩ := ans_open G2.rb
  obtain ⟨⟨-, o1, -, -⟩, -⟩ := four_open G2.rwb
  have c1 : w2.cell? ⟨g, 1, none⟩ = some (.string a) := G2.cl 1 _ rfl
  have c2 : w2.cell? ⟨g, 2, none⟩ = some (.string b) := G2.cl 2 _ rfl
  have HG2 := hide G2
  clear G2
  go_wp2_with fail
  have G9 := (HG2.out.set 6 (.string (bytD b).1))
  refine ans_set (P := bodyPost Tryd.prog _ _ Exit.ret _) G9.rb G9.keep (Nat.le_refl _) (fun w9 hb9 k9 => ?_)
  obtain ⟨⟨d0, d1, d2, d3, d4, d5, d6⟩, -⟩ := ans_open hb9
  refine bodyPost_ret (v := .agg #[.int .i64 2, .int .i64 0, .int .i64 0, .int .i64 0, .bool (a.toList == [121, 101, 115]), .string ⟨#[]⟩, .string (bytD b).1]) (by simp [results, Tryd.results16, go_sem, d0, d1, d2, d3, d4, d5, d6]) rfl ?_
  exact ⟨⟨_, rfl, _, _, _, _, _, _, rfl, ⟨by omega, by omega⟩, ⟨by omega, by omega⟩, ⟨by omega, by omega⟩, Nat.zero_le _, Nat.le_trans (bytD_small b) hb, (by simp only [RGX]; rw [if_neg hne]; simp)⟩, k9⟩
set_option maxRecDepth 100000 in
set_option maxHeartbeats 2000000 in
theorem rg_2_3 (x a b : ByteArray) (ha : a.size ≤ 8388608) (hb : b.size ≤ 8388608) (g cap : Nat) (w : World) (hcl : ∀ j u, ([x, a, b].map Value.string)[j]? = some u → w.cell? ⟨g, j, none⟩ = some u) (op : Int) (hrow : ∀ W, Calls Tryd.prog 27 #[.string x] W fun e w' => (∃ nm f mo kn, e = .returned (.tuple #[.agg #[.string nm, .int .i64 op, .string f, .bool mo], .bool kn])) ∧ Keeps W w' (fun _ => False)) (y0 : (a.toList == [101, 114, 114, 111, 114]) = false) (hne : a ≠ errB) (ho : op = 3) :
    Calls Tryd.prog 16 #[.slice (some ⟨g, 0, none⟩) 3 cap] w fun e w' => (∃ v, e = .returned v ∧ RGuess op [a, b] v) ∧ Keeps w w' (fun _ => False) := by
  subst ho
  have cz := hcl 0 _ rfl
  have hg : g < w.heap.size := by
    simp only [World.cell?] at cz
    cases hh : w.heap[g]? with
    | none => rw [hh] at cz; cases cz
    | some o => exact heap_lt hh
  have HNa := hide (fun W => rnum_any a ha W)
  have HBa := hide (fun W => rbyt_any a ha W)
  have HNb := hide (fun W => rnum_any b hb W)
  have HBb := hide (fun W => rbyt_any b hb W)
  have Hrow := hide hrow
  have Hcl := hide hcl
  have Hg := hide hg
  have kZ : Keeps w (w.alloc (.cells #[.int .i64 0, .int .i64 0, .int .i64 0, .int .i64 0, .bool false, .string ⟨#[]⟩, .string ⟨#[]⟩] 24)) (fun _ => False) := (Keeps.refl _ _).alloc _
  have cz1 := keeps_cell kZ cz
  have KZ := hide kZ
  clear hrow hcl hg kZ cz
  go_enter Tryd.func16, Tryd.ntmps16
  go_wp2_with fail
  refine alloc1 (P := fun W => Calls _ _ _ W _) fun W0 hb0 hz0 k0 => ?_
  (with_reducible refine (Hrow.out W0).mono ?_)
  rintro e w1 ⟨⟨nm, f, mo, kn, rfl⟩, k1⟩
  have HB0 := hide hb0
  have K0 := hide k0
  have K1 := hide k1
  have HZ0 := hide hz0
  clear hb0 k0 k1 hz0 cz1 KZ
  go_upto_region 3 with fail
  refine alloc2 (P := fun W => Code.wp _ _ _ _ W) fun W hr2 ha2 k2 => ?_
  have k12 := K1.out.trans k2 (fun _ _ e => e)
  have k02 := K0.out.trans k12 (fun _ _ e => e)
  have G1 : GR w W w1.heap.size g #[.string nm, .int .i64 3, .string f, .bool mo] [x, a, b] #[.int .i64 3, .int .i64 0, .int .i64 0, .int .i64 0, .bool false, .string ⟨#[]⟩, .string ⟨#[]⟩] := ⟨k02, k12.blk HB0.out, hr2, ha2, fun j u hj => keeps_cell k02 (Hcl.out j u hj), Hg.out, by
    have := K1.out.size
    have := HZ0.out
    omega⟩
  have n1 : ¬ w.heap.size = w1.heap.size + 1 := by have := G1.lt; omega
  have n2 : ¬ w1.heap.size + 1 = w.heap.size := by have := G1.lt; omega
  have n3 : ¬ g = w1.heap.size + 1 := by have := G1.lt; omega
  have n4 : ¬ w1.heap.size + 1 = g := by have := G1.lt; omega
  clear hr2 ha2 k2 k12 k02 HB0 K0 K1 HZ0 Hcl Hg
  obtain ⟨⟨a0, a1, a2, a3, a4, a5, a6⟩, f0, f1, f2, f3, f4, f5, f6⟩ := ans_open G1.ab
  obtain ⟨⟨r0, r1, r2, r3, r4, r5, r6⟩, q0, q1, q2, q3, q4, q5, q6⟩ := ans_open G1.rb
  obtain ⟨⟨-, o1, -, -⟩, -⟩ := four_open G1.rwb
  have c1 : W.cell? ⟨g, 1, none⟩ = some (.string a) := G1.cl 1 _ rfl
  have c2 : W.cell? ⟨g, 2, none⟩ = some (.string b) := G1.cl 2 _ rfl
  have HG1 := hide G1
  clear G1
  go_wp2_with fail
  have G9 := (HG1.out.set 4 (.bool (a.toList == [110, 101, 119])))
  refine ans_set (P := bodyPost Tryd.prog _ _ Exit.ret _) G9.rb G9.keep (Nat.le_refl _) (fun w9 hb9 k9 => ?_)
  obtain ⟨⟨d0, d1, d2, d3, d4, d5, d6⟩, -⟩ := ans_open hb9
  refine bodyPost_ret (v := .agg #[.int .i64 3, .int .i64 0, .int .i64 0, .int .i64 0, .bool (a.toList == [110, 101, 119]), .string ⟨#[]⟩, .string ⟨#[]⟩]) (by simp [results, Tryd.results16, go_sem, d0, d1, d2, d3, d4, d5, d6]) rfl ?_
  exact ⟨⟨_, rfl, _, _, _, _, _, _, rfl, ⟨by omega, by omega⟩, ⟨by omega, by omega⟩, ⟨by omega, by omega⟩, Nat.zero_le _, Nat.zero_le _, (by simp only [RGX]; rw [if_neg hne]; simp)⟩, k9⟩
set_option maxRecDepth 100000 in
set_option maxHeartbeats 2000000 in
theorem rg_2_4 (x a b : ByteArray) (ha : a.size ≤ 8388608) (hb : b.size ≤ 8388608) (g cap : Nat) (w : World) (hcl : ∀ j u, ([x, a, b].map Value.string)[j]? = some u → w.cell? ⟨g, j, none⟩ = some u) (op : Int) (hrow : ∀ W, Calls Tryd.prog 27 #[.string x] W fun e w' => (∃ nm f mo kn, e = .returned (.tuple #[.agg #[.string nm, .int .i64 op, .string f, .bool mo], .bool kn])) ∧ Keeps W w' (fun _ => False)) (y0 : (a.toList == [101, 114, 114, 111, 114]) = false) (hne : a ≠ errB) (ho : op = 4) :
    Calls Tryd.prog 16 #[.slice (some ⟨g, 0, none⟩) 3 cap] w fun e w' => (∃ v, e = .returned v ∧ RGuess op [a, b] v) ∧ Keeps w w' (fun _ => False) := by
  subst ho
  have cz := hcl 0 _ rfl
  have hg : g < w.heap.size := by
    simp only [World.cell?] at cz
    cases hh : w.heap[g]? with
    | none => rw [hh] at cz; cases cz
    | some o => exact heap_lt hh
  have HNa := hide (fun W => rnum_any a ha W)
  have HBa := hide (fun W => rbyt_any a ha W)
  have HNb := hide (fun W => rnum_any b hb W)
  have HBb := hide (fun W => rbyt_any b hb W)
  have Hrow := hide hrow
  have Hcl := hide hcl
  have Hg := hide hg
  have kZ : Keeps w (w.alloc (.cells #[.int .i64 0, .int .i64 0, .int .i64 0, .int .i64 0, .bool false, .string ⟨#[]⟩, .string ⟨#[]⟩] 24)) (fun _ => False) := (Keeps.refl _ _).alloc _
  have cz1 := keeps_cell kZ cz
  have KZ := hide kZ
  clear hrow hcl hg kZ cz
  go_enter Tryd.func16, Tryd.ntmps16
  go_wp2_with fail
  refine alloc1 (P := fun W => Calls _ _ _ W _) fun W0 hb0 hz0 k0 => ?_
  (with_reducible refine (Hrow.out W0).mono ?_)
  rintro e w1 ⟨⟨nm, f, mo, kn, rfl⟩, k1⟩
  have HB0 := hide hb0
  have K0 := hide k0
  have K1 := hide k1
  have HZ0 := hide hz0
  clear hb0 k0 k1 hz0 cz1 KZ
  go_upto_region 3 with fail
  refine alloc2 (P := fun W => Code.wp _ _ _ _ W) fun W hr2 ha2 k2 => ?_
  have k12 := K1.out.trans k2 (fun _ _ e => e)
  have k02 := K0.out.trans k12 (fun _ _ e => e)
  have G1 : GR w W w1.heap.size g #[.string nm, .int .i64 4, .string f, .bool mo] [x, a, b] #[.int .i64 4, .int .i64 0, .int .i64 0, .int .i64 0, .bool false, .string ⟨#[]⟩, .string ⟨#[]⟩] := ⟨k02, k12.blk HB0.out, hr2, ha2, fun j u hj => keeps_cell k02 (Hcl.out j u hj), Hg.out, by
    have := K1.out.size
    have := HZ0.out
    omega⟩
  have n1 : ¬ w.heap.size = w1.heap.size + 1 := by have := G1.lt; omega
  have n2 : ¬ w1.heap.size + 1 = w.heap.size := by have := G1.lt; omega
  have n3 : ¬ g = w1.heap.size + 1 := by have := G1.lt; omega
  have n4 : ¬ w1.heap.size + 1 = g := by have := G1.lt; omega
  clear hr2 ha2 k2 k12 k02 HB0 K0 K1 HZ0 Hcl Hg
  obtain ⟨⟨a0, a1, a2, a3, a4, a5, a6⟩, f0, f1, f2, f3, f4, f5, f6⟩ := ans_open G1.ab
  obtain ⟨⟨r0, r1, r2, r3, r4, r5, r6⟩, q0, q1, q2, q3, q4, q5, q6⟩ := ans_open G1.rb
  obtain ⟨⟨-, o1, -, -⟩, -⟩ := four_open G1.rwb
  have c1 : W.cell? ⟨g, 1, none⟩ = some (.string a) := G1.cl 1 _ rfl
  have c2 : W.cell? ⟨g, 2, none⟩ = some (.string b) := G1.cl 2 _ rfl
  have HG1 := hide G1
  clear G1
  go_wp2_with fail
  have G9 := (HG1.out.set 4 (.bool (a.toList == [121, 101, 115])))
  refine ans_set (P := bodyPost Tryd.prog _ _ Exit.ret _) G9.rb G9.keep (Nat.le_refl _) (fun w9 hb9 k9 => ?_)
  obtain ⟨⟨d0, d1, d2, d3, d4, d5, d6⟩, -⟩ := ans_open hb9
  refine bodyPost_ret (v := .agg #[.int .i64 4, .int .i64 0, .int .i64 0, .int .i64 0, .bool (a.toList == [121, 101, 115]), .string ⟨#[]⟩, .string ⟨#[]⟩]) (by simp [results, Tryd.results16, go_sem, d0, d1, d2, d3, d4, d5, d6]) rfl ?_
  exact ⟨⟨_, rfl, _, _, _, _, _, _, rfl, ⟨by omega, by omega⟩, ⟨by omega, by omega⟩, ⟨by omega, by omega⟩, Nat.zero_le _, Nat.zero_le _, (by simp only [RGX]; rw [if_neg hne]; simp)⟩, k9⟩
set_option maxRecDepth 100000 in
set_option maxHeartbeats 2000000 in
theorem rg_2_9 (x a b : ByteArray) (ha : a.size ≤ 8388608) (hb : b.size ≤ 8388608) (g cap : Nat) (w : World) (hcl : ∀ j u, ([x, a, b].map Value.string)[j]? = some u → w.cell? ⟨g, j, none⟩ = some u) (op : Int) (hrow : ∀ W, Calls Tryd.prog 27 #[.string x] W fun e w' => (∃ nm f mo kn, e = .returned (.tuple #[.agg #[.string nm, .int .i64 op, .string f, .bool mo], .bool kn])) ∧ Keeps W w' (fun _ => False)) (y0 : (a.toList == [101, 114, 114, 111, 114]) = false) (hne : a ≠ errB) (ho : op = 9) :
    Calls Tryd.prog 16 #[.slice (some ⟨g, 0, none⟩) 3 cap] w fun e w' => (∃ v, e = .returned v ∧ RGuess op [a, b] v) ∧ Keeps w w' (fun _ => False) := by
  subst ho
  have cz := hcl 0 _ rfl
  have hg : g < w.heap.size := by
    simp only [World.cell?] at cz
    cases hh : w.heap[g]? with
    | none => rw [hh] at cz; cases cz
    | some o => exact heap_lt hh
  have HNa := hide (fun W => rnum_any a ha W)
  have HBa := hide (fun W => rbyt_any a ha W)
  have HNb := hide (fun W => rnum_any b hb W)
  have HBb := hide (fun W => rbyt_any b hb W)
  have Hrow := hide hrow
  have Hcl := hide hcl
  have Hg := hide hg
  have kZ : Keeps w (w.alloc (.cells #[.int .i64 0, .int .i64 0, .int .i64 0, .int .i64 0, .bool false, .string ⟨#[]⟩, .string ⟨#[]⟩] 24)) (fun _ => False) := (Keeps.refl _ _).alloc _
  have cz1 := keeps_cell kZ cz
  have KZ := hide kZ
  clear hrow hcl hg kZ cz
  go_enter Tryd.func16, Tryd.ntmps16
  go_wp2_with fail
  refine alloc1 (P := fun W => Calls _ _ _ W _) fun W0 hb0 hz0 k0 => ?_
  (with_reducible refine (Hrow.out W0).mono ?_)
  rintro e w1 ⟨⟨nm, f, mo, kn, rfl⟩, k1⟩
  have HB0 := hide hb0
  have K0 := hide k0
  have K1 := hide k1
  have HZ0 := hide hz0
  clear hb0 k0 k1 hz0 cz1 KZ
  go_upto_region 3 with fail
  refine alloc2 (P := fun W => Code.wp _ _ _ _ W) fun W hr2 ha2 k2 => ?_
  have k12 := K1.out.trans k2 (fun _ _ e => e)
  have k02 := K0.out.trans k12 (fun _ _ e => e)
  have G1 : GR w W w1.heap.size g #[.string nm, .int .i64 9, .string f, .bool mo] [x, a, b] #[.int .i64 9, .int .i64 0, .int .i64 0, .int .i64 0, .bool false, .string ⟨#[]⟩, .string ⟨#[]⟩] := ⟨k02, k12.blk HB0.out, hr2, ha2, fun j u hj => keeps_cell k02 (Hcl.out j u hj), Hg.out, by
    have := K1.out.size
    have := HZ0.out
    omega⟩
  have n1 : ¬ w.heap.size = w1.heap.size + 1 := by have := G1.lt; omega
  have n2 : ¬ w1.heap.size + 1 = w.heap.size := by have := G1.lt; omega
  have n3 : ¬ g = w1.heap.size + 1 := by have := G1.lt; omega
  have n4 : ¬ w1.heap.size + 1 = g := by have := G1.lt; omega
  clear hr2 ha2 k2 k12 k02 HB0 K0 K1 HZ0 Hcl Hg
  obtain ⟨⟨a0, a1, a2, a3, a4, a5, a6⟩, f0, f1, f2, f3, f4, f5, f6⟩ := ans_open G1.ab
  obtain ⟨⟨r0, r1, r2, r3, r4, r5, r6⟩, q0, q1, q2, q3, q4, q5, q6⟩ := ans_open G1.rb
  obtain ⟨⟨-, o1, -, -⟩, -⟩ := four_open G1.rwb
  have c1 : W.cell? ⟨g, 1, none⟩ = some (.string a) := G1.cl 1 _ rfl
  have c2 : W.cell? ⟨g, 2, none⟩ = some (.string b) := G1.cl 2 _ rfl
  have HG1 := hide G1
  clear G1
  go_wp2_with fail
  have G9 := (HG1.out.set 4 (.bool (a.toList == [112, 97, 105, 114])))
  refine ans_set (P := bodyPost Tryd.prog _ _ Exit.ret _) G9.rb G9.keep (Nat.le_refl _) (fun w9 hb9 k9 => ?_)
  obtain ⟨⟨d0, d1, d2, d3, d4, d5, d6⟩, -⟩ := ans_open hb9
  refine bodyPost_ret (v := .agg #[.int .i64 9, .int .i64 0, .int .i64 0, .int .i64 0, .bool (a.toList == [112, 97, 105, 114]), .string ⟨#[]⟩, .string ⟨#[]⟩]) (by simp [results, Tryd.results16, go_sem, d0, d1, d2, d3, d4, d5, d6]) rfl ?_
  exact ⟨⟨_, rfl, _, _, _, _, _, _, rfl, ⟨by omega, by omega⟩, ⟨by omega, by omega⟩, ⟨by omega, by omega⟩, Nat.zero_le _, Nat.zero_le _, (by simp only [RGX]; rw [if_neg hne]; simp)⟩, k9⟩
set_option maxRecDepth 100000 in
set_option maxHeartbeats 2000000 in
theorem rg_2_14 (x a b : ByteArray) (ha : a.size ≤ 8388608) (hb : b.size ≤ 8388608) (g cap : Nat) (w : World) (hcl : ∀ j u, ([x, a, b].map Value.string)[j]? = some u → w.cell? ⟨g, j, none⟩ = some u) (op : Int) (hrow : ∀ W, Calls Tryd.prog 27 #[.string x] W fun e w' => (∃ nm f mo kn, e = .returned (.tuple #[.agg #[.string nm, .int .i64 op, .string f, .bool mo], .bool kn])) ∧ Keeps W w' (fun _ => False)) (y0 : (a.toList == [101, 114, 114, 111, 114]) = false) (hne : a ≠ errB) (ho : op = 14) :
    Calls Tryd.prog 16 #[.slice (some ⟨g, 0, none⟩) 3 cap] w fun e w' => (∃ v, e = .returned v ∧ RGuess op [a, b] v) ∧ Keeps w w' (fun _ => False) := by
  subst ho
  have cz := hcl 0 _ rfl
  have hg : g < w.heap.size := by
    simp only [World.cell?] at cz
    cases hh : w.heap[g]? with
    | none => rw [hh] at cz; cases cz
    | some o => exact heap_lt hh
  have HNa := hide (fun W => rnum_any a ha W)
  have HBa := hide (fun W => rbyt_any a ha W)
  have HNb := hide (fun W => rnum_any b hb W)
  have HBb := hide (fun W => rbyt_any b hb W)
  have Hrow := hide hrow
  have Hcl := hide hcl
  have Hg := hide hg
  have kZ : Keeps w (w.alloc (.cells #[.int .i64 0, .int .i64 0, .int .i64 0, .int .i64 0, .bool false, .string ⟨#[]⟩, .string ⟨#[]⟩] 24)) (fun _ => False) := (Keeps.refl _ _).alloc _
  have cz1 := keeps_cell kZ cz
  have KZ := hide kZ
  clear hrow hcl hg kZ cz
  go_enter Tryd.func16, Tryd.ntmps16
  go_wp2_with fail
  refine alloc1 (P := fun W => Calls _ _ _ W _) fun W0 hb0 hz0 k0 => ?_
  (with_reducible refine (Hrow.out W0).mono ?_)
  rintro e w1 ⟨⟨nm, f, mo, kn, rfl⟩, k1⟩
  have HB0 := hide hb0
  have K0 := hide k0
  have K1 := hide k1
  have HZ0 := hide hz0
  clear hb0 k0 k1 hz0 cz1 KZ
  go_upto_region 3 with fail
  refine alloc2 (P := fun W => Code.wp _ _ _ _ W) fun W hr2 ha2 k2 => ?_
  have k12 := K1.out.trans k2 (fun _ _ e => e)
  have k02 := K0.out.trans k12 (fun _ _ e => e)
  have G1 : GR w W w1.heap.size g #[.string nm, .int .i64 14, .string f, .bool mo] [x, a, b] #[.int .i64 14, .int .i64 0, .int .i64 0, .int .i64 0, .bool false, .string ⟨#[]⟩, .string ⟨#[]⟩] := ⟨k02, k12.blk HB0.out, hr2, ha2, fun j u hj => keeps_cell k02 (Hcl.out j u hj), Hg.out, by
    have := K1.out.size
    have := HZ0.out
    omega⟩
  have n1 : ¬ w.heap.size = w1.heap.size + 1 := by have := G1.lt; omega
  have n2 : ¬ w1.heap.size + 1 = w.heap.size := by have := G1.lt; omega
  have n3 : ¬ g = w1.heap.size + 1 := by have := G1.lt; omega
  have n4 : ¬ w1.heap.size + 1 = g := by have := G1.lt; omega
  clear hr2 ha2 k2 k12 k02 HB0 K0 K1 HZ0 Hcl Hg
  obtain ⟨⟨a0, a1, a2, a3, a4, a5, a6⟩, f0, f1, f2, f3, f4, f5, f6⟩ := ans_open G1.ab
  obtain ⟨⟨r0, r1, r2, r3, r4, r5, r6⟩, q0, q1, q2, q3, q4, q5, q6⟩ := ans_open G1.rb
  obtain ⟨⟨-, o1, -, -⟩, -⟩ := four_open G1.rwb
  have c1 : W.cell? ⟨g, 1, none⟩ = some (.string a) := G1.cl 1 _ rfl
  have c2 : W.cell? ⟨g, 2, none⟩ = some (.string b) := G1.cl 2 _ rfl
  have HG1 := hide G1
  clear G1
  go_wp2_with fail
  have G9 := HG1.out
  refine ans_set (P := bodyPost Tryd.prog _ _ Exit.ret _) G9.rb G9.keep (Nat.le_refl _) (fun w9 hb9 k9 => ?_)
  obtain ⟨⟨d0, d1, d2, d3, d4, d5, d6⟩, -⟩ := ans_open hb9
  refine bodyPost_ret (v := .agg #[.int .i64 14, .int .i64 0, .int .i64 0, .int .i64 0, .bool false, .string ⟨#[]⟩, .string ⟨#[]⟩]) (by simp [results, Tryd.results16, go_sem, d0, d1, d2, d3, d4, d5, d6]) rfl ?_
  exact ⟨⟨_, rfl, _, _, _, _, _, _, rfl, ⟨by omega, by omega⟩, ⟨by omega, by omega⟩, ⟨by omega, by omega⟩, Nat.zero_le _, Nat.zero_le _, (by simp only [RGX]; rw [if_neg hne]; simp)⟩, k9⟩
set_option maxRecDepth 100000 in
set_option maxHeartbeats 2000000 in
theorem rg_2_x (x a b : ByteArray) (ha : a.size ≤ 8388608) (hb : b.size ≤ 8388608) (g cap : Nat) (w : World) (hcl : ∀ j u, ([x, a, b].map Value.string)[j]? = some u → w.cell? ⟨g, j, none⟩ = some u) (op : Int) (hrow : ∀ W, Calls Tryd.prog 27 #[.string x] W fun e w' => (∃ nm f mo kn, e = .returned (.tuple #[.agg #[.string nm, .int .i64 op, .string f, .bool mo], .bool kn])) ∧ Keeps W w' (fun _ => False)) (y0 : (a.toList == [101, 114, 114, 111, 114]) = false) (hne : a ≠ errB) (ho : op ≠ 2 ∧ op ≠ 3 ∧ op ≠ 4 ∧ op ≠ 9 ∧ op ≠ 14) :
    Calls Tryd.prog 16 #[.slice (some ⟨g, 0, none⟩) 3 cap] w fun e w' => (∃ v, e = .returned v ∧ RGuess op [a, b] v) ∧ Keeps w w' (fun _ => False) := by
  have o2 : (op == 2) = false := by simp; omega
  have o3 : (op == 3) = false := by simp; omega
  have o4 : (op == 4) = false := by simp; omega
  have o9 : (op == 9) = false := by simp; omega
  have o14 : (op == 14) = false := by simp; omega
  have cz := hcl 0 _ rfl
  have hg : g < w.heap.size := by
    simp only [World.cell?] at cz
    cases hh : w.heap[g]? with
    | none => rw [hh] at cz; cases cz
    | some o => exact heap_lt hh
  have HNa := hide (fun W => rnum_any a ha W)
  have HBa := hide (fun W => rbyt_any a ha W)
  have HNb := hide (fun W => rnum_any b hb W)
  have HBb := hide (fun W => rbyt_any b hb W)
  have Hrow := hide hrow
  have Hcl := hide hcl
  have Hg := hide hg
  have kZ : Keeps w (w.alloc (.cells #[.int .i64 0, .int .i64 0, .int .i64 0, .int .i64 0, .bool false, .string ⟨#[]⟩, .string ⟨#[]⟩] 24)) (fun _ => False) := (Keeps.refl _ _).alloc _
  have cz1 := keeps_cell kZ cz
  have KZ := hide kZ
  clear hrow hcl hg kZ cz
  go_enter Tryd.func16, Tryd.ntmps16
  go_wp2_with fail
  refine alloc1 (P := fun W => Calls _ _ _ W _) fun W0 hb0 hz0 k0 => ?_
  (with_reducible refine (Hrow.out W0).mono ?_)
  rintro e w1 ⟨⟨nm, f, mo, kn, rfl⟩, k1⟩
  have HB0 := hide hb0
  have K0 := hide k0
  have K1 := hide k1
  have HZ0 := hide hz0
  clear hb0 k0 k1 hz0 cz1 KZ
  go_upto_region 3 with fail
  refine alloc2 (P := fun W => Code.wp _ _ _ _ W) fun W hr2 ha2 k2 => ?_
  have k12 := K1.out.trans k2 (fun _ _ e => e)
  have k02 := K0.out.trans k12 (fun _ _ e => e)
  have G1 : GR w W w1.heap.size g #[.string nm, .int .i64 op, .string f, .bool mo] [x, a, b] #[.int .i64 op, .int .i64 0, .int .i64 0, .int .i64 0, .bool false, .string ⟨#[]⟩, .string ⟨#[]⟩] := ⟨k02, k12.blk HB0.out, hr2, ha2, fun j u hj => keeps_cell k02 (Hcl.out j u hj), Hg.out, by
    have := K1.out.size
    have := HZ0.out
    omega⟩
  have n1 : ¬ w.heap.size = w1.heap.size + 1 := by have := G1.lt; omega
  have n2 : ¬ w1.heap.size + 1 = w.heap.size := by have := G1.lt; omega
  have n3 : ¬ g = w1.heap.size + 1 := by have := G1.lt; omega
  have n4 : ¬ w1.heap.size + 1 = g := by have := G1.lt; omega
  clear hr2 ha2 k2 k12 k02 HB0 K0 K1 HZ0 Hcl Hg
  obtain ⟨⟨a0, a1, a2, a3, a4, a5, a6⟩, f0, f1, f2, f3, f4, f5, f6⟩ := ans_open G1.ab
  obtain ⟨⟨r0, r1, r2, r3, r4, r5, r6⟩, q0, q1, q2, q3, q4, q5, q6⟩ := ans_open G1.rb
  obtain ⟨⟨-, o1, -, -⟩, -⟩ := four_open G1.rwb
  have c1 : W.cell? ⟨g, 1, none⟩ = some (.string a) := G1.cl 1 _ rfl
  have c2 : W.cell? ⟨g, 2, none⟩ = some (.string b) := G1.cl 2 _ rfl
  have HG1 := hide G1
  clear G1
  go_wp2_with fail
  (with_reducible refine (HNa.out _).mono ?_)
  rintro e w2 ⟨⟨v2, er2, rfl, hv2⟩, rfl⟩
  have HV2 := hide hv2
  clear hv2
  go_wp2_with fail
  have G9 := (HG1.out.set 2 (.int .i64 v2))
  refine ans_set (P := bodyPost Tryd.prog _ _ Exit.ret _) G9.rb G9.keep (Nat.le_refl _) (fun w9 hb9 k9 => ?_)
  obtain ⟨⟨d0, d1, d2, d3, d4, d5, d6⟩, -⟩ := ans_open hb9
  refine bodyPost_ret (v := .agg #[.int .i64 op, .int .i64 0, .int .i64 v2, .int .i64 0, .bool false, .string ⟨#[]⟩, .string ⟨#[]⟩]) (by simp [results, Tryd.results16, go_sem, d0, d1, d2, d3, d4, d5, d6]) rfl ?_
  exact ⟨⟨_, rfl, _, _, _, _, _, _, rfl, ⟨by omega, by omega⟩, HV2.out.1, ⟨by omega, by omega⟩, Nat.zero_le _, Nat.zero_le _, (by simp only [RGX]; rw [if_neg hne]; obtain ⟨o2, o3, o4, o9, o14⟩ := ho; refine ⟨by trivial, ?_⟩; rw [if_neg o2, if_neg o3, if_neg o4, if_neg o9, if_neg o14]; exact ⟨HV2.out, by trivial, by trivial, by trivial, by trivial⟩)⟩, k9⟩
set_option maxRecDepth 100000 in
set_option maxHeartbeats 2000000 in
theorem rg_3_2 (x a b c : ByteArray) (r : List ByteArray) (ha : a.size ≤ 8388608) (hb : b.size ≤ 8388608) (hc : c.size ≤ 8388608) (g cap : Nat) (m : Nat) (hm : 3 < m) (w : World) (hcl : ∀ j u, ((x :: a :: b :: c :: r).map Value.string)[j]? = some u → w.cell? ⟨g, j, none⟩ = some u) (op : Int) (hrow : ∀ W, Calls Tryd.prog 27 #[.string x] W fun e w' => (∃ nm f mo kn, e = .returned (.tuple #[.agg #[.string nm, .int .i64 op, .string f, .bool mo], .bool kn])) ∧ Keeps W w' (fun _ => False)) (ho : op = 2) :
    Calls Tryd.prog 16 #[.slice (some ⟨g, 0, none⟩) m cap] w fun e w' => (∃ v, e = .returned v ∧ RGuess op (a :: b :: c :: r) v) ∧ Keeps w w' (fun _ => False) := by
  subst ho
  have cz := hcl 0 _ rfl
  have hg : g < w.heap.size := by
    simp only [World.cell?] at cz
    cases hh : w.heap[g]? with
    | none => rw [hh] at cz; cases cz
    | some o => exact heap_lt hh
  have HNa := hide (fun W => rnum_any a ha W)
  have HBa := hide (fun W => rbyt_any a ha W)
  have HNb := hide (fun W => rnum_any b hb W)
  have HBb := hide (fun W => rbyt_any b hb W)
  have HNc := hide (fun W => rnum_any c hc W)
  have HBc := hide (fun W => rbyt_any c hc W)
  have m1 : ((m : Int) == 3) = false := by rw [beq_eq_false_iff_ne]; omega
  have m2 : ¬ (m : Int) < 2 := by omega
  have m3 : (2 : Int) < (m : Int) := by omega
  have m4 : (3 : Int) < (m : Int) := by omega
  have m5 : (1 : Int) < (m : Int) := by omega
  have m6 : (0 : Int) < (m : Int) := by omega
  have Hrow := hide hrow
  have Hcl := hide hcl
  have Hg := hide hg
  have kZ : Keeps w (w.alloc (.cells #[.int .i64 0, .int .i64 0, .int .i64 0, .int .i64 0, .bool false, .string ⟨#[]⟩, .string ⟨#[]⟩] 24)) (fun _ => False) := (Keeps.refl _ _).alloc _
  have cz1 := keeps_cell kZ cz
  have KZ := hide kZ
  clear hrow hcl hg kZ cz
  go_enter Tryd.func16, Tryd.ntmps16
  go_wp2_with fail
  refine alloc1 (P := fun W => Calls _ _ _ W _) fun W0 hb0 hz0 k0 => ?_
  (with_reducible refine (Hrow.out W0).mono ?_)
  rintro e w1 ⟨⟨nm, f, mo, kn, rfl⟩, k1⟩
  have HB0 := hide hb0
  have K0 := hide k0
  have K1 := hide k1
  have HZ0 := hide hz0
  clear hb0 k0 k1 hz0 cz1 KZ
  go_upto_region 3 with fail
  refine alloc2 (P := fun W => Code.wp _ _ _ _ W) fun W hr2 ha2 k2 => ?_
  have k12 := K1.out.trans k2 (fun _ _ e => e)
  have k02 := K0.out.trans k12 (fun _ _ e => e)
  have G1 : GR w W w1.heap.size g #[.string nm, .int .i64 2, .string f, .bool mo] (x :: a :: b :: c :: r) #[.int .i64 2, .int .i64 0, .int .i64 0, .int .i64 0, .bool false, .string ⟨#[]⟩, .string ⟨#[]⟩] := ⟨k02, k12.blk HB0.out, hr2, ha2, fun j u hj => keeps_cell k02 (Hcl.out j u hj), Hg.out, by
    have := K1.out.size
    have := HZ0.out
    omega⟩
  have n1 : ¬ w.heap.size = w1.heap.size + 1 := by have := G1.lt; omega
  have n2 : ¬ w1.heap.size + 1 = w.heap.size := by have := G1.lt; omega
  have n3 : ¬ g = w1.heap.size + 1 := by have := G1.lt; omega
  have n4 : ¬ w1.heap.size + 1 = g := by have := G1.lt; omega
  clear hr2 ha2 k2 k12 k02 HB0 K0 K1 HZ0 Hcl Hg
  obtain ⟨⟨a0, a1, a2, a3, a4, a5, a6⟩, f0, f1, f2, f3, f4, f5, f6⟩ := ans_open G1.ab
  obtain ⟨⟨r0, r1, r2, r3, r4, r5, r6⟩, q0, q1, q2, q3, q4, q5, q6⟩ := ans_open G1.rb
  obtain ⟨⟨-, o1, -, -⟩, -⟩ := four_open G1.rwb
  have c1 : W.cell? ⟨g, 1, none⟩ = some (.string a) := G1.cl 1 _ rfl
  have c2 : W.cell? ⟨g, 2, none⟩ = some (.string b) := G1.cl 2 _ rfl
  have c3 : W.cell? ⟨g, 3, none⟩ = some (.string c) := G1.cl 3 _ rfl
  have HG1 := hide G1
  clear G1
  go_wp2_with fail
  (with_reducible refine (HBb.out _).mono ?_)
  rintro e w2 ⟨⟨er2, rfl⟩, k2⟩
  have G2 : GR w w2 w1.heap.size g #[.string nm, .int .i64 2, .string f, .bool mo] (x :: a :: b :: c :: r) #[.int .i64 2, .int .i64 0, .int .i64 0, .int .i64 0, .bool (a.toList == [121, 101, 115]), .string ⟨#[]⟩, .string ⟨#[]⟩] := (HG1.out.set 4 (.bool (a.toList == [121, 101, 115]))).stay k2
  clear a0 a1 a2 a3 a4 a5 a6 f0 f1 f2 f3 f4 f5 f6 r0 r1 r2 r3 r4 r5 r6 q0 q1 q2 q3 q4 q5 q6 o1 c1 c2 c3
  clear k2
  obtain ⟨⟨a0, a1, a2, a3, a4, a5, a6⟩, f0, f1, f2, f3, f4, f5, f6⟩ := ans_open G2.ab
  obtain ⟨⟨r0, r1, r2, r3, r4, r5, r6⟩, q0, q1, q2, q3, q4, q5, q6⟩ := ans_open G2.rb
  obtain ⟨⟨-, o1, -, -⟩, -⟩ := four_open G2.rwb
  have c1 : w2.cell? ⟨g, 1, none⟩ = some (.string a) := G2.cl 1 _ rfl
  have c2 : w2.cell? ⟨g, 2, none⟩ = some (.string b) := G2.cl 2 _ rfl
  have c3 : w2.cell? ⟨g, 3, none⟩ = some (.string c) := G2.cl 3 _ rfl
  have HG2 := hide G2
  clear G2
  go_wp2_with fail
  have G9 := (HG2.out.set 6 (.string (bytD b).1))
  refine ans_set (P := bodyPost Tryd.prog _ _ Exit.ret _) G9.rb G9.keep (Nat.le_refl _) (fun w9 hb9 k9 => ?_)
  obtain ⟨⟨d0, d1, d2, d3, d4, d5, d6⟩, -⟩ := ans_open hb9
  refine bodyPost_ret (v := .agg #[.int .i64 2, .int .i64 0, .int .i64 0, .int .i64 0, .bool (a.toList == [121, 101, 115]), .string ⟨#[]⟩, .string (bytD b).1]) (by simp [results, Tryd.results16, go_sem, d0, d1, d2, d3, d4, d5, d6]) rfl ?_
  exact ⟨⟨_, rfl, _, _, _, _, _, _, rfl, ⟨by omega, by omega⟩, ⟨by omega, by omega⟩, ⟨by omega, by omega⟩, Nat.zero_le _, Nat.le_trans (bytD_small b) hb, (by unfold RGX; simp)⟩, k9⟩
set_option maxRecDepth 100000 in
set_option maxHeartbeats 2000000 in
theorem rg_3_3 (x a b c : ByteArray) (r : List ByteArray) (ha : a.size ≤ 8388608) (hb : b.size ≤ 8388608) (hc : c.size ≤ 8388608) (g cap : Nat) (m : Nat) (hm : 3 < m) (w : World) (hcl : ∀ j u, ((x :: a :: b :: c :: r).map Value.string)[j]? = some u → w.cell? ⟨g, j, none⟩ = some u) (op : Int) (hrow : ∀ W, Calls Tryd.prog 27 #[.string x] W fun e w' => (∃ nm f mo kn, e = .returned (.tuple #[.agg #[.string nm, .int .i64 op, .string f, .bool mo], .bool kn])) ∧ Keeps W w' (fun _ => False)) (ho : op = 3) :
    Calls Tryd.prog 16 #[.slice (some ⟨g, 0, none⟩) m cap] w fun e w' => (∃ v, e = .returned v ∧ RGuess op (a :: b :: c :: r) v) ∧ Keeps w w' (fun _ => False) := by
  subst ho
  have cz := hcl 0 _ rfl
  have hg : g < w.heap.size := by
    simp only [World.cell?] at cz
    cases hh : w.heap[g]? with
    | none => rw [hh] at cz; cases cz
    | some o => exact heap_lt hh
  have HNa := hide (fun W => rnum_any a ha W)
  have HBa := hide (fun W => rbyt_any a ha W)
  have HNb := hide (fun W => rnum_any b hb W)
  have HBb := hide (fun W => rbyt_any b hb W)
  have HNc := hide (fun W => rnum_any c hc W)
  have HBc := hide (fun W => rbyt_any c hc W)
  have m1 : ((m : Int) == 3) = false := by rw [beq_eq_false_iff_ne]; omega
  have m2 : ¬ (m : Int) < 2 := by omega
  have m3 : (2 : Int) < (m : Int) := by omega
  have m4 : (3 : Int) < (m : Int) := by omega
  have m5 : (1 : Int) < (m : Int) := by omega
  have m6 : (0 : Int) < (m : Int) := by omega
  have Hrow := hide hrow
  have Hcl := hide hcl
  have Hg := hide hg
  have kZ : Keeps w (w.alloc (.cells #[.int .i64 0, .int .i64 0, .int .i64 0, .int .i64 0, .bool false, .string ⟨#[]⟩, .string ⟨#[]⟩] 24)) (fun _ => False) := (Keeps.refl _ _).alloc _
  have cz1 := keeps_cell kZ cz
  have KZ := hide kZ
  clear hrow hcl hg kZ cz
  go_enter Tryd.func16, Tryd.ntmps16
  go_wp2_with fail
  refine alloc1 (P := fun W => Calls _ _ _ W _) fun W0 hb0 hz0 k0 => ?_
  (with_reducible refine (Hrow.out W0).mono ?_)
  rintro e w1 ⟨⟨nm, f, mo, kn, rfl⟩, k1⟩
  have HB0 := hide hb0
  have K0 := hide k0
  have K1 := hide k1
  have HZ0 := hide hz0
  clear hb0 k0 k1 hz0 cz1 KZ
  go_upto_region 3 with fail
  refine alloc2 (P := fun W => Code.wp _ _ _ _ W) fun W hr2 ha2 k2 => ?_
  have k12 := K1.out.trans k2 (fun _ _ e => e)
  have k02 := K0.out.trans k12 (fun _ _ e => e)
  have G1 : GR w W w1.heap.size g #[.string nm, .int .i64 3, .string f, .bool mo] (x :: a :: b :: c :: r) #[.int .i64 3, .int .i64 0, .int .i64 0, .int .i64 0, .bool false, .string ⟨#[]⟩, .string ⟨#[]⟩] := ⟨k02, k12.blk HB0.out, hr2, ha2, fun j u hj => keeps_cell k02 (Hcl.out j u hj), Hg.out, by
    have := K1.out.size
    have := HZ0.out
    omega⟩
  have n1 : ¬ w.heap.size = w1.heap.size + 1 := by have := G1.lt; omega
  have n2 : ¬ w1.heap.size + 1 = w.heap.size := by have := G1.lt; omega
  have n3 : ¬ g = w1.heap.size + 1 := by have := G1.lt; omega
  have n4 : ¬ w1.heap.size + 1 = g := by have := G1.lt; omega
  clear hr2 ha2 k2 k12 k02 HB0 K0 K1 HZ0 Hcl Hg
  obtain ⟨⟨a0, a1, a2, a3, a4, a5, a6⟩, f0, f1, f2, f3, f4, f5, f6⟩ := ans_open G1.ab
  obtain ⟨⟨r0, r1, r2, r3, r4, r5, r6⟩, q0, q1, q2, q3, q4, q5, q6⟩ := ans_open G1.rb
  obtain ⟨⟨-, o1, -, -⟩, -⟩ := four_open G1.rwb
  have c1 : W.cell? ⟨g, 1, none⟩ = some (.string a) := G1.cl 1 _ rfl
  have c2 : W.cell? ⟨g, 2, none⟩ = some (.string b) := G1.cl 2 _ rfl
  have c3 : W.cell? ⟨g, 3, none⟩ = some (.string c) := G1.cl 3 _ rfl
  have HG1 := hide G1
  clear G1
  go_wp2_with fail
  have G9 := (HG1.out.set 4 (.bool (a.toList == [110, 101, 119])))
  refine ans_set (P := bodyPost Tryd.prog _ _ Exit.ret _) G9.rb G9.keep (Nat.le_refl _) (fun w9 hb9 k9 => ?_)
  obtain ⟨⟨d0, d1, d2, d3, d4, d5, d6⟩, -⟩ := ans_open hb9
  refine bodyPost_ret (v := .agg #[.int .i64 3, .int .i64 0, .int .i64 0, .int .i64 0, .bool (a.toList == [110, 101, 119]), .string ⟨#[]⟩, .string ⟨#[]⟩]) (by simp [results, Tryd.results16, go_sem, d0, d1, d2, d3, d4, d5, d6]) rfl ?_
  exact ⟨⟨_, rfl, _, _, _, _, _, _, rfl, ⟨by omega, by omega⟩, ⟨by omega, by omega⟩, ⟨by omega, by omega⟩, Nat.zero_le _, Nat.zero_le _, (by unfold RGX; simp)⟩, k9⟩
set_option maxRecDepth 100000 in
set_option maxHeartbeats 2000000 in
theorem rg_3_4 (x a b c : ByteArray) (r : List ByteArray) (ha : a.size ≤ 8388608) (hb : b.size ≤ 8388608) (hc : c.size ≤ 8388608) (g cap : Nat) (m : Nat) (hm : 3 < m) (w : World) (hcl : ∀ j u, ((x :: a :: b :: c :: r).map Value.string)[j]? = some u → w.cell? ⟨g, j, none⟩ = some u) (op : Int) (hrow : ∀ W, Calls Tryd.prog 27 #[.string x] W fun e w' => (∃ nm f mo kn, e = .returned (.tuple #[.agg #[.string nm, .int .i64 op, .string f, .bool mo], .bool kn])) ∧ Keeps W w' (fun _ => False)) (ho : op = 4) :
    Calls Tryd.prog 16 #[.slice (some ⟨g, 0, none⟩) m cap] w fun e w' => (∃ v, e = .returned v ∧ RGuess op (a :: b :: c :: r) v) ∧ Keeps w w' (fun _ => False) := by
  subst ho
  have cz := hcl 0 _ rfl
  have hg : g < w.heap.size := by
    simp only [World.cell?] at cz
    cases hh : w.heap[g]? with
    | none => rw [hh] at cz; cases cz
    | some o => exact heap_lt hh
  have HNa := hide (fun W => rnum_any a ha W)
  have HBa := hide (fun W => rbyt_any a ha W)
  have HNb := hide (fun W => rnum_any b hb W)
  have HBb := hide (fun W => rbyt_any b hb W)
  have HNc := hide (fun W => rnum_any c hc W)
  have HBc := hide (fun W => rbyt_any c hc W)
  have m1 : ((m : Int) == 3) = false := by rw [beq_eq_false_iff_ne]; omega
  have m2 : ¬ (m : Int) < 2 := by omega
  have m3 : (2 : Int) < (m : Int) := by omega
  have m4 : (3 : Int) < (m : Int) := by omega
  have m5 : (1 : Int) < (m : Int) := by omega
  have m6 : (0 : Int) < (m : Int) := by omega
  have Hrow := hide hrow
  have Hcl := hide hcl
  have Hg := hide hg
  have kZ : Keeps w (w.alloc (.cells #[.int .i64 0, .int .i64 0, .int .i64 0, .int .i64 0, .bool false, .string ⟨#[]⟩, .string ⟨#[]⟩] 24)) (fun _ => False) := (Keeps.refl _ _).alloc _
  have cz1 := keeps_cell kZ cz
  have KZ := hide kZ
  clear hrow hcl hg kZ cz
  go_enter Tryd.func16, Tryd.ntmps16
  go_wp2_with fail
  refine alloc1 (P := fun W => Calls _ _ _ W _) fun W0 hb0 hz0 k0 => ?_
  (with_reducible refine (Hrow.out W0).mono ?_)
  rintro e w1 ⟨⟨nm, f, mo, kn, rfl⟩, k1⟩
  have HB0 := hide hb0
  have K0 := hide k0
  have K1 := hide k1
  have HZ0 := hide hz0
  clear hb0 k0 k1 hz0 cz1 KZ
  go_upto_region 3 with fail
  refine alloc2 (P := fun W => Code.wp _ _ _ _ W) fun W hr2 ha2 k2 => ?_
  have k12 := K1.out.trans k2 (fun _ _ e => e)
  have k02 := K0.out.trans k12 (fun _ _ e => e)
  have G1 : GR w W w1.heap.size g #[.string nm, .int .i64 4, .string f, .bool mo] (x :: a :: b :: c :: r) #[.int .i64 4, .int .i64 0, .int .i64 0, .int .i64 0, .bool false, .string ⟨#[]⟩, .string ⟨#[]⟩] := ⟨k02, k12.blk HB0.out, hr2, ha2, fun j u hj => keeps_cell k02 (Hcl.out j u hj), Hg.out, by
    have := K1.out.size
    have := HZ0.out
    omega⟩
  have n1 : ¬ w.heap.size = w1.heap.size + 1 := by have := G1.lt; omega
  have n2 : ¬ w1.heap.size + 1 = w.heap.size := by have := G1.lt; omega
  have n3 : ¬ g = w1.heap.size + 1 := by have := G1.lt; omega
  have n4 : ¬ w1.heap.size + 1 = g := by have := G1.lt; omega
  clear hr2 ha2 k2 k12 k02 HB0 K0 K1 HZ0 Hcl Hg
  obtain ⟨⟨a0, a1, a2, a3, a4, a5, a6⟩, f0, f1, f2, f3, f4, f5, f6⟩ := ans_open G1.ab
  obtain ⟨⟨r0, r1, r2, r3, r4, r5, r6⟩, q0, q1, q2, q3, q4, q5, q6⟩ := ans_open G1.rb
  obtain ⟨⟨-, o1, -, -⟩, -⟩ := four_open G1.rwb
  have c1 : W.cell? ⟨g, 1, none⟩ = some (.string a) := G1.cl 1 _ rfl
  have c2 : W.cell? ⟨g, 2, none⟩ = some (.string b) := G1.cl 2 _ rfl
  have c3 : W.cell? ⟨g, 3, none⟩ = some (.string c) := G1.cl 3 _ rfl
  have HG1 := hide G1
  clear G1
  go_wp2_with fail
  have G9 := (HG1.out.set 4 (.bool (a.toList == [121, 101, 115])))
  refine ans_set (P := bodyPost Tryd.prog _ _ Exit.ret _) G9.rb G9.keep (Nat.le_refl _) (fun w9 hb9 k9 => ?_)
  obtain ⟨⟨d0, d1, d2, d3, d4, d5, d6⟩, -⟩ := ans_open hb9
  refine bodyPost_ret (v := .agg #[.int .i64 4, .int .i64 0, .int .i64 0, .int .i64 0, .bool (a.toList == [121, 101, 115]), .string ⟨#[]⟩, .string ⟨#[]⟩]) (by simp [results, Tryd.results16, go_sem, d0, d1, d2, d3, d4, d5, d6]) rfl ?_
  exact ⟨⟨_, rfl, _, _, _, _, _, _, rfl, ⟨by omega, by omega⟩, ⟨by omega, by omega⟩, ⟨by omega, by omega⟩, Nat.zero_le _, Nat.zero_le _, (by unfold RGX; simp)⟩, k9⟩
set_option maxRecDepth 100000 in
set_option maxHeartbeats 2000000 in
theorem rg_3_9 (x a b c : ByteArray) (r : List ByteArray) (ha : a.size ≤ 8388608) (hb : b.size ≤ 8388608) (hc : c.size ≤ 8388608) (g cap : Nat) (m : Nat) (hm : 3 < m) (w : World) (hcl : ∀ j u, ((x :: a :: b :: c :: r).map Value.string)[j]? = some u → w.cell? ⟨g, j, none⟩ = some u) (op : Int) (hrow : ∀ W, Calls Tryd.prog 27 #[.string x] W fun e w' => (∃ nm f mo kn, e = .returned (.tuple #[.agg #[.string nm, .int .i64 op, .string f, .bool mo], .bool kn])) ∧ Keeps W w' (fun _ => False)) (ho : op = 9) :
    Calls Tryd.prog 16 #[.slice (some ⟨g, 0, none⟩) m cap] w fun e w' => (∃ v, e = .returned v ∧ RGuess op (a :: b :: c :: r) v) ∧ Keeps w w' (fun _ => False) := by
  subst ho
  have cz := hcl 0 _ rfl
  have hg : g < w.heap.size := by
    simp only [World.cell?] at cz
    cases hh : w.heap[g]? with
    | none => rw [hh] at cz; cases cz
    | some o => exact heap_lt hh
  have HNa := hide (fun W => rnum_any a ha W)
  have HBa := hide (fun W => rbyt_any a ha W)
  have HNb := hide (fun W => rnum_any b hb W)
  have HBb := hide (fun W => rbyt_any b hb W)
  have HNc := hide (fun W => rnum_any c hc W)
  have HBc := hide (fun W => rbyt_any c hc W)
  have m1 : ((m : Int) == 3) = false := by rw [beq_eq_false_iff_ne]; omega
  have m2 : ¬ (m : Int) < 2 := by omega
  have m3 : (2 : Int) < (m : Int) := by omega
  have m4 : (3 : Int) < (m : Int) := by omega
  have m5 : (1 : Int) < (m : Int) := by omega
  have m6 : (0 : Int) < (m : Int) := by omega
  have Hrow := hide hrow
  have Hcl := hide hcl
  have Hg := hide hg
  have kZ : Keeps w (w.alloc (.cells #[.int .i64 0, .int .i64 0, .int .i64 0, .int .i64 0, .bool false, .string ⟨#[]⟩, .string ⟨#[]⟩] 24)) (fun _ => False) := (Keeps.refl _ _).alloc _
  have cz1 := keeps_cell kZ cz
  have KZ := hide kZ
  clear hrow hcl hg kZ cz
  go_enter Tryd.func16, Tryd.ntmps16
  go_wp2_with fail
  refine alloc1 (P := fun W => Calls _ _ _ W _) fun W0 hb0 hz0 k0 => ?_
  (with_reducible refine (Hrow.out W0).mono ?_)
  rintro e w1 ⟨⟨nm, f, mo, kn, rfl⟩, k1⟩
  have HB0 := hide hb0
  have K0 := hide k0
  have K1 := hide k1
  have HZ0 := hide hz0
  clear hb0 k0 k1 hz0 cz1 KZ
  go_upto_region 3 with fail
  refine alloc2 (P := fun W => Code.wp _ _ _ _ W) fun W hr2 ha2 k2 => ?_
  have k12 := K1.out.trans k2 (fun _ _ e => e)
  have k02 := K0.out.trans k12 (fun _ _ e => e)
  have G1 : GR w W w1.heap.size g #[.string nm, .int .i64 9, .string f, .bool mo] (x :: a :: b :: c :: r) #[.int .i64 9, .int .i64 0, .int .i64 0, .int .i64 0, .bool false, .string ⟨#[]⟩, .string ⟨#[]⟩] := ⟨k02, k12.blk HB0.out, hr2, ha2, fun j u hj => keeps_cell k02 (Hcl.out j u hj), Hg.out, by
    have := K1.out.size
    have := HZ0.out
    omega⟩
  have n1 : ¬ w.heap.size = w1.heap.size + 1 := by have := G1.lt; omega
  have n2 : ¬ w1.heap.size + 1 = w.heap.size := by have := G1.lt; omega
  have n3 : ¬ g = w1.heap.size + 1 := by have := G1.lt; omega
  have n4 : ¬ w1.heap.size + 1 = g := by have := G1.lt; omega
  clear hr2 ha2 k2 k12 k02 HB0 K0 K1 HZ0 Hcl Hg
  obtain ⟨⟨a0, a1, a2, a3, a4, a5, a6⟩, f0, f1, f2, f3, f4, f5, f6⟩ := ans_open G1.ab
  obtain ⟨⟨r0, r1, r2, r3, r4, r5, r6⟩, q0, q1, q2, q3, q4, q5, q6⟩ := ans_open G1.rb
  obtain ⟨⟨-, o1, -, -⟩, -⟩ := four_open G1.rwb
  have c1 : W.cell? ⟨g, 1, none⟩ = some (.string a) := G1.cl 1 _ rfl
  have c2 : W.cell? ⟨g, 2, none⟩ = some (.string b) := G1.cl 2 _ rfl
  have c3 : W.cell? ⟨g, 3, none⟩ = some (.string c) := G1.cl 3 _ rfl
  have HG1 := hide G1
  clear G1
  go_wp2_with fail
  (with_reducible refine (HBb.out _).mono ?_)
  rintro e w2 ⟨⟨er2, rfl⟩, k2⟩
  have G2 : GR w w2 w1.heap.size g #[.string nm, .int .i64 9, .string f, .bool mo] (x :: a :: b :: c :: r) #[.int .i64 9, .int .i64 0, .int .i64 0, .int .i64 0, .bool (a.toList == [112, 97, 105, 114]), .string ⟨#[]⟩, .string ⟨#[]⟩] := (HG1.out.set 4 (.bool (a.toList == [112, 97, 105, 114]))).stay k2
  clear a0 a1 a2 a3 a4 a5 a6 f0 f1 f2 f3 f4 f5 f6 r0 r1 r2 r3 r4 r5 r6 q0 q1 q2 q3 q4 q5 q6 o1 c1 c2 c3
  clear k2
  obtain ⟨⟨a0, a1, a2, a3, a4, a5, a6⟩, f0, f1, f2, f3, f4, f5, f6⟩ := ans_open G2.ab
  obtain ⟨⟨r0, r1, r2, r3, r4, r5, r6⟩, q0, q1, q2, q3, q4, q5, q6⟩ := ans_open G2.rb
  obtain ⟨⟨-, o1, -, -⟩, -⟩ := four_open G2.rwb
  have c1 : w2.cell? ⟨g, 1, none⟩ = some (.string a) := G2.cl 1 _ rfl
  have c2 : w2.cell? ⟨g, 2, none⟩ = some (.string b) := G2.cl 2 _ rfl
  have c3 : w2.cell? ⟨g, 3, none⟩ = some (.string c) := G2.cl 3 _ rfl
  have HG2 := hide G2
  clear G2
  go_wp2_with fail
  (with_reducible refine (HBc.out _).mono ?_)
  rintro e w3 ⟨⟨er3, rfl⟩, k3⟩
  have G3 : GR w w3 w1.heap.size g #[.string nm, .int .i64 9, .string f, .bool mo] (x :: a :: b :: c :: r) #[.int .i64 9, .int .i64 0, .int .i64 0, .int .i64 0, .bool (a.toList == [112, 97, 105, 114]), .string (bytD b).1, .string ⟨#[]⟩] := (HG2.out.set 5 (.string (bytD b).1)).stay k3
  clear a0 a1 a2 a3 a4 a5 a6 f0 f1 f2 f3 f4 f5 f6 r0 r1 r2 r3 r4 r5 r6 q0 q1 q2 q3 q4 q5 q6 o1 c1 c2 c3
  clear k3
  obtain ⟨⟨a0, a1, a2, a3, a4, a5, a6⟩, f0, f1, f2, f3, f4, f5, f6⟩ := ans_open G3.ab
  obtain ⟨⟨r0, r1, r2, r3, r4, r5, r6⟩, q0, q1, q2, q3, q4, q5, q6⟩ := ans_open G3.rb
  obtain ⟨⟨-, o1, -, -⟩, -⟩ := four_open G3.rwb
  have c1 : w3.cell? ⟨g, 1, none⟩ = some (.string a) := G3.cl 1 _ rfl
  have c2 : w3.cell? ⟨g, 2, none⟩ = some (.string b) := G3.cl 2 _ rfl
  have c3 : w3.cell? ⟨g, 3, none⟩ = some (.string c) := G3.cl 3 _ rfl
  have HG3 := hide G3
  clear G3
  go_wp2_with fail
  have G9 := (HG3.out.set 6 (.string (bytD c).1))
  refine ans_set (P := bodyPost Tryd.prog _ _ Exit.ret _) G9.rb G9.keep (Nat.le_refl _) (fun w9 hb9 k9 => ?_)
  obtain ⟨⟨d0, d1, d2, d3, d4, d5, d6⟩, -⟩ := ans_open hb9
  refine bodyPost_ret (v := .agg #[.int .i64 9, .int .i64 0, .int .i64 0, .int .i64 0, .bool (a.toList == [112, 97, 105, 114]), .string (bytD b).1, .string (bytD c).1]) (by simp [results, Tryd.results16, go_sem, d0, d1, d2, d3, d4, d5, d6]) rfl ?_
  exact ⟨⟨_, rfl, _, _, _, _, _, _, rfl, ⟨by omega, by omega⟩, ⟨by omega, by omega⟩, ⟨by omega, by omega⟩, Nat.le_trans (bytD_small b) hb, Nat.le_trans (bytD_small c) hc, (by unfold RGX; simp)⟩, k9⟩
set_option maxRecDepth 100000 in
set_option maxHeartbeats 2000000 in
theorem rg_3_14 (x a b c : ByteArray) (r : List ByteArray) (ha : a.size ≤ 8388608) (hb : b.size ≤ 8388608) (hc : c.size ≤ 8388608) (g cap : Nat) (m : Nat) (hm : 3 < m) (w : World) (hcl : ∀ j u, ((x :: a :: b :: c :: r).map Value.string)[j]? = some u → w.cell? ⟨g, j, none⟩ = some u) (op : Int) (hrow : ∀ W, Calls Tryd.prog 27 #[.string x] W fun e w' => (∃ nm f mo kn, e = .returned (.tuple #[.agg #[.string nm, .int .i64 op, .string f, .bool mo], .bool kn])) ∧ Keeps W w' (fun _ => False)) (ho : op = 14) :
    Calls Tryd.prog 16 #[.slice (some ⟨g, 0, none⟩) m cap] w fun e w' => (∃ v, e = .returned v ∧ RGuess op (a :: b :: c :: r) v) ∧ Keeps w w' (fun _ => False) := by
  subst ho
  have cz := hcl 0 _ rfl
  have hg : g < w.heap.size := by
    simp only [World.cell?] at cz
    cases hh : w.heap[g]? with
    | none => rw [hh] at cz; cases cz
    | some o => exact heap_lt hh
  have HNa := hide (fun W => rnum_any a ha W)
  have HBa := hide (fun W => rbyt_any a ha W)
  have HNb := hide (fun W => rnum_any b hb W)
  have HBb := hide (fun W => rbyt_any b hb W)
  have HNc := hide (fun W => rnum_any c hc W)
  have HBc := hide (fun W => rbyt_any c hc W)
  have m1 : ((m : Int) == 3) = false := by rw [beq_eq_false_iff_ne]; omega
  have m2 : ¬ (m : Int) < 2 := by omega
  have m3 : (2 : Int) < (m : Int) := by omega
  have m4 : (3 : Int) < (m : Int) := by omega
  have m5 : (1 : Int) < (m : Int) := by omega
  have m6 : (0 : Int) < (m : Int) := by omega
  have Hrow := hide hrow
  have Hcl := hide hcl
  have Hg := hide hg
  have kZ : Keeps w (w.alloc (.cells #[.int .i64 0, .int .i64 0, .int .i64 0, .int .i64 0, .bool false, .string ⟨#[]⟩, .string ⟨#[]⟩] 24)) (fun _ => False) := (Keeps.refl _ _).alloc _
  have cz1 := keeps_cell kZ cz
  have KZ := hide kZ
  clear hrow hcl hg kZ cz
  go_enter Tryd.func16, Tryd.ntmps16
  go_wp2_with fail
  refine alloc1 (P := fun W => Calls _ _ _ W _) fun W0 hb0 hz0 k0 => ?_
  (with_reducible refine (Hrow.out W0).mono ?_)
  rintro e w1 ⟨⟨nm, f, mo, kn, rfl⟩, k1⟩
  have HB0 := hide hb0
  have K0 := hide k0
  have K1 := hide k1
  have HZ0 := hide hz0
  clear hb0 k0 k1 hz0 cz1 KZ
  go_upto_region 3 with fail
  refine alloc2 (P := fun W => Code.wp _ _ _ _ W) fun W hr2 ha2 k2 => ?_
  have k12 := K1.out.trans k2 (fun _ _ e => e)
  have k02 := K0.out.trans k12 (fun _ _ e => e)
  have G1 : GR w W w1.heap.size g #[.string nm, .int .i64 14, .string f, .bool mo] (x :: a :: b :: c :: r) #[.int .i64 14, .int .i64 0, .int .i64 0, .int .i64 0, .bool false, .string ⟨#[]⟩, .string ⟨#[]⟩] := ⟨k02, k12.blk HB0.out, hr2, ha2, fun j u hj => keeps_cell k02 (Hcl.out j u hj), Hg.out, by
    have := K1.out.size
    have := HZ0.out
    omega⟩
  have n1 : ¬ w.heap.size = w1.heap.size + 1 := by have := G1.lt; omega
  have n2 : ¬ w1.heap.size + 1 = w.heap.size := by have := G1.lt; omega
  have n3 : ¬ g = w1.heap.size + 1 := by have := G1.lt; omega
  have n4 : ¬ w1.heap.size + 1 = g := by have := G1.lt; omega
  clear hr2 ha2 k2 k12 k02 HB0 K0 K1 HZ0 Hcl Hg
  obtain ⟨⟨a0, a1, a2, a3, a4, a5, a6⟩, f0, f1, f2, f3, f4, f5, f6⟩ := ans_open G1.ab
  obtain ⟨⟨r0, r1, r2, r3, r4, r5, r6⟩, q0, q1, q2, q3, q4, q5, q6⟩ := ans_open G1.rb
  obtain ⟨⟨-, o1, -, -⟩, -⟩ := four_open G1.rwb
  have c1 : W.cell? ⟨g, 1, none⟩ = some (.string a) := G1.cl 1 _ rfl
  have c2 : W.cell? ⟨g, 2, none⟩ = some (.string b) := G1.cl 2 _ rfl
  have c3 : W.cell? ⟨g, 3, none⟩ = some (.string c) := G1.cl 3 _ rfl
  have HG1 := hide G1
  clear G1
  go_wp2_with fail
  (with_reducible refine (HNb.out _).mono ?_)
  rintro e w2 ⟨⟨v2, er2, rfl, hv2⟩, rfl⟩
  have HV2 := hide hv2
  clear hv2
  go_wp2_with fail
  (with_reducible refine (HNc.out _).mono ?_)
  rintro e w3 ⟨⟨v3, er3, rfl, hv3⟩, rfl⟩
  have HV3 := hide hv3
  clear hv3
  go_wp2_with fail
  have G9 := ((HG1.out.set 2 (.int .i64 v2)).set 3 (.int .i64 v3))
  refine ans_set (P := bodyPost Tryd.prog _ _ Exit.ret _) G9.rb G9.keep (Nat.le_refl _) (fun w9 hb9 k9 => ?_)
  obtain ⟨⟨d0, d1, d2, d3, d4, d5, d6⟩, -⟩ := ans_open hb9
  refine bodyPost_ret (v := .agg #[.int .i64 14, .int .i64 0, .int .i64 v2, .int .i64 v3, .bool false, .string ⟨#[]⟩, .string ⟨#[]⟩]) (by simp [results, Tryd.results16, go_sem, d0, d1, d2, d3, d4, d5, d6]) rfl ?_
  exact ⟨⟨_, rfl, _, _, _, _, _, _, rfl, ⟨by omega, by omega⟩, HV2.out.1, HV3.out.1, Nat.zero_le _, Nat.zero_le _, (by unfold RGX; simp; exact ⟨HV2.out, HV3.out⟩)⟩, k9⟩
set_option maxRecDepth 100000 in
set_option maxHeartbeats 2000000 in
theorem rg_3_x (x a b c : ByteArray) (r : List ByteArray) (ha : a.size ≤ 8388608) (hb : b.size ≤ 8388608) (hc : c.size ≤ 8388608) (g cap : Nat) (m : Nat) (hm : 3 < m) (w : World) (hcl : ∀ j u, ((x :: a :: b :: c :: r).map Value.string)[j]? = some u → w.cell? ⟨g, j, none⟩ = some u) (op : Int) (hrow : ∀ W, Calls Tryd.prog 27 #[.string x] W fun e w' => (∃ nm f mo kn, e = .returned (.tuple #[.agg #[.string nm, .int .i64 op, .string f, .bool mo], .bool kn])) ∧ Keeps W w' (fun _ => False)) (ho : op ≠ 2 ∧ op ≠ 3 ∧ op ≠ 4 ∧ op ≠ 9 ∧ op ≠ 14) :
    Calls Tryd.prog 16 #[.slice (some ⟨g, 0, none⟩) m cap] w fun e w' => (∃ v, e = .returned v ∧ RGuess op (a :: b :: c :: r) v) ∧ Keeps w w' (fun _ => False) := by
  have o2 : (op == 2) = false := by simp; omega
  have o3 : (op == 3) = false := by simp; omega
  have o4 : (op == 4) = false := by simp; omega
  have o9 : (op == 9) = false := by simp; omega
  have o14 : (op == 14) = false := by simp; omega
  have cz := hcl 0 _ rfl
  have hg : g < w.heap.size := by
    simp only [World.cell?] at cz
    cases hh : w.heap[g]? with
    | none => rw [hh] at cz; cases cz
    | some o => exact heap_lt hh
  have HNa := hide (fun W => rnum_any a ha W)
  have HBa := hide (fun W => rbyt_any a ha W)
  have HNb := hide (fun W => rnum_any b hb W)
  have HBb := hide (fun W => rbyt_any b hb W)
  have HNc := hide (fun W => rnum_any c hc W)
  have HBc := hide (fun W => rbyt_any c hc W)
  have m1 : ((m : Int) == 3) = false := by rw [beq_eq_false_iff_ne]; omega
  have m2 : ¬ (m : Int) < 2 := by omega
  have m3 : (2 : Int) < (m : Int) := by omega
  have m4 : (3 : Int) < (m : Int) := by omega
  have m5 : (1 : Int) < (m : Int) := by omega
  have m6 : (0 : Int) < (m : Int) := by omega
  have Hrow := hide hrow
  have Hcl := hide hcl
  have Hg := hide hg
  have kZ : Keeps w (w.alloc (.cells #[.int .i64 0, .int .i64 0, .int .i64 0, .int .i64 0, .bool false, .string ⟨#[]⟩, .string ⟨#[]⟩] 24)) (fun _ => False) := (Keeps.refl _ _).alloc _
  have cz1 := keeps_cell kZ cz
  have KZ := hide kZ
  clear hrow hcl hg kZ cz
  go_enter Tryd.func16, Tryd.ntmps16
  go_wp2_with fail
  refine alloc1 (P := fun W => Calls _ _ _ W _) fun W0 hb0 hz0 k0 => ?_
  (with_reducible refine (Hrow.out W0).mono ?_)
  rintro e w1 ⟨⟨nm, f, mo, kn, rfl⟩, k1⟩
  have HB0 := hide hb0
  have K0 := hide k0
  have K1 := hide k1
  have HZ0 := hide hz0
  clear hb0 k0 k1 hz0 cz1 KZ
  go_upto_region 3 with fail
  refine alloc2 (P := fun W => Code.wp _ _ _ _ W) fun W hr2 ha2 k2 => ?_
  have k12 := K1.out.trans k2 (fun _ _ e => e)
  have k02 := K0.out.trans k12 (fun _ _ e => e)
  have G1 : GR w W w1.heap.size g #[.string nm, .int .i64 op, .string f, .bool mo] (x :: a :: b :: c :: r) #[.int .i64 op, .int .i64 0, .int .i64 0, .int .i64 0, .bool false, .string ⟨#[]⟩, .string ⟨#[]⟩] := ⟨k02, k12.blk HB0.out, hr2, ha2, fun j u hj => keeps_cell k02 (Hcl.out j u hj), Hg.out, by
    have := K1.out.size
    have := HZ0.out
    omega⟩
  have n1 : ¬ w.heap.size = w1.heap.size + 1 := by have := G1.lt; omega
  have n2 : ¬ w1.heap.size + 1 = w.heap.size := by have := G1.lt; omega
  have n3 : ¬ g = w1.heap.size + 1 := by have := G1.lt; omega
  have n4 : ¬ w1.heap.size + 1 = g := by have := G1.lt; omega
  clear hr2 ha2 k2 k12 k02 HB0 K0 K1 HZ0 Hcl Hg
  obtain ⟨⟨a0, a1, a2, a3, a4, a5, a6⟩, f0, f1, f2, f3, f4, f5, f6⟩ := ans_open G1.ab
  obtain ⟨⟨r0, r1, r2, r3, r4, r5, r6⟩, q0, q1, q2, q3, q4, q5, q6⟩ := ans_open G1.rb
  obtain ⟨⟨-, o1, -, -⟩, -⟩ := four_open G1.rwb
  have c1 : W.cell? ⟨g, 1, none⟩ = some (.string a) := G1.cl 1 _ rfl
  have c2 : W.cell? ⟨g, 2, none⟩ = some (.string b) := G1.cl 2 _ rfl
  have c3 : W.cell? ⟨g, 3, none⟩ = some (.string c) := G1.cl 3 _ rfl
  have HG1 := hide G1
  clear G1
  go_wp2_with fail
  (with_reducible refine (HNa.out _).mono ?_)
  rintro e w2 ⟨⟨v2, er2, rfl, hv2⟩, rfl⟩
  have HV2 := hide hv2
  clear hv2
  go_wp2_with fail
  have G9 := (HG1.out.set 2 (.int .i64 v2))
  refine ans_set (P := bodyPost Tryd.prog _ _ Exit.ret _) G9.rb G9.keep (Nat.le_refl _) (fun w9 hb9 k9 => ?_)
  obtain ⟨⟨d0, d1, d2, d3, d4, d5, d6⟩, -⟩ := ans_open hb9
  refine bodyPost_ret (v := .agg #[.int .i64 op, .int .i64 0, .int .i64 v2, .int .i64 0, .bool false, .string ⟨#[]⟩, .string ⟨#[]⟩]) (by simp [results, Tryd.results16, go_sem, d0, d1, d2, d3, d4, d5, d6]) rfl ?_
  exact ⟨⟨_, rfl, _, _, _, _, _, _, rfl, ⟨by omega, by omega⟩, HV2.out.1, ⟨by omega, by omega⟩, Nat.zero_le _, Nat.zero_le _, (by unfold RGX; obtain ⟨o2, o3, o4, o9, o14⟩ := ho; refine ⟨by trivial, ?_⟩; rw [if_neg o2, if_neg o3, if_neg o4, if_neg o9, if_neg o14]; exact ⟨HV2.out, by trivial, by trivial, by trivial, by trivial⟩)⟩, k9⟩
set_option maxRecDepth 100000 in
set_option maxHeartbeats 2000000 in
theorem rg_2_e (x a b : ByteArray) (ha : a.size ≤ 8388608) (hb : b.size ≤ 8388608) (g cap : Nat) (w : World) (hcl : ∀ j u, ([x, a, b].map Value.string)[j]? = some u → w.cell? ⟨g, j, none⟩ = some u) (op : Int) (hrow : ∀ W, Calls Tryd.prog 27 #[.string x] W fun e w' => (∃ nm f mo kn, e = .returned (.tuple #[.agg #[.string nm, .int .i64 op, .string f, .bool mo], .bool kn])) ∧ Keeps W w' (fun _ => False)) (hxe : a = errB) :
    Calls Tryd.prog 16 #[.slice (some ⟨g, 0, none⟩) 3 cap] w fun e w' => (∃ v, e = .returned v ∧ RGuess op [a, b] v) ∧ Keeps w w' (fun _ => False) := by
  have y0 : (a.toList == [101, 114, 114, 111, 114]) = true := by
    rw [hxe]
    simp [errB, ByteArray.toList_eq]
  have HXE := hide hxe
  clear hxe
  have cz := hcl 0 _ rfl
  have hg : g < w.heap.size := by
    simp only [World.cell?] at cz
    cases hh : w.heap[g]? with
    | none => rw [hh] at cz; cases cz
    | some o => exact heap_lt hh
  have HNa := hide (fun W => rnum_any a ha W)
  have HBa := hide (fun W => rbyt_any a ha W)
  have HNb := hide (fun W => rnum_any b hb W)
  have HBb := hide (fun W => rbyt_any b hb W)
  have Hrow := hide hrow
  have Hcl := hide hcl
  have Hg := hide hg
  have kZ : Keeps w (w.alloc (.cells #[.int .i64 0, .int .i64 0, .int .i64 0, .int .i64 0, .bool false, .string ⟨#[]⟩, .string ⟨#[]⟩] 24)) (fun _ => False) := (Keeps.refl _ _).alloc _
  have cz1 := keeps_cell kZ cz
  have KZ := hide kZ
  clear hrow hcl hg kZ cz
  go_enter Tryd.func16, Tryd.ntmps16
  go_wp2_with fail
  refine alloc1 (P := fun W => Calls _ _ _ W _) fun W0 hb0 hz0 k0 => ?_
  (with_reducible refine (Hrow.out W0).mono ?_)
  rintro e w1 ⟨⟨nm, f, mo, kn, rfl⟩, k1⟩
  have HB0 := hide hb0
  have K0 := hide k0
  have K1 := hide k1
  have HZ0 := hide hz0
  clear hb0 k0 k1 hz0 cz1 KZ
  go_upto_region 3 with fail
  refine alloc2 (P := fun W => Code.wp _ _ _ _ W) fun W hr2 ha2 k2 => ?_
  have k12 := K1.out.trans k2 (fun _ _ e => e)
  have k02 := K0.out.trans k12 (fun _ _ e => e)
  have G1 : GR w W w1.heap.size g #[.string nm, .int .i64 op, .string f, .bool mo] [x, a, b] #[.int .i64 op, .int .i64 0, .int .i64 0, .int .i64 0, .bool false, .string ⟨#[]⟩, .string ⟨#[]⟩] := ⟨k02, k12.blk HB0.out, hr2, ha2, fun j u hj => keeps_cell k02 (Hcl.out j u hj), Hg.out, by
    have := K1.out.size
    have := HZ0.out
    omega⟩
  have n1 : ¬ w.heap.size = w1.heap.size + 1 := by have := G1.lt; omega
  have n2 : ¬ w1.heap.size + 1 = w.heap.size := by have := G1.lt; omega
  have n3 : ¬ g = w1.heap.size + 1 := by have := G1.lt; omega
  have n4 : ¬ w1.heap.size + 1 = g := by have := G1.lt; omega
  clear hr2 ha2 k2 k12 k02 HB0 K0 K1 HZ0 Hcl Hg
  obtain ⟨⟨a0, a1, a2, a3, a4, a5, a6⟩, f0, f1, f2, f3, f4, f5, f6⟩ := ans_open G1.ab
  obtain ⟨⟨r0, r1, r2, r3, r4, r5, r6⟩, q0, q1, q2, q3, q4, q5, q6⟩ := ans_open G1.rb
  obtain ⟨⟨-, o1, -, -⟩, -⟩ := four_open G1.rwb
  have c1 : W.cell? ⟨g, 1, none⟩ = some (.string a) := G1.cl 1 _ rfl
  have c2 : W.cell? ⟨g, 2, none⟩ = some (.string b) := G1.cl 2 _ rfl
  have HG1 := hide G1
  clear G1
  go_wp2_with fail
  (with_reducible refine (HNb.out _).mono ?_)
  rintro e w2 ⟨⟨v2, er2, rfl, hv2⟩, rfl⟩
  have HV2 := hide hv2
  clear hv2
  go_wp2_with fail
  have G9 := (HG1.out.set 1 (.int .i64 v2))
  refine ans_set (P := bodyPost Tryd.prog _ _ Exit.ret _) G9.rb G9.keep (Nat.le_refl _) (fun w9 hb9 k9 => ?_)
  obtain ⟨⟨d0, d1, d2, d3, d4, d5, d6⟩, -⟩ := ans_open hb9
  refine bodyPost_ret (v := .agg #[.int .i64 op, .int .i64 v2, .int .i64 0, .int .i64 0, .bool false, .string ⟨#[]⟩, .string ⟨#[]⟩]) (by simp [results, Tryd.results16, go_sem, d0, d1, d2, d3, d4, d5, d6]) rfl ?_
  exact ⟨⟨_, rfl, _, _, _, _, _, _, rfl, HV2.out.1, ⟨by omega, by omega⟩, ⟨by omega, by omega⟩, Nat.zero_le _, Nat.zero_le _, (by simp only [RGX]; rw [if_pos HXE.out]; exact ⟨HV2.out, by trivial, by trivial, by trivial, by trivial, by trivial⟩)⟩, k9⟩
/-- The command's number that a name has. -/
def RowOp (x : ByteArray) (op : Int) : Prop := (∃ i, i < 16 ∧ nmN i = x ∧ op = oN i) ∨ ((∀ i, i < 16 → nmN i ≠ x) ∧ op = 0)
theorem rrow_op (x : ByteArray) : ∃ op, RowOp x op ∧ ∀ W, Calls Tryd.prog 27 #[.string x] W fun e w' => (∃ nm f mo kn, e = .returned (.tuple #[.agg #[.string nm, .int .i64 op, .string f, .bool mo], .bool kn])) ∧ Keeps W w' (fun _ => False) := by
  have hd : ∀ a b : Fin 16, nmN a.1 = nmN b.1 → a = b := by decide +kernel
  by_cases h : ∃ i, i < 16 ∧ nmN i = x
  · obtain ⟨i, hi, hx⟩ := h
    refine ⟨oN i, Or.inl ⟨i, hi, hx, rfl⟩, fun W => (rrow_any x W).mono ?_⟩
    rintro e w' ⟨⟨j, f, m, hj, hjx, rfl⟩ | ⟨hno, -⟩, k⟩
    · have e := hd ⟨j, hj⟩ ⟨i, hi⟩ (hjx.trans hx.symm)
      have e2 : j = i := by
        have := congrArg Fin.val e
        simpa using this
      subst e2
      exact ⟨⟨_, _, _, _, rfl⟩, k⟩
    · exact absurd hx (hno i hi)
  · refine ⟨0, Or.inr ⟨fun i hi e => h ⟨i, hi, e⟩, rfl⟩, fun W => (rrow_any x W).mono ?_⟩
    rintro e w' ⟨⟨j, f, m, hj, hjx, rfl⟩ | ⟨hno, rfl⟩, k⟩
    · exact absurd ⟨j, hj, hjx⟩ h
    · exact ⟨⟨_, _, _, _, rfl⟩, k⟩
theorem err_no {a : ByteArray} (h : a ≠ errB) : (a.toList == [101, 114, 114, 111, 114]) = false := by
  have h2 := str_no h
  rw [show errB.toList = [101, 114, 114, 111, 114] from by simp [errB, ByteArray.toList_eq]] at h2
  exact h2
theorem rguess_any (x : ByteArray) (xs : List ByteArray) (hsz : ∀ y, y ∈ xs → y.size ≤ 8388608) (g cap : Nat) (w : World) (hcl : ∀ j u, ((x :: xs).map Value.string)[j]? = some u → w.cell? ⟨g, j, none⟩ = some u) :
    ∃ op, RowOp x op ∧ Calls Tryd.prog 16 #[.slice (some ⟨g, 0, none⟩) (xs.length + 1) cap] w fun e w' => (∃ v, e = .returned v ∧ RGuess op xs v) ∧ Keeps w w' (fun _ => False) := by
  obtain ⟨op, ho, hrow⟩ := rrow_op x
  refine ⟨op, ho, ?_⟩
  clear ho
  by_cases hx : op ≠ 2 ∧ op ≠ 3 ∧ op ≠ 4 ∧ op ≠ 9 ∧ op ≠ 14
  · match xs, hsz, hcl with
    | [], _, hcl => exact rg_0 x g cap w hcl op hrow
    | [a], hs, hcl => exact rg_1_x x a (hs a (by simp)) g cap w hcl op hrow hx
    | [a, b], hs, hcl =>
      by_cases he : a = errB
      · exact rg_2_e x a b (hs a (by simp)) (hs b (by simp)) g cap w hcl op hrow he
      · exact rg_2_x x a b (hs a (by simp)) (hs b (by simp)) g cap w hcl op hrow (err_no he) he hx
    | a :: b :: c :: r, hs, hcl => exact rg_3_x x a b c r (hs a (by simp)) (hs b (by simp)) (hs c (by simp)) g cap _ (by simp) w hcl op hrow hx
  · have h5 : op = 2 ∨ op = 3 ∨ op = 4 ∨ op = 9 ∨ op = 14 := by omega
    match xs, hsz, hcl with
    | [], _, hcl => exact rg_0 x g cap w hcl op hrow
    | [a], hs, hcl =>
      rcases h5 with h | h | h | h | h
      · exact rg_1_2 x a (hs a (by simp)) g cap w hcl op hrow h
      · exact rg_1_3 x a (hs a (by simp)) g cap w hcl op hrow h
      · exact rg_1_4 x a (hs a (by simp)) g cap w hcl op hrow h
      · exact rg_1_9 x a (hs a (by simp)) g cap w hcl op hrow h
      · exact rg_1_14 x a (hs a (by simp)) g cap w hcl op hrow h
    | [a, b], hs, hcl =>
      by_cases he : a = errB
      · exact rg_2_e x a b (hs a (by simp)) (hs b (by simp)) g cap w hcl op hrow he
      · rcases h5 with h | h | h | h | h
        · exact rg_2_2 x a b (hs a (by simp)) (hs b (by simp)) g cap w hcl op hrow (err_no he) he h
        · exact rg_2_3 x a b (hs a (by simp)) (hs b (by simp)) g cap w hcl op hrow (err_no he) he h
        · exact rg_2_4 x a b (hs a (by simp)) (hs b (by simp)) g cap w hcl op hrow (err_no he) he h
        · exact rg_2_9 x a b (hs a (by simp)) (hs b (by simp)) g cap w hcl op hrow (err_no he) he h
        · exact rg_2_14 x a b (hs a (by simp)) (hs b (by simp)) g cap w hcl op hrow (err_no he) he h
    | a :: b :: c :: r, hs, hcl =>
      rcases h5 with h | h | h | h | h
      · exact rg_3_2 x a b c r (hs a (by simp)) (hs b (by simp)) (hs c (by simp)) g cap _ (by simp) w hcl op hrow h
      · exact rg_3_3 x a b c r (hs a (by simp)) (hs b (by simp)) (hs c (by simp)) g cap _ (by simp) w hcl op hrow h
      · exact rg_3_4 x a b c r (hs a (by simp)) (hs b (by simp)) (hs c (by simp)) g cap _ (by simp) w hcl op hrow h
      · exact rg_3_9 x a b c r (hs a (by simp)) (hs b (by simp)) (hs c (by simp)) g cap _ (by simp) w hcl op hrow h
      · exact rg_3_14 x a b c r (hs a (by simp)) (hs b (by simp)) (hs c (by simp)) g cap _ (by simp) w hcl op hrow h
end Go.Proofs.YteimjilngabebaaDoor

