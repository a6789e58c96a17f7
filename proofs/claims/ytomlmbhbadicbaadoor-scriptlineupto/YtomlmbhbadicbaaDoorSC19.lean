/-
  script: guess.
-/
import Derived.Test.YtomlmbhbadicbaaDoorSC18
namespace Go.Proofs.YtomlmbhbadicbaaDoor
open Go.RowKit
set_option linter.unusedVariables false

def emp3 : List ByteArray := [⟨#[]⟩, ⟨#[]⟩, ⟨#[]⟩]
def errB : ByteArray := ⟨#[101, 114, 114, 111, 114]⟩
/-- What guess makes of the three words. -/
def GX (op : Int) (x0 x1 x2 : ByteArray) (err n off : Int) (yes : Bool) (key elem : ByteArray) : Prop :=
  if x0 = errB then NumR x1 err ∧ n = 0 ∧ off = 0 ∧ yes = false ∧ key = ⟨#[]⟩ ∧ elem = ⟨#[]⟩
  else err = 0 ∧ (if op = 2 then n = 0 ∧ off = 0 ∧ yes = (x0.toList == [121, 101, 115]) ∧ key = ⟨#[]⟩ ∧ elem = (bytD x1).1
    else if op = 3 then n = 0 ∧ off = 0 ∧ yes = (x0.toList == [110, 101, 119]) ∧ key = ⟨#[]⟩ ∧ elem = ⟨#[]⟩
    else if op = 4 then n = 0 ∧ off = 0 ∧ yes = (x0.toList == [121, 101, 115]) ∧ key = ⟨#[]⟩ ∧ elem = ⟨#[]⟩
    else if op = 9 then n = 0 ∧ off = 0 ∧ yes = (x0.toList == [112, 97, 105, 114]) ∧ key = (bytD x1).1 ∧ elem = (bytD x2).1
    else if op = 14 then NumR x1 n ∧ NumR x2 off ∧ yes = false ∧ key = ⟨#[]⟩ ∧ elem = ⟨#[]⟩
    else if op = 6 then n = 0 ∧ off = 0 ∧ yes = false ∧ key = ⟨#[]⟩ ∧ elem = ⟨#[]⟩
    else if op = 10 then n = 0 ∧ off = 0 ∧ yes = false ∧ key = ⟨#[]⟩ ∧ elem = ⟨#[]⟩
    else NumR x0 n ∧ off = 0 ∧ yes = false ∧ key = ⟨#[]⟩ ∧ elem = ⟨#[]⟩)
/-- What guess answers: some answer of that Op, in its bounds. -/
def Guess (op : Int) (x0 x1 x2 : ByteArray) (v : Value) : Prop := ∃ err n off yes key elem, v = .agg #[.int .i64 op, .int .i64 err, .int .i64 n, .int .i64 off, .bool yes, .string key, .string elem] ∧ Fit err ∧ Fit n ∧ Fit off ∧ key.size ≤ 8388608 ∧ elem.size ≤ 8388608 ∧
  GX op x0 x1 x2 err n off yes key elem
theorem guess_start (op : Int) (B o n : Nat) (ws : List ByteArray) (hl : ws.length = n) (w : World) (hc : ∀ j u, (ws.map Value.string)[j]? = some u → w.cell? ⟨B, o + j, none⟩ = some u) (hn : n ≤ 8388608) :
    ∃ g cap w1, (∀ ty, (Builtin.append_ #[34, 34] ty #[.slice (some ⟨B, o, none⟩) n n, .slice (some ⟨w.heap.size + 1 + 1, 0, none⟩) 3 3]).run Tryd.prog (((w.alloc (.cells #[.int .i64 0, .int .i64 0, .int .i64 0, .int .i64 0, .bool false, .string ⟨#[]⟩, .string ⟨#[]⟩] 24)).alloc (.cells #[.int .i64 op, .int .i64 0, .int .i64 0, .int .i64 0, .bool false, .string ⟨#[]⟩, .string ⟨#[]⟩] 24)).alloc (.cells #[.string ⟨#[]⟩, .string ⟨#[]⟩, .string ⟨#[]⟩] 9)) = .ok (.slice (some ⟨g, 0, none⟩) (n + 3) cap) w1) ∧
      ∀ x0 x1 x2 r, ws ++ emp3 = x0 :: x1 :: x2 :: r → GS w w1 g x0 x1 x2 #[.int .i64 op, .int .i64 0, .int .i64 0, .int .i64 0, .bool false, .string ⟨#[]⟩, .string ⟨#[]⟩] := by
  obtain ⟨Z, hZ⟩ : ∃ Z : Obj, (.cells #[.int .i64 0, .int .i64 0, .int .i64 0, .int .i64 0, .bool false, .string ⟨#[]⟩, .string ⟨#[]⟩] 24) = Z := ⟨_, rfl⟩
  obtain ⟨A, hA⟩ : ∃ A : Obj, (.cells #[.int .i64 op, .int .i64 0, .int .i64 0, .int .i64 0, .bool false, .string ⟨#[]⟩, .string ⟨#[]⟩] 24) = A := ⟨_, rfl⟩
  obtain ⟨E, hE⟩ : ∃ E : Obj, (.cells #[.string ⟨#[]⟩, .string ⟨#[]⟩, .string ⟨#[]⟩] 9) = E := ⟨_, rfl⟩
  rw [hZ, hA, hE]
  have k : Keeps w (((w.alloc Z).alloc A).alloc E) (fun _ => False) := (((Keeps.refl _ _).alloc _).alloc _).alloc _
  have kA : Keeps ((w.alloc Z).alloc A) (((w.alloc Z).alloc A).alloc E) (fun _ => False) := (Keeps.refl _ _).alloc _
  have kZ : Keeps (w.alloc Z) (((w.alloc Z).alloc A).alloc E) (fun _ => False) := ((Keeps.refl _ _).alloc _).alloc _
  have eE : (((w.alloc Z).alloc A).alloc E).heap[w.heap.size + 1 + 1]? = some E := by
    have := heap_alloc_new ((w.alloc Z).alloc A) E
    simpa using this
  have eA : (((w.alloc Z).alloc A).alloc E).heap[w.heap.size + 1]? = some A := kA.blk (by
    have := heap_alloc_new (w.alloc Z) A
    simpa using this)
  have eZ : (((w.alloc Z).alloc A).alloc E).heap[w.heap.size]? = some Z := kZ.blk (heap_alloc_new w Z)
  have hsz : (((w.alloc Z).alloc A).alloc E).heap.size = w.heap.size + 1 + 1 + 1 := by simp
  obtain ⟨g, cap, w1, hr, hg, k1, hcs⟩ := words_more ⟨B, o, none⟩ n ws hl w (((w.alloc Z).alloc A).alloc E) (fun j u hj => by
    rw [addr_add]
    exact keeps_cell k (hc j u hj)) (w.heap.size + 1 + 1) (eE.trans (by rw [← hE])) hn
  refine ⟨g, cap, w1, hr, fun x0 x1 x2 r hx => ⟨k.trans k1 (fun _ _ e => e), (k1.blk eZ).trans (by rw [← hZ]), (k1.blk eA).trans (by rw [← hA]), ?_, ?_, ?_, by omega, by omega⟩⟩
  · exact hcs 0 _ (by rw [show ws ++ [(⟨#[]⟩ : ByteArray), ⟨#[]⟩, ⟨#[]⟩] = ws ++ emp3 from rfl, hx]; rfl)
  · exact hcs 1 _ (by rw [show ws ++ [(⟨#[]⟩ : ByteArray), ⟨#[]⟩, ⟨#[]⟩] = ws ++ emp3 from rfl, hx]; rfl)
  · exact hcs 2 _ (by rw [show ws ++ [(⟨#[]⟩ : ByteArray), ⟨#[]⟩, ⟨#[]⟩] = ws ++ emp3 from rfl, hx]; rfl)
set_option maxRecDepth 100000 in
set_option maxHeartbeats 2000000 in
theorem guess_err (op : Int) (B o n : Nat) (ws : List ByteArray) (hl : ws.length = n) (w : World) (hc : ∀ j u, (ws.map Value.string)[j]? = some u → w.cell? ⟨B, o + j, none⟩ = some u) (hn : n ≤ 8388608) (he : ErrW w) (x0 x1 x2 : ByteArray) (r : List ByteArray)
    (hx : ws ++ emp3 = x0 :: x1 :: x2 :: r) (h0 : x0.size ≤ 8388608) (h1 : x1.size ≤ 8388608) (h2 : x2.size ≤ 8388608) (hxe : x0 = ⟨#[101, 114, 114, 111, 114]⟩) : Calls Tryd.prog 17 #[.int .i64 op, .slice (some ⟨B, o, none⟩) n n] w fun e w' => (∃ v, e = .returned v ∧ Guess op x0 x1 x2 v) ∧ Keeps w w' (fun _ => False) := by
  have y0 : (x0.toList == [101, 114, 114, 111, 114]) = true := by
    rw [hxe]
    simp [ByteArray.toList_eq]
  obtain ⟨g, cap, w1, hap, hg⟩ := guess_start op B o n ws hl w hc hn
  have G1 := hg x0 x1 x2 r hx
  have hne1 := G1.ne.1
  have hne2 := G1.ne.2
  have E0 := hide (he.keeps G1.keep)
  obtain ⟨⟨a0, a1, a2, a3, a4, a5, a6⟩, f0, f1, f2, f3, f4, f5, f6⟩ := ans_open G1.ab
  obtain ⟨⟨r0, r1, r2, r3, r4, r5, r6⟩, q0, q1, q2, q3, q4, q5, q6⟩ := ans_open G1.rb
  have c0 := G1.w0
  have c1 := G1.w1
  have c2 := G1.w2
  have HG1 := hide G1
  have hN0 := fun (W : World) (k : Keeps w W (fun _ => False)) => number_any x0 h0 W (he.keeps k)
  have HN0 := hide hN0
  have hB0 := fun (W : World) => bytes_any x0 h0 W
  clear hN0
  have hN1 := fun (W : World) (k : Keeps w W (fun _ => False)) => number_any x1 h1 W (he.keeps k)
  have HN1 := hide hN1
  have hB1 := fun (W : World) => bytes_any x1 h1 W
  clear hN1
  have hN2 := fun (W : World) (k : Keeps w W (fun _ => False)) => number_any x2 h2 W (he.keeps k)
  have HN2 := hide hN2
  have hB2 := fun (W : World) => bytes_any x2 h2 W
  clear hN2
  clear hg hc he hx G1
  go_enter Tryd.func17, Tryd.ntmps17
  go_wp2_with (at_builtin; have _t := hap; refine app_run _ rfl (.tmp 11) (.tmp 12) 34 rfl rfl rfl hap ?_; clear hap)
  refine (HN1.out _ HG1.out.keep).mono ?_
  rintro e w2 ⟨⟨v2, er2, rfl, hv2⟩, k2⟩
  have HV2 := hide hv2
  clear hv2
  have G2 : GS w w2 g x0 x1 x2 #[.int .i64 op, .int .i64 0, .int .i64 0, .int .i64 0, .bool false, .string ⟨#[]⟩, .string ⟨#[]⟩] := HG1.out.stay k2
  clear a0 a1 a2 a3 a4 a5 a6 f0 f1 f2 f3 f4 f5 f6 r0 r1 r2 r3 r4 r5 r6 q0 q1 q2 q3 q4 q5 q6 c0 c1 c2 k2
  obtain ⟨⟨a0, a1, a2, a3, a4, a5, a6⟩, f0, f1, f2, f3, f4, f5, f6⟩ := ans_open G2.ab
  obtain ⟨⟨r0, r1, r2, r3, r4, r5, r6⟩, q0, q1, q2, q3, q4, q5, q6⟩ := ans_open G2.rb
  have c0 := G2.w0
  have c1 := G2.w1
  have c2 := G2.w2
  have HG2 := hide G2
  clear G2
  go_wp2_with fail
  have G9 := (HG2.out.set 1 (.int .i64 v2))
  refine ans_set (P := bodyPost Tryd.prog _ _ Exit.ret _) G9.rb G9.keep (Nat.le_refl _) (fun w9 hb9 k9 => ?_)
  obtain ⟨⟨d0, d1, d2, d3, d4, d5, d6⟩, -⟩ := ans_open hb9
  refine bodyPost_ret (v := .agg #[.int .i64 op, .int .i64 v2, .int .i64 0, .int .i64 0, .bool false, .string ⟨#[]⟩, .string ⟨#[]⟩]) (by simp [results, Tryd.results17, go_sem, d0, d1, d2, d3, d4, d5, d6]) rfl ?_
  exact ⟨⟨_, rfl, _, _, _, _, _, _, rfl, HV2.out.1, ⟨by omega, by omega⟩, ⟨by omega, by omega⟩, Nat.zero_le _, Nat.zero_le _, (by unfold GX; rw [if_pos (show x0 = errB from hxe)]; exact ⟨HV2.out, rfl, rfl, rfl, rfl, rfl⟩)⟩, k9⟩
set_option maxRecDepth 100000 in
set_option maxHeartbeats 2000000 in
theorem guess_2 (op : Int) (B o n : Nat) (ws : List ByteArray) (hl : ws.length = n) (w : World) (hc : ∀ j u, (ws.map Value.string)[j]? = some u → w.cell? ⟨B, o + j, none⟩ = some u) (hn : n ≤ 8388608) (he : ErrW w) (x0 x1 x2 : ByteArray) (r : List ByteArray)
    (hx : ws ++ emp3 = x0 :: x1 :: x2 :: r) (h0 : x0.size ≤ 8388608) (h1 : x1.size ≤ 8388608) (h2 : x2.size ≤ 8388608) (y0 : (x0.toList == [101, 114, 114, 111, 114]) = false) (hne : x0 ≠ errB) (ho : op = 2) : Calls Tryd.prog 17 #[.int .i64 op, .slice (some ⟨B, o, none⟩) n n] w fun e w' => (∃ v, e = .returned v ∧ Guess op x0 x1 x2 v) ∧ Keeps w w' (fun _ => False) := by
  subst ho
  obtain ⟨g, cap, w1, hap, hg⟩ := guess_start 2 B o n ws hl w hc hn
  have G1 := hg x0 x1 x2 r hx
  have hne1 := G1.ne.1
  have hne2 := G1.ne.2
  have E0 := hide (he.keeps G1.keep)
  obtain ⟨⟨a0, a1, a2, a3, a4, a5, a6⟩, f0, f1, f2, f3, f4, f5, f6⟩ := ans_open G1.ab
  obtain ⟨⟨r0, r1, r2, r3, r4, r5, r6⟩, q0, q1, q2, q3, q4, q5, q6⟩ := ans_open G1.rb
  have c0 := G1.w0
  have c1 := G1.w1
  have c2 := G1.w2
  have HG1 := hide G1
  have hN0 := fun (W : World) (k : Keeps w W (fun _ => False)) => number_any x0 h0 W (he.keeps k)
  have HN0 := hide hN0
  have hB0 := fun (W : World) => bytes_any x0 h0 W
  clear hN0
  have hN1 := fun (W : World) (k : Keeps w W (fun _ => False)) => number_any x1 h1 W (he.keeps k)
  have HN1 := hide hN1
  have hB1 := fun (W : World) => bytes_any x1 h1 W
  clear hN1
  have hN2 := fun (W : World) (k : Keeps w W (fun _ => False)) => number_any x2 h2 W (he.keeps k)
  have HN2 := hide hN2
  have hB2 := fun (W : World) => bytes_any x2 h2 W
  clear hN2
  clear hg hc he hx G1
  go_enter Tryd.func17, Tryd.ntmps17
  go_wp2_with (at_builtin; have _t := hap; refine app_run _ rfl (.tmp 11) (.tmp 12) 34 rfl rfl rfl hap ?_; clear hap)
  refine (hB1 _).mono ?_
  rintro e w2 ⟨rfl, k2⟩
  have G2 : GS w w2 g x0 x1 x2 #[.int .i64 2, .int .i64 0, .int .i64 0, .int .i64 0, .bool (x0.toList == [121, 101, 115]), .string ⟨#[]⟩, .string ⟨#[]⟩] := (HG1.out.set 4 (.bool (x0.toList == [121, 101, 115]))).stay k2
  clear a0 a1 a2 a3 a4 a5 a6 f0 f1 f2 f3 f4 f5 f6 r0 r1 r2 r3 r4 r5 r6 q0 q1 q2 q3 q4 q5 q6 c0 c1 c2 k2
  obtain ⟨⟨a0, a1, a2, a3, a4, a5, a6⟩, f0, f1, f2, f3, f4, f5, f6⟩ := ans_open G2.ab
  obtain ⟨⟨r0, r1, r2, r3, r4, r5, r6⟩, q0, q1, q2, q3, q4, q5, q6⟩ := ans_open G2.rb
  have c0 := G2.w0
  have c1 := G2.w1
  have c2 := G2.w2
  have HG2 := hide G2
  clear G2
  go_wp2_with fail
  have G9 := (HG2.out.set 6 (.string (bytD x1).1))
  refine ans_set (P := bodyPost Tryd.prog _ _ Exit.ret _) G9.rb G9.keep (Nat.le_refl _) (fun w9 hb9 k9 => ?_)
  obtain ⟨⟨d0, d1, d2, d3, d4, d5, d6⟩, -⟩ := ans_open hb9
  refine bodyPost_ret (v := .agg #[.int .i64 2, .int .i64 0, .int .i64 0, .int .i64 0, .bool (x0.toList == [121, 101, 115]), .string ⟨#[]⟩, .string (bytD x1).1]) (by simp [results, Tryd.results17, go_sem, d0, d1, d2, d3, d4, d5, d6]) rfl ?_
  exact ⟨⟨_, rfl, _, _, _, _, _, _, rfl, ⟨by omega, by omega⟩, ⟨by omega, by omega⟩, ⟨by omega, by omega⟩, Nat.zero_le _, Nat.le_trans (bytD_small x1) h1, (by unfold GX; rw [if_neg hne]; simp)⟩, k9⟩
set_option maxRecDepth 100000 in
set_option maxHeartbeats 2000000 in
theorem guess_3 (op : Int) (B o n : Nat) (ws : List ByteArray) (hl : ws.length = n) (w : World) (hc : ∀ j u, (ws.map Value.string)[j]? = some u → w.cell? ⟨B, o + j, none⟩ = some u) (hn : n ≤ 8388608) (he : ErrW w) (x0 x1 x2 : ByteArray) (r : List ByteArray)
    (hx : ws ++ emp3 = x0 :: x1 :: x2 :: r) (h0 : x0.size ≤ 8388608) (h1 : x1.size ≤ 8388608) (h2 : x2.size ≤ 8388608) (y0 : (x0.toList == [101, 114, 114, 111, 114]) = false) (hne : x0 ≠ errB) (ho : op = 3) : Calls Tryd.prog 17 #[.int .i64 op, .slice (some ⟨B, o, none⟩) n n] w fun e w' => (∃ v, e = .returned v ∧ Guess op x0 x1 x2 v) ∧ Keeps w w' (fun _ => False) := by
  subst ho
  obtain ⟨g, cap, w1, hap, hg⟩ := guess_start 3 B o n ws hl w hc hn
  have G1 := hg x0 x1 x2 r hx
  have hne1 := G1.ne.1
  have hne2 := G1.ne.2
  have E0 := hide (he.keeps G1.keep)
  obtain ⟨⟨a0, a1, a2, a3, a4, a5, a6⟩, f0, f1, f2, f3, f4, f5, f6⟩ := ans_open G1.ab
  obtain ⟨⟨r0, r1, r2, r3, r4, r5, r6⟩, q0, q1, q2, q3, q4, q5, q6⟩ := ans_open G1.rb
  have c0 := G1.w0
  have c1 := G1.w1
  have c2 := G1.w2
  have HG1 := hide G1
  have hN0 := fun (W : World) (k : Keeps w W (fun _ => False)) => number_any x0 h0 W (he.keeps k)
  have HN0 := hide hN0
  have hB0 := fun (W : World) => bytes_any x0 h0 W
  clear hN0
  have hN1 := fun (W : World) (k : Keeps w W (fun _ => False)) => number_any x1 h1 W (he.keeps k)
  have HN1 := hide hN1
  have hB1 := fun (W : World) => bytes_any x1 h1 W
  clear hN1
  have hN2 := fun (W : World) (k : Keeps w W (fun _ => False)) => number_any x2 h2 W (he.keeps k)
  have HN2 := hide hN2
  have hB2 := fun (W : World) => bytes_any x2 h2 W
  clear hN2
  clear hg hc he hx G1
  go_enter Tryd.func17, Tryd.ntmps17
  go_wp2_with (at_builtin; have _t := hap; refine app_run _ rfl (.tmp 11) (.tmp 12) 34 rfl rfl rfl hap ?_; clear hap)
  have G9 := (HG1.out.set 4 (.bool (x0.toList == [110, 101, 119])))
  refine ans_set (P := bodyPost Tryd.prog _ _ Exit.ret _) G9.rb G9.keep (Nat.le_refl _) (fun w9 hb9 k9 => ?_)
  obtain ⟨⟨d0, d1, d2, d3, d4, d5, d6⟩, -⟩ := ans_open hb9
  refine bodyPost_ret (v := .agg #[.int .i64 3, .int .i64 0, .int .i64 0, .int .i64 0, .bool (x0.toList == [110, 101, 119]), .string ⟨#[]⟩, .string ⟨#[]⟩]) (by simp [results, Tryd.results17, go_sem, d0, d1, d2, d3, d4, d5, d6]) rfl ?_
  exact ⟨⟨_, rfl, _, _, _, _, _, _, rfl, ⟨by omega, by omega⟩, ⟨by omega, by omega⟩, ⟨by omega, by omega⟩, Nat.zero_le _, Nat.zero_le _, (by unfold GX; rw [if_neg hne]; simp)⟩, k9⟩
set_option maxRecDepth 100000 in
set_option maxHeartbeats 2000000 in
theorem guess_4 (op : Int) (B o n : Nat) (ws : List ByteArray) (hl : ws.length = n) (w : World) (hc : ∀ j u, (ws.map Value.string)[j]? = some u → w.cell? ⟨B, o + j, none⟩ = some u) (hn : n ≤ 8388608) (he : ErrW w) (x0 x1 x2 : ByteArray) (r : List ByteArray)
    (hx : ws ++ emp3 = x0 :: x1 :: x2 :: r) (h0 : x0.size ≤ 8388608) (h1 : x1.size ≤ 8388608) (h2 : x2.size ≤ 8388608) (y0 : (x0.toList == [101, 114, 114, 111, 114]) = false) (hne : x0 ≠ errB) (ho : op = 4) : Calls Tryd.prog 17 #[.int .i64 op, .slice (some ⟨B, o, none⟩) n n] w fun e w' => (∃ v, e = .returned v ∧ Guess op x0 x1 x2 v) ∧ Keeps w w' (fun _ => False) := by
  subst ho
  obtain ⟨g, cap, w1, hap, hg⟩ := guess_start 4 B o n ws hl w hc hn
  have G1 := hg x0 x1 x2 r hx
  have hne1 := G1.ne.1
  have hne2 := G1.ne.2
  have E0 := hide (he.keeps G1.keep)
  obtain ⟨⟨a0, a1, a2, a3, a4, a5, a6⟩, f0, f1, f2, f3, f4, f5, f6⟩ := ans_open G1.ab
  obtain ⟨⟨r0, r1, r2, r3, r4, r5, r6⟩, q0, q1, q2, q3, q4, q5, q6⟩ := ans_open G1.rb
  have c0 := G1.w0
  have c1 := G1.w1
  have c2 := G1.w2
  have HG1 := hide G1
  have hN0 := fun (W : World) (k : Keeps w W (fun _ => False)) => number_any x0 h0 W (he.keeps k)
  have HN0 := hide hN0
  have hB0 := fun (W : World) => bytes_any x0 h0 W
  clear hN0
  have hN1 := fun (W : World) (k : Keeps w W (fun _ => False)) => number_any x1 h1 W (he.keeps k)
  have HN1 := hide hN1
  have hB1 := fun (W : World) => bytes_any x1 h1 W
  clear hN1
  have hN2 := fun (W : World) (k : Keeps w W (fun _ => False)) => number_any x2 h2 W (he.keeps k)
  have HN2 := hide hN2
  have hB2 := fun (W : World) => bytes_any x2 h2 W
  clear hN2
  clear hg hc he hx G1
  go_enter Tryd.func17, Tryd.ntmps17
  go_wp2_with (at_builtin; have _t := hap; refine app_run _ rfl (.tmp 11) (.tmp 12) 34 rfl rfl rfl hap ?_; clear hap)
  have G9 := (HG1.out.set 4 (.bool (x0.toList == [121, 101, 115])))
  refine ans_set (P := bodyPost Tryd.prog _ _ Exit.ret _) G9.rb G9.keep (Nat.le_refl _) (fun w9 hb9 k9 => ?_)
  obtain ⟨⟨d0, d1, d2, d3, d4, d5, d6⟩, -⟩ := ans_open hb9
  refine bodyPost_ret (v := .agg #[.int .i64 4, .int .i64 0, .int .i64 0, .int .i64 0, .bool (x0.toList == [121, 101, 115]), .string ⟨#[]⟩, .string ⟨#[]⟩]) (by simp [results, Tryd.results17, go_sem, d0, d1, d2, d3, d4, d5, d6]) rfl ?_
  exact ⟨⟨_, rfl, _, _, _, _, _, _, rfl, ⟨by omega, by omega⟩, ⟨by omega, by omega⟩, ⟨by omega, by omega⟩, Nat.zero_le _, Nat.zero_le _, (by unfold GX; rw [if_neg hne]; simp)⟩, k9⟩
set_option maxRecDepth 100000 in
set_option maxHeartbeats 2000000 in
theorem guess_9 (op : Int) (B o n : Nat) (ws : List ByteArray) (hl : ws.length = n) (w : World) (hc : ∀ j u, (ws.map Value.string)[j]? = some u → w.cell? ⟨B, o + j, none⟩ = some u) (hn : n ≤ 8388608) (he : ErrW w) (x0 x1 x2 : ByteArray) (r : List ByteArray)
    (hx : ws ++ emp3 = x0 :: x1 :: x2 :: r) (h0 : x0.size ≤ 8388608) (h1 : x1.size ≤ 8388608) (h2 : x2.size ≤ 8388608) (y0 : (x0.toList == [101, 114, 114, 111, 114]) = false) (hne : x0 ≠ errB) (ho : op = 9) : Calls Tryd.prog 17 #[.int .i64 op, .slice (some ⟨B, o, none⟩) n n] w fun e w' => (∃ v, e = .returned v ∧ Guess op x0 x1 x2 v) ∧ Keeps w w' (fun _ => False) := by
  subst ho
  obtain ⟨g, cap, w1, hap, hg⟩ := guess_start 9 B o n ws hl w hc hn
  have G1 := hg x0 x1 x2 r hx
  have hne1 := G1.ne.1
  have hne2 := G1.ne.2
  have E0 := hide (he.keeps G1.keep)
  obtain ⟨⟨a0, a1, a2, a3, a4, a5, a6⟩, f0, f1, f2, f3, f4, f5, f6⟩ := ans_open G1.ab
  obtain ⟨⟨r0, r1, r2, r3, r4, r5, r6⟩, q0, q1, q2, q3, q4, q5, q6⟩ := ans_open G1.rb
  have c0 := G1.w0
  have c1 := G1.w1
  have c2 := G1.w2
  have HG1 := hide G1
  have hN0 := fun (W : World) (k : Keeps w W (fun _ => False)) => number_any x0 h0 W (he.keeps k)
  have HN0 := hide hN0
  have hB0 := fun (W : World) => bytes_any x0 h0 W
  clear hN0
  have hN1 := fun (W : World) (k : Keeps w W (fun _ => False)) => number_any x1 h1 W (he.keeps k)
  have HN1 := hide hN1
  have hB1 := fun (W : World) => bytes_any x1 h1 W
  clear hN1
  have hN2 := fun (W : World) (k : Keeps w W (fun _ => False)) => number_any x2 h2 W (he.keeps k)
  have HN2 := hide hN2
  have hB2 := fun (W : World) => bytes_any x2 h2 W
  clear hN2
  clear hg hc he hx G1
  go_enter Tryd.func17, Tryd.ntmps17
  go_wp2_with (at_builtin; have _t := hap; refine app_run _ rfl (.tmp 11) (.tmp 12) 34 rfl rfl rfl hap ?_; clear hap)
  refine (hB1 _).mono ?_
  rintro e w2 ⟨rfl, k2⟩
  have G2 : GS w w2 g x0 x1 x2 #[.int .i64 9, .int .i64 0, .int .i64 0, .int .i64 0, .bool (x0.toList == [112, 97, 105, 114]), .string ⟨#[]⟩, .string ⟨#[]⟩] := (HG1.out.set 4 (.bool (x0.toList == [112, 97, 105, 114]))).stay k2
  clear a0 a1 a2 a3 a4 a5 a6 f0 f1 f2 f3 f4 f5 f6 r0 r1 r2 r3 r4 r5 r6 q0 q1 q2 q3 q4 q5 q6 c0 c1 c2 k2
  obtain ⟨⟨a0, a1, a2, a3, a4, a5, a6⟩, f0, f1, f2, f3, f4, f5, f6⟩ := ans_open G2.ab
  obtain ⟨⟨r0, r1, r2, r3, r4, r5, r6⟩, q0, q1, q2, q3, q4, q5, q6⟩ := ans_open G2.rb
  have c0 := G2.w0
  have c1 := G2.w1
  have c2 := G2.w2
  have HG2 := hide G2
  clear G2
  go_wp2_with fail
  refine (hB2 _).mono ?_
  rintro e w3 ⟨rfl, k3⟩
  have G3 : GS w w3 g x0 x1 x2 #[.int .i64 9, .int .i64 0, .int .i64 0, .int .i64 0, .bool (x0.toList == [112, 97, 105, 114]), .string (bytD x1).1, .string ⟨#[]⟩] := (HG2.out.set 5 (.string (bytD x1).1)).stay k3
  clear a0 a1 a2 a3 a4 a5 a6 f0 f1 f2 f3 f4 f5 f6 r0 r1 r2 r3 r4 r5 r6 q0 q1 q2 q3 q4 q5 q6 c0 c1 c2 k3
  obtain ⟨⟨a0, a1, a2, a3, a4, a5, a6⟩, f0, f1, f2, f3, f4, f5, f6⟩ := ans_open G3.ab
  obtain ⟨⟨r0, r1, r2, r3, r4, r5, r6⟩, q0, q1, q2, q3, q4, q5, q6⟩ := ans_open G3.rb
  have c0 := G3.w0
  have c1 := G3.w1
  have c2 := G3.w2
  have HG3 := hide G3
  clear G3
  go_wp2_with fail
  have G9 := (HG3.out.set 6 (.string (bytD x2).1))
  refine ans_set (P := bodyPost Tryd.prog _ _ Exit.ret _) G9.rb G9.keep (Nat.le_refl _) (fun w9 hb9 k9 => ?_)
  obtain ⟨⟨d0, d1, d2, d3, d4, d5, d6⟩, -⟩ := ans_open hb9
  refine bodyPost_ret (v := .agg #[.int .i64 9, .int .i64 0, .int .i64 0, .int .i64 0, .bool (x0.toList == [112, 97, 105, 114]), .string (bytD x1).1, .string (bytD x2).1]) (by simp [results, Tryd.results17, go_sem, d0, d1, d2, d3, d4, d5, d6]) rfl ?_
  exact ⟨⟨_, rfl, _, _, _, _, _, _, rfl, ⟨by omega, by omega⟩, ⟨by omega, by omega⟩, ⟨by omega, by omega⟩, Nat.le_trans (bytD_small x1) h1, Nat.le_trans (bytD_small x2) h2, (by unfold GX; rw [if_neg hne]; simp)⟩, k9⟩
set_option maxRecDepth 100000 in
set_option maxHeartbeats 2000000 in
theorem guess_14 (op : Int) (B o n : Nat) (ws : List ByteArray) (hl : ws.length = n) (w : World) (hc : ∀ j u, (ws.map Value.string)[j]? = some u → w.cell? ⟨B, o + j, none⟩ = some u) (hn : n ≤ 8388608) (he : ErrW w) (x0 x1 x2 : ByteArray) (r : List ByteArray)
    (hx : ws ++ emp3 = x0 :: x1 :: x2 :: r) (h0 : x0.size ≤ 8388608) (h1 : x1.size ≤ 8388608) (h2 : x2.size ≤ 8388608) (y0 : (x0.toList == [101, 114, 114, 111, 114]) = false) (hne : x0 ≠ errB) (ho : op = 14) : Calls Tryd.prog 17 #[.int .i64 op, .slice (some ⟨B, o, none⟩) n n] w fun e w' => (∃ v, e = .returned v ∧ Guess op x0 x1 x2 v) ∧ Keeps w w' (fun _ => False) := by
  subst ho
  obtain ⟨g, cap, w1, hap, hg⟩ := guess_start 14 B o n ws hl w hc hn
  have G1 := hg x0 x1 x2 r hx
  have hne1 := G1.ne.1
  have hne2 := G1.ne.2
  have E0 := hide (he.keeps G1.keep)
  obtain ⟨⟨a0, a1, a2, a3, a4, a5, a6⟩, f0, f1, f2, f3, f4, f5, f6⟩ := ans_open G1.ab
  obtain ⟨⟨r0, r1, r2, r3, r4, r5, r6⟩, q0, q1, q2, q3, q4, q5, q6⟩ := ans_open G1.rb
  have c0 := G1.w0
  have c1 := G1.w1
  have c2 := G1.w2
  have HG1 := hide G1
  have hN0 := fun (W : World) (k : Keeps w W (fun _ => False)) => number_any x0 h0 W (he.keeps k)
  have HN0 := hide hN0
  have hB0 := fun (W : World) => bytes_any x0 h0 W
  clear hN0
  have hN1 := fun (W : World) (k : Keeps w W (fun _ => False)) => number_any x1 h1 W (he.keeps k)
  have HN1 := hide hN1
  have hB1 := fun (W : World) => bytes_any x1 h1 W
  clear hN1
  have hN2 := fun (W : World) (k : Keeps w W (fun _ => False)) => number_any x2 h2 W (he.keeps k)
  have HN2 := hide hN2
  have hB2 := fun (W : World) => bytes_any x2 h2 W
  clear hN2
  clear hg hc he hx G1
  go_enter Tryd.func17, Tryd.ntmps17
  go_wp2_with (at_builtin; have _t := hap; refine app_run _ rfl (.tmp 11) (.tmp 12) 34 rfl rfl rfl hap ?_; clear hap)
  refine (HN1.out _ HG1.out.keep).mono ?_
  rintro e w2 ⟨⟨v2, er2, rfl, hv2⟩, k2⟩
  have HV2 := hide hv2
  clear hv2
  have G2 : GS w w2 g x0 x1 x2 #[.int .i64 14, .int .i64 0, .int .i64 0, .int .i64 0, .bool false, .string ⟨#[]⟩, .string ⟨#[]⟩] := HG1.out.stay k2
  clear a0 a1 a2 a3 a4 a5 a6 f0 f1 f2 f3 f4 f5 f6 r0 r1 r2 r3 r4 r5 r6 q0 q1 q2 q3 q4 q5 q6 c0 c1 c2 k2
  obtain ⟨⟨a0, a1, a2, a3, a4, a5, a6⟩, f0, f1, f2, f3, f4, f5, f6⟩ := ans_open G2.ab
  obtain ⟨⟨r0, r1, r2, r3, r4, r5, r6⟩, q0, q1, q2, q3, q4, q5, q6⟩ := ans_open G2.rb
  have c0 := G2.w0
  have c1 := G2.w1
  have c2 := G2.w2
  have HG2 := hide G2
  clear G2
  go_wp2_with fail
  refine (HN2.out _ (HG2.out.set 2 (.int .i64 v2)).keep).mono ?_
  rintro e w3 ⟨⟨v3, er3, rfl, hv3⟩, k3⟩
  have HV3 := hide hv3
  clear hv3
  have G3 : GS w w3 g x0 x1 x2 #[.int .i64 14, .int .i64 0, .int .i64 v2, .int .i64 0, .bool false, .string ⟨#[]⟩, .string ⟨#[]⟩] := (HG2.out.set 2 (.int .i64 v2)).stay k3
  clear a0 a1 a2 a3 a4 a5 a6 f0 f1 f2 f3 f4 f5 f6 r0 r1 r2 r3 r4 r5 r6 q0 q1 q2 q3 q4 q5 q6 c0 c1 c2 k3
  obtain ⟨⟨a0, a1, a2, a3, a4, a5, a6⟩, f0, f1, f2, f3, f4, f5, f6⟩ := ans_open G3.ab
  obtain ⟨⟨r0, r1, r2, r3, r4, r5, r6⟩, q0, q1, q2, q3, q4, q5, q6⟩ := ans_open G3.rb
  have c0 := G3.w0
  have c1 := G3.w1
  have c2 := G3.w2
  have HG3 := hide G3
  clear G3
  go_wp2_with fail
  have G9 := (HG3.out.set 3 (.int .i64 v3))
  refine ans_set (P := bodyPost Tryd.prog _ _ Exit.ret _) G9.rb G9.keep (Nat.le_refl _) (fun w9 hb9 k9 => ?_)
  obtain ⟨⟨d0, d1, d2, d3, d4, d5, d6⟩, -⟩ := ans_open hb9
  refine bodyPost_ret (v := .agg #[.int .i64 14, .int .i64 0, .int .i64 v2, .int .i64 v3, .bool false, .string ⟨#[]⟩, .string ⟨#[]⟩]) (by simp [results, Tryd.results17, go_sem, d0, d1, d2, d3, d4, d5, d6]) rfl ?_
  exact ⟨⟨_, rfl, _, _, _, _, _, _, rfl, ⟨by omega, by omega⟩, HV2.out.1, HV3.out.1, Nat.zero_le _, Nat.zero_le _, (by unfold GX; rw [if_neg hne]; refine ⟨rfl, ?_⟩; simp; exact ⟨HV2.out, HV3.out⟩)⟩, k9⟩
set_option maxRecDepth 100000 in
set_option maxHeartbeats 2000000 in
theorem guess_6 (op : Int) (B o n : Nat) (ws : List ByteArray) (hl : ws.length = n) (w : World) (hc : ∀ j u, (ws.map Value.string)[j]? = some u → w.cell? ⟨B, o + j, none⟩ = some u) (hn : n ≤ 8388608) (he : ErrW w) (x0 x1 x2 : ByteArray) (r : List ByteArray)
    (hx : ws ++ emp3 = x0 :: x1 :: x2 :: r) (h0 : x0.size ≤ 8388608) (h1 : x1.size ≤ 8388608) (h2 : x2.size ≤ 8388608) (y0 : (x0.toList == [101, 114, 114, 111, 114]) = false) (hne : x0 ≠ errB) (ho : op = 6) : Calls Tryd.prog 17 #[.int .i64 op, .slice (some ⟨B, o, none⟩) n n] w fun e w' => (∃ v, e = .returned v ∧ Guess op x0 x1 x2 v) ∧ Keeps w w' (fun _ => False) := by
  subst ho
  obtain ⟨g, cap, w1, hap, hg⟩ := guess_start 6 B o n ws hl w hc hn
  have G1 := hg x0 x1 x2 r hx
  have hne1 := G1.ne.1
  have hne2 := G1.ne.2
  have E0 := hide (he.keeps G1.keep)
  obtain ⟨⟨a0, a1, a2, a3, a4, a5, a6⟩, f0, f1, f2, f3, f4, f5, f6⟩ := ans_open G1.ab
  obtain ⟨⟨r0, r1, r2, r3, r4, r5, r6⟩, q0, q1, q2, q3, q4, q5, q6⟩ := ans_open G1.rb
  have c0 := G1.w0
  have c1 := G1.w1
  have c2 := G1.w2
  have HG1 := hide G1
  have hN0 := fun (W : World) (k : Keeps w W (fun _ => False)) => number_any x0 h0 W (he.keeps k)
  have HN0 := hide hN0
  have hB0 := fun (W : World) => bytes_any x0 h0 W
  clear hN0
  have hN1 := fun (W : World) (k : Keeps w W (fun _ => False)) => number_any x1 h1 W (he.keeps k)
  have HN1 := hide hN1
  have hB1 := fun (W : World) => bytes_any x1 h1 W
  clear hN1
  have hN2 := fun (W : World) (k : Keeps w W (fun _ => False)) => number_any x2 h2 W (he.keeps k)
  have HN2 := hide hN2
  have hB2 := fun (W : World) => bytes_any x2 h2 W
  clear hN2
  clear hg hc he hx G1
  go_enter Tryd.func17, Tryd.ntmps17
  go_wp2_with (at_builtin; have _t := hap; refine app_run _ rfl (.tmp 11) (.tmp 12) 34 rfl rfl rfl hap ?_; clear hap)
  have G9 := HG1.out
  refine ans_set (P := bodyPost Tryd.prog _ _ Exit.ret _) G9.rb G9.keep (Nat.le_refl _) (fun w9 hb9 k9 => ?_)
  obtain ⟨⟨d0, d1, d2, d3, d4, d5, d6⟩, -⟩ := ans_open hb9
  refine bodyPost_ret (v := .agg #[.int .i64 6, .int .i64 0, .int .i64 0, .int .i64 0, .bool false, .string ⟨#[]⟩, .string ⟨#[]⟩]) (by simp [results, Tryd.results17, go_sem, d0, d1, d2, d3, d4, d5, d6]) rfl ?_
  exact ⟨⟨_, rfl, _, _, _, _, _, _, rfl, ⟨by omega, by omega⟩, ⟨by omega, by omega⟩, ⟨by omega, by omega⟩, Nat.zero_le _, Nat.zero_le _, (by unfold GX; rw [if_neg hne]; simp)⟩, k9⟩
set_option maxRecDepth 100000 in
set_option maxHeartbeats 2000000 in
theorem guess_10 (op : Int) (B o n : Nat) (ws : List ByteArray) (hl : ws.length = n) (w : World) (hc : ∀ j u, (ws.map Value.string)[j]? = some u → w.cell? ⟨B, o + j, none⟩ = some u) (hn : n ≤ 8388608) (he : ErrW w) (x0 x1 x2 : ByteArray) (r : List ByteArray)
    (hx : ws ++ emp3 = x0 :: x1 :: x2 :: r) (h0 : x0.size ≤ 8388608) (h1 : x1.size ≤ 8388608) (h2 : x2.size ≤ 8388608) (y0 : (x0.toList == [101, 114, 114, 111, 114]) = false) (hne : x0 ≠ errB) (ho : op = 10) : Calls Tryd.prog 17 #[.int .i64 op, .slice (some ⟨B, o, none⟩) n n] w fun e w' => (∃ v, e = .returned v ∧ Guess op x0 x1 x2 v) ∧ Keeps w w' (fun _ => False) := by
  subst ho
  obtain ⟨g, cap, w1, hap, hg⟩ := guess_start 10 B o n ws hl w hc hn
  have G1 := hg x0 x1 x2 r hx
  have hne1 := G1.ne.1
  have hne2 := G1.ne.2
  have E0 := hide (he.keeps G1.keep)
  obtain ⟨⟨a0, a1, a2, a3, a4, a5, a6⟩, f0, f1, f2, f3, f4, f5, f6⟩ := ans_open G1.ab
  obtain ⟨⟨r0, r1, r2, r3, r4, r5, r6⟩, q0, q1, q2, q3, q4, q5, q6⟩ := ans_open G1.rb
  have c0 := G1.w0
  have c1 := G1.w1
  have c2 := G1.w2
  have HG1 := hide G1
  have hN0 := fun (W : World) (k : Keeps w W (fun _ => False)) => number_any x0 h0 W (he.keeps k)
  have HN0 := hide hN0
  have hB0 := fun (W : World) => bytes_any x0 h0 W
  clear hN0
  have hN1 := fun (W : World) (k : Keeps w W (fun _ => False)) => number_any x1 h1 W (he.keeps k)
  have HN1 := hide hN1
  have hB1 := fun (W : World) => bytes_any x1 h1 W
  clear hN1
  have hN2 := fun (W : World) (k : Keeps w W (fun _ => False)) => number_any x2 h2 W (he.keeps k)
  have HN2 := hide hN2
  have hB2 := fun (W : World) => bytes_any x2 h2 W
  clear hN2
  clear hg hc he hx G1
  go_enter Tryd.func17, Tryd.ntmps17
  go_wp2_with (at_builtin; have _t := hap; refine app_run _ rfl (.tmp 11) (.tmp 12) 34 rfl rfl rfl hap ?_; clear hap)
  have G9 := HG1.out
  refine ans_set (P := bodyPost Tryd.prog _ _ Exit.ret _) G9.rb G9.keep (Nat.le_refl _) (fun w9 hb9 k9 => ?_)
  obtain ⟨⟨d0, d1, d2, d3, d4, d5, d6⟩, -⟩ := ans_open hb9
  refine bodyPost_ret (v := .agg #[.int .i64 10, .int .i64 0, .int .i64 0, .int .i64 0, .bool false, .string ⟨#[]⟩, .string ⟨#[]⟩]) (by simp [results, Tryd.results17, go_sem, d0, d1, d2, d3, d4, d5, d6]) rfl ?_
  exact ⟨⟨_, rfl, _, _, _, _, _, _, rfl, ⟨by omega, by omega⟩, ⟨by omega, by omega⟩, ⟨by omega, by omega⟩, Nat.zero_le _, Nat.zero_le _, (by unfold GX; rw [if_neg hne]; simp)⟩, k9⟩
set_option maxRecDepth 100000 in
set_option maxHeartbeats 2000000 in
theorem guess_x (op : Int) (B o n : Nat) (ws : List ByteArray) (hl : ws.length = n) (w : World) (hc : ∀ j u, (ws.map Value.string)[j]? = some u → w.cell? ⟨B, o + j, none⟩ = some u) (hn : n ≤ 8388608) (he : ErrW w) (x0 x1 x2 : ByteArray) (r : List ByteArray)
    (hx : ws ++ emp3 = x0 :: x1 :: x2 :: r) (h0 : x0.size ≤ 8388608) (h1 : x1.size ≤ 8388608) (h2 : x2.size ≤ 8388608) (y0 : (x0.toList == [101, 114, 114, 111, 114]) = false) (hne : x0 ≠ errB) (ho : op ≠ 2 ∧ op ≠ 3 ∧ op ≠ 4 ∧ op ≠ 9 ∧ op ≠ 14 ∧ op ≠ 6 ∧ op ≠ 10) : Calls Tryd.prog 17 #[.int .i64 op, .slice (some ⟨B, o, none⟩) n n] w fun e w' => (∃ v, e = .returned v ∧ Guess op x0 x1 x2 v) ∧ Keeps w w' (fun _ => False) := by
  have o2 : (op == 2) = false := by simp; omega
  have o3 : (op == 3) = false := by simp; omega
  have o4 : (op == 4) = false := by simp; omega
  have o9 : (op == 9) = false := by simp; omega
  have o14 : (op == 14) = false := by simp; omega
  have o6 : (op == 6) = false := by simp; omega
  have o10 : (op == 10) = false := by simp; omega
  obtain ⟨g, cap, w1, hap, hg⟩ := guess_start op B o n ws hl w hc hn
  have G1 := hg x0 x1 x2 r hx
  have hne1 := G1.ne.1
  have hne2 := G1.ne.2
  have E0 := hide (he.keeps G1.keep)
  obtain ⟨⟨a0, a1, a2, a3, a4, a5, a6⟩, f0, f1, f2, f3, f4, f5, f6⟩ := ans_open G1.ab
  obtain ⟨⟨r0, r1, r2, r3, r4, r5, r6⟩, q0, q1, q2, q3, q4, q5, q6⟩ := ans_open G1.rb
  have c0 := G1.w0
  have c1 := G1.w1
  have c2 := G1.w2
  have HG1 := hide G1
  have hN0 := fun (W : World) (k : Keeps w W (fun _ => False)) => number_any x0 h0 W (he.keeps k)
  have HN0 := hide hN0
  have hB0 := fun (W : World) => bytes_any x0 h0 W
  clear hN0
  have hN1 := fun (W : World) (k : Keeps w W (fun _ => False)) => number_any x1 h1 W (he.keeps k)
  have HN1 := hide hN1
  have hB1 := fun (W : World) => bytes_any x1 h1 W
  clear hN1
  have hN2 := fun (W : World) (k : Keeps w W (fun _ => False)) => number_any x2 h2 W (he.keeps k)
  have HN2 := hide hN2
  have hB2 := fun (W : World) => bytes_any x2 h2 W
  clear hN2
  clear hg hc he hx G1
  go_enter Tryd.func17, Tryd.ntmps17
  go_wp2_with (at_builtin; have _t := hap; refine app_run _ rfl (.tmp 11) (.tmp 12) 34 rfl rfl rfl hap ?_; clear hap)
  refine (HN0.out _ HG1.out.keep).mono ?_
  rintro e w2 ⟨⟨v2, er2, rfl, hv2⟩, k2⟩
  have HV2 := hide hv2
  clear hv2
  have G2 : GS w w2 g x0 x1 x2 #[.int .i64 op, .int .i64 0, .int .i64 0, .int .i64 0, .bool false, .string ⟨#[]⟩, .string ⟨#[]⟩] := HG1.out.stay k2
  clear a0 a1 a2 a3 a4 a5 a6 f0 f1 f2 f3 f4 f5 f6 r0 r1 r2 r3 r4 r5 r6 q0 q1 q2 q3 q4 q5 q6 c0 c1 c2 k2
  obtain ⟨⟨a0, a1, a2, a3, a4, a5, a6⟩, f0, f1, f2, f3, f4, f5, f6⟩ := ans_open G2.ab
  obtain ⟨⟨r0, r1, r2, r3, r4, r5, r6⟩, q0, q1, q2, q3, q4, q5, q6⟩ := ans_open G2.rb
  have c0 := G2.w0
  have c1 := G2.w1
  have c2 := G2.w2
  have HG2 := hide G2
  clear G2
  go_wp2_with fail
  have G9 := (HG2.out.set 2 (.int .i64 v2))
  refine ans_set (P := bodyPost Tryd.prog _ _ Exit.ret _) G9.rb G9.keep (Nat.le_refl _) (fun w9 hb9 k9 => ?_)
  obtain ⟨⟨d0, d1, d2, d3, d4, d5, d6⟩, -⟩ := ans_open hb9
  refine bodyPost_ret (v := .agg #[.int .i64 op, .int .i64 0, .int .i64 v2, .int .i64 0, .bool false, .string ⟨#[]⟩, .string ⟨#[]⟩]) (by simp [results, Tryd.results17, go_sem, d0, d1, d2, d3, d4, d5, d6]) rfl ?_
  exact ⟨⟨_, rfl, _, _, _, _, _, _, rfl, ⟨by omega, by omega⟩, HV2.out.1, ⟨by omega, by omega⟩, Nat.zero_le _, Nat.zero_le _, (by unfold GX; rw [if_neg hne]; refine ⟨rfl, ?_⟩; obtain ⟨o2, o3, o4, o9, o14, o6, o10⟩ := ho; rw [if_neg o2, if_neg o3, if_neg o4, if_neg o9, if_neg o14, if_neg o6, if_neg o10]; exact ⟨HV2.out, rfl, rfl, rfl, rfl⟩)⟩, k9⟩
theorem guess_any (op : Int) (B o n : Nat) (ws : List ByteArray) (hl : ws.length = n) (w : World) (hc : ∀ j u, (ws.map Value.string)[j]? = some u → w.cell? ⟨B, o + j, none⟩ = some u) (hn : n ≤ 8388608) (he : ErrW w) (x0 x1 x2 : ByteArray) (r : List ByteArray)
    (hx : ws ++ emp3 = x0 :: x1 :: x2 :: r) (h0 : x0.size ≤ 8388608) (h1 : x1.size ≤ 8388608) (h2 : x2.size ≤ 8388608) : Calls Tryd.prog 17 #[.int .i64 op, .slice (some ⟨B, o, none⟩) n n] w fun e w' => (∃ v, e = .returned v ∧ Guess op x0 x1 x2 v) ∧ Keeps w w' (fun _ => False) := by
  by_cases hxe : x0 = ⟨#[101, 114, 114, 111, 114]⟩
  · exact guess_err op B o n ws hl w hc hn he x0 x1 x2 r hx h0 h1 h2 hxe
  · have y0 : (x0.toList == [101, 114, 114, 111, 114]) = false := by
      have h := str_no hxe
      rw [show (⟨#[101, 114, 114, 111, 114]⟩ : ByteArray).toList = [101, 114, 114, 111, 114] from by simp [ByteArray.toList_eq]] at h
      exact h
    by_cases i2 : op = 2
    · exact guess_2 op B o n ws hl w hc hn he x0 x1 x2 r hx h0 h1 h2 y0 hxe i2
    by_cases i3 : op = 3
    · exact guess_3 op B o n ws hl w hc hn he x0 x1 x2 r hx h0 h1 h2 y0 hxe i3
    by_cases i4 : op = 4
    · exact guess_4 op B o n ws hl w hc hn he x0 x1 x2 r hx h0 h1 h2 y0 hxe i4
    by_cases i9 : op = 9
    · exact guess_9 op B o n ws hl w hc hn he x0 x1 x2 r hx h0 h1 h2 y0 hxe i9
    by_cases i14 : op = 14
    · exact guess_14 op B o n ws hl w hc hn he x0 x1 x2 r hx h0 h1 h2 y0 hxe i14
    by_cases i6 : op = 6
    · exact guess_6 op B o n ws hl w hc hn he x0 x1 x2 r hx h0 h1 h2 y0 hxe i6
    by_cases i10 : op = 10
    · exact guess_10 op B o n ws hl w hc hn he x0 x1 x2 r hx h0 h1 h2 y0 hxe i10
    exact guess_x op B o n ws hl w hc hn he x0 x1 x2 r hx h0 h1 h2 y0 hxe ⟨i2, i3, i4, i9, i14, i6, i10⟩
end Go.Proofs.YtomlmbhbadicbaaDoor

