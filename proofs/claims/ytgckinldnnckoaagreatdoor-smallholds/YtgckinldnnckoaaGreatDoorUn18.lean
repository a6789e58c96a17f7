import Derived.SizedLaws
import Derived.Deep.Slices
import Derived.Deep.SlicePairs
import Derived.Lib.SmallJoins
import Derived.ChangeOld
import Derived.Test.YtgckinldnnckoaaGreatDoorUn17
/-
  What came in for the statements of stage 11: a Plan (made by gensraw.py).
-/
namespace Go.Proofs.YtgckinldnnckoaaGreatDoor
open Go.ChangeShapes Go.WideShapes Go.ChangeAt Go.WideMaps Go.WideElems Go.RowKit Ly Ct
set_option linter.unusedVariables false
set_option maxRecDepth 100000

theorem array4 {α : Type} {cs : Array α} (h : cs.size = 4) : ∃ c0 c1 c2 c3, cs = #[c0, c1, c2, c3] := by
  obtain ⟨l⟩ := cs
  match l, h with
  | [c0, c1, c2, c3], _ => exact ⟨c0, c1, c2, c3, rfl⟩
theorem plain_cell {w : World} {a : Addr} {v : Value} (h : w.cell? (a.add 0) = some v) : ∃ bb oo, a = ⟨bb, oo, none⟩ ∧ bb < w.heap.size := by
  obtain ⟨bb, oo, sp⟩ := a
  have h' : w.cell? ⟨bb, oo, sp⟩ = some v := h
  have hlt : bb < w.heap.size := by
    rcases Nat.lt_or_ge bb w.heap.size with h1 | h1
    · exact h1
    · simp [World.cell?, Array.getElem?_eq_none h1] at h'
  cases sp with
  | none => exact ⟨bb, oo, rfl, hlt⟩
  | some s =>
    exfalso
    unfold World.cell? at h'
    split at h' <;> simp at h'
/-- A list of five numbers lies there. -/
def Five (w : World) (a : Option Addr) : Prop := ∃ (g o : Nat) (k e x b c : Int), a = some ⟨g, o, none⟩ ∧ w.cell? ⟨g, o, none⟩ = some (.int .i64 k) ∧ w.cell? ⟨g, o + 1, none⟩ = some (.int .i64 e) ∧ w.cell? ⟨g, o + 2, none⟩ = some (.int .i64 x) ∧ w.cell? ⟨g, o + 3, none⟩ = some (.int .i64 b) ∧ w.cell? ⟨g, o + 4, none⟩ = some (.int .i64 c)
/-- A row of turns: kind, key, elem. -/
def TurnsIn (w : World) (a : Option Addr) (ss : List (Int × Int × Int)) : Prop := ss = [] ∨ ∃ b o, a = some ⟨b, o, none⟩ ∧ ∀ i (h : i < ss.length), w.cell? ⟨b, o + i * 3, none⟩ = some (.int .i64 ss[i].1) ∧ w.cell? ⟨b, o + i * 3 + 1, none⟩ = some (.int .i64 ss[i].2.1) ∧ w.cell? ⟨b, o + i * 3 + 2, none⟩ = some (.int .i64 ss[i].2.2)
instance : Inhabited Oc.Ovr := ⟨((⟨#[]⟩, 0) : ByteArray × Nat)⟩
section
variable {H : Type} {enc : TypeId × Value → H} {w : World} {held : Bool}
theorem fields_open {n : Nat} {v0 : Value} {x : DataW H × List MemPlace} (h : DataW.trod enc Tryz.prog w 0 (fun _ => true) held n 22 [v0] = some x) :
    ∃ (a : Option Addr) (len cap : Nat), v0 = .slice a len cap ∧ (len = 5 → Five w a) := by
  rcases Go.Deep.open_slice1 Tryz.underlying22 (by kernel_rfl) h with ⟨hcs, _⟩ | ⟨a, len, cap, m, n', V, D, Pl, hcs, _, hl, hm, hmm, hy, hx⟩
  · simp at hcs
    exact ⟨none, 0, 0, hcs, fun e => by omega⟩
  · simp at hcs
    have hmc : m = cap := by simpa using hmm
    subst hmc
    refine ⟨some a, len, m, hcs, fun e => ?_⟩
    have hc : ∀ i, i < len → ∃ z : Int, w.cell? (a.add i) = some (.int .i64 z) := fun i hi => by
      obtain ⟨g1, g2⟩ := hx i (by omega)
      obtain ⟨z, e, _, hw⟩ := DataW.trod_int Tryz.underlying3 g2
      simp at e
      exact ⟨z, by rw [g1, e]⟩
    obtain ⟨z0, h0⟩ := hc 0 (by omega)
    obtain ⟨z1, h1⟩ := hc 1 (by omega)
    obtain ⟨z2, h2⟩ := hc 2 (by omega)
    obtain ⟨z3, h3⟩ := hc 3 (by omega)
    obtain ⟨z4, h4⟩ := hc 4 (by omega)
    obtain ⟨g, o, rfl, _⟩ := plain_cell h0
    exact ⟨g, o, z0, z1, z2, z3, z4, rfl, h0, h1, h2, h3, h4⟩

theorem turns_open {n : Nat} {v0 : Value} {x : DataW H × List MemPlace} (h : DataW.trod enc Tryz.prog w 0 (fun _ => true) held n 25 [v0] = some x) (hw : ∀ k ∈ x.1.weights Tryz.prog 25, k ≤ reachBytes) :
    ∃ (a : Option Addr) (cap : Nat) (ss : List (Int × Int × Int)), v0 = .slice a ss.length cap ∧ TurnsIn w a ss ∧ ss.length ≤ 8796093022208 ∧ ∀ x ∈ ss, fitsI x.1 ∧ fitsI x.2.1 ∧ fitsI x.2.2 := by
  rcases Go.Deep.open_slice Tryz.underlying25 h with ⟨hcs, hx⟩ | ⟨ad, len, cap, m, n', D, Pl, hcs, _, hl, hm, hmm, hx, hc⟩
  · simp at hcs
    exact ⟨none, 0, [], hcs, Or.inl rfl, by simp, fun x hx => by cases hx⟩
  · simp at hcs
    subst hx
    have ce : Tryz.prog.cellsOf 33 = 3 := by kernel_rfl
    have hmc : m = cap := by simpa using hmm
    have h47 : reachBytes = 140737488351232 := by decide
    have hby : Tryz.prog.bytesOf 33 = 24 := by kernel_rfl
    have hlw : len * 24 ≤ reachBytes := by
      have := hw (((List.map D (List.range len)).length + (List.map D ((List.range m).drop len)).length) * Tryz.prog.bytesOf 33) (by simp [DataW.weights, Tryz.underlying25])
      rw [hby, List.length_map, List.length_range] at this
      exact Nat.le_trans (Nat.mul_le_mul_right 24 (Nat.le_add_right len _)) this
    obtain ⟨f, hf⟩ := Go.Deep.choose_lt (α := Int × Int × Int) (n := len) (p := fun i q => w.cell? (ad.add (i * 3)) = some (.int .i64 q.1) ∧ w.cell? (ad.add (i * 3 + 1)) = some (.int .i64 q.2.1) ∧ w.cell? (ad.add (i * 3 + 2)) = some (.int .i64 q.2.2) ∧ fitsI q.1 ∧ fitsI q.2.1 ∧ fitsI q.2.2) (fun i hi => by
      obtain ⟨cs', h1, h2⟩ := hc i (by omega)
      rw [ce] at h1
      obtain ⟨_, hlen, hcell⟩ := World.cells?_some h1
      obtain ⟨xs, k, hk, hxy, _, hxl, hf⟩ := DataW.trod_struct Tryz.underlying33 h2
      match xs, hxl, cs', hlen with
      | [y0, y1, y2], _, [v0, v1, v2], _ =>
        have g0 := hf 0 _ rfl
        have g1 := hf 1 _ rfl
        have g2 := hf 2 _ rfl
        have z3 : Tryz.prog.cellsOf 3 = 1 := by kernel_rfl
        simp [z3] at g0 g1 g2
        have e0 := hcell 0 (by omega)
        have e1 := hcell 1 (by omega)
        have e2 := hcell 2 (by omega)
        rw [Go.Deep.add_add] at e0 e1 e2
        obtain ⟨X0, u0, _, q0⟩ := DataW.trod_int Tryz.underlying3 g0
        obtain ⟨X1, u1, _, q1⟩ := DataW.trod_int Tryz.underlying3 g1
        obtain ⟨X2, u2, _, q2⟩ := DataW.trod_int Tryz.underlying3 g2
        simp only [List.cons.injEq, and_true] at u0 u1 u2
        subst u0 u1 u2
        exact ⟨(X0, X1, X2), by simpa using e0, by simpa using e1, by simpa using e2, q0, q1, q2⟩)
    have hlen : ((List.range len).map f).length = len := by simp
    refine ⟨some ad, cap, (List.range len).map f, by rw [hlen]; exact hcs, ?_, by rw [hlen]; omega, fun x hx => ?_⟩
    · by_cases hz : len = 0
      · left
        subst hz
        rfl
      · right
        obtain ⟨b, o, rfl, hb⟩ := plain_cell (w := w) (a := ad) (v := .int .i64 (f 0).1) (by have := (hf 0 (by omega)).1; simpa using this)
        refine ⟨b, o, rfl, fun j hj => ?_⟩
        have hj' : j < len := by rw [hlen] at hj; exact hj
        have e : ((List.range len).map f)[j] = f j := by simp
        rw [e]
        obtain ⟨c0, c1, c2, ok⟩ := hf j hj'
        rw [addr_add] at c0 c1 c2
        exact ⟨c0, by rw [Nat.add_assoc]; exact c1, by rw [Nat.add_assoc]; exact c2⟩
    · obtain ⟨i, hi, rfl⟩ := List.mem_map.1 hx
      exact (hf i (List.mem_range.1 hi)).2.2.2
theorem overs_open {n : Nat} {v0 : Value} {x : DataW H × List MemPlace} (hf : DataW.trod enc Tryz.prog w 0 (fun _ => true) held n 23 [v0] = some x) :
    ∃ (a : Option Addr) (cap : Nat) (os : List Oc.Ovr), v0 = .slice a os.length cap ∧ Oc.RowO w (.slice a os.length cap) os ∧ ∀ y ∈ os, y.2 < 18446744073709551616 := by
  rcases Go.Deep.open_slice_pairs Tryz.underlying23 Tryz.underlying126 (by kernel_rfl) rfl rfl (by kernel_rfl) (by kernel_rfl) hf with ⟨hcs, hx⟩ | ⟨ad, len, cap, m, n', V0, V1, D0, D1, P0, P1, hcs, _, hl, hm, hmm, hx, hc⟩
  · simp at hcs
    exact ⟨none, 0, [], hcs, Or.inl ⟨rfl, rfl⟩, fun y hy => by cases hy⟩
  · simp at hcs
    have hmc : m = cap := by simpa using hmm
    subst hmc
    obtain ⟨f, hf⟩ := Go.Deep.choose_lt (α := Oc.Ovr) (n := len) (p := fun i q => w.cell? (ad.add (2 * i)) = some (.string q.1) ∧ w.cell? (ad.add (2 * i + 1)) = some (.int .u64 (q.2 : Nat)) ∧ q.1.size ≤ maxLen ∧ q.2 < 18446744073709551616) (fun i hi => by
      obtain ⟨g1, g2, g3, g4⟩ := hc i (by omega)
      obtain ⟨s, e1, _, hs⟩ := DataW.trod_string Tryz.underlying9 g3
      obtain ⟨k, e2, _, hw⟩ := DataW.trod_int Tryz.underlying24 g4
      simp only [List.cons.injEq, and_true] at e1 e2
      obtain ⟨X, rfl, hX⟩ := Op.u64_nat hw
      rw [Nat.mul_comm i 2, e1] at g1
      rw [Nat.mul_comm i 2, e2] at g2
      exact ⟨((s, X) : ByteArray × Nat), g1, g2, hs, hX⟩)
    have hlen : ((List.range len).map f).length = len := by simp
    refine ⟨some ad, m, (List.range len).map f, by rw [hlen]; exact hcs, Or.inr ⟨ad, m, by rw [hlen], by rw [hlen]; exact hl, hm, fun j hj => ?_⟩, fun y hy => ?_⟩
    · have hj' : j < len := by rw [hlen] at hj; exact hj
      have e : ((List.range len).map f)[j] = f j := by simp
      rw [e]
      exact ⟨(hf j hj').1, (hf j hj').2.1, (hf j hj').2.2.1⟩
    · obtain ⟨i, hi, rfl⟩ := List.mem_map.1 hy
      exact (hf i (List.mem_range.1 hi)).2.2.2
theorem open_plan {r : Reach} {b0 : Nat} {v : Value} {d : DataW H} {q : List MemPlace} (hv : Value.okWide Tryz.prog w r b0 27 v) (h : DataW.Trod enc Tryz.prog w 0 (fun _ => true) held 27 v d q) (hw : ∀ k ∈ d.weights Tryz.prog 27, k ≤ reachBytes) :
    ∃ (a : Option Addr) (len cap : Nat) (oa : Option Addr) (oc : Nat) (os : List Oc.Ovr) (seed : Nat) (ta : Option Addr) (tc : Nat) (ss : List (Int × Int × Int)), v = .agg #[.slice a len cap, .slice oa os.length oc, .int .u64 (seed : Int), .slice ta ss.length tc] ∧ (len = 5 → Five w a) ∧ Oc.RowO w (.slice oa os.length oc) os ∧ (∀ y ∈ os, y.2 < 18446744073709551616) ∧ seed < 18446744073709551616 ∧ TurnsIn w ta ss ∧ ss.length ≤ 8796093022208 ∧ ∀ x ∈ ss, fitsI x.1 ∧ fitsI x.2.1 ∧ fitsI x.2.2 := by
  obtain ⟨cs, rfl, hsz⟩ := okWide_struct Tryz.underlying27 hv
  obtain ⟨c0, c1, c2, c3, rfl⟩ := array4 (hsz.trans (by kernel_rfl))
  obtain ⟨fuel, hf0⟩ := h
  have hf1 : DataW.trod enc Tryz.prog w 0 (fun _ => true) held fuel 27 [c0, c1, c2, c3] = some (d, q) := by simpa [Value.cells] using hf0
  obtain ⟨xs, m, _, hx, hl, hlen, hf⟩ := DataW.trod_struct Tryz.underlying27 hf1
  have hlen4 : xs.length = 4 := hlen
  have cI : Tryz.prog.cellsOf 22 = 1 := by kernel_rfl
  have cO : Tryz.prog.cellsOf 23 = 1 := by kernel_rfl
  have cU : Tryz.prog.cellsOf 24 = 1 := by kernel_rfl
  have cT : Tryz.prog.cellsOf 25 = 1 := by kernel_rfl
  match xs, hlen4 with
  | [y0, y1, y2, y3], _ =>
    have f0 : DataW.trod enc Tryz.prog w 0 (fun _ => true) held m 22 (([c0, c1, c2, c3].drop 0).take (Tryz.prog.cellsOf 22)) = some y0 := hf 0 _ rfl
    have f1 : DataW.trod enc Tryz.prog w 0 (fun _ => true) held m 23 (([c0, c1, c2, c3].drop 1).take (Tryz.prog.cellsOf 23)) = some y1 := hf 1 _ rfl
    have f2 : DataW.trod enc Tryz.prog w 0 (fun _ => true) held m 24 (([c0, c1, c2, c3].drop 2).take (Tryz.prog.cellsOf 24)) = some y2 := hf 2 _ rfl
    have f3 : DataW.trod enc Tryz.prog w 0 (fun _ => true) held m 25 (([c0, c1, c2, c3].drop 3).take (Tryz.prog.cellsOf 25)) = some y3 := hf 3 _ rfl
    rw [cI] at f0
    rw [cO] at f1
    rw [cU] at f2
    rw [cT] at f3
    have hd : d = DataW.agg [y0.1, y1.1, y2.1, y3.1] := by
      have := congrArg Prod.fst hx
      simpa using this
    subst hd
    have w3 : ∀ k ∈ y3.1.weights Tryz.prog 25, k ≤ reachBytes := fun k hk => hw k (by
      simp only [DataW.weights, Tryz.underlying27]
      exact DataW.weights_mem_each (j := 3) (t := 25) (d := y3.1) rfl rfl _ hk)
    obtain ⟨a, len, cap, e0, h5⟩ := fields_open f0
    obtain ⟨oa, oc, os, e1, H1, u1⟩ := overs_open f1
    obtain ⟨k2, e2, q2, z2⟩ := DataW.trod_int Tryz.underlying24 f2
    obtain ⟨seed, rfl, hsd⟩ := Op.u64_nat z2
    obtain ⟨ta, tc, ss, e3, H3, n3, u3⟩ := turns_open f3 w3
    simp at e2
    exact ⟨a, len, cap, oa, oc, os, seed, ta, tc, ss, by rw [e0, e1, e2, e3], h5, H1, u1, hsd, H3, n3, u3⟩
end
/-- The reference's Parse of what came in. -/
theorem parse_in {w : World} {a : Option Addr} {len cap : Nat} (h : len = 5 → Five w a) : ∃ (l : Lay) (E : Int), (E = 0 → validB l = true) ∧ ∀ W, Keeps w W (fun _ => False) → Calls Tryz.prog 13 #[.slice a len cap] W fun r w' => r = .returned (.tuple #[l.val, .int .i64 E]) ∧ Keeps W w' (fun _ => False) := by
  by_cases h5 : len = 5
  · obtain ⟨g, o, k, e, x, b, c, rfl, h0, h1, h2, h3, h4⟩ := h h5
    subst h5
    refine ⟨(Ly.parseD [k, e, x, b, c]).1, (Ly.parseD [k, e, x, b, c]).2, fun hE => ?_, fun W q => ?_⟩
    · by_cases hN : Ly.errN k e x b c = 0
      · have hP : Ly.parseD [k, e, x, b, c] = (Ly.laidD k e x b c, 0) := if_pos hN
        rw [hP]
        exact decide_eq_true ⟨hN, rfl⟩
      · have hP : Ly.parseD [k, e, x, b, c] = (Ly.Lay.zero, Ly.errN k e x b c) := if_neg hN
        rw [hP] at hE
        exact absurd hE hN
    · have hc : ∀ j v, w.cell? ⟨g, j, none⟩ = some v → W.cell? ⟨g, j, none⟩ = some v := fun j v hj => keeps_cell q id hj
      refine (Ly.ref_parse_five g o cap k e x b c W (hc _ _ h0) (hc _ _ h1) (hc _ _ h2) (hc _ _ h3) (hc _ _ h4)).mono ?_
      rintro r w' ⟨rfl, kp⟩
      exact ⟨rfl, Keeps.ofKp kp⟩
  · refine ⟨Ly.Lay.zero, 30, fun hE => by omega, fun W q => ?_⟩
    refine (Ly.ref_parse_wrong a len cap W h5).mono ?_
    rintro r w' ⟨rfl, kp⟩
    exact ⟨rfl, Keeps.ofKp kp⟩
theorem mapN_lt {os : List Oc.Ovr} (h : ∀ y ∈ os, y.2 < 18446744073709551616) : ∀ n, n ≤ os.length → ∀ k x, Oc.mapN os n k = some x → x < 18446744073709551616
  | 0, _, k, x, e => by cases e
  | n + 1, hn, k, x, e => by
    rw [Oc.mapN_succ os n (by omega)] at e
    unfold Oc.updS at e
    split at e
    · cases e
      exact h _ (List.getElem_mem _)
    · exact mapN_lt h n (by omega) k x e
end Go.Proofs.YtgckinldnnckoaaGreatDoor
