import Derived.Test.YtdnkjbbpfhegdaaGreatDoorRows
import Derived.SizedLaws
import Derived.Deep.SlicePairs
import Derived.WalkKit
import Derived.ProofKit
import Derived.OpenShut
import Derived.ShutString
import Derived.ChangeOld
import Derived.Below
import Derived.Carry
import Derived.Lib.SmallJoins
import Derived.Deep.Slices
import Derived.RangeFuncBox
import Derived.RangeFuncLeaves
import Derived.RangeFuncWrites
import Derived.RangeFuncNested
import Derived.Shelf.Abstract
import Derived.OwnWalkIn
import Derived.TacticsInMore
import Derived.LoopNIn
import Derived.LoopIn
import Derived.Sort.LoopGhostIn
import Derived.Test.YtdnkjbbpfhegdaaGreatDoorMf14
/-
  What the statements of stage 6 share: a row of steps that came in, a text of one byte, laid whatever the cell.
-/
namespace Go.Proofs.YtdnkjbbpfhegdaaGreatDoor
open Go.RowKit Go.Shelf Ly Ct
set_option linter.unusedVariables false

theorem rep_byte (u : UInt8) : ∀ j, rep ⟨#[u]⟩ j = strOf (same j u)
  | 0 => rfl
  | j + 1 => by
    show rep ⟨#[u]⟩ j ++ ⟨#[u]⟩ = _
    rw [rep_byte u j, ← same_succ]
    apply ByteArray.ext
    simp [strOf, ByteArray.data_append]
theorem wideD_byte (u : UInt8) (n : Nat) : wideD ⟨#[u]⟩ n = strOf (same n u) := by
  have h1 : wideS ⟨#[u]⟩ = ⟨#[u]⟩ := by unfold wideS; rw [if_neg (by show ¬ (1 = 0); omega)]
  unfold wideD
  rw [h1, rep_byte]
  have hs : (⟨#[u]⟩ : ByteArray).size = 1 := rfl
  rw [hs, show (n + 1 - 1) / 1 = n by simp]
  apply ByteArray.ext
  simp [strOf, same]

theorem Keeps.cellK {w w' : World} (k : Keeps w w' (fun _ => False)) {p : Addr} {v : Value} (h : w.cell? p = some v) : w'.cell? p = some v := by
  have : p.block < w.heap.size := by
    refine Nat.lt_of_not_le fun hn => ?_
    rw [World.cell?, Array.getElem?_eq_none hn] at h
    cases h
  exact (World.cell?_of_block (w := w) (k.block p.block this (fun x => x))).trans h
/-- A step, as data. -/
structure SD where
  k : Int
  i : Int
  t : Int
  b : Int
  x : ByteArray
def SD.ok (s : SD) : Prop := (Lit.int .i64 s.k).wf = true ∧ (Lit.int .i64 s.i).wf = true ∧ (Lit.int .i64 s.t).wf = true ∧ (-9223372036854775808 ≤ s.b ∧ s.b ≤ 9223372036854775807) ∧ s.x.size ≤ 140737488355328
/-- A row of steps, as it came in. -/
def RowS (w : World) (a : Option Addr) (ss : List SD) : Prop := ∀ j (hj : j < ss.length), ∃ b o, a = some ⟨b, o, none⟩ ∧ w.cell? ⟨b, o + j * 5, none⟩ = some (.int .i64 ss[j].k) ∧ w.cell? ⟨b, o + j * 5 + 1, none⟩ = some (.int .i64 ss[j].i) ∧ w.cell? ⟨b, o + j * 5 + 2, none⟩ = some (.int .i64 ss[j].t) ∧ w.cell? ⟨b, o + j * 5 + 3, none⟩ = some (.int .i64 ss[j].b) ∧ w.cell? ⟨b, o + j * 5 + 4, none⟩ = some (.string ss[j].x) ∧ ss[j].ok
theorem RowS.keeps {w w' : World} {a : Option Addr} {ss : List SD} (h : RowS w a ss) (k : Keeps w w' (fun _ => False)) : RowS w' a ss := fun j hj => by
  obtain ⟨b, o, h1, c0, c1, c2, c3, c4, c5⟩ := h j hj
  exact ⟨b, o, h1, k.cellK c0, k.cellK c1, k.cellK c2, k.cellK c3, k.cellK c4, c5⟩

theorem RowG.five {w : World} {b : Nat} {t : TypeId} {f : Nat → GC} (h : RowG w b t f) {k : Nat} (hk : k < 8) : w.cell? ⟨b, k * 5, none⟩ = some (.int .i64 (f k).kind) ∧ w.cell? ⟨b, k * 5 + 1, none⟩ = some (.int .i64 (f k).tag) ∧ w.cell? ⟨b, k * 5 + 2, none⟩ = some (.string (f k).key) ∧ w.cell? ⟨b, k * 5 + 3, none⟩ = some (.string (f k).elem) ∧ w.cell? ⟨b, k * 5 + 4, none⟩ = some (.int .i64 (f k).birth) := by
  have e : ∀ i, i < 5 → w.cell? ⟨b, k * 5 + i, none⟩ = some (atG f (5 * k + i)) := fun i hi => by
    rw [Nat.mul_comm k 5]
    exact (h.cell (by omega)).1
  have e0 := e 0 (by omega)
  have e1 := e 1 (by omega)
  have e2 := e 2 (by omega)
  have e3 := e 3 (by omega)
  have e4 := e 4 (by omega)
  rw [atG_at f k _ (by omega)] at e0 e1 e2 e3 e4
  exact ⟨e0, e1, e2, e3, e4⟩

theorem fits_nat {n : Nat} (h : n ≤ 100000) : fitsI (n : Int) := fitsI_mk (by omega) (by omega)

/-- The desk's own place among the blocks. -/
structure AtDesk (V wr : World) (p Bd : Nat) (l : Lay) (off : Nat) (en : Int) (d : AD) (c : Nat → GC) : Prop where
  own : Own V wr p (fun k => k = Bd) d
  desk : DeskD d l off c
  blk : wr.heap[Bd]? = some (.cells #[.pointer (some ⟨p, 0, none⟩), .int .i64 l.k, .int .i64 l.e, .int .i64 l.a, .int .i64 l.b, .int .i64 l.c, .int .i64 l.eo, .int .i64 l.bo, .int .i64 l.s, .int .i64 l.g, .int .i64 (off : Int), .int .i64 en] 31)
  ge : V.heap.size ≤ Bd
theorem AtDesk.lt {V wr : World} {p Bd : Nat} {l : Lay} {off : Nat} {en : Int} {d : AD} {c : Nat → GC} (h : AtDesk V wr p Bd l off en d c) : Bd < wr.heap.size := heap_lt h.blk
theorem AtDesk.stay {V wr w' : World} {p Bd : Nat} {l : Lay} {off : Nat} {en : Int} {d : AD} {c : Nat → GC} (h : AtDesk V wr p Bd l off en d c) (k : Keeps wr w' (fun _ => False)) : AtDesk V w' p Bd l off en d c :=
  ⟨h.own.stay k, h.desk, k.blk h.blk, h.ge⟩
theorem AtDesk.turn {V wr w' : World} {p Bd : Nat} {l : Lay} {off : Nat} {en : Int} {d d' : AD} {c c' : Nat → GC} (h : AtDesk V wr p Bd l off en d c) (ht : Turned wr w' p (fun k => (V.heap.size ≤ k ∧ ¬ k = Bd) ∧ k < wr.heap.size) d') (hd : DeskD d' l off c') : AtDesk V w' p Bd l off en d' c' :=
  ⟨h.own.turn ht (fun k e => by have := h.lt; omega), hd, (ht.2.block Bd h.lt (fun e => e.1.2 rfl)).trans h.blk, h.ge⟩
theorem AtDesk.make {V w1 : World} {p : Nat} {l : Lay} {off : Nat} {en : Int} {d : AD} {c : Nat → GC} (hO : Own V w1 p (fun _ => False) d) (hD : DeskD d l off c) :
    AtDesk V (w1.alloc (.cells #[.pointer (some ⟨p, 0, none⟩), .int .i64 l.k, .int .i64 l.e, .int .i64 l.a, .int .i64 l.b, .int .i64 l.c, .int .i64 l.eo, .int .i64 l.bo, .int .i64 l.s, .int .i64 l.g, .int .i64 (off : Int), .int .i64 en] 31)) p w1.heap.size l off en d c := by
  have h1 : Own V w1 p (fun k => k = w1.heap.size) d := ⟨hO.arena.mono (fun i hi e => ⟨e.1, by omega⟩), hO.keeps⟩
  exact ⟨h1.stay ((Keeps.refl _ _).alloc _), hD, heap_alloc_new _ _, hO.keeps.size⟩
theorem AtDesk.beside {V wr : World} {p Bd : Nat} {l : Lay} {off : Nat} {en : Int} {d : AD} {c : Nat → GC} (h : AtDesk V wr p Bd l off en d c) (ho : (off : Int) ≤ 100000) (hg : 0 ≤ l.g ∧ l.g ≤ 520) :
    (Calls Tryz.prog 72 #[.pointer (some ⟨p, 0, none⟩), .int .i64 ((off : Int) - l.g), .int .i64 l.g] wr fun e w' => ReadAPost wr (strOf (same l.g.toNat 165)) 0 e w') ∧
    (Calls Tryz.prog 72 #[.pointer (some ⟨p, 0, none⟩), .int .i64 ((off : Int) + l.g), .int .i64 l.g] wr fun e w' => ReadAPost wr (strOf (same l.g.toNat 165)) 0 e w') := by
  have hge := h.desk.ge
  have e1 : (off : Int) - l.g = ((off - l.g.toNat : Nat) : Int) := by omega
  have e2 : (off : Int) + l.g = ((off + l.g.toNat : Nat) : Int) := by omega
  have e3 : l.g = ((l.g.toNat : Nat) : Int) := by omega
  have g3 := h.desk.good3
  have g1 : d.goodB ((off - l.g.toNat : Nat) : Int) l.g = true := by
    have := good_sub g3 (x := 0) (m := l.g) (by omega) (by omega) (by omega)
    rwa [Int.add_zero] at this
  have g2 : d.goodB ((off + l.g.toNat : Nat) : Int) l.g = true := by
    have := good_sub g3 (x := 2 * l.g) (m := l.g) (by omega) (by omega) (by omega)
    rwa [show ((off - l.g.toNat : Nat) : Int) + 2 * l.g = ((off + l.g.toNat : Nat) : Int) by omega] at this
  have hb := h.desk.before
  have hh := h.desk.behind
  rw [← e3] at hb hh
  have r1 := own_read h.own h.desk.fine ((off - l.g.toNat : Nat) : Int) l.g (fitsI_mk (by omega) (by omega)) (fitsI_mk (by omega) (by omega))
  have r2 := own_read h.own h.desk.fine ((off + l.g.toNat : Nat) : Int) l.g (fitsI_mk (by omega) (by omega)) (fitsI_mk (by omega) (by omega))
  unfold readV at r1 r2
  rw [g1, if_pos rfl, hb] at r1
  rw [g2, if_pos rfl, hh] at r2
  rw [e1, e2]
  exact ⟨r1, r2⟩
end Go.Proofs.YtdnkjbbpfhegdaaGreatDoor
/-
  What came in for the statements of stage 6: a row of steps within a Raw.
-/
namespace Go.Proofs.YtdnkjbbpfhegdaaGreatDoor
open Go.ChangeShapes Go.WideShapes Go.ChangeAt Go.WideMaps Go.WideElems Go.RowKit
set_option linter.unusedVariables false

theorem add_lit (b o i : Nat) : (⟨b, o, none⟩ : Addr).add i = ⟨b, o + i, none⟩ := by simp [Addr.add]
theorem plain_of_cell {w : World} {a : Addr} {v : Value} (h : w.cell? (a.add 0) = some v) : ∃ bb oo, a = ⟨bb, oo, none⟩ ∧ bb < w.heap.size := by
  obtain ⟨bb, oo, sp⟩ := a
  have h' : w.cell? ⟨bb, oo, sp⟩ = some v := h
  have hlt : bb < w.heap.size := by
    rcases Nat.lt_or_ge bb w.heap.size with h1 | h1
    · exact h1
    · simp [World.cell?, Array.getElem?_eq_none h1] at h'
  cases sp with
  | none => exact ⟨bb, oo, rfl, hlt⟩
  | some s =>
    exfalso
    unfold World.cell? at h'
    split at h' <;> simp at h'
theorem weightsAll_mem' {H : Type} {P : Program} {e : TypeId} : ∀ {l : List (DataW H)} {d : DataW H}, d ∈ l → ∀ n ∈ d.weights P e, n ∈ DataW.weightsAll P e l
  | d0 :: r, d, h, n, hn => by
    simp only [DataW.weightsAll, List.mem_append]
    rcases List.mem_cons.1 h with rfl | h
    · exact Or.inl hn
    · exact Or.inr (weightsAll_mem' h n hn)
theorem five_string {H : Type} {P : Program} {t e : TypeId} {f0 f1 f2 f3 f4 : Field} {d0 d1 d2 d3 : DataW H} {bytes : List UInt8} {elems spare : List (DataW H)} (ht : P.underlying t = some (.slice e)) (he : P.underlying e = some (.struct #[f0, f1, f2, f3, f4]))
    (h : ∀ n ∈ (DataW.slice elems spare).weights P t, n ≤ reachBytes) (hd : DataW.agg [d0, d1, d2, d3, .lit (.string bytes)] ∈ elems) : bytes.length ≤ reachBytes := by
  apply h
  simp only [DataW.weights, ht, List.mem_cons, List.mem_append]
  refine Or.inr (Or.inl (weightsAll_mem' hd _ ?_))
  simp only [DataW.weights, he]
  exact DataW.weights_mem_each (j := 4) (t := f4.type) (d := .lit (.string bytes)) rfl rfl _ (by simp [DataW.weights])

instance : Inhabited SD := ⟨⟨0, 0, 0, 0, ⟨#[]⟩⟩⟩
theorem wf_bounds {b : Int} (h : (Lit.int .i64 b).wf = true) : -9223372036854775808 ≤ b ∧ b ≤ 9223372036854775807 := fitsI_bounds h
set_option maxRecDepth 100000 in
theorem open_steps {H : Type} {enc : TypeId × Value → H} {w : World} {held : Bool} {n : Nat} {cs : List Value} {y : DataW H × List MemPlace} (hf : DataW.trod enc Tryz.prog w 0 (fun _ => true) held n 22 cs = some y) (hw : ∀ n ∈ y.1.weights Tryz.prog 22, n ≤ reachBytes) :
    ∃ (a : Option Addr) (cap : Nat) (ss : List SD), cs = [.slice a ss.length cap] ∧ RowS w a ss ∧ ss.length ≤ 140737488355328 := by
  rcases Go.Deep.open_slice Tryz.underlying22 hf with ⟨hcs, hx⟩ | ⟨ad, len, cap, m, n', D, Pl, hcs, _, hl, hm, hmm, hx, hc⟩
  · exact ⟨none, 0, [], hcs, fun j hj => by simp at hj, by simp⟩
  · subst hx
    have ce : Tryz.prog.cellsOf 39 = 5 := by kernel_rfl
    have hmc : m = cap := by simpa using hmm
    have h47 : reachBytes = 140737488351232 := by decide
    have hby : Tryz.prog.bytesOf 39 = 48 := by kernel_rfl
    have hlw : len * 48 ≤ reachBytes := by
      have := hw (((List.map D (List.range len)).length + (List.map D ((List.range m).drop len)).length) * Tryz.prog.bytesOf 39) (by simp [DataW.weights, Tryz.underlying22])
      rw [hby, List.length_map, List.length_range] at this
      have h2 := Nat.le_trans (Nat.mul_le_mul_right 48 (Nat.le_add_right len _)) this
      exact h2
    obtain ⟨f, hf⟩ := Go.Deep.choose_lt (α := SD) (n := len) (p := fun i q => w.cell? (ad.add (i * 5)) = some (.int .i64 q.k) ∧ w.cell? (ad.add (i * 5 + 1)) = some (.int .i64 q.i) ∧ w.cell? (ad.add (i * 5 + 2)) = some (.int .i64 q.t) ∧ w.cell? (ad.add (i * 5 + 3)) = some (.int .i64 q.b) ∧ w.cell? (ad.add (i * 5 + 4)) = some (.string q.x) ∧ q.ok) (fun i hi => by
      obtain ⟨cs', h1, h2⟩ := hc i (by omega)
      rw [ce] at h1
      obtain ⟨_, hlen, hcell⟩ := World.cells?_some h1
      obtain ⟨xs, k, hk, hxy, _, hxl, hf⟩ := DataW.trod_struct Tryz.underlying39 h2
      match xs, hxl, cs', hlen with
      | [y0, y1, y2, y3, y4], _, [v0, v1, v2, v3, v4], _ =>
        have g0 := hf 0 _ rfl
        have g1 := hf 1 _ rfl
        have g2 := hf 2 _ rfl
        have g3 := hf 3 _ rfl
        have g4 := hf 4 _ rfl
        have z3 : Tryz.prog.cellsOf 3 = 1 := by kernel_rfl
        have z9 : Tryz.prog.cellsOf 9 = 1 := by kernel_rfl
        simp [z3, z9] at g0 g1 g2 g3 g4
        have e0 := hcell 0 (by omega)
        have e1 := hcell 1 (by omega)
        have e2 := hcell 2 (by omega)
        have e3 := hcell 3 (by omega)
        have e4 := hcell 4 (by omega)
        rw [Go.Deep.add_add] at e0 e1 e2 e3 e4
        simp only [Prod.mk.injEq] at hxy
        obtain ⟨X0, u0, _, q0⟩ := DataW.trod_int Tryz.underlying3 g0
        obtain ⟨X1, u1, _, q1⟩ := DataW.trod_int Tryz.underlying3 g1
        obtain ⟨X2, u2, _, q2⟩ := DataW.trod_int Tryz.underlying3 g2
        obtain ⟨X3, u3, _, q3⟩ := DataW.trod_int Tryz.underlying3 g3
        obtain ⟨X4, u4, u5, _⟩ := DataW.trod_string Tryz.underlying9 g4
        simp only [List.cons.injEq, and_true] at u0 u1 u2 u3 u4
        subst u0 u1 u2 u3 u4
        have hK : X4.data.toList.length ≤ reachBytes := by
          refine five_string (d0 := y0.1) (d1 := y1.1) (d2 := y2.1) (d3 := y3.1) Tryz.underlying22 Tryz.underlying39 hw ?_
          refine List.mem_map.2 ⟨i, List.mem_range.2 hi, ?_⟩
          rw [hxy.1, u5]
          rfl
        have hK2 : X4.data.toList.length = X4.size := rfl
        exact ⟨⟨X0, X1, X2, X3, X4⟩, by simpa using e0, by simpa using e1, by simpa using e2, by simpa using e3, by simpa using e4, q0, q1, q2, wf_bounds q3, by show X4.size ≤ _; omega⟩)
    have hlen : ((List.range len).map f).length = len := by simp
    refine ⟨some ad, cap, (List.range len).map f, by rw [hlen]; exact hcs, fun j hj => ?_, by rw [hlen]; omega⟩
    have hj' : j < len := by rw [hlen] at hj; exact hj
    have e : ((List.range len).map f)[j] = f j := by simp
    rw [e]
    obtain ⟨b, o, rfl, _⟩ := plain_of_cell (a := ad) (v := .int .i64 (f 0).k) (by have := (hf 0 (by omega)).1; simpa using this)
    obtain ⟨c0, c1, c2, c3, c4, ok⟩ := hf j hj'
    rw [add_lit] at c0 c1 c2 c3 c4
    exact ⟨b, o, rfl, c0, by rw [Nat.add_assoc]; exact c1, by rw [Nat.add_assoc]; exact c2, by rw [Nat.add_assoc]; exact c3, by rw [Nat.add_assoc]; exact c4, ok⟩
theorem raw_weights {H : Type} {y0 y1 y2 y3 : DataW H} {n : Nat} (hn : n ∈ y3.weights Tryz.prog 22) : n ∈ (DataW.agg [y0, y1, y2, y3]).weights Tryz.prog 24 := by
  simp only [DataW.weights, Tryz.underlying24]
  exact DataW.weights_mem_each (j := 3) (t := 22) (d := y3) rfl rfl _ hn
end Go.Proofs.YtdnkjbbpfhegdaaGreatDoor
/-
  What came in for GroupFinds: an Ask (a Raw, a tag and a text).
-/
namespace Go.Proofs.YtdnkjbbpfhegdaaGreatDoor
open Go.ChangeShapes Go.WideShapes Go.ChangeAt Go.WideMaps Go.WideElems Go.RowKit
set_option linter.unusedVariables false
set_option maxRecDepth 100000

theorem array6 {α : Type} {cs : Array α} (h : cs.size = 6) : ∃ c0 c1 c2 c3 c4 c5, cs = #[c0, c1, c2, c3, c4, c5] := by
  obtain ⟨l⟩ := cs
  match l, h with
  | [c0, c1, c2, c3, c4, c5], _ => exact ⟨c0, c1, c2, c3, c4, c5, rfl⟩
section
variable {H : Type} {enc : TypeId × Value → H} {w : World} {held : Bool}
/-- The four fields of a Raw. -/
theorem raw_fields {n : Nat} {v0 v1 v2 v3 : Value} {x : DataW H × List MemPlace} (h : DataW.trod enc Tryz.prog w 0 (fun _ => true) held n 24 [v0, v1, v2, v3] = some x) (hw : ∀ n ∈ x.1.weights Tryz.prog 24, n ≤ reachBytes) :
    ∃ (K E B : Int) (a : Option Addr) (cap : Nat) (ss : List SD), v0 = .int .i64 K ∧ v1 = .int .i64 E ∧ v2 = .int .i64 B ∧ v3 = .slice a ss.length cap ∧ (Lit.int .i64 K).wf = true ∧ (Lit.int .i64 E).wf = true ∧ (Lit.int .i64 B).wf = true ∧ RowS w a ss ∧ ss.length ≤ 140737488355328 := by
  obtain ⟨xs, m, _, rfl, hl, hlen, hf⟩ := DataW.trod_struct Tryz.underlying24 h
  have hlen4 : xs.length = 4 := hlen
  have c3 : Tryz.prog.cellsOf 3 = 1 := by kernel_rfl
  have cS : Tryz.prog.cellsOf 22 = 1 := by kernel_rfl
  match xs, hlen4 with
  | [y0, y1, y2, y3], _ =>
    have f0 : DataW.trod enc Tryz.prog w 0 (fun _ => true) held m 3 (([v0, v1, v2, v3].drop 0).take (Tryz.prog.cellsOf 3)) = some y0 := hf 0 _ rfl
    have f1 : DataW.trod enc Tryz.prog w 0 (fun _ => true) held m 3 (([v0, v1, v2, v3].drop 1).take (Tryz.prog.cellsOf 3)) = some y1 := hf 1 _ rfl
    have f2 : DataW.trod enc Tryz.prog w 0 (fun _ => true) held m 3 (([v0, v1, v2, v3].drop 2).take (Tryz.prog.cellsOf 3)) = some y2 := hf 2 _ rfl
    have f3 : DataW.trod enc Tryz.prog w 0 (fun _ => true) held m 22 (([v0, v1, v2, v3].drop 3).take (Tryz.prog.cellsOf 22)) = some y3 := hf 3 _ rfl
    rw [c3] at f0 f1 f2
    rw [cS] at f3
    obtain ⟨k0, e0, q0, w0⟩ := DataW.trod_int Tryz.underlying3 f0
    obtain ⟨k1, e1, q1, w1⟩ := DataW.trod_int Tryz.underlying3 f1
    obtain ⟨k2, e2, q2, w2⟩ := DataW.trod_int Tryz.underlying3 f2
    obtain ⟨a, cap, ss, e3, hrow, hlen⟩ := open_steps f3 (fun n hn => hw n (raw_weights hn))
    simp at e0 e1 e2 e3
    exact ⟨k0, k1, k2, a, cap, ss, e0, e1, e2, e3, w0, w1, w2, hrow, hlen⟩

theorem open_ask6 {r : Reach} {b0 : Nat} {v : Value} {d : DataW H} {q : List MemPlace} (hv : Value.okWide Tryz.prog w r b0 26 v) (h : DataW.Trod enc Tryz.prog w 0 (fun _ => true) held 26 v d q) (hw : ∀ n ∈ d.weights Tryz.prog 26, n ≤ reachBytes) :
    ∃ (K E B T : Int) (tx : ByteArray) (a : Option Addr) (cap : Nat) (ss : List SD), v = .agg #[.int .i64 K, .int .i64 E, .int .i64 B, .slice a ss.length cap, .int .i64 T, .string tx] ∧
      (Lit.int .i64 K).wf = true ∧ (Lit.int .i64 E).wf = true ∧ (Lit.int .i64 B).wf = true ∧ RowS w a ss ∧ ss.length ≤ 140737488355328 ∧ (Lit.int .i64 T).wf = true ∧ tx.size ≤ 140737488355328 := by
  obtain ⟨cs, rfl, hsz⟩ := okWide_struct Tryz.underlying26 hv
  obtain ⟨c0, c1, c2, c3, c4, c5, rfl⟩ := array6 (hsz.trans (by kernel_rfl))
  obtain ⟨fuel, hf0⟩ := h
  have hf1 : DataW.trod enc Tryz.prog w 0 (fun _ => true) held fuel 26 [c0, c1, c2, c3, c4, c5] = some (d, q) := by simpa [Value.cells] using hf0
  obtain ⟨xs, m, _, hx, hl, hlen, hf⟩ := DataW.trod_struct Tryz.underlying26 hf1
  have hlen3 : xs.length = 3 := hlen
  have c3' : Tryz.prog.cellsOf 3 = 1 := by kernel_rfl
  have c9' : Tryz.prog.cellsOf 9 = 1 := by kernel_rfl
  have cR : Tryz.prog.cellsOf 24 = 4 := by kernel_rfl
  have h47 : reachBytes = 140737488351232 := by decide
  match xs, hlen3 with
  | [y0, y1, y2], _ =>
    simp only [Prod.mk.injEq] at hx
    have f0 : DataW.trod enc Tryz.prog w 0 (fun _ => true) held m 24 (([c0, c1, c2, c3, c4, c5].drop 0).take (Tryz.prog.cellsOf 24)) = some y0 := hf 0 _ rfl
    have f1 : DataW.trod enc Tryz.prog w 0 (fun _ => true) held m 3 (([c0, c1, c2, c3, c4, c5].drop 4).take (Tryz.prog.cellsOf 3)) = some y1 := hf 1 _ rfl
    have f2 : DataW.trod enc Tryz.prog w 0 (fun _ => true) held m 9 (([c0, c1, c2, c3, c4, c5].drop 5).take (Tryz.prog.cellsOf 9)) = some y2 := hf 2 _ rfl
    rw [c3'] at f1
    rw [c9'] at f2
    rw [cR] at f0
    have hW : ∀ (j : Nat) (t : TypeId) (y : DataW H), [24, 3, 9][j]? = some t → [y0.1, y1.1, y2.1][j]? = some y → ∀ n ∈ y.weights Tryz.prog t, n ≤ reachBytes := fun j t y h1 h2 n hn => by
      refine hw n ?_
      rw [hx.1]
      simp only [DataW.weights, Tryz.underlying26]
      exact DataW.weights_mem_each (j := j) h1 h2 _ hn
    obtain ⟨K, E, B, a, cap, ss, e0, e1, e2, e3, w0, w1, w2, hrow, hlen⟩ := raw_fields f0 (hW 0 _ _ rfl rfl)
    obtain ⟨T, e4, _, w4⟩ := DataW.trod_int Tryz.underlying3 f1
    obtain ⟨tx, e5, u5, _⟩ := DataW.trod_string Tryz.underlying9 f2
    simp at e4 e5
    subst e0 e1 e2 e3 e4 e5
    have s5 : tx.data.toList.length ≤ reachBytes := hW 2 9 _ rfl rfl _ (by rw [u5]; simp [DataW.weights])
    have z5 : tx.data.toList.length = tx.size := rfl
    exact ⟨K, E, B, T, tx, a, cap, ss, rfl, w0, w1, w2, hrow, hlen, w4, by omega⟩
end
end Go.Proofs.YtdnkjbbpfhegdaaGreatDoor
/-
  take, and which cells it leaves alone.
-/
namespace Go.Proofs.YtdnkjbbpfhegdaaGreatDoor
open Go.RowKit Go.Shelf Ly Ct
set_option linter.unusedVariables false

/-- What a step leaves: a desk again; but its own slot (or all, where it prunes) the cells are as they were. -/
def Take6Stay (w : World) (p : Nat) (F : Nat → Prop) (l : Lay) (off : Nat) (sk si : Int) (c : Nat → GC) (e : Ending) (w' : World) : Prop := e = .returned (.bool true) ∧ ∃ d' c', Turned w w' p F d' ∧ DeskD d' l off c' ∧ (sk % 5 = 4 ∨ ∀ j : Nat, (j : Int) ≠ si % 8 → c' j = c j)
theorem take_stay {w : World} {p : Nat} {F : Nat → Prop} {d : AD} (hA : Arena w p F d) (hFl : ∀ k, F k → k < w.heap.size) (l : Lay) (off : Nat) (en : Int) (c : Nat → GC) (hD : DeskD d l off c) (ho : fitsI (off : Int)) (hn : fitsI l.g)
    (sk si st sb : Int) (sx : ByteArray) (hk : (Lit.int .i64 sk).wf = true) (hi : (Lit.int .i64 si).wf = true) (ht : (Lit.int .i64 st).wf = true) (hb : -9223372036854775808 ≤ sb ∧ sb ≤ 9223372036854775807) (hx : sx.size ≤ 140737488355328) :
    Calls Tryz.prog 7 #[.agg #[.pointer (some ⟨p, 0, none⟩), .int .i64 l.k, .int .i64 l.e, .int .i64 l.a, .int .i64 l.b, .int .i64 l.c, .int .i64 l.eo, .int .i64 l.bo, .int .i64 l.s, .int .i64 l.g, .int .i64 (off : Int), .int .i64 en], .agg #[.int .i64 sk, .int .i64 si, .int .i64 st, .int .i64 sb, .string sx]] w fun e w' => Take6Stay w p F l off sk si c e w' := by
  have hG := hD.grp
  have hvm := valid_more hG.valid
  obtain ⟨i, hie⟩ := Int.eq_ofNat_of_zero_le (show 0 ≤ si % 8 by omega)
  have hi8 : i < 8 := by omega
  have hi' : Mod6 si 8 (i : Int) := ⟨hi, by omega, by omega, hie⟩
  have h5 : sk % 5 = 0 ∨ sk % 5 = 1 ∨ sk % 5 = 2 ∨ sk % 5 = 3 ∨ sk % 5 = 4 := by omega
  rcases h5 with h | h | h | h | h
  · have hbd := birthD_in hb
    have hf := hG.fill hi8 (t := st % 128) (by omega) (by omega) (k := wideD sx l.k.toNat) (e := wideD (sx ++ ⟨#[45]⟩) l.e.toNat) (by rw [wideD_size]; omega) (by rw [wideD_size]; omega) hbd.1 hbd.2
    refine (take_fill hA hD.fine hD.small hFl l off en c hG ho hn sk si st sb sx hx hb ⟨hk, by omega, by omega, h⟩ i hi' hi8 (st % 128) ⟨ht, by omega, by omega, rfl⟩ (by omega) (by omega)).mono ?_
    rintro e w' ⟨rfl, T⟩
    exact ⟨rfl, _, _, T, hD.turn hf.2.1 hf.2.2, .inr (fun j hj => if_neg (fun e => hj (by rw [e, hie])))⟩
  · by_cases h2 : (c i).kind = 2
    · have hf := hG.setElem hi8 (e := wideD sx l.e.toNat) (by rw [wideD_size]; omega) h2
      refine (take_set_yes hA hD.fine hD.small hFl l off en c hG ho hn sk si st sb sx hx ⟨hk, by omega, by omega, h⟩ i hi' hi8 h2).mono ?_
      rintro e w' ⟨rfl, T⟩
      exact ⟨rfl, _, _, T, hD.turn hf.2.1 hf.2.2, .inr (fun j hj => if_neg (fun e => hj (by rw [e, hie])))⟩
    · refine (take_set_no hA hD.fine hD.small hFl l off en c hG ho hn sk si st sb sx hx ⟨hk, by omega, by omega, h⟩ i hi' hi8 h2).mono ?_
      rintro e w' ⟨rfl, T⟩
      exact ⟨rfl, _, _, T, hD, .inr (fun j _ => rfl)⟩
  · have hf := hG.erase hi8 false
    refine (take_erase hA hD.fine hFl l off en c hG ho hn sk si st sb sx ⟨hk, by omega, by omega, h⟩ i hi' hi8).mono ?_
    rintro e w' ⟨rfl, T⟩
    exact ⟨rfl, _, _, T, hD.turn hf.2.1 hf.2.2, .inr (fun j hj => if_neg (fun e => hj (by rw [e, hie])))⟩
  · have hf := hG.erase hi8 true
    refine (take_mark hA hD.fine hFl l off en c hG ho hn sk si st sb sx ⟨hk, by omega, by omega, h⟩ i hi' hi8).mono ?_
    rintro e w' ⟨rfl, T⟩
    exact ⟨rfl, _, _, T, hD.turn hf.2.1 hf.2.2, .inr (fun j hj => if_neg (fun e => hj (by rw [e, hie])))⟩
  · have hf := hG.prune
    refine (take_prune hA hD.fine hFl l off en c hG ho hn sk si st sb sx ⟨hk, by omega, by omega, h⟩ i hi').mono ?_
    rintro e w' ⟨rfl, T⟩
    exact ⟨rfl, _, _, T, hD.turn hf.2.2.1 hf.2.2.2, .inl h⟩

/-- A desk that a statement keeps in block Bd; the blocks X are none of the arena's. -/
structure AtX (V wr : World) (p Bd : Nat) (X : Nat → Prop) (l : Lay) (off : Nat) (en : Int) (d : AD) (c : Nat → GC) : Prop where
  own : Own V wr p X d
  desk : DeskD d l off c
  blk : wr.heap[Bd]? = some (.cells #[.pointer (some ⟨p, 0, none⟩), .int .i64 l.k, .int .i64 l.e, .int .i64 l.a, .int .i64 l.b, .int .i64 l.c, .int .i64 l.eo, .int .i64 l.bo, .int .i64 l.s, .int .i64 l.g, .int .i64 (off : Int), .int .i64 en] 31)
  mem : X Bd
  lt : ∀ k, X k → k < wr.heap.size
section
variable {V wr w' : World} {p Bd : Nat} {X : Nat → Prop} {l : Lay} {off : Nat} {en : Int} {d d' : AD} {c c' : Nat → GC}
theorem AtX.of (h : AtDesk V wr p Bd l off en d c) : AtX V wr p Bd (fun k => k = Bd) l off en d c := ⟨h.own, h.desk, h.blk, rfl, fun k e => by have := h.lt; omega⟩
theorem AtX.stay (h : AtX V wr p Bd X l off en d c) (k : Keeps wr w' (fun _ => False)) : AtX V w' p Bd X l off en d c :=
  ⟨h.own.stay k, h.desk, k.blk h.blk, h.mem, fun j hj => Nat.lt_of_lt_of_le (h.lt j hj) k.size⟩
theorem AtX.turn (h : AtX V wr p Bd X l off en d c) (ht : Turned wr w' p (fun k => (V.heap.size ≤ k ∧ ¬ X k) ∧ k < wr.heap.size) d') (hd : DeskD d' l off c') : AtX V w' p Bd X l off en d' c' :=
  ⟨h.own.turn ht h.lt, hd, (ht.2.block Bd (h.lt _ h.mem) (fun e => e.1.2 h.mem)).trans h.blk, h.mem, fun j hj => Nat.lt_of_lt_of_le (h.lt j hj) ht.2.size⟩
theorem AtX.add {b : Nat} (h : AtX V wr p Bd X l off en d c) (k : Keeps wr w' (fun _ => False)) (h1 : wr.heap.size ≤ b) (h2 : b < w'.heap.size) : AtX V w' p Bd (fun i => X i ∨ i = b) l off en d c := by
  have h3 : Own V wr p (fun i => X i ∨ i = b) d := ⟨h.own.arena.mono (fun i hi e => ⟨e.1, fun x => x.elim e.2 (fun e' => by omega)⟩), h.own.keeps⟩
  exact ⟨h3.stay k, h.desk, k.blk h.blk, Or.inl h.mem, fun j hj => hj.elim (fun q => Nat.lt_of_lt_of_le (h.lt j q) k.size) (fun q => by omega)⟩
theorem AtX.less {Y : Nat → Prop} (h : AtX V wr p Bd X l off en d c) (hY : ∀ k, Y k → X k) (hm : Y Bd) : AtX V wr p Bd Y l off en d c :=
  ⟨h.own.less (fun k _ _ y => hY k y), h.desk, h.blk, hm, fun k y => h.lt k (hY k y)⟩
theorem AtX.row {b : Nat} {t : TypeId} {f : Nat → GC} (hb : X b) (r : RowG wr b t f) (ht : Turned wr w' p (fun k => (V.heap.size ≤ k ∧ ¬ X k) ∧ k < wr.heap.size) d') : RowG w' b t f :=
  r.keeps ht.2 (fun e => e.1.2 hb)
end
end Go.Proofs.YtdnkjbbpfhegdaaGreatDoor
/-
  First: the lowest slot of a set, by the table of math/bits.
-/
namespace Go.Proofs.YtdnkjbbpfhegdaaGreatDoor.Ct
open Go.RowKit
set_option linter.unusedVariables false

def tabL : List Nat := [0, 1, 56, 2, 57, 49, 28, 3, 61, 58, 42, 50, 38, 29, 17, 4, 62, 47, 59, 36, 45, 43, 51, 22, 53, 39, 33, 30, 24, 18, 12, 5, 63, 55, 48, 27, 60, 41, 37, 16, 46, 35, 44, 21, 52, 32, 23, 11, 54, 26, 40, 15, 34, 20, 31, 10, 25, 14, 19, 9, 13, 8, 7, 6]
/-- The table where the program lays it. -/
def TabAt (w : World) : Prop := ∀ k, k < 64 → w.cell? ⟨0, k, none⟩ = some (.int .u8 ((tabL.getD k 0 : Nat) : Int))
theorem TabAt.kp {w w' : World} (h : TabAt w) (k : Kp w w') : TabAt w' := fun i hi => k.cell (h i hi)

/-- The lowest slot; 8: there is none. -/
def firM (m : Nat) : Nat := if m % 2 = 1 then 0 else if m / 2 % 2 = 1 then 1 else if m / 4 % 2 = 1 then 2 else if m / 8 % 2 = 1 then 3 else if m / 16 % 2 = 1 then 4 else if m / 32 % 2 = 1 then 5 else if m / 64 % 2 = 1 then 6 else if m / 128 % 2 = 1 then 7 else 8
def low1 (x : Int) : Int := bits BinOp.and IntKind.u64 x (IntKind.u64.wrap (-x))
def low2 (x : Int) : Int := IntKind.u64.wrap (x * 285870213051353865)
def low3 (x : Int) : Int := x / 288230376151711744
theorem low_all : ∀ m, m < 256 → 0 < m → (((spread m : Nat) : Int) == 0) = false ∧ 0 ≤ low3 (low2 (low1 ((spread m : Nat) : Int))) ∧ low3 (low2 (low1 ((spread m : Nat) : Int))) < 64 ∧ tabL.getD (low3 (low2 (low1 ((spread m : Nat) : Int)))).toNat 0 = 8 * firM m + 7 := by decide +kernel

set_option maxHeartbeats 400000 in
theorem tz_walk (X L P I V : Int) (w : World) (h0 : (X == 0) = false) (h1 : bits BinOp.and IntKind.u64 X (IntKind.u64.wrap (-X)) = L) (h2 : IntKind.u64.wrap (L * 285870213051353865) = P) (h3 : P / 288230376151711744 = I) (hI : 0 ≤ I) (hI' : I < 64)
    (hc : w.cell? ⟨0, I.toNat, none⟩ = some (.int .u8 V)) (hV : 0 ≤ V) (hV' : V < 64) :
    Calls Tryz.prog 119 #[.int .u64 X] w fun e w' => e = .returned (.int .i64 V) ∧ w' = w := by
  go_enter Tryz.func119, Tryz.ntmps119
  go_wp2_with fail
  go_ret
  exact ⟨rfl, rfl⟩

set_option maxHeartbeats 400000 in
theorem tz_zero (w : World) :
    Calls Tryz.prog 119 #[.int .u64 0] w fun e w' => e = .returned (.int .i64 64) ∧ w' = w := by
  go_enter Tryz.func119, Tryz.ntmps119
  go_wp2_with fail
  go_ret
  exact ⟨rfl, rfl⟩

theorem firM_lt : ∀ m, m < 256 → 0 < m → firM m < 8 := by decide +kernel
theorem firM_le : ∀ m, m < 256 → firM m ≤ 8 := by decide +kernel

set_option maxHeartbeats 400000 in
theorem first_walk (z t f : Int) (w : World) (hT : ∀ w', Kp w w' → Calls Tryz.prog 119 #[.int .u64 z] w' fun e w'' => e = .returned (.int .i64 t) ∧ w'' = w') (hf : wrap64 (t.tdiv 8) = f) :
    Calls Tryz.prog 71 #[.agg #[.int .u64 z]] w fun e w' => e = .returned (.int .i64 f) ∧ Kp w w' := by
  go_enter Tryz.func71, Tryz.ntmps71
  go_wp2_with fail
  refine (hT _ ((Kp.refl _).alloc _)).mono ?_
  rintro e w' ⟨rfl, rfl⟩
  go_wp2_with fail
  go_ret
  exact ⟨by rw [← hf]; rfl, (Kp.refl _).alloc _⟩

def FirstIs (z f : Int) : Prop := ∃ m, m < 256 ∧ z = ((spread m : Nat) : Int) ∧ f = ((firM m : Nat) : Int)
theorem first_is {z f : Int} (q : FirstIs z f) {w : World} (ht : TabAt w) :
    Calls Tryz.prog 71 #[.agg #[.int .u64 z]] w fun e w' => e = .returned (.int .i64 f) ∧ Kp w w' := by
  obtain ⟨m, hm, rfl, rfl⟩ := q
  by_cases h0 : 0 < m
  · obtain ⟨a1, a2, a3, a4⟩ := low_all m hm h0
    have hl := firM_lt m hm h0
    refine first_walk _ ((8 * firM m + 7 : Nat) : Int) _ w (fun w' k => tz_walk _ _ _ _ _ w' a1 rfl rfl rfl a2 a3 ?_ (by omega) (by omega)) ?_
    · rw [← a4]
      exact ht.kp k _ (by show Int.toNat (low3 (low2 (low1 ((spread m : Nat) : Int)))) < 64; omega)
    · rw [Int.tdiv_eq_ediv_of_nonneg (by omega)]
      unfold wrap64
      omega
  · obtain rfl : m = 0 := by omega
    exact first_walk 0 64 8 w (fun w' _ => tz_zero w') (by decide +kernel)
end Go.Proofs.YtdnkjbbpfhegdaaGreatDoor.Ct
/-
  Rest and All of a set, and a range over it (where the reference of stage 5 is not there).
-/
namespace Go.Proofs.YtdnkjbbpfhegdaaGreatDoor.Ct
open Go.RowKit Go.Shelf
set_option linter.unusedVariables false

attribute [local go_sem] Oper.semAt_some

/-- The set without its lowest slot. -/
def rstM (m : Nat) : Nat := if m = 0 then 0 else m - 2 ^ firM m
theorem rst_lt : ∀ m, m < 256 → rstM m < 256 := by decide +kernel
theorem rst_has : ∀ m, m < 256 → ∀ j, j < 8 → hasM (rstM m) j = if j = firM m then false else hasM m j := by decide +kernel
def rest1 (x : Int) : Int := bits BinOp.and IntKind.u64 x (IntKind.u64.wrap (x - 1))
theorem rest_all : ∀ m, m < 256 → rest1 ((spread m : Nat) : Int) = ((spread (rstM m) : Nat) : Int) := by decide +kernel
theorem rst_same : ∀ m, m < 256 → firM m = 8 → rstM m = m := by decide +kernel

set_option maxHeartbeats 1000000 in
theorem rest_walk (z r : Int) (h : bits BinOp.and IntKind.u64 z (IntKind.u64.wrap (z - 1)) = r) (w : World) :
    Calls Tryz.prog 70 #[.agg #[.int .u64 z]] w fun e w' => e = .returned (.agg #[.int .u64 r]) ∧ Kp w w' := by
  go_enter Tryz.func70, Tryz.ntmps70
  go_wp2_with fail
  exact bodyPost_ret (v := .agg #[.int .u64 r]) (by simp [results, Tryz.results70, go_sem]) rfl ⟨rfl, ((Kp.refl _).alloc _).alloc _⟩

def RestIs (z r : Int) : Prop := ∃ m, m < 256 ∧ z = ((spread m : Nat) : Int) ∧ r = ((spread (rstM m) : Nat) : Int)
theorem rest_is {z r : Int} (q : RestIs z r) (w : World) :
    Calls Tryz.prog 70 #[.agg #[.int .u64 z]] w fun e w' => e = .returned (.agg #[.int .u64 r]) ∧ Kp w w' := by
  obtain ⟨m, hm, rfl, rfl⟩ := q
  exact rest_walk _ _ (rest_all m hm) w

/-- The slots of a set, in rising order. -/
def slM (m : Nat) : List Nat := (List.range 8).filter (fun i => hasM m i)
theorem sl_zero : ∀ m, m < 256 → cntM m = 0 → slM m = [] := by decide +kernel
theorem sl_cons : ∀ m, m < 256 → 0 < cntM m → slM m = firM m :: slM (rstM m) := by decide +kernel
theorem cnt_rst : ∀ m, m < 256 → 0 < cntM m → cntM (rstM m) + 1 = cntM m := by decide +kernel

/-- Sets stay as they are, and the table. -/
def Stay (W W' : World) : Prop := (∀ (q : Nat) (cs : Array Value), W.heap[q]? = some (Obj.cells cs 83) → W'.heap[q]? = some (Obj.cells cs 83)) ∧ (TabAt W → TabAt W')
theorem Stay.refl (W : World) : Stay W W := ⟨fun _ _ h => h, fun h => h⟩
theorem Stay.trans {A B C : World} (h : Stay A B) (k : Stay B C) : Stay A C := ⟨fun q cs e => k.1 q cs (h.1 q cs e), fun t => k.2 (h.2 t)⟩
theorem Stay.kp {W W' : World} (k : Kp W W') : Stay W W' := ⟨fun _ _ h => k.blk h, fun t => t.kp k⟩

theorem abides_kp {β : Type} {B : Nat} {J : β → World → Prop} (h : AbidesFrom B J) {s : β} {W W' : World} (hJ : J s W) (k : Kp W W') : J s W' :=
  h s W W' none hJ ⟨k.os, k.tape, k.output, k.size, fun i hi _ => k.block i hi⟩ (fun r e => by cases e)

set_option maxHeartbeats 1000000 in
theorem all_call (z : Int) (w : World) :
    Calls Tryz.prog 31 #[.agg #[.int .u64 z]] w fun e w' => e = .returned (.func (.func 68) #[] #[.pointer (some ⟨w.heap.size, 0, none⟩)]) ∧ w' = w.alloc (.cells #[.int .u64 z] 83) := by
  go_enter Tryz.func31, Tryz.ntmps31
  go_wp2
  go_ret
  exact ⟨rfl, rfl⟩

set_option maxRecDepth 100000 in
set_option maxHeartbeats 4000000 in
theorem all_each (n : Nat) (hn : 1 ≤ n) (l Bs B m : Nat) (hm : m < 256) (J Jx : List Nat → World → Prop) (hAb : AbidesFrom B J)
    (hY : ∀ pre (x : Nat) W, J pre W → pre.length < (slM m).length → YieldAt Fence.wide (n - 1) Tryz.prog l #[.int .i64 (x : Int)] W fun e W' =>
      (e = .returned (.bool true) ∧ J (pre ++ [x]) W' ∧ Stay W W') ∨ (e = .returned (.bool false) ∧ Jx (pre ++ [x]) W'))
    (W : World) (hBs : W.cell? ⟨Bs, 0, none⟩ = some (.int .u64 ((spread m : Nat) : Int))) (hT : TabAt W) (hJ0 : J [] W) :
    CallsIn Fence.wide n Tryz.prog 68 #[.func (.yield l) #[] #[], .pointer (some ⟨Bs, 0, none⟩)] W fun e W' => (∃ v, e = .returned v) ∧
      ((∃ ys, ys = slM m ∧ J ys W') ∨ (∃ pre, pre <+: slM m ∧ Jx pre W')) := by
  have hro : Fence.wide.round = none := rfl
  refine callsIn_of_wp Tryz.func68 rfl trivial ?_ hro
  simp only [Tryz.ntmps68, List.size_toArray, List.length_cons, List.length_nil, Nat.reduceAdd, Nat.reduceSub, Array.replicate_succ, Array.replicate_zero, List.push_toArray, List.append_toArray, List.nil_append, List.cons_append]
  gi_wp2_with fail
  have hL := heap_new W (.cells #[.int .u64 ((spread m : Nat) : Int)] 83)
  have kA : Kp W (W.alloc (.cells #[.int .u64 ((spread m : Nat) : Int)] 83)) := (Kp.refl _).alloc _
  have hJ1 := abides_kp hAb hJ0 kA
  have hT1 := hT.kp kA
  clear hJ0 hT hBs kA
  generalize W.alloc (.cells #[.int .u64 ((spread m : Nat) : Int)] 83) = W1 at *
  generalize W.heap.size = Bl at *
  gi_loopg [3] (cntM m) (fun g v3 wr => ∃ (Bl m' : Nat) (pre : List Nat), g = cntM m' ∧ m' < 256 ∧ v3 = .pointer (some ⟨Bl, 0, none⟩) ∧ wr.heap[Bl]? = some (.cells #[.int .u64 ((spread m' : Nat) : Int)] 83) ∧ pre ++ slM m' = slM m ∧ J pre wr ∧ TabAt wr)
  case atStart => exact ⟨Bl, m, [], rfl, hm, rfl, hL, rfl, hJ1, hT1⟩
  case round =>
    clear hL hJ1 hT1
    obtain ⟨Bl, m', pre, rfl, hm', rfl, hL, hpre, hJ, hT⟩ := hrel
    have hz := sl_zero m' hm'
    have hc := sl_cons m' hm'
    have hd := cnt_rst m' hm'
    have n1 : CntIs ((spread m' : Nat) : Int) ((cntM m' : Nat) : Int) := ⟨m', hm', rfl, rfl⟩
    have f1 : FirstIs ((spread m' : Nat) : Int) ((firM m' : Nat) : Int) := ⟨m', hm', rfl, rfl⟩
    have r1 : RestIs ((spread m' : Nat) : Int) ((spread (rstM m') : Nat) : Int) := ⟨m', hm', rfl, rfl⟩
    have hlt' := rst_lt m' hm'
    obtain ⟨c1, c2⟩ := one_cell hL
    by_cases h0 : cntM m' = 0
    · have HZ := hide (hz h0)
      have HP := hide hpre
      have HJ := hide hJ
      rw [h0] at n1
      clear hz hc hd f1 r1 hlt' hJ hpre h0
      gi_wp2_with fail
      refine ⟨trivial, (callsIn_wide.2 (count_is n1 _)).mono ?_⟩
      rintro e W2 ⟨rfl, k2⟩
      gi_wp2_with fail
      go_end0
      exact ⟨⟨_, rfl⟩, .inl ⟨pre, by rw [← HP.out, HZ.out, List.append_nil], abides_kp hAb HJ.out k2⟩⟩
    · have hp : 0 < cntM m' := by omega
      have hp' : 0 < ((cntM m' : Nat) : Int) := by omega
      have HC := hide (hc hp)
      have HP := hide hpre
      have HD := hide (hd hp)
      have hlen : pre.length < (slM m).length := by
        rw [← hpre, hc hp]
        simp
      clear hz hc hd hpre h0 hp
      generalize firM m' = F at *
      generalize spread m' = z at *
      generalize cntM m' = C at *
      gi_wp2_with fail
      refine ⟨trivial, (callsIn_wide.2 (count_is n1 _)).mono ?_⟩
      rintro e W2 ⟨rfl, k2⟩
      replace hL := k2.blk hL
      replace hJ := abides_kp hAb hJ k2
      replace hT := hT.kp k2
      clear k2 c1 c2
      obtain ⟨c1, c2⟩ := one_cell hL
      gi_wp2_with fail
      refine ⟨trivial, (callsIn_wide.2 (first_is f1 hT)).mono ?_⟩
      rintro e W3 ⟨rfl, k3⟩
      replace hL := k3.blk hL
      replace hJ := abides_kp hAb hJ k3
      replace hT := hT.kp k3
      clear k3 c1 c2 n1 f1
      obtain ⟨fn, tmps, assign, body, hy, hRd⟩ := hY pre F W3 hJ hlen
      clear hJ
      gi_wp2
      refine hRd.mono ?_
      rintro e W4 (⟨rfl, hJ4, hk4⟩ | ⟨rfl, hJx4⟩)
      · replace hL := hk4.1 _ _ hL
        replace hT := hk4.2 hT
        clear hk4 hRd hy
        obtain ⟨c1, c2⟩ := one_cell hL
        have HJ := hide hJ4
        clear hJ4
        gi_wp2_with fail
        refine ⟨trivial, (callsIn_wide.2 (rest_is r1 _)).mono ?_⟩
        rintro e W5 ⟨rfl, k5⟩
        have hN := k5.blk (heap_new W4 (.cells #[.int .u64 (z : Int)] 83))
        have kk : Kp W4 W5 := ((Kp.refl W4).alloc _).trans k5
        have hN2 : (W5.setCell ⟨W4.heap.size, 0, none⟩ (.int .u64 ((spread (rstM m') : Nat) : Int))).heap[W4.heap.size]? = some (.cells #[.int .u64 ((spread (rstM m') : Nat) : Int)] 83) := set_one hN 0 _ (by simp)
        have kk2 : Kp W4 (W5.setCell ⟨W4.heap.size, 0, none⟩ (.int .u64 ((spread (rstM m') : Nat) : Int))) := Below.setCell kk (Nat.le_refl _) _
        obtain ⟨e1, e2⟩ := one_cell hN
        clear c1 c2 k5 hL kk
        gi_wp2_with fail
        gi_roundg (cntM (rstM m'))
        case measure => have := HD.out; omega
        case rel => exact ⟨_, rstM m', pre ++ [F], rfl, hlt', rfl, hN2, by rw [List.append_assoc, ← HP.out, HC.out]; rfl, abides_kp hAb HJ.out kk2, hT.kp kk2⟩
      · have HX : Hid (∃ pre, pre <+: slM m ∧ Jx pre W4) := ⟨_, ⟨slM (rstM m'), by rw [List.append_assoc, ← HP.out, HC.out]; rfl⟩, hJx4⟩
        clear HC HP HD hJx4 hRd hy
        gi_wp2
        refine bodyPost_ret (results_none rfl _ _ _) rfl ?_
        exact ⟨⟨_, rfl⟩, .inr HX.out⟩

/-- A range over All gives the slots in rising order, or stops behind some of them. -/
theorem all_stops (n : Nat) (hn : 1 ≤ n) (Bs m : Nat) (hm : m < 256) (w : World) (hT : TabAt w) (hc : w.cell? ⟨Bs, 0, none⟩ = some (.int .u64 ((spread m : Nat) : Int))) :
    SeqStopsK Fence.wide n Tryz.prog 68 #[.pointer (some ⟨Bs, 0, none⟩)] (fun x : Nat => #[Value.int .i64 (x : Int)]) Stay (fun ys => ys = slM m) (fun pre => pre <+: slM m) (slM m).length w := fun l J Jx W hW hAb _ hY h0 =>
  all_each n hn l Bs W.heap.size m hm J Jx hAb hY W (Kp.cell hW hc) (TabAt.kp hT hW) h0
end Go.Proofs.YtdnkjbbpfhegdaaGreatDoor.Ct
/-
  key, whatever the slot; a range over a set's All, what follows told apart; Find.
-/
namespace Go.Proofs.YtdnkjbbpfhegdaaGreatDoor
open Go.RowKit Go.Shelf Ly Ct
set_option linter.unusedVariables false

theorem slotAt_far (p : Nat) (l : Lay) (off i : Int) (w : World) (h : i < 0 ∨ 8 ≤ i) (ho : 0 ≤ off) (ho2 : off ≤ 134217728) :
    Calls Tryz.prog 57 #[.agg #[.pointer (some ⟨p, 0, none⟩), .int .i64 l.k, .int .i64 l.e, .int .i64 l.a, .int .i64 l.b, .int .i64 l.c, .int .i64 l.eo, .int .i64 l.bo, .int .i64 l.s, .int .i64 l.g, .int .i64 off], .int .i64 i] w fun e w' => e = .returned (.int .i64 (off + -1)) ∧ Keeps w w' (fun _ => False) := by
  have hK := fun W => keyAt_any l i W
  have hx : placeD l i 0 = -1 := by unfold placeD; rw [if_neg (by omega)]
  rw [hx] at hK
  have hwr : IntKind.i64.wrap (off + -1) = off + -1 := by rw [IntKind.wrap_i64]; omega
  clear hx h
  go_enter Tryz.func57, Tryz.ntmps57
  go_wp2_with fail
  have S0 : S11 w w.heap.size p l off _ := s11_new (w := w) (p := p) (l := l) (off := off) (t := 35)
  go_region_held3 (fun w' => w'.cell? ⟨w.heap.size, 0, none⟩ = some (.pointer (some ⟨p, 0, none⟩)) ∧ w'.cell? ⟨w.heap.size, 1, none⟩ = some (.int .i64 l.k) ∧ w'.cell? ⟨w.heap.size, 2, none⟩ = some (.int .i64 l.e) ∧ w'.cell? ⟨w.heap.size, 3, none⟩ = some (.int .i64 l.a) ∧ w'.cell? ⟨w.heap.size, 4, none⟩ = some (.int .i64 l.b) ∧ w'.cell? ⟨w.heap.size, 5, none⟩ = some (.int .i64 l.c) ∧ w'.cell? ⟨w.heap.size, 6, none⟩ = some (.int .i64 l.eo) ∧ w'.cell? ⟨w.heap.size, 7, none⟩ = some (.int .i64 l.bo) ∧ w'.cell? ⟨w.heap.size, 8, none⟩ = some (.int .i64 l.s) ∧ w'.cell? ⟨w.heap.size, 9, none⟩ = some (.int .i64 l.g) ∧ w'.cell? ⟨w.heap.size, 10, none⟩ = some (.int .i64 off) ∧ Keeps w w' (fun _ => False)) (first | exact s11_drew S0 | exact s11_drew (s11_alloc S0 _) | exact s11_drew (s11_alloc (s11_alloc S0 _) _) | exact s11_call (by assumption) (by assumption) | exact s11_alloc (by assumption) _)
    (first | (go_at_call 109; refine (hK _).mono ?_; rintro r w1 ⟨rfl, k1⟩; replace k1 := Keeps.ofKp k1))
  all_goals go_wp2_with fail
  all_goals go_ret
  all_goals exact ⟨rfl, s11_k (by assumption)⟩

/-- What key answers. -/
def keyS (d : AD) (l : Lay) (off : Int) (x : Nat) : ByteArray := if x < 8 then strOf (d.span (off + (8 + (x : Int) * l.s + 0)) l.k) else (readV d (off + -1) l.k).1

set_option maxHeartbeats 2000000 in
theorem key_all {w : World} {p : Nat} {F : Nat → Prop} {d : AD} (hA : Arena w p F d) (hF : d.Fine) (l : Lay) (off : Int) (x : Nat) (ht : thereB d l off = true) :
    Calls Tryz.prog 32 #[.agg #[.pointer (some ⟨p, 0, none⟩), .int .i64 l.k, .int .i64 l.e, .int .i64 l.a, .int .i64 l.b, .int .i64 l.c, .int .i64 l.eo, .int .i64 l.bo, .int .i64 l.s, .int .i64 l.g, .int .i64 off], .int .i64 (x : Int)] w fun e w' => e = .returned (.string (keyS d l off x)) ∧ Keeps w w' (fun _ => False) := by
  by_cases hx : x < 8
  · unfold keyS
    rw [if_pos hx]
    exact key_any hA hF l off (x : Int) ht (by omega) (by omega)
  · unfold keyS
    rw [if_neg hx]
    obtain ⟨hv, hg, ho1, ho2, ho3⟩ := there_more hF ht
    have hvm := valid_more hv
    obtain ⟨c, hc, hfo⟩ := hA.at
    have hS := fun W => slotAt_far p l off (x : Int) W (Or.inr (by omega)) (by omega) (by omega)
    have hR := fun W (k : Keeps w W (fun _ => False)) => aread_any (hc.keeps k (fun _ _ e => e)) hF (off + -1) l.k (fitsI_mk (by omega) (by omega)) (fitsI_mk (by omega) (by omega))
    generalize (readV d (off + -1) l.k).1 = S at *
    generalize (readV d (off + -1) l.k).2 = S2 at *
    generalize off + -1 = y at *
    clear hvm hg hv hx
    go_enter Tryz.func32, Tryz.ntmps32
    go_wp2_with fail
    have S0 : S11 w w.heap.size p l off _ := s11_new (w := w) (p := p) (l := l) (off := off) (t := 35)
    go_region_held3 (fun w' => w'.cell? ⟨w.heap.size, 0, none⟩ = some (.pointer (some ⟨p, 0, none⟩)) ∧ w'.cell? ⟨w.heap.size, 1, none⟩ = some (.int .i64 l.k) ∧ w'.cell? ⟨w.heap.size, 2, none⟩ = some (.int .i64 l.e) ∧ w'.cell? ⟨w.heap.size, 3, none⟩ = some (.int .i64 l.a) ∧ w'.cell? ⟨w.heap.size, 4, none⟩ = some (.int .i64 l.b) ∧ w'.cell? ⟨w.heap.size, 5, none⟩ = some (.int .i64 l.c) ∧ w'.cell? ⟨w.heap.size, 6, none⟩ = some (.int .i64 l.eo) ∧ w'.cell? ⟨w.heap.size, 7, none⟩ = some (.int .i64 l.bo) ∧ w'.cell? ⟨w.heap.size, 8, none⟩ = some (.int .i64 l.s) ∧ w'.cell? ⟨w.heap.size, 9, none⟩ = some (.int .i64 l.g) ∧ w'.cell? ⟨w.heap.size, 10, none⟩ = some (.int .i64 off) ∧ Keeps w w' (fun _ => False)) (first | exact s11_drew S0 | exact s11_drew (s11_alloc S0 _) | exact s11_drew (s11_alloc (s11_alloc S0 _) _) | exact s11_call (by assumption) (by assumption) | exact s11_alloc (by assumption) _)
      (first | (go_at_call 57; refine (hS _).mono ?_; rintro r w1 ⟨rfl, k1⟩) | (go_at_call 72; refine (hR _ (s11_k (by assumption))).mono ?_; rintro r w2 ⟨rfl, k2⟩))
    all_goals go_wp2_with fail
    all_goals go_ret
    all_goals exact ⟨rfl, s11_k (by assumption)⟩

theorem keyS_full {d : AD} {l : Lay} {off : Nat} {c : Nat → GC} (h : GroupAt d l off c) {i : Nat} (hi : i < 8) (h2 : (c i).kind = 2) : keyS d l (off : Int) i = (c i).key := by
  have e := h.at hi
  unfold keyS
  rw [if_pos hi]
  have hb : byN (wordN d off) i < 128 := by
    rw [h.word i hi]
    have hm := GC.mark_full (h.ok i hi)
    rcases h.ok i hi with q | q | q
    · rw [q] at h2; cases h2
    · rw [q] at h2; cases h2
    · unfold GC.mark
      rw [if_pos h2]
      omega
  unfold atC at e
  rw [Int.toNat_natCast, if_pos hb] at e
  rw [← e]

section
variable {op : Operand} {ps : Array Tmp} {assign body : Code} {Q : Exit → Act → World → Prop} {a : Act} {w : World} {n : Nat}
theorem StayPut {W : World} {l : Nat} {o : Obj} (h : W.heap[l]? = some o) (hc : o.isCells = false) (o' : Obj) (h0 : 0 < l) : Ct.Stay W (W.putObj l o') := by
  have hne : ∀ (q : Nat) (cs : Array Value) (t : TypeId), W.heap[q]? = some (Obj.cells cs t) → q ≠ l := fun q cs t e e' => by
    subst e'
    rw [e] at h
    cases h
    cases hc
  have hsame : ∀ q, q ≠ l → q < W.heap.size → (W.putObj l o').heap[q]? = W.heap[q]? := fun q hq hlt => (grownBy_putObj' W l o').block q hlt (fun e' => hq (by cases e'; rfl))
  refine ⟨fun q cs e => (hsame q (hne q cs _ e) (Array.getElem?_eq_some_iff.1 e).1).trans e, fun t k hk => ?_⟩
  have hc := t k hk
  have hlt : 0 < W.heap.size := by
    refine Nat.lt_of_not_le fun hn => ?_
    rw [World.cell?, Array.getElem?_eq_none hn] at hc
    cases hc
  rw [World.cell?_of_block (w := W) (hsame 0 (by omega) hlt)]
  exact hc

/-- A range over All of a set. -/
theorem range_set (h1 : 2 ≤ n) {Bs m : Nat} (hop : a.eval op = .func (.func 68) #[] #[.pointer (some ⟨Bs, 0, none⟩)]) (hm : m < 256) (hT : TabAt w) (hc : w.cell? ⟨Bs, 0, none⟩ = some (.int .u64 ((spread m : Nat) : Int))) (hps : ps.size = 1)
    (A : Act → Nat → Act) (I : List Nat → World → Prop) (Ix : Code → List Nat → World → Prop) (hI : OwnFrom w.heap.size I) (hIx : ∀ c, OwnFrom w.heap.size (Ix c)) (h0 : I [] w)
    (hassign : ∀ (l : Nat) (x : Nat) (W : World) (K : Act → World → Prop), K (A a x) W →
      assign.wpIn (Fence.wide.inRound l) (n - 1 - 1) Tryz.prog (Exit.then K (fun _ _ _ => False)) { tmps := (ps.zip #[Value.int .i64 (x : Int)]).foldl (fun t (p, v) => t.setIfInBounds p v) a.tmps, defers := [] } W)
    (hbody : ∀ (l : Nat) (pre : List Nat) (x : Nat) (W : World), w.heap.size ≤ l → (∃ r, W.heap[l]? = some (.loop r)) → I pre W → pre.length < (slM m).length → body.wpIn (Fence.wide.inRound l) (n - 1 - 1) Tryz.prog (ownPostG w.heap.size Ct.Stay I Ix (pre ++ [x]) W) (A a x) W)
    (hdone : ∀ (D : Nat) (W : World), w.heap.size ≤ D → I (slM m) W → W.heap[D]? = some (.deferred (some [])) → Q .normal { a with defers := { target := .collected D, args := #[] } :: a.defers } W)
    (hstop : ∀ (D : Nat) (c : Code) (pre : List Nat) (W : World), w.heap.size ≤ D → pre <+: slM m → Ix c pre W → W.heap[D]? = some (.deferred (some [])) → c.wpIn Fence.wide n Tryz.prog Q { a with defers := { target := .collected D, args := #[] } :: a.defers } W) :
    (Code.rangeFunc op ps assign body).wp Tryz.prog Q a w := by
  have hpos : 0 < w.heap.size := by
    have := hT 0 (by decide)
    refine Nat.lt_of_not_le fun hn => ?_
    rw [World.cell?, Array.getElem?_eq_none hn] at this
    cases this
  rw [← wpIn_wide (n := n)]
  exact wpIn_rangeFunc_ownH rfl (by omega) (gf := 68) (lb := #[.pointer (some ⟨Bs, 0, none⟩)]) hop trivial (enters_of Tryz.func68 (by kernel_rfl) rfl)
    (all_stops (n - 1) (by omega) Bs m hm w hT hc) Ct.Stay.trans (fun W l o o' hl h hc _ => StayPut h hc o' (by omega)) (Below.refl _ _) (fun _ => by rw [hps]; rfl)
    I Ix hI hIx h0 (fun x a' _ => a' = A a x) (fun _ _ _ _ _ _ hs _ _ => hs)
    (fun l pre x W K hi hK => hassign l x W K (hK _ _ (KeepsFrom.refl _ _) (Ct.Stay.refl _) hi rfl))
    (fun l pre x a' W hl hr hi e hlt => by subst e; exact hbody l pre x W hl hr hi hlt)
    (fun D xs W hD hS hi hK => by subst hS; exact hdone D W hD hi hK)
    hstop
end
end Go.Proofs.YtdnkjbbpfhegdaaGreatDoor
