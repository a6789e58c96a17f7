import Derived.Stop.RegionWithIn
import Derived.WalkMore
import Derived.Laws.Rows
import Derived.Laws.Tables
import Derived.Great.BuildSlice
import Derived.Test.YtmdnknbolgedgaaGreatDoorUn14
/-
  Helps for search: blocks, a row of seventeen, a range over a set within a round.
-/
namespace Go.Proofs.YtmdnknbolgedgaaGreatDoor
open Go.RowKit Go.Shelf Ly Ct
set_option linter.unusedVariables false

theorem alloc5 {w : World} {o1 o2 o3 o4 o5 : Obj} {P : World → Prop} (h : ∀ W0, W0.heap[w.heap.size]? = some o1 → W0.heap[w.heap.size + 1]? = some o2 → W0.heap[w.heap.size + 1 + 1]? = some o3 → W0.heap[w.heap.size + 1 + 1 + 1]? = some o4 → W0.heap[w.heap.size + 1 + 1 + 1 + 1]? = some o5 → W0.heap.size = w.heap.size + 5 → Keeps w W0 (fun _ => False) → P W0) : P (((((w.alloc o1).alloc o2).alloc o3).alloc o4).alloc o5) := by
  refine alloc3 (P := fun W => P ((W.alloc o4).alloc o5)) fun W0 h1 h2 h3 hz K => ?_
  have k4 : Keeps W0 (W0.alloc o4) (fun _ => False) := (Keeps.refl _ _).alloc _
  have k5 : Keeps (W0.alloc o4) ((W0.alloc o4).alloc o5) (fun _ => False) := (Keeps.refl _ _).alloc _
  have h4 := heap_alloc_new W0 o4
  have h5 := heap_alloc_new (W0.alloc o4) o5
  rw [hz] at h4
  rw [World.size_alloc, hz] at h5
  exact h _ (k5.blk (k4.blk h1)) (k5.blk (k4.blk h2)) (k5.blk (k4.blk h3)) (k5.blk h4) h5 (by simp [hz]) ((K.trans k4 (fun _ _ e => e)).trans k5 (fun _ _ e => e))
set_option maxHeartbeats 4000000 in
theorem r17_cells {w : World} {b : Nat} {v0 v1 v2 v3 v4 v5 v6 v7 v8 v9 v10 v11 v12 v13 v14 v15 v16 : Value} {t : TypeId} (h : w.heap[b]? = some (.cells #[v0, v1, v2, v3, v4, v5, v6, v7, v8, v9, v10, v11, v12, v13, v14, v15, v16] t)) :
    (w.cell? ⟨b, 0, none⟩ = some v0 ∧ w.cell? ⟨b, 1, none⟩ = some v1 ∧ w.cell? ⟨b, 2, none⟩ = some v2 ∧ w.cell? ⟨b, 3, none⟩ = some v3 ∧ w.cell? ⟨b, 4, none⟩ = some v4 ∧ w.cell? ⟨b, 5, none⟩ = some v5 ∧ w.cell? ⟨b, 6, none⟩ = some v6 ∧ w.cell? ⟨b, 7, none⟩ = some v7 ∧ w.cell? ⟨b, 8, none⟩ = some v8 ∧ w.cell? ⟨b, 9, none⟩ = some v9 ∧ w.cell? ⟨b, 10, none⟩ = some v10 ∧ w.cell? ⟨b, 11, none⟩ = some v11 ∧ w.cell? ⟨b, 12, none⟩ = some v12 ∧ w.cell? ⟨b, 13, none⟩ = some v13 ∧ w.cell? ⟨b, 14, none⟩ = some v14 ∧ w.cell? ⟨b, 15, none⟩ = some v15 ∧ w.cell? ⟨b, 16, none⟩ = some v16) ∧ w.frozen? ⟨b, 0, none⟩ = false ∧ w.frozen? ⟨b, 1, none⟩ = false ∧ w.frozen? ⟨b, 2, none⟩ = false ∧ w.frozen? ⟨b, 3, none⟩ = false ∧ w.frozen? ⟨b, 4, none⟩ = false ∧ w.frozen? ⟨b, 5, none⟩ = false ∧ w.frozen? ⟨b, 6, none⟩ = false ∧ w.frozen? ⟨b, 7, none⟩ = false ∧ w.frozen? ⟨b, 8, none⟩ = false ∧ w.frozen? ⟨b, 9, none⟩ = false ∧ w.frozen? ⟨b, 10, none⟩ = false ∧ w.frozen? ⟨b, 11, none⟩ = false ∧ w.frozen? ⟨b, 12, none⟩ = false ∧ w.frozen? ⟨b, 13, none⟩ = false ∧ w.frozen? ⟨b, 14, none⟩ = false ∧ w.frozen? ⟨b, 15, none⟩ = false ∧ w.frozen? ⟨b, 16, none⟩ = false := by
  simp [World.cell?, World.frozen?, h]
set_option maxHeartbeats 4000000 in
theorem r17_set {w0 w : World} {b : Nat} {u0 u1 u2 u3 u4 u5 u6 u7 u8 u9 u10 u11 u12 u13 u14 u15 u16 : Value} {t : TypeId} {S : Nat → Prop} (h : w.heap[b]? = some (.cells #[u0, u1, u2, u3, u4, u5, u6, u7, u8, u9, u10, u11, u12, u13, u14, u15, u16] t)) (k : Keeps w0 w S) (hb : b < w0.heap.size → S b)
    {v0 v1 v2 v3 v4 v5 v6 v7 v8 v9 v10 v11 v12 v13 v14 v15 v16 : Value} {P : World → Prop} (hP : ∀ w9, w9.heap[b]? = some (.cells #[v0, v1, v2, v3, v4, v5, v6, v7, v8, v9, v10, v11, v12, v13, v14, v15, v16] t) → Keeps w0 w9 S → Keeps w w9 (fun i => i = b) → P w9) :
    P (((((((((((((((((w.setCell ⟨b, 0, none⟩ v0).setCell ⟨b, 1, none⟩ v1).setCell ⟨b, 2, none⟩ v2).setCell ⟨b, 3, none⟩ v3).setCell ⟨b, 4, none⟩ v4).setCell ⟨b, 5, none⟩ v5).setCell ⟨b, 6, none⟩ v6).setCell ⟨b, 7, none⟩ v7).setCell ⟨b, 8, none⟩ v8).setCell ⟨b, 9, none⟩ v9).setCell ⟨b, 10, none⟩ v10).setCell ⟨b, 11, none⟩ v11).setCell ⟨b, 12, none⟩ v12).setCell ⟨b, 13, none⟩ v13).setCell ⟨b, 14, none⟩ v14).setCell ⟨b, 15, none⟩ v15).setCell ⟨b, 16, none⟩ v16) := by
  refine hP _ ?_ ?_ ?_
  · have h0 := set_one' h 0 v0 (by simp)
    have h1 := set_one' h0 1 v1 (by simp)
    have h2 := set_one' h1 2 v2 (by simp)
    have h3 := set_one' h2 3 v3 (by simp)
    have h4 := set_one' h3 4 v4 (by simp)
    have h5 := set_one' h4 5 v5 (by simp)
    have h6 := set_one' h5 6 v6 (by simp)
    have h7 := set_one' h6 7 v7 (by simp)
    have h8 := set_one' h7 8 v8 (by simp)
    have h9 := set_one' h8 9 v9 (by simp)
    have h10 := set_one' h9 10 v10 (by simp)
    have h11 := set_one' h10 11 v11 (by simp)
    have h12 := set_one' h11 12 v12 (by simp)
    have h13 := set_one' h12 13 v13 (by simp)
    have h14 := set_one' h13 14 v14 (by simp)
    have h15 := set_one' h14 15 v15 (by simp)
    have h16 := set_one' h15 16 v16 (by simp)
    exact h16
  · exact (((((((((((((((((k.setCell _ hb _).setCell _ hb _).setCell _ hb _).setCell _ hb _).setCell _ hb _).setCell _ hb _).setCell _ hb _).setCell _ hb _).setCell _ hb _).setCell _ hb _).setCell _ hb _).setCell _ hb _).setCell _ hb _).setCell _ hb _).setCell _ hb _).setCell _ hb _).setCell _ hb _)
  · exact ((((((((((((((((((Keeps.refl w (fun i => i = b)).setCell _ (fun _ => rfl) _).setCell _ (fun _ => rfl) _).setCell _ (fun _ => rfl) _).setCell _ (fun _ => rfl) _).setCell _ (fun _ => rfl) _).setCell _ (fun _ => rfl) _).setCell _ (fun _ => rfl) _).setCell _ (fun _ => rfl) _).setCell _ (fun _ => rfl) _).setCell _ (fun _ => rfl) _).setCell _ (fun _ => rfl) _).setCell _ (fun _ => rfl) _).setCell _ (fun _ => rfl) _).setCell _ (fun _ => rfl) _).setCell _ (fun _ => rfl) _).setCell _ (fun _ => rfl) _).setCell _ (fun _ => rfl) _)
theorem Keeps.put {w W : World} {S : Nat → Prop} (k : Keeps w W S) {l : Nat} (hl : w.heap.size ≤ l) (o : Obj) : Keeps w (W.putObj l o) S := by
  have g := grownBy_putObj' W l o
  exact ⟨g.os.trans k.os, g.tape.trans k.tape, g.output.trans k.output, Nat.le_trans k.size g.size, fun i hi hn => (g.block i (Nat.lt_of_lt_of_le hi k.size) (fun e => by cases e; omega)).trans (k.block i hi hn)⟩
theorem putBlk {W : World} {l q : Nat} {o o' : Obj} (h : W.heap[q]? = some o') (hne : q ≠ l) : (W.putObj l o).heap[q]? = some o' :=
  ((grownBy_putObj' W l o).block q (Array.getElem?_eq_some_iff.1 h).1 (fun e => hne (by cases e; rfl))).trans h
theorem keepsFrom_keeps {B : Nat} {W W' : World} (k : Keeps W W' (fun _ => False)) : KeepsFrom B W W' := ⟨k.size, fun q o _ hq _ => k.blk hq⟩
theorem keepsFrom_cells {B b : Nat} {W W' : World} (k : Keeps W W' (fun i => i = b)) {cs : Array Value} {t : TypeId} (hb : W.heap[b]? = some (.cells cs t)) : KeepsFrom B W W' := ⟨k.size, fun q o _ hq ho => k.blkS hq (fun e => by
  subst e
  rw [hb] at hq
  cases hq
  cases ho)⟩
theorem keepsOwn {w : World} {S : Nat → Prop} {β : Type} {B : Nat} (hB : w.heap.size ≤ B) : OwnFrom B (fun (_ : β) W => Keeps w W S) := fun _ X Y row hs hg hr =>
  ⟨hg.os.trans hs.os, hg.tape.trans hs.tape, hg.output.trans hs.output, Nat.le_trans hs.size hg.size, fun k hk hn => (hg.block k (Nat.lt_of_lt_of_le hk hs.size) (fun e => by have := (hr k e.symm).1; omega)).trans (hs.block k hk hn)⟩
theorem StayPut {W : World} {l : Nat} {o : Obj} (h : W.heap[l]? = some o) (hc : o.isCells = false) (o' : Obj) (h0 : 0 < l) : Ct.Stay W (W.putObj l o') := by
  have hne : ∀ (q : Nat) (cs : Array Value) (t : TypeId), W.heap[q]? = some (Obj.cells cs t) → q ≠ l := fun q cs t e e' => by
    subst e'
    rw [e] at h
    cases h
    cases hc
  have hsame : ∀ q, q ≠ l → q < W.heap.size → (W.putObj l o').heap[q]? = W.heap[q]? := fun q hq hlt => (grownBy_putObj' W l o').block q hlt (fun e' => hq (by cases e'; rfl))
  refine ⟨fun q cs e => (hsame q (hne q cs _ e) (Array.getElem?_eq_some_iff.1 e).1).trans e, fun t k hk => ?_⟩
  have hc := t k hk
  have hlt : 0 < W.heap.size := by
    refine Nat.lt_of_not_le fun hn => ?_
    rw [World.cell?, Array.getElem?_eq_none hn] at hc
    cases hc
  rw [World.cell?_of_block (w := W) (hsame 0 (fun e => by
    subst e
    rw [World.cell?, h] at hc
    cases o <;> simp_all) hlt)]
  exact hc

section
variable {g : Operand} {ps : Array Tmp} {assign body : Code} {Q : Exit → Act → World → Prop} {a : Act} {w : World} {n : Nat}
/-- A range over All of a set, within a round of the loop l₀. -/
theorem range_in {F : Fence} {l₀ : Nat} {r₀ : Loop} (hF : F = Fence.wide.inRound l₀) (hl₀ : w.heap[l₀]? = some (.loop r₀)) (h1 : 2 ≤ n) {Bs m : Nat} (hg : a.eval g = .func (.func 110) #[] #[.pointer (some ⟨Bs, 0, none⟩)]) (hm : m < 256) (hT : TabAt w) (hc : w.cell? ⟨Bs, 0, none⟩ = some (.int .u64 ((spread m : Nat) : Int))) (hps : ps.size = 1)
    (A : Act → Nat → Act) (I : List Nat → World → Prop) (Ix : Code → List Nat → World → Prop) (hI : OwnFrom w.heap.size I) (hIx : ∀ c, OwnFrom w.heap.size (Ix c)) (h0 : I [] w)
    (hassign : ∀ (l : Nat) (x : Nat) (W : World) (K : Act → World → Prop), K (A a x) W →
      assign.wpIn (F.inRound l) (n - 1 - 1) Tryz.prog (Exit.then K (fun _ _ _ => False)) { tmps := (ps.zip #[Value.int .i64 (x : Int)]).foldl (fun t (p, v) => t.setIfInBounds p v) a.tmps, defers := [] } W)
    (hbody : ∀ (l : Nat) (pre : List Nat) (x : Nat) (W : World), w.heap.size ≤ l → I pre W → pre.length < (slM m).length → body.wpIn (F.inRound l) (n - 1 - 1) Tryz.prog (ownPostG w.heap.size Ct.Stay I Ix (pre ++ [x]) W) (A a x) W)
    (hdone : ∀ (W : World), I (slM m) W → Q .normal a W)
    (hstop : ∀ (c : Code) (pre : List Nat) (W : World), pre <+: slM m → Ix c pre W → c.wpIn F n Tryz.prog Q a W) :
    (Code.rangeFunc g ps assign body).wpIn F n Tryz.prog Q a w := by
  have hpos : 0 < w.heap.size := by
    have := heap_lt hl₀
    omega
  subst hF
  exact wpIn_rangeFunc_ownN (l₀ := l₀) (r₀ := r₀) rfl hl₀ (by omega) (gf := 110) (lb := #[.pointer (some ⟨Bs, 0, none⟩)]) hg trivial (enters_of Tryz.func110 (by kernel_rfl) rfl)
    ((all_stops (n - 1) (by omega) Bs m hm w hT hc).inRound l₀) Ct.Stay.trans (fun W l o o' hl h hc _ => StayPut h hc o' (by omega)) (Below.refl _ _) (fun _ => by rw [hps]; rfl)
    I Ix hI hIx h0 (fun x a' _ => a' = A a x) (fun _ _ _ _ _ _ hs _ _ => hs)
    (fun l pre x W K hi hK => hassign l x W K (hK _ _ (KeepsFrom.refl _ _) (Ct.Stay.refl _) hi rfl))
    (fun l pre x a' W hl hr hi e hlt => by subst e; exact hbody l pre x W hl hi hlt)
    (fun xs W hS hi => by subst hS; exact hdone W hi)
    (fun c pre W hS hi => hstop c pre W hS hi)
end
end Go.Proofs.YtmdnknbolgedgaaGreatDoor
/-
  What search answers.
-/
namespace Go.Proofs.YtmdnknbolgedgaaGreatDoor
open Go.RowKit Go.Shelf Ly Ct
set_option linter.unusedVariables false

def slotC (c : Nat → GC) : Option Nat → GC
  | some s => c s
  | none => GC.zero
/-- What search answers. -/
def srchV (f : Nat → Int) (c : Nat → GC) (r : Srch) : Array Value := sghC f r.probes (optI r.slot) (slotC c r.slot) (optI r.vac) (vacE c r.vac)

theorem setBlk {W : World} {l q : Nat} {v : Value} {o' : Obj} (h : W.heap[q]? = some o') (hne : q ≠ l) : (W.setCell ⟨l, 0, none⟩ v).heap[q]? = some o' := (Below.heap_setCell W ⟨l, 0, none⟩ v q hne).trans h
theorem setRow_same {W : World} {g : Nat} {cs : Array Value} {t : TypeId} (h : W.heap[g]? = some (.cells cs t)) (cs' : Array Value) : (W.setRow g cs').heap[g]? = some (.cells cs' t) := by
  have hlt := heap_lt h
  have hv := (Array.getElem?_eq_some_iff.1 h).2
  simp only [World.setRow, Array.getElem?_modify]
  simp [hlt, hv]
set_option maxHeartbeats 2000000 in
theorem resS (tmps : Array Value) (w : World) (B C : Nat) (f : Nat → Int) (c : Nat → GC) (R : Srch) (u : Value) (hp : tmps.getD 6 undef = .pointer (some ⟨B, 0, none⟩)) (hq : tmps.getD 7 undef = .pointer (some ⟨C, 0, none⟩)) (hB : w.heap[B]? = some (.cells (srchV f c R) 103)) (hd : w.cell? ⟨C, 0, none⟩ = some u) : (results Tryz.f41 tmps).run Tryz.prog w = .ok (.tuple #[.agg (srchV f c R), u]) w := by
  have hp' : tmps[6]?.getD undef = .pointer (some ⟨B, 0, none⟩) := by simpa using hp
  have hq' : tmps[7]?.getD undef = .pointer (some ⟨C, 0, none⟩) := by simpa using hq
  unfold srchV sghC at hB ⊢
  obtain ⟨⟨s0, s1, s2, s3, s4, s5, s6, s7, s8, s9, s10, s11, s12, s13, s14, s15, s16⟩, -⟩ := r17_cells hB
  simp [results, Tryz.results41, go_sem, hp', hq', hd, s0, s1, s2, s3, s4, s5, s6, s7, s8, s9, s10, s11, s12, s13, s14, s15, s16]

/-- Five cells of a sought are laid: the cell. -/
abbrev set5z (w : World) (b : Nat) (x : GC) : World := ((((w.setCell ⟨b, 10, none⟩ (.int .i64 x.kind)).setCell ⟨b, 11, none⟩ (.int .i64 x.tag)).setCell ⟨b, 12, none⟩ (.string x.key)).setCell ⟨b, 13, none⟩ (.string x.elem)).setCell ⟨b, 14, none⟩ (.int .i64 x.birth)
theorem set5z_keeps (w : World) (b : Nat) (x : GC) : Keeps w (set5z w b x) (fun i => i = b) := ((((((Keeps.refl w (fun i => i = b)).setCell ⟨b, 10, none⟩ (fun _ => rfl) _).setCell ⟨b, 11, none⟩ (fun _ => rfl) _).setCell ⟨b, 12, none⟩ (fun _ => rfl) _).setCell ⟨b, 13, none⟩ (fun _ => rfl) _).setCell ⟨b, 14, none⟩ (fun _ => rfl) _)
theorem five_at {w : World} {b : Nat} {v0 v1 v2 v3 v4 v5 v6 v7 v8 v9 v10 v11 v12 v13 v14 v15 v16 : Value} {t : TypeId} (h : w.heap[b]? = some (.cells #[v0, v1, v2, v3, v4, v5, v6, v7, v8, v9, v10, v11, v12, v13, v14, v15, v16] t)) (x : GC) : (set5z w b x).heap[b]? = some (.cells #[v0, v1, v2, v3, v4, v5, v6, v7, v8, v9, .int .i64 x.kind, .int .i64 x.tag, .string x.key, .string x.elem, .int .i64 x.birth, v15, v16] t) := by
  have h0 := set_one' h 10 (.int .i64 x.kind) (by simp)
  have h1 := set_one' h0 11 (.int .i64 x.tag) (by simp)
  have h2 := set_one' h1 12 (.string x.key) (by simp)
  have h3 := set_one' h2 13 (.string x.elem) (by simp)
  exact set_one' h3 14 (.int .i64 x.birth) (by simp)
structure BxT (R : Prop) : Prop where
  out : R
theorem twiceT {G R : Prop} (h : BxT R → G) (r : R) : G := h ⟨r⟩
end Go.Proofs.YtmdnknbolgedgaaGreatDoor
/-
  search.
-/
namespace Go.Proofs.YtmdnknbolgedgaaGreatDoor
open Go.RowKit Go.Shelf Ly Ct
set_option linter.unusedVariables false

theorem str_eq {a b : ByteArray} (h : a.toList = b.toList) : a = b := by
  rw [ByteArray.toList_eq, ByteArray.toList_eq] at h
  exact ByteArray.ext (Array.toList_inj.1 h)

attribute [local go_sem] Oper.semAt_some

set_option maxRecDepth 100000 in
set_option maxHeartbeats 40000000 in
theorem search_yes {w : World} {p : Nat} {F : Nat → Prop} {d : AD} {l : Lay} {off gr G : Nat} {f : Nat → Int} {c : Nat → GC} (hA : Arena w p F d) (hF : d.Fine) (h : TabD d l off gr G f c) (h4 : f 4 = ((8 * G : Nat) : Int)) (h7 : f 7 = (gr : Int)) (k : Nat) (hk : k ≤ 13) (hG : G = 2 ^ k) (hT : TabAt w) (H : Nat) (hH : H < 18446744073709551616) (key : ByteArray) (hkey : (key.size : Int) = l.k) :
    Calls Tryz.prog 41 #[.agg #[.pointer (some ⟨p, 0, none⟩), .int .i64 l.k, .int .i64 l.e, .int .i64 l.a, .int .i64 l.b, .int .i64 l.c, .int .i64 l.eo, .int .i64 l.bo, .int .i64 l.s, .int .i64 l.g, .int .i64 (off : Int)], .int .u64 (H : Int), .string key] w fun e w' => e = .returned (.tuple #[.agg (srchV f c (srchT c ((H : Int) % 128) key (Pb.metN (H / 128) G) G)), .int .i64 0]) ∧ Keeps w w' (fun _ => False) := by
  have hSt := fun W (k : Keeps w W (fun _ => False)) => tstat_tab (hA.keeps k (fun _ _ _ e => e)) hF h
  have hHo := fun W => Op.home_any H hH W
  have hOr := fun g W => Pb.order_call ((H / 128 : Nat) : Int) g W
  have hkb : ((key.size : Int) != l.k) = false := by simp [hkey]
  have hdv : (f 4).tdiv 8 = (G : Int) := by rw [h4, Int.tdiv_eq_ediv_of_nonneg (by omega)]; omega
  have hwv : IntKind.i64.wrap (G : Int) = (G : Int) := by rw [IntKind.wrap_i64]; have := h.few; omega
  have hwv2 : wrap64 (G : Int) = (G : Int) := by unfold wrap64; have := h.few; omega
  rw [show ((H : Int) / 128) = ((H / 128 : Nat) : Int) by omega] at hHo
  obtain ⟨hd, hhd⟩ : ∃ hd, H / 128 = hd := ⟨_, rfl⟩
  rw [hhd] at hHo hOr ⊢
  have hdl : hd < 18446744073709551616 := by omega
  clear hhd
  obtain ⟨m, hm⟩ : ∃ m, Pb.metN hd G = m := ⟨_, rfl⟩
  rw [hm]
  obtain ⟨R, hR⟩ : ∃ R, srchT c ((H : Int) % 128) key m G = R := ⟨_, rfl⟩
  rw [hR]
  replace hR := hide hR
  have hOs : ∀ W, Calls Tryz.prog 71 #[.int .u64 (hd : Int), .int .i64 (G : Int)] W fun e w' => e = .returned (.func (.func 108) #[] #[.pointer (some ⟨W.heap.size + 1, 0, none⟩), .pointer (some ⟨W.heap.size, 0, none⟩)]) ∧ w'.heap[W.heap.size + 1]? = some (.cells #[.int .i64 (G : Int)] 3) ∧ w'.heap[W.heap.size]? = some (.cells #[.int .u64 (hd : Int)] 23) ∧ Keeps W w' (fun _ => False) := fun W => by
    refine (hOr (G : Int) W).mono ?_
    rintro e w' ⟨rfl, rfl⟩
    have q := heap_alloc_new (W.alloc (.cells #[.int .u64 (hd : Int)] 23)) (.cells #[.int .i64 (G : Int)] 3)
    rw [World.size_alloc] at q
    exact ⟨rfl, q, ((Keeps.refl (W.alloc (.cells #[.int .u64 (hd : Int)] 23)) (fun _ => False)).alloc _).blk (heap_alloc_new W (.cells #[.int .u64 (hd : Int)] 23)), ((Keeps.refl _ _).alloc _).alloc _⟩
  clear hOr
  unfold statV at hSt
  have Hh := hide (And.intro h (And.intro h4 (And.intro h7 hG)))
  clear h h4 h7 hG
  refine (callsIn_wide (n := 8)).1 ?_
  refine callsIn_of_wp_marks Tryz.func41 rfl trivial ?_ rfl
  simp only [Tryz.ntmps41, List.size_toArray, List.length_cons, List.length_nil, Nat.reduceAdd, Nat.reduceSub, Array.replicate_succ, Array.replicate_zero, List.push_toArray, List.append_toArray, List.nil_append, List.cons_append]
  rw [wpIn_wide]
  go_wp2_with fail
  refine alloc5 (P := fun W => Code.wp _ _ _ _ W) fun W0 hb hhc hkc hr0 hr1 hz K0 => ?_
  obtain ⟨c0, c1, c2, c3, c4, c5, c6, c7, c8, c9, c10⟩ := c11_of hb
  go_step3
  go_wp2_with fail
  (with_reducible refine (hSt _ K0).mono ?_)
  rintro r w1 ⟨rfl, k1⟩
  have K1 := K0.trans k1 (fun _ _ e => e)
  have k2 : Keeps w1 (w1.alloc (.cells #[.int .i64 (f 3), .int .i64 (f 4), .int .i64 (f 5), .int .i64 (f 6), .int .i64 (f 1), .int .i64 (f 2), .bool (f 0 == 4), .int .i64 (f 7)] 64)) (fun _ => False) := (Keeps.refl _ _).alloc _
  clear c0 c1 c2 c3 c4 c5 c6 c7 c8 c9 c10
  obtain ⟨c0, c1, c2, c3, c4, c5, c6, c7, c8, c9, c10⟩ := c11_of (k2.blk (k1.blk hb))
  have ck := (Ct.one_cell (k2.blk (k1.blk hkc))).1
  clear hSt
  go_wp2_with fail
  go_step3
  refine alloc2 (P := fun W => Exit.then _ _ _ _ W) fun W6 hst hsg hz6 k6 => ?_
  replace hz6 := hide hz6
  have K6 := K1.trans k6 (fun _ _ e => e)
  have S6 : W6.drew.cell? ⟨w.heap.size + 1, 0, none⟩ = some (.int .u64 (H : Int)) ∧ W6.drew.cell? ⟨w1.heap.size, 1, none⟩ = some (.int .i64 (f 4)) := ⟨(Ct.one_cell (k6.blk (k1.blk hhc))).1, (st8_cells hst).1.2.1⟩
  clear c0 c1 c2 c3 c4 c5 c6 c7 c8 c9 c10 ck
  go_wp2_with fail
  go_region_held3 (fun w' => w'.cell? ⟨w.heap.size + 1, 0, none⟩ = some (.int .u64 (H : Int)) ∧ w'.cell? ⟨w1.heap.size, 1, none⟩ = some (.int .i64 (f 4))) (with_reducible assumption)
    (first | (go_at_call 72; (with_reducible refine (hHo _).mono ?_); rintro r wH ⟨rfl, rfl⟩) | (go_at_call 71; (with_reducible refine (hOs _).mono ?_); rintro r w7 ⟨rfl, hG7, hH7, k67⟩; have S7 : w7.cell? ⟨w.heap.size + 1, 0, none⟩ = some (.int .u64 (H : Int)) ∧ w7.cell? ⟨w1.heap.size, 1, none⟩ = some (.int .i64 (f 4)) := ⟨keeps_cell k67 id S6.1, keeps_cell k67 id S6.2⟩))
  have k7 : Keeps W6 w7 (fun _ => False) := ((Keeps.refl W6 (fun _ => False)).drew).trans k67 (fun _ _ e => e)
  have K7 := K6.trans k7 (fun _ _ e => e)
  have hb7 := k7.blk (k6.blk (k1.blk hb))
  have hhc7 := k7.blk (k6.blk (k1.blk hhc))
  have hkc7 := k7.blk (k6.blk (k1.blk hkc))
  have hr07 := k7.blk (k6.blk (k1.blk hr0))
  have hr17 := k7.blk (k6.blk (k1.blk hr1))
  have hst7 := k7.blk hst
  have hsg7 := k7.blk hsg
  have hT7 : TabAt w7 := hT.kp (K7.below (Nat.le_refl _) (fun _ _ e => e))
  clear hOs hHo S6 S7 k67
  have hOT := order_tied 7 (by omega) (W6.heap.size + 1) W6.heap.size hd k hk hdl
  rw [← Hh.out.2.2.2] at hOT
  have hmG : ∀ i, Pb.metN hd G i < G := fun i => Pb.metN_lt Hh.out.1.pos
  have hN : Aside (w.heap.size + 5 ≤ w1.heap.size ∧ W6.heap.size = w1.heap.size + 2 ∧ W6.heap.size + 2 ≤ w7.heap.size) := ⟨by have := k1.size; omega, by have := hz6.out; omega, by have := heap_lt hG7; have : W6.heap.size + 1 < w7.heap.size := this; omega⟩
  rw [hm] at hOT hmG
  clear hz hz6 hb hhc hkc hr0 hr1 hst hsg k1 k6 k7 K0 K1 K6 hdv hwv hwv2 hkb
  go_wp2_with fail
  rename_i Q9 KX hKX hHeld
  have HKX := hide hKX
  clear hKX hHeld
  rw [← wpIn_wide (n := 8)]
  refine range_tiedT (n := 8) (by omega) (gf := 108) (lb := #[.pointer (some ⟨W6.heap.size + 1, 0, none⟩),   .pointer (some ⟨W6.heap.size, 0, none⟩)]) ?hop (enters_of Tryz.func108 (by kernel_rfl) rfl) hOT (fun _ => rfl)
    (fun a x a' V => ∃ Bi, a' = { tmps := (a.tmps.setIfInBounds 44 (.int .i64 (x : Int))).setIfInBounds 11 (.pointer (some ⟨Bi, 0, none⟩)), defers := [] } ∧ V.heap[Bi]? = some (.cells #[.int .i64 (x : Int)] 3))
    ?hAx
    (fun s V => goes c ((H : Int) % 128) key m s ∧ V.heap[w1.heap.size + 1]? = some (.cells (sghC f s (-1) GC.zero (optI (vacS c m s)) (vacE c (vacS c m s))) 103) ∧ Keeps w7 V (fun i => i = w1.heap.size + 1))
    (fun c' V => c' = .exit 1 ∧ V.heap[w1.heap.size + 1]? = some (.cells (srchV f c R) 103) ∧ Keeps w7 V (fun i => i = w1.heap.size + 1))
    ?hR ?hI ?hIp ?hXp ?h0
    (fun V => V.heap[w1.heap.size + 1]? = some (.cells (srchV f c R) 103) ∧ Keeps w7 V (fun i => i = w1.heap.size + 1))
    ?tail ?hassign ?hbody ?hdone ?hstop
  case hop =>
    rfl
  case hAx =>
    rintro x a' V r o ⟨Bi, rfl, h2⟩ hL
    exact ⟨Bi, rfl, putBlk h2 (fun e => by subst e; rw [h2] at hL; cases hL)⟩
  case hR =>
    rintro s V ⟨-, -, kV⟩
    obtain ⟨n1, n2, n3⟩ := hN.out
    exact ⟨kV.blkS hG7 (by show ¬ W6.heap.size + 1 = _; omega), kV.blkS hH7 (by show ¬ W6.heap.size = _; omega)⟩
  case hI =>
    rintro s V V' ⟨h1, h2, h3⟩ kk
    exact ⟨h1, kk.blk h2, h3.trans kk (fun _ _ e => e.elim)⟩
  case hIp =>
    rintro s V r o ⟨h1, h2, h3⟩ hL
    obtain ⟨n1, n2, n3⟩ := hN.out
    exact ⟨h1, putBlk h2 (by omega), h3.put (by omega) o⟩
  case hXp =>
    rintro s V r o ⟨h1, h2, h3⟩ hL
    obtain ⟨n1, n2, n3⟩ := hN.out
    exact ⟨h1, putBlk h2 (by omega), h3.put (by omega) o⟩
  case h0 =>
    intro r
    have kk : Keeps w7 ((w7.alloc (.deferred (some []))).alloc (.loop r)) (fun _ => False) := ((Keeps.refl _ _).alloc _).alloc _
    exact ⟨goes_zero, kk.blk hsg7, kk.mono (fun _ _ e => e.elim)⟩
  case hdone =>
    rintro s V rfl ⟨h1, h2, h3⟩
    refine ⟨?_, h3⟩
    have := srch_end h1
    rw [hR.out] at this
    rw [this]
    exact h2
  case hstop =>
    rintro c' V ⟨rfl, h2, h3⟩
    exact ⟨⟨h2, h3⟩, fun a' W' hq => wpIn_exit hq⟩
  case hassign =>
    rintro x s V K' hI' hK'
    have hK2 := hide hK'
    clear hK'
    gi_wp2_with fail
    refine hK2.out _ _ ((Keeps.refl _ _).alloc _) ⟨V.heap.size, ?_, heap_alloc_new _ _⟩
    simp only [List.setIfInBounds_toArray, List.set_cons_zero, List.set_cons_succ]
  case tail =>
    rintro V ⟨hS, kV⟩ hD
    obtain ⟨n1, n2, n3⟩ := hN.out
    have hR0 := kV.blkS hr07 (by show ¬ w.heap.size + 1 + 1 + 1 = _; omega)
    have hR1 := kV.blkS hr17 (by show ¬ w.heap.size + 1 + 1 + 1 + 1 = _; omega)
    have kw : Keeps w V (fun _ => False) := (K7.trans kV (fun i hi e => by omega))
    have hV6 : (V.setRow (w.heap.size + 1 + 1 + 1) (srchV f c R)).heap[w.heap.size + 1 + 1 + 1]? = some (.cells (srchV f c R) 103) := setRow_same hR0 _
    have kV6 : Keeps V (V.setRow (w.heap.size + 1 + 1 + 1) (srchV f c R)) (fun i => i = w.heap.size + 1 + 1 + 1) := (Keeps.refl V (fun i => i = w.heap.size + 1 + 1 + 1)).setRow (w.heap.size + 1 + 1 + 1) (fun _ => rfl) (srchV f c R)
    have b9 : Boxed (V.setRow (w.heap.size + 1 + 1 + 1) (srchV f c R)) (w.heap.size + 1 + 1 + 1 + 1) 31 (.int .i64 0) := kV6.blkS hR1 (by omega)
    have q1 := b9.cell
    have q2 := b9.frozen
    have hD6 : (V.setRow (w.heap.size + 1 + 1 + 1) (srchV f c R)).heap[w7.heap.size]? = some (.deferred (some [])) := kV6.blkS hD (by omega)
    have hfin : Aside ((((V.setRow (w.heap.size + 1 + 1 + 1) (srchV f c R)).setCell ⟨w.heap.size + 1 + 1 + 1 + 1, 0, none⟩ (.int .i64 0)).heap[w7.heap.size]? = some (.deferred (some []))) ∧ ((((V.setRow (w.heap.size + 1 + 1 + 1) (srchV f c R)).setCell ⟨w.heap.size + 1 + 1 + 1 + 1, 0, none⟩ (.int .i64 0)).putObj w7.heap.size (.deferred none)).heap[w.heap.size + 1 + 1 + 1]? = some (.cells (srchV f c R) 103)) ∧ ((((V.setRow (w.heap.size + 1 + 1 + 1) (srchV f c R)).setCell ⟨w.heap.size + 1 + 1 + 1 + 1, 0, none⟩ (.int .i64 0)).putObj w7.heap.size (.deferred none)).cell? ⟨w.heap.size + 1 + 1 + 1 + 1, 0, none⟩ = some (.int .i64 0)) ∧ Keeps w (((V.setRow (w.heap.size + 1 + 1 + 1) (srchV f c R)).setCell ⟨w.heap.size + 1 + 1 + 1 + 1, 0, none⟩ (.int .i64 0)).putObj w7.heap.size (.deferred none)) (fun _ => False)) := by
      have s6 := setBlk (l := w.heap.size + 1 + 1 + 1 + 1) (v := .int .i64 0) hV6 (by omega)
      refine ⟨setBlk hD6 (by omega), putBlk s6 (by omega), ?_, ?_⟩
      · exact (Ct.one_cell (putBlk (b9.set (.int .i64 0)) (by omega))).1
      · refine Keeps.put ?_ (by omega) _
        exact ((kw.trans kV6 (fun i hi e => by omega)).setCell _ (fun h => by have h : w.heap.size + 1 + 1 + 1 + 1 < w.heap.size := h; omega) _)
    have hS' := hS
    clear kV hV6 kV6 b9 hD6 kw hD hOT hsg7 hst7 hkc7 hhc7 hb7 hr07 hr17 hG7 hH7 hT7 hR1 hS hN n1 n2 n3
    show KX _ _
    refine HKX.out _ _ ?_
    refine wp_seq ?_
    refine wp_region_list ?_
    refine wpList_load_row rfl 103 (Operand.tmp 10) rfl (w1.heap.size + 1) rfl 103 (srchV f c R) (0, 0) _ hS' Tryz.underlying103 rfl (by kernel_rfl) ?_
    refine wpList_store_row rfl 103 (Operand.tmp 6) (Operand.tmp 91) rfl (w.heap.size + 1 + 1 + 1) (srchV f c R) rfl rfl 103 _ hR0 (by kernel_rfl) rfl (by kernel_rfl) ?_
    clear hS' hR0
    go_wp2_with fail
    rw [Exit.noGoto_ret]
    obtain ⟨d1, p2, p3, kf⟩ := hfin.out
    refine ⟨by simp, .inl ⟨_, _, rfl, run_takeDeferred d1, ?_⟩⟩
    exact ⟨_, resS _ _ (w.heap.size + 1 + 1 + 1) (w.heap.size + 1 + 1 + 1 + 1) f c R _ rfl rfl p2 p3, rfl, kf⟩
  case hbody =>
    rintro x s a' X ⟨r, hl⟩ ⟨hgo, hsg, kX⟩ ⟨Bi, rfl, hBi⟩ ⟨hs, rfl⟩
    obtain ⟨n1, n2, n3⟩ := hN.out
    obtain ⟨h, h4, h7, hG⟩ := Hh.out
    have hg := hmG s
    have kwX : Keeps w X (fun _ => False) := K7.trans kX (fun i hi e => by omega)
    have hfew := h.few
    have ho := h.off_le hF
    have hvm := valid_more h.valid
    have hgl := h.glen
    have hin := h.in hg
    have hmo := hF.most
    have hGA : GroupAt d l (gr + m s * l.g.toNat) (grpC c (m s)) := h.grp (m s) hg
    obtain ⟨y, hy⟩ : ∃ y, (((gr + m s * l.g.toNat : Nat)) : Int) = y := ⟨_, rfl⟩
    have ey : (gr : Int) + (m s : Int) * l.g = y := by rw [← hy, Int.natCast_add, Int.natCast_mul, Int.toNat_of_nonneg (by omega)]
    have hGr : ∀ W, Calls Tryz.prog 69 #[.agg #[.pointer (some ⟨p, 0, none⟩), .int .i64 l.k, .int .i64 l.e, .int .i64 l.a, .int .i64 l.b, .int .i64 l.c, .int .i64 l.eo, .int .i64 l.bo, .int .i64 l.s, .int .i64 l.g, .int .i64 (off : Int)], .int .i64 (f 7), .int .i64 ((m s : Nat) : Int)] W fun e w' => e = .returned (.agg #[.pointer (some ⟨p, 0, none⟩), .int .i64 l.k, .int .i64 l.e, .int .i64 l.a, .int .i64 l.b, .int .i64 l.c, .int .i64 l.eo, .int .i64 l.bo, .int .i64 l.s, .int .i64 l.g, .int .i64 y]) ∧ Keeps W w' (fun _ => False) := fun W => by
      rw [h7]
      have := tgroup_any p l (off : Int) (gr : Int) ((m s : Nat) : Int) W (by omega) (by omega) (by omega) (by omega) (by omega) (by omega)
      rw [ey] at this
      exact this
    have hfy : fitsI y := by rw [← hy]; exact fitsI_mk (by omega) (by omega)
    have hfg : fitsI l.g := fitsI_mk (by omega) (by omega)
    have hWd := fun W (q : Keeps w W (fun _ => False)) => word_any (hA.keeps q (fun _ _ _ e => e)) hF l y hfy hfg
    have hth := hGA.there
    rw [hy] at hth
    have hwv : wordV d l y = (((wordN d y : Nat) : Int), 0) := if_pos hth
    rw [hwv] at hWd
    obtain ⟨Wd, hWdE⟩ : ∃ Wd, wordN d y = Wd := ⟨_, rfl⟩
    have hWl : Wd < 18446744073709551616 := by rw [← hWdE]; exact wordN_lt
    rw [hWdE] at hWd
    have hTg := fun W => Op.tag_any H hH W
    have hMt : ∀ W, Calls Tryz.prog 73 #[.int .u64 (Wd : Int), .int .i64 ((H : Int) % 128)] W fun e w' => e = .returned (.agg #[.int .u64 ((spread (mk (tagB ((H : Int) % 128)) Wd) : Nat) : Int)]) ∧ Ct.Kp W w' := fun W => match_is ⟨_, hWl, rfl, rfl⟩ W
    have hmk := mk_lt (tagB ((H : Int) % 128)) Wd
    obtain ⟨mk9, hmk9⟩ : ∃ q, mk (tagB ((H : Int) % 128)) Wd = q := ⟨_, rfl⟩
    rw [hmk9] at hMt hmk
    have hAl : ∀ W, Calls Tryz.prog 74 #[.agg #[.int .u64 ((spread mk9 : Nat) : Int)]] W fun e w' => e = .returned (.func (.func 110) #[] #[.pointer (some ⟨W.heap.size, 0, none⟩)]) ∧ w'.heap[W.heap.size]? = some (.cells #[.int .u64 ((spread mk9 : Nat) : Int)] 142) ∧ Keeps W w' (fun _ => False) := fun W => by
      refine (all_call ((spread mk9 : Nat) : Int) W).mono ?_
      rintro e w' ⟨rfl, rfl⟩
      exact ⟨rfl, heap_alloc_new _ _, (Keeps.refl _ _).alloc _⟩
    have hCe := fun W (q : Keeps w W (fun _ => False)) (n : Nat) => cell_any (hA.keeps q (fun _ _ _ e => e)) hF l y (n : Int) hfy hfg
    obtain ⟨ky, hky⟩ : ∃ ky : Nat → GC × Int, (fun n : Nat => cellV d l y (n : Int)) = ky := ⟨_, rfl⟩
    have hkn : ∀ n : Nat, cellV d l y (n : Int) = ky n := fun n => congrFun hky n
    simp only [hkn] at hCe
    have hk8 : ∀ n, n < 8 → (ky n).1 = c (8 * m s + n) := fun n hn => by
      rw [← hkn, ← hy, hGA.cell hn]
      rfl
    have hk9 : ∀ n, 8 ≤ n → (ky n).1 = GC.zero := fun n hn => by
      rw [← hkn]
      unfold cellV
      rw [if_neg (by omega)]
    have hEm : ∀ W, Calls Tryz.prog 58 #[.int .u64 (Wd : Int)] W fun e w' => e = .returned (.bool (decide (0 < cntM (mk (· == 128) Wd)))) ∧ Keeps W w' (fun _ => False) := fun W => hasEmpty_any Wd hWl W
    have hempE : decide (0 < cntM (mk (· == 128) Wd)) = empG c (m s) := by
      rw [← hWdE, ← hy]
      exact emp_is hGA
    simp only [hempE] at hEm
    have hmet : ∀ n v, metC (sghC f n (-1) GC.zero (optI v) (vacE c v)) (optI v) Wd (m s) = sghC f n (-1) GC.zero (optI (meetV v c (m s))) (vacE c (meetV v c (m s))) := fun n v => by
      rw [← hWdE, ← hy]
      exact met_sgh hGA f n (-1) GC.zero v
    have hstopf : Hid (∀ (ps : List Nat) (z : Nat), ps ++ [z] <+: slM mk9 → (∀ q, q ∈ ps → (ky q).1.key ≠ key) → (ky z).1.key = key → z < 8 ∧ hitG c ((H : Int) % 128) key (m s) = z) := fun ps z a b e => by
      have hz8 : z < 8 := by
        rcases Nat.lt_or_ge z 8 with q | q
        · exact q
        · rw [hk9 z q] at e
          have : key.size = 0 := by rw [← e]; rfl
          omega
      rw [← hmk9, ← hWdE, ← hy] at a
      have hps : ∀ q, q ∈ ps → q < 8 := fun q hq => by
        have : q ∈ slM (mk (tagB ((H : Int) % 128)) (wordN d ((gr + m s * l.g.toNat : Nat) : Int))) := a.subset (by simp [hq])
        unfold slM at this
        exact List.mem_range.1 (List.mem_filter.1 this).1
      exact hit_stop hGA (by omega) (by omega) a (fun q hq => by have := b q hq; rw [hk8 q (hps q hq)] at this; exact this) (by rw [hk8 z hz8] at e; exact e)
    have hdonef : Hid ((∀ z, z ∈ slM mk9 → (ky z).1.key ≠ key) → hitG c ((H : Int) % 128) key (m s) = 8) := fun a => by
      rw [← hmk9, ← hWdE, ← hy] at a
      refine hit_done hGA (by omega) (by omega) fun z hz => ?_
      have hz8 : z < 8 := by
        unfold slM at hz
        exact List.mem_range.1 (List.mem_filter.1 hz).1
      have := a z hz
      rw [hk8 z hz8] at this
      exact this
    have Hz8 : Hid (∀ n, (ky n).1.key = key → n < 8) := fun n e => by
      rcases Nat.lt_or_ge n 8 with q | q
      · exact q
      · rw [hk9 n q] at e
        have : key.size = 0 := by rw [← e]; rfl
        omega
    have hs14 : s ≤ 8192 := by omega
    have hms : m s ≤ 8192 := by omega
    have hmsI : ((m s : Nat) : Int) ≤ 8192 := by omega
    have hsI : ((s : Nat) : Int) ≤ 8192 := by omega
    have Hk8 := hide (And.intro hk8 (And.intro hmet hempE))
    have HmG := hide (And.intro hs hgo)
    obtain ⟨g9, hg9⟩ : ∃ g9, m s = g9 := ⟨_, rfl⟩
    clear hk8 hk9 hkn hky hmk9 hWdE hwv hth hGA hmet hempE hin hgl hvm hfew ho hmo h4 h7 hG ey hy hg hfy hfg hgo hs
    rw [hg9] at hGr hms hmsI hBi
    have HBS : Hid (w1.heap.size + 1 < X.heap.size ∧ w7.heap.size + 1 < X.heap.size) := ⟨heap_lt hsg, heap_lt hl⟩
    obtain ⟨c0, c1, c2, c3, c4, c5, c6, c7, c8, c9, c10⟩ := c11_of (kX.blkS hb7 (by show ¬ w.heap.size = _; omega))
    have hst := (st8_cells (kX.blkS hst7 (by show ¬ w1.heap.size = _; omega))).1.2.2.2.2.2.2.2
    have hbi := (Ct.one_cell hBi).1
    dsimp only
    simp only [List.setIfInBounds_toArray, List.set_cons_zero, List.set_cons_succ]
    rw [hg9]
    gi_wp2_with fail
    refine ⟨trivial, (CallsIn.inRound (w7.heap.size + 1) (callsIn_wide.2 (hGr _))).mono ?_⟩
    rintro e X1 ⟨rfl, k1⟩
    have k12 : Keeps X (X1.alloc (Obj.cells #[.pointer (some ⟨p, 0, none⟩), .int .i64 l.k, .int .i64 l.e, .int .i64 l.a, .int .i64 l.b, .int .i64 l.c, .int .i64 l.eo, .int .i64 l.bo, .int .i64 l.s, .int .i64 l.g, .int .i64 y] 109)) (fun _ => False) := k1.alloc _
    have kw1 := kwX.trans k12 (fun _ _ e => e)
    have hgb1 := heap_alloc_new X1 (Obj.cells #[.pointer (some ⟨p, 0, none⟩), .int .i64 l.k, .int .i64 l.e, .int .i64 l.a, .int .i64 l.b, .int .i64 l.c, .int .i64 l.eo, .int .i64 l.bo, .int .i64 l.s, .int .i64 l.g, .int .i64 y] 109)
    clear c0 c1 c2 c3 c4 c5 c6 c7 c8 c9 c10 hst hbi hGr
    gi_wp2_with fail
    refine ⟨trivial, (CallsIn.inRound (w7.heap.size + 1) (callsIn_wide.2 (hWd _ kw1))).mono ?_⟩
    rintro e X2 ⟨rfl, k2⟩
    have k02 := k12.trans k2 (fun _ _ e => e)
    have hgb2 := k2.blk hgb1
    have hsg2 := k02.blk hsg
    have hBi2 := k02.blk hBi
    have hl2 := k02.blk hl
    have kX2 : Keeps w7 X2 (fun i => i = w1.heap.size + 1) := kX.trans k02 (fun _ _ e => e.elim)
    have c8 : X2.cell? ⟨w1.heap.size + 1, 8, none⟩ = some (.int .i64 (s : Int)) := by
      simp only [World.cell?, hsg2, sghC]
      rfl
    have f8 : X2.frozen? ⟨w1.heap.size + 1, 8, none⟩ = false := by
      simp only [World.frozen?, hsg2]
      rfl
    have k3 : Keeps X2 (X2.setCell ⟨w1.heap.size + 1, 8, none⟩ (.int .i64 ((s : Int) + 1))) (fun i => i = w1.heap.size + 1) := (Keeps.refl X2 (fun i => i = w1.heap.size + 1)).setCell ⟨w1.heap.size + 1, 8, none⟩ (fun _ => rfl) _
    have hsg3 : (X2.setCell ⟨w1.heap.size + 1, 8, none⟩ (.int .i64 ((s : Int) + 1))).heap[w1.heap.size + 1]? = some (.cells (sghC f (s + 1) (-1) GC.zero (optI (vacS c m s)) (vacE c (vacS c m s))) 103) := by
      rw [set_row hsg2 8 _]
      simp only [sghC, List.setIfInBounds_toArray, List.set_cons_zero, List.set_cons_succ]
      rfl
    have hh3 := (Ct.one_cell (k3.blkS (kX2.blkS hhc7 (by show ¬ w.heap.size + 1 = _; omega)) (by show ¬ w.heap.size + 1 = _; omega))).1
    have hgb3 := k3.blkS hgb2 (by have := HBS.out.1; have := k1.size; show ¬ X1.heap.size = _; omega)
    have hBi3 := k3.blkS hBi2 (fun e => by
      have e : Bi = w1.heap.size + 1 := e
      rw [e, hsg2] at hBi2
      simp [sghC] at hBi2)
    have hl3 := k3.blkS hl2 (by show ¬ w7.heap.size + 1 = _; omega)
    have k03 : Keeps X (X2.setCell ⟨w1.heap.size + 1, 8, none⟩ (.int .i64 ((s : Int) + 1))) (fun i => i = w1.heap.size + 1) := (k02.mono (fun _ _ e => e.elim)).trans k3 (fun _ _ e => e)
    have H3 := hide (And.intro hsg3 (And.intro hgb3 (And.intro hBi3 (And.intro hl3 k03))))
    clear hsg3 hgb3 hBi3 hl3 k03 k3 hsg2 hBi2 hl2 hgb2 hgb1 hWd
    gi_wp2_with fail
    refine ⟨trivial, (CallsIn.inRound (w7.heap.size + 1) (callsIn_wide.2 (hTg _))).mono ?_⟩
    rintro e X3 ⟨rfl, rfl⟩
    gi_wp2_with fail
    refine ⟨trivial, (CallsIn.inRound (w7.heap.size + 1) (callsIn_wide.2 (hMt _))).mono ?_⟩
    rintro e X4 ⟨rfl, k4⟩
    gi_wp2_with fail
    refine ⟨trivial, (CallsIn.inRound (w7.heap.size + 1) (callsIn_wide.2 (hAl _))).mono ?_⟩
    rintro e X5 ⟨rfl, hb5, k5⟩
    have k35 : Keeps (X2.setCell ⟨w1.heap.size + 1, 8, none⟩ (.int .i64 ((s : Int) + 1))) X5 (fun _ => False) := (Keeps.ofKp k4).trans k5 (fun _ _ e => e)
    obtain ⟨hsg3, hgb3, hBi3, hl3, k03⟩ := H3.out
    have hsg5 := k35.blk hsg3
    have hgb5 := k35.blk hgb3
    have hBi5 := k35.blk hBi3
    have hl5 := k35.blk hl3
    have k05 : Keeps X X5 (fun i => i = w1.heap.size + 1) := k03.trans k35 (fun _ _ e => e.elim)
    have kw5 : Keeps w X5 (fun _ => False) := kwX.trans k05 (fun i hi e => by omega)
    have kz5 : Keeps w7 X5 (fun i => i = w1.heap.size + 1) := kX.trans k05 (fun _ _ e => e)
    have hkc5 := kz5.blkS hkc7 (by show ¬ w.heap.size + 1 + 1 = _; omega)
    have hT5 : TabAt X5 := hT.kp (kw5.below (Nat.le_refl _) (fun _ _ e => e))
    have hc5 := (Ct.one_cell hb5).1
    obtain ⟨B5, hB5⟩ : ∃ B, X4.heap.size = B := ⟨_, rfl⟩
    rw [hB5] at hc5
    have hne5 : Hid (X1.heap.size ≠ w1.heap.size + 1 ∧ Bi ≠ w1.heap.size + 1 ∧ w1.heap.size + 1 < X5.heap.size) := ⟨by have := HBS.out.1; have := k1.size; omega, fun e => by rw [e, hsg5] at hBi5; simp [sghC] at hBi5, heap_lt hsg5⟩
    clear hsg3 hgb3 hBi3 hl3 k03 H3 k4 k5 hMt hAl hTg hh3 c8 f8 hb5 k35 k2 k12 kw1 k02 kX2
    gi_wp2_with fail
    refine range_in (n := 6) (l₀ := w7.heap.size + 1) rfl hl5 (by omega) (Bs := B5) (m := mk9) rfl hmk hT5 hc5 rfl
      (fun a x => { tmps := (a.tmps.setIfInBounds 68 (.int .i64 (x : Int))).setIfInBounds 15 (.int .i64 (x : Int)), defers := [] })
      (fun pre V => (∀ q, q ∈ pre → (ky q).1.key ≠ key) ∧ Keeps X5 V (fun _ => False))
      (fun c' xs V => (c' = .exit 1 ∧ ∃ (ps : List Nat) (z : Nat), xs = ps ++ [z] ∧ (ky z).1.key = key ∧ (∀ q, q ∈ ps → (ky q).1.key ≠ key) ∧ V.heap[w1.heap.size + 1]? = some (.cells (sghC f (s + 1) (((8 * m s + z : Nat)) : Int) (ky z).1 (optI (vacS c m s)) (vacE c (vacS c m s))) 103)) ∧ Keeps X5 V (fun i => i = w1.heap.size + 1))
      ?hI2 ?hIx2 ⟨by simp, Keeps.refl _ _⟩ ?hassign2 ?hbody2 ?hdone2 ?hstop2
    case hI2 => exact OwnFrom.and (ownFrom_pure _ _) (keepsOwn (Nat.le_refl _))
    case hIx2 =>
      intro c' xs Y Y' row hs hgr hr
      obtain ⟨⟨h1, ps, z, h2, h3, h4, h5⟩, h6⟩ := hs
      refine ⟨⟨h1, ps, z, h2, h3, h4, (hgr.block _ (heap_lt h5) (fun e => ?_)).trans h5⟩, keepsOwn (β := Unit) (B := X5.heap.size) (Nat.le_refl _) () Y Y' row h6 hgr hr⟩
      have := (hr _ e.symm).1
      have := hne5.out.2.2
      omega
    case hassign2 =>
      intro l' x' W' K' hK'
      gi_wp2
      exact hK'
    case hstop2 =>
      rintro c' pre V hp ⟨⟨rfl, ps, z, rfl, h3, h4, h5⟩, h6⟩
      obtain ⟨hz8, hhit⟩ := hstopf.out ps z hp h4 h3
      have kXV : Keeps X V (fun i => i = w1.heap.size + 1) := k05.trans h6 (fun _ _ e => e)
      refine wpIn_exit ?_
      refine ⟨fun q hq => kXV.block q (by have := HBS.out.2; omega) (by show ¬ q = _; omega), rfl, ?_, kz5.trans h6 (fun _ _ e => e)⟩
      have e := srch_hit HmG.out.2 HmG.out.1 (by rw [hhit]; exact hz8)
      rw [hR.out, hhit] at e
      rw [e]
      rw [Hk8.out.1 z hz8] at h5
      exact h5
    case hdone2 =>
      rintro V ⟨hall, kV⟩
      have hhit := hdonef.out hall
      have hsgV := kV.blk hsg5
      have hTV : TabAt V := hT.kp ((kw5.trans kV (fun _ _ e => e)).below (Nat.le_refl _) (fun _ _ e => e))
      have hMe := meet_any Wd g9 hWl hms V hTV (w1.heap.size + 1) (sghC f (s + 1) (-1) GC.zero (optI (vacS c m s)) (vacE c (vacS c m s))) (optI (vacS c m s)) (vacE c (vacS c m s)) hsgV rfl rfl
      have hmt := Hk8.out.2.1 (s + 1) (vacS c m s)
      rw [hg9] at hmt
      rw [hmt] at hMe
      have hbV := (Ct.one_cell (kV.blk hBi5)).1
      have kXV : Keeps X V (fun i => i = w1.heap.size + 1) := k05.trans kV (fun _ _ e => e.elim)
      have Hv := hide (And.intro kXV hall)
      clear hall hsgV hTV hmt
      gi_wp2_with fail
      refine ⟨trivial, (CallsIn.inRound (w7.heap.size + 1) (callsIn_wide.2 hMe)).mono ?_⟩
      rintro e V1 ⟨⟨v, rfl⟩, hsg1, kV1⟩
      clear hMe hbV
      gi_wp2_with fail
      refine ⟨trivial, (CallsIn.inRound (w7.heap.size + 1) (callsIn_wide.2 (hEm _))).mono ?_⟩
      rintro e V2 ⟨rfl, kV2⟩
      have kX2 : Keeps X V2 (fun i => i = w1.heap.size + 1) := (Hv.out.1.trans kV1 (fun _ _ e => e)).trans kV2 (fun _ _ e => e.elim)
      have hsg2 := kV2.blk hsg1
      have hblk : ∀ q, q = w7.heap.size ∨ q = w7.heap.size + 1 → V2.heap[q]? = X.heap[q]? := fun q hq => kX2.block q (by have := HBS.out.2; omega) (by show ¬ q = _; omega)
      have hn8 : ¬ hitG c ((H : Int) % 128) key (m s) < 8 := by omega
      cases hE : empG c (m s)
      · have hF9 : Hid ((∀ q, q = w7.heap.size ∨ q = w7.heap.size + 1 → V2.heap[q]? = X.heap[q]?) ∧ ∃ s', s' = s + 1 ∧ goes c ((H : Int) % 128) key m s' ∧ V2.heap[w1.heap.size + 1]? = some (.cells (sghC f s' (-1) GC.zero (optI (vacS c m s')) (vacE c (vacS c m s'))) 103) ∧ Keeps w7 V2 (fun i => i = w1.heap.size + 1)) := by
          refine ⟨hblk, s + 1, rfl, goes_succ HmG.out.2 hn8 hE, ?_, kX.trans kX2 (fun _ _ e => e)⟩
          rw [← hg9] at hsg2
          exact hsg2
        clear hblk hsg2 kX2 hsg1 kV1 kV2 Hv hEm
        gi_wp2_with fail
        exact hF9.out
      · have hF9 : Hid ((∀ q, q = w7.heap.size ∨ q = w7.heap.size + 1 → V2.heap[q]? = X.heap[q]?) ∧ (V2.heap[w1.heap.size + 1]? = some (.cells (srchV f c R) 103) ∧ Keeps w7 V2 (fun i => i = w1.heap.size + 1))) := by
          refine ⟨hblk, ?_, kX.trans kX2 (fun _ _ e => e)⟩
          have e := srch_emp HmG.out.2 HmG.out.1 hn8 hE
          rw [hR.out] at e
          rw [e]
          rw [← hg9] at hsg2
          exact hsg2
        clear hblk hsg2 kX2 hsg1 kV1 kV2 Hv hEm
        gi_wp2_with fail
        exact ⟨hF9.out.1, rfl, hF9.out.2⟩
    case hbody2 =>
      rintro l' pre z Y hlY ⟨hpre, kY⟩ hlt
      have kwY := kw5.trans kY (fun _ _ e => e)
      have hCz := hCe _ kwY z
      obtain ⟨kz, hkz⟩ : ∃ kz, (ky z).1 = kz := ⟨_, rfl⟩
      obtain ⟨ez, hez⟩ : ∃ ez, (ky z).2 = ez := ⟨_, rfl⟩
      rw [hkz, hez] at hCz
      unfold CellPost GC.val at hCz
      obtain ⟨c0, c1, c2, c3, c4, c5, c6, c7, c8, c9, c10⟩ := c11_of (kY.blk hgb5)
      have HY := hide (And.intro hpre kY)
      clear hCe hpre hlt
      dsimp only
      simp only [List.setIfInBounds_toArray, List.set_cons_zero, List.set_cons_succ]
      gi_wp2_with fail
      refine ⟨trivial, (CallsIn.inRound l' (CallsIn.inRound (w7.heap.size + 1) (callsIn_wide.2 hCz))).mono ?_⟩
      rintro e Y1 ⟨rfl, k1'⟩
      clear c0 c1 c2 c3 c4 c5 c6 c7 c8 c9 c10 hCz
      have k5Y : Keeps X5 Y1 (fun _ => False) := kY.trans k1' (fun _ _ e => e)
      have k52 : Keeps X5 (Y1.alloc (Obj.cells #[.int .i64 kz.kind, .int .i64 kz.tag, .string kz.key, .string kz.elem, .int .i64 kz.birth] 83)) (fun _ => False) := k5Y.alloc _
      have ck := (Ct.one_cell (k52.blk hkc5)).1
      have hn9 := heap_alloc_new Y1 (Obj.cells #[.int .i64 kz.kind, .int .i64 kz.tag, .string kz.key, .string kz.elem, .int .i64 kz.birth] 83)
      have kYY : Keeps Y (Y1.alloc (Obj.cells #[.int .i64 kz.kind, .int .i64 kz.tag, .string kz.key, .string kz.elem, .int .i64 kz.birth] 83)) (fun _ => False) := k1'.alloc _
      by_cases hq : kz.key = key
      · have hq' : (kz.key.toList == key.toList) = true := by simp [hq]
        have Hq := hide hq
        have hBi9 := k52.blk hBi5
        have hsg9 := k52.blk hsg5
        have H9 := hide (And.intro hBi9 (And.intro hsg9 (And.intro hn9 (And.intro kYY k52))))
        clear hq hBi9 hsg9 hn9 kYY k52 k5Y k1'
        have hz8 := Hz8.out z (by rw [hkz]; exact Hq.out)
        have hzI : (z : Int) < 8 := by omega
        gi_wp2_with fail
        obtain ⟨Y2, hY2⟩ : ∃ Y2, Y1.alloc (Obj.cells #[.int .i64 kz.kind, .int .i64 kz.tag, .string kz.key, .string kz.elem, .int .i64 kz.birth] 83) = Y2 := ⟨_, rfl⟩
        rw [hY2] at H9 ⊢
        have w8 : IntKind.i64.wrap ((g9 : Int) * 8) = (g9 : Int) * 8 := by rw [IntKind.wrap_i64]; omega
        have w9 : IntKind.i64.wrap ((g9 : Int) * 8 + (z : Int)) = (g9 : Int) * 8 + (z : Int) := by rw [IntKind.wrap_i64]; omega
        obtain ⟨hBi9, hsg9, hn9, kYY, k52⟩ := H9.out
        have a1 : Y2.drew.cell? ⟨Bi, 0, none⟩ = some (.int .i64 (g9 : Int)) := (Ct.one_cell hBi9).1
        obtain ⟨b0, b1, b2, b3, b4, -⟩ := five_cells (w := Y2.drew) hn9
        have hs9 : Y2.drew.heap[w1.heap.size + 1]? = some (.cells (sghC f (s + 1) (-1) GC.zero (optI (vacS c m s)) (vacE c (vacS c m s))) 103) := hsg9
        have hrow := set_row hs9 9 (.int .i64 ((g9 : Int) * 8 + (z : Int)))
        simp only [sghC, List.setIfInBounds_toArray, List.set_cons_zero, List.set_cons_succ] at hrow hs9
        obtain ⟨⟨-, -, -, -, -, -, -, -, -, p9, -⟩, -, -, -, -, -, -, -, -, -, q9, -⟩ := r17_cells hs9
        obtain ⟨⟨-, -, -, -, -, -, -, -, -, -, p10, p11, p12, p13, p14, -⟩, -, -, -, -, -, -, -, -, -, -, q10, q11, q12, q13, q14, -⟩ := r17_cells hrow
        have hs9' : Y2.heap[w1.heap.size + 1]? = some (.cells (sghC f (s + 1) (-1) GC.zero (optI (vacS c m s)) (vacE c (vacS c m s))) 103) := hsg9
        have hrow' := set_row hs9' 9 (.int .i64 ((g9 : Int) * 8 + (z : Int)))
        simp only [sghC, List.setIfInBounds_toArray, List.set_cons_zero, List.set_cons_succ] at hrow' hs9'
        obtain ⟨⟨-, -, -, -, -, -, -, -, -, p9', -⟩, -, -, -, -, -, -, -, -, -, q9', -⟩ := r17_cells hs9'
        obtain ⟨⟨-, -, -, -, -, -, -, -, -, -, p10', p11', p12', p13', p14', -⟩, -, -, -, -, -, -, -, -, -, -, q10', q11', q12', q13', q14', -⟩ := r17_cells hrow'
        have a1' : Y2.cell? ⟨Bi, 0, none⟩ = some (.int .i64 (g9 : Int)) := (Ct.one_cell hBi9).1
        obtain ⟨b0', b1', b2', b3', b4', -⟩ := five_cells (w := Y2) hn9
        have hrow5 := five_at hrow' kz
        have hfin : Hid (KeepsFrom X5.heap.size Y (set5z (Y2.setCell ⟨w1.heap.size + 1, 9, none⟩ (.int .i64 ((g9 : Int) * 8 + (z : Int)))) (w1.heap.size + 1) kz).drew ∧ (set5z (Y2.setCell ⟨w1.heap.size + 1, 9, none⟩ (.int .i64 ((g9 : Int) * 8 + (z : Int)))) (w1.heap.size + 1) kz).drew.heap[w1.heap.size + 1]? = some (.cells (sghC f (s + 1) (((8 * m s + z : Nat)) : Int) (ky z).1 (optI (vacS c m s)) (vacE c (vacS c m s))) 103) ∧ Keeps X5 (set5z (Y2.setCell ⟨w1.heap.size + 1, 9, none⟩ (.int .i64 ((g9 : Int) * 8 + (z : Int)))) (w1.heap.size + 1) kz).drew (fun i => i = w1.heap.size + 1)) := by
          have kd : Keeps Y2 (set5z (Y2.setCell ⟨w1.heap.size + 1, 9, none⟩ (.int .i64 ((g9 : Int) * 8 + (z : Int)))) (w1.heap.size + 1) kz).drew (fun i => i = w1.heap.size + 1) := (((Keeps.refl Y2 (fun i => i = w1.heap.size + 1)).setCell ⟨w1.heap.size + 1, 9, none⟩ (fun _ => rfl) _).trans (set5z_keeps _ _ _) (fun _ _ e => e)).drew
          have kYd : Keeps Y (set5z (Y2.setCell ⟨w1.heap.size + 1, 9, none⟩ (.int .i64 ((g9 : Int) * 8 + (z : Int)))) (w1.heap.size + 1) kz).drew (fun i => i = w1.heap.size + 1) := (kYY.mono (fun _ _ e => e.elim)).trans kd (fun _ _ e => e)
          refine ⟨keepsFrom_cells kYd (HY.out.2.blk hsg5), ?_, (k52.mono (fun _ _ e => e.elim)).trans kd (fun _ _ e => e)⟩
          rw [hkz, show (((8 * m s + z : Nat)) : Int) = (g9 : Int) * 8 + (z : Int) by rw [hg9]; omega]
          exact hrow5
        clear hBi9 hsg9 hn9 kYY k52 H9 hrow hrow5 hs9 hrow' hs9' hOT hb7 hhc7 hkc7 hr07 hr17 hst7 hsg7 hT7 k2 hgb5 hBi5 hkc5 HKX hsg
        apply twiceT
        case h =>
          intro hrest
          gi_region_with fail
          all_goals exact hrest.out
        case r =>
          gi_wp2_with fail
          exact ⟨hfin.out.1, ⟨rfl, pre, z, rfl, by rw [hkz]; exact Hq.out, HY.out.1, hfin.out.2.1⟩, hfin.out.2.2⟩
      · have hq' : (kz.key.toList == key.toList) = false := by
          rw [beq_eq_false_iff_ne]
          exact fun e => hq (str_eq e)
        have hfin : Hid (KeepsFrom X5.heap.size Y (Y1.alloc (Obj.cells #[.int .i64 kz.kind, .int .i64 kz.tag, .string kz.key, .string kz.elem, .int .i64 kz.birth] 83)) ∧ Ct.Stay Y (Y1.alloc (Obj.cells #[.int .i64 kz.kind, .int .i64 kz.tag, .string kz.key, .string kz.elem, .int .i64 kz.birth] 83)) ∧ (∀ q, q ∈ pre ++ [z] → (ky q).1.key ≠ key) ∧ Keeps X5 (Y1.alloc (Obj.cells #[.int .i64 kz.kind, .int .i64 kz.tag, .string kz.key, .string kz.elem, .int .i64 kz.birth] 83)) (fun _ => False)) := ⟨keepsFrom_keeps kYY, Ct.Stay.kp (kYY.below (Nat.le_refl _) (fun _ _ e => e)), fun q hq2 => by
          rcases List.mem_append.1 hq2 with h | h
          · exact HY.out.1 q h
          · rw [List.mem_singleton.1 h, hkz]; exact hq, k52⟩
        clear kYY k52 k5Y k1' hn9 hq
        gi_wp2_with fail
        exact hfin.out
end Go.Proofs.YtmdnknbolgedgaaGreatDoor
/-
  Find, Probes, Get.
-/
namespace Go.Proofs.YtmdnknbolgedgaaGreatDoor
open Go.RowKit Go.Shelf Ly Ct
set_option linter.unusedVariables false

section
variable {w : World} {p : Nat} {F : Nat → Prop} {d : AD} {l : Lay} {off gr G : Nat} {f : Nat → Int} {c : Nat → GC}
set_option maxRecDepth 100000 in
set_option maxHeartbeats 1000000 in
theorem tfind_yes (hA : Arena w p F d) (hF : d.Fine) (h : TabD d l off gr G f c) (h4 : f 4 = ((8 * G : Nat) : Int)) (h7 : f 7 = (gr : Int)) (k : Nat) (hk : k ≤ 13) (hG : G = 2 ^ k) (hT : TabAt w) (H : Nat) (hH : H < 18446744073709551616) (key : ByteArray) (hkey : (key.size : Int) = l.k) :
    Calls Tryz.prog 16 #[.agg #[.pointer (some ⟨p, 0, none⟩), .int .i64 l.k, .int .i64 l.e, .int .i64 l.a, .int .i64 l.b, .int .i64 l.c, .int .i64 l.eo, .int .i64 l.bo, .int .i64 l.s, .int .i64 l.g, .int .i64 (off : Int)], .int .u64 (H : Int), .string key] w fun e w' => e = .returned (.tuple #[.int .i64 (optI (srchT c ((H : Int) % 128) key (Pb.metN (H / 128) G) G).slot), .int .i64 0]) ∧ Keeps w w' (fun _ => False) := by
  have hS := fun W (q : Keeps w W (fun _ => False)) => search_yes (hA.keeps q (fun _ _ _ e => e)) hF h h4 h7 k hk hG (hT.kp (q.below (Nat.le_refl _) (fun _ _ e => e))) H hH key hkey
  unfold srchV sghC at hS
  generalize srchT c ((H : Int) % 128) key (Pb.metN (H / 128) G) G = r at *
  generalize slotC c r.slot = x at *
  clear h h4 h7 hT
  go_enter Tryz.func16, Tryz.ntmps16
  go_wp2_with fail
  (with_reducible refine (hS _ ((Keeps.refl _ _).alloc _)).mono ?_)
  rintro e w1 ⟨rfl, k1⟩
  have HK : Hid (∀ o, Keeps w (w1.alloc o) (fun _ => False)) := fun o => ((((Keeps.refl w (fun _ => False)).alloc _).trans k1 (fun _ _ e => e)).alloc o)
  clear hS
  go_wp2_with fail
  go_ret2
  exact ⟨rfl, HK.out _⟩
set_option maxRecDepth 100000 in
set_option maxHeartbeats 1000000 in
theorem tprobes_yes (hA : Arena w p F d) (hF : d.Fine) (h : TabD d l off gr G f c) (h4 : f 4 = ((8 * G : Nat) : Int)) (h7 : f 7 = (gr : Int)) (k : Nat) (hk : k ≤ 13) (hG : G = 2 ^ k) (hT : TabAt w) (H : Nat) (hH : H < 18446744073709551616) (key : ByteArray) (hkey : (key.size : Int) = l.k) :
    Calls Tryz.prog 13 #[.agg #[.pointer (some ⟨p, 0, none⟩), .int .i64 l.k, .int .i64 l.e, .int .i64 l.a, .int .i64 l.b, .int .i64 l.c, .int .i64 l.eo, .int .i64 l.bo, .int .i64 l.s, .int .i64 l.g, .int .i64 (off : Int)], .int .u64 (H : Int), .string key] w fun e w' => e = .returned (.tuple #[.int .i64 ((srchT c ((H : Int) % 128) key (Pb.metN (H / 128) G) G).probes : Int), .int .i64 0]) ∧ Keeps w w' (fun _ => False) := by
  have hS := fun W (q : Keeps w W (fun _ => False)) => search_yes (hA.keeps q (fun _ _ _ e => e)) hF h h4 h7 k hk hG (hT.kp (q.below (Nat.le_refl _) (fun _ _ e => e))) H hH key hkey
  unfold srchV sghC at hS
  generalize srchT c ((H : Int) % 128) key (Pb.metN (H / 128) G) G = r at *
  generalize slotC c r.slot = x at *
  clear h h4 h7 hT
  go_enter Tryz.func13, Tryz.ntmps13
  go_wp2_with fail
  (with_reducible refine (hS _ ((Keeps.refl _ _).alloc _)).mono ?_)
  rintro e w1 ⟨rfl, k1⟩
  have HK : Hid (∀ o, Keeps w (w1.alloc o) (fun _ => False)) := fun o => ((((Keeps.refl w (fun _ => False)).alloc _).trans k1 (fun _ _ e => e)).alloc o)
  clear hS
  go_wp2_with fail
  go_ret2
  exact ⟨rfl, HK.out _⟩
end
end Go.Proofs.YtmdnknbolgedgaaGreatDoor
