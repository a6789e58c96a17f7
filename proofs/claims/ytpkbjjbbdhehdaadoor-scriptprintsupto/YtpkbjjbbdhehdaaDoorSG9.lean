/-
  script: lists copied: an empty row of one's own and what is appended to it.
-/
import Derived.Test.YtpkbjjbbdhehdaaDoorSG8
namespace Go.Proofs.YtpkbjjbbdhehdaaDoor
open Go.RowKit
set_option linter.unusedVariables false

def cellI (z : Int) : Value := .int .i64 z
theorem cellI_one {l : List Int} : ∀ u ∈ l.map cellI, u.oneCell' = true := fun u hu => by
  obtain ⟨z, _, rfl⟩ := List.mem_map.1 hu
  rfl
theorem cm_one {w : World} {L : List CmV} (h : ∀ x ∈ L, CmdIn w x.c x.fs x.hs) : ∀ u ∈ cmCells L, u.oneCell' = true := by
  induction L with
  | nil => intro u hu; cases hu
  | cons x t ih =>
    intro u hu
    have hx := h x List.mem_cons_self
    obtain ⟨sf, nf, cf, e1⟩ := hx.f.slice
    obtain ⟨sh, nh, ch, e2⟩ := hx.s.slice
    simp only [cmCells, List.mem_append, CmV.cells, List.mem_cons, List.not_mem_nil, or_false] at hu
    rcases hu with (rfl | rfl | rfl | rfl | rfl | rfl | rfl | rfl | rfl) | hu
    · rfl
    · rfl
    · rw [e1]; rfl
    · rw [e2]; rfl
    · rfl
    · rfl
    · rfl
    · rfl
    · rfl
    · exact ih (fun y hy => h y (List.mem_cons_of_mem _ hy)) u hu
theorem IntsIn.row {w : World} {v : Value} {l : List Int} (h : IntsIn w v l) : RowIn w v l.length (l.map cellI) := by
  rcases h.form with ⟨rfl, rfl⟩ | ⟨a, c, e, hc⟩
  · exact Or.inl ⟨rfl, rfl⟩
  · refine Or.inr ⟨a, c, e, fun j u hu => ?_⟩
    rw [List.getElem?_map] at hu
    obtain ⟨z, hz, rfl⟩ := Option.map_eq_some_iff.1 hu
    obtain ⟨hj, rfl⟩ := List.getElem?_eq_some_iff.1 hz
    exact hc j hj
/-- An empty row of one's own, and a row that lies somewhere appended to it. -/
theorem copy_row (t e : TypeId) (z : Value) (size bytes : Nat) (ht : Tryd.prog.underlying t = some (.slice e)) (hi : (Tryd.prog.info? e).map (fun i => (i.zero, i.size, i.bytes)) = some (some z, size, bytes)) (hz : z.cells.size = size) (hs0 : 0 < size)
    {W : World} {g lo : Nat} (h7 : W.heap[g]? = some (.cells #[] e)) (hlo : lo ≤ g) {v : Value} {n : Nat} {xs : List Value} (hr : RowIn W v n xs) (hx : xs.length = n * size) (h1 : ∀ u ∈ xs, u.oneCell' = true) (hb : n * bytes ≤ 140737488355328) (hn : n ≤ 1099511627776) (hb0 : 1 ≤ bytes) :
    ∃ g2 c W', (∀ ty, (Builtin.append_ #[t, t] ty #[.slice (some ⟨g, 0, none⟩) 0 0, v]).run Tryd.prog W = .ok (.slice (some ⟨g2, 0, none⟩) n c) W') ∧ W'.ownsRow lo e size (.slice (some ⟨g2, 0, none⟩) n c) n xs ∧ Keeps W W' (fun _ => False) ∧ (g2 = g ∨ g2 = W.heap.size) := by
  have hglt := heap_lt h7
  have hi' : ∃ i, Tryd.prog.info? e = some i ∧ i.zero = some z ∧ i.size = size ∧ i.bytes = bytes := by
    cases h : Tryd.prog.info? e with
    | none => rw [h] at hi; cases hi
    | some i =>
      rw [h] at hi
      simp at hi
      exact ⟨i, rfl, hi.1, hi.2.1, hi.2.2⟩
  obtain ⟨i, q1, q2, q3, q4⟩ := hi'
  have own0 : W.ownsRow lo e size (.slice (some ⟨g, 0, none⟩) 0 0) 0 [] := ⟨by simp, Or.inr ⟨g, 0, #[], rfl, hlo, h7, Nat.le_refl _, by simp [maxLen], by simp, by simp⟩⟩
  rcases hr with ⟨rfl, rfl⟩ | ⟨a, cap, rfl, hc⟩
  · have r1 := fun ty => run_append_owned_none (P := Tryd.prog) (w := W) lo t ty e i size ht q1 _ 0 [] own0
    have : xs = [] := List.eq_nil_of_length_eq_zero (by omega)
    subst this
    exact ⟨g, 0, W, r1, own0, Keeps.refl _ _, Or.inl rfl⟩
  · obtain ⟨v', w2, hr, hown, hgr, hnil, hloc⟩ := run_append_own_at (P := Tryd.prog) W lo t 0 e i z size bytes ht q1 q2 q3 q4 hz hs0 _ 0 [] own0 a n cap xs hx hc h1 (by simp only [maxLen]; omega) (by rw [Nat.zero_add]; exact hb) (by omega)
    rw [Nat.zero_add, List.nil_append] at hown
    have hsrc : Src Tryd.prog i.size t (.slice (some a) n cap) n xs W := Src.ofSlice W ht a n cap xs (by rw [q3]; exact hx) hc h1
    rcases Nat.eq_zero_or_pos n with rfl | hpos
    · have : xs = [] := List.eq_nil_of_length_eq_zero (by omega)
      subst this
      have r1 := fun ty => run_append_room_src (P := Tryd.prog) W t t ty e i ht q1 g 0 0 0 _ 0 [] hsrc (by omega) (fun j hj => by simp at hj) (fun j hj => by simp at hj)
      exact ⟨g, 0, W, r1, own0, Keeps.refl _ _, Or.inl rfl⟩
    · have r1 := fun ty => run_append_grow_src (P := Tryd.prog) W t t ty e i z ht q1 q2 (some ⟨g, 0, none⟩) 0 0 [] (by have := run_firstCells_some (P := Tryd.prog) W.drew i.size 0 ⟨g, 0, none⟩ 0 0 [] (by simp) (by simp); exact this) _ n xs hsrc (by omega) (by omega)
        (by
          have a := nextslicecap_le (need := 0 + n) (old := 0) (by omega)
          rw [q4]
          refine Nat.le_trans (Nat.mul_le_mul_right bytes a) ?_
          rw [Nat.zero_add, Nat.mul_assoc]
          omega)
      have r2 := (r1 0).symm.trans hr
      injection r2 with e1 e2
      subst e1 e2
      rw [Nat.zero_add] at r1 hown
      exact ⟨W.heap.size, _, _, r1, hown, ((Keeps.refl _ _).drew).alloc _, Or.inr rfl⟩
theorem Tryd.infoOv : (Tryd.prog.info? 29).map (fun i => (i.zero, i.size, i.bytes)) = some (some (.agg #[.string ⟨#[]⟩, .int .u64 0]), 2, 24) := by kernel_rfl
theorem Tryd.infoCm : (Tryd.prog.info? 32).map (fun i => (i.zero, i.size, i.bytes)) = some (some (.agg #[.int .i64 0, .int .i64 0, .slice none 0 0, .slice none 0 0, .int .u64 0, .int .u64 0, .int .i64 0, .string ⟨#[]⟩, .string ⟨#[]⟩]), 9, 120) := by kernel_rfl
theorem Tryd.infoI : (Tryd.prog.info? 3).map (fun i => (i.zero, i.size, i.bytes)) = some (some (.int .i64 0), 1, 8) := by kernel_rfl
/-- A copy by append, met in a region that draws. -/
theorem step_copy {n lo : Nat} {xs : List Value} (t e : TypeId) (z : Value) (size bytes : Nat) (ht : Tryd.prog.underlying t = some (.slice e)) (hi : (Tryd.prog.info? e).map (fun i => (i.zero, i.size, i.bytes)) = some (some z, size, bytes)) (hz : z.cells.size = size) (hs0 : 0 < size) (hx : xs.length = n * size) (h1 : ∀ u ∈ xs, u.oneCell' = true) (hb : n * bytes ≤ 140737488355328) (hn : n ≤ 1099511627776) (hb0 : 1 ≤ bytes)
    {w : World} {ops : Array Oper} {o : Oper} {a : Act} {K : Act → World → Prop} {Q : Exit → Act → World → Prop} {E : Prop} (hgd : o.guard = none) (s x : Operand)
    (ho : o.op = .call { callee := .builtin .append, args := #[s, x], argTypes := #[t, t] }) {g : Nat} {v : Value} (hs : a.eval s = .slice (some ⟨g, 0, none⟩) 0 0) (hv : a.eval x = v) (h7 : w.heap[g]? = some (.cells #[] e)) (hlo : lo ≤ g) (hr : RowIn w v n xs)
    (h : ∀ g2 c w', Keeps w w' (fun _ => False) → w'.ownsRow lo e size (.slice (some ⟨g2, 0, none⟩) n c) n xs → K (a.put o.dst (.slice (some ⟨g2, 0, none⟩) n c)) w') :
    if Region.wanted o (yielded ops a.tmps) = true then Oper.wp Tryd.prog o a w K Q else E := by
  obtain ⟨g2, c, W', hrun, hown, hk, -⟩ := copy_row t e z size bytes ht hi hz hs0 h7 hlo hr hx h1 hb hn hb0
  exact step_append_run hgd s x t ho hs hv hrun (h g2 c W' hk hown)
theorem n1 (w : World) (a : Obj) : (w.alloc a).heap[w.heap.size]? = some a := heap_alloc_new w a
theorem old1 {w : World} {b : Nat} {o : Obj} (h : w.heap[b]? = some o) (a : Obj) : (w.alloc a).heap[b]? = some o := ((Keeps.refl w (fun _ => False)).alloc a).blk8 h
theorem n20 (w : World) (a b : Obj) : ((w.alloc a).alloc b).heap[w.heap.size]? = some a := old1 (n1 w a) b
theorem n21 (w : World) (a b : Obj) : ((w.alloc a).alloc b).heap[w.heap.size + 1]? = some b := by
  have := n1 (w.alloc a) b
  rwa [World.size_alloc] at this
theorem n30 (w : World) (a b c : Obj) : (((w.alloc a).alloc b).alloc c).heap[w.heap.size]? = some a := old1 (n20 w a b) c
theorem n31 (w : World) (a b c : Obj) : (((w.alloc a).alloc b).alloc c).heap[w.heap.size + 1]? = some b := old1 (n21 w a b) c
theorem n32 (w : World) (a b c : Obj) : (((w.alloc a).alloc b).alloc c).heap[w.heap.size + 1 + 1]? = some c := by
  have := n21 (w.alloc a) b c
  rwa [World.size_alloc] at this
theorem n1d (w : World) (a : Obj) : (w.alloc a).drew.heap[w.heap.size]? = some a := n1 w a
theorem n20d (w : World) (a b : Obj) : ((w.alloc a).alloc b).drew.heap[w.heap.size]? = some a := n20 w a b
theorem n21d (w : World) (a b : Obj) : ((w.alloc a).alloc b).drew.heap[w.heap.size + 1]? = some b := n21 w a b
theorem n30d (w : World) (a b c : Obj) : (((w.alloc a).alloc b).alloc c).drew.heap[w.heap.size]? = some a := n30 w a b c
theorem n31d (w : World) (a b c : Obj) : (((w.alloc a).alloc b).alloc c).drew.heap[w.heap.size + 1]? = some b := n31 w a b c
theorem n32d (w : World) (a b c : Obj) : (((w.alloc a).alloc b).alloc c).drew.heap[w.heap.size + 1 + 1]? = some c := n32 w a b c
theorem n32e (w : World) (a b c : Obj) : (((w.alloc a).alloc b).alloc c).drew.heap[w.heap.size + 2]? = some c := n32 w a b c
/-- What stands in the first statement of copied. -/
def SP (W0 : World) (bx : Nat) (n : Int) (vo vc : Value) (W : World) : Prop := Keeps W0 W (fun _ => False) ∧ W.cell? ⟨bx, 0, none⟩ = some (.int .i64 n) ∧ W.cell? ⟨bx, 1, none⟩ = some vo ∧ W.cell? ⟨bx, 2, none⟩ = some vc
theorem spK {W0 W : World} {bx : Nat} {n : Int} {vo vc : Value} (h : Keeps W0 W (fun _ => False) ∧ W.cell? ⟨bx, 0, none⟩ = some (.int .i64 n) ∧ W.cell? ⟨bx, 1, none⟩ = some vo ∧ W.cell? ⟨bx, 2, none⟩ = some vc) : Keeps W0 W (fun _ => False) := h.1
theorem spI {W0 W : World} {bx : Nat} {n : Int} {vo vc : Value} (h : Keeps W0 W (fun _ => False) ∧ W.cell? ⟨bx, 0, none⟩ = some (.int .i64 n) ∧ W.cell? ⟨bx, 1, none⟩ = some vo ∧ W.cell? ⟨bx, 2, none⟩ = some vc) : SP W0 bx n vo vc W := h
theorem spO {W0 W : World} {bx : Nat} {n : Int} {vo vc : Value} (h : SP W0 bx n vo vc W) : Keeps W0 W (fun _ => False) ∧ W.cell? ⟨bx, 0, none⟩ = some (.int .i64 n) ∧ W.cell? ⟨bx, 1, none⟩ = some vo ∧ W.cell? ⟨bx, 2, none⟩ = some vc := h
theorem SP.k {W0 W : World} {bx : Nat} {n : Int} {vo vc : Value} (h : SP W0 bx n vo vc W) : Keeps W0 W (fun _ => False) := h.1
theorem SP.keeps {W0 W W' : World} {bx : Nat} {n : Int} {vo vc : Value} (h : SP W0 bx n vo vc W) (k : Keeps W W' (fun _ => False)) : SP W0 bx n vo vc W' := ⟨h.1.trans k (fun _ _ e => e), keeps_cell k h.2.1, keeps_cell k h.2.2.1, keeps_cell k h.2.2.2⟩
theorem SP.alloc {W0 W : World} {bx : Nat} {n : Int} {vo vc : Value} (h : SP W0 bx n vo vc W) (o : Obj) : SP W0 bx n vo vc (W.alloc o) := h.keeps ((Keeps.refl _ _).alloc o)
theorem SP.allocD {W0 W : World} {bx : Nat} {n : Int} {vo vc : Value} (h : SP W0 bx n vo vc W.drew) (o : Obj) : SP W0 bx n vo vc (W.alloc o).drew := h.keeps ((Keeps.refl W.drew _).alloc o)
theorem set3 {W : World} {N : Nat} {x y z : Value} {t : TypeId} (h : W.heap[N]? = some (.cells #[x, y, z] t)) (a b c : Value) : (((W.setCell ⟨N, 0, none⟩ a).setCell ⟨N, 1, none⟩ b).setCell ⟨N, 2, none⟩ c).heap[N]? = some (.cells #[a, b, c] t) := by
  simp [World.setCell, Array.getElem?_modify, h]
theorem keeps_set3 {W : World} {N : Nat} (a b c : Value) : Keeps W (((W.setCell ⟨N, 0, none⟩ a).setCell ⟨N, 1, none⟩ b).setCell ⟨N, 2, none⟩ c) (fun k => k = N) :=
  (((Keeps.refl W (fun k => k = N)).setCell ⟨N, 0, none⟩ (fun _ => rfl) a).setCell ⟨N, 1, none⟩ (fun _ => rfl) b).setCell ⟨N, 2, none⟩ (fun _ => rfl) c
theorem own_ne {W : World} {base : Nat} {e t : TypeId} {size : Nat} {v : Value} {n : Nat} {xs : List Value} (h : W.ownsRow base e size v n xs) {N : Nat} {cs : Array Value} {fz : Nat × Nat} (hN : W.heap[N]? = some (.cells cs t fz)) (hne : t ≠ e) : ∀ g, v.ownBlock = some g → ¬ g = N := fun g hg e1 => by
  subst e1
  obtain ⟨-, cur, hc⟩ := ownsRow_block h hg
  rw [hc] at hN
  injection hN with hN
  injection hN with _ e2 _
  exact hne e2.symm
theorem SP.set {W0 W : World} {bx : Nat} {n : Int} {vo vc : Value} (h : SP W0 bx n vo vc W) {N : Nat} (hN : W0.heap.size ≤ N) (hbx : bx < W0.heap.size) (a b c : Value) : SP W0 bx n vo vc (((W.setCell ⟨N, 0, none⟩ a).setCell ⟨N, 1, none⟩ b).setCell ⟨N, 2, none⟩ c) := by
  have k := keeps_set3 (W := W) (N := N) a b c
  have hlt : ∀ {i : Nat} {v : Value}, W.cell? ⟨bx, i, none⟩ = some v → bx < W.heap.size := fun e => cell_lt (by rw [e]; rfl)
  have hc : ∀ i v, W.cell? ⟨bx, i, none⟩ = some v → (((W.setCell ⟨N, 0, none⟩ a).setCell ⟨N, 1, none⟩ b).setCell ⟨N, 2, none⟩ c).cell? ⟨bx, i, none⟩ = some v := fun i v e => (World.cell?_of_block (w := W) (k.block bx (hlt e) (fun e2 => by omega))).trans e
  exact ⟨h.1.trans k (fun i hi e => by omega), hc _ _ h.2.1, hc _ _ h.2.2.1, hc _ _ h.2.2.2⟩
/-- What the first statement of copied leaves. -/
structure Fin1 (W0 : World) (n : Int) (os : List Ovr) (L : List CmV) (bt go co gc cc : Nat) (W : World) : Prop where
  box : W.heap[bt]? = some (.cells #[.int .i64 n, .slice (some ⟨go, 0, none⟩) os.length co, .slice (some ⟨gc, 0, none⟩) L.length cc] 25)
  ov : W.ownsRow W0.heap.size 29 2 (.slice (some ⟨go, 0, none⟩) os.length co) os.length (ovCells os)
  cm : W.ownsRow W0.heap.size 32 9 (.slice (some ⟨gc, 0, none⟩) L.length cc) L.length (cmCells L)
  keeps : Keeps W0 W (fun _ => False)
  low : W0.heap.size ≤ bt
theorem fin_set {W0 W : World} {n : Int} {os : List Ovr} {L : List CmV} {N go co gc cc : Nat} {x y z : Value} (h3 : W.heap[N]? = some (.cells #[x, y, z] 25)) (ho : W.ownsRow W0.heap.size 29 2 (.slice (some ⟨go, 0, none⟩) os.length co) os.length (ovCells os)) (hc : W.ownsRow W0.heap.size 32 9 (.slice (some ⟨gc, 0, none⟩) L.length cc) L.length (cmCells L)) (k : Keeps W0 W (fun _ => False)) (hN : W0.heap.size ≤ N) :
    Fin1 W0 n os L N go co gc cc (((W.setCell ⟨N, 0, none⟩ (.int .i64 n)).setCell ⟨N, 1, none⟩ (.slice (some ⟨go, 0, none⟩) os.length co)).setCell ⟨N, 2, none⟩ (.slice (some ⟨gc, 0, none⟩) L.length cc)) :=
  ⟨set3 h3 _ _ _, ownsRow_keeps ho (keeps_set3 _ _ _) (own_ne ho h3 (by decide)), ownsRow_keeps hc (keeps_set3 _ _ _) (own_ne hc h3 (by decide)), k.trans (keeps_set3 _ _ _) (fun i hi e => by omega), hN⟩
theorem fin_alloc {W0 W : World} {n : Int} {os : List Ovr} {L : List CmV} {go co gc cc : Nat} (ho : W.ownsRow W0.heap.size 29 2 (.slice (some ⟨go, 0, none⟩) os.length co) os.length (ovCells os)) (hc : W.ownsRow W0.heap.size 32 9 (.slice (some ⟨gc, 0, none⟩) L.length cc) L.length (cmCells L)) (k : Keeps W0 W (fun _ => False)) :
    Fin1 W0 n os L W.heap.size go co gc cc (W.alloc (.cells #[.int .i64 n, .slice (some ⟨go, 0, none⟩) os.length co, .slice (some ⟨gc, 0, none⟩) L.length cc] 25)) :=
  ⟨n1 _ _, ho.alloc _, hc.alloc _, k.alloc _, k.size⟩
/-- A command with lists of its own: the rows' blocks and rooms. -/
def lst (b : Bool) (c : CmdD) : List Int := if b then c.hl else c.fl
def rowV (G C : Nat → Bool → Nat) (i : Nat) (b : Bool) (c : CmdD) : Value := .slice (some ⟨G i b, 0, none⟩) (lst b c).length (C i b)
def newC (G C : Nat → Bool → Nat) (L : List CmV) : List CmV := L.mapIdx fun i x => ⟨x.c, rowV G C i false x.c, rowV G C i true x.c⟩
/-- A script's lists, all of one's own. -/
structure Cpy (lo : Nat) (os : List Ovr) (L : List CmV) (go co gc cc : Nat) (G C : Nat → Bool → Nat) (W : World) : Prop where
  ov : W.ownsRow lo 29 2 (.slice (some ⟨go, 0, none⟩) os.length co) os.length (ovCells os)
  cm : W.ownsRow lo 32 9 (.slice (some ⟨gc, 0, none⟩) L.length cc) L.length (cmCells (newC G C L))
  row : ∀ i (h : i < L.length) b, W.ownsRow lo 3 1 (rowV G C i b L[i].c) (lst b L[i].c).length ((lst b L[i].c).map cellI)
  apart : ∀ i j b b', i < L.length → j < L.length → G i b = G j b' → i = j ∧ b = b'
def CopyPost (w : World) (n : Int) (os : List Ovr) (L : List CmV) (e : Ending) (w' : World) : Prop := ∃ go co gc cc G C, e = .returned (.agg #[.int .i64 n, .slice (some ⟨go, 0, none⟩) os.length co, .slice (some ⟨gc, 0, none⟩) L.length cc]) ∧ Cpy w.heap.size os L go co gc cc G C w' ∧ Keeps w w' (fun _ => False)
theorem frozen_of {W : World} {N : Nat} {cs : Array Value} {t : TypeId} (h : W.heap[N]? = some (.cells cs t)) (j : Nat) : W.frozen? ⟨N, j, none⟩ = false := by
  simp [World.frozen?, h]
end Go.Proofs.YtpkbjjbbdhehdaaDoor
