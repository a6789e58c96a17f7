/-
  An arena in the memory: the struct, its bytes, its two maps and its list of offsets.
-/
import Derived.Test.YtmfmiaiijepgdaaRows
import Derived.Test.YtmfmiaiijepgdaaAData
import Derived.Test.YtmfmiaiijepgdaaWalks8
namespace Go.Proofs.Ytmfmiaiijepgdaa
open Go.RowKit

theorem Try.infoI : (Try.prog.info? 3).map (fun i => (i.zero, i.size, i.bytes)) = some (some (.int .i64 0), 1, 8) := by kernel_rfl
def cellI (x : Int) : Value := .int .i64 x

/-- A builtin append whose run is known. -/
theorem append_run {P : Program} (w : World) {ops : Array Oper} {rest : List Oper} {o : Oper} {a : Act} {Q : Exit → Act → World → Prop}
    (hgd : o.guard = none) (s x : Operand) (t : TypeId) (hop : o.op = Op.call { callee := Callee.builtin Builtin.append, args := #[s, x], argTypes := #[t, t] }) {v u v' : Value} {w' : World} (hs : a.eval s = v) (hx : a.eval x = u)
    (hrun : ∀ ty, (Builtin.append_ #[t, t] ty #[v, u]).run P w = .ok v' w') (hK : wpList P ops Q rest (a.put o.dst v') w') : wpList P ops Q (o :: rest) a w := by
  refine wpList_plain hgd fun K hK' => ?_
  unfold Oper.wp
  simp [execOp, hop, resolve, invoke, builtin, hs, hx, hrun, Result.andThen]
  exact hK' _ _ hK

/-- Where it lies. -/
structure AR where
  b : Nat
  g : Nat
  bl : Nat
  bf : Nat
  v : Value
  sp : List UInt8
  nl : Nat
  nf : Nat
def AR.foot (c : AR) (p k : Nat) : Prop := k = p ∨ k = c.b ∨ k = c.g ∨ k = c.bl ∨ k = c.bf ∨ c.v.ownBlock = some k
structure ArenaAt (w : World) (p : Nat) (c : AR) (d : AD) : Prop where
  hp : w.heap[p]? = some (.cells #[.int .i64 (d.limit : Int), .int .i64 (d.used : Int), .pointer (some ⟨c.b, 0, none⟩), c.v, .map (some c.bl), .map (some c.bf)] 80)
  mem : MemAt 98 5 w c.b c.g d.bs c.sp
  beg : w.ownsRow 0 3 1 c.v d.L.length (d.begins.map cellI)
  live : MapTo Try.prog cInt w c.bl c.nl d.lv
  free : MapTo Try.prog cPtr w c.bf c.nf d.fm
  hlf : c.bl ≠ c.bf
  hnl : c.nl ≤ d.L.length

theorem ne_of_obj {w : World} {x y : Nat} {o1 o2 : Obj} (h1 : w.heap[x]? = some o1) (h2 : w.heap[y]? = some o2) (h : o1 ≠ o2) : x ≠ y := fun e => by
  subst e
  rw [h1] at h2
  exact h (by cases h2; rfl)
theorem MapTo.obj {α : Type} {P : Program} {c : α → DataW Unit} {w : World} {b n : Nat} {f : Int → Option α} (h : MapTo P c w b n f) : ∃ es cl, w.heap[b]? = some (.map es cl) := by
  obtain ⟨D, ⟨es, clock, hb, _⟩, _⟩ := h
  exact ⟨es, clock, hb⟩
theorem own_obj {w : World} {v : Value} {n : Nat} {xs : List Value} {k : Nat} (h : w.ownsRow 0 3 1 v n xs) (hv : v.ownBlock = some k) : ∃ cur, w.heap[k]? = some (.cells cur 3 (0, 0)) := (ownsRow_block h hv).2

section
variable {w : World} {p : Nat} {c : AR} {d : AD} (h : ArenaAt w p c d)
include h
theorem ArenaAt.p_b : p ≠ c.b := ne_of_obj h.hp h.mem.hb (by simp)
theorem ArenaAt.p_g : p ≠ c.g := ne_of_obj h.hp h.mem.hg (by simp)
theorem ArenaAt.p_bl : p ≠ c.bl := by obtain ⟨es, cl, hb⟩ := h.live.obj; exact ne_of_obj h.hp hb (by simp)
theorem ArenaAt.p_bf : p ≠ c.bf := by obtain ⟨es, cl, hb⟩ := h.free.obj; exact ne_of_obj h.hp hb (by simp)
theorem ArenaAt.p_v {k : Nat} (hv : c.v.ownBlock = some k) : p ≠ k := by obtain ⟨cur, hb⟩ := own_obj h.beg hv; exact ne_of_obj h.hp hb (by simp)
theorem ArenaAt.bl_b : c.bl ≠ c.b := by obtain ⟨es, cl, hb⟩ := h.live.obj; exact ne_of_obj hb h.mem.hb (by simp)
theorem ArenaAt.bl_g : c.bl ≠ c.g := by obtain ⟨es, cl, hb⟩ := h.live.obj; exact ne_of_obj hb h.mem.hg (by simp)
theorem ArenaAt.bf_b : c.bf ≠ c.b := by obtain ⟨es, cl, hb⟩ := h.free.obj; exact ne_of_obj hb h.mem.hb (by simp)
theorem ArenaAt.bf_g : c.bf ≠ c.g := by obtain ⟨es, cl, hb⟩ := h.free.obj; exact ne_of_obj hb h.mem.hg (by simp)
theorem ArenaAt.bl_v {k : Nat} (hv : c.v.ownBlock = some k) : c.bl ≠ k := by obtain ⟨es, cl, hb⟩ := h.live.obj; obtain ⟨cur, hk⟩ := own_obj h.beg hv; exact ne_of_obj hb hk (by simp)
theorem ArenaAt.bf_v {k : Nat} (hv : c.v.ownBlock = some k) : c.bf ≠ k := by obtain ⟨es, cl, hb⟩ := h.free.obj; obtain ⟨cur, hk⟩ := own_obj h.beg hv; exact ne_of_obj hb hk (by simp)
theorem ArenaAt.b_v {k : Nat} (hv : c.v.ownBlock = some k) : c.b ≠ k := by obtain ⟨cur, hk⟩ := own_obj h.beg hv; exact ne_of_obj h.mem.hb hk (by simp)
theorem ArenaAt.g_v {k : Nat} (hv : c.v.ownBlock = some k) : c.g ≠ k := by obtain ⟨cur, hk⟩ := own_obj h.beg hv; exact ne_of_obj h.mem.hg hk (by simp)
/-- It stays where its blocks stay. -/
theorem ArenaAt.keeps {w' : World} {S : Nat → Prop} (k : Keeps w w' S) (hS : ∀ i, c.foot p i → ¬ S i) : ArenaAt w' p c d :=
  ⟨(k.block p (heap_lt h.hp) (hS p (Or.inl rfl))).trans h.hp,
    h.mem.keeps k (hS _ (Or.inr (Or.inl rfl))) (hS _ (Or.inr (Or.inr (Or.inl rfl)))),
    ownsRow_keeps h.beg k (fun g hg => hS g (Or.inr (Or.inr (Or.inr (Or.inr (Or.inr hg)))))),
    h.live.keeps k (hS _ (Or.inr (Or.inr (Or.inr (Or.inl rfl))))),
    h.free.keeps k (hS _ (Or.inr (Or.inr (Or.inr (Or.inr (Or.inl rfl)))))), h.hlf, h.hnl⟩
theorem ArenaAt.drew : ArenaAt w.drew p c d := ⟨h.hp, ⟨h.mem.hb, h.mem.hg, h.mem.hmax, h.mem.hne⟩, h.beg, h.live, h.free, h.hlf, h.hnl⟩
theorem ArenaAt.cell0 : w.cell? ⟨p, 0, none⟩ = some (.int .i64 (d.limit : Int)) := by simp [World.cell?, h.hp]
theorem ArenaAt.cell1 : w.cell? ⟨p, 1, none⟩ = some (.int .i64 (d.used : Int)) := by simp [World.cell?, h.hp]
theorem ArenaAt.cell2 : w.cell? ⟨p, 2, none⟩ = some (.pointer (some ⟨c.b, 0, none⟩)) := by simp [World.cell?, h.hp]
theorem ArenaAt.cell3 : w.cell? ⟨p, 3, none⟩ = some c.v := by simp [World.cell?, h.hp]
theorem ArenaAt.cell4 : w.cell? ⟨p, 4, none⟩ = some (.map (some c.bl)) := by simp [World.cell?, h.hp]
theorem ArenaAt.cell5 : w.cell? ⟨p, 5, none⟩ = some (.map (some c.bf)) := by simp [World.cell?, h.hp]
theorem ArenaAt.frozen (j : Nat) : w.frozen? ⟨p, j, none⟩ = false := by simp [World.frozen?, h.hp]
theorem ArenaAt.foot_lt {k : Nat} (hk : c.foot p k) : k < w.heap.size := by
  rcases hk with rfl | rfl | rfl | rfl | rfl | hk
  · exact heap_lt h.hp
  · exact heap_lt h.mem.hb
  · exact heap_lt h.mem.hg
  · exact h.live.lt
  · exact h.free.lt
  · obtain ⟨cur, hb⟩ := own_obj h.beg hk
    exact heap_lt hb
end

/-- An arena with the data d behind the pointer to p; its blocks are among F. -/
def Arena (w : World) (p : Nat) (F : Nat → Prop) (d : AD) : Prop := ∃ c, ArenaAt w p c d ∧ ∀ k, c.foot p k → F k
/-- A call on it: the data has turned to d', all but its own blocks stand; its blocks are its own of before or new. -/
def Turned (w w' : World) (p : Nat) (F : Nat → Prop) (d' : AD) : Prop := Arena w' p (fun k => F k ∨ w.heap.size ≤ k) d' ∧ Keeps w w' F
theorem Arena.keeps {w w' : World} {p : Nat} {F S : Nat → Prop} {d : AD} (h : Arena w p F d) (k : Keeps w w' S) (hS : ∀ i, i < w.heap.size → F i → ¬ S i) : Arena w' p F d := by
  obtain ⟨c, hc, hF⟩ := h
  exact ⟨c, hc.keeps k (fun i hi => hS i (hc.foot_lt hi) (hF i hi)), hF⟩
theorem Arena.mono {w : World} {p : Nat} {F G : Nat → Prop} {d : AD} (h : Arena w p F d) (hG : ∀ i, i < w.heap.size → F i → G i) : Arena w p G d := by
  obtain ⟨c, hc, hF⟩ := h
  exact ⟨c, hc, fun k hk => hG k (hc.foot_lt hk) (hF k hk)⟩
end Go.Proofs.Ytmfmiaiijepgdaa
