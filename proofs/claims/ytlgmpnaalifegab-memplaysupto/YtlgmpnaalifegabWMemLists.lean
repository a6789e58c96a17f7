import Derived.Test.YtlgmpnaalifegabWalks21
namespace Go.Proofs.Ytlgmpnaalifegab
open Go.RowKit

/-- A call of a script, as data. -/
structure OpD where
  kd : Int
  mm : Int
  A : Int
  C : Int
  N : Int
  V : Nat
  ao : Option Addr
  cap : Nat
  ts : List ByteArray
def OpD.cells (o : OpD) : Array Value := opCells o.kd o.mm o.A o.C o.N o.V o.ao o.ts.length o.cap
/-- A script that came in. -/
def OpsAt (w : World) (B : Nat) (so : Option Addr) (ops : List OpD) : Prop :=
  ∀ i (h : i < ops.length), ∃ bb oo, so = some ⟨bb, oo, none⟩ ∧ bb < B ∧ (∀ j, j < 7 → w.cell? ⟨bb, oo + i * 7 + j, none⟩ = ops[i].cells[j]?) ∧ StrsAt w B ops[i].ao ops[i].ts ∧ ops[i].ts.length ≤ 1048576 ∧ (∀ t ∈ ops[i].ts, t.size ≤ 1048576)
theorem OpsAt.keeps {w w' : World} {B : Nat} {so : Option Addr} {ops : List OpD} (h : OpsAt w B so ops) (hB : B ≤ w.heap.size) (k : Keeps w w' (fun k => B ≤ k)) : OpsAt w' B so ops := by
  intro i hi
  obtain ⟨bb, oo, e1, e2, e3, e4, e5, e6⟩ := h i hi
  exact ⟨bb, oo, e1, e2, fun j hj => (World.cell?_of_block (w := w) (k.block bb (by omega) (by omega))).trans (e3 j hj), e4.keeps hB k, e5, e6⟩

theorem book_cells {B : Nat} {w : World} {g : Nat} {ps : List Pg} {bk c : Nat} (K : Bk B w g (.slice (some ⟨bk, 0, none⟩) ps.length c) ps) : bk < w.heap.size ∧ ∀ i (h : i < ps.length) j, j < 5 → w.cell? ⟨bk, i * 5 + j, none⟩ = ps[i].cells[j]? := by
  refine ⟨own_lt K.own rfl, fun i h j hj => ?_⟩
  have e := bookCells_get ps i j h hj
  have hl : j < ps[i].cells.length := by rw [Pg.cells_length]; exact hj
  rw [List.getElem?_eq_getElem hl] at e ⊢
  have := K.own.cells (g := bk) rfl _ _ e
  rwa [addr_add, Nat.zero_add] at this

namespace memLists
def Post (w : World) (e : Ending) (w' : World) : Prop := e = .returned (.bool true) ∧ Below w.heap.size w w'

set_option maxHeartbeats 400000 in
theorem walk_big (s : ByteArray) (pv : Value) (w : World) (hs : s.size ≤ maxLen) (h : 134217728 < s.size) :
    Calls Try.prog 5 #[.string s, pv] w fun e w' => Post w e w' := by
  have hm := made1_no s w hs h
  have hd : (134217728 : Int) < (s.size : Int) := by omega
  unfold maxLen at hs
  go_enter Try.func5, Try.ntmps5
  go_wp2_with fail
  refine hm.mono ?_
  rintro e w' ⟨rfl, rfl⟩
  clear hm
  go_wp2_with fail
  go_ret
  exact ⟨rfl, Below.refl _ _⟩

set_option maxRecDepth 100000 in
set_option maxHeartbeats 4000000 in
theorem walk_main (s : ByteArray) (so : Option Addr) (cap : Nat) (ops : List OpD) (w : World) (h : s.size ≤ 134217728) (hops : OpsAt w w.heap.size so ops) (hn : ops.length ≤ 1048576) :
    Calls Try.prog 5 #[.string s, .slice so ops.length cap] w fun e w' => Post w e w' := by
  have hm := made1_any s w h
  go_enter Try.func5, Try.ntmps5
  go_wp2_with fail
  refine hm.mono ?_
  rintro e w1 ⟨bs, hbs, b, g, hb, hg, rfl, m, k⟩
  clear hm
  have hl := m.hmax
  have hlen := len_any w1 b g bs [] m
  have hon := once_in w1 w.heap.size b g bs [] (.slice none 0 0) [] m ⟨World.ownsRow_nil _ _ _ _, (fun p hp => by cases hp), (fun p hp => by cases hp)⟩ k.size hg (by simp) 0 0 0 bs.length 0 none 0 0 (by omega)
  unfold opCells at hon
  rw [show ((0 : Nat) : Int) = 0 from rfl] at hon
  go_wp2_with fail
  refine hlen.mono ?_
  rintro e w' ⟨rfl, hw⟩
  subst hw
  clear hlen
  go_wp2_with fail
  refine hon.mono ?_
  rintro e w2 ⟨bv, g2, bs2, sp2, ps, rfl, hg2, m2, K2, k2, hps⟩
  clear hon m
  have hps2 : ps.length = 2 := by simpa using hps
  have hpos : 0 < ps.length := by omega
  have hple : ps.length ≤ 2 := by omega
  clear hps hps2
  obtain ⟨bk, cb, rfl, _, _⟩ := K2.own.form hpos
  have kw2 : Keeps w w2 (fun k => w.heap.size ≤ k) := (k.mono (fun _ _ x => x.elim)).trans k2 (fun _ _ x => x)
  have hi0 : ((ps.length : Int) == 0) = false := beq_eq_false_iff_ne.2 (by omega)
  clear k k2
  go_wp2_with fail
  go_loopw [6, 34] (fun v i wr => ∃ kk bk cb g bs sp ps, kk ≤ ops.length ∧ i = .int .i64 (kk : Int) ∧ v = .slice (some ⟨bk, 0, none⟩) ps.length cb ∧ MemAt 60 5 wr b g bs sp ∧ Bk w.heap.size wr g (.slice (some ⟨bk, 0, none⟩) ps.length cb) ps ∧ w.heap.size ≤ g ∧ 0 < ps.length ∧ ps.length ≤ 2 + 2 * kk ∧ Keeps w wr (fun k => w.heap.size ≤ k)) (fun _ i _ => ops.length - (intOf i).toNat)
  case atStart => exact ⟨0, bk, cb, g2, bs2, sp2, ps, Nat.zero_le _, rfl, rfl, m2, K2, hg2, hpos, by omega, kw2⟩
  case round =>
    clear m2 K2 kw2 hg2 hpos hple hi0
    obtain ⟨kk, bk, cb, g, bs, sp, ps, hk, rfl, rfl, m, K, hg, hpos, hple, kw⟩ := hrel
    have hws := kw.size
    by_cases hlt : kk < ops.length
    · obtain ⟨bb, oo, rfl, hbb, hcells, hstrs, htl, htz⟩ := (hops.keeps (Nat.le_refl _) kw) kk hlt
      generalize ops[kk] = o at *
      obtain ⟨kd, mm, A, C, N, V, ao, ocap, ts⟩ := o
      simp only [OpD.cells, opCells] at hcells hstrs htl htz
      have d0 := hcells 0 (by omega)
      have d1 := hcells 1 (by omega)
      have d2 := hcells 2 (by omega)
      have d3 := hcells 3 (by omega)
      have d4 := hcells 4 (by omega)
      have d5 := hcells 5 (by omega)
      have d6 := hcells 6 (by omega)
      simp only [Nat.add_zero] at d0
      simp at d0 d1 d2 d3 d4 d5 d6
      have k1 : Keeps wr (wr.alloc (.cells (opCells kd mm A C N V ao ts.length ocap) 47)) (fun _ => False) := (Keeps.refl _ _).alloc _
      have hon := once_any _ w.heap.size b g bs sp _ ps (m.keeps k1 id id) (K.keepsNone k1) (Nat.le_trans hws k1.size) hb hg (by omega) kd mm A C N V ao ts ocap (hstrs.keeps hws (k1.mono (fun _ _ x => x.elim))) htl htz
      have kw1 := kw.trans k1 (fun _ _ x => x.elim)
      unfold opCells at hon kw1
      clear hcells hstrs htz m K kw k1
      go_wp2_with fail
      refine hon.mono ?_
      rintro e w3 ⟨bv', g', bs', sp', ps', rfl, hg', m', K', k', hge, hle⟩
      clear hon
      have hpos' : 0 < ps'.length := by omega
      obtain ⟨bk', cb', rfl, _, _⟩ := K'.own.form hpos'
      have kw3 := kw1.trans k' (fun _ _ x => x)
      have hho := holds_true w3 bk' cb' ps' (book_cells K').1 (by omega) (book_cells K').2 K'.ok
      clear kw1 k'
      go_wp2_with fail
      refine hho.mono ?_
      rintro e w4 ⟨rfl, k4⟩
      clear hho
      have m4 := m'.keeps k4 id id
      have K4 := K'.keepsNone k4
      have kw4 := kw3.trans k4 (fun _ _ x => x.elim)
      clear m' K' kw3 k4
      go_wp2_with fail
      go_roundw
      case rel => exact ⟨kk + 1, bk', cb', g', bs', sp', ps', by omega, by go_num, rfl, m4, K4, hg', hpos', by omega, kw4⟩
      case measure => simp [intOf]; omega
    · have hho := holds_true wr bk cb ps (book_cells K).1 (by omega) (book_cells K).2 K.ok
      clear m K
      go_wp2_with fail
      refine hho.mono ?_
      rintro e w3 ⟨rfl, k3⟩
      clear hho
      go_wp2_with fail
      go_ret
      exact ⟨rfl, (kw.trans k3 (fun _ _ x => x.elim)).below (Nat.le_refl _) (fun i hi => by omega)⟩

theorem walk (s : ByteArray) (so : Option Addr) (cap : Nat) (ops : List OpD) (w : World) (hs : s.size ≤ maxLen) (hops : OpsAt w w.heap.size so ops) (hn : ops.length ≤ 1048576) :
    Calls Try.prog 5 #[.string s, .slice so ops.length cap] w fun e w' => e = .returned (.bool true) ∧ Below w.heap.size w w' := by
  by_cases h : 134217728 < s.size
  · exact walk_big s _ w hs h
  · exact walk_main s so cap ops w (by omega) hops hn
end memLists
end Go.Proofs.Ytlgmpnaalifegab
