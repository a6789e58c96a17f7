import Derived.Test.YtlgmpnaalifegabWalks36
namespace Go.Proofs.Ytlgmpnaalifegab
open Go.RowKit

theorem pair_new {B : Nat} {w1 w2 : World} {b g rb n : Nat} (m : MemAt 60 5 w1 b g (zeros n) []) (k : Keeps w1 w2 (fun _ => False)) (r : RefAt B w2 rb n (.slice none 0 0) []) (hb : B ≤ b) (hg : B ≤ g) (hr : B ≤ rb) :
    PairAt B w2 b rb (fun k => k = b ∨ k = g ∨ k = rb) (zeros n) [] g [] (.slice none 0 0) := by
  have m2 := m.keeps k id id
  refine ⟨m2, by rw [zeros_length]; exact r, fun p => ?_, Or.inl rfl, Or.inr (Or.inl rfl), Or.inr (Or.inr rfl), (fun k hk => by cases hk), fun k hk => ?_⟩
  · rw [List.reverse_nil, lookB, List.getD_eq_getElem?_getD]
    by_cases h : p < n
    · simp [zeros, h]
    · simp [zeros, h]
  · rcases hk with rfl | rfl | rfl
    · exact ⟨heap_lt m2.hb, hb⟩
    · exact ⟨heap_lt m2.hg, hg⟩
    · exact ⟨heap_lt r.hb, hr⟩

def OpsOk (ops : List OpD) : Prop := ∀ o ∈ ops, o.V < 18446744073709551616 ∧ (catAll (bytesOf o.ts)).length ≤ 1048576

/-- Both pairs as they stand behind k calls. -/
structure Both (B : Nat) (wr : World) (b1 r1 b2 r2 : Nat) (k : Nat) : Prop where
  ex : ∃ F1 F2 bs1 xs1 g1 sp1 av1 bs2 xs2 g2 sp2 av2, PairAt B wr b1 r1 F1 bs1 xs1 g1 sp1 av1 ∧ PairAt B wr b2 r2 F2 bs2 xs2 g2 sp2 av2 ∧ (∀ i, F1 i → ¬ F2 i) ∧ xs1.length ≤ k ∧ xs2.length ≤ k
theorem Both.keepsNone {B : Nat} {w w' : World} {b1 r1 b2 r2 k : Nat} (h : Both B w b1 r1 b2 r2 k) (K : Keeps w w' (fun _ => False)) : Both B w' b1 r1 b2 r2 k := by
  obtain ⟨F1, F2, bs1, xs1, g1, sp1, av1, bs2, xs2, g2, sp2, av2, h1, h2, h3, h4, h5⟩ := h.ex
  exact ⟨F1, F2, bs1, xs1, g1, sp1, av1, bs2, xs2, g2, sp2, av2, h1.keepsNone K, h2.keepsNone K, h3, h4, h5⟩
theorem Both.succ {B : Nat} {w : World} {b1 r1 b2 r2 k : Nat} (h : Both B w b1 r1 b2 r2 k) : Both B w b1 r1 b2 r2 (k + 1) := by
  obtain ⟨F1, F2, bs1, xs1, g1, sp1, av1, bs2, xs2, g2, sp2, av2, h1, h2, h3, h4, h5⟩ := h.ex
  exact ⟨F1, F2, bs1, xs1, g1, sp1, av1, bs2, xs2, g2, sp2, av2, h1, h2, h3, by omega, by omega⟩
theorem Both.swap {B : Nat} {w : World} {b1 r1 b2 r2 k : Nat} (h : Both B w b1 r1 b2 r2 k) : Both B w b2 r2 b1 r1 k := by
  obtain ⟨F1, F2, bs1, xs1, g1, sp1, av1, bs2, xs2, g2, sp2, av2, h1, h2, h3, h4, h5⟩ := h.ex
  exact ⟨F2, F1, bs2, xs2, g2, sp2, av2, bs1, xs1, g1, sp1, av1, h2, h1, fun i hi hi2 => h3 i hi2 hi, h5, h4⟩
def BothPost (B : Nat) (w w1 : World) (b1 r1 b2 r2 k : Nat) (e : Ending) (w' : World) : Prop := e = .returned (.bool true) ∧ Both B w' b1 r1 b2 r2 (k + 1) ∧ Keeps w1 w' (fun i => B ≤ i) ∧ ∀ L, w.heap.size ≤ L → L < w1.heap.size → w'.heap[L]? = w1.heap[L]?
/-- A call on the first of two. -/
theorem both_play {B : Nat} {w w1 : World} {b1 r1 b2 r2 k : Nat} (h : Both B w b1 r1 b2 r2 k) (k1 : Keeps w w1 (fun _ => False)) (hB : B ≤ w.heap.size) (hk : k < 1048576) (kd mm A C N : Int) (V : Nat) (ao : Option Addr) (cap : Nat) (ts : List ByteArray)
    (hV : V < 18446744073709551616) (hts : StrsAt w B ao ts) (htn : ts.length ≤ 1048576) (htz : ∀ t ∈ ts, t.size ≤ 1048576) (hc : (catAll (bytesOf ts)).length ≤ 1048576) :
    Calls Try.prog 21 #[.pointer (some ⟨b1, 0, none⟩), .pointer (some ⟨r1, 0, none⟩), opArg kd mm A C N V ao ts.length cap] w1 fun e w' => BothPost B w w1 b1 r1 b2 r2 k e w' := by
  obtain ⟨F1, F2, bs1, xs1, g1, sp1, av1, bs2, xs2, g2, sp2, av2, h1, h2, h3, h4, h5⟩ := h.ex
  refine (plays_any (h1.keepsNone k1) (Nat.le_trans hB k1.size) (by omega) kd mm A C N V ao cap ts hV (hts.keeps hB (k1.mono (fun _ _ x => x.elim))) htn htz hc).mono ?_
  rintro e w' ⟨rfl, F', bs', xs', g', sp', av', p', K', hF', hx⟩
  refine ⟨rfl, ⟨F', F2, bs', xs', g', sp', av', bs2, xs2, g2, sp2, av2, p', (h2.keepsNone k1).keeps K' (fun i hi hi1 => h3 i hi1 hi), fun i hi hi2 => ?_, by omega, by omega⟩, K'.mono (fun i _ hi => (h1.low i hi).2), fun L hL hL2 => K'.block L hL2 (fun hF => by have := (h1.low L hF).1; omega)⟩
  rcases hF' i hi with h | h
  · exact h3 i h hi2
  · have := ((h2.keepsNone k1).low i hi2).1
    omega
theorem both_ends {B : Nat} {w : World} {b1 r1 b2 r2 k : Nat} (h : Both B w b1 r1 b2 r2 k) :
    Calls Try.prog 22 #[.pointer (some ⟨b1, 0, none⟩), .pointer (some ⟨r1, 0, none⟩)] w fun e w' => AskPost w e w' := by
  obtain ⟨F1, F2, bs1, xs1, g1, sp1, av1, bs2, xs2, g2, sp2, av2, h1, h2, h3, h4, h5⟩ := h.ex
  exact ends_any h1

namespace memPlays
def Post (w : World) (e : Ending) (w' : World) : Prop := e = .returned (.bool true) ∧ Below w.heap.size w w'

set_option maxRecDepth 100000 in
set_option maxHeartbeats 4000000 in
theorem yes_yes (f s : Nat) (so : Option Addr) (cap : Nat) (ops : List OpD) (w : World) (hf : f ≤ 134217728) (hs : s ≤ 134217728) (hops : OpsAt w w.heap.size so ops) (hn : ops.length ≤ 1048576) (hok : OpsOk ops) :
    Calls Try.prog 6 #[.int .i64 (f : Int), .int .i64 (s : Int), .slice so ops.length cap] w fun e w' => Post w e w' := by
  have hm := new_yes f w hf
  go_enter Try.func6, Try.ntmps6
  go_wp2_with fail
  refine hm.mono ?_
  rintro e w1 ⟨b1, g1, hb1, hg1, rfl, m1, k1⟩
  clear hm
  have hr := rnew_yes w.heap.size f w1 hf
  go_wp2_with fail
  refine hr.mono ?_
  rintro e w2 ⟨r1, hr1, rfl, R1, k2⟩
  clear hr
  have hm := new_yes s w2 hs
  go_wp2_with fail
  refine hm.mono ?_
  rintro e w3 ⟨b2, g2, hb2, hg2, rfl, m2, k3⟩
  clear hm
  have hr := rnew_yes w.heap.size s w3 hs
  go_wp2_with fail
  refine hr.mono ?_
  rintro e w4 ⟨r2, hr2, rfl, R2, k4⟩
  clear hr
  have z1 := k1.size
  have z2 := k2.size
  have z3 := k3.size
  have p1 := (pair_new m1 k2 R1 hb1 hg1 (by omega)).keepsNone (k3.trans k4 (fun _ _ x => x))
  have l1 : b1 < w2.heap.size ∧ g1 < w2.heap.size ∧ r1 < w2.heap.size := ⟨Nat.lt_of_lt_of_le (heap_lt m1.hb) z2, Nat.lt_of_lt_of_le (heap_lt m1.hg) z2, heap_lt R1.hb⟩
  have p2 := pair_new m2 k4 R2 (by omega) (by omega) (by omega)
  have Bo : Both w.heap.size w4 b1 r1 b2 r2 0 := ⟨_, _, _, _, _, _, _, _, _, _, _, _, p1, p2, (by
    rintro i (rfl | rfl | rfl) (h | h | h) <;> omega), Nat.le_refl _, Nat.le_refl _⟩
  have K4 : Keeps w w4 (fun k => w.heap.size ≤ k) := (((k1.trans k2 (fun _ _ x => x)).trans k3 (fun _ _ x => x)).trans k4 (fun _ _ x => x)).mono (fun _ _ x => x.elim)
  clear m1 m2 R1 R2 k1 k2 k3 k4 p1 p2 l1 z1 z2 z3 hb1 hg1 hr1 hb2 hg2 hr2
  go_wp2_with fail
  go_loopw [61] (fun i wr => ∃ k : Nat, k ≤ ops.length ∧ i = .int .i64 (k : Int) ∧ Both w.heap.size wr b1 r1 b2 r2 k ∧ Keeps w wr (fun k => w.heap.size ≤ k)) (fun i _ => ops.length - (intOf i).toNat)
  case atStart => exact ⟨0, Nat.zero_le _, rfl, Bo, K4⟩
  case round =>
    clear Bo K4
    obtain ⟨k, hk, rfl, Bo, K⟩ := hrel
    have hws := K.size
    by_cases hlt : k < ops.length
    · obtain ⟨hV, hcc⟩ := hok _ (List.getElem_mem hlt)
      obtain ⟨bb, oo, rfl, hbb, hcells, hstrs, htl, htz⟩ := (hops.keeps (Nat.le_refl _) K) k hlt
      generalize ops[k] = o at *
      obtain ⟨kd, mm, A, C, N, V, ao, ocap, ts⟩ := o
      simp only [OpD.cells, opCells] at hcells hstrs htl htz hV hcc
      have d0 := hcells 0 (by omega)
      have d1 := hcells 1 (by omega)
      have d2 := hcells 2 (by omega)
      have d3 := hcells 3 (by omega)
      have d4 := hcells 4 (by omega)
      have d5 := hcells 5 (by omega)
      have d6 := hcells 6 (by omega)
      simp only [Nat.add_zero] at d0
      simp at d0 d1 d2 d3 d4 d5 d6
      have k1 : Keeps wr (wr.alloc (.cells (opCells kd mm A C N V ao ts.length ocap) 47)) (fun _ => False) := (Keeps.refl _ _).alloc _
      have hnew := heap_alloc_new wr (.cells (opCells kd mm A C N V ao ts.length ocap) 47)
      have hp1 := both_play Bo k1 hws (by omega) kd mm A C N V ao ocap ts hV hstrs htl htz hcc
      have hp2 := both_play Bo.swap k1 hws (by omega) kd mm A C N V ao ocap ts hV hstrs htl htz hcc
      have K1 := K.trans k1 (fun _ _ x => x.elim)
      unfold opCells at hp1 hp2 K1 k1 hnew
      simp only [opArg] at hp1 hp2
      clear hcells hstrs htz K hcc
      by_cases h0 : mm = 0
      · subst h0
        clear hp2
        go_wp2_with fail
        refine hp1.mono ?_
        rintro e w5 ⟨rfl, Bo5, K5, hL5⟩
        clear hp1
        have hblk := (hL5 wr.heap.size (Nat.le_refl _) (heap_lt hnew)).trans hnew
        have c1 : w5.cell? ⟨wr.heap.size, 1, none⟩ = some (.int .i64 0) := by simp [World.cell?, hblk]
        have K6 := K1.trans K5 (fun _ _ x => x)
        clear hblk hL5 hnew K1 K5 Bo k1
        go_wp2_with fail
        go_roundw
        case rel => exact ⟨k + 1, by omega, by go_num, Bo5, K6⟩
        case measure => simp [intOf]; omega
      · have b0 : (mm == 0) = false := beq_eq_false_iff_ne.2 h0
        by_cases h1 : mm = 1
        · subst h1
          clear hp1
          go_wp2_with fail
          refine hp2.mono ?_
          rintro e w5 ⟨rfl, Bo5, K5, hL5⟩
          clear hp2
          have Bo6 := Bo5.swap
          have K6 := K1.trans K5 (fun _ _ x => x)
          clear hL5 hnew K1 K5 Bo k1 Bo5
          go_wp2_with fail
          go_roundw
          case rel => exact ⟨k + 1, by omega, by go_num, Bo6, K6⟩
          case measure => simp [intOf]; omega
        · have b1' : (mm == 1) = false := beq_eq_false_iff_ne.2 h1
          clear hp1 hp2
          have Bo6 := (Bo.keepsNone k1).succ
          clear Bo k1 hnew
          go_wp2_with fail
          go_roundw
          case rel => exact ⟨k + 1, by omega, by go_num, Bo6, K1⟩
          case measure => simp [intOf]; omega
    · have he1 := both_ends Bo
      go_wp2_with fail
      refine he1.mono ?_
      rintro e w5 ⟨rfl, k5⟩
      clear he1
      have he2 := both_ends (Bo.swap.keepsNone k5)
      go_wp2_with fail
      refine he2.mono ?_
      rintro e w6 ⟨rfl, k6⟩
      clear he2
      go_wp2_with fail
      go_ret
      exact ⟨rfl, ((K.trans k5 (fun _ _ x => x.elim)).trans k6 (fun _ _ x => x.elim)).below (Nat.le_refl _) (fun i hi => by omega)⟩
end memPlays
end Go.Proofs.Ytlgmpnaalifegab
