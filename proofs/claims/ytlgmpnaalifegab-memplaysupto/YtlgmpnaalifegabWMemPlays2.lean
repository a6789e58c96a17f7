import Derived.Test.YtlgmpnaalifegabWMemPlays
namespace Go.Proofs.Ytlgmpnaalifegab
open Go.RowKit

structure One (B : Nat) (wr : World) (b1 r1 : Nat) (k : Nat) : Prop where
  ex : ∃ F1 bs1 xs1 g1 sp1 av1, PairAt B wr b1 r1 F1 bs1 xs1 g1 sp1 av1 ∧ xs1.length ≤ k
theorem One.keepsNone {B : Nat} {w w' : World} {b1 r1 k : Nat} (h : One B w b1 r1 k) (K : Keeps w w' (fun _ => False)) : One B w' b1 r1 k := by
  obtain ⟨F1, bs1, xs1, g1, sp1, av1, h1, h4⟩ := h.ex
  exact ⟨F1, bs1, xs1, g1, sp1, av1, h1.keepsNone K, h4⟩
theorem One.succ {B : Nat} {w : World} {b1 r1 k : Nat} (h : One B w b1 r1 k) : One B w b1 r1 (k + 1) := by
  obtain ⟨F1, bs1, xs1, g1, sp1, av1, h1, h4⟩ := h.ex
  exact ⟨F1, bs1, xs1, g1, sp1, av1, h1, by omega⟩
def OnePost (B : Nat) (w w1 : World) (b1 r1 k : Nat) (e : Ending) (w' : World) : Prop := e = .returned (.bool true) ∧ One B w' b1 r1 (k + 1) ∧ Keeps w1 w' (fun i => B ≤ i) ∧ ∀ L, w.heap.size ≤ L → L < w1.heap.size → w'.heap[L]? = w1.heap[L]?
theorem one_play {B : Nat} {w w1 : World} {b1 r1 k : Nat} (h : One B w b1 r1 k) (k1 : Keeps w w1 (fun _ => False)) (hB : B ≤ w.heap.size) (hk : k < 1048576) (kd mm A C N : Int) (V : Nat) (ao : Option Addr) (cap : Nat) (ts : List ByteArray)
    (hV : V < 18446744073709551616) (hts : StrsAt w B ao ts) (htn : ts.length ≤ 1048576) (htz : ∀ t ∈ ts, t.size ≤ 1048576) (hc : (catAll (bytesOf ts)).length ≤ 1048576) :
    Calls Try.prog 21 #[.pointer (some ⟨b1, 0, none⟩), .pointer (some ⟨r1, 0, none⟩), opArg kd mm A C N V ao ts.length cap] w1 fun e w' => OnePost B w w1 b1 r1 k e w' := by
  obtain ⟨F1, bs1, xs1, g1, sp1, av1, h1, h4⟩ := h.ex
  refine (plays_any (h1.keepsNone k1) (Nat.le_trans hB k1.size) (by omega) kd mm A C N V ao cap ts hV (hts.keeps hB (k1.mono (fun _ _ x => x.elim))) htn htz hc).mono ?_
  rintro e w' ⟨rfl, F', bs', xs', g', sp', av', p', K', hF', hx⟩
  exact ⟨rfl, ⟨F', bs', xs', g', sp', av', p', by omega⟩, K'.mono (fun i _ hi => (h1.low i hi).2), fun L hL hL2 => K'.block L hL2 (fun hF => by have := (h1.low L hF).1; omega)⟩
theorem one_ends {B : Nat} {w : World} {b1 r1 k : Nat} (h : One B w b1 r1 k) :
    Calls Try.prog 22 #[.pointer (some ⟨b1, 0, none⟩), .pointer (some ⟨r1, 0, none⟩)] w fun e w' => AskPost w e w' := by
  obtain ⟨F1, bs1, xs1, g1, sp1, av1, h1, h4⟩ := h.ex
  exact ends_any h1

namespace memPlays
set_option maxRecDepth 100000 in
set_option maxHeartbeats 4000000 in
theorem yes_no (f : Nat) (s : Int) (so : Option Addr) (cap : Nat) (ops : List OpD) (w : World) (hf : f ≤ 134217728) (hs : s < 0 ∨ 134217728 < s) (hops : OpsAt w w.heap.size so ops) (hn : ops.length ≤ 1048576) (hok : OpsOk ops) :
    Calls Try.prog 6 #[.int .i64 (f : Int), .int .i64 s, .slice so ops.length cap] w fun e w' => Post w e w' := by
  have hm := new_yes f w hf
  go_enter Try.func6, Try.ntmps6
  go_wp2_with fail
  refine hm.mono ?_
  rintro e w1 ⟨b1, g1, hb1, hg1, rfl, m1, k1⟩
  clear hm
  have hr := rnew_yes w.heap.size f w1 hf
  go_wp2_with fail
  refine hr.mono ?_
  rintro e w2 ⟨r1, hr1, rfl, R1, k2⟩
  clear hr
  have hm := new_no s w2 hs
  go_wp2_with fail
  refine hm.mono ?_
  rintro e w3 ⟨rfl, hw3⟩
  subst hw3
  clear hm
  have hr := rnew_no s w3 hs
  go_wp2_with fail
  refine hr.mono ?_
  rintro e w4 ⟨rfl, hw4⟩
  subst hw4
  clear hr
  have z1 := k1.size
  have p1 := pair_new m1 k2 R1 hb1 hg1 (by omega)
  have Bo : One w.heap.size _ b1 r1 0 := ⟨_, _, _, _, _, _, p1, Nat.le_refl _⟩
  have K4 : Keeps w _ (fun k => w.heap.size ≤ k) := (k1.trans k2 (fun _ _ x => x)).mono (fun _ _ x => x.elim)
  clear m1 R1 k1 k2 p1 z1 hb1 hg1 hr1
  go_wp2_with fail
  go_loopw [61] (fun i wr => ∃ k : Nat, k ≤ ops.length ∧ i = .int .i64 (k : Int) ∧ One w.heap.size wr b1 r1 k ∧ Keeps w wr (fun k => w.heap.size ≤ k)) (fun i _ => ops.length - (intOf i).toNat)
  case atStart => exact ⟨0, Nat.zero_le _, rfl, Bo, K4⟩
  case round =>
    clear Bo K4
    obtain ⟨k, hk, rfl, Bo, K⟩ := hrel
    have hws := K.size
    by_cases hlt : k < ops.length
    · obtain ⟨hV, hcc⟩ := hok _ (List.getElem_mem hlt)
      obtain ⟨bb, oo, rfl, hbb, hcells, hstrs, htl, htz⟩ := (hops.keeps (Nat.le_refl _) K) k hlt
      generalize ops[k] = o at *
      obtain ⟨kd, mm, A, C, N, V, ao, ocap, ts⟩ := o
      simp only [OpD.cells, opCells] at hcells hstrs htl htz hV hcc
      have d0 := hcells 0 (by omega)
      have d1 := hcells 1 (by omega)
      have d2 := hcells 2 (by omega)
      have d3 := hcells 3 (by omega)
      have d4 := hcells 4 (by omega)
      have d5 := hcells 5 (by omega)
      have d6 := hcells 6 (by omega)
      simp only [Nat.add_zero] at d0
      simp at d0 d1 d2 d3 d4 d5 d6
      have k1 : Keeps wr (wr.alloc (.cells (opCells kd mm A C N V ao ts.length ocap) 47)) (fun _ => False) := (Keeps.refl _ _).alloc _
      have hnew := heap_alloc_new wr (.cells (opCells kd mm A C N V ao ts.length ocap) 47)
      have hp1 := one_play Bo k1 hws (by omega) kd mm A C N V ao ocap ts hV hstrs htl htz hcc
      have K1 := K.trans k1 (fun _ _ x => x.elim)
      unfold opCells at hp1 K1 k1 hnew
      simp only [opArg] at hp1
      clear hcells hstrs htz K hcc
      by_cases h0 : mm = 0
      · subst h0
        go_wp2_with fail
        refine hp1.mono ?_
        rintro e w5 ⟨rfl, Bo5, K5, hL5⟩
        clear hp1
        have hblk := (hL5 wr.heap.size (Nat.le_refl _) (heap_lt hnew)).trans hnew
        have c1 : w5.cell? ⟨wr.heap.size, 1, none⟩ = some (.int .i64 0) := by simp [World.cell?, hblk]
        have K6 := K1.trans K5 (fun _ _ x => x)
        clear hblk hL5 hnew K1 K5 Bo k1
        go_wp2_with fail
        go_roundw
        case rel => exact ⟨k + 1, by omega, by go_num, Bo5, K6⟩
        case measure => simp [intOf]; omega
      · have b0 : (mm == 0) = false := beq_eq_false_iff_ne.2 h0
        by_cases h1 : mm = 1
        · subst h1
          clear hp1
          have Bo6 := (Bo.keepsNone k1).succ
          clear Bo k1 hnew
          go_wp2_with fail
          go_roundw
          case rel => exact ⟨k + 1, by omega, by go_num, Bo6, K1⟩
          case measure => simp [intOf]; omega
        · have b1' : (mm == 1) = false := beq_eq_false_iff_ne.2 h1
          clear hp1
          have Bo6 := (Bo.keepsNone k1).succ
          clear Bo k1 hnew
          go_wp2_with fail
          go_roundw
          case rel => exact ⟨k + 1, by omega, by go_num, Bo6, K1⟩
          case measure => simp [intOf]; omega
    · have he1 := one_ends Bo
      go_wp2_with fail
      refine he1.mono ?_
      rintro e w5 ⟨rfl, k5⟩
      clear he1
      have he2 := ends_nil w5 (.pointer none)
      go_wp2_with fail
      refine he2.mono ?_
      rintro e w6 ⟨rfl, k6⟩
      clear he2
      go_wp2_with fail
      go_ret
      exact ⟨rfl, ((K.trans k5 (fun _ _ x => x.elim)).trans k6 (fun _ _ x => x.elim)).below (Nat.le_refl _) (fun i hi => by omega)⟩
set_option maxRecDepth 100000 in
set_option maxHeartbeats 4000000 in
theorem no_yes (f : Int) (s : Nat) (so : Option Addr) (cap : Nat) (ops : List OpD) (w : World) (hf : f < 0 ∨ 134217728 < f) (hs : s ≤ 134217728) (hops : OpsAt w w.heap.size so ops) (hn : ops.length ≤ 1048576) (hok : OpsOk ops) :
    Calls Try.prog 6 #[.int .i64 f, .int .i64 (s : Int), .slice so ops.length cap] w fun e w' => Post w e w' := by
  have hm := new_no f w hf
  go_enter Try.func6, Try.ntmps6
  go_wp2_with fail
  refine hm.mono ?_
  rintro e w1 ⟨rfl, hw1⟩
  subst hw1
  clear hm
  have hr := rnew_no f w1 hf
  go_wp2_with fail
  refine hr.mono ?_
  rintro e w2 ⟨rfl, hw2⟩
  subst hw2
  clear hr
  have hm := new_yes s w2 hs
  go_wp2_with fail
  refine hm.mono ?_
  rintro e w3 ⟨b1, g1, hb1, hg1, rfl, m1, k1⟩
  clear hm
  have hr := rnew_yes w2.heap.size s w3 hs
  go_wp2_with fail
  refine hr.mono ?_
  rintro e w4 ⟨r1, hr1, rfl, R1, k2⟩
  clear hr
  have z1 := k1.size
  have p1 := pair_new m1 k2 R1 hb1 hg1 (by omega)
  have Bo : One w2.heap.size w4 b1 r1 0 := ⟨_, _, _, _, _, _, p1, Nat.le_refl _⟩
  have K4 : Keeps w2 w4 (fun k => w2.heap.size ≤ k) := (k1.trans k2 (fun _ _ x => x)).mono (fun _ _ x => x.elim)
  clear m1 R1 k1 k2 p1 z1 hb1 hg1 hr1
  go_wp2_with fail
  go_loopw [61] (fun i wr => ∃ k : Nat, k ≤ ops.length ∧ i = .int .i64 (k : Int) ∧ One w2.heap.size wr b1 r1 k ∧ Keeps w2 wr (fun k => w2.heap.size ≤ k)) (fun i _ => ops.length - (intOf i).toNat)
  case atStart => exact ⟨0, Nat.zero_le _, rfl, Bo, K4⟩
  case round =>
    clear Bo K4
    obtain ⟨k, hk, rfl, Bo, K⟩ := hrel
    have hws := K.size
    by_cases hlt : k < ops.length
    · obtain ⟨hV, hcc⟩ := hok _ (List.getElem_mem hlt)
      obtain ⟨bb, oo, rfl, hbb, hcells, hstrs, htl, htz⟩ := (hops.keeps (Nat.le_refl _) K) k hlt
      generalize ops[k] = o at *
      obtain ⟨kd, mm, A, C, N, V, ao, ocap, ts⟩ := o
      simp only [OpD.cells, opCells] at hcells hstrs htl htz hV hcc
      have d0 := hcells 0 (by omega)
      have d1 := hcells 1 (by omega)
      have d2 := hcells 2 (by omega)
      have d3 := hcells 3 (by omega)
      have d4 := hcells 4 (by omega)
      have d5 := hcells 5 (by omega)
      have d6 := hcells 6 (by omega)
      simp only [Nat.add_zero] at d0
      simp at d0 d1 d2 d3 d4 d5 d6
      have k1 : Keeps wr (wr.alloc (.cells (opCells kd mm A C N V ao ts.length ocap) 47)) (fun _ => False) := (Keeps.refl _ _).alloc _
      have hnew := heap_alloc_new wr (.cells (opCells kd mm A C N V ao ts.length ocap) 47)
      have hp1 := one_play Bo k1 hws (by omega) kd mm A C N V ao ocap ts hV hstrs htl htz hcc
      have K1 := K.trans k1 (fun _ _ x => x.elim)
      unfold opCells at hp1 K1 k1 hnew
      simp only [opArg] at hp1
      clear hcells hstrs htz K hcc
      by_cases h0 : mm = 0
      · subst h0
        clear hp1
        have Bo6 := (Bo.keepsNone k1).succ
        clear Bo k1 hnew
        go_wp2_with fail
        go_roundw
        case rel => exact ⟨k + 1, by omega, by go_num, Bo6, K1⟩
        case measure => simp [intOf]; omega
      · have b0 : (mm == 0) = false := beq_eq_false_iff_ne.2 h0
        by_cases h1 : mm = 1
        · subst h1
          go_wp2_with fail
          refine hp1.mono ?_
          rintro e w5 ⟨rfl, Bo5, K5, hL5⟩
          clear hp1
          have Bo6 := Bo5
          have K6 := K1.trans K5 (fun _ _ x => x)
          clear hL5 hnew K1 K5 Bo k1 Bo5
          go_wp2_with fail
          go_roundw
          case rel => exact ⟨k + 1, by omega, by go_num, Bo6, K6⟩
          case measure => simp [intOf]; omega
        · have b1' : (mm == 1) = false := beq_eq_false_iff_ne.2 h1
          clear hp1
          have Bo6 := (Bo.keepsNone k1).succ
          clear Bo k1 hnew
          go_wp2_with fail
          go_roundw
          case rel => exact ⟨k + 1, by omega, by go_num, Bo6, K1⟩
          case measure => simp [intOf]; omega
    · have he1 := ends_nil wr (.pointer none)
      go_wp2_with fail
      refine he1.mono ?_
      rintro e w5 ⟨rfl, k5⟩
      clear he1
      have he2 := one_ends (Bo.keepsNone k5)
      go_wp2_with fail
      refine he2.mono ?_
      rintro e w6 ⟨rfl, k6⟩
      clear he2
      go_wp2_with fail
      go_ret
      exact ⟨rfl, ((K.trans k5 (fun _ _ x => x.elim)).trans k6 (fun _ _ x => x.elim)).below (Nat.le_refl _) (fun i hi => by omega)⟩
set_option maxRecDepth 100000 in
set_option maxHeartbeats 4000000 in
theorem no_no (f s : Int) (so : Option Addr) (cap : Nat) (ops : List OpD) (w : World) (hf : f < 0 ∨ 134217728 < f) (hs : s < 0 ∨ 134217728 < s) (hops : OpsAt w w.heap.size so ops) (hn : ops.length ≤ 1048576) :
    Calls Try.prog 6 #[.int .i64 f, .int .i64 s, .slice so ops.length cap] w fun e w' => Post w e w' := by
  have hm := new_no f w hf
  go_enter Try.func6, Try.ntmps6
  go_wp2_with fail
  refine hm.mono ?_
  rintro e w1 ⟨rfl, hw1⟩
  subst hw1
  clear hm
  have hr := rnew_no f w1 hf
  go_wp2_with fail
  refine hr.mono ?_
  rintro e w2 ⟨rfl, hw2⟩
  subst hw2
  clear hr
  have hm := new_no s w2 hs
  go_wp2_with fail
  refine hm.mono ?_
  rintro e w3 ⟨rfl, hw3⟩
  subst hw3
  clear hm
  have hr := rnew_no s w3 hs
  go_wp2_with fail
  refine hr.mono ?_
  rintro e w4 ⟨rfl, hw4⟩
  subst hw4
  clear hr
  go_wp2_with fail
  go_loopw [61] (fun i wr => ∃ k : Nat, k ≤ ops.length ∧ i = .int .i64 (k : Int) ∧ Keeps w4 wr (fun k => w4.heap.size ≤ k)) (fun i _ => ops.length - (intOf i).toNat)
  case atStart => exact ⟨0, Nat.zero_le _, rfl, Keeps.refl _ _⟩
  case round =>
    obtain ⟨k, hk, rfl, K⟩ := hrel
    have hws := K.size
    by_cases hlt : k < ops.length
    · obtain ⟨bb, oo, rfl, hbb, hcells, hstrs, htl, htz⟩ := (hops.keeps (Nat.le_refl _) K) k hlt
      generalize ops[k] = o at *
      obtain ⟨kd, mm, A, C, N, V, ao, ocap, ts⟩ := o
      simp only [OpD.cells, opCells] at hcells
      have d0 := hcells 0 (by omega)
      have d1 := hcells 1 (by omega)
      have d2 := hcells 2 (by omega)
      have d3 := hcells 3 (by omega)
      have d4 := hcells 4 (by omega)
      have d5 := hcells 5 (by omega)
      have d6 := hcells 6 (by omega)
      simp only [Nat.add_zero] at d0
      simp at d0 d1 d2 d3 d4 d5 d6
      have k1 : Keeps wr (wr.alloc (.cells (opCells kd mm A C N V ao ts.length ocap) 47)) (fun _ => False) := (Keeps.refl _ _).alloc _
      have hnew := heap_alloc_new wr (.cells (opCells kd mm A C N V ao ts.length ocap) 47)
      have K1 := K.trans k1 (fun _ _ x => x.elim)
      unfold opCells at K1
      clear hcells hstrs htz K k1 hnew htl
      by_cases h0 : mm = 0
      · subst h0
        go_wp2_with fail
        go_roundw
        case rel => exact ⟨k + 1, by omega, by go_num, K1⟩
        case measure => simp [intOf]; omega
      · have b0 : (mm == 0) = false := beq_eq_false_iff_ne.2 h0
        by_cases h1 : mm = 1
        · subst h1
          go_wp2_with fail
          go_roundw
          case rel => exact ⟨k + 1, by omega, by go_num, K1⟩
          case measure => simp [intOf]; omega
        · have b1' : (mm == 1) = false := beq_eq_false_iff_ne.2 h1
          go_wp2_with fail
          go_roundw
          case rel => exact ⟨k + 1, by omega, by go_num, K1⟩
          case measure => simp [intOf]; omega
    · have he1 := ends_nil wr (.pointer none)
      go_wp2_with fail
      refine he1.mono ?_
      rintro e w5 ⟨rfl, k5⟩
      clear he1
      have he2 := ends_nil w5 (.pointer none)
      go_wp2_with fail
      refine he2.mono ?_
      rintro e w6 ⟨rfl, k6⟩
      clear he2
      go_wp2_with fail
      go_ret
      exact ⟨rfl, ((K.trans k5 (fun _ _ x => x.elim)).trans k6 (fun _ _ x => x.elim)).below (Nat.le_refl _) (fun i hi => by omega)⟩
end memPlays
end Go.Proofs.Ytlgmpnaalifegab
