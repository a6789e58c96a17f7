import Derived.Shelf.Strings.Builder1
import Derived.Shelf.Strings.Builder2
import Derived.Shelf.Strings.OnBuilder
import Derived.Shelf.Strings.BuilderF
import Derived.Shelf.Sort.Plain
import Derived.Shelf.Slices.In.SortNone
import Derived.Test.YtdlibnjgmdffnaaGreatProg
import Derived.Test.YtdlibnjgmdffnaaGreatFn11
/-
  The law's tells: Size, Load, Equal, Read.
-/
namespace Go.Proofs.YtdlibnjgmdffnaaGreat
open Go.RowKit Go.Shelf
set_option linter.unusedVariables false

def op2Cells (K X Y N : Int) (V : Int) (l s : Value) : Array Value := #[.int .i64 K, .int .i64 X, .int .i64 Y, .int .i64 N, .int .u64 V, l, s]
def op2Arg (K X Y N : Int) (V : Int) (l s : Value) : Value := .agg (op2Cells K X Y N V l s)
/-- The law's answer: yes, and nothing has turned. -/
def YesKeeps (w : World) (e : Ending) (w' : World) : Prop := e = .returned (.bool true) ∧ Keeps w w' (fun _ => False)

theorem limit2_any {w : World} {p : Nat} {c : AR} {d : AD} (h : ArenaAt w p c d) :
    Calls Tryz.prog 35 #[.pointer (some ⟨p, 0, none⟩)] w fun e w' => e = .returned (.int .i64 (d.limit : Int)) ∧ w' = w := by
  have c2 := h.cell0
  clear h
  go_enter Tryz.func35, Tryz.ntmps35
  go_wp2
  go_ret
  exact ⟨rfl, rfl⟩

set_option maxRecDepth 100000 in
set_option maxHeartbeats 2000000 in
theorem tells_size {w : World} {p r : Nat} {P R : Nat → Prop} {d : AD} (hA : Arena w p P d) (hR : Ref w r R d) (hF : d.Fine) (X Y N V : Int) (l s : Value) (hX : fitsI X) :
    Calls Tryz.prog 14 #[.pointer (some ⟨p, 0, none⟩), .pointer (some ⟨r, 0, none⟩), op2Arg 4 X Y N V l s] w fun e w' => YesKeeps w e w' := by
  have k1 : Keeps w (w.alloc (.cells (op2Cells 4 X Y N V l s) 35)) (fun _ => False) := (Keeps.refl _ _).alloc _
  have hnew := heap_alloc_new w (.cells (op2Cells 4 X Y N V l s) 35)
  obtain ⟨c, hc, _⟩ := hA.keeps k1 (fun _ _ _ e => e)
  have hs1 := size_any hc X hX
  have hs2 := ref_size (hR.stay k1) hF X
  have hnum := fun x W => num_any x W
  have K1 := hide k1
  clear hA hR hF hc k1
  unfold op2Cells at *
  unfold op2Arg op2Cells
  generalize (d.lv X).getD 0 = a at *
  generalize (if (d.lv X).isSome = true then (0 : Int) else 23) = b at *
  go_enter Tryz.func14, Tryz.ntmps14
  go_wp2_with fail
  (with_reducible refine hs1.mono ?_)
  rintro e w1 ⟨rfl, hw⟩
  subst hw
  clear hs1
  go_wp2_with fail
  (with_reducible refine hs2.mono ?_)
  rintro e w1 ⟨rfl, hw⟩
  subst hw
  clear hs2
  have hn := hnum b (w.alloc (.cells #[.int .i64 4, .int .i64 X, .int .i64 Y, .int .i64 N, .int .u64 V, l, s] 35))
  clear hnum
  go_wp2_with fail
  (with_reducible refine hn.mono ?_)
  rintro e w1 ⟨rfl, hw⟩
  subst hw
  clear hn
  go_wp2_with fail
  go_ret
  exact ⟨rfl, K1.out⟩

set_option maxRecDepth 100000 in
set_option maxHeartbeats 2000000 in
theorem tells_load {w : World} {p r : Nat} {P R : Nat → Prop} {d : AD} (hA : Arena w p P d) (hR : Ref w r R d) (hF : d.Fine) (X Y N V : Int) (l s : Value) (hX : fitsI X) (hN : fitsI N) :
    Calls Tryz.prog 14 #[.pointer (some ⟨p, 0, none⟩), .pointer (some ⟨r, 0, none⟩), op2Arg 6 X Y N V l s] w fun e w' => YesKeeps w e w' := by
  have k1 : Keeps w (w.alloc (.cells (op2Cells 6 X Y N V l s) 35)) (fun _ => False) := (Keeps.refl _ _).alloc _
  have hnew := heap_alloc_new w (.cells (op2Cells 6 X Y N V l s) 35)
  obtain ⟨c, hc, _⟩ := hA.keeps k1 (fun _ _ _ e => e)
  have hs1 := aload_any hc hF X N hX hN
  have hs2 := fun W (kW : Keeps (w.alloc (.cells (op2Cells 6 X Y N V l s) 35)) W (fun _ => False)) => ref_load ((hR.stay k1).stay kW) hF X N hN
  have hlies := fun W (kW : Keeps (w.alloc (.cells (op2Cells 6 X Y N V l s) 35)) W (fun _ => False)) => (kW.block _ (heap_lt hnew) id).trans hnew
  have hnum := fun x W => num_any x W
  have K1 := hide k1
  have HS2 := hide hs2
  have HL := hide hlies
  clear hA hR hF hc k1 hs2 hlies
  unfold op2Cells at *
  unfold op2Arg op2Cells
  generalize (loadV d X N).1 = a at *
  generalize (loadV d X N).2 = b at *
  go_enter Tryz.func14, Tryz.ntmps14
  go_wp2_with fail
  (with_reducible refine hs1.mono ?_)
  rintro e w1 ⟨rfl, k2⟩
  have hs2 := HS2.out w1 k2
  have hb := HL.out w1 k2
  have q1 : w1.cell? ⟨w.heap.size, 1, none⟩ = some (.int .i64 X) := by simp [World.cell?, hb]
  have q2 : w1.cell? ⟨w.heap.size, 2, none⟩ = some (.int .i64 Y) := by simp [World.cell?, hb]
  have q3 : w1.cell? ⟨w.heap.size, 3, none⟩ = some (.int .i64 N) := by simp [World.cell?, hb]
  have K2 := hide k2
  clear hs1 HS2 HL hnew hb k2
  go_wp2_with fail
  (with_reducible refine hs2.mono ?_)
  rintro e w2 ⟨rfl, k3⟩
  have K3 := hide (K1.out.trans (K2.out.trans k3 (fun _ _ e => e)) (fun _ _ e => e))
  clear hs2 k3 q1 q2 q3
  have hn := hnum b w2
  clear hnum
  go_wp2_with fail
  (with_reducible refine hn.mono ?_)
  rintro e w3 ⟨rfl, hw⟩
  subst hw
  clear hn
  go_wp2_with fail
  go_ret
  exact ⟨rfl, K3.out⟩

set_option maxRecDepth 100000 in
set_option maxHeartbeats 2000000 in
theorem tells_equal {w : World} {p r : Nat} {P R : Nat → Prop} {d : AD} (hA : Arena w p P d) (hR : Ref w r R d) (hF : d.Fine) (X Y N V : Int) (l s : Value) (hX : fitsI X) (hY : fitsI Y) (hN : fitsI N) :
    Calls Tryz.prog 14 #[.pointer (some ⟨p, 0, none⟩), .pointer (some ⟨r, 0, none⟩), op2Arg 10 X Y N V l s] w fun e w' => YesKeeps w e w' := by
  have k1 : Keeps w (w.alloc (.cells (op2Cells 10 X Y N V l s) 35)) (fun _ => False) := (Keeps.refl _ _).alloc _
  have hnew := heap_alloc_new w (.cells (op2Cells 10 X Y N V l s) 35)
  obtain ⟨c, hc, _⟩ := hA.keeps k1 (fun _ _ _ e => e)
  have hs1 := aequal_any hc hF X Y N hX hY hN
  have hs2 := fun W (kW : Keeps (w.alloc (.cells (op2Cells 10 X Y N V l s) 35)) W (fun _ => False)) => ref_equal ((hR.stay k1).stay kW) hF X Y N hN
  have hlies := fun W (kW : Keeps (w.alloc (.cells (op2Cells 10 X Y N V l s) 35)) W (fun _ => False)) => (kW.block _ (heap_lt hnew) id).trans hnew
  have hnum := fun x W => num_any x W
  have K1 := hide k1
  have HS2 := hide hs2
  have HL := hide hlies
  clear hA hR hF hc k1 hs2 hlies
  unfold op2Cells at *
  unfold op2Arg op2Cells
  generalize (equalV d X Y N).1 = a at *
  generalize (equalV d X Y N).2 = b at *
  go_enter Tryz.func14, Tryz.ntmps14
  go_wp2_with fail
  (with_reducible refine hs1.mono ?_)
  rintro e w1 ⟨rfl, k2⟩
  have hs2 := HS2.out w1 k2
  have hb := HL.out w1 k2
  have q1 : w1.cell? ⟨w.heap.size, 1, none⟩ = some (.int .i64 X) := by simp [World.cell?, hb]
  have q2 : w1.cell? ⟨w.heap.size, 2, none⟩ = some (.int .i64 Y) := by simp [World.cell?, hb]
  have q3 : w1.cell? ⟨w.heap.size, 3, none⟩ = some (.int .i64 N) := by simp [World.cell?, hb]
  have K2 := hide k2
  clear hs1 HS2 HL hnew hb k2
  go_wp2_with fail
  (with_reducible refine hs2.mono ?_)
  rintro e w2 ⟨rfl, k3⟩
  have K3 := hide (K1.out.trans (K2.out.trans k3 (fun _ _ e => e)) (fun _ _ e => e))
  clear hs2 k3 q1 q2 q3
  have hn := hnum b w2
  clear hnum
  go_wp2_with fail
  (with_reducible refine hn.mono ?_)
  rintro e w3 ⟨rfl, hw⟩
  subst hw
  clear hn
  go_wp2_with fail
  go_ret
  exact ⟨rfl, K3.out⟩

set_option maxRecDepth 100000 in
set_option maxHeartbeats 2000000 in
theorem tells_read {w : World} {p r : Nat} {P R : Nat → Prop} {d : AD} (hA : Arena w p P d) (hR : Ref w r R d) (hF : d.Fine) (X Y N V : Int) (l s : Value) (hX : fitsI X) (hN : fitsI N) :
    Calls Tryz.prog 14 #[.pointer (some ⟨p, 0, none⟩), .pointer (some ⟨r, 0, none⟩), op2Arg 11 X Y N V l s] w fun e w' => YesKeeps w e w' := by
  have k1 : Keeps w (w.alloc (.cells (op2Cells 11 X Y N V l s) 35)) (fun _ => False) := (Keeps.refl _ _).alloc _
  have hnew := heap_alloc_new w (.cells (op2Cells 11 X Y N V l s) 35)
  obtain ⟨c, hc, _⟩ := hA.keeps k1 (fun _ _ _ e => e)
  have hs1 := aread_any hc hF X N hX hN
  have hs2 := fun W (kW : Keeps (w.alloc (.cells (op2Cells 11 X Y N V l s) 35)) W (fun _ => False)) => ref_read ((hR.stay k1).stay kW) hF X N hN
  have hlies := fun W (kW : Keeps (w.alloc (.cells (op2Cells 11 X Y N V l s) 35)) W (fun _ => False)) => (kW.block _ (heap_lt hnew) id).trans hnew
  have hnum := fun x W => num_any x W
  have K1 := hide k1
  have HS2 := hide hs2
  have HL := hide hlies
  clear hA hR hF hc k1 hs2 hlies
  unfold op2Cells at *
  unfold op2Arg op2Cells
  generalize (readV d X N).1 = a at *
  generalize (readV d X N).2 = b at *
  go_enter Tryz.func14, Tryz.ntmps14
  go_wp2_with fail
  (with_reducible refine hs1.mono ?_)
  rintro e w1 ⟨rfl, k2⟩
  have hs2 := HS2.out w1 k2
  have hb := HL.out w1 k2
  have q1 : w1.cell? ⟨w.heap.size, 1, none⟩ = some (.int .i64 X) := by simp [World.cell?, hb]
  have q2 : w1.cell? ⟨w.heap.size, 2, none⟩ = some (.int .i64 Y) := by simp [World.cell?, hb]
  have q3 : w1.cell? ⟨w.heap.size, 3, none⟩ = some (.int .i64 N) := by simp [World.cell?, hb]
  have K2 := hide k2
  clear hs1 HS2 HL hnew hb k2
  go_wp2_with fail
  (with_reducible refine hs2.mono ?_)
  rintro e w2 ⟨rfl, k3⟩
  have K3 := hide (K1.out.trans (K2.out.trans k3 (fun _ _ e => e)) (fun _ _ e => e))
  clear hs2 k3 q1 q2 q3
  have hn := hnum b w2
  clear hnum
  go_wp2_with fail
  (with_reducible refine hn.mono ?_)
  rintro e w3 ⟨rfl, hw⟩
  subst hw
  clear hn
  go_wp2_with fail
  go_ret
  exact ⟨rfl, K3.out⟩
end Go.Proofs.YtdlibnjgmdffnaaGreat
/-
  The law's sameParts.
-/
namespace Go.Proofs.YtdlibnjgmdffnaaGreat
open Go.RowKit Go.Shelf
set_option linter.unusedVariables false

/-- A row of parts at block g, from part i on. -/
def PtsFrom (w : World) (g i : Nat) (ps : List (Nat × Nat × Bool)) : Prop := ∀ j (h : j < ps.length), i ≤ j → w.cell? ⟨g, j * 3, none⟩ = some (.int .i64 (ps[j].1 : Int)) ∧ w.cell? ⟨g, j * 3 + 1, none⟩ = some (.int .i64 (ps[j].2.1 : Int)) ∧ w.cell? ⟨g, j * 3 + 2, none⟩ = some (.bool ps[j].2.2)
def PtsAt (w : World) (so : Option Addr) (q : Nat) (ps : List (Nat × Nat × Bool)) : Prop := ps = [] ∨ ∃ g, so = some ⟨g, 0, none⟩ ∧ g < w.heap.size ∧ g ≠ q ∧ PtsFrom w g 0 ps
theorem PtsAt.keeps {w w' : World} {so : Option Addr} {q : Nat} {ps : List (Nat × Nat × Bool)} (h : PtsAt w so q ps) (k : Keeps w w' (fun k => k = q)) : PtsAt w' so q ps := by
  rcases h with h | ⟨g, e, h1, h2, h3⟩
  · exact Or.inl h
  · have hb := k.block g h1 h2
    exact Or.inr ⟨g, e, Nat.lt_of_lt_of_le h1 k.size, h2, fun j hj hij => ⟨(World.cell?_of_block hb).trans (h3 j hj hij).1, (World.cell?_of_block hb).trans (h3 j hj hij).2.1, (World.cell?_of_block hb).trans (h3 j hj hij).2.2⟩⟩
structure PtLeft (w wr : World) (q i : Nat) (ps : List (Nat × Nat × Bool)) (cs : Array Value) : Prop where
  blk : wr.heap[q]? = some (.cells cs 44)
  size : cs.size = ps.length * 3
  left : PtsFrom wr q i ps
  kp : Keeps w wr (fun k => k = q)
theorem PtLeft.has {w wr : World} {q i : Nat} {ps : List (Nat × Nat × Bool)} {cs : Array Value} (h : PtLeft w wr q i ps cs) (j : Nat) : wr.frozen? ⟨q, j, none⟩ = false := by simp [World.frozen?, h.blk]
theorem PtLeft.drewN {w wr : World} {q i : Nat} {ps : List (Nat × Nat × Bool)} {cs : Array Value} (h : PtLeft w wr q i ps cs) (n : Nat) : PtLeft w (wr.drewN n) q i ps cs := by
  have k : Keeps wr (wr.drewN n) (fun k => k = q) := (Keeps.refl wr _).drewN n
  exact ⟨h.blk, h.size, h.left, h.kp.trans k (fun _ _ e => e)⟩
theorem PtLeft.step {w wr : World} {q i : Nat} {ps : List (Nat × Nat × Bool)} {cs : Array Value} (h : PtLeft w wr q i ps cs) (a b c : Value) :
    ∃ cs', PtLeft w (((wr.setCell ⟨q, i * 3, none⟩ a).setCell ⟨q, i * 3 + 1, none⟩ b).setCell ⟨q, i * 3 + 2, none⟩ c) q (i + 1) ps cs' := by
  have hb := set_cell_row (set_cell_row (set_cell_row h.blk (i * 3) a) (i * 3 + 1) b) (i * 3 + 2) c
  refine ⟨_, hb, by simp [h.size], fun j hj hij => ?_, Keeps.setCell (S := fun k => k = q) (Keeps.setCell (S := fun k => k = q) (Keeps.setCell (S := fun k => k = q) h.kp ⟨q, i * 3, none⟩ (fun _ => rfl) _) ⟨q, i * 3 + 1, none⟩ (fun _ => rfl) _) ⟨q, i * 3 + 2, none⟩ (fun _ => rfl) _⟩
  have hc : ∀ m u, i * 3 + 2 < m → wr.cell? ⟨q, m, none⟩ = some u → (((wr.setCell ⟨q, i * 3, none⟩ a).setCell ⟨q, i * 3 + 1, none⟩ b).setCell ⟨q, i * 3 + 2, none⟩ c).cell? ⟨q, m, none⟩ = some u := fun m u hm hu => by
    simp only [World.cell?, h.blk] at hu
    simp only [World.cell?, hb]
    rw [Array.getElem?_setIfInBounds_ne (by omega), Array.getElem?_setIfInBounds_ne (by omega), Array.getElem?_setIfInBounds_ne (by omega)]
    exact hu
  obtain ⟨h1, h2, h3⟩ := h.left j hj (by omega)
  exact ⟨hc _ _ (by omega) h1, hc _ _ (by omega) h2, hc _ _ (by omega) h3⟩
/-- The list and two parts more. -/
theorem PtLeft.two {w wr : World} {q i : Nat} {ps : List (Nat × Nat × Bool)} {cs : Array Value} (h : PtLeft w wr q i ps cs) (hn : ps.length ≤ 134217728) (x1 x2 x3 x4 x5 x6 : Value) (h1 : x1.oneCell' = true ∧ x2.oneCell' = true ∧ x3.oneCell' = true ∧ x4.oneCell' = true ∧ x5.oneCell' = true ∧ x6.oneCell' = true) :
    ∃ g cap w2, (∀ ty, (Builtin.append_ #[40, 40] ty #[.slice (some ⟨q, 0, none⟩) ps.length ps.length, .slice (some ⟨wr.heap.size, 0, none⟩) 2 2]).run Tryz.prog (wr.alloc (.cells #[x1, x2, x3, x4, x5, x6] 44)) = .ok (.slice (some ⟨g, 0, none⟩) (ps.length + 2) cap) w2) ∧ Keeps w w2 (fun k => k = q) := by
  obtain ⟨i', hi1, hi2, hi3, hi4⟩ := info_parts Tryz.infoPart
  have k0 : Keeps wr (wr.alloc (.cells #[x1, x2, x3, x4, x5, x6] 44)) (fun _ => False) := (Keeps.refl _ _).alloc _
  have hnew := heap_alloc_new wr (.cells #[x1, x2, x3, x4, x5, x6] 44)
  have own : wr.ownsRow 0 44 3 (.slice (some ⟨q, 0, none⟩) ps.length ps.length) ps.length (cs.toList.take (ps.length * 3)) := ⟨by simp [h.size], Or.inr ⟨q, ps.length, cs, rfl, Nat.zero_le _, h.blk, Nat.le_refl _, by unfold maxLen; omega, h.size, rfl⟩⟩
  obtain ⟨g2, c2, w', hr, h2, h3, h4, _⟩ := run_append_lies (P := Tryz.prog) (wr.alloc (.cells #[x1, x2, x3, x4, x5, x6] 44)) 40 0 0 44 i' (.agg #[.int .i64 0, .int .i64 0, .bool false]) 3 24 Tryz.underlying40 hi1 hi2 hi3 hi4 rfl (by omega)
    _ ps.length _ (ownsRow_keeps own k0 (fun _ _ => id)) ⟨wr.heap.size, 0, none⟩ 2 2 [x1, x2, x3, x4, x5, x6] rfl
    (fun j x hj => by
      rw [addr_add, Nat.zero_add]
      simp only [World.cell?, hnew]
      simpa using hj)
    (fun x hx => by
      simp only [List.mem_cons, List.not_mem_nil, or_false] at hx
      obtain ⟨a1, a2, a3, a4, a5, a6⟩ := h1
      rcases hx with rfl | rfl | rfl | rfl | rfl | rfl <;> assumption) (by omega) (by unfold maxLen; omega) (by omega) (by have := k0.size; omega) _ rfl
  refine ⟨g2, c2, w', fun ty => hr, (h.kp.trans k0 (fun _ _ e => e.elim)).trans (Keeps.ofGrown h3) (fun i _ e => ?_)⟩
  have e' : q = i := by simpa [Value.ownBlock] using e
  exact e'.symm

set_option maxRecDepth 100000 in
set_option maxHeartbeats 4000000 in
theorem sameParts_any {w : World} {q : Nat} {ps : List (Nat × Nat × Bool)} {cs : Array Value} (so : Option Addr) (cap : Nat) (h : PtLeft w w q 0 ps cs) (hy : PtsAt w so q ps) (hn : ps.length ≤ 134217728) :
    Calls Tryz.prog 13 #[.slice (some ⟨q, 0, none⟩) ps.length ps.length, .slice so ps.length cap] w fun e w' => e = .returned (.bool true) ∧ Keeps w w' (fun k => k = q) := by
  have HY := hide hy
  have H0 := hide h
  clear h hy
  go_enter Tryz.func13, Tryz.ntmps13
  go_wp2_with fail
  go_loopw [5] (fun i wr => ∃ k : Nat, ∃ cs', k ≤ ps.length ∧ i = .int .i64 (k : Int) ∧ Hid (PtLeft w wr q k ps cs')) (fun i _ => ps.length - (intOf i).toNat)
  case atStart => exact ⟨0, cs, Nat.zero_le _, rfl, H0⟩
  case round =>
    clear H0
    obtain ⟨k, cs', hk, rfl, hP⟩ := hrel
    by_cases hlt : k < ps.length
    · have hlt' : (k : Int) < (ps.length : Int) := by omega
      rcases HY.out.keeps hP.out.kp with e | ⟨g, rfl, hg1, hg2, hPt⟩
      · rw [e] at hlt
        simp at hlt
      obtain ⟨x0, x1, x2⟩ := hP.out.left k hlt (Nat.le_refl _)
      obtain ⟨y0, y1, y2⟩ := hPt k hlt (Nat.zero_le _)
      have f0 := hP.out.has (k * 3)
      have f1 := hP.out.has (k * 3 + 1)
      have f2 := hP.out.has (k * 3 + 2)
      have HST := hide (fun n a b c => (hP.out.drewN n).step a b c)
      clear hPt hP
      generalize ps[k].1 = u0 at *
      generalize ps[k].2.1 = u1 at *
      generalize ps[k].2.2 = u2 at *
      go_wp2_with fail
      go_quiet (fail)
      go_wp2_with fail
      obtain ⟨cs2, h2⟩ := HST.out _ (.int .i64 (-1)) (.int .i64 (-1)) (.bool false)
      exact ⟨⟨k + 1, cs2, by omega, by simp, h2⟩, by simp [intOf]; omega⟩
    · obtain rfl : k = ps.length := by omega
      have hlt' : ¬ (ps.length : Int) < (ps.length : Int) := by omega
      obtain ⟨g, cap2, w2, hap, kk⟩ := hP.out.two hn (.int .i64 (-2)) (.int .i64 0) (.bool false) (.int .i64 (-3)) (.int .i64 0) (.bool false) ⟨rfl, rfl, rfl, rfl, rfl, rfl⟩
      have KK := hide kk
      clear kk hP HY
      go_wp2_with (first | (at_builtin; have _t := hap; refine append_run _ rfl (.tmp 30) (.tmp 33) 40 rfl rfl rfl hap ?_; clear hap))
      go_ret
      exact ⟨rfl, KK.out⟩

theorem psD_length (d : AD) : (psD d).length = d.L.length := by simp [psD]
theorem PartRow.pts {w : World} {q : Nat} {d : AD} {cs : Array Value} (h : PartRow w q d.L.length d.L.length d.L d.lv cs) : PtLeft w w q 0 (psD d) cs := by
  refine ⟨h.hq, by rw [psD_length]; exact h.size, fun j hj _ => ?_, Keeps.refl _ _⟩
  have hj' : j < d.L.length := by rw [← psD_length]; exact hj
  obtain ⟨h1, h2, h3⟩ := h.done j hj' hj'
  have e : (psD d)[j] = (d.L[j].1, d.L[j].2, (d.lv (d.L[j].1 : Int)).isSome) := by simp [psD]
  rw [e]
  simp only [World.cell?, h.hq]
  exact ⟨h1, h2, h3⟩
theorem PtLeft.stay {w w' : World} {q : Nat} {ps : List (Nat × Nat × Bool)} {cs : Array Value} (h : PtLeft w w q 0 ps cs) (k : Keeps w w' (fun _ => False)) : PtLeft w' w' q 0 ps cs := by
  have hb := k.block q (heap_lt h.blk) id
  refine ⟨hb.trans h.blk, h.size, fun j hj hij => ?_, Keeps.refl _ _⟩
  obtain ⟨h1, h2, h3⟩ := h.left j hj hij
  exact ⟨(World.cell?_of_block hb).trans h1, (World.cell?_of_block hb).trans h2, (World.cell?_of_block hb).trans h3⟩
theorem PtLoop.pts {w w' : World} {ps : List (Nat × Nat × Bool)} {so : Option Addr} {n cap : Nat} (h : PtLoop w ps (.slice so n cap) w') {q : Nat} (hq : q < w.heap.size) : PtsAt w' so q ps := by
  rcases h.1.2 with ⟨_, h2⟩ | ⟨g, cap', cur, hv, hb, hg, r1, r2, r3, r4⟩
  · exact Or.inl (List.eq_nil_of_length_eq_zero h2)
  · injection hv with e1 _ _
    refine Or.inr ⟨g, e1, heap_lt hg, by omega, fun j hj _ => ?_⟩
    have hc : ∀ m u, m < 3 → (ptOne ps[j])[m]? = some u → w'.cell? ⟨g, j * 3 + m, none⟩ = some u := fun m u hm hu => by
      have e : (cur.toList.take (ps.length * 3))[j * 3 + m]? = some u := by rw [r4, ptCells_at ps j m hj hm, hu]
      rw [List.getElem?_take, if_pos (by omega)] at e
      simp only [World.cell?, hg]
      simpa using e
    exact ⟨hc 0 _ (by omega) rfl, hc 1 _ (by omega) rfl, hc 2 _ (by omega) rfl⟩

set_option maxRecDepth 100000 in
set_option maxHeartbeats 2000000 in
theorem tells_parts {w : World} {p r : Nat} {P R : Nat → Prop} {d : AD} (hA : Arena w p P d) (hR : Ref w r R d) (hF : d.Fine) (X Y N V : Int) (l s : Value) :
    Calls Tryz.prog 14 #[.pointer (some ⟨p, 0, none⟩), .pointer (some ⟨r, 0, none⟩), op2Arg 13 X Y N V l s] w fun e w' => YesKeeps w e w' := by
  have k1 : Keeps w (w.alloc (.cells (op2Cells 13 X Y N V l s) 35)) (fun _ => False) := (Keeps.refl _ _).alloc _
  obtain ⟨c, hc, _⟩ := hA.keeps k1 (fun _ _ _ e => e)
  have hlen : d.L.length ≤ 134217728 := by
    have := tiles_length hF.tiles
    have := hF.most
    omega
  have hs1 := parts_any hc hF hlen
  have hs2 := fun W (kW : Keeps (w.alloc (.cells (op2Cells 13 X Y N V l s) 35)) W (fun _ => False)) => ref_parts ((hR.stay k1).stay kW) hF
  have K1 := hide k1
  have HS2 := hide hs2
  have hpl := psD_length d
  clear hA hR hF hc k1 hs2
  unfold op2Cells at *
  unfold op2Arg op2Cells
  go_enter Tryz.func14, Tryz.ntmps14
  go_wp2_with fail
  (with_reducible refine hs1.mono ?_)
  rintro e w1 ⟨q, cs, rfl, hq1, hq2, hrow, k2⟩
  have hs2 := HS2.out w1 k2
  have HP := hide hrow.pts
  have K2 := hide (K1.out.trans k2 (fun _ _ e => e))
  have hqw : Hid (w.heap.size ≤ q) := (show w.heap.size ≤ q by have := K1.out.size; omega)
  clear hs1 HS2 k2 hrow hq1
  go_wp2_with fail
  (with_reducible refine hs2.mono ?_)
  rintro e w2 ⟨so, cap, rfl, hL⟩
  have hs3 := sameParts_any so cap (HP.out.stay hL.2) (hL.pts hq2) (by rw [hpl]; exact hlen)
  have K3 := hide (K2.out.trans hL.2 (fun _ _ e => e))
  clear hs2 hL HP
  rw [hpl] at hs3
  rw [hpl]
  go_wp2_with fail
  (with_reducible refine hs3.mono ?_)
  rintro e w3 ⟨rfl, k3⟩
  have K4 := hide (K3.out.trans k3 (fun i hi e => by have := hqw.out; omega))
  clear hs3 k3
  go_wp2_with fail
  go_ret
  exact ⟨rfl, K4.out⟩
end Go.Proofs.YtdlibnjgmdffnaaGreat
namespace Go.Proofs
open Go.Shelf
def Tryz.lays156_ren : Go.Shelf.Ren := ⟨fun | 156 => 83 | 165 => 100 | 166 => 101 | 169 => 102 | 240 => 114 | 241 => 115 | 276 => 128 | 277 => 129 | n => n, fun | 31 => 33 | 9 => 9 | 3 => 3 | 4 => 4 | 0 => 0 | 20 => 20 | 72 => 141 | 76 => 145 | 70 => 139 | 37 => 72 | 75 => 144 | 127 => 159 | 164 => 172 | 5 => 5 | 80 => 147 | n => n, fun | n => n⟩
theorem Tryz.lays156 : Go.Proofs.Lays.n156 Tryz.prog Tryz.lays156_ren := {
  mixed := by kernel_rfl
  f156 := Tryz.func83.trans (congrArg some (by kernel_rfl))
  f165 := Tryz.func100.trans (congrArg some (by kernel_rfl))
  f166 := Tryz.func101.trans (congrArg some (by kernel_rfl))
  f169 := Tryz.func102.trans (congrArg some (by kernel_rfl))
  f240 := Tryz.func114.trans (congrArg some (by kernel_rfl))
  f241 := Tryz.func115.trans (congrArg some (by kernel_rfl))
  f276 := Tryz.func128.trans (congrArg some (by kernel_rfl))
  f277 := Tryz.func129.trans (congrArg some (by kernel_rfl))
  t0 := Tryz.underlying0
  a0 := Tryz.isAgg0
  z0 := Tryz.sizeOf0
  v0 := Tryz.zeroValue0
  t3 := Tryz.underlying3
  a3 := Tryz.isAgg3
  z3 := Tryz.sizeOf3
  v3 := Tryz.zeroValue3
  t4 := Tryz.underlying4
  a4 := Tryz.isAgg4
  z4 := Tryz.sizeOf4
  v4 := Tryz.zeroValue4
  t9 := Tryz.underlying9
  a9 := Tryz.isAgg9
  z9 := Tryz.sizeOf9
  v9 := Tryz.zeroValue9
  t20 := Tryz.underlying20
  a20 := Tryz.isAgg20
  z20 := Tryz.sizeOf20
  v20 := Tryz.zeroValue20
  t31 := Tryz.underlying33
  a31 := Tryz.isAgg33
  z31 := Tryz.sizeOf33
  v31 := Tryz.zeroValue33
  t37 := Tryz.underlying72
  a37 := Tryz.isAgg72
  z37 := Tryz.sizeOf72
  v37 := Tryz.zeroValue72
  t70 := Tryz.underlying139
  a70 := Tryz.isAgg139
  z70 := Tryz.sizeOf139
  v70 := Tryz.zeroValue139
  t72 := Tryz.underlying141
  a72 := Tryz.isAgg141
  z72 := Tryz.sizeOf141
  v72 := Tryz.zeroValue141
  t75 := Tryz.underlying144
  a75 := Tryz.isAgg144
  z75 := Tryz.sizeOf144
  v75 := Tryz.zeroValue144
  t76 := Tryz.underlying145
  a76 := Tryz.isAgg145
  z76 := Tryz.sizeOf145
  v76 := Tryz.zeroValue145
  t127 := Tryz.underlying159
  a127 := Tryz.isAgg159
  z127 := Tryz.sizeOf159
  v127 := Tryz.zeroValue159
  t164 := Tryz.underlying172
  a164 := Tryz.isAgg172
  z164 := Tryz.sizeOf172
  v164 := Tryz.zeroValue172 }
theorem Tryz.Builder_Extra_156 : Builder.Extra Tryz.prog Tryz.lays156_ren := {
  sizeBuilder := by kernel_rfl
  liesBuilder := by kernel_rfl
  t5 := Tryz.underlying5
  a5 := Tryz.isAgg5
  z5 := Tryz.sizeOf5
  v5 := Tryz.zeroValue5
  infoByte := by kernel_rfl
  cellsByte := by kernel_rfl
  sizeByte := by kernel_rfl
  neB5 := by decide }
open Go.RowKit in
theorem Tryz.strings_Join_none (a : Option Addr) (c : Nat) (sep : ByteArray) (w : World) :
    Calls Tryz.prog 83 #[.slice a 0 c, .string sep] w fun e w' => e = .returned (.string ⟨#[]⟩) ∧ w' = w := Any.strings_Join_none Tryz.lays156 Tryz.Builder_Extra_156 a c sep w
open Go.RowKit in
theorem Tryz.strings_Join (bk o c : Nat) (xs : List ByteArray) (sep : ByteArray) (w : World) (hcells : ∀ (j : Nat) x, xs[j]? = some x → w.cell? ⟨bk, o + j, none⟩ = some (.string x)) (hbk : bk < w.heap.size) (hN : xs.length ≤ 140737488355328) (hcap : xs.length ≤ c) (hlen : (Lib.join (xs.map (·.data.toList)) sep.data.toList).length ≤ 140737488355328) :
    Calls Tryz.prog 83 #[.slice (some ⟨bk, o, none⟩) xs.length c, .string sep] w fun e w' => e = .returned (.string ⟨(Lib.join (xs.map (·.data.toList)) sep.data.toList).toArray⟩) ∧ Below w.heap.size w w' := Any.strings_Join Tryz.lays156 Tryz.Builder_Extra_156 bk o c xs sep w hcells hbk hN hcap hlen
end Go.Proofs
namespace Go.Proofs.YtdlibnjgmdffnaaGreat
open Go.RowKit Go.Shelf

theorem Keeps.ofBelow {w w' : World} (h : Below w.heap.size w w') : Keeps w w' (fun _ => False) := ⟨h.os, h.tape, h.output, h.size, fun k hk _ => h.block k hk⟩
theorem joinOK : JoinOK := by
  intro a c ts w h hc hn hl
  have e0 : ByteArray.empty.data.toList = [] := rfl
  rcases h.two with rfl | ⟨b, o, rfl, hb, _, hcell⟩
  · refine (Tryz.strings_Join_none a c ByteArray.empty w).mono ?_
    rintro e w' ⟨rfl, rfl⟩
    exact ⟨rfl, Keeps.refl _ _⟩
  · refine (Tryz.strings_Join b o c ts ByteArray.empty w (fun j x hj => ?_) hb hn hc ?_).mono ?_
    · obtain ⟨hj', e⟩ := List.getElem?_eq_some_iff.1 hj
      rw [hcell j hj', e]
    · rw [e0]
      have := joined_length ts
      unfold joined at this
      omega
    · rintro e w' ⟨rfl, hbel⟩
      exact ⟨rfl, Keeps.ofBelow hbel⟩
end Go.Proofs.YtdlibnjgmdffnaaGreat
/-
  The law's tells: Blocks, Live, End, Limit.
-/
namespace Go.Proofs.YtdlibnjgmdffnaaGreat
open Go.RowKit Go.Shelf
set_option linter.unusedVariables false

theorem row_ints {W : World} {B : Nat} {v : Value} {zs : List Int} (h : W.ownsRow B 3 1 v zs.length (zs.map cellI)) : ∃ so cap, v = .slice so zs.length cap ∧ IntsAt W so zs := by
  rcases h.2 with ⟨h1, h2⟩ | ⟨g, cap, cur, hv, hb, hg, r1, r2, r3, r4⟩
  · refine ⟨none, 0, by rw [h1, h2], fun j hj => ?_⟩
    omega
  · refine ⟨some ⟨g, 0, none⟩, cap, hv, fun j hj => ⟨g, 0, rfl, ?_⟩⟩
    have e : (cur.toList.take (zs.length * 1))[j]? = some (.int .i64 zs[j]) := by
      rw [r4, List.getElem?_map, List.getElem?_eq_getElem hj]
      rfl
    rw [List.getElem?_take, if_pos (by omega)] at e
    simp only [World.cell?, hg]
    simpa using e
theorem flat_len (l : List (Nat × Nat)) : (flatOf l).length = 2 * l.length := by
  induction l with
  | nil => rfl
  | cons x r ih =>
    have e : flatOf (x :: r) = [(x.1 : Int), (x.2 : Int)] ++ flatOf r := by simp [flatOf]
    rw [e, List.length_append, ih]
    simp
    omega

set_option maxRecDepth 100000 in
set_option maxHeartbeats 4000000 in
theorem tells_blocks {w : World} {p r : Nat} {P R : Nat → Prop} {d : AD} (hA : Arena w p P d) (hR : Ref w r R d) (hF : d.Fine) (hW : d.Well) (X Y N V : Int) (l s : Value) :
    Calls Tryz.prog 14 #[.pointer (some ⟨p, 0, none⟩), .pointer (some ⟨r, 0, none⟩), op2Arg 5 X Y N V l s] w fun e w' => YesKeeps w e w' := by
  have k1 : Keeps w (w.alloc (.cells (op2Cells 5 X Y N V l s) 35)) (fun _ => False) := (Keeps.refl _ _).alloc _
  have hs1 := ref_blocks (hR.stay k1) hF
  have hlen : d.L.length ≤ 134217728 := by
    have := tiles_length hF.tiles
    have := hF.most
    omega
  have hfew := lives_few hF hW
  have hfl := flat_len (livesOf d.L d.lv)
  have hlist : ∀ W : World, Keeps w W (fun _ => False) → Calls Tryz.prog 31 #[.pointer (some ⟨p, 0, none⟩), .int .i64 ((flatOf (livesOf d.L d.lv)).length : Int)] W fun e W' => ∃ so cap, e = .returned (.slice so (flatOf (livesOf d.L d.lv)).length cap) ∧ IntsAt W' so (flatOf (livesOf d.L d.lv)) ∧ Keeps W W' (fun _ => False) := fun W kW => by
    refine (list_any p (flatOf (livesOf d.L d.lv)).length W (hA.keeps kW (fun _ _ _ e => e)) hF hlen (by omega) (by omega)).mono ?_
    rintro e W' ⟨v, rfl, hrow, hbl⟩
    obtain ⟨so, cap, rfl, hI⟩ := row_ints hrow
    exact ⟨so, cap, rfl, hI, Keeps.ofBelow hbl⟩
  have hLv : ∀ W : World, Keeps w W (fun _ => False) → Calls Tryz.prog 32 #[.pointer (some ⟨p, 0, none⟩)] W fun e W' => e = .returned (.int .i64 (d.used : Int)) ∧ W' = W := fun W kW => by
    obtain ⟨c, hc, _⟩ := hA.keeps kW (fun _ _ _ e => e)
    exact live_any hc
  have hEn : ∀ W : World, Keeps w W (fun _ => False) → Calls Tryz.prog 34 #[.pointer (some ⟨p, 0, none⟩)] W fun e W' => e = .returned (.int .i64 (d.bs.length : Int)) ∧ W' = W := fun W kW => by
    obtain ⟨c, hc, _⟩ := hA.keeps kW (fun _ _ _ e => e)
    exact end_any hc
  have hLm : ∀ W : World, Keeps w W (fun _ => False) → Calls Tryz.prog 35 #[.pointer (some ⟨p, 0, none⟩)] W fun e W' => e = .returned (.int .i64 (d.limit : Int)) ∧ W' = W := fun W kW => by
    obtain ⟨c, hc, _⟩ := hA.keeps kW (fun _ _ _ e => e)
    exact limit2_any hc
  have hRl : ∀ W : World, Keeps w W (fun _ => False) → Calls Tryz.prog 33 #[.pointer (some ⟨r, 0, none⟩)] W fun e W' => e = .returned (.int .i64 (d.used : Int)) ∧ W' = W := fun W kW => ref_live (hR.stay kW) hF
  have hS : ∀ W : World, Keeps w W (fun _ => False) → W.cell? ⟨r, 0, none⟩ = some (.int .i64 (d.limit : Int)) ∧ W.cell? ⟨r, 1, none⟩ = some (.int .i64 (d.bs.length : Int)) := fun W kW => by
    obtain ⟨v, xs, h1, _⟩ := hR.stay kW
    exact ⟨h1.cell0, h1.cell1⟩
  have hyl : (flatOf (livesOf d.L d.lv)).length ≤ 140737488355328 := by omega
  have K1 := hide k1
  have HLS := hide hlist
  have HLV := hide hLv
  have HEN := hide hEn
  have HLM := hide hLm
  have HRL := hide hRl
  have HS := hide hS
  clear hA hR hF hW k1 hlist hLv hEn hLm hRl hS hfl hfew hlen
  unfold op2Cells at *
  unfold op2Arg op2Cells
  generalize flatOf (livesOf d.L d.lv) = ys at *
  generalize d.used = us at *
  generalize d.limit = lm at *
  generalize d.bs.length = en at *
  go_enter Tryz.func14, Tryz.ntmps14
  go_wp2_with fail
  (with_reducible refine hs1.mono ?_)
  rintro e w2 ⟨so, cap, rfl, hBL⟩
  have kw2 : Keeps w w2 (fun _ => False) := K1.out.trans hBL.2 (fun _ _ e => e)
  obtain ⟨so', cap', hv, hIy⟩ := row_ints hBL.1
  injection hv with hv1 _ hv3
  subst hv1
  clear hv3
  have hIyK : ∀ W : World, Keeps w2 W (fun _ => False) → IntsAt W so ys := fun W kW j hj => by
    obtain ⟨b, o, e, hc⟩ := hIy j hj
    exact ⟨b, o, e, keep_cell kW hc⟩
  have hb := HLS.out w2.drew kw2.drew
  have hsame : Hid (∀ (W : World) (so3 : Option Addr) (cap3 : Nat), IntsAt W so3 ys → Keeps w2 W (fun _ => False) → Calls Tryz.prog 30 #[.slice so3 ys.length cap3, .slice so ys.length cap] W fun e W' => e = .returned (.bool true) ∧ Keeps w2 W' (fun _ => False)) := fun W so3 cap3 hI3 k3 => by
    refine (same_true so3 so cap3 cap ys W hyl hI3 (hIyK W k3)).mono ?_
    rintro e W' ⟨rfl, k⟩
    exact ⟨rfl, k3.trans k (fun _ _ e => e)⟩
  have KW := hide kw2
  have hS2 : Hid (∀ W : World, Keeps w2 W (fun _ => False) → W.cell? ⟨r, 0, none⟩ = some (.int .i64 (lm : Int)) ∧ W.cell? ⟨r, 1, none⟩ = some (.int .i64 (en : Int))) := fun W kW => HS.out W (KW.out.trans kW (fun _ _ e => e))
  have hfull : Hid (∀ W : World, Keeps w2 W (fun _ => False) → Keeps w W (fun _ => False)) := fun W kW => KW.out.trans kW (fun _ _ e => e)
  have k2d : Keeps w2 w2.drew (fun _ => False) := (Keeps.refl _ _).drew
  have S0 := hS2.out w2.drew k2d
  clear hBL hIy hIyK kw2 hs1 HLS
  go_wp2_with fail
  go_region_held3 (fun w' => w'.cell? ⟨r, 0, none⟩ = some (.int .i64 (lm : Int)) ∧ w'.cell? ⟨r, 1, none⟩ = some (.int .i64 (en : Int))) (first | with_reducible assumption | exact hS2.out _ (by assumption)) (first | (go_at_call 31; (with_reducible refine hb.mono ?_); rintro e w3 ⟨so3, cap3, rfl, hI3, k3⟩; replace k3 := k2d.trans k3 (fun _ _ e => e)) | (go_at_call 30; (with_reducible refine (hsame.out _ _ _ (by assumption) (by assumption)).mono ?_); rintro e w4 ⟨rfl, k4⟩) | (go_at_call 32; (with_reducible refine (HLV.out _ (hfull.out _ (by assumption))).mono ?_); rintro e w5 ⟨rfl, hw5⟩; subst hw5) | (go_at_call 33; (with_reducible refine (HRL.out _ (hfull.out _ (by assumption))).mono ?_); rintro e w5 ⟨rfl, hw5⟩; subst hw5) | (go_at_call 34; (with_reducible refine (HEN.out _ (hfull.out _ (by assumption))).mono ?_); rintro e w5 ⟨rfl, hw5⟩; subst hw5) | (go_at_call 35; (with_reducible refine (HLM.out _ (hfull.out _ (by assumption))).mono ?_); rintro e w5 ⟨rfl, hw5⟩; subst hw5))
  all_goals (try go_wp2_with fail)
  all_goals go_ret
  all_goals exact ⟨rfl, hfull.out _ (by assumption)⟩
end Go.Proofs.YtdlibnjgmdffnaaGreat
/-
  The program's arena and the document's beside one another, and beside the statement's own blocks.
-/
namespace Go.Proofs.YtdlibnjgmdffnaaGreat
open Go.RowKit Go.Shelf
set_option linter.unusedVariables false

/-- Since w0: the program's arena in the blocks P, the document's in R, the statement's own blocks X. -/
structure Mid (w0 W : World) (p r : Nat) (F X P R : Nat → Prop) (d1 d2 : AD) : Prop where
  a : Arena W p P d1
  b : Ref W r R d2
  pf : ∀ k, P k → (F k ∨ w0.heap.size ≤ k) ∧ k < W.heap.size ∧ ¬ X k
  rf : ∀ k, R k → (F k ∨ w0.heap.size ≤ k) ∧ k < W.heap.size ∧ ¬ X k
  ap : ∀ k, P k → ¬ R k
  xs : ∀ k, X k → w0.heap.size ≤ k ∧ k < W.heap.size
  kp : Keeps w0 W F
section
variable {w0 W W2 : World} {p r : Nat} {F X X' P R Q S : Nat → Prop} {d1 d2 d' : AD}
theorem Mid.keep (h : Mid w0 W p r F X P R d1 d2) (k : Keeps W W2 S) (hS : ∀ i, S i → X i) (hX : ∀ i, X' i → (X i ∨ W.heap.size ≤ i) ∧ i < W2.heap.size) : Mid w0 W2 p r F X' P R d1 d2 := by
  have hs := h.kp.size
  have hs2 := k.size
  refine ⟨h.a.keeps k (fun i _ hp s => (h.pf i hp).2.2 (hS i s)), h.b.keeps k (fun i _ hp s => (h.rf i hp).2.2 (hS i s)), fun i hi => ?_, fun i hi => ?_, h.ap, fun i hi => ?_, h.kp.trans k (fun i hi s => ?_)⟩
  · obtain ⟨h1, h2, h3⟩ := h.pf i hi
    refine ⟨h1, by omega, fun hx => ?_⟩
    rcases (hX i hx).1 with e | e
    · exact h3 e
    · omega
  · obtain ⟨h1, h2, h3⟩ := h.rf i hi
    refine ⟨h1, by omega, fun hx => ?_⟩
    rcases (hX i hx).1 with e | e
    · exact h3 e
    · omega
  · refine ⟨?_, (hX i hi).2⟩
    rcases (hX i hi).1 with e | e
    · exact (h.xs i e).1
    · omega
  · have := (h.xs i (hS i s)).1
    omega
theorem Mid.turnP (h : Mid w0 W p r F X P R d1 d2) (hA : Arena W2 p Q d') (k : Keeps W W2 P) (hQ : ∀ i, Q i → P i ∨ W.heap.size ≤ i) (hX : ∀ i, X' i → (X i ∨ (W.heap.size ≤ i ∧ ¬ Q i)) ∧ i < W2.heap.size) : Mid w0 W2 p r F X' (fun i => Q i ∧ i < W2.heap.size) R d' d2 := by
  have hs := h.kp.size
  have hs2 := k.size
  refine ⟨hA.mono (fun i hi e => ⟨e, hi⟩), h.b.keeps k (fun i _ hr hp => h.ap i hp hr), fun i hi => ⟨?_, hi.2, fun hx => ?_⟩, fun i hi => ?_, fun i hi hr => ?_, fun i hi => ⟨?_, (hX i hi).2⟩, h.kp.trans k (fun i hi e => ?_)⟩
  · rcases hQ i hi.1 with e | e
    · exact (h.pf i e).1
    · exact Or.inr (by omega)
  · rcases (hX i hx).1 with e | e
    · rcases hQ i hi.1 with e2 | e2
      · exact (h.pf i e2).2.2 e
      · have := (h.xs i e).2
        omega
    · exact e.2 hi.1
  · obtain ⟨h1, h2, h3⟩ := h.rf i hi
    refine ⟨h1, by omega, fun hx => ?_⟩
    rcases (hX i hx).1 with e | e
    · exact h3 e
    · omega
  · rcases hQ i hi.1 with e | e
    · exact h.ap i e hr
    · have := (h.rf i hr).2.1
      omega
  · rcases (hX i hi).1 with e | e
    · exact (h.xs i e).1
    · omega
  · rcases (h.pf i e).1 with e2 | e2
    · exact e2
    · omega
theorem Mid.turnR (h : Mid w0 W p r F X P R d1 d2) (hA : Ref W2 r Q d') (k : Keeps W W2 R) (hQ : ∀ i, Q i → R i ∨ W.heap.size ≤ i) (hX : ∀ i, X' i → (X i ∨ (W.heap.size ≤ i ∧ ¬ Q i)) ∧ i < W2.heap.size) : Mid w0 W2 p r F X' P (fun i => Q i ∧ i < W2.heap.size) d1 d' := by
  have hs := h.kp.size
  have hs2 := k.size
  refine ⟨h.a.keeps k (fun i _ hp hr => h.ap i hp hr), hA.mono (fun i hi e => ⟨e, hi⟩), fun i hi => ?_, fun i hi => ⟨?_, hi.2, fun hx => ?_⟩, fun i hi hr => ?_, fun i hi => ⟨?_, (hX i hi).2⟩, h.kp.trans k (fun i hi e => ?_)⟩
  · obtain ⟨h1, h2, h3⟩ := h.pf i hi
    refine ⟨h1, by omega, fun hx => ?_⟩
    rcases (hX i hx).1 with e | e
    · exact h3 e
    · omega
  · rcases hQ i hi.1 with e | e
    · exact (h.rf i e).1
    · exact Or.inr (by omega)
  · rcases (hX i hx).1 with e | e
    · rcases hQ i hi.1 with e2 | e2
      · exact (h.rf i e2).2.2 e
      · have := (h.xs i e).2
        omega
    · exact e.2 hi.1
  · rcases hQ i hr.1 with e | e
    · exact h.ap i hi e
    · have := (h.pf i hi).2.1
      omega
  · rcases (hX i hi).1 with e | e
    · exact (h.xs i e).1
    · omega
  · rcases (h.rf i e).1 with e2 | e2
    · exact e2
    · omega
/-- The plain turns. -/
theorem Mid.prog (h : Mid w0 W p r F X P R d1 d2) (ht : Turned W W2 p P d') : ∃ P', Mid w0 W2 p r F X P' R d' d2 :=
  ⟨_, h.turnP ht.1 ht.2 (fun i e => e) (fun i e => ⟨Or.inl e, Nat.lt_of_lt_of_le (h.xs i e).2 ht.2.size⟩)⟩
theorem Mid.doc (h : Mid w0 W p r F X P R d1 d2) (ht : RTurned W W2 r R d') : ∃ R', Mid w0 W2 p r F X P R' d1 d' :=
  ⟨_, h.turnR ht.1 ht.2 (fun i e => e) (fun i e => ⟨Or.inl e, Nat.lt_of_lt_of_le (h.xs i e).2 ht.2.size⟩)⟩
theorem Mid.x_prog (h : Mid w0 W p r F X P R d1 d2) (k : Keeps W W2 P) {i : Nat} (hi : X i) : W2.heap[i]? = W.heap[i]? := k.block i (h.xs i hi).2 (fun e => (h.pf i e).2.2 hi)
theorem Mid.x_doc (h : Mid w0 W p r F X P R d1 d2) (k : Keeps W W2 R) {i : Nat} (hi : X i) : W2.heap[i]? = W.heap[i]? := k.block i (h.xs i hi).2 (fun e => (h.rf i e).2.2 hi)
end

/-- The program's arena and the document's, with the same data, in the blocks F. -/
def Duo (w : World) (p r : Nat) (F : Nat → Prop) (d : AD) : Prop := ∃ P R, Mid w w p r F (fun _ => False) P R d d ∧ d.Fine ∧ d.Well
def DuoPost (w : World) (p r : Nat) (F : Nat → Prop) (e : Ending) (w' : World) : Prop := e = .returned (.bool true) ∧ Keeps w w' F ∧ ∃ d', Duo w' p r (fun k => F k ∨ w.heap.size ≤ k) d'
theorem Mid.duo {w0 W : World} {p r : Nat} {F X P R : Nat → Prop} {d : AD} (h : Mid w0 W p r F X P R d d) (hF : d.Fine) (hW : d.Well) : DuoPost w0 p r F (.returned (.bool true)) W := by
  refine ⟨rfl, h.kp, d, P, R, ⟨h.a, h.b, fun k hk => ?_, fun k hk => ?_, h.ap, fun k hk => hk.elim, Keeps.refl _ _⟩, hF, hW⟩
  · exact ⟨Or.inl (h.pf k hk).1, (h.pf k hk).2.1, id⟩
  · exact ⟨Or.inl (h.rf k hk).1, (h.rf k hk).2.1, id⟩
theorem Duo.keeps {w w' : World} {p r : Nat} {F S : Nat → Prop} {d : AD} (h : Duo w p r F d) (k : Keeps w w' S) (hS : ∀ i, F i → ¬ S i) (hF : ∀ i, F i → i < w.heap.size) : Duo w' p r F d := by
  obtain ⟨P, R, m, h1, h2⟩ := h
  have hs := k.size
  have hp : ∀ i, P i → F i := fun i hi => by
    rcases (m.pf i hi).1 with e | e
    · exact e
    · have := (m.pf i hi).2.1
      omega
  have hr : ∀ i, R i → F i := fun i hi => by
    rcases (m.rf i hi).1 with e | e
    · exact e
    · have := (m.rf i hi).2.1
      omega
  refine ⟨P, R, ⟨m.a.keeps k (fun i _ e => hS i (hp i e)), m.b.keeps k (fun i _ e => hS i (hr i e)), fun i hi => ⟨Or.inl (hp i hi), by have := (m.pf i hi).2.1; omega, id⟩, fun i hi => ⟨Or.inl (hr i hi), by have := (m.rf i hi).2.1; omega, id⟩, m.ap, fun i hi => hi.elim, Keeps.refl _ _⟩, h1, h2⟩
theorem Duo.mono {w : World} {p r : Nat} {F G : Nat → Prop} {d : AD} (h : Duo w p r F d) (hG : ∀ i, i < w.heap.size → F i → G i) : Duo w p r G d := by
  obtain ⟨P, R, m, h1, h2⟩ := h
  refine ⟨P, R, ⟨m.a, m.b, fun i hi => ?_, fun i hi => ?_, m.ap, fun i hi => hi.elim, Keeps.refl _ _⟩, h1, h2⟩
  · obtain ⟨q1, q2, q3⟩ := m.pf i hi
    exact ⟨q1.imp (hG i q2) id, q2, q3⟩
  · obtain ⟨q1, q2, q3⟩ := m.rf i hi
    exact ⟨q1.imp (hG i q2) id, q2, q3⟩

theorem copy_nil {w : World} (a : Option Addr) (cap : Nat) (zs : List Int) (h : IntsAt w a zs) (hn : zs.length ≤ 134217728) (ha : a = none → cap = 0) :
    ∃ so cap1 w1, (∀ ty, (Builtin.append_ #[32, 32] ty #[.slice none 0 0, .slice a zs.length cap]).run Tryz.prog w = .ok (.slice so zs.length cap1) w1) ∧ w1.ownsRow w.heap.size 3 1 (.slice so zs.length cap1) zs.length (zs.map cellI) ∧ Keeps w w1 (fun _ => False) := by
  have hi : (Tryz.prog.info? 3).map (fun i => (i.zero, i.size, i.bytes)) = some (some (.int .i64 0), 1, 8) := by kernel_rfl
  obtain ⟨i, q1, q2, q3, q4⟩ := info_parts hi
  have own0 : w.ownsRow w.heap.size 3 1 (.slice none 0 0) 0 [] := World.ownsRow_nil _ _ _ _
  cases a with
  | none =>
    have hz : zs = [] := by
      cases zs with
      | nil => rfl
      | cons z r =>
        obtain ⟨b, o, e, _⟩ := h 0 (by simp)
        cases e
    subst hz
    obtain rfl := ha rfl
    have r1 := fun ty => run_append_owned_none (P := Tryz.prog) (w := w) w.heap.size 32 ty 3 i 1 Tryz.underlying32 q1 _ 0 [] own0
    exact ⟨none, 0, w, r1, own0, Keeps.refl _ _⟩
  | some a =>
    obtain ⟨v', w2, hr, hown, hgr, hnil, hloc⟩ := run_append_own_at (P := Tryz.prog) w w.heap.size 32 0 3 i (.int .i64 0) 1 8 Tryz.underlying32 q1 q2 q3 q4 rfl (by omega) _ 0 [] own0 a zs.length cap (zs.map cellI) (by simp)
      (fun j u hu => by
        rw [List.getElem?_map] at hu
        obtain ⟨z, hz, rfl⟩ := Option.map_eq_some_iff.1 hu
        obtain ⟨hj, rfl⟩ := List.getElem?_eq_some_iff.1 hz
        obtain ⟨b, o, e, hc⟩ := h j hj
        cases e
        rw [addr_add]
        exact hc) (fun u hu => by
        obtain ⟨z, _, rfl⟩ := List.mem_map.1 hu
        rfl) (by simp only [maxLen]; omega) (by omega) (by simp)
    rw [Nat.zero_add, List.nil_append] at hown
    obtain ⟨so, cap1, rfl, _⟩ := row_ints hown
    exact ⟨so, cap1, w2, fun ty => hr, hown, (Keeps.ofGrown hgr).mono (fun i hi e => by simp [Value.ownBlock] at e)⟩
/-- Two numbers more. -/
theorem ints_two {w : World} {B : Nat} {v : Value} {ys : List Int} (h : w.ownsRow B 3 1 v ys.length (ys.map cellI)) (x y : Int) (hn : ys.length ≤ 1000000000) (hB : B ≤ w.heap.size) :
    ∃ g cap w2, (∀ ty, (Builtin.append_ #[32, 32] ty #[v, .slice (some ⟨w.heap.size, 0, none⟩) 2 2]).run Tryz.prog (w.alloc (.cells #[.int .i64 x, .int .i64 y] 3)) = .ok (.slice (some ⟨g, 0, none⟩) (ys.length + 2) cap) w2) ∧
      w2.ownsRow B 3 1 (.slice (some ⟨g, 0, none⟩) (ys.length + 2) cap) (ys ++ [x, y]).length ((ys ++ [x, y]).map cellI) ∧ Keeps w w2 (fun k => v.ownBlock = some k) := by
  have hi : (Tryz.prog.info? 3).map (fun i => (i.zero, i.size, i.bytes)) = some (some (.int .i64 0), 1, 8) := by kernel_rfl
  obtain ⟨i, q1, q2, q3, q4⟩ := info_parts hi
  have k0 : Keeps w (w.alloc (.cells #[.int .i64 x, .int .i64 y] 3)) (fun _ => False) := (Keeps.refl _ _).alloc _
  have hnew := heap_alloc_new w (.cells #[.int .i64 x, .int .i64 y] 3)
  obtain ⟨g2, c2, w', hr, h2, h3, h4, _⟩ := run_append_lies (P := Tryz.prog) (w.alloc (.cells #[.int .i64 x, .int .i64 y] 3)) 32 0 B 3 i (.int .i64 0) 1 8 Tryz.underlying32 q1 q2 q3 q4 rfl (by omega)
    v ys.length (ys.map cellI) (ownsRow_keeps h k0 (fun _ _ => id)) ⟨w.heap.size, 0, none⟩ 2 2 [.int .i64 x, .int .i64 y] rfl
    (fun j u hj => by
      rw [addr_add, Nat.zero_add]
      simp only [World.cell?, hnew]
      simpa using hj)
    (fun u hu => by
      simp only [List.mem_cons, List.not_mem_nil, or_false] at hu
      rcases hu with rfl | rfl <;> rfl) (by omega) (by unfold maxLen; omega) (by omega) (by have := k0.size; omega) _ rfl
  refine ⟨g2, c2, w', fun ty => hr, ?_, (k0.mono (fun _ _ x => x.elim)).trans (Keeps.ofGrown h3) (fun _ _ x => x)⟩
  have e : (ys ++ [x, y]).map cellI = ys.map cellI ++ [.int .i64 x, .int .i64 y] := by simp [cellI]
  rw [e]
  simpa using h2

/-- What lent leaves. -/
def LentPost (w : World) (zs : List Int) (e : Ending) (w' : World) : Prop := ∃ g cap, e = .returned (.slice (some ⟨g, 0, none⟩) (zs.length + 2) cap) ∧ zs.length + 2 ≤ cap ∧ w.heap.size ≤ g ∧ g < w'.heap.size ∧ (∃ cs, w'.heap[g]? = some (.cells cs 3) ∧ ∀ j (h : j < (zs ++ [77, 78]).length), cs[j]? = some (.int .i64 (zs ++ [77, 78])[j])) ∧ Keeps w w' (fun _ => False)
set_option maxRecDepth 100000 in
set_option maxHeartbeats 2000000 in
theorem lent_any {w : World} (a : Option Addr) (cap : Nat) (zs : List Int) (h : IntsAt w a zs) (hn : zs.length ≤ 134217728) (ha : a = none → cap = 0) :
    Calls Tryz.prog 44 #[.slice a zs.length cap] w fun e w' => LentPost w zs e w' := by
  obtain ⟨so, cap1, w1, hap1, hrow1, k1⟩ := copy_nil a cap zs h hn ha
  obtain ⟨g, cap2, w2, hap2, hrow2, k2⟩ := ints_two hrow1 77 78 (by omega) k1.size
  have hfin : Hid (LentPost w zs (.returned (.slice (some ⟨g, 0, none⟩) (zs.length + 2) cap2)) w2) := by
    rcases hrow2.2 with ⟨h1, _⟩ | ⟨g', cap', cur, hv, hb, hg, r1, r2, r3, r4⟩
    · cases h1
    · injection hv with e1 _ e3
      injection e1 with e1
      injection e1 with e1
      subst e1 e3
      refine (show LentPost _ _ _ _ from ⟨g, cap2, rfl, by simpa using r1, hb, heap_lt hg, ⟨cur, hg, fun j hj => ?_⟩, k1.trans k2 (fun i hi e => ?_)⟩)
      · have e : (cur.toList.take ((zs ++ [77, 78]).length * 1))[j]? = some (.int .i64 (zs ++ [77, 78])[j]) := by
          rw [r4, List.getElem?_map, List.getElem?_eq_getElem hj]
          rfl
        rw [List.getElem?_take, if_pos (by omega)] at e
        simpa using e
      · have := (ownsRow_block hrow1 e).1
        omega
  clear hrow1 hrow2 k1 k2 h
  go_enter Tryz.func44, Tryz.ntmps44
  go_wp2_with (first | (at_builtin; have _t := hap1; refine append_run _ rfl (.tmp 4) (.tmp 5) 32 rfl rfl rfl hap1 ?_; clear hap1) | (at_builtin; have _t := hap2; refine append_run _ rfl (.tmp 7) (.tmp 8) 32 rfl rfl rfl hap2 ?_; clear hap2))
  go_ret
  exact hfin.out
end Go.Proofs.YtdlibnjgmdffnaaGreat
/-
  The law's kept.
-/
namespace Go.Proofs.YtdlibnjgmdffnaaGreat
open Go.RowKit Go.Shelf
set_option linter.unusedVariables false

/-- The lent list, of which the first i numbers are written over. -/
structure KeptAt (w wr : World) (g i : Nat) (zs : List Int) (cs : Array Value) : Prop where
  blk : wr.heap[g]? = some (.cells cs 3)
  left : ∀ j (h : j < (zs ++ [77, 78]).length), i ≤ j → cs[j]? = some (.int .i64 (zs ++ [77, 78])[j])
  kp : Keeps w wr (fun k => k = g)
theorem KeptAt.step {w wr : World} {g i : Nat} {zs : List Int} {cs : Array Value} (h : KeptAt w wr g i zs cs) (n : Nat) (u : Value) : KeptAt w ((wr.drewN n).setCell ⟨g, i, none⟩ u) g (i + 1) zs (cs.setIfInBounds i u) := by
  have k : Keeps w (wr.drewN n) (fun k => k = g) := h.kp.trans ((Keeps.refl wr _).drewN n) (fun _ _ e => e)
  refine ⟨set_cell_row (show (wr.drewN n).heap[g]? = _ from h.blk) i u, fun j hj hij => ?_, Keeps.setCell (S := fun k => k = g) k ⟨g, i, none⟩ (fun _ => rfl) _⟩
  rw [Array.getElem?_setIfInBounds_ne (by omega)]
  exact h.left j hj (by omega)

set_option maxRecDepth 100000 in
set_option maxHeartbeats 4000000 in
theorem kept_any {w : World} {g cap : Nat} (a : Option Addr) (capl : Nat) (zs : List Int) {cs : Array Value} (h : KeptAt w w g 0 zs cs) (hl : LIn w (fun k => k = g) a zs) (hn : zs.length ≤ 134217728) :
    Calls Tryz.prog 45 #[.slice (some ⟨g, 0, none⟩) (zs.length + 2) cap, .slice a zs.length capl] w fun e w' => e = .returned (.bool true) ∧ Keeps w w' (fun k => k = g) := by
  have x0 : w.cell? ⟨g, zs.length, none⟩ = some (.int .i64 77) := by
    have := h.left zs.length (by simp) (by omega)
    simp only [World.cell?, h.blk]
    rw [this]
    simp
  have x1 : w.cell? ⟨g, zs.length + 1, none⟩ = some (.int .i64 78) := by
    have := h.left (zs.length + 1) (by simp) (by omega)
    simp only [World.cell?, h.blk]
    rw [this]
    simp
  have H0 := hide h
  have HL := hide hl
  clear h hl
  have e1 : ((zs.length : Int) + 2 == (zs.length : Int) + 2) = true := by simp
  go_enter Tryz.func45, Tryz.ntmps45
  go_wp2_with fail
  go_loopw [5, 6] (fun ok i wr => ∃ k : Nat, ∃ cs', k ≤ zs.length ∧ i = .int .i64 (k : Int) ∧ ok = .bool true ∧ Hid (KeptAt w wr g k zs cs')) (fun _ i _ => zs.length - (intOf i).toNat)
  case atStart => exact ⟨0, cs, Nat.zero_le _, rfl, by simp, H0⟩
  case round =>
    clear H0 x0 x1
    obtain ⟨k, cs', hk, rfl, rfl, hP⟩ := hrel
    by_cases hlt : k < zs.length
    · have hlt' : (k : Int) < (zs.length : Int) := by omega
      have hlt2 : (k : Int) < (zs.length : Int) + 2 := by omega
      obtain ⟨b, o, rfl, _, _, y0⟩ := (HL.out.keeps hP.out.kp) k hlt
      have x0 : wr.cell? ⟨g, k, none⟩ = some (.int .i64 zs[k]) := by
        have := hP.out.left k (by simp; omega) (Nat.le_refl _)
        simp only [World.cell?, hP.out.blk]
        rw [this]
        simp [List.getElem_append_left hlt]
      have f0 : wr.frozen? ⟨g, k, none⟩ = false := by simp [World.frozen?, hP.out.blk]
      have HST := hide (fun n u => hP.out.step n u)
      clear hP
      generalize zs[k] = z at *
      go_wp2_with fail
      go_quiet (fail)
      go_wp2_with fail
      exact ⟨⟨k + 1, _, by omega, by simp, rfl, HST.out _ _⟩, by simp [intOf]; omega⟩
    · obtain rfl : k = zs.length := by omega
      have hlt' : ¬ (zs.length : Int) < (zs.length : Int) := by omega
      have KK := hide hP.out.kp
      clear hP HL
      go_wp2_with fail
      go_ret
      exact ⟨rfl, KK.out⟩

/-- The list of offsets, of which the first i are written over. -/
structure OffsAt (w wr : World) (h i n : Nat) (cs : Array Value) : Prop where
  blk : wr.heap[h]? = some (.cells cs 3)
  size : cs.size = n
  kp : Keeps w wr (fun k => k = h)
theorem OffsAt.step {w wr : World} {h i n : Nat} {cs : Array Value} (o : OffsAt w wr h i n cs) (u : Value) : OffsAt w (wr.setCell ⟨h, i, none⟩ u) h (i + 1) n (cs.setIfInBounds i u) :=
  ⟨set_cell_row o.blk i u, by simp [o.size], Keeps.setCell (S := fun k => k = h) o.kp ⟨h, i, none⟩ (fun _ => rfl) _⟩
theorem OffsAt.has {w wr : World} {h i n : Nat} {cs : Array Value} (o : OffsAt w wr h i n cs) (hi : i < n) : (∃ u, wr.cell? ⟨h, i, none⟩ = some u) ∧ wr.frozen? ⟨h, i, none⟩ = false := by
  refine ⟨⟨cs[i]'(by rw [o.size]; exact hi), ?_⟩, by simp [World.frozen?, o.blk]⟩
  have : i < cs.size := by rw [o.size]; exact hi
  simp [World.cell?, o.blk, this]
theorem OffsAt.two {w wr : World} {h i n : Nat} {cs : Array Value} (o : OffsAt w wr h i n cs) (x y : Int) (hn : n ≤ 134217728) :
    ∃ g cap w2, (∀ ty, (Builtin.append_ #[32, 32] ty #[.slice (some ⟨h, 0, none⟩) n n, .slice (some ⟨wr.heap.size, 0, none⟩) 2 2]).run Tryz.prog (wr.alloc (.cells #[.int .i64 x, .int .i64 y] 3)) = .ok (.slice (some ⟨g, 0, none⟩) (n + 2) cap) w2) ∧ Keeps w w2 (fun k => k = h) := by
  have hi : (Tryz.prog.info? 3).map (fun i => (i.zero, i.size, i.bytes)) = some (some (.int .i64 0), 1, 8) := by kernel_rfl
  obtain ⟨i', q1, q2, q3, q4⟩ := info_parts hi
  have k0 : Keeps wr (wr.alloc (.cells #[.int .i64 x, .int .i64 y] 3)) (fun _ => False) := (Keeps.refl _ _).alloc _
  have hnew := heap_alloc_new wr (.cells #[.int .i64 x, .int .i64 y] 3)
  have own : wr.ownsRow 0 3 1 (.slice (some ⟨h, 0, none⟩) n n) n (cs.toList.take (n * 1)) := ⟨by simp [o.size], Or.inr ⟨h, n, cs, rfl, Nat.zero_le _, o.blk, Nat.le_refl _, by unfold maxLen; omega, by rw [o.size]; omega, rfl⟩⟩
  obtain ⟨g2, c2, w', hr, h2, h3, h4, _⟩ := run_append_lies (P := Tryz.prog) (wr.alloc (.cells #[.int .i64 x, .int .i64 y] 3)) 32 0 0 3 i' (.int .i64 0) 1 8 Tryz.underlying32 q1 q2 q3 q4 rfl (by omega)
    _ n _ (ownsRow_keeps own k0 (fun _ _ => id)) ⟨wr.heap.size, 0, none⟩ 2 2 [.int .i64 x, .int .i64 y] rfl
    (fun j u hj => by
      rw [addr_add, Nat.zero_add]
      simp only [World.cell?, hnew]
      simpa using hj)
    (fun u hu => by
      simp only [List.mem_cons, List.not_mem_nil, or_false] at hu
      rcases hu with rfl | rfl <;> rfl) (by omega) (by unfold maxLen; omega) (by omega) (by have := k0.size; omega) _ rfl
  refine ⟨g2, c2, w', fun ty => hr, (o.kp.trans k0 (fun _ _ e => e.elim)).trans (Keeps.ofGrown h3) (fun i _ e => ?_)⟩
  have e' : h = i := by simpa [Value.ownBlock] using e
  exact e'.symm
theorem two_nil {w : World} (x y : Int) : ∃ g cap w2, (∀ ty, (Builtin.append_ #[32, 32] ty #[.slice none 0 0, .slice (some ⟨w.heap.size, 0, none⟩) 2 2]).run Tryz.prog (w.alloc (.cells #[.int .i64 x, .int .i64 y] 3)) = .ok (.slice (some ⟨g, 0, none⟩) 2 cap) w2) ∧ Keeps w w2 (fun _ => False) := by
  obtain ⟨g, cap, w2, h1, h2, h3⟩ := ints_two (w := w) (B := w.heap.size) (v := .slice none 0 0) (ys := []) (World.ownsRow_nil _ _ _ _) x y (by simp) (Nat.le_refl _)
  exact ⟨g, cap, w2, by simpa using h1, h3.mono (fun i hi e => by simp [Value.ownBlock] at e)⟩
end Go.Proofs.YtdlibnjgmdffnaaGreat
/-
  The law's allocs.
-/
namespace Go.Proofs.YtdlibnjgmdffnaaGreat
open Go.RowKit Go.Shelf
set_option linter.unusedVariables false

/-- What stands behind lent: the pair, the list of one's own, the list that came in. -/
theorem lent_mid {w w1 : World} {p r : Nat} {F P R : Nat → Prop} {d : AD} (m : Mid w w p r F (fun _ => False) P R d d) {g : Nat} (hg : w.heap.size ≤ g) (hg2 : g < w1.heap.size) (k : Keeps w w1 (fun _ => False)) : Mid w w1 p r F (fun i => i = g) P R d d :=
  m.keep k (fun _ e => e.elim) (fun i e => by subst e; exact ⟨Or.inr hg, hg2⟩)
theorem LIn.less {w : World} {F G : Nat → Prop} {a : Option Addr} {zs : List Int} (h : LIn w F a zs) (hG : ∀ k, k < w.heap.size → G k → F k) : LIn w G a zs := fun j hj => by
  obtain ⟨b, o, e, h1, h2, h3⟩ := h j hj
  exact ⟨b, o, e, h1, fun x => h2 (hG b h1 x), h3⟩
theorem Mid.lin {w W : World} {p r : Nat} {F X P R : Nat → Prop} {d1 d2 : AD} (m : Mid w W p r F X P R d1 d2) {a : Option Addr} {zs : List Int} (hz : LIn w F a zs) : LIn W (fun k => F k ∨ w.heap.size ≤ k) a zs :=
  LIn.keeps (F := fun k => F k ∨ w.heap.size ≤ k) (hz.less (fun k hk e => by
    rcases e with e | e
    · exact e
    · omega)) (m.kp.mono (fun _ _ e => Or.inl e))
theorem kept_of {w : World} {g : Nat} {zs : List Int} {cs : Array Value} (h1 : w.heap[g]? = some (.cells cs 3)) (h2 : ∀ j (h : j < (zs ++ [77, 78]).length), cs[j]? = some (.int .i64 (zs ++ [77, 78])[j])) : KeptAt w w g 0 zs cs := ⟨h1, fun j hj _ => h2 j hj, Keeps.refl _ _⟩
theorem own_ints {w : World} {g : Nat} {zs : List Int} {cs : Array Value} (h1 : w.heap[g]? = some (.cells cs 3)) (h2 : ∀ j (h : j < (zs ++ [77, 78]).length), cs[j]? = some (.int .i64 (zs ++ [77, 78])[j])) (j : Nat) (hj : j < zs.length) : w.cell? ⟨g, 0 + j, none⟩ = some (.int .i64 zs[j]) := by
  have := h2 j (by simp; omega)
  simp only [World.cell?, h1, Nat.zero_add]
  rw [this]
  simp [List.getElem_append_left hj]

set_option maxRecDepth 100000 in
set_option maxHeartbeats 4000000 in
theorem allocs_no {w : World} {p r : Nat} {F : Nat → Prop} {d : AD} (h : Duo w p r F d) (a : Option Addr) (cap : Nat) (zs : List Int) (hz : LIn w F a zs) (ha : a = none → cap = 0) (hn : zs.length ≤ 134217728) (hE : refE d zs ≠ 0) :
    Calls Tryz.prog 18 #[.pointer (some ⟨p, 0, none⟩), .pointer (some ⟨r, 0, none⟩), .slice a zs.length cap] w fun e w' => DuoPost w p r F e w' := by
  obtain ⟨P, R, m, hF, hW⟩ := h
  have hl := lent_any a cap zs hz.ints hn ha
  have M := hide m
  have HF := hide hF
  have HW := hide hW
  have HZ := hide hz
  have HE := hide hE
  clear m hF hW hz hE ha
  go_enter Tryz.func18, Tryz.ntmps18
  go_wp2_with fail
  (with_reducible refine hl.mono ?_)
  rintro e w1 ⟨g, cap1, rfl, hc1, hg1, hg2, ⟨cs, hcs1, hcs2⟩, k1⟩
  have m1 := lent_mid M.out hg1 hg2 k1
  have hA := allocAll_no m1.a HF.out (some ⟨g, 0, none⟩) cap1 zs (by omega) (fun j hj => ⟨g, 0, rfl, own_ints hcs1 hcs2 j hj⟩) (refE d zs) rfl HE.out
  have M1 := hide m1
  have K1 := hide k1
  have HC1 := hide hcs1
  have HC2 := hide hcs2
  have G1 := hide hg1
  clear hl m1 k1 hcs1 hcs2 hg1 hg2
  generalize hx : refE d zs = x at *
  have HX := hide hx
  clear hx
  go_wp2_with fail
  (with_reducible refine hA.mono ?_)
  rintro e w2 ⟨rfl, k2⟩
  have m2 := M1.out.keep (X' := fun i => i = g) k2 (fun _ e => e.elim) (fun i e => ⟨Or.inl e, by subst e; exact Nat.lt_of_lt_of_le (heap_lt HC1.out) k2.size⟩)
  have hR := ref_all m2.b HF.out HW.out a cap zs hn ((m2.lin HZ.out).less (fun k _ hr => (m2.rf k hr).1))
  have M2 := hide m2
  have hcs2b : Hid (w2.heap[g]? = some (.cells cs 3)) := (k2.block g (heap_lt HC1.out) id).trans HC1.out
  clear hA m2 k2
  go_wp2_with fail
  (with_reducible refine hR.mono ?_)
  intro e w3 hp
  have hp2 : e = .returned (.tuple #[.slice none 0 0, .int .i64 x]) ∧ Keeps w2 w3 (fun _ => False) := by
    rcases hp with ⟨_, h1, h2⟩ | ⟨hh, _⟩
    · rw [HX.out] at h1
      exact ⟨h1, h2⟩
    · exact absurd (HX.out.symm.trans hh) HE.out
  obtain ⟨rfl, k3⟩ := hp2
  clear hp
  have m3 := M2.out.keep (X' := fun i => i = g) k3 (fun _ e => e.elim) (fun i e => ⟨Or.inl e, by subst e; exact Nat.lt_of_lt_of_le (heap_lt hcs2b.out) k3.size⟩)
  have hcs3 : w3.heap[g]? = some (.cells cs 3) := (k3.block g (heap_lt hcs2b.out) id).trans hcs2b.out
  have hK := kept_any (cap := cap1) a cap zs (kept_of hcs3 HC2.out) ((m3.lin HZ.out).less (fun k _ e => Or.inr (by subst e; exact G1.out))) hn
  have M3 := hide m3
  have HG3 : Hid (g < w3.heap.size) := heap_lt hcs3
  clear hR m3 k3 hcs3 hcs2b M2 M1 HC1
  go_wp2_with fail
  (with_reducible refine hK.mono ?_)
  rintro e w4 ⟨rfl, k4⟩
  have M4 := hide (M3.out.keep (X' := fun i => i = g) k4 (fun _ e => e) (fun i e => ⟨Or.inl e, by subst e; exact Nat.lt_of_lt_of_le HG3.out k4.size⟩))
  have hnm := num_any x w4
  have hS := same_true none none 0 0 [] w4 (by simp) (fun j hj => by simp at hj) (fun j hj => by simp at hj)
  simp only [List.length_nil] at hS
  clear hK k4 M3 HG3
  go_wp2_with fail
  (with_reducible refine hnm.mono ?_)
  rintro e w5 ⟨rfl, hw5⟩
  subst hw5
  clear hnm
  go_wp2_with fail
  (with_reducible refine hS.mono ?_)
  rintro e w6 ⟨rfl, k6⟩
  have hsz6 := k6.size
  have M6 := hide (M4.out.keep (X' := fun _ => False) k6 (fun _ e => e.elim) (fun i e => e.elim))
  obtain ⟨g7, cap7, w7, hap, k7⟩ := two_nil (w := w6) (-9) (-9)
  have M7 := hide (M6.out.keep (X' := fun _ => False) k7 (fun _ e => e.elim) (fun i e => e.elim))
  clear hS k6 M4 M6 k7 hsz6
  go_wp2_with fail
  go_loopw [12] (fun i wr => i = .int .i64 0 ∧ w6 = wr) (fun _ _ => 0)
  case atStart => exact ⟨rfl, rfl⟩
  case round =>
    obtain ⟨rfl, rfl⟩ := hrel
    go_wp2_with (first | (at_builtin; have _t := hap; refine append_run _ rfl (.tmp 55) (.tmp 56) 32 rfl rfl rfl hap ?_; clear hap))
    go_ret
    exact M7.out.duo HF.out HW.out
end Go.Proofs.YtdlibnjgmdffnaaGreat
