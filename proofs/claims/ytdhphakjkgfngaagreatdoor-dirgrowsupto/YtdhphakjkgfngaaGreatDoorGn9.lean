import Derived.Deep.RegionHeld3
import Derived.Test.YtdhphakjkgfngaaGreatDoorChecked
import Derived.WalkKit
import Derived.Below
import Derived.ProofKit
import Derived.IntWalk
import Derived.Laws.Bits64
import Derived.Laws.BitsAll
import Derived.Deep.QuietTactic
import Derived.BigQuiet
import Derived.Test.YtdhphakjkgfngaaGreatDoorGn8
/-
  Powers of two, and the calls of math/bits at them.
-/
namespace Go.Proofs.YtdhphakjkgfngaaGreatDoor
open Go.RowKit Go.Shelf
set_option linter.unusedVariables false

theorem alloc1 {w : World} {o1 : Obj} {P : World → Prop} (h : ∀ W0, W0.heap[w.heap.size]? = some o1 → W0.heap.size = w.heap.size + 1 → Keeps w W0 (fun _ => False) → P W0) : P (w.alloc o1) :=
  h _ (heap_alloc_new _ _) (by simp) ((Keeps.refl _ _).alloc _)
theorem alloc2 {w : World} {o1 o2 : Obj} {P : World → Prop} (h : ∀ W0, W0.heap[w.heap.size]? = some o1 → W0.heap[w.heap.size + 1]? = some o2 → W0.heap.size = w.heap.size + 2 → Keeps w W0 (fun _ => False) → P W0) : P ((w.alloc o1).alloc o2) :=
  h _ ((Below.heap_alloc _ _ _ (by simp)).trans (heap_alloc_new _ _)) (by have := heap_alloc_new (w.alloc o1) o2; simpa using this) (by simp) (((Keeps.refl _ _).alloc _).alloc _)
theorem Keeps.blk {w w1 : World} (h : Keeps w w1 (fun _ => False)) {b : Nat} {x : Obj} (hb : w.heap[b]? = some x) : w1.heap[b]? = some x := (h.block b (heap_lt hb) id).trans hb
theorem set_one' {w : World} {b : Nat} {cs : Array Value} {t : TypeId} (h : w.heap[b]? = some (.cells cs t)) (i : Nat) (v : Value) (hi : i < cs.size) :
    (w.setCell ⟨b, i, none⟩ v).heap[b]? = some (.cells (cs.set i v hi) t) := by
  have hlt := (Array.getElem?_eq_some_iff.1 h).1
  have hv := (Array.getElem?_eq_some_iff.1 h).2
  simp only [World.setCell, Array.getElem?_modify]
  simp [hlt, hv, hi, Array.setIfInBounds]
theorem one_cell {w : World} {b : Nat} {v0 : Value} {t : TypeId} (h : w.heap[b]? = some (.cells #[v0] t)) : w.cell? ⟨b, 0, none⟩ = some v0 ∧ w.frozen? ⟨b, 0, none⟩ = false := by
  simp [World.cell?, World.frozen?, h]
theorem three_cells {w : World} {b : Nat} {v0 v1 v2 : Value} {t : TypeId} (h : w.heap[b]? = some (.cells #[v0, v1, v2] t)) :
    (w.cell? ⟨b, 0, none⟩ = some v0 ∧ w.cell? ⟨b, 1, none⟩ = some v1 ∧ w.cell? ⟨b, 2, none⟩ = some v2) ∧ w.frozen? ⟨b, 0, none⟩ = false ∧ w.frozen? ⟨b, 1, none⟩ = false ∧ w.frozen? ⟨b, 2, none⟩ = false := by
  simp [World.cell?, World.frozen?, h]
theorem three_set {w0 w : World} {b : Nat} {u0 u1 u2 : Value} {t : TypeId} {S : Nat → Prop} (h : w.heap[b]? = some (.cells #[u0, u1, u2] t)) (k : Keeps w0 w S) (hb : b < w0.heap.size → S b)
    {v0 v1 v2 : Value} {P : World → Prop} (hP : ∀ w9, w9.heap[b]? = some (.cells #[v0, v1, v2] t) → Keeps w0 w9 S → Keeps w w9 (fun i => i = b) → w9.heap.size = w.heap.size → P w9) :
    P (((w.setCell ⟨b, 0, none⟩ v0).setCell ⟨b, 1, none⟩ v1).setCell ⟨b, 2, none⟩ v2) := by
  refine hP _ ?_ ?_ ?_ (by simp [World.setCell])
  · have h0 := set_one' h 0 v0 (by simp)
    have h1 := set_one' h0 1 v1 (by simp)
    have h2 := set_one' h1 2 v2 (by simp)
    exact h2
  · exact ((k.setCell _ hb _).setCell _ hb _).setCell _ hb _
  · exact (((Keeps.refl w (fun i => i = b)).setCell _ (fun _ => rfl) _).setCell _ (fun _ => rfl) _).setCell _ (fun _ => rfl) _

def tabL : List Nat := [0, 1, 56, 2, 57, 49, 28, 3, 61, 58, 42, 50, 38, 29, 17, 4, 62, 47, 59, 36, 45, 43, 51, 22, 53, 39, 33, 30, 24, 18, 12, 5, 63, 55, 48, 27, 60, 41, 37, 16, 46, 35, 44, 21, 52, 32, 23, 11, 54, 26, 40, 15, 34, 20, 31, 10, 25, 14, 19, 9, 13, 8, 7, 6]
/-- The table where the program lays it. -/
def TabAt (w : World) : Prop := ∀ k, k < 64 → w.cell? ⟨1, k, none⟩ = some (.int .u8 ((tabL.getD k 0 : Nat) : Int))
theorem TabAt.keeps {w w' : World} (h : TabAt w) (k : Keeps w w' (fun _ => False)) : TabAt w' := fun i hi => k.cellK (h i hi)

def low1 (x : Int) : Int := bits BinOp.and IntKind.u64 x (IntKind.u64.wrap (-x))
def low2 (x : Int) : Int := IntKind.u64.wrap (x * 285870213051353865)
def low3 (x : Int) : Int := x / 288230376151711744
theorem low_pow : ∀ D, D < 7 → (((2 ^ D : Nat) : Int) == 0) = false ∧ 0 ≤ low3 (low2 (low1 ((2 ^ D : Nat) : Int))) ∧ low3 (low2 (low1 ((2 ^ D : Nat) : Int))) < 64 ∧ tabL.getD (low3 (low2 (low1 ((2 ^ D : Nat) : Int)))).toNat 0 = D := by decide +kernel

set_option maxHeartbeats 400000 in
theorem tz_walk (X L P I V : Int) (w : World) (h0 : (X == 0) = false) (h1 : bits BinOp.and IntKind.u64 X (IntKind.u64.wrap (-X)) = L) (h2 : IntKind.u64.wrap (L * 285870213051353865) = P) (h3 : P / 288230376151711744 = I) (hI : 0 ≤ I) (hI' : I < 64)
    (hc : w.cell? ⟨1, I.toNat, none⟩ = some (.int .u8 V)) (hV : 0 ≤ V) (hV' : V < 64) :
    Calls Tryz.prog 40 #[.int .u64 X] w fun e w' => e = .returned (.int .i64 V) ∧ w' = w := by
  go_enter Tryz.func40, Tryz.ntmps40
  go_wp2_with fail
  go_ret
  exact ⟨rfl, rfl⟩
theorem tz64_pow {D : Nat} (hD : D ≤ 6) {w : World} (ht : TabAt w) : Calls Tryz.prog 40 #[.int .u64 ((2 ^ D : Nat) : Int)] w fun e w' => e = .returned (.int .i64 (D : Int)) ∧ w' = w := by
  obtain ⟨a1, a2, a3, a4⟩ := low_pow D (by omega)
  refine tz_walk _ _ _ _ _ w a1 rfl rfl rfl a2 a3 ?_ (by omega) (by omega)
  rw [ht _ (by show Int.toNat (low3 (low2 (low1 ((2 ^ D : Nat) : Int)))) < 64; omega)]
  show some (Value.int IntKind.u8 ((tabL.getD (Int.toNat (low3 (low2 (low1 ((2 ^ D : Nat) : Int))))) 0 : Nat) : Int)) = _
  rw [a4]
set_option maxHeartbeats 400000 in
theorem tz_pow {D N : Nat} (hN : N = 2 ^ D) (hD : D ≤ 6) {w : World} (ht : TabAt w) : Calls Tryz.prog 26 #[.int .u64 (N : Int)] w fun e w' => e = .returned (.int .i64 (D : Int)) ∧ w' = w := by
  have h := tz64_pow hD ht
  rw [← hN] at h
  have hb : N ≤ 64 := by rw [hN]; exact Nat.pow_le_pow_right (n := 2) (by decide) hD
  clear hN ht
  go_enter Tryz.func26, Tryz.ntmps26
  go_wp2_with fail
  refine h.mono ?_
  rintro e w' ⟨rfl, rfl⟩
  clear h
  go_wp2_with fail
  go_ret
  exact ⟨rfl, rfl⟩

def pop1 (x : Int) : Int := IntKind.u64.wrap (bits BinOp.and IntKind.u64 (x / 2) 6148914691236517205 + bits BinOp.and IntKind.u64 x 6148914691236517205)
def pop2 (x : Int) : Int := IntKind.u64.wrap (bits BinOp.and IntKind.u64 (x / 4) 3689348814741910323 + bits BinOp.and IntKind.u64 x 3689348814741910323)
def pop3 (x : Int) : Int := bits BinOp.and IntKind.u64 (IntKind.u64.wrap (x / 16 + x)) 1085102592571150095
def pop4 (x : Int) : Int := IntKind.u64.wrap (x + x / 256)
def pop5 (x : Int) : Int := IntKind.u64.wrap (x + x / 65536)
def pop6 (x : Int) : Int := IntKind.u64.wrap (x + x / 4294967296)
def pop7 (x : Int) : Int := bits BinOp.and IntKind.i64 (wrap64 x) 127
def popN (n : Nat) : Int := pop7 (pop6 (pop5 (pop4 (pop3 (pop2 (pop1 (n : Int)))))))
/-- The depth of a directory of n entries; below 0: there is none. -/
def depI (n : Nat) : Int := if n = 1 then 0 else if n = 2 then 1 else if n = 4 then 2 else if n = 8 then 3 else if n = 16 then 4 else if n = 32 then 5 else if n = 64 then 6 else -1
theorem popN_one : ∀ n, n < 65 → (popN n != 1) = decide (depI n < 0) := by decide +kernel
theorem depI_yes {n : Nat} (h : ¬ depI n < 0) : ∃ D : Nat, D ≤ 6 ∧ n = 2 ^ D ∧ depI n = D ∧ n ≤ 64 ∧ 1 ≤ n := by
  unfold depI at h ⊢
  split
  · exact ⟨0, by omega, by omega, rfl, by omega, by omega⟩
  · split
    · exact ⟨1, by omega, by omega, rfl, by omega, by omega⟩
    · split
      · exact ⟨2, by omega, by omega, rfl, by omega, by omega⟩
      · split
        · exact ⟨3, by omega, by omega, rfl, by omega, by omega⟩
        · split
          · exact ⟨4, by omega, by omega, rfl, by omega, by omega⟩
          · split
            · exact ⟨5, by omega, by omega, rfl, by omega, by omega⟩
            · split
              · exact ⟨6, by omega, by omega, rfl, by omega, by omega⟩
              · rename_i h1 h2 h3 h4 h5 h6 h7
                simp [h1, h2, h3, h4, h5, h6, h7] at h
theorem depI_pow : ∀ D : Nat, D < 7 → depI (2 ^ D) = (D : Int) := by decide +kernel
theorem depI_big {n : Nat} (h : 64 < n) : depI n < 0 := by
  unfold depI
  rw [if_neg (by omega), if_neg (by omega), if_neg (by omega), if_neg (by omega), if_neg (by omega), if_neg (by omega), if_neg (by omega)]
  decide

set_option maxHeartbeats 400000 in
theorem ones_walk (X x1 x2 x3 x4 x5 x6 x7 : Int) (h1 : IntKind.u64.wrap (bits BinOp.and IntKind.u64 (X / 2) 6148914691236517205 + bits BinOp.and IntKind.u64 X 6148914691236517205) = x1)
    (h2 : IntKind.u64.wrap (bits BinOp.and IntKind.u64 (x1 / 4) 3689348814741910323 + bits BinOp.and IntKind.u64 x1 3689348814741910323) = x2)
    (h3 : bits BinOp.and IntKind.u64 (IntKind.u64.wrap (x2 / 16 + x2)) 1085102592571150095 = x3)
    (h4 : IntKind.u64.wrap (x3 + x3 / 256) = x4) (h5 : IntKind.u64.wrap (x4 + x4 / 65536) = x5) (h6 : IntKind.u64.wrap (x5 + x5 / 4294967296) = x6)
    (h7 : bits BinOp.and IntKind.i64 (wrap64 x6) 127 = x7) (w : World) :
    Calls Tryz.prog 37 #[.int .u64 X] w fun e w' => e = .returned (.int .i64 x7) ∧ w' = w := by
  go_enter Tryz.func37, Tryz.ntmps37
  go_wp2_with fail
  go_ret
  exact ⟨by rw [← h7]; rfl, rfl⟩
set_option maxHeartbeats 400000 in
theorem ones_any (n : Nat) (hn : n ≤ 64) (w : World) : Calls Tryz.prog 23 #[.int .u64 (n : Int)] w fun e w' => e = .returned (.int .i64 (popN n)) ∧ w' = w := by
  have h := ones_walk (n : Int) _ _ _ _ _ _ _ rfl rfl rfl rfl rfl rfl (show _ = popN n from rfl)
  generalize popN n = z at *
  go_enter Tryz.func23, Tryz.ntmps23
  go_wp2_with fail
  refine (h _).mono ?_
  rintro e w' ⟨rfl, rfl⟩
  clear h
  go_wp2_with fail
  go_ret
  exact ⟨rfl, rfl⟩

set_option maxHeartbeats 1000000 in
theorem depthOf_core (n : Nat) (E : Int) (hE0 : Hid (depI n = E)) (w : World) : Calls Tryz.prog 12 #[.int .i64 (n : Int)] w fun e w' => e = .returned (.int .i64 E) ∧ w' = w := by
  go_enter Tryz.func12, Tryz.ntmps12
  go_wp2_with fail
  go_loop [3] (fun v => ∃ d : Nat, v = .int .i64 (d : Int) ∧ d ≤ 7 ∧ ∀ k, k < d → n ≠ 2 ^ k) (fun v => 8 - (intOf v).toNat)
  case atStart => exact ⟨0, rfl, by omega, fun k h => by omega⟩
  case round =>
    obtain ⟨d, rfl, hd, hno⟩ := hrel
    by_cases h7 : d = 7
    · subst h7
      have hE : depI n = -1 := by
        have a0 := hno 0 (by omega)
        have a1 := hno 1 (by omega)
        have a2 := hno 2 (by omega)
        have a3 := hno 3 (by omega)
        have a4 := hno 4 (by omega)
        have a5 := hno 5 (by omega)
        have a6 := hno 6 (by omega)
        unfold depI
        rw [if_neg (by omega), if_neg (by omega), if_neg (by omega), if_neg (by omega), if_neg (by omega), if_neg (by omega), if_neg (by omega)]
      have hE2 := hE0.out
      rw [hE] at hE2
      subst hE2
      clear hno hd hE hE0
      go_wp2_with fail
      go_ret
      exact ⟨rfl, rfl⟩
    · by_cases hn : n = 2 ^ d
      · have hE := depI_pow d (by omega)
        rw [← hn] at hE
        have hE2 := hE0.out
        rw [hE] at hE2
        subst hE2
        clear hE0
        have hS : Aside ((n : Int) = ((2 ^ d : Nat) : Int)) := congrArg (fun x : Nat => (x : Int)) hn
        clear hno hE hn
        obtain rfl | rfl | rfl | rfl | rfl | rfl | rfl : d = 0 ∨ d = 1 ∨ d = 2 ∨ d = 3 ∨ d = 4 ∨ d = 5 ∨ d = 6 := by omega
        all_goals have hS2 := hS.out
        all_goals simp only [Nat.reducePow] at hS2
        all_goals clear hS
        all_goals obtain rfl : n = _ := by exact_mod_cast hS2
        all_goals clear hS2
        all_goals go_wp2_with fail
        all_goals go_ret
        all_goals exact ⟨rfl, rfl⟩
      · have hno' : Aside (∀ k, k < d + 1 → n ≠ 2 ^ k) := fun k hk => by
          by_cases e : k = d
          · subst e; exact hn
          · exact hno k (by omega)
        have hS : ¬ (n : Int) = ((2 ^ d : Nat) : Int) := fun e => hn (by exact_mod_cast e)
        have hS2 : ((n : Int) == ((2 ^ d : Nat) : Int)) = false := by simpa using hS
        clear hno hn
        obtain rfl | rfl | rfl | rfl | rfl | rfl | rfl : d = 0 ∨ d = 1 ∨ d = 2 ∨ d = 3 ∨ d = 4 ∨ d = 5 ∨ d = 6 := by omega
        all_goals simp only [Nat.reducePow] at hS hS2
        all_goals go_wp2_with fail
        all_goals go_round
        all_goals first | (case rel => exact ⟨_, by go_num, by omega, hno'.out⟩) | (case measure => simp [intOf])
theorem depthOf_any (n : Nat) (w : World) : Calls Tryz.prog 12 #[.int .i64 (n : Int)] w fun e w' => e = .returned (.int .i64 (depI n)) ∧ w' = w := depthOf_core n _ rfl w
end Go.Proofs.YtdhphakjkgfngaaGreatDoor
/-
  The small calls of dir, over an arena that a statement made.
-/
namespace Go.Proofs.YtdhphakjkgfngaaGreatDoor
open Go.RowKit Go.Shelf
set_option linter.unusedVariables false

theorem Turned.pre {w w0 w' : World} {p : Nat} {F : Nat → Prop} {d : AD} (k : Keeps w w0 (fun _ => False)) (h : Turned w0 w' p F d) : Turned w w' p F d :=
  ⟨h.1.mono (fun i _ hi => hi.elim Or.inl (fun q => Or.inr (Nat.le_trans k.size q))), (k.mono (fun _ _ e => e.elim)).trans h.2 (fun _ _ e => e)⟩
theorem Turned.post {w w1 w2 : World} {p : Nat} {F : Nat → Prop} {d : AD} (h : Turned w w1 p F d) (k : Keeps w1 w2 (fun _ => False)) : Turned w w2 p F d :=
  ⟨h.1.keeps k (fun _ _ _ e => e), h.2.trans k (fun _ _ e => e.elim)⟩
/-- Only these bytes turned. -/
def Wr (d d' : AD) (o n : Nat) : Prop := ∃ bs, d' = d.bytes bs ∧ bs.length = d.bs.length ∧ ∀ j, j < o ∨ o + n ≤ j → bs[j]? = d.bs[j]?
theorem Wr.refl (d : AD) (o n : Nat) : Wr d d o n := ⟨d.bs, rfl, rfl, fun _ _ => rfl⟩
theorem Wr.trans {d d1 d2 : AD} {o n : Nat} (h1 : Wr d d1 o n) (h2 : Wr d1 d2 o n) : Wr d d2 o n := by
  obtain ⟨b1, rfl, l1, e1⟩ := h1
  obtain ⟨b2, rfl, l2, e2⟩ := h2
  exact ⟨b2, rfl, l2.trans l1, fun j hj => (e2 j hj).trans (e1 j hj)⟩
theorem Wr.same {d d' : AD} {o n : Nat} (h : Wr d d' o n) : d'.L = d.L ∧ d'.lv = d.lv ∧ d'.used = d.used ∧ d'.limit = d.limit ∧ d'.fm = d.fm := by
  obtain ⟨b1, rfl, _, _⟩ := h
  exact ⟨rfl, rfl, rfl, rfl, rfl⟩
abbrev C3 (W : World) (b p off D : Nat) : Prop := W.cell? ⟨b, 0, none⟩ = some (.pointer (some ⟨p, 0, none⟩)) ∧ W.cell? ⟨b, 1, none⟩ = some (.int .i64 (off : Int)) ∧ W.cell? ⟨b, 2, none⟩ = some (.int .i64 (D : Int))
theorem c3_of {W : World} {b p off D : Nat} {t : TypeId} (h : W.heap[b]? = some (.cells #[.pointer (some ⟨p, 0, none⟩), .int .i64 (off : Int), .int .i64 (D : Int)] t)) : C3 W b p off D := (three_cells h).1
theorem c3_keeps {W W1 : World} {b p off D : Nat} {S : Nat → Prop} (k : Keeps W W1 S) (hS : ¬ S b) (h : C3 W b p off D) : C3 W1 b p off D := by
  obtain ⟨c0, c1, c2⟩ := h
  have hc : ∀ j v, W.cell? ⟨b, j, none⟩ = some v → W1.cell? ⟨b, j, none⟩ = some v := fun j v q => by
    have : b < W.heap.size := by
      refine Nat.lt_of_not_le fun hn => ?_
      rw [World.cell?, Array.getElem?_eq_none hn] at q
      cases q
    exact (World.cell?_of_block (w := W) (a := ⟨b, j, none⟩) (k.block b this hS)).trans q
  exact ⟨hc _ _ c0, hc _ _ c1, hc _ _ c2⟩
theorem c3_drew {W : World} {b p off D : Nat} (h : C3 W b p off D) : C3 W.drew b p off D := c3_keeps (Keeps.refl W (fun _ => False)).drew id h
theorem pow_le6 {D : Nat} (h : D ≤ 6) : 2 ^ D ≤ 64 := Nat.pow_le_pow_right (n := 2) (by decide) h
theorem pow_pos' (D : Nat) : 1 ≤ 2 ^ D := Nat.one_le_two_pow

set_option maxHeartbeats 400000 in
theorem dat_any (p off D i : Nat) (w : World) (h1 : off ≤ 134217728) (hi : i ≤ 128) :
    Calls Tryz.prog 35 #[.agg #[.pointer (some ⟨p, 0, none⟩), .int .i64 (off : Int), .int .i64 (D : Int)], .int .i64 (i : Int)] w fun e w' => e = .returned (.int .i64 ((off : Int) + 8 * (i : Int))) ∧ Keeps w w' (fun _ => False) := by
  go_enter Tryz.func35, Tryz.ntmps35
  go_wp2_with fail
  go_ret
  exact ⟨by show Ending.returned (.int .i64 ((off : Int) + (i : Int) * 8)) = _; rw [Int.mul_comm], (Keeps.refl _ _).alloc _⟩

set_option maxHeartbeats 400000 in
theorem dvalid_any (p off D : Nat) (w : World) (hD : D ≤ 6) :
    Calls Tryz.prog 28 #[.agg #[.pointer (some ⟨p, 0, none⟩), .int .i64 (off : Int), .int .i64 (D : Int)]] w fun e w' => e = .returned (.bool true) ∧ Keeps w w' (fun _ => False) := by
  go_enter Tryz.func28, Tryz.ntmps28
  go_wp2_with fail
  go_ret
  exact ⟨by show Ending.returned (.bool (decide ((D : Int) ≤ 6))) = _; rw [decide_eq_true (by omega)], (Keeps.refl _ _).alloc _⟩

set_option maxHeartbeats 1000000 in
theorem dentries_any (p off D : Nat) (w : World) (hD : D ≤ 6) :
    Calls Tryz.prog 20 #[.agg #[.pointer (some ⟨p, 0, none⟩), .int .i64 (off : Int), .int .i64 (D : Int)]] w fun e w' => e = .returned (.int .i64 ((2 ^ D : Nat) : Int)) ∧ Keeps w w' (fun _ => False) := by
  have hv := fun W => dvalid_any p off D W hD
  obtain rfl | rfl | rfl | rfl | rfl | rfl | rfl : D = 0 ∨ D = 1 ∨ D = 2 ∨ D = 3 ∨ D = 4 ∨ D = 5 ∨ D = 6 := by omega
  all_goals go_enter Tryz.func20, Tryz.ntmps20
  all_goals go_wp2_with fail
  all_goals refine alloc1 (P := fun W => Calls _ _ _ W _) fun W0 hb hz K0 => ?_
  all_goals refine (hv _).mono ?_
  all_goals rintro e w1 ⟨rfl, k1⟩
  all_goals have hb1 := k1.blk hb
  all_goals have K1 : Keeps w w1 (fun _ => False) := K0.trans k1 (fun _ _ e => e)
  all_goals clear hv hb k1 K0
  all_goals obtain ⟨⟨c0, c1, c2⟩, f0, f1, f2⟩ := three_cells hb1
  all_goals go_wp2_with fail
  all_goals go_ret
  all_goals exact ⟨rfl, K1⟩

set_option maxHeartbeats 1000000 in
theorem dhas_any (p off D : Nat) (i : Int) (w : World) (hD : D ≤ 6) :
    Calls Tryz.prog 33 #[.agg #[.pointer (some ⟨p, 0, none⟩), .int .i64 (off : Int), .int .i64 (D : Int)], .int .i64 i] w fun e w' => e = .returned (.bool (decide (0 ≤ i ∧ i < ((2 ^ D : Nat) : Int)))) ∧ Keeps w w' (fun _ => False) := by
  have hv := fun W => dentries_any p off D W hD
  generalize 2 ^ D = n at *
  by_cases h0 : 0 ≤ i
  · have hE : decide (0 ≤ i ∧ i < (n : Int)) = decide (i < (n : Int)) := by simp [h0]
    rw [hE]
    go_enter Tryz.func33, Tryz.ntmps33
    go_wp2_with fail
    refine alloc1 (P := fun W => Calls _ _ _ W _) fun W0 hb hz K0 => ?_
    (with_reducible refine (hv _).mono ?_)
    rintro e w1 ⟨rfl, k1⟩
    have K1 : Keeps w w1 (fun _ => False) := K0.trans k1 (fun _ _ e => e)
    clear hv hb k1 K0
    go_wp2_with fail
    go_ret
    exact ⟨rfl, K1⟩
  · have hE : decide (0 ≤ i ∧ i < (n : Int)) = false := decide_eq_false (fun q => h0 q.1)
    rw [hE]
    clear hv
    go_enter Tryz.func33, Tryz.ntmps33
    go_wp2_with fail
    go_ret
    exact ⟨rfl, (Keeps.refl _ _).alloc _⟩

/-- A directory in an arena that a statement made. -/
structure DirO (w w1 : World) (p : Nat) (X : Nat → Prop) (d : AD) (off D : Nat) (ts : List Int) : Prop where
  own : Own w w1 p X d
  fine : d.Fine
  well : d.Well
  dir : DirD d off ts
  len : ts.length = 2 ^ D
  dep : D ≤ 6
  fit : ∀ i (h : i < ts.length), fitsI ts[i]
theorem DirO.stay {w w1 w2 : World} {p : Nat} {X : Nat → Prop} {d : AD} {off D : Nat} {ts : List Int} (h : DirO w w1 p X d off D ts) (k : Keeps w1 w2 (fun _ => False)) : DirO w w2 p X d off D ts := ⟨h.own.stay k, h.fine, h.well, h.dir, h.len, h.dep, h.fit⟩
theorem DirO.low {w w1 : World} {p : Nat} {X : Nat → Prop} {d : AD} {off D : Nat} {ts : List Int} (h : DirO w w1 p X d off D ts) : off ≤ 134217728 ∧ ts.length ≤ 64 ∧ off + 8 * ts.length ≤ d.bs.length := by
  obtain ⟨c, h1, h2, h3⟩ := h.dir.blk
  have := tiles_mem h.fine.tiles h1
  have := h.fine.most
  have := pow_le6 h.dep
  have := h.len
  simp at *
  omega
theorem DirO.loadV {w w1 : World} {p : Nat} {X : Nat → Prop} {d : AD} {off D : Nat} {ts : List Int} (h : DirO w w1 p X d off D ts) {i : Nat} (hi : i < ts.length) : Go.Proofs.YtdhphakjkgfngaaGreatDoor.loadV d ((off : Int) + 8 * (i : Int)) 8 = (ts[i] % 18446744073709551616, 0) := by
  unfold Go.Proofs.YtdhphakjkgfngaaGreatDoor.loadV
  rw [if_pos (by decide), if_pos (h.dir.good hi), h.dir.num hi]

set_option maxHeartbeats 1000000 in
theorem dload_any {w w1 : World} {p : Nat} {X : Nat → Prop} {d : AD} {off D : Nat} {ts : List Int} (h : DirO w w1 p X d off D ts) (i : Nat) (hi : i < ts.length) :
    Calls Tryz.prog 21 #[.agg #[.pointer (some ⟨p, 0, none⟩), .int .i64 (off : Int), .int .i64 (D : Int)], .int .i64 (i : Int)] w1 fun e w' => e = .returned (.tuple #[.int .i64 ts[i], .int .i64 0]) ∧ Keeps w1 w' (fun _ => False) := by
  obtain ⟨l1, l2, l3⟩ := h.low
  have hA := fun W => dat_any p off D i W l1 (by omega)
  have hL := fun W (k : Keeps w1 W (fun _ => False)) => own_load (h.own.stay k) h.fine ((off : Int) + 8 * (i : Int)) 8 (fitsI_mk (by omega) (by omega)) (fitsI_mk (by omega) (by omega))
  rw [h.loadV hi] at hL
  have hw := wrap_back (h.fit i hi)
  have hw2 : wrap64 (ts[i] % 18446744073709551616) = ts[i] := by
    obtain ⟨b1, b2⟩ := fitsI_bounds (h.fit i hi)
    unfold wrap64
    omega
  have hu : 0 ≤ ts[i] % 18446744073709551616 ∧ ts[i] % 18446744073709551616 < 18446744073709551616 := by omega
  generalize ts[i] = t at *
  generalize t % 18446744073709551616 = u at *
  have ha := h.own
  clear h
  generalize (off : Int) + 8 * (i : Int) = z at *
  go_enter Tryz.func21, Tryz.ntmps21
  go_wp2_with fail
  refine alloc1 (P := fun W => Code.wp _ _ _ _ W) fun W0 hb hz K0 => ?_
  have C1 := c3_of hb
  go_region_held3 (fun w' => w'.cell? ⟨w1.heap.size, 0, none⟩ = some (.pointer (some ⟨p, 0, none⟩)) ∧ w'.cell? ⟨w1.heap.size, 1, none⟩ = some (.int .i64 (off : Int)) ∧ w'.cell? ⟨w1.heap.size, 2, none⟩ = some (.int .i64 (D : Int))) (first | exact c3_drew C1 | exact c3_keeps kS id (by assumption) | exact c3_keeps kL id (by assumption) | assumption)
    (first | (go_at_call 35; refine (hA _).mono ?_; rintro r wS ⟨rfl, kS⟩) | (go_at_call 34; have K2 : Keeps w1 wS (fun _ => False) := (K0.drew).trans kS (fun _ _ e => e); refine (hL _ K2).mono ?_; rintro r w2 ⟨rfl, kL⟩))
  have K9 : Hid (Keeps w1 w2 (fun _ => False)) := hide (K2.trans kL (fun _ _ e => e))
  clear kL hL hA
  go_wp2_with fail
  go_ret2
  exact ⟨rfl, K9.out⟩

set_option maxHeartbeats 2000000 in
theorem dstore_t {w w1 : World} {p : Nat} {X : Nat → Prop} {d : AD} {off D : Nat} {ts : List Int} (h : DirO w w1 p X d off D ts) (hX : ∀ k, X k → k < w1.heap.size) (i : Nat) (hi : i < ts.length) (v : Int) (hv : fitsI v) :
    Calls Tryz.prog 27 #[.agg #[.pointer (some ⟨p, 0, none⟩), .int .i64 (off : Int), .int .i64 (D : Int)], .int .i64 (i : Int), .int .i64 v] w1 fun e w' => e = .returned (.int .i64 0) ∧ Turned w1 w' p (fun k => (w.heap.size ≤ k ∧ ¬ X k) ∧ k < w1.heap.size) (d.bytes (splice d.bs (off + 8 * i) (leBytes (u64I v) 8))) := by
  obtain ⟨l1, l2, l3⟩ := h.low
  have hA := fun W => dat_any p off D i W l1 (by omega)
  have hS := fun W (k : Keeps w1 W (fun _ => False)) => astore_any (h.own.here.keeps k (fun _ _ _ e => e)) h.fine ((off : Int) + 8 * (i : Int)) 8 (u64I v) (fitsI_mk (by omega) (by omega)) (fitsI_mk (by omega) (by omega))
  rw [(h.dir.store h.fine hi v).1] at hS
  have hu : IntKind.u64.wrap v = ((u64I v : Nat) : Int) := by rw [u64I_eq, IntKind.wrap_u64]
  generalize d.bytes (splice d.bs (off + 8 * i) (leBytes (u64I v) 8)) = d' at *
  generalize hFF : (fun k => (w.heap.size ≤ k ∧ ¬ X k) ∧ k < w1.heap.size) = F at *
  have hnB : ¬ F w1.heap.size := fun q => by rw [← hFF] at q; exact Nat.lt_irrefl _ q.2
  clear h hFF hX hi
  generalize (off : Int) + 8 * (i : Int) = z at *
  generalize u64I v = u at *
  go_enter Tryz.func27, Tryz.ntmps27
  go_wp2_with fail
  refine alloc1 (P := fun W => Code.wp _ _ _ _ W) fun W0 hb hz K0 => ?_
  have C1 := c3_of hb
  go_region_held3 (fun w' => w'.cell? ⟨w1.heap.size, 0, none⟩ = some (.pointer (some ⟨p, 0, none⟩)) ∧ w'.cell? ⟨w1.heap.size, 1, none⟩ = some (.int .i64 (off : Int)) ∧ w'.cell? ⟨w1.heap.size, 2, none⟩ = some (.int .i64 (D : Int))) (first | exact c3_drew C1 | exact c3_keeps T2.2 hnB (by assumption) | exact c3_keeps kS id (by assumption) | assumption)
    (first | (go_at_call 35; refine (hA _).mono ?_; rintro r wS ⟨rfl, kS⟩) | (go_at_call 41; have K2 : Keeps w1 wS (fun _ => False) := (K0.drew).trans kS (fun _ _ e => e); refine (hS _ K2).mono ?_; rintro r w2 ⟨rfl, T2⟩))
  have T9 : Hid (Turned w1 w2 p F d') := hide (Turned.pre K2 T2)
  clear T2 hS hA
  go_wp2_with fail
  go_ret
  exact ⟨rfl, T9.out⟩
theorem dstore_any {w w1 : World} {p : Nat} {X : Nat → Prop} {d : AD} {off D : Nat} {ts : List Int} (h : DirO w w1 p X d off D ts) (hX : ∀ k, X k → k < w1.heap.size) (i : Nat) (hi : i < ts.length) (v : Int) (hv : fitsI v) :
    Calls Tryz.prog 27 #[.agg #[.pointer (some ⟨p, 0, none⟩), .int .i64 (off : Int), .int .i64 (D : Int)], .int .i64 (i : Int), .int .i64 v] w1 fun e w' => e = .returned (.int .i64 0) ∧ ∃ d', DirO w w' p X d' off D (ts.set i v) ∧ Wr d d' off (8 * ts.length) ∧ Keeps w1 w' (fun k => (w.heap.size ≤ k ∧ ¬ X k) ∧ k < w1.heap.size) := by
  refine (dstore_t h hX i hi v hv).mono ?_
  rintro e w' ⟨rfl, T⟩
  obtain ⟨s1, s2, s3⟩ := h.dir.store h.fine hi v
  have hin := h.dir.in h.fine hi
  have hl := leBytes_length (u64I v) 8
  refine ⟨rfl, _, ⟨h.own.turn T hX, s3, ⟨h.well.rises, h.well.sizes, h.well.most⟩, s2, by rw [List.length_set]; exact h.len, h.dep, fun j hj => ?_⟩, ⟨_, rfl, splice_length (by omega), fun j hj => splice_off (by omega) (by omega)⟩, T.2⟩
  rw [List.length_set] at hj
  rw [List.getElem_set]
  split
  · exact hv
  · exact h.fit j hj
end Go.Proofs.YtdhphakjkgfngaaGreatDoor
/-
  list, twice, Entry, Run, Pick of dir.
-/
namespace Go.Proofs.YtdhphakjkgfngaaGreatDoor
open Go.RowKit Go.Shelf
set_option linter.unusedVariables false

theorem offRow_at {n : Nat} {xs : List Int} (h : xs.length < n) : (offRow n xs)[xs.length]? = some (.int .i64 0) := by
  obtain ⟨m, hm⟩ : ∃ m, n - xs.length = m + 1 := ⟨n - xs.length - 1, by omega⟩
  simp [offRow, hm, List.replicate_succ, cellI]
/-- One number more in a row under way. -/
theorem off_step {w : World} {H n : Nat} {xs : List Int} (h : w.heap[H]? = some (.cells (offRow n xs) 3)) (hk : xs.length < n) (z : Int) :
    w.cell? ⟨H, xs.length, none⟩ = some (.int .i64 0) ∧ w.frozen? ⟨H, xs.length, none⟩ = false ∧ (w.setCell ⟨H, xs.length, none⟩ (.int .i64 z)).heap[H]? = some (.cells (offRow n (xs ++ [z])) 3) := by
  have hz := offRow_at hk
  refine ⟨by simp only [World.cell?, h]; simpa using hz, by simp [World.frozen?, h], ?_⟩
  have hs := setCell_eq_setRow w H xs.length _ 3 (0, 0) (.int .i64 z) h
  rw [hs, heap_setRow_same h]
  have := offRow_set (n := n) (xs := xs) z hk
  rw [← this]
  rfl
theorem off_done {w : World} {H : Nat} {xs : List Int} (h : w.heap[H]? = some (.cells (offRow xs.length xs) 3)) : InZ w (.slice (some ⟨H, 0, none⟩) xs.length xs.length) xs := by
  rw [offRow_full] at h
  refine Or.inr ⟨_, _, rfl, fun j hj => ?_, fun _ => ⟨H, 0, rfl, heap_lt h⟩⟩
  rw [addr_add]
  simp only [World.cell?, h]
  simp [hj, cellI]
theorem Keeps.set0 {w W : World} {b : Nat} (k : Keeps w W (fun _ => False)) (hb : w.heap.size ≤ b) (i : Nat) (v : Value) : Keeps w (W.setCell ⟨b, i, none⟩ v) (fun _ => False) := k.setCell _ (fun h => by have : b < w.heap.size := h; omega) _
theorem take_drop_snoc {ts : List Int} {f k : Nat} (h : f + k < ts.length) : (ts.drop f).take (k + 1) = (ts.drop f).take k ++ [ts[f + k]] := by
  rw [List.take_succ_eq_append_getElem (by rw [List.length_drop]; omega)]
  simp

set_option maxRecDepth 100000 in
set_option maxHeartbeats 2000000 in
theorem dlist_any {w w1 : World} {p : Nat} {X : Nat → Prop} {d : AD} {off D : Nat} {ts : List Int} (h : DirO w w1 p X d off D ts) (f n : Nat) (hfn : f + n ≤ ts.length) :
    Calls Tryz.prog 29 #[.agg #[.pointer (some ⟨p, 0, none⟩), .int .i64 (off : Int), .int .i64 (D : Int)], .int .i64 (f : Int), .int .i64 (n : Int)] w1 fun e w' => ∃ v, e = .returned (.tuple #[v, .int .i64 0]) ∧ InZ w' v ((ts.drop f).take n) ∧ Keeps w1 w' (fun _ => False) := by
  obtain ⟨l1, l2, l3⟩ := h.low
  have hlen : ((ts.drop f).take n).length = n := by rw [List.length_take, List.length_drop]; omega
  have hmk := run_make_ints (P := Tryz.prog) (w1.alloc (.cells #[.pointer (some ⟨p, 0, none⟩), .int .i64 (off : Int), .int .i64 (D : Int)] 26)) 29 Tryz.underlying29 Tryz.infoI n (by omega)
  go_enter Tryz.func29, Tryz.ntmps29
  go_wp2_with fail
  go_loopw [15] (fun vi wr => ∃ k : Nat, vi = .int .i64 (k : Int) ∧ k ≤ n ∧ wr.heap[w1.heap.size]? = some (.cells #[.pointer (some ⟨p, 0, none⟩), .int .i64 (off : Int), .int .i64 (D : Int)] 26) ∧ wr.heap[w1.heap.size + 1]? = some (.cells (offRow n ((ts.drop f).take k)) 3) ∧ Keeps w1 wr (fun _ => False)) (fun vi _ => n - (intOf vi).toNat)
  case atStart =>
    refine ⟨0, rfl, Nat.zero_le _, (Below.heap_alloc _ _ _ (by simp)).trans (heap_alloc_new _ _), ?_, ((Keeps.refl _ _).alloc _).alloc _⟩
    have q := heap_alloc_new (w1.alloc (.cells #[.pointer (some ⟨p, 0, none⟩), .int .i64 (off : Int), .int .i64 (D : Int)] 26)) (.cells (offRow n []) 3)
    rw [List.take_zero]
    simpa using q
  case round =>
    obtain ⟨k, rfl, hk, hb0, hb1, kr⟩ := hrel
    clear hmk
    by_cases hlt : k < n
    · have hlt' : (k : Int) < (n : Int) := by omega
      have hfk : f + k < ts.length := by omega
      have hL := dload_any (h.stay kr) (f + k) hfk
      have hkl : ((ts.drop f).take k).length = k := by rw [List.length_take, List.length_drop]; omega
      have hnext := take_drop_snoc (ts := ts) (f := f) (k := k) (by omega)
      have hst : Hid (∀ w2, Keeps wr w2 (fun _ => False) → w2.cell? ⟨w1.heap.size + 1, k, none⟩ = some (.int .i64 0) ∧ w2.frozen? ⟨w1.heap.size + 1, k, none⟩ = false ∧ ∀ z, z = ts[f + k] → (w2.setCell ⟨w1.heap.size + 1, k, none⟩ (.int .i64 z)).heap[w1.heap.size + 1]? = some (.cells (offRow n ((ts.drop f).take (k + 1))) 3)) := fun w2 k2 => by
        have q := k2.blk hb1
        obtain ⟨s1, s2, _⟩ := off_step q (by omega) 0
        rw [hkl] at s1 s2
        refine ⟨s1, s2, fun z hz => ?_⟩
        have s3 := (off_step q (by omega) z).2.2
        rw [hkl] at s3
        rw [s3, hnext, hz]
      have hd : Hid (∀ w2 v, Keeps wr w2 (fun _ => False) → (w2.setCell ⟨w1.heap.size + 1, k, none⟩ v).heap[w1.heap.size]? = some (.cells #[.pointer (some ⟨p, 0, none⟩), .int .i64 (off : Int), .int .i64 (D : Int)] 26) ∧ Keeps w1 (w2.setCell ⟨w1.heap.size + 1, k, none⟩ v) (fun _ => False)) := fun w2 v k2 => by
        have q := k2.blk hb0
        refine ⟨?_, (kr.trans k2 (fun _ _ e => e)).set0 (by omega) _ _⟩
        exact (((Keeps.refl w2 (fun i => i = w1.heap.size + 1)).setCell ⟨w1.heap.size + 1, k, none⟩ (fun _ => rfl) v).block _ (heap_lt q) (by omega)).trans q
      obtain ⟨⟨c0, c1, c2⟩, _⟩ := three_cells hb0
      rw [show ((f + k : Nat) : Int) = (f : Int) + (k : Int) by omega] at hL
      clear hb0 hb1 hnext
      have ht : Hid (ts[f + k] = ts[f + k]) := rfl
      revert ht hst
      generalize ts[f + k] = t at *
      intro hst ht
      go_wp2_with fail
      (with_reducible refine hL.mono ?_)
      rintro e w2 ⟨rfl, k2⟩
      clear hL
      obtain ⟨s1, s2, s3⟩ := hst.out w2 k2
      have HS := hide (s3 t rfl)
      have HD := hide (hd.out w2 (.int .i64 t) k2)
      clear hst hd s3
      go_wp2_with fail
      go_roundw
      case rel => exact ⟨k + 1, by go_num, by omega, HD.out.1, HS.out, HD.out.2⟩
      case measure => simp [intOf]; omega
    · have hlt' : ¬ (k : Int) < (n : Int) := by omega
      obtain rfl : k = n := by omega
      have hfin : Hid (InZ wr (.slice (some ⟨w1.heap.size + 1, 0, none⟩) k k) ((ts.drop f).take k)) := by
        have hb2 := hb1
        have hz := off_done (w := wr) (H := w1.heap.size + 1) (xs := (ts.drop f).take k) (by rw [hlen]; exact hb2)
        rw [hlen] at hz
        exact hz
      clear hb0 hb1
      go_wp2_with fail
      go_ret2
      exact ⟨_, rfl, hfin.out, kr⟩

/-- Each of them two times in a row. -/
def dbl (ts : List Int) : List Int := (List.range (2 * ts.length)).map fun i => ts.getD (i / 2) 0
theorem dbl_length (ts : List Int) : (dbl ts).length = 2 * ts.length := by simp [dbl]
theorem dbl_get {ts : List Int} {i : Nat} (h : i < (dbl ts).length) : (dbl ts)[i] = ts[i / 2]'(by rw [dbl_length] at h; omega) := by
  have h2 := h
  rw [dbl_length] at h2
  simp only [dbl, List.getElem_map, List.getElem_range]
  rw [List.getD_eq_getElem?_getD, List.getElem?_eq_getElem (by omega)]
  rfl
theorem dbl_take {ts : List Int} {k : Nat} (h : k < 2 * ts.length) : (dbl ts).take (k + 1) = (dbl ts).take k ++ [ts[k / 2]'(by omega)] := by
  rw [List.take_succ_eq_append_getElem (by rw [dbl_length]; exact h), dbl_get]

set_option maxRecDepth 100000 in
set_option maxHeartbeats 2000000 in
theorem twice_any {w1 : World} {v : Value} {ts : List Int} (h : InZ w1 v ts) (hn : ts.length ≤ 64) :
    Calls Tryz.prog 31 #[v] w1 fun e w' => e = .returned (.slice (some ⟨w1.heap.size, 0, none⟩) (2 * ts.length) (2 * ts.length)) ∧ InZ w' (.slice (some ⟨w1.heap.size, 0, none⟩) (2 * ts.length) (2 * ts.length)) (dbl ts) ∧ Keeps w1 w' (fun _ => False) ∧ w1.heap.size < w'.heap.size := by
  obtain ⟨so, cap, rfl, hc⟩ := h.form
  have hlen := dbl_length ts
  have hmk := run_make_ints (P := Tryz.prog) w1 29 Tryz.underlying29 Tryz.infoI (2 * ts.length) (by omega)
  have e2 : ((2 * ts.length : Nat) : Int) = 2 * (ts.length : Int) := by omega
  rw [e2] at hmk
  go_enter Tryz.func31, Tryz.ntmps31
  go_wp2_with fail
  go_loopw [11] (fun vi wr => ∃ k : Nat, vi = .int .i64 (k : Int) ∧ k ≤ 2 * ts.length ∧ wr.heap[w1.heap.size]? = some (.cells (offRow (2 * ts.length) ((dbl ts).take k)) 3) ∧ Keeps w1 wr (fun _ => False)) (fun vi _ => 2 * ts.length - (intOf vi).toNat)
  case atStart => exact ⟨0, rfl, Nat.zero_le _, heap_alloc_new _ _, (Keeps.refl _ _).alloc _⟩
  case round =>
    obtain ⟨k, rfl, hk, hb, kr⟩ := hrel
    clear hmk
    by_cases hlt : k < 2 * ts.length
    · have hlt' : (k : Int) < 2 * (ts.length : Int) := by omega
      have hm : k / 2 < ts.length := by omega
      obtain ⟨b, o, rfl, hcell⟩ := hc (k / 2) hm
      replace hcell := kr.cellK hcell
      have hkl : ((dbl ts).take k).length = k := by rw [List.length_take]; omega
      have hnext := dbl_take hlt
      obtain ⟨s1, s2, _⟩ := off_step hb (by omega) 0
      rw [hkl] at s1 s2
      have s3 : Hid ((wr.setCell ⟨w1.heap.size, k, none⟩ (.int .i64 ts[k / 2])).heap[w1.heap.size]? = some (.cells (offRow (2 * ts.length) ((dbl ts).take (k + 1))) 3)) := by
        have := (off_step hb (by omega) ts[k / 2]).2.2
        rw [hkl] at this
        show _ = _
        rw [this, hnext]
      have q1 : (k : Int) / 2 = ((k / 2 : Nat) : Int) := by omega
      have q2 : (k : Int).tdiv 2 = ((k / 2 : Nat) : Int) := by rw [Int.tdiv_eq_ediv_of_nonneg (by omega)]; exact q1
      have q3 : ((k / 2 : Nat) : Int) ≤ 63 := by omega
      have q4 : ((k / 2 : Nat) : Int) < (ts.length : Int) := by omega
      have kS : Hid (Keeps w1 (wr.setCell ⟨w1.heap.size, k, none⟩ (.int .i64 ts[k / 2])) (fun _ => False)) := kr.set0 (by omega) _ _
      clear hc hnext hkl hb h
      generalize ts[k / 2] = t at *
      generalize k / 2 = m at *
      go_wp2_with fail
      go_roundw
      case rel => exact ⟨k + 1, by go_num, by omega, s3.out, kS.out⟩
      case measure => simp [intOf]; omega
    · have hlt' : ¬ (k : Int) < 2 * (ts.length : Int) := by omega
      obtain rfl : k = 2 * ts.length := by omega
      have hfin : Hid (InZ wr (.slice (some ⟨w1.heap.size, 0, none⟩) (2 * ts.length) (2 * ts.length)) (dbl ts)) := by
        rw [List.take_of_length_le (by omega)] at hb
        have hz := off_done (w := wr) (H := w1.heap.size) (xs := dbl ts) (by rw [hlen]; exact hb)
        rw [hlen] at hz
        exact hz
      have hbs := heap_lt hb
      rw [e2] at *
      clear hc hb h
      go_wp2_with fail
      go_ret
      exact ⟨rfl, hfin.out, kr, hbs⟩

/-- What Entry answers. -/
def entV (ts : List Int) (i : Int) : Int × Int := if 0 ≤ i ∧ i < (ts.length : Int) then (ts.getD i.toNat 0, 0) else (0, 101)
set_option maxHeartbeats 2000000 in
theorem dentry_any {w w1 : World} {p : Nat} {X : Nat → Prop} {d : AD} {off D : Nat} {ts : List Int} (h : DirO w w1 p X d off D ts) (i : Int) :
    Calls Tryz.prog 18 #[.agg #[.pointer (some ⟨p, 0, none⟩), .int .i64 (off : Int), .int .i64 (D : Int)], .int .i64 i] w1 fun e w' => e = .returned (.tuple #[.int .i64 (entV ts i).1, .int .i64 (entV ts i).2]) ∧ Keeps w1 w' (fun _ => False) := by
  have hV := fun W => dvalid_any p off D W h.dep
  have hH := fun W => dhas_any p off D i W h.dep
  have hl := h.len
  rw [← hl] at hH
  have C0 : Hid (C3 (w1.alloc (.cells #[.pointer (some ⟨p, 0, none⟩), .int .i64 (off : Int), .int .i64 (D : Int)] 26)) w1.heap.size p off D) := c3_of (heap_alloc_new _ _)
  have K0 : Keeps w1 (w1.alloc (.cells #[.pointer (some ⟨p, 0, none⟩), .int .i64 (off : Int), .int .i64 (D : Int)] 26)) (fun _ => False) := (Keeps.refl _ _).alloc _
  unfold entV
  by_cases hi : 0 ≤ i ∧ i < (ts.length : Int)
  · obtain ⟨m, rfl⟩ := Int.eq_ofNat_of_zero_le hi.1
    have hm : m < ts.length := by omega
    have hL := fun W (k : Keeps w1 W (fun _ => False)) => dload_any (h.stay k) m hm
    have eg : ts.getD m 0 = ts[m] := by rw [List.getD_eq_getElem?_getD, List.getElem?_eq_getElem hm]; rfl
    rw [if_pos hi]
    simp only [Int.toNat_natCast, eg]
    rw [decide_eq_true hi] at hH
    clear eg h
    generalize ts[m] = t at *
    go_enter Tryz.func18, Tryz.ntmps18
    go_wp2_with fail
    (with_reducible refine (hV _).mono ?_)
    rintro e w2 ⟨rfl, k2⟩
    have D2 := c3_keeps k2 id C0.out
    obtain ⟨c0, c1, c2⟩ := D2
    clear hV
    go_wp2_with fail
    (with_reducible refine (hH _).mono ?_)
    rintro e w3 ⟨rfl, k3⟩
    have D3 := c3_keeps k3 id (show C3 w2 w1.heap.size p off D from ⟨c0, c1, c2⟩)
    clear c0 c1 c2 hH
    obtain ⟨c0, c1, c2⟩ := D3
    have K3 : Keeps w1 w3 (fun _ => False) := (K0.trans k2 (fun _ _ e => e)).trans k3 (fun _ _ e => e)
    go_wp2_with fail
    (with_reducible refine (hL _ K3).mono ?_)
    rintro e w4 ⟨rfl, k4⟩
    have K4 : Hid (Keeps w1 w4 (fun _ => False)) := K3.trans k4 (fun _ _ e => e)
    clear hL k4 K3 c0 c1 c2 k2 k3
    go_wp2_with fail
    go_ret2
    exact ⟨rfl, K4.out⟩
  · rw [if_neg hi]
    rw [decide_eq_false hi] at hH
    clear h
    go_enter Tryz.func18, Tryz.ntmps18
    go_wp2_with fail
    (with_reducible refine (hV _).mono ?_)
    rintro e w2 ⟨rfl, k2⟩
    have D2 := c3_keeps k2 id C0.out
    obtain ⟨c0, c1, c2⟩ := D2
    clear hV
    go_wp2_with fail
    (with_reducible refine (hH _).mono ?_)
    rintro e w3 ⟨rfl, k3⟩
    have K3 : Hid (Keeps w1 w3 (fun _ => False)) := (K0.trans k2 (fun _ _ e => e)).trans k3 (fun _ _ e => e)
    clear c0 c1 c2 hH k2 k3
    go_wp2_with fail
    go_ret2
    exact ⟨rfl, K3.out⟩
end Go.Proofs.YtdhphakjkgfngaaGreatDoor
/-
  The parts of a hash as numbers.
-/
namespace Go.Proofs.YtdhphakjkgfngaaGreatDoor

def bitN (h : Nat) (d : Int) : Nat := if 0 ≤ d ∧ d < 64 then h / 2 ^ (63 - d.toNat) % 2 else 0
def topN (h : Nat) (d : Int) : Nat := if 1 ≤ d ∧ d ≤ 6 then h / 2 ^ (64 - d.toNat) else 0
/-- The first i bits from the highest on. -/
def headN (h i : Nat) : Nat := h / 2 ^ (64 - i)
theorem bitN_lt (h : Nat) (d : Int) : bitN h d < 2 := by
  unfold bitN
  split
  · exact Nat.mod_lt _ (by decide)
  · decide
theorem headN_zero {h : Nat} (hh : h < 18446744073709551616) : headN h 0 = 0 := by
  unfold headN
  exact Nat.div_eq_of_lt hh
theorem headN_all (h : Nat) : headN h 64 = h := by
  unfold headN
  simp
theorem headN_succ (h i : Nat) (hi : i < 64) : headN h (i + 1) = 2 * headN h i + bitN h (i : Int) := by
  unfold headN bitN
  rw [if_pos ⟨by omega, by omega⟩, Int.toNat_natCast]
  have e : 64 - i = (63 - i) + 1 := by omega
  have e2 : 64 - (i + 1) = 63 - i := by omega
  rw [e2, e, Nat.pow_succ, ← Nat.div_div_eq_div_mul]
  omega
theorem headN_lt (h i : Nat) (hh : h < 18446744073709551616) (hi : i ≤ 64) : headN h i < 2 ^ i := by
  unfold headN
  rw [Nat.div_lt_iff_lt_mul (Nat.two_pow_pos _), ← Nat.pow_add, show i + (64 - i) = 64 by omega]
  exact hh
theorem topN_head (h : Nat) (i : Nat) (hh : h < 18446744073709551616) (hi : i ≤ 6) : topN h (i : Int) = headN h i := by
  unfold topN
  by_cases h0 : i = 0
  · subst h0
    rw [headN_zero hh]
    rfl
  · rw [if_pos ⟨by omega, by omega⟩, Int.toNat_natCast]
    rfl
theorem topN_lt (h : Nat) (d : Int) (hh : h < 18446744073709551616) : topN h d < 64 := by
  unfold topN
  split
  · rename_i hd
    obtain ⟨d1, d6⟩ := hd
    have := headN_lt h d.toNat hh (by omega)
    unfold headN at this
    have h2 : (2 : Nat) ^ d.toNat ≤ 2 ^ 6 := Nat.pow_le_pow_right (by decide) (by omega)
    omega
  · decide
/-- The highest bit dropped i times. -/
def dropN (h i : Nat) : Nat := h * 2 ^ i % 18446744073709551616
theorem dropN_zero {h : Nat} (hh : h < 18446744073709551616) : dropN h 0 = h := by
  unfold dropN
  rw [Nat.pow_zero, Nat.mul_one, Nat.mod_eq_of_lt hh]
theorem dropN_succ (h i : Nat) : dropN h (i + 1) = dropN h i % 9223372036854775808 * 2 := by
  unfold dropN
  rw [Nat.pow_succ, ← Nat.mul_assoc]
  omega
theorem dropN_lt (h i : Nat) : dropN h i < 18446744073709551616 := Nat.mod_lt _ (by decide)
theorem dropN_bit (h i : Nat) (hi : i < 64) : dropN h i / 9223372036854775808 = bitN h (i : Int) := by
  unfold dropN bitN
  rw [if_pos ⟨by omega, by omega⟩, Int.toNat_natCast]
  have e : (18446744073709551616 : Nat) = 9223372036854775808 * 2 := by decide
  rw [e, Nat.mod_mul_right_div_self]
  have e2 : (9223372036854775808 : Nat) = 2 ^ (63 - i) * 2 ^ i := by
    rw [← Nat.pow_add, show 63 - i + i = 63 by omega]
  rw [e2, Nat.mul_div_mul_right _ _ (Nat.two_pow_pos _)]
end Go.Proofs.YtdhphakjkgfngaaGreatDoor
/-
  The parts of a hash: Tag, Home, Top, Bit.
-/
namespace Go.Proofs.YtdhphakjkgfngaaGreatDoor
open Go.RowKit
set_option linter.unusedVariables false

theorem u64_nat {n : Int} (h : (Lit.int .u64 n).wf = true) : ∃ m : Nat, n = (m : Int) ∧ m < 18446744073709551616 := by
  have h2 : 0 ≤ n ∧ n < 18446744073709551616 := by
    have e1 : IntKind.u64.min = 0 := rfl
    have e2 : IntKind.u64.max = 18446744073709551615 := rfl
    simp only [Lit.wf, decide_eq_true_eq, Bool.and_eq_true] at h
    rw [e1, e2] at h
    omega
  exact ⟨n.toNat, by omega, by omega⟩

set_option maxHeartbeats 400000 in
theorem top_in (h d : Nat) (R : Int) (hh : h < 18446744073709551616) (h1 : 1 ≤ d) (h6 : d ≤ 6) (hx : wrap64 ((h : Int) / 2 ^ (64 - d)) = R) (w : World) :
    Calls Tryz.prog 17 #[.int .u64 (h : Int), .int .i64 (d : Int)] w fun e w' => e = .returned (.int .i64 R) ∧ w' = w := by
  have a1 : ¬ (d : Int) < 1 := by omega
  have a2 : ¬ 6 < (d : Int) := by omega
  go_enter Tryz.func17, Tryz.ntmps17
  go_wp2_with fail
  go_ret
  exact ⟨rfl, rfl⟩

set_option maxHeartbeats 400000 in
theorem top_out (h : Nat) (d : Int) (hd : d < 1 ∨ 6 < d) (w : World) :
    Calls Tryz.prog 17 #[.int .u64 (h : Int), .int .i64 d] w fun e w' => e = .returned (.int .i64 0) ∧ w' = w := by
  by_cases h1 : d < 1
  · clear hd
    go_enter Tryz.func17, Tryz.ntmps17
    go_wp2_with fail
    go_ret
    exact ⟨rfl, rfl⟩
  · have h6 : 6 < d := hd.resolve_left h1
    clear hd
    go_enter Tryz.func17, Tryz.ntmps17
    go_wp2_with fail
    go_ret
    exact ⟨rfl, rfl⟩

theorem top_any (h : Nat) (d : Int) (hh : h < 18446744073709551616) (w : World) :
    Calls Tryz.prog 17 #[.int .u64 (h : Int), .int .i64 d] w fun e w' => e = .returned (.int .i64 ((topN h d : Nat) : Int)) ∧ w' = w := by
  by_cases hd : 1 ≤ d ∧ d ≤ 6
  · obtain ⟨d1, d6⟩ := hd
    obtain ⟨D, rfl⟩ : ∃ D : Nat, d = (D : Int) := ⟨d.toNat, by omega⟩
    refine top_in h D _ hh (by omega) (by omega) ?_ w
    have hlt := topN_lt h (D : Int) hh
    have e : topN h (D : Int) = h / 2 ^ (64 - D) := by unfold topN; rw [if_pos ⟨d1, d6⟩, Int.toNat_natCast]
    rw [e] at hlt
    rw [e, Int.natCast_ediv, Int.natCast_pow]
    have e2 : (h : Int) / ((2 : Nat) : Int) ^ (64 - D) = ((h / 2 ^ (64 - D) : Nat) : Int) := by rw [Int.natCast_ediv, Int.natCast_pow]
    show wrap64 ((h : Int) / ((2 : Nat) : Int) ^ (64 - D)) = (h : Int) / ((2 : Nat) : Int) ^ (64 - D)
    rw [e2]
    unfold wrap64
    omega
  · have e : topN h d = 0 := by unfold topN; rw [if_neg hd]
    rw [e]
    exact top_out h d (by omega) w
end Go.Proofs.YtdhphakjkgfngaaGreatDoor
