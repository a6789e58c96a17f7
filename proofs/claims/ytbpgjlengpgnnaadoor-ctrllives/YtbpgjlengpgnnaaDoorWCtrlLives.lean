import Derived.Test.YtbpgjlengpgnnaaDoorC3
import Derived.Deep.LoopGhost
import Derived.Deep.DeepCutAuto
import Derived.Deep.CutBlock
namespace Go.Proofs.YtbpgjlengpgnnaaDoor
open Go.RowKit
namespace ctrlLives
set_option linter.unusedVariables false

def Post (w : World) (e : Ending) (w' : World) : Prop := e = .returned (.bool true) ∧ Below w.heap.size w w'

/-- What the statement's own cell holds beside a byte. -/
def clV (x : Nat) : Int := if x < 128 then (x : Int) else if x = 128 then -1 else -2
def Good (W : Nat) : Prop := ∀ k, k < 8 → byN W k < 128 ∨ byN W k = 128 ∨ byN W k = 254
/-- Eight numbers in a block of their own. -/
def Cells (w : World) (b : Nat) (f : Nat → Int) : Prop := ∀ k, k < 8 → w.cell? ⟨b, k, none⟩ = some (.int .i64 (f k)) ∧ w.frozen? ⟨b, k, none⟩ = false
theorem Kp.frozen {w w1 : World} (h : Kp w w1) {p : Addr} {v : Value} (hp : w.cell? p = some v) (hf : w.frozen? p = false) : w1.frozen? p = false := by
  have : p.block < w.heap.size := by
    refine Nat.lt_of_not_le fun hn => ?_
    rw [World.cell?, Array.getElem?_eq_none hn] at hp
    cases hp
  exact (Below.frozen h this).trans hf
theorem Cells.kp {w w' : World} {b : Nat} {f : Nat → Int} (h : Cells w b f) (k : Kp w w') : Cells w' b f := fun i hi => ⟨k.cell (h i hi).1, Kp.frozen k (h i hi).1 (h i hi).2⟩
theorem Cells.set {w : World} {b : Nat} {f : Nat → Int} (h : Cells w b f) {k : Nat} (hk : k < 8) (v : Int) : Cells (w.setCell ⟨b, k, none⟩ (.int .i64 v)) b (fun j => if j = k then v else f j) := by
  intro j hj
  refine ⟨?_, by rw [World.frozen?_setCell]; exact (h j hj).2⟩
  by_cases e : j = k
  · subst e
    rw [World.cell?_setCell_same _ _ _ (h j hj).1]
    simp
  · rw [World.cell?_setCell_other _ _ _ _ (by intro q; injection q with _ q; exact e q.symm), (h j hj).1]
    simp [e]
theorem Cells.ext {w : World} {b : Nat} {f g : Nat → Int} (h : Cells w b f) (e : ∀ k, k < 8 → f k = g k) : Cells w b g := fun k hk => by rw [← e k hk]; exact h k hk

structure TurnD where
  kind : Int
  tag : Int
  i : Int
/-- A row of steps. -/
def RowT (w : World) (a : Option Addr) (qs : List TurnD) : Prop :=
  ∀ j (hj : j < qs.length), ∃ b o, a = some ⟨b, o, none⟩ ∧ w.cell? ⟨b, o + j * 3, none⟩ = some (.int .i64 qs[j].kind) ∧ w.cell? ⟨b, o + j * 3 + 1, none⟩ = some (.int .i64 qs[j].tag) ∧ w.cell? ⟨b, o + j * 3 + 2, none⟩ = some (.int .i64 qs[j].i)

theorem cells_new (w : World) (T : TypeId) : Cells (w.alloc (Obj.cells #[Value.int IntKind.i64 0, Value.int IntKind.i64 0, Value.int IntKind.i64 0, Value.int IntKind.i64 0, Value.int IntKind.i64 0, Value.int IntKind.i64 0, Value.int IntKind.i64 0, Value.int IntKind.i64 0] T)) w.heap.size (fun k => if k < 0 then -1 else 0) := by
  have h0 := heap_new w (Obj.cells #[Value.int IntKind.i64 0, Value.int IntKind.i64 0, Value.int IntKind.i64 0, Value.int IntKind.i64 0, Value.int IntKind.i64 0, Value.int IntKind.i64 0, Value.int IntKind.i64 0, Value.int IntKind.i64 0] T)
  generalize w.alloc (Obj.cells #[Value.int IntKind.i64 0, Value.int IntKind.i64 0, Value.int IntKind.i64 0, Value.int IntKind.i64 0, Value.int IntKind.i64 0, Value.int IntKind.i64 0, Value.int IntKind.i64 0, Value.int IntKind.i64 0] T) = w' at *
  intro k hk
  rcases (by omega : k = 0 ∨ k = 1 ∨ k = 2 ∨ k = 3 ∨ k = 4 ∨ k = 5 ∨ k = 6 ∨ k = 7) with rfl | rfl | rfl | rfl | rfl | rfl | rfl | rfl <;> simp [World.cell?, World.frozen?, h0]

/-- The word beside the cells. -/
structure Side (w0 : World) (b W : Nat) (w : World) : Prop where
  lt : W < 18446744073709551616
  good : Good W
  cells : Cells w b (fun k => clV (byN W k))
  tab : TabAt w
  kp : Kp w0 w
theorem Side.call {w0 w w' : World} {b W : Nat} (h : Side w0 b W w) (k : Kp w w') : Side w0 b W w' := ⟨h.lt, h.good, h.cells.kp k, h.tab.kp k, h.kp.trans k⟩

theorem three_cells {w : World} {b : Nat} {v0 v1 v2 : Value} {t : TypeId} (h : w.heap[b]? = some (.cells #[v0, v1, v2] t)) : w.cell? ⟨b, 0, none⟩ = some v0 ∧ w.cell? ⟨b, 1, none⟩ = some v1 ∧ w.cell? ⟨b, 2, none⟩ = some v2 := by
  simp [World.cell?, h]
theorem cnt_good {W : Nat} (h : Good W) : cntM (mk (fun x => decide (x < 128)) W) + cntM (mk (fun x => x == 128 || x == 254) W) = 8 := by
  rw [cntM_mk, cntM_mk, sum8_add]
  have e : ∀ i, i < 8 → (decide (byN W i < 128)).toNat + (byN W i == 128 || byN W i == 254).toNat = 1 := by
    intro i hi
    have := h i hi
    generalize byN W i = x at *
    rcases this with hx | rfl | rfl
    · rw [decide_eq_true hx, beq_eq_false_iff_ne.2 (by omega), beq_eq_false_iff_ne.2 (by omega)]
      rfl
    · rfl
    · rfl
  unfold sum8
  dsimp only
  rw [e 0 (by decide), e 1 (by decide), e 2 (by decide), e 3 (by decide), e 4 (by decide), e 5 (by decide), e 6 (by decide), e 7 (by decide)]
theorem firM_is : ∀ m, m < 256 → ∀ p, p ≤ 8 → (∀ k, k < p → m / 2 ^ k % 2 = 0) → (p < 8 → m / 2 ^ p % 2 = 1) → firM m = p := by decide +kernel
theorem good_set {W k c : Nat} (h : Good W) (hc : c < 128 ∨ c = 128 ∨ c = 254) : Good (setN W k c) := by
  intro j hj
  rw [byN_setN _ _ _ (by omega) hj]
  split
  · exact hc
  · exact h j hj
theorem one (W i : Nat) (p : Nat → Bool) (hi : i < 8) : HasIs ((spread (mk p W) : Nat) : Int) (i : Int) (p (byN W i)) := Or.inl ⟨mk p W, i, rfl, rfl, hi, (hasM_mk p W hi).symm⟩

set_option maxRecDepth 100000 in
set_option maxHeartbeats 8000000 in
theorem core (a : Option Addr) (cap : Nat) (qs : List TurnD) (w : World) (hT : TabAt w) (hq : RowT w a qs) (hl : qs.length ≤ 9223372036854775807) :
    Calls Tryd.prog 3 #[.slice a qs.length cap] w (Post w) := by
  go_enter Tryd.func3, Tryd.ntmps3
  go_wp2_with fail
  refine (empty_any _).mono ?_
  rintro e w1 ⟨rfl, rfl⟩
  go_wp2_with fail
  have hC := cells_new w1 25
  have kk : Kp w1 (w1.alloc (Obj.cells #[Value.int IntKind.i64 0, Value.int IntKind.i64 0, Value.int IntKind.i64 0, Value.int IntKind.i64 0, Value.int IntKind.i64 0, Value.int IntKind.i64 0, Value.int IntKind.i64 0, Value.int IntKind.i64 0] 25)) := (Kp.refl _).alloc _
  generalize (w1.alloc (Obj.cells #[Value.int IntKind.i64 0, Value.int IntKind.i64 0, Value.int IntKind.i64 0, Value.int IntKind.i64 0, Value.int IntKind.i64 0, Value.int IntKind.i64 0, Value.int IntKind.i64 0, Value.int IntKind.i64 0] 25)) = w2 at *
  have hb : w1.heap.size ≤ w1.heap.size := Nat.le_refl _
  obtain ⟨B, hBe⟩ : ∃ B, B = w1.heap.size := ⟨_, rfl⟩
  rw [← hBe] at hC
  rw [← hBe]
  have hb : w1.heap.size ≤ B := Nat.le_of_eq hBe.symm
  clear hBe
  go_loopg [5] 8 (fun g vi wr => ∃ i : Nat, g = 8 - i ∧ vi = .int .i64 (i : Int) ∧ i ≤ 8 ∧ Cells wr B (fun k => if k < i then -1 else 0) ∧ Kp w1 wr)
  case atStart => exact ⟨0, rfl, rfl, by decide, hC, kk⟩
  case round =>
    clear hC kk
    obtain ⟨i, rfl, rfl, hi, hC, kk⟩ := hrel
    by_cases hlt : i < 8
    · have hlt' : (i : Int) < 8 := by omega
      obtain ⟨c1, c2⟩ := hC i hlt
      have hA : Aside (Cells wr B (fun k => if k < i then -1 else 0)) := hC
      clear hC
      go_wp2_with fail
      go_roundg (8 - (i + 1))
      case measure => omega
      case rel =>
        refine ⟨i + 1, rfl, by simp, by omega, (hA.out.set hlt (-1)).ext fun k hk => ?_, Below.setCell kk hb _⟩
        by_cases e : k = i
        · subst e
          simp
        · simp only [e, if_false]
          by_cases e2 : k < i
          · rw [if_pos e2, if_pos (by omega)]
          · rw [if_neg e2, if_neg (by omega)]
    · have hlt' : ¬ (i : Int) < 8 := by omega
      have hS : Side w1 B 9259542123273814144 wr := by
        refine ⟨by decide, fun k hk => Or.inr (Or.inl (highs_by hk)), hC.ext fun k hk => ?_, hT.kp kk, kk⟩
        rw [highs_by hk, if_pos (by omega)]
        rfl
      clear hC kk hlt hi
      go_wp2_with fail
      go_loopg [3, 23] qs.length (fun g vw vj wx => ∃ j : Nat, g = qs.length - j ∧ j ≤ qs.length ∧ vj = .int .i64 (j : Int) ∧ ∃ W : Nat, vw = .int .u64 (W : Int) ∧ Side w1 B W wx)
      case atStart => exact ⟨0, rfl, Nat.zero_le _, rfl, _, rfl, hS⟩
      case round =>
        clear hS hlt'
        obtain ⟨j, rfl, hj, rfl, W, rfl, hS⟩ := hrel
        by_cases hjl : j < qs.length
        · have hjl' : (j : Int) < (qs.length : Int) := by omega
          obtain ⟨bq, oq, rfl, r0, r1, r2⟩ := hq j hjl
          replace r0 := hS.kp.cell r0
          replace r1 := hS.kp.cell r1
          replace r2 := hS.kp.cell r2
          go_upto_block 4 with fail
          have hB := heap_new wr (Obj.cells #[Value.int IntKind.i64 qs[j].kind, Value.int IntKind.i64 qs[j].tag, Value.int IntKind.i64 qs[j].i] 27)
          have hS0 := hS
          replace hS := hS.call ((Kp.refl _).alloc (Obj.cells #[Value.int IntKind.i64 qs[j].kind, Value.int IntKind.i64 qs[j].tag, Value.int IntKind.i64 qs[j].i] 27))
          clear r0 r1 r2
          generalize wr.alloc (Obj.cells #[Value.int IntKind.i64 qs[j].kind, Value.int IntKind.i64 qs[j].tag, Value.int IntKind.i64 qs[j].i] 27) = w3 at *
          have hne : B ≠ wr.heap.size := fun q => by
            have := (hS0.cells 0 (by decide)).1
            rw [World.cell?, Array.getElem?_eq_none (show wr.heap.size ≤ B from Nat.le_of_eq q.symm)] at this
            cases this
          clear hS0
          generalize wr.heap.size = Bo at *
          generalize qs[j].kind = kd at *
          generalize qs[j].tag = tg at *
          generalize qs[j].i = ii at *
          obtain ⟨ck, co, ci⟩ := three_cells hB
          clear hB
          go_cut [3] (fun s3 wx => ∃ W : Nat, s3 = .int .u64 (W : Int) ∧ Side w1 B W wx ∧ wx.cell? ⟨Bo, 1, none⟩ = some (.int .i64 tg))
          case first => as_aux_lemma =>
            by_cases hk1 : kd = 1
            · subst hk1
              by_cases ht0 : tg < 0
              · go_wp2_with fail
                go_meet
                case rel => exact ⟨W, rfl, hS, co⟩
              · by_cases ht7 : 127 < tg
                · go_wp2_with fail
                  go_meet
                  case rel => exact ⟨W, rfl, hS, co⟩
                · have ht0' : 0 ≤ tg := by omega
                  have ht7' : tg ≤ 127 := by omega
                  as_aux_lemma =>
                    go_wp2_with fail
                    go_loopg [8] 8 (fun g va wx => ∃ p : Nat, g = 8 - p ∧ va = .int .i64 (p : Int) ∧ p ≤ 8 ∧ (∀ k, k < p → byN W k < 128) ∧ Side w1 B W wx ∧ wx.cell? ⟨Bo, 1, none⟩ = some (.int .i64 tg))
                    case atStart => exact ⟨0, rfl, rfl, by decide, fun k hk => absurd hk (Nat.not_lt_zero _), hS, co⟩
                    case round =>
                      clear hS co ck ci
                      obtain ⟨p, rfl, rfl, hp, hlow, hS, co⟩ := hrel
                      by_cases hp8 : p < 8
                      · have hp8' : (p : Int) < 8 := by omega
                        have c1 : wr.cell? ⟨B, p, none⟩ = some (.int .i64 (clV (byN W p))) := (hS.cells p hp8).1
                        have hgd := hS.good p hp8
                        by_cases hx : byN W p < 128
                        · rw [show clV (byN W p) = ((byN W p : Nat) : Int) from if_pos hx] at c1
                          have hA : Aside (∀ k, k < p + 1 → byN W k < 128) := fun k hk => by
                            rcases Nat.lt_succ_iff_lt_or_eq.1 hk with h | rfl
                            · exact hlow k h
                            · exact hx
                          clear hlow hx hgd
                          generalize byN W p = X at *
                          go_wp2_with fail
                          go_roundg (8 - (p + 1))
                          case measure => omega
                          case rel => exact ⟨p + 1, rfl, by simp, by omega, hA.out, hS, co⟩
                        · have hneg : clV (byN W p) < 0 := by
                            unfold clV
                            rw [if_neg hx]
                            split <;> decide
                          generalize clV (byN W p) = cv at *
                          have hp0 : ∀ k, k < p → mk (fun x => x == 128 || x == 254) W / 2 ^ k % 2 = 0 := fun k hk => by
                            rw [mk_bit _ _ (by omega)]
                            have := hlow k hk
                            rw [beq_eq_false_iff_ne.2 (by omega), beq_eq_false_iff_ne.2 (by omega)]
                            rfl
                          have f1 : FirstIs ((spread (mk (fun x => x == 128 || x == 254) W) : Nat) : Int) (p : Int) := ⟨_, mk_lt _ _, rfl, by rw [firM_is _ (mk_lt _ _) p (by omega) hp0 (fun _ => by rw [mk_bit _ _ hp8]; rcases hgd with h | h | h; exact absurd h hx; rw [h]; rfl; rw [h]; rfl)]⟩
                          have q2 : VacantIs (W : Int) _ := ⟨W, hS.lt, rfl, rfl⟩
                          generalize spread (mk (fun x => x == 128 || x == 254) W) = z2 at *
                          clear hp0
                          go_wp2_with fail
                          refine (vacant_is q2 _).mono ?_
                          rintro e w5 ⟨rfl, k5⟩
                          replace hS := hS.call k5
                          replace co := k5.cell co
                          clear k5
                          go_wp2_with fail
                          refine (first_is f1 hS.tab).mono ?_
                          rintro e w6 ⟨rfl, k5⟩
                          replace hS := hS.call k5
                          replace co := k5.cell co
                          clear k5
                          have d1 := (hS.cells p hp8).1
                          have d2 := (hS.cells p hp8).2
                          have co2 : ∀ (k : Nat) (v : Value), (w6.setCell ⟨B, k, none⟩ v).cell? ⟨Bo, 1, none⟩ = some (.int .i64 tg) := fun k v => by rw [World.cell?_setCell_other _ _ _ _ (by intro q; injection q with q; exact hne q)]; exact co
                          have hp8' : (p : Int) < 8 := by omega
                          obtain ⟨T, rfl⟩ : ∃ T : Nat, tg = (T : Int) := ⟨tg.toNat, by omega⟩
                          have q3 : SetIs (W : Int) (p : Int) (T : Int) ((setN W p T : Nat) : Int) := ⟨W, hS.lt, rfl, by rw [putN, if_pos ⟨by omega, by omega, by omega, by omega⟩, Int.toNat_natCast, Int.toNat_natCast]⟩
                          clear hlow hx hgd
                          go_wp2_with fail
                          refine (set_is q3 _).mono ?_
                          rintro e w7 ⟨rfl, k5⟩
                          have kk := (Below.setCell hS.kp hb (p := ⟨B, p, none⟩) (.int .i64 (T : Int)))
                          have hC := (hS.cells.set (k := p) hp8 (T : Int)).kp k5
                          replace kk := Kp.trans kk k5
                          replace co := k5.cell (co2 p (.int .i64 (T : Int)))
                          go_wp2_with fail
                          go_meet
                          case rel =>
                            refine ⟨_, rfl, ⟨setN_lt _ _ _ (by omega), good_set hS.good (Or.inl (by omega)), hC.ext fun j hj => ?_, hT.kp kk, kk⟩, co⟩
                            rw [byN_setN _ _ _ (by omega) hj]
                            by_cases e : j = p
                            · rw [if_pos e, if_pos e]
                              exact ((if_pos (by omega)).symm)
                            · rw [if_neg e, if_neg e]
                      · have hp8' : ¬ (p : Int) < 8 := by omega
                        have hp0 : ∀ k, k < p → mk (fun x => x == 128 || x == 254) W / 2 ^ k % 2 = 0 := fun k hk => by
                          rw [mk_bit _ _ (by omega)]
                          have := hlow k hk
                          rw [beq_eq_false_iff_ne.2 (by omega), beq_eq_false_iff_ne.2 (by omega)]
                          rfl
                        have f1 : FirstIs ((spread (mk (fun x => x == 128 || x == 254) W) : Nat) : Int) (p : Int) := ⟨_, mk_lt _ _, rfl, by rw [firM_is _ (mk_lt _ _) p (by omega) hp0 (fun h => absurd h hp8)]⟩
                        have q2 : VacantIs (W : Int) _ := ⟨W, hS.lt, rfl, rfl⟩
                        generalize spread (mk (fun x => x == 128 || x == 254) W) = z2 at *
                        clear hp0
                        go_wp2_with fail
                        refine (vacant_is q2 _).mono ?_
                        rintro e w5 ⟨rfl, k5⟩
                        replace hS := hS.call k5
                        replace co := k5.cell co
                        clear k5
                        go_wp2_with fail
                        refine (first_is f1 hS.tab).mono ?_
                        rintro e w6 ⟨rfl, k5⟩
                        replace hS := hS.call k5
                        replace co := k5.cell co
                        clear k5
                        go_wp2_with fail
                        go_meet
                        case rel => exact ⟨W, rfl, hS, co⟩
            · have hk1' : (kd == 1) = false := beq_eq_false_iff_ne.2 hk1
              clear hk1
              by_cases hk2 : kd = 2
              · subst hk2
                as_aux_lemma =>
                  by_cases hi0 : ii < 0
                  · go_wp2_with fail
                    go_meet
                    case rel => exact ⟨W, rfl, hS, co⟩
                  · by_cases hi7 : 7 < ii
                    · go_wp2_with fail
                      go_meet
                      case rel => exact ⟨W, rfl, hS, co⟩
                    · obtain ⟨I, rfl⟩ : ∃ I : Nat, ii = (I : Int) := ⟨ii.toNat, by omega⟩
                      have hI : I < 8 := by omega
                      have hI' : (I : Int) < 8 := by omega
                      have c1 : w3.cell? ⟨B, I, none⟩ = some (.int .i64 (clV (byN W I))) := (hS.cells I hI).1
                      have hgd := hS.good I hI
                      by_cases hx : byN W I < 128
                      · rw [show clV (byN W I) = ((byN W I : Nat) : Int) from if_pos hx] at c1
                        have q1 : EmptyIs (W : Int) _ := ⟨W, hS.lt, rfl, rfl⟩
                        have n1 : CntIs ((spread (mk (· == 128) W) : Nat) : Int) ((cntM (mk (· == 128) W) : Nat) : Int) := ⟨_, mk_lt _ _, rfl, rfl⟩
                        generalize spread (mk (· == 128) W) = z1 at *
                        generalize cntM (mk (· == 128) W) = C at *
                        by_cases hC0 : C = 0
                        · subst hC0
                          go_wp2_with fail
                          refine (empty_is q1 _).mono ?_
                          rintro e w5 ⟨rfl, k5⟩
                          replace hS := hS.call k5
                          replace co := k5.cell co
                          replace ci := k5.cell ci
                          clear k5
                          go_wp2_with fail
                          refine (count_is n1 _).mono ?_
                          rintro e w6 ⟨rfl, k5⟩
                          replace hS := hS.call k5
                          replace co := k5.cell co
                          replace ci := k5.cell ci
                          clear k5
                          have d1 := (hS.cells I hI).1
                          have d2 := (hS.cells I hI).2
                          have co2 : ∀ (k : Nat) (v : Value), (w6.setCell ⟨B, k, none⟩ v).cell? ⟨Bo, 1, none⟩ = some (.int .i64 tg) := fun k v => by rw [World.cell?_setCell_other _ _ _ _ (by intro q; injection q with q; exact hne q)]; exact co
                          have ci2 : ∀ (k : Nat) (v : Value), (w6.setCell ⟨B, k, none⟩ v).cell? ⟨Bo, 2, none⟩ = some (.int .i64 (I : Int)) := fun k v => by rw [World.cell?_setCell_other _ _ _ _ (by intro q; injection q with q; exact hne q)]; exact ci
                          have q3 : SetIs (W : Int) (I : Int) 254 ((setN W I 254 : Nat) : Int) := ⟨W, hS.lt, rfl, by rw [putN, if_pos ⟨by omega, by omega, by omega, by omega⟩, Int.toNat_natCast]; rfl⟩
                          go_wp2_with fail
                          refine (set_is q3 _).mono ?_
                          rintro e w7 ⟨rfl, k5⟩
                          have kk := (Below.setCell hS.kp hb (p := ⟨B, I, none⟩) (.int .i64 (-2)))
                          have hC := (hS.cells.set (k := I) hI (-2)).kp k5
                          replace kk := Kp.trans kk k5
                          replace co := k5.cell (co2 I (.int .i64 (-2)))
                          go_wp2_with fail
                          go_meet
                          case rel =>
                            refine ⟨_, rfl, ⟨setN_lt _ _ _ (by omega), good_set hS.good (Or.inr (Or.inr rfl)), hC.ext fun j hj => ?_, hT.kp kk, kk⟩, co⟩
                            rw [byN_setN _ _ _ (by omega) hj]
                            by_cases e : j = I
                            · rw [if_pos e, if_pos e]
                              exact (rfl)
                            · rw [if_neg e, if_neg e]
                        · have hC1 : 0 < (C : Int) := by omega
                          clear hC0
                          go_wp2_with fail
                          refine (empty_is q1 _).mono ?_
                          rintro e w5 ⟨rfl, k5⟩
                          replace hS := hS.call k5
                          replace co := k5.cell co
                          replace ci := k5.cell ci
                          clear k5
                          go_wp2_with fail
                          refine (count_is n1 _).mono ?_
                          rintro e w6 ⟨rfl, k5⟩
                          replace hS := hS.call k5
                          replace co := k5.cell co
                          replace ci := k5.cell ci
                          clear k5
                          have d1 := (hS.cells I hI).1
                          have d2 := (hS.cells I hI).2
                          have co2 : ∀ (k : Nat) (v : Value), (w6.setCell ⟨B, k, none⟩ v).cell? ⟨Bo, 1, none⟩ = some (.int .i64 tg) := fun k v => by rw [World.cell?_setCell_other _ _ _ _ (by intro q; injection q with q; exact hne q)]; exact co
                          have ci2 : ∀ (k : Nat) (v : Value), (w6.setCell ⟨B, k, none⟩ v).cell? ⟨Bo, 2, none⟩ = some (.int .i64 (I : Int)) := fun k v => by rw [World.cell?_setCell_other _ _ _ _ (by intro q; injection q with q; exact hne q)]; exact ci
                          have q3 : SetIs (W : Int) (I : Int) 128 ((setN W I 128 : Nat) : Int) := ⟨W, hS.lt, rfl, by rw [putN, if_pos ⟨by omega, by omega, by omega, by omega⟩, Int.toNat_natCast]; rfl⟩
                          go_wp2_with fail
                          refine (set_is q3 _).mono ?_
                          rintro e w7 ⟨rfl, k5⟩
                          have kk := (Below.setCell hS.kp hb (p := ⟨B, I, none⟩) (.int .i64 (-1)))
                          have hC := (hS.cells.set (k := I) hI (-1)).kp k5
                          replace kk := Kp.trans kk k5
                          replace co := k5.cell (co2 I (.int .i64 (-1)))
                          go_wp2_with fail
                          go_meet
                          case rel =>
                            refine ⟨_, rfl, ⟨setN_lt _ _ _ (by omega), good_set hS.good (Or.inr (Or.inl rfl)), hC.ext fun j hj => ?_, hT.kp kk, kk⟩, co⟩
                            rw [byN_setN _ _ _ (by omega) hj]
                            by_cases e : j = I
                            · rw [if_pos e, if_pos e]
                              exact (rfl)
                            · rw [if_neg e, if_neg e]
                      · have hneg : clV (byN W I) < 0 := by
                          unfold clV
                          rw [if_neg hx]
                          split <;> decide
                        generalize clV (byN W I) = cv at *
                        go_wp2_with fail
                        go_meet
                        case rel => exact ⟨W, rfl, hS, co⟩
              · have hk2' : (kd == 2) = false := beq_eq_false_iff_ne.2 hk2
                clear hk2
                by_cases hk3 : kd = 3
                · subst hk3
                  as_aux_lemma =>
                    have t0 := clear_any W hS.lt
                    go_wp2_with fail
                    refine (t0 _).mono ?_
                    rintro e w5 ⟨rfl, k5⟩
                    replace hS := hS.call k5
                    replace co := k5.cell co
                    clear k5 t0
                    go_wp2_with fail
                    have hC0 : Cells w5 B (fun k => if k < 0 then clV (byN (clN W) k) else clV (byN W k)) := hS.cells.ext fun k hk => by simp
                    have hW := hS.lt
                    have hg := hS.good
                    have kk := hS.kp
                    clear hS ck ci
                    go_loopg [11] 8 (fun g va wx => ∃ p : Nat, g = 8 - p ∧ va = .int .i64 (p : Int) ∧ p ≤ 8 ∧ Cells wx B (fun k => if k < p then clV (byN (clN W) k) else clV (byN W k)) ∧ Kp w1 wx ∧ wx.cell? ⟨Bo, 1, none⟩ = some (.int .i64 tg))
                    case atStart => exact ⟨0, rfl, rfl, by decide, hC0, kk, co⟩
                    case round =>
                      clear hC0 kk co
                      obtain ⟨p, rfl, rfl, hp, hC, kk, co⟩ := hrel
                      by_cases hp8 : p < 8
                      · have hp8' : (p : Int) < 8 := by omega
                        have c1 : wr.cell? ⟨B, p, none⟩ = some (.int .i64 (clV (byN W p))) := by
                          have := (hC p hp8).1
                          simpa using this
                        have c2 := (hC p hp8).2
                        have hnx := byN_clN W hp8
                        have hgd := hg p hp8
                        have hA : Aside (Cells wr B (fun k => if k < p then clV (byN (clN W) k) else clV (byN W k))) := hC
                        clear hC
                        by_cases hx : byN W p = 254
                        · rw [hx] at c1
                          rw [show clV 254 = -2 by decide] at c1
                          have hA1 : clV (byN (clN W) p) = -1 := by rw [hnx, hx]; decide
                          have hA2 : Aside (clV (byN (clN W) p) = -1) := hA1
                          clear hnx hgd hx hA1
                          go_wp2_with fail
                          go_roundg (8 - (p + 1))
                          case measure => omega
                          case rel =>
                            refine ⟨p + 1, rfl, by simp, by omega, (hA.out.set hp8 (-1)).ext fun k hk => ?_, Below.setCell kk hb _, ?_⟩
                            · by_cases e : k = p
                              · subst e
                                simp only [if_true, Nat.lt_succ_self]
                                exact hA2.out.symm
                              · simp only [e, if_false]
                                by_cases e2 : k < p
                                · rw [if_pos e2, if_pos (show k < p + 1 by omega)]
                                · rw [if_neg e2, if_neg (show ¬ k < p + 1 by omega)]
                            · rw [World.cell?_setCell_other _ _ _ _ (by intro q; injection q with q; exact hne q)]
                              exact co
                        · have hA2 : Aside (byN (clN W) p = byN W p) := by
                            rw [hnx]
                            exact if_neg hx
                          have hcv : (clV (byN W p) == -2) = false := by
                            rcases hgd with h | h | h
                            · rw [show clV (byN W p) = ((byN W p : Nat) : Int) from if_pos h]
                              exact beq_eq_false_iff_ne.2 (by omega)
                            · rw [h]
                              decide
                            · exact absurd h hx
                          have hA3 : Aside (∀ k, k < 8 → (if k < p then clV (byN (clN W) k) else clV (byN W k)) = if k < p + 1 then clV (byN (clN W) k) else clV (byN W k)) := by
                            intro k hk
                            by_cases e : k = p
                            · subst e
                              rw [if_neg (Nat.lt_irrefl _), if_pos (Nat.lt_succ_self _), hA2.out]
                            · by_cases e2 : k < p
                              · rw [if_pos e2, if_pos (by omega)]
                              · rw [if_neg e2, if_neg (by omega)]
                          clear hnx hgd hx hA2
                          generalize clV (byN W p) = cv at *
                          go_wp2_with fail
                          go_roundg (8 - (p + 1))
                          case measure => omega
                          case rel => exact ⟨p + 1, rfl, by simp, by omega, hA.out.ext hA3.out, kk, co⟩
                      · have hp8' : ¬ (p : Int) < 8 := by omega
                        have hS : Side w1 B (clN W) wr := by
                          refine ⟨clN_lt _, fun k hk => ?_, hC.ext fun k hk => by rw [if_pos (by omega)], hT.kp kk, kk⟩
                          rw [byN_clN W hk]
                          rcases hg k hk with h | h | h
                          · exact Or.inl (by rw [show clB (byN W k) = byN W k from if_neg (by omega)]; exact h)
                          · exact Or.inr (Or.inl (by rw [h]; rfl))
                          · exact Or.inr (Or.inl (by rw [h]; rfl))
                        clear hC
                        go_wp2_with fail
                        go_meet
                        case rel => exact ⟨_, rfl, hS, co⟩
                · have hk3' : (kd == 3) = false := beq_eq_false_iff_ne.2 hk3
                  clear hk3
                  go_wp2_with fail
                  go_meet
                  case rel => exact ⟨W, rfl, hS, co⟩
          case rest => as_aux_lemma =>
            obtain ⟨W, rfl, hS, co⟩ := hcut
            have q1 : FullIs (W : Int) _ := ⟨W, hS.lt, rfl, rfl⟩
            have q2 : VacantIs (W : Int) _ := ⟨W, hS.lt, rfl, rfl⟩
            have q3 : EmptyIs (W : Int) _ := ⟨W, hS.lt, rfl, rfl⟩
            have q5 : MatchIs (W : Int) tg _ := ⟨W, hS.lt, rfl, rfl⟩
            have g1 := fun i hi => one W i (fun x => decide (x < 128)) hi
            have g2 := fun i hi => one W i (fun x => x == 128 || x == 254) hi
            have g3 := fun i hi => one W i (· == 128) hi
            have g5 := fun i hi => one W i (tagB tg) hi
            generalize spread (mk (fun x => decide (x < 128)) W) = z1 at *
            generalize spread (mk (fun x => x == 128 || x == 254) W) = z2 at *
            generalize spread (mk (· == 128) W) = z3 at *
            generalize spread (mk (tagB tg) W) = z5 at *
            go_wp2_with fail
            go_loopg [12] 8 (fun g vi wx => ∃ i : Nat, g = 8 - i ∧ vi = .int .i64 (i : Int) ∧ i ≤ 8 ∧ Side w1 B W wx ∧ wx.cell? ⟨Bo, 1, none⟩ = some (.int .i64 tg))
            case atStart => exact ⟨0, rfl, rfl, by decide, hS, co⟩
            case round =>
              clear hS co
              obtain ⟨i, rfl, rfl, hi, hS, co⟩ := hrel
              by_cases hlt : i < 8
              · have hlt' : (i : Int) < 8 := by omega
                replace g1 := g1 i hlt
                replace g2 := g2 i hlt
                replace g3 := g3 i hlt
                replace g5 := g5 i hlt
                have c1 : wr.cell? ⟨B, i, none⟩ = some (.int .i64 (clV (byN W i))) := (hS.cells i hlt).1
                have hgd := hS.good i hlt
                have hG : GetIs (W : Int) (i : Int) ((byN W i : Nat) : Int) := ⟨W, hS.lt, rfl, by rw [getN, if_pos ⟨by omega, by omega⟩, Int.toNat_natCast]⟩
                have q4 : MatchIs (W : Int) ((byN W i : Nat) : Int) _ := ⟨W, hS.lt, rfl, rfl⟩
                have g4 := one W i (tagB ((byN W i : Nat) : Int)) hlt
                generalize spread (mk (tagB ((byN W i : Nat) : Int)) W) = z4 at *
                generalize byN W i = X at *
                clear hlt hi
                rcases hgd with hx | rfl | rfl
                · have e1 : clV X = (X : Int) := if_pos hx
                  have b1 : decide (X < 128) = true := decide_eq_true hx
                  have b2 : (X == 128 || X == 254) = false := by rw [beq_eq_false_iff_ne.2 (by omega), beq_eq_false_iff_ne.2 (by omega)]; rfl
                  have b3 : (X == 128) = false := beq_eq_false_iff_ne.2 (by omega)
                  have b4 : tagB (X : Int) X = true := decide_eq_true ⟨by omega, rfl⟩
                  rw [e1] at c1
                  rw [b1] at g1
                  rw [b2] at g2
                  rw [b3] at g3
                  rw [b4] at g4
                  have h0 : ¬ (X : Int) < 0 := by omega
                  have h1 : ((X : Int) == -1) = false := beq_eq_false_iff_ne.2 (by omega)
                  clear e1 b1 b2 b3 b4
                  by_cases ht : (X : Int) = tg
                  · subst ht
                    have b5 : tagB (X : Int) X = true := decide_eq_true ⟨by omega, rfl⟩
                    rw [b5] at g5
                    clear b5 hx
                    as_aux_lemma =>
                      go_wp2_with fail
                      refine (full_is q1 _).mono ?_
                      rintro e w5 ⟨rfl, k5⟩
                      replace hS := hS.call k5
                      replace co := k5.cell co
                      clear k5
                      go_wp2_with fail
                      refine (has_is g1 _).mono ?_
                      rintro e w5 ⟨rfl, k5⟩
                      replace hS := hS.call k5
                      replace co := k5.cell co
                      clear k5
                      go_wp2_with fail
                      refine (vacant_is q2 _).mono ?_
                      rintro e w5 ⟨rfl, k5⟩
                      replace hS := hS.call k5
                      replace co := k5.cell co
                      clear k5
                      go_wp2_with fail
                      refine (has_is g2 _).mono ?_
                      rintro e w5 ⟨rfl, k5⟩
                      replace hS := hS.call k5
                      replace co := k5.cell co
                      clear k5
                      go_wp2_with fail
                      refine (empty_is q3 _).mono ?_
                      rintro e w5 ⟨rfl, k5⟩
                      replace hS := hS.call k5
                      replace co := k5.cell co
                      clear k5
                      go_wp2_with fail
                      refine (has_is g3 _).mono ?_
                      rintro e w5 ⟨rfl, k5⟩
                      replace hS := hS.call k5
                      replace co := k5.cell co
                      clear k5
                      go_wp2_with fail
                      refine (get_is hG _).mono ?_
                      rintro e w6 ⟨rfl, rfl⟩
                      go_wp2_with fail
                      refine (match_is q4 _).mono ?_
                      rintro e w5 ⟨rfl, k5⟩
                      replace hS := hS.call k5
                      replace co := k5.cell co
                      clear k5
                      go_wp2_with fail
                      refine (has_is g4 _).mono ?_
                      rintro e w5 ⟨rfl, k5⟩
                      replace hS := hS.call k5
                      replace co := k5.cell co
                      clear k5
                      go_wp2_with fail
                      refine (match_is q5 _).mono ?_
                      rintro e w5 ⟨rfl, k5⟩
                      replace hS := hS.call k5
                      replace co := k5.cell co
                      clear k5
                      go_wp2_with fail
                      refine (has_is g5 _).mono ?_
                      rintro e w5 ⟨rfl, k5⟩
                      replace hS := hS.call k5
                      replace co := k5.cell co
                      clear k5
                      go_wp2_with fail
                      go_roundg (8 - (i + 1))
                      case measure => omega
                      case rel => exact ⟨i + 1, rfl, by simp, by omega, hS, co⟩
                  · have b5 : tagB tg X = false := decide_eq_false (by omega)
                    rw [b5] at g5
                    have ht' : ((X : Int) == tg) = false := beq_eq_false_iff_ne.2 ht
                    clear b5 ht hx
                    as_aux_lemma =>
                      go_wp2_with fail
                      refine (full_is q1 _).mono ?_
                      rintro e w5 ⟨rfl, k5⟩
                      replace hS := hS.call k5
                      replace co := k5.cell co
                      clear k5
                      go_wp2_with fail
                      refine (has_is g1 _).mono ?_
                      rintro e w5 ⟨rfl, k5⟩
                      replace hS := hS.call k5
                      replace co := k5.cell co
                      clear k5
                      go_wp2_with fail
                      refine (vacant_is q2 _).mono ?_
                      rintro e w5 ⟨rfl, k5⟩
                      replace hS := hS.call k5
                      replace co := k5.cell co
                      clear k5
                      go_wp2_with fail
                      refine (has_is g2 _).mono ?_
                      rintro e w5 ⟨rfl, k5⟩
                      replace hS := hS.call k5
                      replace co := k5.cell co
                      clear k5
                      go_wp2_with fail
                      refine (empty_is q3 _).mono ?_
                      rintro e w5 ⟨rfl, k5⟩
                      replace hS := hS.call k5
                      replace co := k5.cell co
                      clear k5
                      go_wp2_with fail
                      refine (has_is g3 _).mono ?_
                      rintro e w5 ⟨rfl, k5⟩
                      replace hS := hS.call k5
                      replace co := k5.cell co
                      clear k5
                      go_wp2_with fail
                      refine (get_is hG _).mono ?_
                      rintro e w6 ⟨rfl, rfl⟩
                      go_wp2_with fail
                      refine (match_is q4 _).mono ?_
                      rintro e w5 ⟨rfl, k5⟩
                      replace hS := hS.call k5
                      replace co := k5.cell co
                      clear k5
                      go_wp2_with fail
                      refine (has_is g4 _).mono ?_
                      rintro e w5 ⟨rfl, k5⟩
                      replace hS := hS.call k5
                      replace co := k5.cell co
                      clear k5
                      go_wp2_with fail
                      refine (match_is q5 _).mono ?_
                      rintro e w5 ⟨rfl, k5⟩
                      replace hS := hS.call k5
                      replace co := k5.cell co
                      clear k5
                      go_wp2_with fail
                      refine (has_is g5 _).mono ?_
                      rintro e w5 ⟨rfl, k5⟩
                      replace hS := hS.call k5
                      replace co := k5.cell co
                      clear k5
                      go_wp2_with fail
                      go_roundg (8 - (i + 1))
                      case measure => omega
                      case rel => exact ⟨i + 1, rfl, by simp, by omega, hS, co⟩
                · have e1 : clV 128 = -1 := by decide
                  have b1 : decide (128 < 128) = false := by decide
                  have b2 : (128 == 128 || 128 == 254) = true := by decide
                  have b3 : (128 == 128) = true := by decide
                  have b5 : tagB tg 128 = false := decide_eq_false (by omega)
                  rw [e1] at c1
                  rw [b1] at g1
                  rw [b2] at g2
                  rw [b3] at g3
                  rw [b5] at g5
                  clear e1 b1 b2 b3 b5 g4 q4 hG
                  as_aux_lemma =>
                    go_wp2_with fail
                    refine (full_is q1 _).mono ?_
                    rintro e w5 ⟨rfl, k5⟩
                    replace hS := hS.call k5
                    replace co := k5.cell co
                    clear k5
                    go_wp2_with fail
                    refine (has_is g1 _).mono ?_
                    rintro e w5 ⟨rfl, k5⟩
                    replace hS := hS.call k5
                    replace co := k5.cell co
                    clear k5
                    go_wp2_with fail
                    refine (vacant_is q2 _).mono ?_
                    rintro e w5 ⟨rfl, k5⟩
                    replace hS := hS.call k5
                    replace co := k5.cell co
                    clear k5
                    go_wp2_with fail
                    refine (has_is g2 _).mono ?_
                    rintro e w5 ⟨rfl, k5⟩
                    replace hS := hS.call k5
                    replace co := k5.cell co
                    clear k5
                    go_wp2_with fail
                    refine (empty_is q3 _).mono ?_
                    rintro e w5 ⟨rfl, k5⟩
                    replace hS := hS.call k5
                    replace co := k5.cell co
                    clear k5
                    go_wp2_with fail
                    refine (has_is g3 _).mono ?_
                    rintro e w5 ⟨rfl, k5⟩
                    replace hS := hS.call k5
                    replace co := k5.cell co
                    clear k5
                    go_wp2_with fail
                    refine (match_is q5 _).mono ?_
                    rintro e w5 ⟨rfl, k5⟩
                    replace hS := hS.call k5
                    replace co := k5.cell co
                    clear k5
                    go_wp2_with fail
                    refine (has_is g5 _).mono ?_
                    rintro e w5 ⟨rfl, k5⟩
                    replace hS := hS.call k5
                    replace co := k5.cell co
                    clear k5
                    go_wp2_with fail
                    go_roundg (8 - (i + 1))
                    case measure => omega
                    case rel => exact ⟨i + 1, rfl, by simp, by omega, hS, co⟩
                · have e1 : clV 254 = -2 := by decide
                  have b1 : decide (254 < 128) = false := by decide
                  have b2 : (254 == 128 || 254 == 254) = true := by decide
                  have b3 : (254 == 128) = false := by decide
                  have b5 : tagB tg 254 = false := decide_eq_false (by omega)
                  rw [e1] at c1
                  rw [b1] at g1
                  rw [b2] at g2
                  rw [b3] at g3
                  rw [b5] at g5
                  clear e1 b1 b2 b3 b5 g4 q4 hG
                  as_aux_lemma =>
                    go_wp2_with fail
                    refine (full_is q1 _).mono ?_
                    rintro e w5 ⟨rfl, k5⟩
                    replace hS := hS.call k5
                    replace co := k5.cell co
                    clear k5
                    go_wp2_with fail
                    refine (has_is g1 _).mono ?_
                    rintro e w5 ⟨rfl, k5⟩
                    replace hS := hS.call k5
                    replace co := k5.cell co
                    clear k5
                    go_wp2_with fail
                    refine (vacant_is q2 _).mono ?_
                    rintro e w5 ⟨rfl, k5⟩
                    replace hS := hS.call k5
                    replace co := k5.cell co
                    clear k5
                    go_wp2_with fail
                    refine (has_is g2 _).mono ?_
                    rintro e w5 ⟨rfl, k5⟩
                    replace hS := hS.call k5
                    replace co := k5.cell co
                    clear k5
                    go_wp2_with fail
                    refine (empty_is q3 _).mono ?_
                    rintro e w5 ⟨rfl, k5⟩
                    replace hS := hS.call k5
                    replace co := k5.cell co
                    clear k5
                    go_wp2_with fail
                    refine (has_is g3 _).mono ?_
                    rintro e w5 ⟨rfl, k5⟩
                    replace hS := hS.call k5
                    replace co := k5.cell co
                    clear k5
                    go_wp2_with fail
                    refine (match_is q5 _).mono ?_
                    rintro e w5 ⟨rfl, k5⟩
                    replace hS := hS.call k5
                    replace co := k5.cell co
                    clear k5
                    go_wp2_with fail
                    refine (has_is g5 _).mono ?_
                    rintro e w5 ⟨rfl, k5⟩
                    replace hS := hS.call k5
                    replace co := k5.cell co
                    clear k5
                    go_wp2_with fail
                    go_roundg (8 - (i + 1))
                    case measure => omega
                    case rel => exact ⟨i + 1, rfl, by simp, by omega, hS, co⟩
              · have hlt' : ¬ (i : Int) < 8 := by omega
                clear g1 g2 g3 g5
                go_wp2_with fail
                go_roundg (qs.length - (j + 1))
                case measure => omega
                case rel => exact ⟨j + 1, rfl, by omega, by simp, W, rfl, hS⟩
        · have hjl' : ¬ (j : Int) < (qs.length : Int) := by omega
          have q1 : FullIs (W : Int) _ := ⟨W, hS.lt, rfl, rfl⟩
          have q2 : VacantIs (W : Int) _ := ⟨W, hS.lt, rfl, rfl⟩
          have n1 : CntIs ((spread (mk (fun x => decide (x < 128)) W) : Nat) : Int) ((cntM (mk (fun x => decide (x < 128)) W) : Nat) : Int) := ⟨_, mk_lt _ _, rfl, rfl⟩
          have n2 : CntIs ((spread (mk (fun x => x == 128 || x == 254) W) : Nat) : Int) ((cntM (mk (fun x => x == 128 || x == 254) W) : Nat) : Int) := ⟨_, mk_lt _ _, rfl, rfl⟩
          have hsum := cnt_good hS.good
          generalize spread (mk (fun x => decide (x < 128)) W) = z1 at *
          generalize spread (mk (fun x => x == 128 || x == 254) W) = z2 at *
          generalize cntM (mk (fun x => decide (x < 128)) W) = C1 at *
          generalize cntM (mk (fun x => x == 128 || x == 254) W) = C2 at *
          obtain rfl : C2 = 8 - C1 := by omega
          have hC1 : C1 ≤ 8 := by omega
          clear hsum
          rcases (by omega : C1 = 0 ∨ C1 = 1 ∨ C1 = 2 ∨ C1 = 3 ∨ C1 = 4 ∨ C1 = 5 ∨ C1 = 6 ∨ C1 = 7 ∨ C1 = 8) with rfl | rfl | rfl | rfl | rfl | rfl | rfl | rfl | rfl
          all_goals
            go_wp2_with fail
            refine (full_is q1 _).mono ?_
            rintro e w5 ⟨rfl, k5⟩
            replace hS := hS.call k5
            clear k5
            go_wp2_with fail
            refine (count_is n1 _).mono ?_
            rintro e w6 ⟨rfl, k5⟩
            replace hS := hS.call k5
            clear k5
            go_wp2_with fail
            refine (vacant_is q2 _).mono ?_
            rintro e w7 ⟨rfl, k5⟩
            replace hS := hS.call k5
            clear k5
            go_wp2_with fail
            refine (count_is n2 _).mono ?_
            rintro e w8 ⟨rfl, k5⟩
            replace hS := hS.call k5
            clear k5
            go_wp2_with fail
            go_ret
            exact ⟨rfl, hS.kp⟩
end ctrlLives
end Go.Proofs.YtbpgjlengpgnnaaDoor
