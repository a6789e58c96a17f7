/-
  Tables of dir: a range over it gives the first entry of each run.
-/
import Derived.Test.YtiacmlcoadcefaaDoorHRTD
import Derived.Stop.RegionWithIn
import Derived.Sort.AtCallIn
import Derived.Sort.LoopGhostIn
import Derived.RangeFuncLeaves
import Derived.OwnWalkIn
import Derived.TacticsInMore
import Derived.LoopNIn
import Derived.LoopIn
namespace Go.Proofs.YtiacmlcoadcefaaDoor
open Go.RowKit Go.Shelf
set_option linter.unusedVariables false

attribute [local go_sem] Oper.semAt_some

set_option maxHeartbeats 1000000 in
theorem dtab_call (p off D : Nat) (w : World) :
    Calls Tryd.prog 7 #[.agg #[.pointer (some ⟨p, 0, none⟩), .int .i64 (off : Int), .int .i64 (D : Int)]] w fun e w' => e = .returned (.func (.func 18) #[] #[.pointer (some ⟨w.heap.size, 0, none⟩)]) ∧ w' = w.alloc (.cells #[.pointer (some ⟨p, 0, none⟩), .int .i64 (off : Int), .int .i64 (D : Int)] 25) := by
  go_enter Tryd.func7, Tryd.ntmps7
  go_wp2
  go_ret
  exact ⟨rfl, rfl⟩

/-- Does a run begin at entry j? -/
def run1 (ts : List Int) (j : Nat) : Prop := j = 0 ∨ ts.getD j 0 ≠ ts.getD (j - 1) 0
def lastA (ts : List Int) (k : Nat) : Int := if k = 0 then 0 else ts.getD (k - 1) 0
theorem lastA_succ (ts : List Int) (k : Nat) : lastA ts (k + 1) = ts.getD k 0 := by simp [lastA]
def GxT (ts : List Int) (x : Nat × Int) (s : Nat) : Prop := s ≤ x.1 ∧ x.1 < ts.length ∧ x.2 = ts.getD x.1 0 ∧ run1 ts x.1 ∧ ∀ j, s ≤ j → j < x.1 → ¬ run1 ts j
def NxT (x : Nat × Int) (s s' : Nat) : Prop := s' = x.1 + 1
def ExT (ts : List Int) (s : Nat) : Prop := ∀ j, s ≤ j → j < ts.length → ¬ run1 ts j
def RxT (p Bq off D : Nat) (ts : List Int) (s : Nat) (V : World) : Prop := (∃ w X d, DirO w V p X d off D ts) ∧ DirB V Bq p off D

set_option maxRecDepth 100000 in
set_option maxHeartbeats 4000000 in
theorem dtab_each (n : Nat) (h1 : 1 ≤ n) (p Bq off D : Nat) (ts : List Int) (hl : ts.length = 2 ^ D) (hD : D ≤ 6) :
    SeqTied n 18 #[.pointer (some ⟨Bq, 0, none⟩)] (fun x : Nat × Int => #[.int .i64 (x.1 : Int), .int .i64 x.2]) (GxT ts) NxT (ExT ts) (RxT p Bq off D ts) 0 := by
  intro lp J Jx W hJk hJR hY hJ0
  have hro : Fence.wide.round = none := rfl
  have hEn := fun V => dentries_any p off D V hD
  rw [← hl] at hEn
  have h64 : ts.length ≤ 64 := by rw [hl]; exact pow_le6 hD
  have HB0 := hide (hJR 0 W hJ0).2
  obtain ⟨⟨e0, e1, e2⟩, -⟩ := three_cells HB0.out
  have HJR := hide hJR
  have HJk := hide hJk
  have HJ0 := hide hJ0
  clear hJR hJk hJ0 HB0 hl
  refine callsIn_of_wp Tryd.func18 rfl trivial ?_ hro
  simp only [Tryd.ntmps18, List.size_toArray, List.length_cons, List.length_nil, Nat.reduceAdd, Nat.reduceSub, Array.replicate_succ, Array.replicate_zero, List.push_toArray, List.append_toArray, List.nil_append, List.cons_append]
  gi_wp2_with fail
  refine ⟨trivial, (callsIn_wide.2 (hEn _)).mono ?_⟩
  rintro e W1 ⟨rfl, k1⟩
  have HJ1 := hide (HJk.out _ _ _ HJ0.out k1)
  clear hEn e0 e1 e2 k1 HJ0
  gi_wp2_with fail
  gi_loopw [3, 9] (fun v3 v9 wr => ∃ (k s : Nat), v9 = .int .i64 (k : Int) ∧ v3 = .int .i64 (lastA ts k) ∧ k ≤ ts.length ∧ J s wr ∧ s ≤ k ∧ ∀ j, s ≤ j → j < k → ¬ run1 ts j) (fun _ v9 _ => ts.length - (intOf v9).toNat)
  case atStart => exact ⟨0, 0, rfl, rfl, Nat.zero_le _, HJ1.out, Nat.le_refl _, fun j h1 h2 => by omega⟩
  case round =>
    clear HJ1
    obtain ⟨k, s, rfl, rfl, hk, hJ, hsk, hno⟩ := hrel
    by_cases h8 : k < ts.length
    · have h8' : (k : Int) < (ts.length : Int) := by omega
      obtain ⟨⟨w0, X, d, hO⟩, hB⟩ := HJR.out s wr hJ
      have hLd := dload_any hO k h8
      obtain ⟨⟨e0, e1, e2⟩, -⟩ := three_cells hB
      have hgd : ts[k] = ts.getD k 0 := by rw [List.getD_eq_getElem?_getD, List.getElem?_eq_getElem h8]; rfl
      rw [hgd] at hLd
      have HN := hide hno
      have HJ := hide hJ
      have Hls := hide (lastA_succ ts k)
      clear hno hO hB hJ hgd
      by_cases h2 : run1 ts k
      · have hYk := fun V hV hg => hY (k, ts.getD k 0) s V hV hg
        have HG : Hid (GxT ts (k, ts.getD k 0) s) := hide ⟨hsk, h8, rfl, h2, HN.out⟩
        have hcs : k = 0 ∨ (¬ k = 0 ∧ (ts.getD k 0 != lastA ts k) = true) := by
          by_cases h0 : k = 0
          · exact Or.inl h0
          · refine Or.inr ⟨h0, ?_⟩
            have := h2.resolve_left h0
            simp only [lastA, if_neg h0, bne_iff_ne, ne_eq]
            exact this
        clear hY h2
        generalize ts.getD k 0 = z at *
        generalize lastA ts k = la at *
        gi_wp2_with fail
        refine ⟨trivial, (callsIn_wide.2 hLd).mono ?_⟩
        rintro e W2 ⟨rfl, k2⟩
        have HJ2 := hide (HJk.out _ _ _ HJ.out k2)
        clear HJ hLd e0 e1 e2 k2
        obtain ⟨fn, tmps, assign, body, hy, hRd⟩ := hYk _ HJ2.out HG.out
        clear hYk HG HJ2
        rcases hcs with q0 | ⟨q0, q1⟩
        · have q0' : ((k : Int) == 0) = true := by simp; omega
          have q0'' : (k : Int) = 0 ↔ True := by simp; omega
          have Q0 := hide q0
          clear q0
          gi_wp2_with fail
          refine hRd.mono ?_
          rintro e W4 (⟨rfl, s', hN', hJ4⟩ | ⟨rfl, hJx4⟩)
          · have HJ4 := hide hJ4
            have HN' : Hid (s' = k + 1) := hide hN'
            clear hRd hy hJ4 hN'
            gi_wp2_with fail
            go_roundw
            case rel => exact ⟨k + 1, s', by go_num, by rw [Hls.out], by omega, HJ4.out, by rw [HN'.out]; exact Nat.le_refl _, fun j q1 q2 => by rw [HN'.out] at q1; omega⟩
            case measure => simp [intOf]; omega
          · have HX4 := hide hJx4
            clear hRd hy hJx4
            gi_wp2_with fail
            refine bodyPost_ret (results_none rfl _ _ _) rfl ?_
            exact ⟨⟨_, rfl⟩, .inr HX4.out⟩
        · have q0' : ((k : Int) == 0) = false := by simp; omega
          gi_wp2_with fail
          refine hRd.mono ?_
          rintro e W4 (⟨rfl, s', hN', hJ4⟩ | ⟨rfl, hJx4⟩)
          · have HJ4 := hide hJ4
            have HN' : Hid (s' = k + 1) := hide hN'
            clear hRd hy hJ4 hN'
            gi_wp2_with fail
            go_roundw
            case rel => exact ⟨k + 1, s', by go_num, by rw [Hls.out], by omega, HJ4.out, by rw [HN'.out]; exact Nat.le_refl _, fun j q1 q2 => by rw [HN'.out] at q1; omega⟩
            case measure => simp [intOf]; omega
          · have HX4 := hide hJx4
            clear hRd hy hJx4
            gi_wp2_with fail
            refine bodyPost_ret (results_none rfl _ _ _) rfl ?_
            exact ⟨⟨_, rfl⟩, .inr HX4.out⟩
      · have q0 : ¬ k = 0 := fun q => h2 (Or.inl q)
        have q0' : ((k : Int) == 0) = false := by simp; omega
        have hez : ts.getD k 0 = lastA ts k := by
          simp only [lastA, if_neg q0]
          exact Classical.byContradiction fun q => h2 (Or.inr q)
        have H2 := hide h2
        rw [hez] at hLd Hls
        clear hY h2 hez
        generalize lastA ts k = la at *
        gi_wp2_with fail
        refine ⟨trivial, (callsIn_wide.2 hLd).mono ?_⟩
        rintro e W2 ⟨rfl, k2⟩
        have HJ2 := hide (HJk.out _ _ _ HJ.out k2)
        clear HJ hLd e0 e1 e2 k2
        gi_wp2_with fail
        refine ⟨fun f hf => (nomatch hf), ?_⟩
        gi_wp2_with fail
        go_roundw
        case rel => exact ⟨k + 1, s, by go_num, by rw [Hls.out], by omega, HJ2.out, by omega, fun j q1 q2 => by
          by_cases e : j = k
          · rw [e]; exact H2.out
          · exact HN.out j q1 (by omega)⟩
        case measure => simp [intOf]; omega
    · obtain rfl : k = ts.length := by omega
      have HE : Hid (ExT ts s) := hide hno
      have HJ := hide hJ
      clear hno hJ
      gi_wp2_with fail
      go_end0
      exact ⟨⟨_, rfl⟩, .inl ⟨s, HE.out, HJ.out⟩⟩
end Go.Proofs.YtiacmlcoadcefaaDoor
