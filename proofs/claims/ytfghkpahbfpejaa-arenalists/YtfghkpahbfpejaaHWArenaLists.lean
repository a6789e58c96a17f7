/-
  ArenaLists, walked.
-/
import Derived.Test.YtfghkpahbfpejaaLi13
import Derived.Test.YtfghkpahbfpejaaHWArenaKeeps
namespace Go.Proofs.Ytfghkpahbfpejaa
open Go.RowKit Go.Shelf
set_option linter.unusedVariables false
namespace arenaLists

def Post (w : World) (e : Ending) (w' : World) : Prop := e = .returned (.bool true) ∧ Below w.heap.size w w'

set_option maxRecDepth 100000 in
set_option maxHeartbeats 1000000 in
theorem walk_no (n : Int) (v1 v2 : Value) (w : World) (h : n < 0 ∨ 2097152 < n) : Calls Try.prog 3 #[.int .i64 n, v1, v2] w fun e w' => Post w e w' := by
  have hN := anew_no n w h
  have hnum := num_any
  by_cases h0 : n < 0
  · go_enter Try.func3, Try.ntmps3
    go_wp2_with fail
    refine hN.mono ?_
    rintro e w1 ⟨rfl, rfl⟩
    go_wp2_with fail
    refine (hnum _ _).mono ?_
    rintro e w2 ⟨rfl, rfl⟩
    go_wp2_with fail
    go_ret
    exact ⟨rfl, Below.refl _ _⟩
  · have h1 : 2097152 < n := by omega
    go_enter Try.func3, Try.ntmps3
    go_wp2_with fail
    refine hN.mono ?_
    rintro e w1 ⟨rfl, rfl⟩
    go_wp2_with fail
    refine (hnum _ _).mono ?_
    rintro e w2 ⟨rfl, rfl⟩
    go_wp2_with fail
    go_ret
    exact ⟨rfl, Below.refl _ _⟩

theorem blkA {w w1 : World} (h : Keeps w w1 (fun _ => False)) {b : Nat} {x : Obj} (hb : w.heap[b]? = some x) : w1.heap[b]? = some x := (h.block b (heap_lt hb) id).trans hb
theorem rowX_of {ao : Option Addr} {n c b : Nat} (h : Value.ownBlock (.slice ao n c) = some b) {W : World} {B : Nat} {e : TypeId} {s : Nat} {xs : List Value} (hr : W.ownsRow B e s (.slice ao n c) n xs) : RowX ao b := by
  rcases hr.2 with ⟨e, _⟩ | ⟨g, cap, cur, e, _⟩
  · cases e
    cases h
  · cases e
    simp [Value.ownBlock] at h
    subst h
    rfl
theorem row_low {W : World} {B : Nat} {e : TypeId} {s : Nat} {v : Value} {n : Nat} {xs : List Value} (h : W.ownsRow B e s v n xs) : W.ownsRow 0 e s v n xs := by
  refine ⟨h.1, ?_⟩
  rcases h.2 with h2 | ⟨g, cap, cur, e1, h1, h2⟩
  · exact Or.inl h2
  · exact Or.inr ⟨g, cap, cur, e1, Nat.zero_le _, h2⟩
theorem cellS {w w' : World} {S : Nat → Prop} (k : Keeps w w' S) {b o : Nat} {v : Value} (h : w.cell? ⟨b, o, none⟩ = some v) (hn : ¬ S b) : w'.cell? ⟨b, o, none⟩ = some v := by
  have : b < w.heap.size := by
    refine Nat.lt_of_not_le fun hn => ?_
    rw [World.cell?, Array.getElem?_eq_none hn] at h
    cases h
  exact (World.cell?_of_block (w := w) (a := ⟨b, o, none⟩) (k.block b this hn)).trans h
theorem skip_if {c : Prop} [Decidable c] {A B : Prop} (h : ¬ c) (hb : B) : if c then A else B := by
  rw [if_neg h]
  exact hb
/-- act, whichever it is. -/
theorem actZ_any {w w1 : World} {p : Nat} {Z : Nat → Prop} {v : Value} {ys : List Int} {d : AD} (h : OwnZ w w1 p Z v ys d) (hF : d.Fine) (hW : d.Well) (N Fr : Int) (u : UInt8) (hfr : fitsI Fr) (hys : ∀ z ∈ ys, fitsI z) (hn : ys.length ≤ 17592186044000) :
    Calls Try.prog 10 #[.pointer (some ⟨p, 0, none⟩), .agg #[.int .i64 N, .int .i64 Fr], v, .int .u8 (u.toNat : Int)] w1 fun e w' =>
      ∃ g cap d' z, e = .returned (.slice (some ⟨g, 0, none⟩) (ys.length + 1) cap) ∧ OwnZ w w' p Z (.slice (some ⟨g, 0, none⟩) (ys.length + 1) cap) (ys ++ [z]) d' ∧ Grow d d' ∧ (∀ x ∈ ys ++ [z], fitsI x) ∧ ∀ k, Z k → w'.heap[k]? = w1.heap[k]? := by
  have key : Calls Try.prog 10 #[.pointer (some ⟨p, 0, none⟩), .agg #[.int .i64 N, .int .i64 Fr], v, .int .u8 (u.toNat : Int)] w1 fun e w' => ActPostZ w w1 p Z d N Fr u ys e w' := by
    by_cases h0 : Fr = 0
    · subst h0
      exact actZ_alloc h hF hW N u hn
    · exact actZ_free h hF N Fr u hfr h0 hys hn
  refine key.mono ?_
  rintro e w' ⟨g, cap, d', z, rfl, h1, h2, h3⟩
  obtain ⟨hg, hz⟩ := h2.grow hF hW
  exact ⟨g, cap, d', z, rfl, h1, hg, fun x hx => by
    rcases List.mem_append.1 hx with hx | hx
    · exact hys x hx
    · rw [List.mem_singleton.1 hx]
      exact hz, h3⟩

set_option maxRecDepth 100000 in
set_option maxHeartbeats 40000000 in
theorem walk_yes (n : Nat) (a1 a2 : Option Addr) (cap1 cap2 : Nat) (ss tt : List (Int × Int)) (w : World) (h : n ≤ 2097152) (hl1 : ss.length ≤ 8796093022000) (hl2 : tt.length ≤ 8796093022000) (hs : StepsIn w a1 ss) (ht : StepsIn w a2 tt) (hfs : ∀ x ∈ ss, fitsI x.1 ∧ fitsI x.2) (hft : ∀ x ∈ tt, fitsI x.1 ∧ fitsI x.2) :
    Calls Try.prog 3 #[.int .i64 (n : Int), .slice a1 ss.length cap1, .slice a2 tt.length cap2] w fun e w' => Post w e w' := by
  have hN := own_new (w := w) n h
  have hnum := num_any
  have g1 : ¬ (n : Int) < 0 := by omega
  have g2 : ¬ (2097152 : Int) < (n : Int) := by omega
  go_enter Try.func3, Try.ntmps3
  go_wp2_with fail
  refine hN.mono ?_
  rintro e w1 ⟨p, rfl, ho⟩
  clear hN
  go_wp2_with fail
  refine (hnum _ _).mono ?_
  rintro e w2 ⟨rfl, rfl⟩
  go_wp2_with fail
  have hK0 : OwnZ w w2 p (fun _ => False) (.slice none 0 0) [] (AD.fresh n) := ⟨ho.less (fun k _ _ e => by rcases e with e | e <;> cases e), ⟨rfl, Or.inl ⟨rfl, rfl⟩⟩, fun k e => e.elim⟩
  clear ho
  go_loopg [9, 55] ss.length (fun g v9 v56 wr => ∃ (i : Nat) (ys : List Int) (d : AD), g = ss.length - i ∧ i ≤ ss.length ∧ v56 = .int .i64 (i : Int) ∧ OwnZ w wr p (fun _ => False) v9 ys d ∧ Hid (Grow (AD.fresh n) d) ∧ ys.length ≤ i ∧ (∀ z ∈ ys, fitsI z))
  case atStart => exact ⟨0, [], AD.fresh n, rfl, Nat.zero_le _, rfl, hK0, Grow.refl (AD.fresh_fine h) (arenaKeeps.fresh_well n), Nat.le_refl _, fun z hz => by cases hz⟩
  case round =>
    clear hK0
    obtain ⟨i, ys, d, rfl, hi, rfl, hK, HG, hyl, hyf⟩ := hrel
    by_cases hlt : i < ss.length
    · rcases hs with rfl | ⟨b1, o1, rfl, hb1, hc⟩
      · simp at hlt
      obtain ⟨x1, x2⟩ := hc i hlt
      replace x1 := hK.own.keeps.cellK x1
      replace x2 := hK.own.keeps.cellK x2
      obtain ⟨f1, f2⟩ := hfs _ (List.getElem_mem hlt)
      have hlt' : (i : Int) < (ss.length : Int) := by omega
      have hil : (i : Int) ≤ 8796093022000 := by omega
      generalize ss[i].1 = Nn at *
      generalize ss[i].2 = Fr at *
      clear hc hfs
      have hK1 := hK.stay ((Keeps.refl _ _).alloc (.cells #[.int .i64 Nn, .int .i64 Fr] 30))
      obtain ⟨u, hu⟩ : ∃ u : UInt8, (u.toNat : Int) = IntKind.u8.wrap (i : Int) := ⟨UInt8.ofNat i, by
        rw [IntKind.wrap_u8]
        simp⟩
      have hA := actZ_any hK1 HG.out.fine HG.out.well Nn Fr u f2 hyf (by omega)
      rw [hu] at hA
      skip
      clear hK hK1
      go_wp2_with fail
      refine hA.mono ?_
      rintro e w8 ⟨g, cp, d', z, rfl, K8, G8, hyf8, hz8⟩
      clear hA
      have HG8 : Hid (Grow _ d') := HG.out.trans G8
      go_wp2_with fail
      go_roundg (ss.length - (i + 1))
      case measure => omega
      case rel => exact ⟨i + 1, _, d', rfl, by omega, by simp, by simpa using K8, HG8, by simp; omega, hyf8⟩
    · obtain rfl : i = ss.length := by omega
      have hlt' : ¬ (ss.length : Int) < (ss.length : Int) := by omega
      have hP1 := ownz_parts hK HG.out.fine
      clear hs hfs
      go_wp2_with fail
      refine hP1.mono ?_
      rintro e W3 ⟨q1, rfl, hq1, hb1, K3, k3⟩
      clear hP1 hK
      have hP2 := ownz_parts K3 HG.out.fine
      go_wp2_with fail
      refine hP2.mono ?_
      rintro e W4 ⟨q2, rfl, hq2, hb2, K4, k4⟩
      clear hP2 K3
      have hb1' := hb1
      have hb1 := blkA k4 hb1
      have hA1 := ownz_allR K4 HG.out.fine HG.out.well [5, 40, 5] (by decide) (by decide) (fun z hz => by simp at hz; omega)
      go_wp2_with fail
      refine hA1.mono ?_
      rintro e W5 ⟨ao, os, x, d1, rfl, hxy, hroA, K5, G5, hz5, hol, hos⟩
      have hol' : os.length ≤ 3 := hol
      have hxy' : (x == 0) = ((os.length : Int) == 3) := hxy
      have HG5 : Hid (Grow d d1) := G5
      have hL0 := lives_len HG.out.fine
      have hp1A : W5.heap[q1]? = some (.cells (partC d.L d.lv).toArray 38) := (hz5 q1 (Or.inl (Or.inr rfl))).trans hb1
      have hp2A : W5.heap[q2]? = some (.cells (partC d.L d.lv).toArray 38) := (hz5 q2 (Or.inr rfl)).trans hb2
      obtain ⟨gw, cw, W6, hapw, hrwA, hgw, k6⟩ := copy_parts (parts_row hp1A (Nat.zero_le _) hL0) hL0
      obtain ⟨gl, cl, W7, hapl, hrl, hgl, k7⟩ := copy_ints (k6.rowK hroA) (by omega)
      have K6 := K5.add k6 (fun k => k = gw) (fun q e => by subst e; exact ⟨hgw, (hrwA.lt _ rfl).2⟩)
      have K7 := K6.add k7 (fun k => k = gl) (fun q e => by subst e; exact ⟨hgl, (hrl.lt _ rfl).2⟩)
      have hlt5 : (os.length : Int) ≤ 3 := by omega
      have hrw := k7.rowK hrwA
      have hro := k7.rowK (k6.rowK hroA)
      have hp1 := blkA k7 (blkA k6 hp1A)
      have hp2 := blkA k7 (blkA k6 hp2A)
      have hN : Aside (q1 < q2 ∧ q2 < gw ∧ gw < gl ∧ gl < W7.heap.size ∧ ∀ k, RowX ao k → q2 < k ∧ k < gw) := by
        have e1 := heap_lt hb1'
        have e2 := heap_lt hb2
        have e3 := heap_lt hp2A
        have e4 := (hrwA.lt gw rfl).2
        have e5 := (hrl.lt gl rfl).2
        refine ⟨by omega, by omega, by omega, e5, fun k hk => ?_⟩
        have := hroA.lt k (by rw [hk]; rfl)
        omega
      clear hA1 K4 K5 K6 hz5 hb1 hb1' hb2 k3 k4 k6 k7 hq1 hq2 hol hxy hgw hgl G5 hp1A hp2A hroA hrwA hos
      go_wp2_with fail
      refine (hnum _ _).mono ?_
      rintro e w5 ⟨rfl, rfl⟩
      go_wp2_with (first | (at_builtin; first | (have _t := hapw; refine app_run _ rfl (.tmp 84) (.tmp 85) 32 rfl rfl rfl hapw ?_; clear hapw) | (have _t := hapl; refine app_run _ rfl (.tmp 87) (.tmp 88) 28 rfl rfl rfl hapl ?_; clear hapl)))
      have hyl0 := hyl
      have hyf0 := hyf
      clear hyl hyf
      go_loopg [9, 92] tt.length (fun g v9 v92 wr => ∃ (i : Nat) (zs : List Int) (d2 : AD), g = tt.length - i ∧ i ≤ tt.length ∧ v92 = .int .i64 (i : Int) ∧ OwnZ w wr p (fun k => (((((False ∨ k = q1) ∨ k = q2) ∨ RowX ao k) ∨ k = gw) ∨ k = gl)) v9 zs d2 ∧ Hid (Grow d1 d2) ∧ zs.length ≤ ss.length + i ∧ (∀ z ∈ zs, fitsI z) ∧ ∀ k, (((((False ∨ k = q1) ∨ k = q2) ∨ RowX ao k) ∨ k = gw) ∨ k = gl) → wr.heap[k]? = W7.heap[k]?)
      case atStart => exact ⟨0, _, d1, rfl, Nat.zero_le _, rfl, K7, Grow.refl HG5.out.fine HG5.out.well, by omega, hyf0, fun _ _ => rfl⟩
      case round =>
        clear K7
        obtain ⟨i, ys, d2, rfl, hi, rfl, hK, HG2, hyl, hyf, hz2⟩ := hrel
        by_cases hlt : i < tt.length
        · rcases ht with rfl | ⟨b1, o1, rfl, hb1, hc⟩
          · simp at hlt
          obtain ⟨x1, x2⟩ := hc i hlt
          replace x1 := hK.own.keeps.cellK x1
          replace x2 := hK.own.keeps.cellK x2
          obtain ⟨f1, f2⟩ := hft _ (List.getElem_mem hlt)
          have hlt' : (i : Int) < (tt.length : Int) := by omega
          have hil : (i : Int) ≤ 8796093022000 := by omega
          generalize tt[i].1 = Nn at *
          generalize tt[i].2 = Fr at *
          clear hc hft
          have hK1 := hK.stay ((Keeps.refl _ _).alloc (.cells #[.int .i64 Nn, .int .i64 Fr] 30))
          obtain ⟨u, hu⟩ : ∃ u : UInt8, (u.toNat : Int) = IntKind.u8.wrap (i : Int) := ⟨UInt8.ofNat i, by
            rw [IntKind.wrap_u8]
            simp⟩
          have hA := actZ_any hK1 HG2.out.fine HG2.out.well Nn Fr u f2 hyf (by omega)
          rw [hu] at hA
          have hzlt := fun k hk => (hK.zs k hk).2.1
          clear hK hK1
          go_wp2_with fail
          refine hA.mono ?_
          rintro e w8 ⟨g, cp, d', z, rfl, K8, G8, hyf8, hz8⟩
          clear hA
          have HG9 : Hid (Grow d1 d') := HG2.out.trans G8
          go_wp2_with fail
          go_roundg (tt.length - (i + 1))
          case measure => omega
          case rel => exact ⟨i + 1, _, d', rfl, by omega, by simp, by simpa using K8, HG9, by simp; omega, hyf8, fun k hk => (hz8 k hk).trans ((((Keeps.refl wr (fun _ => False)).alloc _).block k (hzlt k hk) id).trans (hz2 k hk))⟩
        · obtain rfl : i = tt.length := by omega
          have hlt' : ¬ (tt.length : Int) < (tt.length : Int) := by omega
          clear ht hft
          have hA2 := ownz_allR hK HG2.out.fine HG2.out.well [7, 41] (by decide) (by decide) (fun z hz => by simp at hz; omega)
          go_wp2_with fail
          refine hA2.mono ?_
          rintro e W8 ⟨am, ms, y, d3, rfl, hxy2, hrm, K8, G8, hz8, hml, hms⟩
          have hml' : ms.length ≤ 2 := hml
          have hxy2' : (y == 0) = ((ms.length : Int) == 2) := hxy2
          have HG8 : Hid (Grow d d3) := HG5.out.trans (HG2.out.trans G8)
          have hfst : Aside (∀ i (hi : i < ms.length), 16 ≤ ms[i] ∧ (0 < i → ∀ h0 : 0 < ms.length, ms[i] ≠ ms[0])) := by
            rcases hms with rfl | ⟨hf, e⟩
            · exact fun i hi => by simp at hi
            · obtain ⟨o1, o2, e2, h1, h2, h3⟩ := all_two HG2.out.fine HG2.out.well (fun z hz => by simp at hz; omega) hf
              rw [e2] at e
              subst e
              intro i hi
              match i, hi with
              | 0, _ => exact ⟨by simp; omega, fun h => by omega⟩
              | 1, _ => exact ⟨by simp; omega, fun _ _ => by simp; omega⟩
          have hglr : gl < wr.heap.size := (hK.zs gl (by simp)).2.1
          have hkeep : ∀ k, (((((False ∨ k = q1) ∨ k = q2) ∨ RowX ao k) ∨ k = gw) ∨ k = gl) → W8.heap[k]? = W7.heap[k]? := fun k hk => (hz8 k hk).trans (hz2 k hk)
          have hp1B := (hkeep q1 (by simp)).trans hp1
          have hp2B := (hkeep q2 (by simp)).trans hp2
          have hroB := row_kept hro (fun b hb => hkeep b (Or.inl (Or.inl (Or.inr (by
            rcases ao with _ | a
            · cases hb
            · obtain ⟨b', o', s'⟩ := a
              rcases hro.2 with ⟨e, _⟩ | ⟨g, cap, cur, e, _⟩
              · cases e
              · cases e
                simp [Value.ownBlock] at hb
                subst hb
                rfl)))))
          have hrwB := row_kept hrw (fun b hb => hkeep b (by simp [Value.ownBlock] at hb; subst hb; simp))
          have hrlB := row_kept hrl (fun b hb => hkeep b (by simp [Value.ownBlock] at hb; subst hb; simp))
          have hi1 : IntsAt W8 ao os := fun j hj => by
            obtain ⟨so, cap, e, hr, _⟩ := row_of_own hroB
            cases e
            obtain ⟨b, e1, e2⟩ := hr j hj
            exact ⟨b, 0, e1, by rw [Nat.zero_add]; exact e2⟩
          have hi2 : IntsAt W8 (some ⟨gl, 0, none⟩) os := fun j hj => by
            obtain ⟨so, cap, e, hr, _⟩ := row_of_own hrlB
            cases e
            obtain ⟨b, e1, e2⟩ := hr j hj
            exact ⟨b, 0, e1, by rw [Nat.zero_add]; exact e2⟩
          have hSm := fun W (k : Keeps W8 W (fun _ => False)) => same_true ao (some ⟨gl, 0, none⟩) os.length cl os W (by omega) (fun j hj => by
            obtain ⟨b, o, e1, e2⟩ := hi1 j hj
            exact ⟨b, o, e1, k.cellK e2⟩) (fun j hj => by
            obtain ⟨b, o, e1, e2⟩ := hi2 j hj
            exact ⟨b, o, e1, k.cellK e2⟩)
          have hm2 : (ms.length : Int) ≤ 2 := by omega
          clear hp1 hp2 hro hrw hrl
          clear hA2 hK hz8 hz2 hkeep hi1 hi2 hms hml hxy2 G8 hyf hyl
          go_wp2_with fail
          refine (hnum _ _).mono ?_
          rintro e W8 ⟨rfl, rfl⟩
          go_wp2_with fail
          refine (hSm _ (Keeps.refl _ _)).mono ?_
          rintro e W9 ⟨rfl, k9⟩
          have K9 := K8.stay k9
          have hP3 := ownz_parts K9 HG8.out.fine
          clear K8
          go_wp2_with fail
          refine hP3.mono ?_
          rintro e W10 ⟨q5, rfl, hq5, hb5, K10, k10⟩
          have hL3 := lives_len HG8.out.fine
          obtain ⟨g6, c6, W11, hap6, hr6, hg6, k11⟩ := copy_parts (parts_row hb5 (Nat.zero_le _) hL3) hL3
          have K11 := K10.stay k11
          have k811 : Keeps W8 W11 (fun _ => False) := k9.trans (k10.trans k11 (fun _ _ e => e)) (fun _ _ e => e)
          have hpl : d.L.length ≤ d3.L.length := HG8.out.pre.length_le
          have hpl' : (d.L.length : Int) ≤ (d3.L.length : Int) := by omega
          have hL3' : (d3.L.length : Int) ≤ 134217728 := by omega
          clear hP3 K9 K10
          go_wp2_with (first | (at_builtin; (have _t := hap6; refine app_run _ rfl (.tmp 125) (.tmp 126) 32 rfl rfl rfl hap6 ?_; clear hap6)))
          refine (hSm _ k811).mono ?_
          rintro e W12 ⟨rfl, k12⟩
          have K12 := K11.stay k12
          have k812 := k811.trans k12 (fun _ _ e => e)
          have hp1 := parts_row (blkA k812 hp1B) (Nat.zero_le _) hL0
          have hp2 := parts_row (blkA k812 hp2B) (Nat.zero_le _) hL0
          have hp5 := parts_row (blkA k12 (blkA k11 hb5)) (Nat.zero_le _) hL3
          have hro := k812.rowK hroB
          have hrw := k812.rowK hrwB
          have hrmC := k812.rowK hrm
          have hr6C := k12.rowK hr6
          have hN5 : Aside (q1 < q2 ∧ q2 < gw ∧ gw < gl ∧ gl < q5 ∧ q5 < g6 ∧ (∀ k, RowX ao k → q2 < k ∧ k < gw) ∧ (∀ k, RowX am k → gl < k ∧ k < q5)) := by
            obtain ⟨m1, m2, m3, m4, m5⟩ := hN.out
            have s9 := k9.size
            have s5 := heap_lt hb5
            have sl := (hrlB.lt gl rfl).2
            refine ⟨m1, m2, m3, by omega, by omega, m5, fun k hk => ?_⟩
            have := hrm.lt k (by rw [hk]; rfl)
            omega
          obtain ⟨Z, hKZ, hZ1, hZ2, hZ5, hZo⟩ : ∃ Z : Nat → Prop, OwnZ w W12 p Z u9 ys d3 ∧ Z q1 ∧ Z q2 ∧ Z q5 ∧ ∀ k, RowX ao k → Z k := ⟨_, K12, by simp, by simp, by simp, fun k hk => by simp [hk]⟩
          clear K12
          clear hrlB hSm K11 hp1B hp2B hroB hrwB hrm hr6 hb5
          have hcmp : Aside (∀ i (hi : i < d.L.length), ∃ (A B : Int) (C C' : Bool), W12.cell? ⟨q1, i * 3, none⟩ = some (.int .i64 A) ∧ W12.cell? ⟨q1, i * 3 + 1, none⟩ = some (.int .i64 B) ∧ W12.cell? ⟨q1, i * 3 + 2, none⟩ = some (.bool C) ∧ W12.cell? ⟨q2, i * 3, none⟩ = some (.int .i64 A) ∧ W12.cell? ⟨q2, i * 3 + 1, none⟩ = some (.int .i64 B) ∧ W12.cell? ⟨q2, i * 3 + 2, none⟩ = some (.bool C) ∧ W12.cell? ⟨gw, i * 3, none⟩ = some (.int .i64 A) ∧ W12.cell? ⟨gw, i * 3 + 1, none⟩ = some (.int .i64 B) ∧ W12.cell? ⟨gw, i * 3 + 2, none⟩ = some (.bool C) ∧ W12.cell? ⟨q5, i * 3, none⟩ = some (.int .i64 A) ∧ W12.cell? ⟨q5, i * 3 + 1, none⟩ = some (.int .i64 B) ∧ W12.cell? ⟨q5, i * 3 + 2, none⟩ = some (.bool C')) := fun i hi => by
            have hi3 : i < d3.L.length := by omega
            obtain ⟨e0, e1, e2⟩ := partC_get d.L d.lv i hi
            obtain ⟨f0, f1, f2⟩ := partC_get d3.L d3.lv i hi3
            have hpre : d3.L[i] = d.L[i] := (List.IsPrefix.getElem HG8.out.pre hi).symm
            rw [hpre] at f0 f1 f2
            refine ⟨_, _, _, _, (hp1.cellAt _ (by omega)).trans e0, (hp1.cellAt _ (by omega)).trans e1, (hp1.cellAt _ (by omega)).trans e2, (hp2.cellAt _ (by omega)).trans e0, (hp2.cellAt _ (by omega)).trans e1, (hp2.cellAt _ (by omega)).trans e2, (hrw.cellAt _ (by omega)).trans e0, (hrw.cellAt _ (by omega)).trans e1, (hrw.cellAt _ (by omega)).trans e2, (hp5.cellAt _ (by omega)).trans f0, (hp5.cellAt _ (by omega)).trans f1, (hp5.cellAt _ (by omega)).trans f2⟩
          have hL0' : (d.L.length : Int) ≤ 134217728 := by omega
          go_wp2_with fail
          go_loopg [148] d.L.length (fun g v148 wr => ∃ i : Nat, g = d.L.length - i ∧ i ≤ d.L.length ∧ v148 = .int .i64 (i : Int) ∧ Keeps W12 wr (fun _ => False))
          case atStart => exact ⟨0, rfl, Nat.zero_le _, rfl, Keeps.refl _ _⟩
          case round =>
            obtain ⟨i, rfl, hi, rfl, kr⟩ := hrel
            by_cases hlt : i < d.L.length
            · obtain ⟨A, B, C, C', a1, a2, a3, b1, b2, b3, c1, c2, c3, e1, e2, e3⟩ := hcmp.out i hlt
              have hlt' : (i : Int) < (d.L.length : Int) := by omega
              have hlt3 : (i : Int) < (d3.L.length : Int) := by omega
              replace a1 := kr.cellK a1
              replace a2 := kr.cellK a2
              replace a3 := kr.cellK a3
              replace b1 := kr.cellK b1
              replace b2 := kr.cellK b2
              replace b3 := kr.cellK b3
              replace c1 := kr.cellK c1
              replace c2 := kr.cellK c2
              replace c3 := kr.cellK c3
              replace e1 := kr.cellK e1
              replace e2 := kr.cellK e2
              replace e3 := kr.cellK e3
              clear hp1 hp2 hrw hp5 hro hrmC hr6C hcmp hKZ
              go_wp2_with fail
              go_quiet (fail)
              go_wp2_with fail
              go_roundg (d.L.length - (i + 1))
              case measure => omega
              case rel => exact ⟨i + 1, rfl, by omega, by simp, ⟨kr.os, kr.tape, kr.output, kr.size, kr.block⟩⟩
            · obtain rfl : i = d.L.length := by omega
              have hlt' : ¬ (d.L.length : Int) < (d.L.length : Int) := by omega
              have F1 : Filled wr q1 d.L.length d.L.length 0 (-1) := Filled.start (kr.rowK hp1)
              have F2 : Filled wr q2 d.L.length d.L.length 0 (-2) := Filled.start (kr.rowK hp2)
              obtain ⟨W13, hW13⟩ : ∃ W, W = wr := ⟨_, rfl⟩
              rw [← hW13] at kr
              clear hcmp hp1 hp2
              go_wp2_with fail
              go_loopg [200] d.L.length (fun g v200 wr => ∃ i : Nat, g = d.L.length - i ∧ i ≤ d.L.length ∧ v200 = .int .i64 (i : Int) ∧ Filled wr q1 d.L.length d.L.length i (-1) ∧ Filled wr q2 d.L.length d.L.length i (-2) ∧ Keeps W13 wr (fun k => k = q1 ∨ k = q2))
              case atStart => exact ⟨0, rfl, Nat.zero_le _, rfl, F1, F2, by rw [hW13]; exact Keeps.refl _ _⟩
              case round =>
                clear F1 F2 hW13
                obtain ⟨i, rfl, hi, rfl, F1, F2, k2⟩ := hrel
                by_cases hlt : i < d.L.length
                · have hne : q1 ≠ q2 := by have := hN5.out.1; omega
                  obtain ⟨v0, a0⟩ := F1.has (j := i * 3) (by omega)
                  obtain ⟨v1, a1⟩ := F1.has (j := i * 3 + 1) (by omega)
                  obtain ⟨v2, a2⟩ := F1.has (j := i * 3 + 2) (by omega)
                  obtain ⟨v3, b0⟩ := F2.has (j := i * 3) (by omega)
                  obtain ⟨v4, b1⟩ := F2.has (j := i * 3 + 1) (by omega)
                  obtain ⟨v5, b2⟩ := F2.has (j := i * 3 + 2) (by omega)
                  have f0 := F1.frozen (i * 3)
                  have f1 := F1.frozen (i * 3 + 1)
                  have f2 := F1.frozen (i * 3 + 2)
                  have f3 := F2.frozen (i * 3)
                  have f4 := F2.frozen (i * 3 + 1)
                  have f5 := F2.frozen (i * 3 + 2)
                  have hlt' : (i : Int) < (d.L.length : Int) := by omega
                  have HF : Hid (Filled ((((((wr.setCell ⟨q1, i * 3, none⟩ (.int .i64 (-1))).setCell ⟨q1, i * 3 + 1, none⟩ (.int .i64 0)).setCell ⟨q1, i * 3 + 2, none⟩ (.bool false)).setCell ⟨q2, i * 3, none⟩ (.int .i64 (-2))).setCell ⟨q2, i * 3 + 1, none⟩ (.int .i64 0)).setCell ⟨q2, i * 3 + 2, none⟩ (.bool false)) q1 d.L.length d.L.length (i + 1) (-1) ∧ Filled ((((((wr.setCell ⟨q1, i * 3, none⟩ (.int .i64 (-1))).setCell ⟨q1, i * 3 + 1, none⟩ (.int .i64 0)).setCell ⟨q1, i * 3 + 2, none⟩ (.bool false)).setCell ⟨q2, i * 3, none⟩ (.int .i64 (-2))).setCell ⟨q2, i * 3 + 1, none⟩ (.int .i64 0)).setCell ⟨q2, i * 3 + 2, none⟩ (.bool false)) q2 d.L.length d.L.length (i + 1) (-2) ∧ Keeps W13 ((((((wr.setCell ⟨q1, i * 3, none⟩ (.int .i64 (-1))).setCell ⟨q1, i * 3 + 1, none⟩ (.int .i64 0)).setCell ⟨q1, i * 3 + 2, none⟩ (.bool false)).setCell ⟨q2, i * 3, none⟩ (.int .i64 (-2))).setCell ⟨q2, i * 3 + 1, none⟩ (.int .i64 0)).setCell ⟨q2, i * 3 + 2, none⟩ (.bool false)) (fun k => k = q1 ∨ k = q2)) :=
                    ⟨((((F1.step hlt _ _).other hne _).other hne _).other hne _), ((((F2.other hne.symm _).other hne.symm _).other hne.symm _).step hlt _ _), (((((k2.setCell _ (fun _ => Or.inl rfl) _).setCell _ (fun _ => Or.inl rfl) _).setCell _ (fun _ => Or.inl rfl) _).setCell _ (fun _ => Or.inr rfl) _).setCell _ (fun _ => Or.inr rfl) _).setCell _ (fun _ => Or.inr rfl) _⟩
                  clear F1 F2 k2 hp5 hro hrw hrmC hr6C
                  go_wp2_with fail
                  go_roundg (d.L.length - (i + 1))
                  case measure => omega
                  case rel => exact ⟨i + 1, rfl, by omega, by simp, HF.out.1, HF.out.2.1, HF.out.2.2⟩
                · obtain rfl : i = d.L.length := by omega
                  have hlt' : ¬ (d.L.length : Int) < (d.L.length : Int) := by omega
                  obtain ⟨n1, n2, n3, n4, n5, n6, n7⟩ := hN5.out
                  have hp5b := row_kept (kr.rowK hp5) (fun b hb => k2.block b ((kr.rowK hp5).lt b hb).2 (fun e => by simp [Value.ownBlock] at hb; omega))
                  have hrob := row_kept (kr.rowK hro) (fun b hb => k2.block b ((kr.rowK hro).lt b hb).2 (fun e => by have := n6 b (rowX_of hb hro); omega))
                  have hrmb := row_kept (kr.rowK hrmC) (fun b hb => k2.block b ((kr.rowK hrmC).lt b hb).2 (fun e => by have := n7 b (rowX_of hb hrmC); omega))
                  have hr6b := row_kept (kr.rowK hr6C) (fun b hb => k2.block b ((kr.rowK hr6C).lt b hb).2 (fun e => by simp [Value.ownBlock] at hb; omega))
                  have KZ : Keeps W12 wr Z := (kr.mono (fun _ _ e => e.elim)).trans k2 (fun k _ e => by rcases e with rfl | rfl <;> assumption)
                  have F5 : Filled wr q5 d3.L.length d3.L.length 0 (-3) := Filled.start hp5b
                  obtain ⟨W14, hW14⟩ : ∃ W, W = wr := ⟨_, rfl⟩
                  rw [← hW14] at KZ hrob hrmb hr6b F1 F2
                  clear kr k2 hp5 hp5b hro hrmC hr6C hrw n1 n2 n3 n4 n5 n6 n7
                  go_wp2_with fail
                  go_loopg [214] d3.L.length (fun g v214 wr => ∃ i : Nat, g = d3.L.length - i ∧ i ≤ d3.L.length ∧ v214 = .int .i64 (i : Int) ∧ Filled wr q5 d3.L.length d3.L.length i (-3) ∧ Keeps W14 wr (fun k => k = q5))
                  case atStart => exact ⟨0, rfl, Nat.zero_le _, rfl, F5, by rw [hW14]; exact Keeps.refl _ _⟩
                  case round =>
                    clear F5 hW14
                    obtain ⟨i, rfl, hi, rfl, F5, k3⟩ := hrel
                    by_cases hlt : i < d3.L.length
                    · obtain ⟨v0, a0⟩ := F5.has (j := i * 3) (by omega)
                      obtain ⟨v1, a1⟩ := F5.has (j := i * 3 + 1) (by omega)
                      obtain ⟨v2, a2⟩ := F5.has (j := i * 3 + 2) (by omega)
                      have f0 := F5.frozen (i * 3)
                      have f1 := F5.frozen (i * 3 + 1)
                      have f2 := F5.frozen (i * 3 + 2)
                      have hlt' : (i : Int) < (d3.L.length : Int) := by omega
                      have HF : Hid (Filled (((wr.setCell ⟨q5, i * 3, none⟩ (.int .i64 (-3))).setCell ⟨q5, i * 3 + 1, none⟩ (.int .i64 0)).setCell ⟨q5, i * 3 + 2, none⟩ (.bool false)) q5 d3.L.length d3.L.length (i + 1) (-3) ∧ Keeps W14 (((wr.setCell ⟨q5, i * 3, none⟩ (.int .i64 (-3))).setCell ⟨q5, i * 3 + 1, none⟩ (.int .i64 0)).setCell ⟨q5, i * 3 + 2, none⟩ (.bool false)) (fun k => k = q5)) :=
                        ⟨F5.step hlt _ _, ((k3.setCell _ (fun _ => rfl) _).setCell _ (fun _ => rfl) _).setCell _ (fun _ => rfl) _⟩
                      clear F1 F2 F5 k3 hrob hrmb hr6b KZ
                      go_wp2_with fail
                      go_roundg (d3.L.length - (i + 1))
                      case measure => omega
                      case rel => exact ⟨i + 1, rfl, by omega, by simp, HF.out.1, HF.out.2⟩
                    · obtain rfl : i = d3.L.length := by omega
                      have hlt' : ¬ (d3.L.length : Int) < (d3.L.length : Int) := by omega
                      obtain ⟨n1, n2, n3, n4, n5, n6, n7⟩ := hN5.out
                      have F1b := F1.kept (k3.block q1 (by obtain ⟨xs, h1, _⟩ := F1; exact (h1.lt q1 rfl).2) (by omega))
                      have F2b := F2.kept (k3.block q2 (by obtain ⟨xs, h1, _⟩ := F2; exact (h1.lt q2 rfl).2) (by omega))
                      have hroc := row_kept hrob (fun b hb => k3.block b (hrob.lt b hb).2 (by have := n6 b (rowX_of hb hrob); omega))
                      have hrmc := row_kept hrmb (fun b hb => k3.block b (hrmb.lt b hb).2 (by have := n7 b (rowX_of hb hrmb); omega))
                      have hr6c := row_kept hr6b (fun b hb => k3.block b (hr6b.lt b hb).2 (by simp [Value.ownBlock] at hb; omega))
                      have KZb : Keeps W12 wr Z := KZ.trans k3 (fun k _ e => by rw [e]; exact hZ5)
                      have FI : FilledI wr (.slice ao os.length os.length) os.length 0 := ⟨_, row_low hroc, fun j hj => by omega⟩
                      obtain ⟨W15, hW15⟩ : ∃ W, W = wr := ⟨_, rfl⟩
                      rw [← hW15] at KZb hrmc hr6c F1b F2b F5
                      clear F1 F2 hrob hrmb hr6b KZ k3 hroc n1 n2 n3 n4 n5 n6 n7
                      go_wp2_with fail
                      go_loopg [224] os.length (fun g v224 wr => ∃ i : Nat, g = os.length - i ∧ i ≤ os.length ∧ v224 = .int .i64 (i : Int) ∧ FilledI wr (.slice ao os.length os.length) os.length i ∧ Keeps W15 wr (fun k => RowX ao k))
                      case atStart => exact ⟨0, rfl, Nat.zero_le _, rfl, FI, by rw [hW15]; exact Keeps.refl _ _⟩
                      case round =>
                        clear FI hW15
                        obtain ⟨i, rfl, hi, rfl, FI, k4⟩ := hrel
                        by_cases hlt : i < os.length
                        · obtain ⟨bo, co, hv⟩ := FI.form (by omega)
                          cases hv
                          obtain ⟨⟨v0, a0⟩, f0⟩ := FI.has hlt
                          have hlt' : (i : Int) < (os.length : Int) := by omega
                          have HF : Hid (FilledI (wr.setCell ⟨bo, i, none⟩ (.int .i64 (-4))) (.slice (some ⟨bo, 0, none⟩) os.length os.length) os.length (i + 1) ∧ Keeps W15 (wr.setCell ⟨bo, i, none⟩ (.int .i64 (-4))) (fun k => RowX (some ⟨bo, 0, none⟩) k)) := ⟨FI.step hlt, k4.setCell ⟨bo, i, none⟩ (fun _ => (rfl : RowX (some ⟨bo, 0, none⟩) bo)) _⟩
                          clear F1b F2b F5 FI k4 hrmc hr6c KZb
                          go_wp2_with fail
                          go_roundg (os.length - (i + 1))
                          case measure => omega
                          case rel => exact ⟨i + 1, rfl, by omega, by simp, HF.out.1, HF.out.2⟩
                        · obtain rfl : i = os.length := by omega
                          have hlt' : ¬ (os.length : Int) < (os.length : Int) := by omega
                          obtain ⟨n1, n2, n3, n4, n5, n6, n7⟩ := hN5.out
                          have F1c := F1b.kept (k4.block q1 (by obtain ⟨xs, h1, _⟩ := F1b; exact (h1.lt q1 rfl).2) (fun e => by have := n6 q1 e; omega))
                          have F2c := F2b.kept (k4.block q2 (by obtain ⟨xs, h1, _⟩ := F2b; exact (h1.lt q2 rfl).2) (fun e => by have := n6 q2 e; omega))
                          have F5c := F5.kept (k4.block q5 (by obtain ⟨xs, h1, _⟩ := F5; exact (h1.lt q5 rfl).2) (fun e => by have := n6 q5 e; omega))
                          have hrmd := row_kept hrmc (fun b hb => k4.block b (hrmc.lt b hb).2 (fun e => by have := n6 b e; have := n7 b (rowX_of hb hrmc); omega))
                          have hr6d := row_kept hr6c (fun b hb => k4.block b (hr6c.lt b hb).2 (fun e => by have := n6 b e; simp [Value.ownBlock] at hb; omega))
                          have KZc : Keeps W12 wr Z := KZb.trans k4 (fun k _ e => hZo k e)
                          have l1 : q1 < wr.heap.size := by obtain ⟨xs, h1, _⟩ := F1c; exact (h1.lt q1 rfl).2
                          have l2 : q2 < wr.heap.size := by obtain ⟨xs, h1, _⟩ := F2c; exact (h1.lt q2 rfl).2
                          have l5 : q5 < wr.heap.size := by obtain ⟨xs, h1, _⟩ := F5c; exact (h1.lt q5 rfl).2
                          have lo : ∀ k, Value.ownBlock (.slice ao os.length os.length) = some k → q2 < k ∧ k < gw ∧ k < wr.heap.size := fun k hk => by
                            obtain ⟨xs, h1, _⟩ := FI
                            have := n6 k (rowX_of hk h1)
                            exact ⟨this.1, this.2, (h1.lt k hk).2⟩
                          obtain ⟨t1, c1, W17, hap1, k17, ht1, hc1, hx1, hl1⟩ := F1c.push hL0 (-5)
                          have F2d := F2c.kept (k17.block q2 l2 (by omega))
                          obtain ⟨t2, c2, W18, hap2, k18, ht2, hc2, hx2, hl2'⟩ := F2d.push hL0 (-6)
                          have s17 := k17.size
                          have s18 := k18.size
                          have F5d := (F5c.kept (k17.block q5 l5 (by omega))).kept (k18.block q5 (by omega) (by omega))
                          obtain ⟨t5, c5, W19, hap5, k19, ht5, hc5, hx5, hl5⟩ := F5d.push hL3 (-7)
                          have s19 := k19.size
                          have FId := ((FI.kept (fun b hb => k17.block b (lo b hb).2.2 (by have := (lo b hb).1; omega))).kept (fun b hb => k18.block b (by have := (lo b hb).2.2; omega) (by have := (lo b hb).1; omega))).kept (fun b hb => k19.block b (by have := (lo b hb).2.2; omega) (by have := (lo b hb).2.1; omega))
                          obtain ⟨t8, c8, W20, hap8, k20, ht8, hx8, hl8⟩ := FId.push (by omega) (-8)
                          have s20 := k20.size
                          have A1 : Aside (∀ j, j < d.L.length → W20.cell? ⟨t1, j * 3, none⟩ = some (.int .i64 (-1)) ∧ W20.cell? ⟨t2, j * 3, none⟩ = some (.int .i64 (-2)) ∧ W20.cell? ⟨t5, j * 3, none⟩ = some (.int .i64 (-3))) := fun j hj =>
                            ⟨cellS k20 (cellS k19 (cellS k18 (hc1 j hj) (by omega)) (by omega)) (fun e => by have := lo t1 e; omega), cellS k20 (cellS k19 (hc2 j hj) (by omega)) (fun e => by have := lo t2 e; omega), cellS k20 (hc5 j (by omega)) (fun e => by have := lo t5 e; omega)⟩
                          have y1 : W20.cell? ⟨t1, d.L.length * 3, none⟩ = some (.int .i64 (-5)) := cellS k20 (cellS k19 (cellS k18 hx1 (by omega)) (by omega)) (fun e => by have := lo t1 e; omega)
                          have y2 : W20.cell? ⟨t2, d.L.length * 3, none⟩ = some (.int .i64 (-6)) := cellS k20 (cellS k19 hx2 (by omega)) (fun e => by have := lo t2 e; omega)
                          have y5 : W20.cell? ⟨t5, d3.L.length * 3, none⟩ = some (.int .i64 (-7)) := cellS k20 hx5 (fun e => by have := lo t5 e; omega)
                          have hrme := row_kept (row_kept (row_kept (row_kept hrmd (fun b hb => k17.block b (hrmd.lt b hb).2 (by have := n7 b (rowX_of hb hrmd); omega))) (fun b hb => k18.block b (by have := (hrmd.lt b hb).2; omega) (by have := n7 b (rowX_of hb hrmd); omega))) (fun b hb => k19.block b (by have := (hrmd.lt b hb).2; omega) (by have := n7 b (rowX_of hb hrmd); omega))) (fun b hb => k20.block b (by have := (hrmd.lt b hb).2; omega) (fun e => by have := n7 b (rowX_of hb hrmd); have := lo b e; omega))
                          have hr6e := row_kept (row_kept (row_kept (row_kept hr6d (fun b hb => k17.block b (hr6d.lt b hb).2 (by simp [Value.ownBlock] at hb; omega))) (fun b hb => k18.block b (by have := (hr6d.lt b hb).2; omega) (by simp [Value.ownBlock] at hb; omega))) (fun b hb => k19.block b (by have := (hr6d.lt b hb).2; omega) (by simp [Value.ownBlock] at hb; omega))) (fun b hb => k20.block b (by have := (hr6d.lt b hb).2; omega) (fun e => by simp [Value.ownBlock] at hb; have := lo b e; omega))
                          have KZd : Keeps W12 W20 Z := (((KZc.trans k17 (fun k _ e => by rw [e]; exact hZ1)).trans k18 (fun k _ e => by rw [e]; exact hZ2)).trans k19 (fun k _ e => by rw [e]; exact hZ5)).trans k20 (fun k _ e => by
                            obtain ⟨xs, h1, _⟩ := FId
                            exact hZo k (rowX_of e h1))
                          have hOw := hKZ.wrote KZd
                          have hro3 : (os.length : Int) ≤ 3 := hlt5
                          clear F1b F2b F5 F1c F2c F5c F2d F5d FI FId KZb KZc KZd k4 k17 k18 k19 k20 hrmc hr6c hrmd hr6d lo hc1 hc2 hc5 hx1 hx2 hx5 hKZ n1 n2 n3 n4 n5 n6 n7 ht1 ht2 ht5 ht8 hl1 hl2' hl5 hl8 l1 l2 l5 s17 s18 s19 s20 hN hN5
                          go_wp2_with (first | (at_builtin; first | (have _t := hap1; refine app_run _ rfl (.tmp 231) (.tmp 233) 32 rfl rfl rfl hap1 ?_; clear hap1) | (have _t := hap2; refine app_run _ rfl (.tmp 235) (.tmp 237) 32 rfl rfl rfl hap2 ?_; clear hap2) | (have _t := hap5; refine app_run _ rfl (.tmp 239) (.tmp 241) 32 rfl rfl rfl hap5 ?_; clear hap5) | (have _t := hap8; refine app_run _ rfl (.tmp 243) (.tmp 244) 28 rfl rfl rfl hap8 ?_; clear hap8)))
                          obtain ⟨sm, cm, hvm, hRm, -⟩ := row_of_own hrme
                          cases hvm
                          go_loopg [248] ms.length (fun g v248 wr => ∃ i : Nat, g = ms.length - i ∧ i ≤ ms.length ∧ v248 = .int .i64 (i : Int) ∧ Keeps W20 wr (fun _ => False))
                          case atStart => exact ⟨0, rfl, Nat.zero_le _, rfl, Keeps.refl _ _⟩
                          case round =>
                            obtain ⟨i, rfl, hi, rfl, k5⟩ := hrel
                            by_cases hlt : i < ms.length
                            · obtain ⟨bm, rfl, e0⟩ := hRm 0 (by omega)
                              obtain ⟨bm', hbm, e1⟩ := hRm i hlt
                              cases hbm
                              obtain ⟨h16, hne⟩ := hfst.out i hlt
                              replace e0 := k5.cellK e0
                              replace e1 := k5.cellK e1
                              have hlt' : (i : Int) < (ms.length : Int) := by omega
                              have hlt0 : (0 : Int) < (ms.length : Int) := by omega
                              by_cases hi0 : i = 0
                              · have hpos : ¬ (0 : Int) < (i : Int) := by omega
                                generalize ms[0] = m0 at *
                                generalize ms[i] = mi at *
                                have h16' : ¬ mi < 16 := by omega
                                clear hne hRm hrme hr6e hOw A1 y1 y2 y5 hx8 hi0
                                go_wp2_with fail
                                refine wp_region_quiet_lit (by kernel_rfl) (by kernel_rfl) ?_
                                quiet_step (fail)
                                quiet_step (fail)
                                quiet_step (fail)
                                quiet_step (fail)
                                quiet_step (fail)
                                quiet_step (fail)
                                quiet_step (fail)
                                quiet_step (fail)
                                quiet_step (fail)
                                obtain ⟨bq, hbq0⟩ : ∃ b, b = false := ⟨_, rfl⟩
                                have hq1 : decide ((0 : Int) < (i : Int)) = bq := by rw [hbq0]; exact decide_eq_false (by omega)
                                have hq2 : decide (0 < i) = bq := by rw [hbq0]; exact decide_eq_false (by omega)
                                have hbq : Hid (bq = false) := hbq0
                                (first | rw [hq1] | rw [hq2])
                                clear hq1 hq2 hpos hbq0
                                refine wpQuiet_step (fun K hK => ?_)
                                refine skip_if (by (have hb := hbq.out; subst hb; exact Bool.false_ne_true)) ?_
                                go_simp
                                refine hK _ ?_
                                clear hK K
                                refine wpQuiet_step (fun K hK => ?_)
                                refine skip_if (by (have hb := hbq.out; subst hb; exact Bool.false_ne_true)) ?_
                                go_simp
                                refine hK _ ?_
                                clear hK K
                                refine wpQuiet_step (fun K hK => ?_)
                                refine skip_if (by (have hb := hbq.out; subst hb; exact Bool.false_ne_true)) ?_
                                go_simp
                                refine hK _ ?_
                                clear hK K
                                refine wpQuiet_step (fun K hK => ?_)
                                refine skip_if (by (have hb := hbq.out; subst hb; exact Bool.false_ne_true)) ?_
                                go_simp
                                refine hK _ ?_
                                clear hK K
                                refine wpQuiet_step (fun K hK => ?_)
                                refine skip_if (by (have hb := hbq.out; subst hb; exact Bool.false_ne_true)) ?_
                                go_simp
                                refine hK _ ?_
                                clear hK K
                                refine wpQuiet_step (fun K hK => ?_)
                                refine skip_if (by (have hb := hbq.out; subst hb; exact Bool.false_ne_true)) ?_
                                go_simp
                                refine hK _ ?_
                                clear hK K
                                refine wpQuiet_step (fun K hK => ?_)
                                refine skip_if (by (have hb := hbq.out; subst hb; exact Bool.false_ne_true)) ?_
                                go_simp
                                refine hK _ ?_
                                clear hK K
                                refine wpQuiet_step (fun K hK => ?_)
                                refine skip_if (by (have hb := hbq.out; subst hb; exact Bool.false_ne_true)) ?_
                                go_simp
                                refine hK _ ?_
                                clear hK K
                                obtain rfl := hbq.out
                                quiet_step (fail)
                                quiet_step (fail)
                                refine wpQuiet_nil ?_
                                intro _ hw'
                                obtain ⟨nq, hw''⟩ := hw'
                                subst hw''
                                go_wp2_with fail
                                go_roundg (ms.length - (i + 1))
                                case measure => omega
                                case rel => exact ⟨i + 1, rfl, by omega, by simp, ⟨k5.os, k5.tape, k5.output, k5.size, k5.block⟩⟩
                              · have hne' : (ms[i] == ms[0]) = false := beq_eq_false_iff_ne.2 (hne (by omega) (by omega))
                                generalize ms[0] = m0 at *
                                generalize ms[i] = mi at *
                                have h16' : ¬ mi < 16 := by omega
                                have hpos : (0 : Int) < (i : Int) := by omega
                                clear hne hRm hrme hr6e hOw A1 y1 y2 y5 hx8 hi0
                                go_wp2_with fail
                                refine wp_region_quiet_lit (by kernel_rfl) (by kernel_rfl) ?_
                                quiet_step (fail)
                                quiet_step (fail)
                                quiet_step (fail)
                                quiet_step (fail)
                                quiet_step (fail)
                                quiet_step (fail)
                                quiet_step (fail)
                                quiet_step (fail)
                                quiet_step (fail)
                                have hposN : 0 < i := by omega
                                have hd1 : decide ((0 : Int) < (i : Int)) = true := decide_eq_true (by omega)
                                have hd2 : decide (0 < i) = true := decide_eq_true (by omega)
                                (first | rw [hd1] | rw [hd2])
                                have hltN : 0 < ms.length := by omega
                                clear hd1 hd2 hposN hpos
                                quiet_step (fail)
                                quiet_step (fail)
                                quiet_step (fail)
                                quiet_step (fail)
                                quiet_step (fail)
                                quiet_step (fail)
                                quiet_step (fail)
                                quiet_step (fail)
                                quiet_step (fail)
                                quiet_step (fail)
                                refine wpQuiet_nil ?_
                                intro _ hw'
                                obtain ⟨nq, hw''⟩ := hw'
                                subst hw''
                                go_wp2_with fail
                                go_roundg (ms.length - (i + 1))
                                case measure => omega
                                case rel => exact ⟨i + 1, rfl, by omega, by simp, ⟨k5.os, k5.tape, k5.output, k5.size, k5.block⟩⟩
                            · obtain rfl : i = ms.length := by omega
                              have hlt' : ¬ (ms.length : Int) < (ms.length : Int) := by omega
                              clear hRm hrme hfst
                              go_wp2_with fail
                              go_loopg [273] d.L.length (fun g v273 wr => ∃ i : Nat, g = d.L.length - i ∧ i ≤ d.L.length ∧ v273 = .int .i64 (i : Int) ∧ Keeps W20 wr (fun _ => False))
                              case atStart => exact ⟨0, rfl, Nat.zero_le _, rfl, k5⟩
                              case round =>
                                clear k5
                                obtain ⟨i, rfl, hi, rfl, k5⟩ := hrel
                                by_cases hlt : i < d.L.length
                                · obtain ⟨z1, z2, z3⟩ := A1.out i hlt
                                  replace z1 := k5.cellK z1
                                  replace z2 := k5.cellK z2
                                  replace z3 := k5.cellK z3
                                  have hlt' : (i : Int) < (d.L.length : Int) := by omega
                                  clear hr6e hOw A1 y1 y2 y5 hx8
                                  go_wp2_with fail
                                  go_roundg (d.L.length - (i + 1))
                                  case measure => omega
                                  case rel => exact ⟨i + 1, rfl, by omega, by simp, k5⟩
                                · obtain rfl : i = d.L.length := by omega
                                  have hlt' : ¬ (d.L.length : Int) < (d.L.length : Int) := by omega
                                  have hPn := own_parts (hOw.stay k5) HG8.out.fine
                                  have hr6f := k5.rowK hr6e
                                  replace y1 := k5.cellK y1
                                  replace y2 := k5.cellK y2
                                  replace y5 := k5.cellK y5
                                  replace hx8 := k5.cellK hx8
                                  have kf0 : Hid (Keeps w wr (fun _ => False)) := (hOw.stay k5).keeps
                                  clear hr6e hOw k5 A1
                                  go_wp2_with fail
                                  refine hPn.mono ?_
                                  rintro e W21 ⟨q9, rfl, hq9, hb9, k21⟩
                                  replace y1 := k21.cellK y1
                                  replace y2 := k21.cellK y2
                                  replace y5 := k21.cellK y5
                                  replace hx8 := k21.cellK hx8
                                  have hr6g := k21.rowK hr6f
                                  have hr9 := parts_row hb9 (Nat.zero_le _) hL3
                                  have kf1 : Hid (Keeps w W21 (fun _ => False)) := kf0.out.trans k21 (fun _ _ e => e)
                                  clear hPn hr6f hb9 k21 kf0
                                  go_wp2_with fail
                                  have hcm : Aside (∀ i (hi : i < d3.L.length), ∃ (A B : Int) (C : Bool), W21.cell? ⟨q9, i * 3, none⟩ = some (.int .i64 A) ∧ W21.cell? ⟨q9, i * 3 + 1, none⟩ = some (.int .i64 B) ∧ W21.cell? ⟨q9, i * 3 + 2, none⟩ = some (.bool C) ∧ W21.cell? ⟨g6, i * 3, none⟩ = some (.int .i64 A) ∧ W21.cell? ⟨g6, i * 3 + 1, none⟩ = some (.int .i64 B) ∧ W21.cell? ⟨g6, i * 3 + 2, none⟩ = some (.bool C)) := fun i hi => by
                                    obtain ⟨e0, e1, e2⟩ := partC_get d3.L d3.lv i hi
                                    exact ⟨_, _, _, (hr9.cellAt _ (by omega)).trans e0, (hr9.cellAt _ (by omega)).trans e1, (hr9.cellAt _ (by omega)).trans e2, (hr6g.cellAt _ (by omega)).trans e0, (hr6g.cellAt _ (by omega)).trans e1, (hr6g.cellAt _ (by omega)).trans e2⟩
                                  clear hr9 hr6g y1 y2 y5 hx8
                                  go_loopg [343] d3.L.length (fun g v343 wr => ∃ i : Nat, g = d3.L.length - i ∧ i ≤ d3.L.length ∧ v343 = .int .i64 (i : Int) ∧ Keeps W21 wr (fun _ => False))
                                  case atStart => exact ⟨0, rfl, Nat.zero_le _, rfl, Keeps.refl _ _⟩
                                  case round =>
                                    obtain ⟨i, rfl, hi, rfl, k6⟩ := hrel
                                    by_cases hlt : i < d3.L.length
                                    · obtain ⟨A, B, C, a1, a2, a3, b1, b2, b3⟩ := hcm.out i hlt
                                      have hlt' : (i : Int) < (d3.L.length : Int) := by omega
                                      replace a1 := k6.cellK a1
                                      replace a2 := k6.cellK a2
                                      replace a3 := k6.cellK a3
                                      replace b1 := k6.cellK b1
                                      replace b2 := k6.cellK b2
                                      replace b3 := k6.cellK b3
                                      clear hcm
                                      go_wp2_with fail
                                      go_quiet (fail)
                                      go_wp2_with fail
                                      go_roundg (d3.L.length - (i + 1))
                                      case measure => omega
                                      case rel => exact ⟨i + 1, rfl, by omega, by simp, ⟨k6.os, k6.tape, k6.output, k6.size, k6.block⟩⟩
                                    · obtain rfl : i = d3.L.length := by omega
                                      have hlt' : ¬ (d3.L.length : Int) < (d3.L.length : Int) := by omega
                                      have kf2 : Hid (Below w.heap.size w wr) := (kf1.out.trans k6 (fun _ _ e => e)).below (Nat.le_refl _) (fun _ _ e => e)
                                      clear hcm kf1 k6
                                      go_wp2_with fail
                                      go_ret
                                      exact ⟨rfl, kf2.out⟩
end arenaLists
end Go.Proofs.Ytfghkpahbfpejaa
