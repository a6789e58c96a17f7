import Derived.Deep.QuietTactic
import Derived.BigQuiet
import Derived.RangeFuncBox
import Derived.RangeFuncNested
import Derived.Test.YteglefnfnkgpcaaRn13
/-
  The law's freed.
-/
namespace Go.Proofs.Yteglefnfnkgpcaa
open Go.RowKit Go.Shelf
set_option linter.unusedVariables false

theorem half_even {os : List Int} {m : Nat} (h2 : m % 2 = 0) (h : m < os.length) : halfL (os.take (m + 2)) = halfL (os.take m) ++ [os[m]] := by
  obtain ⟨j, rfl⟩ : ∃ j, m = 2 * j := ⟨m / 2, by omega⟩
  exact half_take os j h
theorem row_put {W : World} {B g cap : Nat} {os : List Int} {u v : Int} (h : W.ownsRow B 3 1 (.slice (some ⟨g, 0, none⟩) (os ++ [u]).length cap) (os ++ [u]).length ((os ++ [u]).map cellI)) :
    (W.setCell ⟨g, os.length, none⟩ (.int .i64 v)).ownsRow B 3 1 (.slice (some ⟨g, 0, none⟩) (os ++ [v]).length cap) (os ++ [v]).length ((os ++ [v]).map cellI) := by
  obtain ⟨h1, h2⟩ := h
  refine ⟨by simp, Or.inr ?_⟩
  rcases h2 with ⟨h2, _⟩ | ⟨g', cap', cur, e, hb, hh, hn, hm, hs, ht⟩
  · cases h2
  · cases e
    refine ⟨g, cap, cur.setIfInBounds os.length (.int .i64 v), by simp, hb, ?_, by simpa using hn, hm, by simpa using hs, ?_⟩
    · have hlt := heap_lt hh
      have hv := (Array.getElem?_eq_some_iff.1 hh).2
      simp only [World.setCell, Array.getElem?_modify]
      simp [hlt, hv]
    · have e1 : (cur.setIfInBounds os.length (Value.int .i64 v)).toList = cur.toList.set os.length (.int .i64 v) := by simp
      rw [e1, List.length_append, List.length_singleton] at *
      rw [List.take_set, ht]
      simp [List.map_append, cellI]

set_option maxRecDepth 100000 in
set_option maxHeartbeats 4000000 in
theorem freed_any {w W : World} {p q : Nat} {X Y : Nat → Prop} {d : AD} (h : TwoY w W p q X Y d d) (hF : d.Fine) (hW : d.Well) (ao : Nat) (os : List Int) (hX : X ao) (hrow : W.heap[ao]? = some (.cells (os.map cellI).toArray 3)) (hlv : ∀ z ∈ os, (d.lv z).isSome = true) (hnd : os.Nodup) (hlen : os.length ≤ 134217) (tw : Int) (htw : fitsI tw) :
    Calls Try.prog 21 #[.pointer (some ⟨p, 0, none⟩), .pointer (some ⟨q, 0, none⟩), .slice (some ⟨ao, 0, none⟩) os.length os.length, .int .i64 tw] W fun e w' => e = .returned (.bool true) ∧ ∃ d' Y', Gones d (halfL os) d' ∧ TwoY w w' p q X Y' d' d' ∧ ∀ k, X k → w'.heap[k]? = W.heap[k]? := by
  have hL := two_live h
  have hnum := fun x W => num_any x W
  have r0 := ints_row hrow (Nat.zero_le _) (by omega)
  obtain ⟨b1, c1, W1, hap1, row1, hb1, k1⟩ := copy_ints r0 (by omega)
  obtain ⟨b2, c2, W2, hap2, row2, k2, hl2⟩ := push_int row1 k1.size (by omega) 15
  have K2 : Keeps W W2 (fun _ => False) := k1.trans k2 (fun i hi e => by
    have e' : b1 = i := by simpa [Value.ownBlock] using e
    omega)
  have row2' : W2.ownsRow W.heap.size 3 1 (.slice (some ⟨b2, 0, none⟩) (os ++ [15]).length c2) (os ++ [15]).length ((os ++ [15]).map cellI) := by simpa [cellI] using row2
  obtain ⟨b3, c3, W3, hap3, row3, hb3, k3⟩ := copy_ints row2' (by simp; omega)
  have K3 : Keeps W W3 (fun _ => False) := K2.trans k3 (fun _ _ e => e)
  have h3 : TwoY w W3 p q X Y d d := h.keep K3 (fun _ x => x.elim) (fun i x => ⟨Or.inl x, Nat.lt_of_lt_of_le (h.xs i x).2 K3.size⟩)
  have hf1 := two_bad h3 hF (some ⟨b3, 0, none⟩) c3 (os ++ [15]) (by simp) (by simp; omega) (fun z hz => by
    rcases List.mem_append.1 hz with hz | hz
    · exact (lv_fits hF (hlv z hz)).1
    · simp at hz
      subst hz
      exact fitsI_mk (by omega) (by omega)) (row_below row3) (fun x => by
    have := x.2 15 (by simp)
    rw [lv_15 hF hW] at this
    cases this)
  rw [List.length_append, List.length_singleton] at hf1 hap3
  have hL4 : ∀ W4, TwoY w W4 p q X Y d d → Calls Try.prog 19 #[.pointer (some ⟨p, 0, none⟩)] W4 fun r w' => r = .returned (.int .i64 (d.used : Int)) ∧ w' = W4 := fun _ x => two_live x
  clear r0 row1 k1 row2 k2 hl2 row3 hb3 hb1
  go_enter Try.func21, Try.ntmps21
  go_wp2_with fail
  refine hL.mono ?_
  rintro e w' ⟨rfl, rfl⟩
  clear hL
  go_wp2_with (first | (at_builtin; have _t := hap1; refine app_run _ rfl (.tmp 17) (.tmp 18) 28 rfl rfl rfl hap1 ?_; clear hap1) | (at_builtin; have _t := hap2; refine app_run _ rfl (.tmp 20) (.tmp 21) 28 rfl rfl rfl hap2 ?_; clear hap2) | (at_builtin; have _t := hap3; refine app_run _ rfl (.tmp 24) (.tmp 25) 28 rfl rfl rfl hap3 ?_; clear hap3))
  refine hf1.mono ?_
  rintro e W4 ⟨rfl, k4⟩
  clear hf1
  have K4 : Keeps w' W4 (fun _ => False) := K3.trans k4 (fun _ _ e => e)
  have h4 : TwoY w W4 p q X Y d d := h.keep K4 (fun _ x => x.elim) (fun i x => ⟨Or.inl x, Nat.lt_of_lt_of_le (h.xs i x).2 K4.size⟩)
  have row4 : W4.ownsRow w'.heap.size 3 1 (.slice (some ⟨b2, 0, none⟩) (os ++ [15]).length c2) (os ++ [15]).length ((os ++ [15]).map cellI) := k4.rowK (k3.rowK row2')
  clear k3 k4 K3 K2 h3 row2'
  go_wp2_with fail
  refine (hnum _ _).mono ?_
  rintro e w5 ⟨rfl, rfl⟩
  go_wp2_with fail
  refine (hL4 _ h4).mono ?_
  rintro e w6 ⟨rfl, rfl⟩
  rcases (show ((0 : Int) < (os.length : Int) ∧ 0 ≤ tw) ∨ ((0 : Int) < (os.length : Int) ∧ ¬ 0 ≤ tw) ∨ ¬ (0 : Int) < (os.length : Int) by omega) with ⟨hc0, hc1⟩ | ⟨hc0, hc1⟩ | hc0
  focus
    have hil2 := Int.emod_lt_of_pos tw hc0
    have hil1 := Int.emod_nonneg tw (b := (os.length : Int)) (by omega)
    have hil : (tw % (os.length : Int)).toNat < os.length := by omega
    have cz : w6.cell? ⟨ao, (tw % (os.length : Int)).toNat, none⟩ = some (.int .i64 os[(tw % (os.length : Int)).toNat]) := by
      have := row_cells (ints_row (B := 0) ((K4.block ao (h.xs ao hX).2 id).trans hrow) (Nat.zero_le _) (by omega)) _ hil
      rwa [Nat.zero_add] at this
    have hzm : os[(tw % (os.length : Int)).toNat] ∈ os := List.getElem_mem hil
    generalize os[(tw % (os.length : Int)).toNat] = z at cz hzm
    obtain ⟨cur, hb⟩ : ∃ cur, w6.heap[b2]? = some (.cells cur 3) := by
      rcases row4.2 with ⟨e, _⟩ | ⟨g, cap, cur, e, _, hg, _⟩
      · cases e
      · cases e
        exact ⟨cur, hg⟩
    have fz : w6.frozen? ⟨b2, os.length, none⟩ = false := by simp [World.frozen?, hb]
    have cb := row_cells row4 os.length (by simp)
    rw [Nat.zero_add] at cb
    have row5 := row_put (v := z) row4
    have kS : Keeps w6 (w6.setCell ⟨b2, os.length, none⟩ (.int .i64 z)) (fun k => k = b2) := (Keeps.refl w6 (fun k => k = b2)).setCell ⟨b2, os.length, none⟩ (fun _ => rfl) _
    have hb2 := ownsRow_from row4 (g := b2) rfl
    have K5 : Keeps w' (w6.setCell ⟨b2, os.length, none⟩ (.int .i64 z)) (fun _ => False) := K4.trans kS (fun i hi e => by omega)
    obtain ⟨b7, c7, W7, hap7, row7, hb7, k7⟩ := copy_ints row5 (by simp; omega)
    have K7 : Keeps w' W7 (fun _ => False) := K5.trans k7 (fun _ _ e => e)
    have h7 : TwoY w W7 p q X Y d d := h.keep K7 (fun _ x => x.elim) (fun i x => ⟨Or.inl x, Nat.lt_of_lt_of_le (h.xs i x).2 K7.size⟩)
    have hf7 := two_bad h7 hF (some ⟨b7, 0, none⟩) c7 (os ++ [z]) (by simp) (by simp; omega) (fun y hy => by
      rcases List.mem_append.1 hy with hy | hy
      · exact (lv_fits hF (hlv y hy)).1
      · simp at hy
        subst hy
        exact (lv_fits hF (hlv y hzm)).1) (row_below row7) (fun x => by
      have := (List.nodup_append.1 x.1).2.2 z hzm z (by simp)
      exact this rfl)
    rw [List.length_append, List.length_singleton] at hf7 hap7
    rw [show (w6.setCell ⟨b2, os.length, none⟩ (.int .i64 z)).heap.size = w6.heap.size from by simp [World.setCell]] at hap7
    clear row5 row7 kS K5 k7 hb7 hb2 hb
    go_wp2_with (first | (at_builtin; have _t := hap7; refine app_run _ rfl (.tmp 55) (.tmp 56) 28 rfl rfl rfl hap7 ?_; clear hap7))
    refine hf7.mono ?_
    rintro e W5 ⟨rfl, k5⟩
    clear hf7
    have K5 : Keeps w' W5 (fun _ => False) := K7.trans k5 (fun _ _ e => e)
    have h5 : TwoY w W5 p q X Y d d := h.keep K5 (fun _ x => x.elim) (fun i x => ⟨Or.inl x, Nat.lt_of_lt_of_le (h.xs i x).2 K5.size⟩)
    clear K7 h7 k5 cz hzm fz cb
    go_wp2_with fail
    refine (hnum _ _).mono ?_
    rintro e w8 ⟨rfl, rfl⟩
    go_wp2_with fail
    refine (hL4 _ h5).mono ?_
    rintro e w6 ⟨rfl, rfl⟩
    clear h4 K4 row4
    go_wp2_with fail
  rotate_left
  focus
    have K5 := K4
    have h5 := h4
    clear h4 K4 row4
    go_wp2_with fail
  rotate_left
  focus
    have K5 := K4
    have h5 := h4
    clear h4 K4 row4
    go_wp2_with fail
    rename_i hz _ _
    clear hz
  all_goals clear hc0
  all_goals
    have hro : ∀ W6, Keeps w' W6 (fun _ => False) → ∀ m (hm : m < os.length), W6.cell? ⟨ao, m, none⟩ = some (.int .i64 os[m]) := fun W6 k m hm => by
      have := row_cells (ints_row (B := 0) ((k.block ao (h.xs ao hX).2 id).trans hrow) (Nat.zero_le _) (by omega)) m hm
      rwa [Nat.zero_add] at this
  all_goals
    go_loopw [11, 12] (fun v vi wr => ∃ m : Nat, vi = .int .i64 (m : Int) ∧ m % 2 = 0 ∧ m ≤ os.length + 1 ∧ wr.ownsRow w6.heap.size 3 1 v (halfL (os.take m)).length ((halfL (os.take m)).map cellI) ∧ Keeps w6 wr (fun _ => False)) (fun _ vi _ => os.length + 2 - (intOf vi).toNat)
    case atStart => exact ⟨0, rfl, rfl, by omega, by simpa [halfL] using World.ownsRow_nil _ _ _ _, Keeps.refl _ _⟩
    case round =>
      obtain ⟨m, rfl, hm2, hm, hR, kr⟩ := hrel
      have kwr : Keeps w' wr (fun _ => False) := K5.trans kr (fun _ _ e => e)
      by_cases hlt : m < os.length
      · have hlt' : (m : Int) < (os.length : Int) := by omega
        have cm := hro wr kwr m hlt
        have hl : (halfL (os.take m)).length ≤ 134217 := by
          have h1 := (halfL_sub (os.take m)).length_le
          rw [List.length_take] at h1
          omega
        obtain ⟨g, cp, w8, hap, rowN, kN, hlN⟩ := push_int hR kr.size (by omega) os[m]
        have rowM : w8.ownsRow w6.heap.size 3 1 (.slice (some ⟨g, 0, none⟩) ((halfL (os.take m)).length + 1) cp) (halfL (os.take (m + 2))).length ((halfL (os.take (m + 2))).map cellI) := by
          rw [half_even hm2 hlt]
          simpa [cellI] using rowN
        have krN : Keeps w6 w8 (fun _ => False) := kr.trans kN (fun i hi e => by have := ownsRow_from hR e; omega)
        clear rowN kN hlN hR kwr kr hro K5 h5 h hrow
        generalize os[m] = z at *
        go_wp2_with (first | (at_builtin; have _t := hap; refine app_run _ rfl (.tmp 73) (.tmp 78) 28 rfl rfl rfl hap ?_; clear hap))
        go_roundw
        case rel => exact ⟨m + 2, by go_num, by omega, by omega, rowM, krN⟩
        case measure => simp [intOf]; omega
      · have hlt' : ¬ (m : Int) < (os.length : Int) := by omega
        rw [List.take_of_length_le (by omega)] at hR
        obtain ⟨so, cp, rfl, hrw, hsx⟩ := row_of_own hR
        have hsub := halfL_sub os
        have hnd' := hsub.nodup hnd
        have hlv' : ∀ z ∈ halfL os, (d.lv z).isSome = true := fun z hz => hlv z (hsub.mem hz)
        have hl' := hsub.length_le
        obtain ⟨b8, c8, W8, hap8, row8, hb8, k8⟩ := copy_ints hR (by omega)
        have K8 : Keeps w' W8 (fun _ => False) := kwr.trans k8 (fun _ _ e => e)
        have h8 : TwoY w W8 p q (fun k => X k ∨ RowX so k) Y d d := h.keep K8 (fun _ x => x.elim) (fun i x => by
          rcases x with x | x
          · exact ⟨Or.inl x, Nat.lt_of_lt_of_le (h.xs i x).2 K8.size⟩
          · exact ⟨Or.inr (Nat.le_trans K5.size (hsx i x).1), Nat.lt_of_lt_of_le (hsx i x).2 k8.size⟩)
        have hrw8 : RowAt W8 so (halfL os) := hrw.kept (fun b hb => k8.block b (hsx b hb).2 id)
        have hf8 := two_free h8 hF (some ⟨b8, 0, none⟩) c8 (halfL os) (by omega) (row_below row8) hnd' hlv'
        have hst8 : ∀ k, X k → W8.heap[k]? = w'.heap[k]? := fun k hk => K8.block k (h.xs k hk).2 id
        clear hro hR hrw k8 row8 hb8 kwr kr K5 h5 hsx h8 hsub hlv hnd K8 hrow h
        generalize hhs : halfL os = hs at *
        go_wp2_with (first | (at_builtin; have _t := hap8; refine app_run _ rfl (.tmp 81) (.tmp 82) 28 rfl rfl rfl hap8 ?_; clear hap8))
        refine hf8.mono ?_
        rintro e W9 ⟨rfl, d', hg, h9, hst9⟩
        clear hf8
        have hrw9 : RowAt W9 so hs := hrw8.kept (fun b hb => hst9 b (Or.inr hb))
        have hst : ∀ k, X k → W9.heap[k]? = w'.heap[k]? := fun k hk => (hst9 k (Or.inl hk)).trans (hst8 k hk)
        clear hst8 hst9 hrw8
        go_wp2_with fail
        refine (hnum _ _).mono ?_
        rintro e w10 ⟨rfl, rfl⟩
        go_wp2_with fail
        go_loopw [89] (fun vi wq => ∃ (i : Nat) (e : AD) (Y' : Nat → Prop), vi = .int .i64 (i : Int) ∧ i ≤ hs.length ∧ Gones d (hs.take i) e ∧ TwoY w wq p q (fun k => X k ∨ RowX so k) Y' d' e ∧ ∀ k, X k ∨ RowX so k → wq.heap[k]? = w10.heap[k]?) (fun vi _ => hs.length - (intOf vi).toNat)
        case atStart => exact ⟨0, d, Y, rfl, by omega, rfl, h9, fun _ _ => rfl⟩
        case round =>
          obtain ⟨i, e, Y', rfl, hi, hge, hq, hsq⟩ := hrel
          have hFe := hF.gones hge
          by_cases hlt : i < hs.length
          · have hlt' : (i : Int) < (hs.length : Int) := by omega
            obtain ⟨b, hso, hc⟩ := hrw9.kept (fun b hb => hsq b (Or.inr hb)) i hlt
            have hle : (e.lv hs[i]).isSome = true := by
              rw [hge.lv, if_neg (fun hm => ?_)]
              · exact hlv' _ (List.getElem_mem hlt)
              · obtain ⟨j, hj, e1⟩ := List.getElem_of_mem hm
                rw [List.getElem_take] at e1
                rw [List.length_take] at hj
                exact (List.pairwise_iff_getElem.1 hnd') j i (by omega) hlt (by omega) e1
            have hfr := two_bfree hq hFe hs[i] hle
            have hsn : ∀ e', Gone e hs[i] e' → Gones d (hs.take (i + 1)) e' := fun e' g => by
              rw [← List.take_append_getElem hlt]
              exact hge.snoc g
            subst hso
            generalize hs[i] = z at hc hfr hsn
            clear hle hge hq
            go_wp2_with fail
            refine hfr.mono ?_
            rintro e2 w11 ⟨rfl, e', Y'', hgo, hq', hs'⟩
            have hsn' := hsn e' hgo
            have hsq' : ∀ k, X k ∨ RowX (some ⟨b, 0, none⟩) k → w11.heap[k]? = w10.heap[k]? := fun k hk => (hs' k hk).trans (hsq k hk)
            clear hfr hsn hs' hsq
            go_wp2_with fail
            refine (hnum _ _).mono ?_
            rintro e2 w12 ⟨rfl, rfl⟩
            go_wp2_with fail
            go_roundw
            case rel => exact ⟨i + 1, e', Y'', by go_num, by omega, hsn', hq', hsq'⟩
            case measure => simp [intOf]; omega
          · have hlt' : ¬ (i : Int) < (hs.length : Int) := by omega
            rw [List.take_of_length_le (by omega)] at hge
            obtain rfl := hge.one hg
            have hl1 := two_live hq
            have hl2 := two_blive hq
            have hfin : TwoY w wr p q X Y' e e := hq.keep (Keeps.refl wr (fun _ => False)) (fun _ x => x.elim) (fun i x => ⟨Or.inl (Or.inl x), (hq.xs i (Or.inl x)).2⟩)
            have hsf : ∀ k, X k → wr.heap[k]? = w'.heap[k]? := fun k hk => (hsq k (Or.inl hk)).trans (hst k hk)
            clear hsq hst hq hrw9
            go_wp2_with fail
            refine hl1.mono ?_
            rintro r2 w11 ⟨rfl, rfl⟩
            go_wp2_with fail
            refine hl2.mono ?_
            rintro r2 w12 ⟨rfl, rfl⟩
            go_wp2_with fail
            go_ret
            exact ⟨rfl, e, Y', by rw [hhs]; exact hge, hfin, hsf⟩
end Go.Proofs.Yteglefnfnkgpcaa
/-
  Lists of numbers that came in; the live blocks are few; what is taken one by one.
-/
namespace Go.Proofs.Yteglefnfnkgpcaa
open Go.RowKit Go.Shelf
set_option linter.unusedVariables false

/-- A list of numbers that came in. -/
def InZ (w : World) (v : Value) (zs : List Int) : Prop := (v = .slice none 0 0 ∧ zs = []) ∨ ∃ (a : Addr) (cap : Nat), v = .slice (some a) zs.length cap ∧ (∀ j (h : j < zs.length), w.cell? (a.add j) = some (.int .i64 zs[j])) ∧ (0 < zs.length → ∃ b o, a = ⟨b, o, none⟩ ∧ b < w.heap.size)
theorem InZ.keeps {w W : World} {v : Value} {zs : List Int} (h : InZ w v zs) (k : Keeps w W (fun _ => False)) : InZ W v zs := by
  rcases h with h | ⟨a, cap, rfl, hc, hb⟩
  · exact Or.inl h
  · refine Or.inr ⟨a, cap, rfl, fun j hj => ?_, fun h0 => ?_⟩
    · obtain ⟨b, o, rfl, hlt⟩ := hb (by omega)
      have := hc j hj
      rw [addr_add] at this ⊢
      exact (World.cell?_of_block (w := w) (k.block b hlt id)).trans this
    · obtain ⟨b, o, e, hlt⟩ := hb h0
      exact ⟨b, o, e, Nat.lt_of_lt_of_le hlt k.size⟩
theorem InZ.form {w : World} {v : Value} {zs : List Int} (h : InZ w v zs) : ∃ so cap, v = .slice so zs.length cap ∧ ∀ j (hj : j < zs.length), ∃ b o, so = some ⟨b, o, none⟩ ∧ w.cell? ⟨b, o + j, none⟩ = some (.int .i64 zs[j]) := by
  rcases h with ⟨rfl, rfl⟩ | ⟨a, cap, rfl, hc, hb⟩
  · exact ⟨none, 0, rfl, fun j hj => by simp at hj⟩
  · refine ⟨some a, cap, rfl, fun j hj => ?_⟩
    obtain ⟨b, o, rfl, _⟩ := hb (by omega)
    have := hc j hj
    rw [addr_add] at this
    exact ⟨b, o, rfl, this⟩
theorem InZ.copy {W : World} {v : Value} {zs : List Int} (h : InZ W v zs) (hn : zs.length ≤ 134217728) :
    ∃ a c W', (∀ ty, (Builtin.append_ #[28, 28] ty #[.slice (some ⟨W.heap.size, 0, none⟩) 0 0, v]).run Try.prog (W.alloc (.cells #[] 3)) = .ok (.slice (some ⟨a, 0, none⟩) zs.length c) W') ∧ W'.ownsRow W.heap.size 3 1 (.slice (some ⟨a, 0, none⟩) zs.length c) zs.length (zs.map cellI) ∧ W.heap.size ≤ a ∧ Keeps W W' (fun _ => False) := by
  have hi : (Try.prog.info? 3).map (fun i => (i.zero, i.size, i.bytes)) = some (some (.int .i64 0), 1, 8) := by kernel_rfl
  obtain ⟨i, q1, q2, q3, q4⟩ := info_parts hi
  have k0 : Keeps W (W.alloc (.cells #[] 3)) (fun _ => False) := (Keeps.refl _ _).alloc _
  have own0 : (W.alloc (.cells #[] 3)).ownsRow W.heap.size 3 1 (.slice (some ⟨W.heap.size, 0, none⟩) 0 0) 0 [] := World.ownsRow_made W #[] 0 (Nat.le_refl _) (by simp only [maxLen]; omega) (by simp)
  have h0 := h.keeps k0
  rcases h0 with ⟨rfl, rfl⟩ | ⟨a, cap, rfl, hc, _⟩
  · have r1 := fun ty => run_append_owned_none (P := Try.prog) (w := W.alloc (.cells #[] 3)) W.heap.size 28 ty 3 i 1 Try.underlying28 q1 _ 0 [] own0
    exact ⟨_, _, _, r1, own0, Nat.le_refl _, k0⟩
  · obtain ⟨v', w2, hr, hown, hgr, hnil, hloc⟩ := run_append_own_at (P := Try.prog) (W.alloc (.cells #[] 3)) W.heap.size 28 0 3 i (.int .i64 0) 1 8 Try.underlying28 q1 q2 q3 q4 rfl (by omega) _ 0 [] own0 a zs.length cap (zs.map cellI) (by simp)
      (fun j u hu => by
        rw [List.getElem?_map] at hu
        obtain ⟨z, hz, rfl⟩ := Option.map_eq_some_iff.1 hu
        obtain ⟨hj, rfl⟩ := List.getElem?_eq_some_iff.1 hz
        exact hc j hj) cellI_one (by simp only [maxLen]; omega) (by omega) (by simp)
    rw [Nat.zero_add, List.nil_append] at hown
    have K : Keeps W w2 (fun _ => False) := k0.trans ((Keeps.ofGrown hgr).mono (fun i hi e => by
      have e' : W.heap.size = i := by simpa [Value.ownBlock] using e
      exact e'.symm)) (fun i hi e => by
        have e' : i = W.heap.size := e
        omega)
    obtain ⟨_, hh | ⟨g', cap', cur', e1, g2, _⟩⟩ := id hown
    · exact absurd (hnil.1 hh.1).1 (by simp)
    · subst e1
      exact ⟨g', cap', w2, fun ty => hr, hown, g2, K⟩

theorem lives_16 : ∀ {L : List (Nat × Nat)} {lv : Int → Option Int}, (∀ y ∈ L, 16 ≤ y.2) → 16 * (livesOf L lv).length ≤ liveSum L lv
  | [], _, _ => by simp [livesOf, liveSum]
  | y :: r, lv, h => by
    have ih := lives_16 (L := r) (lv := lv) (fun z hz => h z (List.mem_cons_of_mem _ hz))
    have hy := h y (List.mem_cons_self ..)
    rw [liveSum_cons]
    unfold livesOf at ih ⊢
    by_cases e : (lv (y.1 : Int)).isSome = true
    · rw [List.filter_cons, if_pos e, if_pos e, List.length_cons]
      omega
    · rw [List.filter_cons, if_neg e, if_neg e]
      omega
theorem lives_few {d : AD} (hF : d.Fine) (hW : d.Well) : (livesOf d.L d.lv).length ≤ 131072 := by
  have := lives_16 (L := d.L) (lv := d.lv) (fun y hy => (show ∀ c ∈ classList, 16 ≤ c by decide) _ (hW.sizes y hy))
  have := hF.sum
  have := hF.use
  have := hF.lim
  omega
theorem takeAll_append (T : AD → Nat → Nat × AD) : ∀ (xs ys : List Int) (d : AD), takeAll T d (xs ++ ys) = ((takeAll T d xs).1 ++ (takeAll T (takeAll T d xs).2 ys).1, (takeAll T (takeAll T d xs).2 ys).2)
  | [], _, _ => rfl
  | x :: r, ys, d => by simp [takeAll, takeAll_append T r]
theorem takeAll_get {d : AD} {zs : List Int} {j : Nat} (h : j < zs.length) : (takeAll listT d zs).1[j]? = some ((listT (takeAll listT d (zs.take j)).2 (classI zs[j]).toNat).1 : Int) := by
  have e : zs = zs.take j ++ zs[j] :: zs.drop (j + 1) := by rw [← List.drop_eq_getElem_cons h, List.take_append_drop]
  have hl : (takeAll listT d (zs.take j)).1.length = j := by rw [takeAll_length, List.length_take]; omega
  have h2 : (takeAll listT d (zs.take j ++ zs[j] :: zs.drop (j + 1))).1[j]? = some ((listT (takeAll listT d (zs.take j)).2 (classI zs[j]).toNat).1 : Int) := by
    rw [takeAll_append]
    show ((takeAll listT d (zs.take j)).1 ++ _)[j]? = _
    rw [List.getElem?_append_right (by omega), hl, Nat.sub_self]
    simp [takeAll]
  rw [← e] at h2
  exact h2
theorem lit_snoc (l : List Int) (z : Int) : litB (l ++ [z]) = (litB l || decide (z < 1)) := by simp [litB, List.any_append]
theorem gre_snoc (l : List Int) (z : Int) : greB (l ++ [z]) = (greB l || decide (1048576 < z)) := by simp [greB, List.any_append]
end Go.Proofs.Yteglefnfnkgpcaa
/-
  A range over Blocks whose body may free and take blocks meanwhile; one within a round; the arena beside the statement's blocks and beside lists of parts.
-/
namespace Go.Proofs.Yteglefnfnkgpcaa
open Go.RowKit Go.Shelf
set_option linter.unusedVariables false

theorem Keeps.blk {w w' : World} (k : Keeps w w' (fun _ => False)) {b : Nat} {o : Obj} (h : w.heap[b]? = some o) : w'.heap[b]? = some o := (k.block b (heap_lt h) id).trans h
theorem Keeps.blkF {w w' : World} {S : Nat → Prop} (k : Keeps w w' S) {b : Nat} {o : Obj} (h : w.heap[b]? = some o) (hb : ¬ S b) : w'.heap[b]? = some o := (k.block b (heap_lt h) hb).trans h
/-- A list of parts lies there. -/
def IsPart (w : World) (k : Nat) : Prop := ∃ cs, w.heap[k]? = some (Obj.cells cs 38)
theorem Arena.noPart {w : World} {p : Nat} {F : Nat → Prop} {d : AD} (h : Arena w p F d) : Arena w p (fun k => F k ∧ ¬ IsPart w k) d := by
  obtain ⟨c, hc, hF⟩ := h
  refine ⟨c, hc, fun k hk => ⟨hF k hk, ?_⟩⟩
  rintro ⟨cs, e⟩
  rcases hk with rfl | rfl | rfl | rfl | rfl | hk | hk
  · rw [hc.hp] at e; simp at e
  · rw [hc.mem.hb] at e; simp at e
  · rw [hc.mem.hg] at e; simp at e
  · obtain ⟨es, cl, hb⟩ := hc.live.obj; rw [hb] at e; cases e
  · obtain ⟨es, cl, hb⟩ := hc.free.obj; rw [hb] at e; cases e
  · obtain ⟨cur, hb⟩ := own_obj hc.beg hk; rw [hb] at e; simp at e
  · rcases hc.heaps.obj hk with ⟨u, hu⟩ | ⟨⟨cur, hu⟩, _⟩
    · rw [hu] at e; simp at e
    · rw [hu] at e; simp at e
/-- No walk's record is among its blocks. -/
theorem Arena.putLoop {w : World} {p : Nat} {F : Nat → Prop} {d : AD} (h : Arena w p F d) {l : Nat} {r : Loop} (hl : w.heap[l]? = some (.loop r)) (o : Obj) : Arena (w.putObj l o) p F d := by
  obtain ⟨c, hc, hF⟩ := h
  have k : Keeps w (w.putObj l o) (fun i => i = l) := (Keeps.ofGrown (grownBy_putObj' w l o)).mono (fun i _ e => by cases e; rfl)
  refine ⟨c, hc.keeps k (fun i hi e => ?_), hF⟩
  subst e
  rcases hi with rfl | rfl | rfl | rfl | rfl | hk | hk
  · rw [hc.hp] at hl; cases hl
  · rw [hc.mem.hb] at hl; cases hl
  · rw [hc.mem.hg] at hl; cases hl
  · obtain ⟨es, cl, hb⟩ := hc.live.obj; rw [hb] at hl; cases hl
  · obtain ⟨es, cl, hb⟩ := hc.free.obj; rw [hb] at hl; cases hl
  · obtain ⟨cur, hb⟩ := own_obj hc.beg hk; rw [hb] at hl; cases hl
  · rcases hc.heaps.obj hk with ⟨u, hu⟩ | ⟨⟨cur, hu⟩, _⟩
    · rw [hu] at hl; cases hl
    · rw [hu] at hl; cases hl

/-- An arena of the statement's own beside its blocks X. -/
structure Rg (w W : World) (p : Nat) (X : Nat → Prop) (d : AD) : Prop where
  own : Own w W p X d
  xs : ∀ k, X k → w.heap.size ≤ k ∧ k < W.heap.size
section
variable {w W W2 : World} {p : Nat} {X X' S : Nat → Prop} {d : AD}
theorem Rg.keep (h : Rg w W p X d) (k : Keeps W W2 S) (hS : ∀ i, S i → X i) (hX : ∀ i, X' i → (X i ∨ W.heap.size ≤ i) ∧ i < W2.heap.size) : Rg w W2 p X' d := by
  have hw : ∀ i, S i → w.heap.size ≤ i := fun i s => (h.xs i (hS i s)).1
  have hsz := h.own.keeps.size
  refine ⟨⟨(h.own.here.keeps k (fun i _ e s => e.1.2 (hS i s))).mono (fun i _ e => ⟨e.1.1, fun x => ?_⟩), h.own.keeps.trans k (fun i hi e => by have := hw i e; omega)⟩, fun i x => ⟨?_, (hX i x).2⟩⟩
  · rcases (hX i x).1 with y | y
    · exact e.1.2 y
    · have := e.2; omega
  · rcases (hX i x).1 with y | y
    · exact (h.xs i y).1
    · omega
theorem Rg.stay (h : Rg w W p X d) (k : Keeps W W2 (fun _ => False)) : Rg w W2 p X d :=
  h.keep k (fun _ e => e.elim) (fun i x => ⟨Or.inl x, Nat.lt_of_lt_of_le (h.xs i x).2 k.size⟩)
theorem Rg.putLoop (h : Rg w W p X d) {l : Nat} {r : Loop} (hl : W.heap[l]? = some (.loop r)) (hw : w.heap.size ≤ l) (o : Obj) : Rg w (W.putObj l o) p X d := by
  have k : Keeps W (W.putObj l o) (fun i => i = l) := (Keeps.ofGrown (grownBy_putObj' W l o)).mono (fun i _ e => by cases e; rfl)
  exact ⟨⟨h.own.arena.putLoop hl o, h.own.keeps.trans k (fun i hi e => by omega)⟩, fun i x => ⟨(h.xs i x).1, Nat.lt_of_lt_of_le (h.xs i x).2 k.size⟩⟩
theorem Rg.part (h : Rg w W p X d) : Own w W p (fun k => X k ∨ IsPart W k) d :=
  ⟨h.own.arena.noPart.mono (fun i _ e => ⟨e.1.1, fun x => x.elim e.1.2 e.2⟩), h.own.keeps⟩
theorem Rg.plt (h : Rg w W p X d) : ∀ k, X k ∨ IsPart W k → k < W.heap.size := fun k x => x.elim (fun x => (h.xs k x).2) (fun ⟨_, e⟩ => heap_lt e)
theorem rg_free (h : Rg w W p X d) (hF : d.Fine) (z s : Int) (hz : d.lv z = some s) :
    Calls Try.prog 16 #[.pointer (some ⟨p, 0, none⟩), .slice (some ⟨W.heap.size, 0, none⟩) 1 1] (W.alloc (.cells #[.int .i64 z] 3)) fun e w' => e = .returned (.int .i64 0) ∧ ∃ d', Gone d z d' ∧ Rg w w' p X d' ∧ (∀ k, X k → w'.heap[k]? = W.heap[k]?) ∧ PartsStay W w' := by
  refine (own_free1 h.part hF z s hz h.plt).mono ?_
  rintro e w' ⟨rfl, d', hG, ho, kk⟩
  refine ⟨rfl, d', hG, ⟨ho.less (fun k _ _ x => Or.inl x), fun k x => ⟨(h.xs k x).1, Nat.lt_of_lt_of_le (h.xs k x).2 kk.size⟩⟩, fun k x => kk.block k (h.xs k x).2 (fun e => e.1.2 (Or.inl x)), fun q cs e => (kk.block q (heap_lt e) (fun y => y.1.2 (Or.inr ⟨cs, e⟩))).trans e⟩
theorem rg_alloc (h : Rg w W p X d) (hF : d.Fine) (hW : d.Well) (n : Nat) (h1 : 1 ≤ n) (h2 : n ≤ 1048576) (h3 : d.used + classN n ≤ d.limit) :
    Calls Try.prog 17 #[.pointer (some ⟨p, 0, none⟩), .int .i64 (n : Int)] W fun e w' => ∃ (o : Nat) (d' : AD), e = .returned (.tuple #[.int .i64 (o : Int), .int .i64 0]) ∧ TookB d d' o (classN n) ∧ Rg w w' p X d' ∧ (∀ k, X k → w'.heap[k]? = W.heap[k]?) ∧ PartsStay W w' := by
  refine (own_alloc h.part hF listOK hW n h1 h2 h3).mono ?_
  rintro e w' ⟨rfl, ht⟩
  refine ⟨_, _, rfl, list_B hF hW (class_in n h1 h2) h3, ⟨(h.part.turn ht h.plt).less (fun k _ _ x => Or.inl x), fun k x => ⟨(h.xs k x).1, Nat.lt_of_lt_of_le (h.xs k x).2 ht.2.size⟩⟩, fun k x => Own.rest ht (h.xs k x).2 (Or.inl (Or.inl x)), fun q cs e => (Own.rest ht (heap_lt e) (Or.inl (Or.inr ⟨cs, e⟩))).trans e⟩
end
end Go.Proofs.Yteglefnfnkgpcaa
/-
  A range over Blocks, told by its rounds' numbers; what follows told once; one within a round.
-/
namespace Go.Proofs.Yteglefnfnkgpcaa
open Go.RowKit Go.Shelf
set_option linter.unusedVariables false

attribute [local go_sem] Oper.semAt_some

set_option maxRecDepth 100000 in
set_option maxHeartbeats 4000000 in
theorem blocks_tied (n : Nat) (hn : 1 ≤ n) (l Bs p : Nat) (d : AD) {X : Nat → Prop} (hFi : d.Fine) (hlen : d.L.length ≤ 134217728) (J : Nat → World → Prop) (Jx : World → Prop) (hAb : ∀ s V V', J s V → Keeps V V' (fun _ => False) → J s V')
    (hY : ∀ s (x : Nat × Nat) V, J s V → (livesOf d.L d.lv)[s]? = some x → YieldAt Fence.wide (n - 1) Try.prog l #[.int .i64 (x.1 : Int), .int .i64 (x.2 : Int)] V fun e V' =>
      (e = .returned (.bool true) ∧ J (s + 1) V' ∧ PartsStay V V') ∨ (e = .returned (.bool false) ∧ Jx V'))
    (W : World) (hBs : W.cell? ⟨Bs, 0, none⟩ = some (.pointer (some ⟨p, 0, none⟩))) (hA : Arena W p X d) (h0 : J 0 W) :
    CallsIn Fence.wide n Try.prog 34 #[.func (.yield l) #[] #[], .pointer (some ⟨Bs, 0, none⟩)] W fun e W' => (∃ v, e = .returned v) ∧ (J (livesOf d.L d.lv).length W' ∨ Jx W') := by
  have hP : Calls Try.prog 11 #[.pointer (some ⟨p, 0, none⟩)] W fun e w' => PartsPost W d e w' ∧ J 0 w' := by
    obtain ⟨c, hC, _⟩ := hA
    refine (parts_any hC hFi hlen).mono fun e w' h => ⟨h, ?_⟩
    obtain ⟨_, _, _, _, _, _, k⟩ := h
    exact hAb 0 W w' h0 k
  clear h0 hA
  have hro : Fence.wide.round = none := rfl
  have hPI : ∀ m, CallsIn Fence.wide m Try.prog 11 #[.pointer (some ⟨p, 0, none⟩)] W fun e w' => PartsPost W d e w' ∧ J 0 w' := fun m => callsIn_wide.2 hP
  refine callsIn_of_wp Try.func34 rfl trivial ?_ hro
  simp only [Try.ntmps34, List.size_toArray, List.length_cons, List.length_nil, Nat.reduceAdd, Nat.reduceSub, Array.replicate_succ, Array.replicate_zero, List.push_toArray, List.append_toArray, List.nil_append, List.cons_append]
  gi_wp2_with fail
  refine ⟨trivial, (hPI _).mono ?_⟩
  rintro e W1 ⟨⟨q, cs, rfl, -, -, hR, -⟩, hJ0⟩
  clear hPI hP hBs
  gi_wp2_with fail
  gi_loopw [8] (fun vi wr => ∃ k : Nat, k ≤ d.L.length ∧ vi = .int .i64 (k : Int) ∧ J (livesOf (d.L.take k) d.lv).length wr ∧ PartRow wr q d.L.length d.L.length d.L d.lv cs) (fun vi _ => d.L.length - (intOf vi).toNat)
  case atStart => exact ⟨0, Nat.zero_le _, rfl, by simpa [livesOf] using hJ0, hR⟩
  case round =>
    clear hR hJ0
    obtain ⟨k, hk, rfl, hJ, hR⟩ := hrel
    by_cases hlt : k < d.L.length
    · obtain ⟨d0, d1, d2⟩ := hR.done k hlt hlt
      have x0 : wr.cell? ⟨q, k * 3, none⟩ = some (.int .i64 (d.L[k].1 : Int)) := by simp only [World.cell?, hR.hq]; simpa using d0
      have x1 : wr.cell? ⟨q, k * 3 + 1, none⟩ = some (.int .i64 (d.L[k].2 : Int)) := by simp only [World.cell?, hR.hq]; simpa using d1
      have x2 : wr.cell? ⟨q, k * 3 + 2, none⟩ = some (.bool (d.lv (d.L[k].1 : Int)).isSome) := by simp only [World.cell?, hR.hq]; simpa using d2
      have hlt' : (k : Int) < (d.L.length : Int) := by omega
      have hsucc := livesOf_succ (lv := d.lv) hlt
      have hpre := livesOf_prefix d.L d.lv (k + 1)
      by_cases hl : (d.lv (d.L[k].1 : Int)).isSome = true
      · rw [if_pos hl] at hsucc
        have hJa := hAb _ _ _ hJ ((Keeps.refl wr _).alloc (.cells #[.int .i64 (d.L[k].1 : Int), .int .i64 (d.L[k].2 : Int), .bool true] 38))
        have hRa := hR.stay (PartsStay.alloc wr (.cells #[.int .i64 (d.L[k].1 : Int), .int .i64 (d.L[k].2 : Int), .bool true] 38))
        have hat : (livesOf d.L d.lv)[(livesOf (d.L.take k) d.lv).length]? = some d.L[k] := by
          obtain ⟨rest, hr⟩ := hpre
          rw [← hr, hsucc]
          simp
        obtain ⟨fn, tmps, assign, body, hy, hRd⟩ := hY _ d.L[k] _ hJa hat
        clear hat
        rw [hl] at x2
        have HS := hide hsucc
        have HR := hide hRa
        have HP := hide hpre
        clear hsucc hR hRa hpre d0 d1 d2 hJ hJa
        gi_wp2
        refine hRd.mono ?_
        rintro e W3 (⟨rfl, hJ3, hk3⟩ | ⟨rfl, hJx3⟩)
        · have HJ : Hid (J (livesOf (d.L.take (k + 1)) d.lv).length W3) := hide (by rw [HS.out]; simpa using hJ3)
          have HR3 := hide (HR.out.stay hk3)
          clear HS HR hk3 hJ3 hRd hy x0 x1 x2
          gi_wp2
          go_roundw
          case rel => exact ⟨k + 1, by omega, by simp, HJ.out, HR3.out⟩
          case measure => simp [intOf]; omega
        · have HJ := hide hJx3
          clear HS HR hJx3 hRd hy x0 x1 x2
          gi_wp2
          refine bodyPost_ret (results_none rfl _ _ _) rfl ?_
          exact ⟨⟨_, rfl⟩, .inr HJ.out⟩
      · rw [if_neg hl, List.append_nil] at hsucc
        have hl' : (d.lv (d.L[k].1 : Int)).isSome = false := by simpa using hl
        rw [hl'] at x2
        have hJa := hAb _ _ _ hJ ((Keeps.refl wr _).alloc (.cells #[.int .i64 (d.L[k].1 : Int), .int .i64 (d.L[k].2 : Int), .bool false] 38))
        have HR := hide (hR.stay (PartsStay.alloc wr (.cells #[.int .i64 (d.L[k].1 : Int), .int .i64 (d.L[k].2 : Int), .bool false] 38)))
        have HJ : Hid (J (livesOf (d.L.take (k + 1)) d.lv).length (wr.alloc (.cells #[.int .i64 (d.L[k].1 : Int), .int .i64 (d.L[k].2 : Int), .bool false] 38))) := by rw [hsucc]; exact hJa
        clear hsucc hR hpre d0 d1 d2 hJ hJa hl hl'
        gi_wp2
        refine ⟨(fun _ e => by cases e), ?_⟩
        gi_wp2
        go_roundw
        case rel => exact ⟨k + 1, by omega, by simp, HJ.out, HR.out⟩
        case measure => simp [intOf]; omega
    · obtain rfl : k = d.L.length := by omega
      rw [List.take_length] at hJ
      have HJ := hide hJ
      clear hJ hR
      gi_wp2
      go_end0
      exact ⟨⟨_, rfl⟩, .inl HJ.out⟩


/-- How a round's body may be left: the loop's blocks lie as they lay, and so do the lists of parts. -/
def BPost (Lk : Nat → Prop) (I : Nat → World → Prop) (Ix : Code → World → Prop) (s : Nat) (W : World) : Exit → Act → World → Prop
  | .normal, _, V => (∀ k, Lk k → V.heap[k]? = W.heap[k]?) ∧ PartsStay W V ∧ I s V
  | .ret, _, V => (∀ k, Lk k → V.heap[k]? = W.heap[k]?) ∧ Ix .ret V
  | .exit i, _, V => (∀ k, Lk k → V.heap[k]? = W.heap[k]?) ∧ Ix (.exit i) V
  | .goto t, _, V => (∀ k, Lk k → V.heap[k]? = W.heap[k]?) ∧ Ix (.goto t) V
  | .panic _, _, _ => False
  | .outgrown, _, _ => False

theorem PartsStay.keeps {W V : World} (k : Keeps W V (fun _ => False)) : PartsStay W V := fun q cs e => k.blk e

section
variable {n : Nat} {op : Operand} {ps : Array Tmp} {assign body : Code} {Q : Exit → Act → World → Prop} {a : Act} {w : World} {Bs p : Nat} {X : Nat → Prop} {d : AD}

theorem rangeB (h1 : 2 ≤ n) (hop : a.eval op = .func (.func 34) #[] #[.pointer (some ⟨Bs, 0, none⟩)]) (hFi : d.Fine) (hlen : d.L.length ≤ 134217728) (hA : Arena w p X d) (hBs : w.cell? ⟨Bs, 0, none⟩ = some (.pointer (some ⟨p, 0, none⟩)))
    (hps : ps.size = 2) (Ax : Act → Nat × Nat → Act → World → Prop) (hAx : ∀ x a' V r o, Ax a x a' V → V.heap[w.heap.size + 1]? = some (.loop r) → Ax a x a' (V.putObj (w.heap.size + 1) o)) (I : Nat → World → Prop) (Ix : Code → World → Prop)
    (hI : ∀ s V V', I s V → Keeps V V' (fun _ => False) → I s V')
    (hIp : ∀ s V r o, I s V → V.heap[w.heap.size + 1]? = some (.loop r) → I s (V.putObj (w.heap.size + 1) o))
    (hXp : ∀ c V r o, Ix c V → V.heap[w.heap.size + 1]? = some (.loop r) → Ix c (V.putObj (w.heap.size + 1) o))
    (h0 : ∀ r, I 0 ((w.alloc (.deferred (some []))).alloc (.loop r)))
    (T : World → Prop) (tail : ∀ W, T W → W.heap[w.heap.size]? = some (.deferred (some [])) → Q .normal { a with defers := { target := .collected w.heap.size, args := #[] } :: a.defers } W)
    (hassign : ∀ (x : Nat × Nat) s W (K : Act → World → Prop), I s W → (∀ a' W', Keeps W W' (fun _ => False) → Ax a x a' W' → K a' W') →
      assign.wpIn (Fence.wide.inRound (w.heap.size + 1)) (n - 1 - 1) Try.prog (Exit.then K (fun _ _ _ => False)) { tmps := (ps.zip #[Value.int .i64 (x.1 : Int), Value.int .i64 (x.2 : Int)]).foldl (fun t (p, v) => t.setIfInBounds p v) a.tmps, defers := [] } W)
    (hbody : ∀ (x : Nat × Nat) s a' W, I s W → Ax a x a' W → (livesOf d.L d.lv)[s]? = some x → (∃ r, W.heap[w.heap.size + 1]? = some (.loop r)) → body.wpIn (Fence.wide.inRound (w.heap.size + 1)) (n - 1 - 1) Try.prog (BPost (fun k => k = w.heap.size ∨ k = w.heap.size + 1) I Ix (s + 1) W) a' W)
    (hdone : ∀ W, I (livesOf d.L d.lv).length W → T W)
    (hstop : ∀ c W, Ix c W → T W ∧ ∀ a' W', Q .normal a' W' → c.wpIn Fence.wide n Try.prog Q a' W') :
    (Code.rangeFunc op ps assign body).wp Try.prog Q a w := by
  rw [← wpIn_wide (n := n)]
  have hst : ∀ c W, Ix c W → W.heap[w.heap.size]? = some (.deferred (some [])) → c.wpIn Fence.wide n Try.prog Q { a with defers := { target := .collected w.heap.size, args := #[] } :: a.defers } W := fun c W hx hd => (hstop c W hx).2 _ _ (tail W (hstop c W hx).1 hd)
  apply wpIn_rangeFunc
  intro fn hfn
  let rec_ : LoopState → Option Code → Loop := fun st pe => { state := st, pending := pe, fn := fn, tmps := a.tmps, params := ps, assign := assign, body := body, defers := w.heap.size }
  obtain ⟨W1, hW1⟩ : ∃ W1, (w.alloc (.deferred (some []))).alloc (.loop (rec_ .ready none)) = W1 := ⟨_, rfl⟩
  have hi0 : I 0 W1 := hW1 ▸ h0 _
  have kW1 : Keeps w W1 (fun _ => False) := by rw [← hW1]; exact ((Keeps.refl w _).alloc _).alloc _
  have hLs : W1.heap[w.heap.size + 1]? = some (.loop (rec_ .ready none)) := by
    have := World.alloc_heap_new (w.alloc (.deferred (some []))) (.loop (rec_ .ready none))
    rw [← hW1]
    rwa [World.size_alloc] at this
  have hDs : W1.heap[w.heap.size]? = some (.deferred (some [])) := by
    rw [← hW1]
    exact (Below.heap_alloc _ _ _ (by simp)).trans (World.alloc_heap_new w _)
  refine ⟨w.heap.size + 1, [{ target := .collected w.heap.size, args := #[] }], W1, { target := .fn (.func 34) #[.pointer (some ⟨Bs, 0, none⟩)], args := #[.func (.yield (w.heap.size + 1)) #[] #[]] }, W1, 34,
    #[.func (.yield (w.heap.size + 1)) #[] #[]] ++ #[.pointer (some ⟨Bs, 0, none⟩)], W1, by rw [← hW1]; exact run_enterLoop_outer fn a.tmps ps assign body, ?_, fun _ _ => trivial, ?_, fun _ => by omega, ?_⟩
  · simp only [resolve, hop]
    simp [go_sem]
  · simp [invoke, go_sem]
  · have two : ∀ {U : World} {o : Obj}, U.heap[w.heap.size + 1]? = some o → U.heap[w.heap.size]? = some (.deferred (some [])) → ∀ o' : Obj,
        (U.putObj (w.heap.size + 1) o').heap[w.heap.size + 1]? = some o' ∧ (U.putObj (w.heap.size + 1) o').heap[w.heap.size]? = some (.deferred (some [])) := fun hu hd o' =>
      ⟨World.putObj_heap_same (heap_lt hu), (World.putObj_heap_other (by omega)).trans hd⟩
    refine (blocks_tied (n - 1) (by omega) (w.heap.size + 1) Bs p d hFi hlen (fun s U => I s U ∧ U.heap[w.heap.size + 1]? = some (.loop (rec_ .ready none)) ∧ U.heap[w.heap.size]? = some (.deferred (some [])))
      (fun U => ∃ c, Ix c U ∧ U.heap[w.heap.size + 1]? = some (.loop (rec_ .done (some c))) ∧ U.heap[w.heap.size]? = some (.deferred (some [])))
      (fun s U U' h k => ⟨hI s U U' h.1 k, k.blk h.2.1, k.blk h.2.2⟩) ?_ W1 (kW1.cellK hBs) (hA.keeps kW1 (fun _ _ _ e => e)) ⟨hi0, hLs, hDs⟩).mono ?_
    · rintro s x U ⟨hi, hl, hd⟩ hG
      refine ⟨fn, _, assign, body, run_yield hl (by simp [rec_, hps]), roundIn_of_wpIn hfn (hassign x s U _ hi ?_)⟩
      intro a' U1 k1 hax
      have hps0 := PartsStay.keeps k1
      replace hi := hI s U U1 hi k1
      replace hl := k1.blk hl
      replace hd := k1.blk hd
      clear k1
      refine ⟨_, run_beginRound hl rfl, ?_⟩
      have hb := two hl hd (.loop { rec_ .ready none with state := .busy })
      have hi2 := hIp s U1 _ (.loop { rec_ .ready none with state := .busy }) hi hl
      have hps1 := hps0.trans (PartsStay.put hl rfl (.loop { rec_ .ready none with state := .busy }))
      refine wpIn_mono (hbody x s a' _ hi2 (hAx x a' U1 _ _ hax hl) hG ⟨_, hb.1⟩) ?_
      have fin : ∀ (j : Option Code) (U' : World), (∀ k, k = w.heap.size ∨ k = w.heap.size + 1 → U'.heap[k]? = (U1.putObj (w.heap.size + 1) (.loop { rec_ .ready none with state := .busy })).heap[k]?) →
          (Instr.endRound (w.heap.size + 1) j).run Try.prog U' = .ok (.bool j.isNone) (U'.putObj (w.heap.size + 1) (.loop (rec_ (if j.isNone then .ready else .done) j))) ∧
          U'.heap[w.heap.size + 1]? = some (.loop { rec_ .ready none with state := .busy }) ∧ U'.heap[w.heap.size]? = some (.deferred (some [])) := fun j U' h =>
        ⟨run_endRound j ((h _ (Or.inr rfl)).trans hb.1), (h _ (Or.inr rfl)).trans hb.1, (h _ (Or.inl rfl)).trans hb.2⟩
      intro e a2 U' hp
      cases e with
      | normal =>
        obtain ⟨hk, hpp, hi'⟩ := hp
        obtain ⟨r1, r2, r3⟩ := fin none U' hk
        exact ⟨_, _, r1, .inl ⟨rfl, ⟨hIp _ U' _ _ hi' r2, two r2 r3 _⟩, (hps1.trans hpp).trans (PartsStay.put r2 rfl _)⟩⟩
      | ret =>
        obtain ⟨r1, r2, r3⟩ := fin (some .ret) U' hp.1
        exact ⟨_, _, r1, .inr ⟨rfl, _, hXp _ U' _ _ hp.2 r2, two r2 r3 _⟩⟩
      | exit i =>
        obtain ⟨r1, r2, r3⟩ := fin (some (.exit i)) U' hp.1
        exact ⟨_, _, r1, .inr ⟨rfl, _, hXp _ U' _ _ hp.2 r2, two r2 r3 _⟩⟩
      | goto t =>
        obtain ⟨r1, r2, r3⟩ := fin (some (.goto t)) U' hp.1
        exact ⟨_, _, r1, .inr ⟨rfl, _, hXp _ U' _ _ hp.2 r2, two r2 r3 _⟩⟩
      | panic _ => exact hp.elim
      | outgrown => exact hp.elim
    · rintro e U ⟨⟨v, rfl⟩, h⟩
      rcases h with ⟨hi, hl, hd⟩ | ⟨c, hx, hl, hd⟩
      · exact ⟨none, _, run_endLoop hl (by simp [rec_]), tail _ (hdone _ (hIp _ U _ _ hi hl)) (two hl hd _).2⟩
      · exact ⟨some c, _, run_endLoop hl (by simp [rec_]), hst c _ (hXp c U _ _ hx hl) (two hl hd _).2⟩

/-- Within a round of loop l₀. -/
theorem rangeBN {F : Fence} {l₀ : Nat} {r₀ : Loop} (hF : F = Fence.wide.inRound l₀) (hl₀ : w.heap[l₀]? = some (.loop r₀)) (h1 : 2 ≤ n) (hop : a.eval op = .func (.func 34) #[] #[.pointer (some ⟨Bs, 0, none⟩)]) (hFi : d.Fine) (hlen : d.L.length ≤ 134217728) (hA : Arena w p X d) (hBs : w.cell? ⟨Bs, 0, none⟩ = some (.pointer (some ⟨p, 0, none⟩)))
    (hps : ps.size = 2) (Ax : Act → Nat × Nat → Act → World → Prop) (hAx : ∀ x a' V r o, Ax a x a' V → V.heap[w.heap.size]? = some (.loop r) → Ax a x a' (V.putObj w.heap.size o)) (I : Nat → World → Prop) (Ix : Code → World → Prop)
    (hI : ∀ s V V', I s V → Keeps V V' (fun _ => False) → I s V')
    (hIp : ∀ s V r o, I s V → V.heap[w.heap.size]? = some (.loop r) → I s (V.putObj w.heap.size o))
    (hXp : ∀ c V r o, Ix c V → V.heap[w.heap.size]? = some (.loop r) → Ix c (V.putObj w.heap.size o))
    (h0 : ∀ r, I 0 (w.alloc (.loop r)))
    (hassign : ∀ (x : Nat × Nat) s W (K : Act → World → Prop), I s W → (∀ a' W', Keeps W W' (fun _ => False) → Ax a x a' W' → K a' W') →
      assign.wpIn (F.inRound w.heap.size) (n - 1 - 1) Try.prog (Exit.then K (fun _ _ _ => False)) { tmps := (ps.zip #[Value.int .i64 (x.1 : Int), Value.int .i64 (x.2 : Int)]).foldl (fun t (p, v) => t.setIfInBounds p v) a.tmps, defers := [] } W)
    (hbody : ∀ (x : Nat × Nat) s a' W, I s W → Ax a x a' W → (livesOf d.L d.lv)[s]? = some x → body.wpIn (F.inRound w.heap.size) (n - 1 - 1) Try.prog (BPost (fun k => k = w.heap.size) I Ix (s + 1) W) a' W)
    (hdone : ∀ W, I (livesOf d.L d.lv).length W → Q .normal a W)
    (hstop : ∀ c W, Ix c W → c.wpIn F n Try.prog Q a W) :
    (Code.rangeFunc op ps assign body).wpIn F n Try.prog Q a w := by
  subst hF
  apply wpIn_rangeFunc
  intro fn hfn
  let rec_ : LoopState → Option Code → Loop := fun st pe => { state := st, pending := pe, fn := fn, tmps := a.tmps, params := ps, assign := assign, body := body, defers := r₀.defers }
  obtain ⟨W1, hW1⟩ : ∃ W1, w.alloc (.loop (rec_ .ready none)) = W1 := ⟨_, rfl⟩
  have hi0 : I 0 W1 := hW1 ▸ h0 _
  have kW1 : Keeps w W1 (fun _ => False) := by rw [← hW1]; exact (Keeps.refl w _).alloc _
  have hLs : W1.heap[w.heap.size]? = some (.loop (rec_ .ready none)) := by rw [← hW1]; exact World.alloc_heap_new w _
  refine ⟨w.heap.size, [], W1, { target := .fn (.func 34) #[.pointer (some ⟨Bs, 0, none⟩)], args := #[.func (.yield w.heap.size) #[] #[]] }, W1, 34,
    #[.func (.yield w.heap.size) #[] #[]] ++ #[.pointer (some ⟨Bs, 0, none⟩)], W1, by rw [← hW1]; exact run_enterLoop_inner hl₀ fn a.tmps ps assign body, ?_, fun _ _ => trivial, ?_, fun _ => by omega, ?_⟩
  · simp only [resolve, hop]
    simp [go_sem]
  · simp [invoke, go_sem]
  · have one : ∀ {U : World} {o : Obj}, U.heap[w.heap.size]? = some o → ∀ o' : Obj, (U.putObj w.heap.size o').heap[w.heap.size]? = some o' := fun hu o' => World.putObj_heap_same (heap_lt hu)
    refine CallsIn.mono (show CallsIn (Fence.wide.inRound l₀) (n - 1) Try.prog 34 _ W1 _ from blocks_tied (n - 1) (by omega) w.heap.size Bs p d hFi hlen (fun s U => I s U ∧ U.heap[w.heap.size]? = some (.loop (rec_ .ready none)))
      (fun U => ∃ c, Ix c U ∧ U.heap[w.heap.size]? = some (.loop (rec_ .done (some c))))
      (fun s U U' h k => ⟨hI s U U' h.1 k, k.blk h.2⟩) ?_ W1 (kW1.cellK hBs) (hA.keeps kW1 (fun _ _ _ e => e)) ⟨hi0, hLs⟩) ?_
    · rintro s x U ⟨hi, hl⟩ hG
      refine ⟨fn, _, assign, body, run_yield hl (by simp [rec_, hps]), roundIn_of_wpIn (F := Fence.wide.inRound l₀) hfn (hassign x s U _ hi ?_)⟩
      intro a' U1 k1 hax
      have hps0 := PartsStay.keeps k1
      replace hi := hI s U U1 hi k1
      replace hl := k1.blk hl
      clear k1
      refine ⟨_, run_beginRound hl rfl, ?_⟩
      have hb := one hl (.loop { rec_ .ready none with state := .busy })
      have hi2 := hIp s U1 _ (.loop { rec_ .ready none with state := .busy }) hi hl
      have hps1 := hps0.trans (PartsStay.put hl rfl (.loop { rec_ .ready none with state := .busy }))
      refine wpIn_mono (hbody x s a' _ hi2 (hAx x a' U1 _ _ hax hl) hG) ?_
      have fin : ∀ (j : Option Code) (U' : World), (∀ k, k = w.heap.size → U'.heap[k]? = (U1.putObj w.heap.size (.loop { rec_ .ready none with state := .busy })).heap[k]?) →
          (Instr.endRound w.heap.size j).run Try.prog U' = .ok (.bool j.isNone) (U'.putObj w.heap.size (.loop (rec_ (if j.isNone then .ready else .done) j))) ∧
          U'.heap[w.heap.size]? = some (.loop { rec_ .ready none with state := .busy }) := fun j U' h =>
        ⟨run_endRound j ((h _ rfl).trans hb), (h _ rfl).trans hb⟩
      intro e a2 U' hp
      cases e with
      | normal =>
        obtain ⟨hk, hpp, hi'⟩ := hp
        obtain ⟨r1, r2⟩ := fin none U' hk
        exact ⟨_, _, r1, .inl ⟨rfl, ⟨hIp _ U' _ _ hi' r2, one r2 _⟩, (hps1.trans hpp).trans (PartsStay.put r2 rfl _)⟩⟩
      | ret =>
        obtain ⟨r1, r2⟩ := fin (some .ret) U' hp.1
        exact ⟨_, _, r1, .inr ⟨rfl, _, hXp _ U' _ _ hp.2 r2, one r2 _⟩⟩
      | exit i =>
        obtain ⟨r1, r2⟩ := fin (some (.exit i)) U' hp.1
        exact ⟨_, _, r1, .inr ⟨rfl, _, hXp _ U' _ _ hp.2 r2, one r2 _⟩⟩
      | goto t =>
        obtain ⟨r1, r2⟩ := fin (some (.goto t)) U' hp.1
        exact ⟨_, _, r1, .inr ⟨rfl, _, hXp _ U' _ _ hp.2 r2, one r2 _⟩⟩
      | panic _ => exact hp.elim
      | outgrown => exact hp.elim
    · rintro e U ⟨⟨v, rfl⟩, h⟩
      rcases h with ⟨hi, hl⟩ | ⟨c, hx, hl⟩
      · exact ⟨none, _, run_endLoop hl (by simp [rec_]), hdone _ (hIp _ U _ _ hi hl)⟩
      · exact ⟨some c, _, run_endLoop hl (by simp [rec_]), hstop c _ (hXp c U _ _ hx hl)⟩
end
end Go.Proofs.Yteglefnfnkgpcaa
