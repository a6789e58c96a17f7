/-
  script: what the marked copy tells: its lists are the script's, the marks stand.
-/
import Derived.Test.YtpkbjjbbdhehdaaDoorSGB
namespace Go.Proofs.YtpkbjjbbdhehdaaDoor
open Go.RowKit
set_option linter.unusedVariables false
/-- Where the tails point to. -/
def TailsOk (G : Nat → Bool → Nat) (L : List CmV) (ts : List Value) (i : Nat) : Prop := ts.length = 2 * i ∧ ∀ j (h : j < L.length), j < i → ts[2 * j]? = some (.pointer (some ⟨G j false, (lst false L[j].c).length, none⟩)) ∧ ts[2 * j + 1]? = some (.pointer (some ⟨G j true, (lst true L[j].c).length, none⟩))
theorem TailsOk.more {G : Nat → Bool → Nat} {L : List CmV} {ts : List Value} {i : Nat} (h : TailsOk G L ts i) (hi : i < L.length) (g1 g2 : Nat) : TailsOk (upd (upd G i false g1) i true g2) L (ts ++ [.pointer (some ⟨g1, (lst false L[i].c).length, none⟩), .pointer (some ⟨g2, (lst true L[i].c).length, none⟩)]) (i + 1) := by
  obtain ⟨h1, h2⟩ := h
  refine ⟨by rw [List.length_append, h1]; rfl, fun j hj hlt => ?_⟩
  rcases Nat.lt_or_ge j i with hji | hji
  · obtain ⟨e1, e2⟩ := h2 j hj hji
    rw [upd_other _ _ (fun e => by omega), upd_other _ _ (fun e => by omega), upd_other _ _ (fun e => by omega), upd_other _ _ (fun e => by omega), List.getElem?_append_left (by omega), List.getElem?_append_left (by omega)]
    exact ⟨e1, e2⟩
  · obtain rfl : j = i := by omega
    rw [upd_same, upd_other (b := true) (c := false) _ _ (fun e => by cases e.2), upd_same, List.getElem?_append_right (by omega), List.getElem?_append_right (by omega), h1]
    exact ⟨by simp, by simp⟩
theorem M_next (i : Nat) : updB (updB (fun j _ => decide (j < i)) i false) i true = fun j _ => decide (j < i + 1) := by
  funext j c
  unfold updB
  by_cases h : j = i
  · subst h
    cases c <;> simp
  · have e : decide (j < i) = decide (j < i + 1) := by
      rw [decide_eq_decide]
      omega
    rw [if_neg (fun e => h e.1), if_neg (fun e => h e.1)]
    exact e
section
variable {w W W' : World} {os : List Ovr} {L : List CmV} {go co gc cc : Nat} {G C : Nat → Bool → Nat} {v6 : Value} {ts : List Value} {bt : Nat} {bv : Array Value}
theorem PrJ.ovIn (h : PrJ w os L go co gc cc G C G C (fun j _ => decide (j < L.length)) v6 ts bt bv W) (ok : ∀ x ∈ os, x.1.size ≤ 8388608 ∧ x.2 < 18446744073709551616) : OvIn W (.slice (some ⟨go, 0, none⟩) os.length co) os := by
  refine ⟨Or.inr ⟨_, _, rfl, fun j u hu => ?_⟩, ok⟩
  have hj : j < (ovCells os).length := (List.getElem?_eq_some_iff.1 hu).1
  rw [addr_add, Nat.zero_add, h.ov.cellAt j (by rw [ovCells_length] at hj; omega), List.getElem?_append_left hj]
  exact hu
theorem PrJ.rowIn (h : PrJ w os L go co gc cc G C G C (fun j _ => decide (j < L.length)) v6 ts bt bv W) {i : Nat} (hi : i < L.length) (b : Bool) (fits : ∀ n, n ∈ lst b L[i].c → -9223372036854775808 ≤ n ∧ n ≤ 9223372036854775807) : IntsIn W (rowV G C i b L[i].c) (lst b L[i].c) := by
  refine ⟨Or.inr ⟨_, _, rfl, fun j hj => ?_⟩, fits⟩
  rw [addr_add, Nat.zero_add, (h.row i hi b).cellAt j (by omega), List.getElem?_append_left (by rw [List.length_map]; exact hj), List.getElem?_map, List.getElem?_eq_getElem hj]
  rfl
theorem PrJ.cmIn (h : PrJ w os L go co gc cc G C G C (fun j _ => decide (j < L.length)) v6 ts bt bv W) {w0 : World} (ok : ∀ x ∈ L, CmdIn w0 x.c x.fs x.hs) : CmIn W (.slice (some ⟨gc, 0, none⟩) L.length cc) (newC G C L) := by
  have hlen : (newC G C L).length = L.length := by simp [newC]
  refine ⟨?_, fun x hx => ?_⟩
  · rw [hlen]
    refine Or.inr ⟨_, _, rfl, fun j u hu => ?_⟩
    have hj : j < (cmCells (newC G C L)).length := (List.getElem?_eq_some_iff.1 hu).1
    rw [addr_add, Nat.zero_add, h.cm.cellAt j (by rw [cmCells_length, hlen] at hj; omega), List.getElem?_append_left hj]
    exact hu
  · obtain ⟨i, hi, rfl⟩ := List.getElem_of_mem hx
    rw [hlen] at hi
    have hk := ok _ (List.getElem_mem hi)
    simp only [newC, List.getElem_mapIdx]
    exact ⟨h.rowIn hi false hk.f.fits, h.rowIn hi true hk.s.fits, hk.lf, hk.ls, hk.h, hk.n, hk.u, hk.v, hk.key, hk.elem⟩
theorem newC_map (G C : Nat → Bool → Nat) (L : List CmV) : (newC G C L).map (·.c) = L.map (·.c) := by
  apply List.ext_getElem
  · simp [newC]
  · intro j h1 h2
    simp [newC]
theorem PrJ.tailAt (h : PrJ w os L go co gc cc G C G C (fun j _ => decide (j < L.length)) v6 ts bt bv W) (ht : TailsOk G L ts L.length) {k : Nat} (hk : k < ts.length) : ∃ a1 a2, ts[k]? = some (.pointer (some ⟨a1, a2, none⟩)) ∧ W.cell? ⟨a1, a2, none⟩ = some (.int .i64 77) := by
  have hcell : ∀ i (hi : i < L.length) b, W.cell? ⟨G i b, (lst b L[i].c).length, none⟩ = some (.int .i64 77) := fun i hi b => by
    have hr := h.row i hi b
    have e : decide (i < L.length) = true := decide_eq_true hi
    rw [e] at hr
    rw [hr.cellAt (lst b L[i].c).length (by simp [mrk]), List.getElem?_append_right (by rw [List.length_map]; exact Nat.le_refl _), List.length_map, Nat.sub_self]
    rfl
  have hj : k / 2 < L.length := by have := ht.1; omega
  obtain ⟨e1, e2⟩ := ht.2 (k / 2) hj hj
  rcases Nat.mod_two_eq_zero_or_one k with hm | hm
  · rw [show 2 * (k / 2) = k by omega] at e1
    exact ⟨_, _, e1, hcell _ hj false⟩
  · rw [show 2 * (k / 2) + 1 = k by omega] at e2
    exact ⟨_, _, e2, hcell _ hj true⟩
theorem PrJ.tailForm (h : PrJ w os L go co gc cc G C G C (fun j _ => decide (j < L.length)) v6 ts bt bv W) : ∃ st ct, v6 = .slice st ts.length ct ∧ ∀ k, k < ts.length → ∃ g, st = some ⟨g, 0, none⟩ ∧ W.cell? ⟨g, k, none⟩ = ts[k]? := by
  have h0 := h.tails
  rcases h.tails.2 with ⟨e, hn⟩ | ⟨g, cap, cur, e, r⟩
  · rw [hn]
    exact ⟨none, 0, e, fun k hk => by omega⟩
  · refine ⟨some ⟨g, 0, none⟩, cap, e, fun k hk => ⟨g, rfl, ?_⟩⟩
    rw [e] at h0
    exact h0.cellAt k (by omega)
theorem PrJ.ends (h : PrJ w os L go co gc cc G C G C (fun j _ => decide (j < L.length)) v6 ts bt bv W) : W.cell? ⟨go, os.length * 2 + 1, none⟩ = some (.int .u64 79) ∧ W.cell? ⟨gc, L.length * 9, none⟩ = some (.int .i64 (-80)) := by
  have hlen : (newC G C L).length = L.length := by simp [newC]
  constructor
  · rw [h.ov.cellAt _ (by omega), List.getElem?_append_right (by rw [ovCells_length]; omega), ovCells_length, show os.length * 2 + 1 - os.length * 2 = 1 by omega]
    rfl
  · rw [h.cm.cellAt _ (by omega), List.getElem?_append_right (by rw [cmCells_length, hlen]; omega), cmCells_length, hlen, Nat.sub_self]
    rfl
end
end Go.Proofs.YtpkbjjbbdhehdaaDoor
