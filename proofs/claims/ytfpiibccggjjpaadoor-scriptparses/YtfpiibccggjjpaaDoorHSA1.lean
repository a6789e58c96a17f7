/-
  script: what a script that was read is like (as data).
-/
import Derived.Test.YtfpiibccggjjpaaDoorUn13
namespace Go.Proofs.YtfpiibccggjjpaaDoor
open Go.RowKit
set_option linter.unusedVariables false

def Er (e : Int) : Prop := e = 0 ∨ e = 160 ∨ e = 161
theorem numE_er (s : List UInt8) : Er (numE s).2 := by
  unfold numE Er
  split
  · split
    · exact Or.inl rfl
    · exact Or.inr (Or.inr rfl)
  · exact Or.inr (Or.inl rfl)
theorem wrdE_er (s : List UInt8) : Er (wrdE s).2 := by
  unfold wrdE Er
  split
  · split
    · split
      · exact Or.inl rfl
      · exact Or.inr (Or.inr rfl)
    · exact Or.inr (Or.inl rfl)
  · split
    · split
      · exact Or.inl rfl
      · exact Or.inr (Or.inr rfl)
    · exact Or.inr (Or.inl rfl)
theorem bytE_er (s : List UInt8) : Er (bytE s).2 := by
  unfold bytE bytD Er
  split
  · exact Or.inl rfl
  · split
    · exact Or.inl rfl
    · split
      · exact Or.inl rfl
      · exact Or.inr (Or.inl rfl)
theorem numsE_er : ∀ fs : List (List UInt8), Er (numsE fs).2
  | [] => Or.inl rfl
  | s :: r => by
    rw [numsE]
    split
    · split
      · exact Or.inl rfl
      · exact numsE_er r
    · exact numE_er s
theorem rdF_er (c : CmdD) (p : Int) (fs : List (List UInt8)) : Er (rdF c p fs).2 := by
  unfold rdF
  dsimp only
  split
  · exact numE_er _
  split
  · exact numE_er _
  split
  · exact wrdE_er _
  split
  · exact wrdE_er _
  split
  · exact bytE_er _
  split
  · exact bytE_er _
  split
  · exact numsE_er _
  split
  · exact numsE_er _
  · exact Or.inl rfl
theorem rdFs_er : ∀ (ps : List UInt8) (c : CmdD) (fs : List (List UInt8)), Er (rdFs c ps fs).2
  | [], c, fs => Or.inl rfl
  | p :: r, c, fs => by
    rw [rdFs]
    split
    · exact rdFs_er r _ _
    · exact rdF_er c _ fs
theorem lnR_er (last : Int) (nm : List UInt8) (fs : List (List UInt8)) : Er (lnR last nm fs).2.2 := by
  unfold lnR
  split
  · exact Or.inr (Or.inl rfl)
  · split
    · split
      · exact Or.inl rfl
      · exact rdFs_er _ _ _
    · exact Or.inr (Or.inl rfl)
theorem psF_er : ∀ (ls : List (List UInt8)) (s : PSt) (i : Nat) (x : Nat × Int), psF s i ls = .inr x → (x.2 = 160 ∨ x.2 = 161) ∧ 0 < x.1
  | [], s, i, x, h => by cases h
  | l :: t, s, i, x, h => by
    cases hw : wdsD l with
    | nil =>
      rw [psF_skip hw] at h
      exact psF_er t s (i + 1) x h
    | cons nm fs =>
      by_cases h0 : (lnR s.last nm fs).2.2 = 0
      · rw [psF_read hw h0] at h
        exact psF_er t _ (i + 1) x h
      · rw [psF_bad hw h0] at h
        injection h with h
        subst h
        refine ⟨?_, Nat.succ_pos _⟩
        rcases lnR_er s.last nm fs with e | e | e
        · exact absurd e h0
        · exact Or.inl e
        · exact Or.inr e
theorem parse_er {t : List UInt8} {x : Nat × Int} (h : parseD t = .inr x) : (x.2 = 160 ∨ x.2 = 161) ∧ (0 < x.1 ∨ 1048576 < t.length) := by
  unfold parseD at h
  by_cases hz : 1048576 < t.length
  · rw [if_pos hz] at h
    injection h with h
    subst h
    exact ⟨Or.inl rfl, Or.inr hz⟩
  · rw [if_neg hz] at h
    cases hq : psF PSt.zero 0 (linesD t) with
    | inl s =>
      rw [hq] at h
      dsimp only at h
      split at h
      · injection h with h
        subst h
        exact ⟨Or.inl rfl, Or.inl (Nat.succ_pos _)⟩
      · cases h
    | inr y =>
      rw [hq] at h
      dsimp only at h
      injection h with h
      subst h
      obtain ⟨a, b⟩ := psF_er _ _ _ _ hq
      exact ⟨a, Or.inl b⟩
/-- Words, each with a blank. -/
def wsum (fs : List (List UInt8)) : Nat := (fs.map (fun x => x.length + 1)).sum
theorem wsum_cons (x : List UInt8) (t : List (List UInt8)) : wsum (x :: t) = x.length + 1 + wsum t := by simp [wsum]
theorem wsum_hd (fs : List (List UInt8)) : (fs.headD []).length + wsum (fs.drop 1) ≤ wsum fs := by
  cases fs with
  | nil => exact Nat.le_refl _
  | cons x t =>
    rw [wsum_cons]
    show x.length + wsum t ≤ _
    omega
theorem wsum_len (fs : List (List UInt8)) : fs.length ≤ wsum fs := by
  induction fs with
  | nil => exact Nat.le_refl _
  | cons x t ih => rw [wsum_cons, List.length_cons]; omega
theorem nums_len : ∀ fs : List (List UInt8), (numsE fs).1.length ≤ fs.length
  | [] => Nat.le_refl _
  | s :: r => by
    have ih := nums_len r
    rw [numsE]
    split
    · split
      · simp; omega
      · exact Nat.zero_le _
    · exact Nat.zero_le _
theorem nums_fit : ∀ (fs : List (List UInt8)) (n : Int), n ∈ (numsE fs).1 → Fit n
  | [], n, h => by cases h
  | s :: r, n, h => by
    have ih := nums_fit r n
    rw [numsE] at h
    split at h
    · split at h
      · rcases List.mem_cons.1 h with q | q
        · rw [q]; exact numE_fit s
        · exact ih q
      · cases h
    · cases h
theorem byt_len (s : List UInt8) : (bytE s).1.size ≤ s.length := by
  have := bytD_small (strOf s)
  rw [strOf_size] at this
  exact this
/-- What a line of the table leaves. -/
structure Rd (i : Nat) (fs : List (List UInt8)) (c : CmdD) : Prop where
  tell : tellI i c = c
  op : c.op = oN i
  ok : CmdOk c
  cost : costC c ≤ wsum fs + 1
theorem rdFs_cons {c : CmdD} {p : UInt8} {r : List UInt8} {fs : List (List UInt8)} (h : (rdFs c (p :: r) fs).2 = 0) : rdFs c (p :: r) fs = rdFs (rdF c (p.toNat : Int) fs).1 r (fs.drop 1) := by
  rw [rdFs] at h ⊢
  by_cases h0 : (rdF c (p.toNat : Int) fs).2 = 0
  · rw [if_pos h0]
  · rw [if_neg h0] at h
    exact absurd h h0
theorem fit0 : Fit 0 := ⟨by decide, by decide⟩
theorem rd_1 {c : CmdD} {p : UInt8} {fs : List (List UInt8)} (h : (rdFs c [p] fs).2 = 0) : (rdFs c [p] fs).1 = (rdF c (p.toNat : Int) fs).1 := by rw [rdFs_cons h]; rfl
theorem rd_2 {c : CmdD} {p q : UInt8} {fs : List (List UInt8)} (h : (rdFs c [p, q] fs).2 = 0) : (rdFs c [p, q] fs).1 = (rdF (rdF c (p.toNat : Int) fs).1 (q.toNat : Int) (fs.drop 1)).1 := by
  have e := rdFs_cons h
  rw [e] at h ⊢
  exact rd_1 h
theorem rd_3 {c : CmdD} {p q r : UInt8} {fs : List (List UInt8)} (h : (rdFs c [p, q, r] fs).2 = 0) : (rdFs c [p, q, r] fs).1 = (rdF (rdF (rdF c (p.toNat : Int) fs).1 (q.toNat : Int) (fs.drop 1)).1 (r.toNat : Int) ((fs.drop 1).drop 1)).1 := by
  have e := rdFs_cons h
  rw [e] at h ⊢
  exact rd_2 h
theorem rd_case (i : Nat) (hi : i < 16) (fs : List (List UInt8)) (h : (rowRd i fs).2 = 0) : Rd i fs (rowRd i fs).1 := by
  have w1 := wsum_hd fs
  have w2 := wsum_hd (fs.drop 1)
  have w3 := wsum_hd ((fs.drop 1).drop 1)
  have n0 := fun s => numE_fit s
  have u0 := fun s => wrdE_fit s
  have z : (⟨#[]⟩ : ByteArray).size = 0 := rfl
  have zl : ∀ n : Int, n ∈ ([] : List Int) → Fit n := fun n h => by cases h
  have zu : 0 < 18446744073709551616 := by decide
  have b1 := byt_len (fs.headD [])
  have b2 := byt_len ((fs.drop 1).headD [])
  have b3 := byt_len (((fs.drop 1).drop 1).headD [])
  have l1 := Nat.le_trans (nums_len fs) (wsum_len fs)
  have l3 := Nat.le_trans (nums_len ((fs.drop 1).drop 1)) (wsum_len ((fs.drop 1).drop 1))
  unfold rowRd at h ⊢
  match i, hi with
  | 0, _ =>
    rw [show (rdFs { zeroC with op := oN 0 } (fmN 0).data.toList fs).1 = _ from rd_1 (p := 78) h]
    exact ⟨rfl, rfl, ⟨fit0, n0 _, zl, zl, zu, zu⟩, by show 0 + 0 + 0 + 0 + 1 ≤ _; omega⟩
  | 1, _ =>
    rw [show (rdFs { zeroC with op := oN 1 } (fmN 1).data.toList fs).1 = _ from rd_2 (p := 75) (q := 85) h]
    exact ⟨rfl, rfl, ⟨fit0, fit0, zl, zl, u0 _, zu⟩, by show 0 + 0 + (bytE (fs.headD [])).1.size + 0 + 1 ≤ _; omega⟩
  | 2, _ =>
    rw [show (rdFs { zeroC with op := oN 2 } (fmN 2).data.toList fs).1 = _ from rd_3 (p := 85) (q := 78) (r := 70) h]
    exact ⟨rfl, rfl, ⟨fit0, n0 _, nums_fit _, zl, u0 _, zu⟩, by show (numsE ((fs.drop 1).drop 1)).1.length + 0 + 0 + 0 + 1 ≤ _; omega⟩
  | 3, _ =>
    rw [show (rdFs { zeroC with op := oN 3 } (fmN 3).data.toList fs).1 = _ from rd_2 (p := 72) (q := 75) h]
    exact ⟨rfl, rfl, ⟨n0 _, fit0, zl, zl, zu, zu⟩, by show 0 + 0 + (bytE ((fs.drop 1).headD [])).1.size + 0 + 1 ≤ _; omega⟩
  | 4, _ =>
    rw [show (rdFs { zeroC with op := oN 4 } (fmN 4).data.toList fs).1 = _ from rd_3 (p := 72) (q := 75) (r := 69) h]
    exact ⟨rfl, rfl, ⟨n0 _, fit0, zl, zl, zu, zu⟩, by show 0 + 0 + (bytE ((fs.drop 1).headD [])).1.size + (bytE (((fs.drop 1).drop 1).headD [])).1.size + 1 ≤ _; omega⟩
  | 5, _ =>
    rw [show (rdFs { zeroC with op := oN 5 } (fmN 5).data.toList fs).1 = _ from rd_2 (p := 72) (q := 75) h]
    exact ⟨rfl, rfl, ⟨n0 _, fit0, zl, zl, zu, zu⟩, by show 0 + 0 + (bytE ((fs.drop 1).headD [])).1.size + 0 + 1 ≤ _; omega⟩
  | 6, _ =>
    rw [show (rdFs { zeroC with op := oN 6 } (fmN 6).data.toList fs).1 = _ from rd_1 (p := 72) h]
    exact ⟨rfl, rfl, ⟨n0 _, fit0, zl, zl, zu, zu⟩, by show 0 + 0 + 0 + 0 + 1 ≤ _; omega⟩
  | 7, _ =>
    rw [show (rdFs { zeroC with op := oN 7 } (fmN 7).data.toList fs).1 = _ from rd_2 (p := 72) (q := 85) h]
    exact ⟨rfl, rfl, ⟨n0 _, fit0, zl, zl, u0 _, zu⟩, by show 0 + 0 + 0 + 0 + 1 ≤ _; omega⟩
  | 8, _ =>
    rw [show (rdFs { zeroC with op := oN 8 } (fmN 8).data.toList fs).1 = _ from rd_1 (p := 72) h]
    exact ⟨rfl, rfl, ⟨n0 _, fit0, zl, zl, zu, zu⟩, by show 0 + 0 + 0 + 0 + 1 ≤ _; omega⟩
  | 9, _ =>
    rw [show (rdFs { zeroC with op := oN 9 } (fmN 9).data.toList fs).1 = _ from rd_3 (p := 72) (q := 85) (r := 86) h]
    exact ⟨rfl, rfl, ⟨n0 _, fit0, zl, zl, u0 _, u0 _⟩, by show 0 + 0 + 0 + 0 + 1 ≤ _; omega⟩
  | 10, _ =>
    rw [show (rdFs { zeroC with op := oN 10 } (fmN 10).data.toList fs).1 = _ from rd_1 (p := 72) h]
    exact ⟨rfl, rfl, ⟨n0 _, fit0, zl, zl, zu, zu⟩, by show 0 + 0 + 0 + 0 + 1 ≤ _; omega⟩
  | 11, _ =>
    rw [show (rdFs { zeroC with op := oN 11 } (fmN 11).data.toList fs).1 = _ from rd_1 (p := 83) h]
    exact ⟨rfl, rfl, ⟨fit0, fit0, zl, nums_fit _, zu, zu⟩, by show 0 + (numsE fs).1.length + 0 + 0 + 1 ≤ _; omega⟩
  | 12, _ => exact ⟨rfl, rfl, ⟨fit0, fit0, zl, zl, zu, zu⟩, by show 0 + 0 + 0 + 0 + 1 ≤ _; omega⟩
  | 13, _ =>
    rw [show (rdFs { zeroC with op := oN 13 } (fmN 13).data.toList fs).1 = _ from rd_2 (p := 72) (q := 75) h]
    exact ⟨rfl, rfl, ⟨n0 _, fit0, zl, zl, zu, zu⟩, by show 0 + 0 + (bytE ((fs.drop 1).headD [])).1.size + 0 + 1 ≤ _; omega⟩
  | 14, _ =>
    rw [show (rdFs { zeroC with op := oN 14 } (fmN 14).data.toList fs).1 = _ from rd_1 (p := 72) h]
    exact ⟨rfl, rfl, ⟨n0 _, fit0, zl, zl, zu, zu⟩, by show 0 + 0 + 0 + 0 + 1 ≤ _; omega⟩
  | 15, _ => exact ⟨rfl, rfl, ⟨fit0, fit0, zl, zl, zu, zu⟩, by show 0 + 0 + 0 + 0 + 1 ≤ _; omega⟩
  | k + 16, hk => exact absurd hk (by omega)
end Go.Proofs.YtfpiibccggjjpaaDoor
