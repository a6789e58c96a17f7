/-
  What Widen leaves, as a statement asks it.
-/
import Derived.Test.YtkfkgkcecocbpaaDoorDn12
namespace Go.Proofs.YtkfkgkcecocbpaaDoor
open Go.RowKit Go.Shelf
set_option linter.unusedVariables false

theorem TookB.old {d d1 : AD} {off o c cc : Nat} (hF : d.Fine) (hB : TookB d d1 o c) (h1 : d.lv (off : Int) = some (cc : Int)) : d1.lv (off : Int) = some (cc : Int) := by
  obtain ⟨o', n', e1, e2, hm⟩ := hF.live _ _ h1
  have eo : o' = off := by omega
  have ec : n' = cc := by omega
  subst eo ec
  have hold : (o', n') ∈ livesOf d.L d.lv := List.mem_filter.2 ⟨hm, by simp [h1]⟩
  have hnew : (o', n') ∈ livesOf d1.L d1.lv := hB.perm.mem_iff.2 (List.mem_cons_of_mem _ hold)
  have hm2 := List.mem_filter.1 hnew
  obtain ⟨s, hs⟩ := Option.isSome_iff_exists.1 hm2.2
  obtain ⟨o2, n2, f1, f2, hm3⟩ := hB.fine.live _ _ hs
  have e3 : (o2, n2) = (o', n') := tiles_unique hB.fine.tiles hm3 hm2.1 (by simp at f1 ⊢; omega)
  cases e3
  rw [← f2]
  exact hs
theorem widen_used {d d1 d2 d3 : AD} {off o c cc n : Nat} (hF : d.Fine) (hB : TookB d d1 o c) (hW : Wr d1 d2 o n) (hg : Gone d2 (off : Int) d3) (h1 : d.lv (off : Int) = some (cc : Int)) (hu : d.used = cc) : d3.used = c ∧ d3.limit = d.limit ∧ d3.lv (o : Int) = (if (o : Int) = (off : Int) then none else some (c : Int)) := by
  obtain ⟨s1, s2, s3, s4, s5⟩ := hW.same
  obtain ⟨s, hs, rfl⟩ := hg
  rw [s2, hB.old hF h1] at hs
  have es : cc = s := by have h := Option.some.inj hs; omega
  subst es
  refine ⟨?_, ?_, ?_⟩
  · show d2.used - cc = c
    rw [s3, hB.used, hu]
    omega
  · show d2.limit = _
    rw [s4, hB.limit]
  · show upd d2.lv (off : Int) none (o : Int) = _
    unfold upd
    split
    · rfl
    · rw [s2, hB.lv]
theorem widen_ne {d d1 : AD} {off o c : Nat} {ts : List Int} (h : DirD d off ts) (hF : d.Fine) (hB : TookB d d1 o c) : o ≠ off := (h.took hF hB).2
end Go.Proofs.YtkfkgkcecocbpaaDoor
