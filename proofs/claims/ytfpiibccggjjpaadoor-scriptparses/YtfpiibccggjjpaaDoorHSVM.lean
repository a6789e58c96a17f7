/-
  script: what the reference's Parse leaves, as rows that lie somewhere.
-/
import Derived.Test.YtfpiibccggjjpaaDoorHSVK
import Derived.Test.YtfpiibccggjjpaaDoorHSA2
import Derived.Test.YtfpiibccggjjpaaDoorUn13
namespace Go.Proofs.YtfpiibccggjjpaaDoor
open Go.RowKit
set_option linter.unusedVariables false
theorem IntsB.intsIn {w : World} {v : Value} {l : List Int} (h : IntsB w v l) (fits : ∀ n, n ∈ l → -9223372036854775808 ≤ n ∧ n ≤ 9223372036854775807) : IntsIn w v l := by
  refine ⟨?_, fits⟩
  rcases h with h | ⟨g, o, c, cs, rfl, hc, hg, hw⟩
  · exact Or.inl h
  · refine Or.inr ⟨⟨g, o, none⟩, c, rfl, fun j hj => ?_⟩
    rw [addr_add]
    simp only [World.cell?, hg]
    exact hw j hj
theorem ScT.fineO {lo : Nat} {st : PSt} {vo vc : Value} {L : List CmV} {W : World} (h : ScT lo st vo vc L W) (hf : Fine st 1048577) : OvIn W vo st.os := ⟨own_rowIn h.os, fun x hx => by
  have := sum_mem (fun o : Ovr => o.1.size + 1) st.os x hx
  have h2 := hf.cost
  unfold costO at h2
  exact ⟨by omega, hf.os x hx⟩⟩
theorem ScT.fineC {lo : Nat} {st : PSt} {vo vc : Value} {L : List CmV} {W : World} (h : ScT lo st vo vc L W) (hf : Fine st 1048577) : CmIn W vc L := by
  refine ⟨own_rowIn h.cs, fun x hx => ?_⟩
  have hm : x.c ∈ st.cs := by
    rw [← h.eq]
    exact List.mem_map.2 ⟨x, hx, rfl⟩
  obtain ⟨e1, e2⟩ := h.each x hx
  have hk := (hf.cs _ hm).2
  have h3 := sum_mem costC st.cs x.c hm
  have h2 := hf.cost
  unfold costs at h2
  have h4 : x.c.fl.length + x.c.hl.length + x.c.key.size + x.c.elem.size + 1 ≤ (st.cs.map costC).sum := h3
  exact ⟨e1.intsIn hk.f, e2.intsIn hk.s, by omega, by omega, hk.h, hk.n, hk.u, hk.v, by omega, by omega⟩
/-- What a Parse answers, whichever: a limit, two rows, a line, an error. -/
def PaA (R : PSt ⊕ (Nat × Int)) (w : World) (e : Ending) (w' : World) : Prop := ∃ lim vo vc os L, e = .returned (.tuple #[.agg #[.int .i64 lim, vo, vc], .int .i64 (match R with | .inl _ => 0 | .inr x => (x.1 : Int)), .int .i64 (match R with | .inl _ => 0 | .inr x => x.2)]) ∧ OvIn w' vo os ∧ CmIn w' vc L ∧ lim = (match R with | .inl st => st.lim | .inr _ => 0) ∧ os = (match R with | .inl st => st.os | .inr _ => []) ∧ L.map (·.c) = (match R with | .inl st => st.cs | .inr _ => []) ∧ Keeps w w' (fun _ => False)
theorem ovIn_nil (w : World) : OvIn w (.slice none 0 0) [] := ⟨own_rowIn (base := 0) (e := 49) (size := 2) (xs := []) (n := 0) ⟨rfl, Or.inl ⟨rfl, rfl⟩⟩, fun x hx => by cases hx⟩
theorem cmIn_nil (w : World) : CmIn w (.slice none 0 0) [] := ⟨own_rowIn (base := 0) (e := 33) (size := 9) (xs := []) (n := 0) ⟨rfl, Or.inl ⟨rfl, rfl⟩⟩, fun x hx => by cases hx⟩
end Go.Proofs.YtfpiibccggjjpaaDoor
