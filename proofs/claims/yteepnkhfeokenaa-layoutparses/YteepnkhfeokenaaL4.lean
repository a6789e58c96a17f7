import Derived.Test.YteepnkhfeokenaaL3
namespace Go.Proofs.Yteepnkhfeokenaa
open Go.RowKit

theorem cell_blk {w : World} {b i : Nat} {cs : Array Value} {t : TypeId} {v : Value} (h : w.heap[b]? = some (.cells cs t)) (hv : cs[i]? = some v) : w.cell? ⟨b, i, none⟩ = some v := by
  simp [World.cell?, h, hv]

theorem parse_zero {k e a b c : Int} {m : Lay} (h : parseD [k, e, a, b, c] = (m, 0)) : errN k e a b c = 0 ∧ laidD k e a b c = m := by
  by_cases hE : errN k e a b c = 0
  · have hP : parseD [k, e, a, b, c] = (laidD k e a b c, 0) := if_pos hE
    rw [hP] at h
    exact ⟨hE, congrArg Prod.fst h⟩
  · have hP : parseD [k, e, a, b, c] = (Lay.zero, errN k e a b c) := if_neg hE
    rw [hP] at h
    exact absurd (congrArg Prod.snd h) hE
end Go.Proofs.Yteepnkhfeokenaa
