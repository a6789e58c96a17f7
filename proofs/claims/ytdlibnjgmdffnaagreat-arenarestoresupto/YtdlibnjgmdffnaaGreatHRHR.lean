/-
  What ArenaRestores is given, up to a size.
-/
import Derived.Test.YtdlibnjgmdffnaaGreatFn17
import Derived.Test.YtdlibnjgmdffnaaGreatHRH8
import Derived.Lib.SmallJoins
namespace Go.Proofs.YtdlibnjgmdffnaaGreat
open Go.ChangeShapes Go.WideShapes Go.ChangeAt Go.RowKit
open Go.ChangeMaps (open_string shut_string)
set_option linter.unusedVariables false

section
variable {H : Type} {enc : TypeId × Value → H} {w : World} {held : Bool}
set_option maxRecDepth 100000 in
theorem open_part3 {fuel : Nat} {cs : List Value} {x : DataW H × List MemPlace} (h : DataW.trod enc Tryz.prog w 0 (fun _ => true) held fuel 44 cs = some x) : ∃ q : Int × Int × Bool, cs = p3 q := by
  obtain ⟨xs, n, _, rfl, hl, hlen, hf⟩ := DataW.trod_struct Tryz.underlying44 h
  have hl3 : cs.length = 3 := hl.trans (by kernel_rfl)
  have hlen3 : xs.length = 3 := hlen
  have c3 : Tryz.prog.cellsOf 3 = 1 := by kernel_rfl
  have c4 : Tryz.prog.cellsOf 4 = 1 := by kernel_rfl
  match cs, hl3, xs, hlen3 with
  | [v0, v1, v2], _, [y0, y1, y2], _ =>
    have f0 := hf 0 _ rfl
    have f1 := hf 1 _ rfl
    have f2 := hf 2 _ rfl
    clear hf h
    simp only [List.getElem?_cons_zero, List.getElem?_cons_succ] at f0 f1 f2
    obtain ⟨k0, e0, rfl, w0⟩ := DataW.trod_int Tryz.underlying3 f0
    obtain ⟨k1, e1, rfl, w1⟩ := DataW.trod_int Tryz.underlying3 f1
    obtain ⟨k2, e2, _⟩ := DataW.trod_bool Tryz.underlying4 f2
    refine ⟨(k0, k1, k2), ?_⟩
    simp only [p3]
    simp_all

instance : Inhabited (Int × Int × Bool) := ⟨(0, 0, false)⟩
set_option maxRecDepth 100000 in
theorem open_parts3 {n : Nat} {v : Value} {y : DataW H × List MemPlace} (h : DataW.trod enc Tryz.prog w 0 (fun _ => true) held n 40 [v] = some y) (hk : Rows.uptoBulk y.1 ≤ 1048576) :
    ∃ (a : Option Addr) (cap : Nat) (ps : List (Int × Int × Bool)), v = .slice a ps.length cap ∧ PartsIn w a ps ∧ (a = none → cap = 0) ∧ ps.length ≤ cap ∧ ps.length ≤ 1048576 := by
  rcases Go.Deep.open_slice Tryz.underlying40 h with ⟨hcs, _⟩ | ⟨a, len, cap, m, n', D, Pl, hcs, _, hl, hm, hmm, rfl, hx⟩
  · injection hcs with e1 _
    exact ⟨none, 0, [], e1, Or.inl rfl, fun _ => rfl, by simp, by simp⟩
  · injection hcs with e1 _
    have hmc : m = cap := by simpa using hmm
    subst hmc
    have c7 : Tryz.prog.cellsOf 44 = 3 := by kernel_rfl
    rw [c7] at hx
    simp only [Rows.uptoBulk] at hk
    have hn := length_le ((List.range len).map D)
    rw [List.length_map, List.length_range] at hn
    obtain ⟨f, hf⟩ := Go.Deep.choose_lt (α := Int × Int × Bool) (n := len) (p := fun i q => ∀ j, j < 3 → w.cell? (a.add (i * 3 + j)) = (p3 q)[j]?) (fun i hi => by
      obtain ⟨cs', g1, g2⟩ := hx i (by omega)
      obtain ⟨q, rfl⟩ := open_part3 g2
      refine ⟨q, fun j hj => ?_⟩
      have g3 := (World.cells?_some g1).2.2 j hj
      rw [Go.Deep.add_add] at g3
      rw [g3])
    have hll : ((List.range len).map f).length = len := by simp
    refine ⟨some a, m, (List.range len).map f, by rw [hll]; exact e1, ?_, fun e => (by cases e), by rw [hll]; omega, by rw [hll]; omega⟩
    by_cases h0 : len = 0
    · subst h0
      exact Or.inl rfl
    · have z := hf 0 (by omega) 0 (by omega)
      obtain ⟨bb, oo, rfl, hbb⟩ := plain_of_cell (w := w) (a := a) (v := .int .i64 (f 0).1) (by simpa [p3] using z)
      refine Or.inr ⟨bb, oo, rfl, fun i hi => ?_⟩
      have hi' : i < len := by rw [hll] at hi; exact hi
      have e : ((List.range len).map f)[i] = f i := by simp
      rw [e]
      have q := hf i hi'
      simp only [addr_add] at q
      refine ⟨?_, ?_, ?_⟩
      · have := q 0 (by omega)
        simpa [p3] using this
      · have := q 1 (by omega)
        rw [Nat.add_assoc]
        simpa [p3] using this
      · have := q 2 (by omega)
        rw [Nat.add_assoc]
        simpa [p3] using this
end

namespace arenaRestores
theorem walk (lim : Int) (a : Option Addr) (ca : Nat) (ps : List (Int × Int × Bool)) (S : ByteArray) (so : Option Addr) (sc : Nat) (ops : List OpD) (w : World) (hn : ps.length ≤ 134217728) (ha : a = none → ca = 0) (hca : ps.length ≤ ca) (h1 : PartsIn w a ps) (hSs : S.size ≤ 140737488355328) (hops : OpsIn w so ops) (hlen : ops.length ≤ 134217728) :
    Calls Tryz.prog 5 #[.agg #[.int .i64 lim, .slice a ps.length ca, .string S], .slice so ops.length sc] w fun e w' => YesKeeps w e w' := by
  by_cases hl : lim < 0 ∨ 2097152 < lim
  · exact no 20 (by omega) lim a ca ps S _ w hn ha hca h1 (fun W g cap _ _ _ => restore_limit lim hl _ _ W) (fun W _ => ref_restore_limit lim hl _ _ W)
  · obtain ⟨n, rfl⟩ : ∃ n : Nat, lim = n := ⟨lim.toNat, by omega⟩
    have hlim : n ≤ 2097152 := by omega
    by_cases hok : ∀ k, okP n ps k
    · by_cases hg : (S.size : Int) = sumL ps ∧ sumL ps ≤ n
      · exact yes n hlim a ca ps S so sc ops w hn ha hca h1 hok hSs hg.1 hg.2 hops hlen
      · refine no (if (S.size : Int) = sumL ps then 22 else 26) (by split <;> omega) n a ca ps S _ w hn ha hca h1 (fun W g cap _ hP _ => restore_bytes n hlim (some ⟨g, 0, none⟩) cap ps W hn hP hok S hg _ (show _ = _ from rfl)) (fun W kW => ?_)
        refine (ref_restore n hlim a ca ps W hn hca (h1.keeps kW) hok S hSs).mono fun e W' h => ?_
        rcases h with h | h
        · exact absurd h.1 hg
        · exact h.2
    · exact no 25 (by omega) n a ca ps S _ w hn ha hca h1 (fun W g cap _ hP _ => restore_parts n hlim (some ⟨g, 0, none⟩) cap ps W hn hP hok S) (fun W kW => ref_restore_parts n hlim a ca ps W hn hca (h1.keeps kW) hok S)
end arenaRestores
end Go.Proofs.YtdlibnjgmdffnaaGreat
