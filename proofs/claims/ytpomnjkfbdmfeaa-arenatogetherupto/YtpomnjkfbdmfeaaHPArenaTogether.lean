/-
  The second statement on ArenaTogether out of its walk.
-/
import Derived.Test.YtpomnjkfbdmfeaaTo14
import Derived.Test.YtpomnjkfbdmfeaaHWArenaTogether
import Derived.ProofKit
import Derived.OpenShut
import Derived.ChangeOld
import Derived.JoinedCond
import Derived.Deep.Slices
import Derived.Lib.SmallJoins
namespace Go.Proofs.Ytpomnjkfbdmfeaa
namespace arenaTogether
open Go.ChangeShapes Go.WideShapes Go.ChangeAt Go.RowKit
set_option linter.unusedVariables false

theorem own : ownKnob Try.prog.godebug = none := by kernel_rfl
theorem laidOut : laidOutB Try.prog = true := by kernel_rfl

/-! ### Bulk -/
theorem one_le {H : Type} (d : DataW H) : 1 ≤ Rows.uptoBulk d := by
  cases d with
  | lit l => cases l <;> simp [Rows.uptoBulk]
  | _ => simp [Rows.uptoBulk]
theorem part_le {H : Type} {d : DataW H} {l : List (DataW H)} (h : d ∈ l) : Rows.uptoBulk d ≤ Rows.uptoBulkAll l := by
  induction l with
  | nil => cases h
  | cons x r ih =>
    simp only [Rows.uptoBulkAll]
    cases List.mem_cons.1 h with
    | inl e => subst e; omega
    | inr e => have := ih e; omega
theorem length_le {H : Type} (l : List (DataW H)) : l.length ≤ Rows.uptoBulkAll l := by
  induction l with
  | nil => simp [Rows.uptoBulkAll]
  | cons x r ih => have := one_le x; simp only [Rows.uptoBulkAll, List.length_cons]; omega

section
variable {H : Type} {enc : TypeId × Value → H} {w : World} {held : Bool}
theorem open_ints {n : Nat} {v : Value} {y : DataW H × List MemPlace} (h : DataW.trod enc Try.prog w 0 (fun _ => true) held n 28 [v] = some y) (hk : Rows.uptoBulk y.1 ≤ 1048576) :
    ∃ xs : List Int, InZ w v xs ∧ xs.length ≤ 1048576 := by
  rcases Go.Deep.open_slice1 Try.underlying28 (by kernel_rfl) h with ⟨hcs, _⟩ | ⟨a, len, cap, m, n', V, D, Pl, hcs, _, hl, hm, hmm, rfl, hx⟩
  · injection hcs with e1 _
    exact ⟨[], Or.inl ⟨e1, rfl⟩, by simp⟩
  · injection hcs with e1 _
    have hmc : m = cap := by simpa using hmm
    subst hmc
    simp only [Rows.uptoBulk] at hk
    have hn := length_le ((List.range len).map D)
    rw [List.length_map, List.length_range] at hn
    obtain ⟨f, hf⟩ := Go.Deep.choose_lt (α := Int) (n := len) (p := fun i x => w.cell? (a.add i) = some (.int .i64 x)) (fun i hi => by
      obtain ⟨g1, g2⟩ := hx i (by omega)
      obtain ⟨x, e, _, _⟩ := DataW.trod_int Try.underlying3 g2
      simp at e
      exact ⟨x, by rw [g1, e]⟩)
    refine ⟨(List.range len).map f, Or.inr ⟨a, m, by rw [List.length_map, List.length_range]; exact e1, fun j hj => ?_, fun h0 => ?_⟩, by rw [List.length_map, List.length_range]; omega⟩
    · have hj' : j < len := by simpa using hj
      rw [hf j hj']
      simp
    · rw [List.length_map, List.length_range] at h0
      exact plain_of_cell (w := w) (a := a) (hf 0 h0)
end

theorem walk (n tw : Int) (v1 v2 : Value) (z1 z2 : List Int) (w : World) (htw : fitsI tw) (i1 : InZ w v1 z1) (i2 : InZ w v2 z2) (l1 : z1.length ≤ 1048576) (l2 : z2.length ≤ 1048576) :
    Calls Try.prog 5 #[.agg #[.int .i64 n, v1, v2, .int .i64 tw]] w fun e w' => Post w e w' := by
  by_cases h : n < 0 ∨ 2097152 < n
  · exact walk_no n tw v1 v2 w h
  · obtain ⟨m, rfl⟩ := Int.eq_ofNat_of_zero_le (show 0 ≤ n by omega)
    exact walk_yes m tw v1 v2 z1 z2 w (by omega) htw i1 i2 l1 l2

set_option maxRecDepth 100000 in
theorem contract (H : Type) (enc : TypeId × Value → H) (W : World) (base : Nat) (args : Array Value) (ds gs : List (DataW H)) (before : List MemPlace)
    (hval : ∀ (j : Nat) t v, Try.f5.params[j]? = some t → args[j]? = some v → Value.okWide Try.prog W .any base t v)
    (hW : DataW.Whole enc Try.prog Try.f5.params.toList Rows.arenaTogetherSpec.vars false W args.toList ds gs before) (hk : Rows.uptoSmall H (ds ++ gs) = true) :
    Calls Try.prog 5 args W fun e W' => ∃ v, e = .returned v ∧ Rows.arenaTogetherSpec.post enc Try.prog Try.f5 false true false false W args v W' := by
  have hW' := hW
  obtain ⟨p, q, hA0, hV, rfl, hfz, hnd⟩ := hW
  have hA : DataW.TrodAll enc Try.prog W 0 (fun _ => true) true Try.f5.params.toList args.toList ds p := hA0
  rw [Try.params5] at hA hval
  obtain ⟨v0, vs0, d0, ds0, p0, q0, hargs, rfl, rfl, h0, r0⟩ := trodAll_cons hA
  obtain ⟨rfl, rfl, rfl⟩ := trodAll_nil r0
  obtain rfl : args = #[v0] := by cases args; simp_all
  obtain ⟨rfl, rfl⟩ := trodVars_none hV
  have k0 := h0
  have lt0 : ∀ x ∈ p0, x.block < W.heap.size := by obtain ⟨m, hm⟩ := k0; exact DataW.trod_lt m _ _ _ hm
  obtain ⟨c0, c1, c2, c3, y0, y1, y2, y3, n, rfl, rfl, rfl, t0, t1, t2, t3⟩ := Go.Joins.open_agg4 Try.underlying50 (by kernel_rfl) (by kernel_rfl) (hval 0 50 v0 rfl rfl) h0
  simp only [List.append_nil] at hk
  have hbound : Rows.uptoBulkAll [DataW.agg [y0.1, y1.1, y2.1, y3.1]] ≤ 1048576 := of_decide_eq_true hk
  simp only [Rows.uptoBulkAll, Rows.uptoBulk] at hbound
  obtain ⟨z1, i1, l1⟩ := open_ints t1 (by omega)
  obtain ⟨z2, i2, l2⟩ := open_ints t2 (by omega)
  obtain ⟨x0, e0, rfl, w0⟩ := DataW.trod_int Try.underlying3 t0
  obtain ⟨x3, e3, rfl, w3⟩ := DataW.trod_int Try.underlying3 t3
  simp only [List.cons.injEq, and_true] at e0 e3
  subst e0 e3
  clear hA0 hbound
  refine (walk x0 x3 c1 c2 z1 z2 W w3 i1 i2 l1 l2).mono fun e W' ⟨he, bel⟩ => ?_
  subst he
  exact ⟨_, rfl, _, _, _, [], _, [], hW', (trodAll_cons_mk (shut_bool Try.underlying4 _) trodAll_mk0), (trodAll_cons_mk (Below.trod laidOut (by kernel_rfl) (of_decide_eq_true (by kernel_rfl)) k0 bel lt0) trodAll_mk0), rfl, bel.frame _, fun h => by cases h⟩

set_option maxRecDepth 100000 in
theorem lifted (os : Os) (started : os.Started) (H : Type) (enc : TypeId × Value → H) (F : Stop.Interp) :
    ReturnsInHanded {} Try.checked os 5 .any ((Rows.OpenSpec.upto Rows.arenaTogetherSpec).pre6 enc Try.prog Try.f5 Rows.arenaTogetherUptoRow.domain false) (((Rows.OpenSpec.upto Rows.arenaTogetherSpec).at F).post enc Try.prog Try.f5 false true false false) := by
  refine returnsInHanded_of_cond (C := Try.checked) (s := Rows.OpenSpec.upto Rows.arenaTogetherSpec) (k := Rows.uptoSmall) rfl own started (by kernel_rfl) Try.func5
    (OpenSpec.witness (enc := enc) (C := Try.checked) (s := Rows.OpenSpec.upto Rows.arenaTogetherSpec) (k := Rows.uptoSmall) rfl false ⟨#[], #[.agg #[.int .i64 0, .slice none 0 0, .slice none 0 0, .int .i64 0]], []⟩ 8 (by kernel_rfl) (by kernel_rfl) (by kernel_rfl)
      (x := ([.agg [.lit (.int .i64 0), .nil, .nil, .lit (.int .i64 0)]], [], [])) (by kernel_rfl) rfl (by kernel_rfl)) ?_
  intro W base args ds gs before hval hW _ hk _
  exact contract H enc W base args ds gs before hval hW hk

theorem over : Rows.arenaTogetherUptoRow.holds Try.pinned (Rows.OpenSpec.upto Rows.arenaTogetherSpec) :=
  OpenClaim.holds_of_cond 5 Try.f5 rfl rfl rfl rfl rfl rfl rfl ⟨rfl, rfl, rfl, rfl, rfl⟩ rfl rfl rfl rfl rfl (by kernel_rfl) Try.func5 (by kernel_rfl)
    (of_decide_eq_true (by kernel_rfl)) (by unfold Func.isWrapper; first | (rw [if_pos (by decide +kernel)]; kernel_rfl) | (rw [if_neg (by decide +kernel)]; exact ⟨rfl, rfl⟩))
    (fun os started H enc _ F => lifted os started H enc F)
end arenaTogether

theorem arenaTogether_upto_holds : Rows.ArenaTogetherUptoSaid :=
  arenaTogether.over
end Go.Proofs.Ytpomnjkfbdmfeaa
