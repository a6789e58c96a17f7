/-
  The second statement on MemWrites out of its walk.
-/
import Derived.Test.YtlgmpnaalifegabWMemWrites
import Derived.ProofKit
import Derived.OpenShut
import Derived.ShutString
import Derived.ChangeOld
import Derived.JoinedCond
import Derived.SliceStrings
namespace Go.Proofs.Ytlgmpnaalifegab
namespace memWrites
open Go.ChangeShapes Go.WideShapes Go.ChangeAt Go.RowKit
open Go.ChangeMaps (open_string shut_string)
set_option linter.unusedVariables false

theorem own : ownKnob Try.prog.godebug = none := by kernel_rfl
theorem laidOut : laidOutB Try.prog = true := by kernel_rfl

theorem plain_of_cell {w : World} {a : Addr} {v : Value} (h : w.cell? (a.add 0) = some v) : ∃ bb oo, a = ⟨bb, oo, none⟩ ∧ bb < w.heap.size := by
  obtain ⟨bb, oo, sp⟩ := a
  have h' : w.cell? ⟨bb, oo, sp⟩ = some v := h
  have hlt : bb < w.heap.size := by
    rcases Nat.lt_or_ge bb w.heap.size with h1 | h1
    · exact h1
    · simp [World.cell?, Array.getElem?_eq_none h1] at h'
  cases sp with
  | none => exact ⟨bb, oo, rfl, hlt⟩
  | some s =>
    exfalso
    unfold World.cell? at h'
    split at h' <;> simp at h'

theorem bulk_strs {H : Type} (ts : List ByteArray) : Rows.uptoBulkAll (strs (H := H) ts) = (catAll (bytesOf ts)).length + ts.length := by
  induction ts with
  | nil => simp [strs, Rows.uptoBulkAll, catAll, bytesOf]
  | cons t r ih =>
    have e : strs (H := H) (t :: r) = .lit (.string t.data.toList) :: strs r := by simp [strs]
    have e2 : catAll (bytesOf (t :: r)) = t.data.toList ++ catAll (bytesOf r) := by simp [catAll, bytesOf]
    rw [e, e2]
    simp only [Rows.uptoBulkAll, Rows.uptoBulk, ih, List.length_append, List.length_cons]
    omega
theorem size_le_cat {ts : List ByteArray} {t : ByteArray} (h : t ∈ ts) : t.size ≤ (catAll (bytesOf ts)).length := by
  induction ts with
  | nil => cases h
  | cons x r ih =>
    have e2 : catAll (bytesOf (x :: r)) = x.data.toList ++ catAll (bytesOf r) := by simp [catAll, bytesOf]
    have hx : x.data.toList.length = x.size := by simp
    rw [e2, List.length_append, hx]
    cases List.mem_cons.1 h with
    | inl e => subst e; omega
    | inr e => have := ih e; omega

theorem contract (H : Type) (enc : TypeId × Value → H) (W : World) (base : Nat) (args : Array Value) (ds gs : List (DataW H)) (before : List MemPlace)
    (hval : ∀ (j : Nat) t v, Try.f3.params[j]? = some t → args[j]? = some v → Value.okWide Try.prog W .any base t v)
    (hW : DataW.Whole enc Try.prog Try.f3.params.toList Rows.memWritesSpec.vars false W args.toList ds gs before) (hk : Rows.uptoSmall H (ds ++ gs) = true) :
    Calls Try.prog 3 args W fun e W' => ∃ v, e = .returned v ∧ Rows.memWritesSpec.post enc Try.prog Try.f3 false true false false W args v W' := by
  have hW' := hW
  obtain ⟨p, q, hA0, hV, rfl, hfz, hnd⟩ := hW
  have hA : DataW.TrodAll enc Try.prog W 0 (fun _ => true) true Try.f3.params.toList args.toList ds p := hA0
  rw [Try.params3] at hA hval
  obtain ⟨v0, vs0, d0, ds0, p0, q0, hargs, rfl, rfl, h0, r0⟩ := trodAll_cons hA
  obtain ⟨v1, vs1, d1, ds1, p1, q1, rfl, rfl, rfl, h1, r1⟩ := trodAll_cons r0
  obtain ⟨v2, vs2, d2, ds2, p2, q2, rfl, rfl, rfl, h2, r2⟩ := trodAll_cons r1
  obtain ⟨rfl, rfl, rfl⟩ := trodAll_nil r2
  obtain rfl : args = #[v0, v1, v2] := by cases args; simp_all
  obtain ⟨rfl, rfl⟩ := trodVars_none hV
  obtain ⟨a0, rfl, rfl, rfl, w0⟩ := open_string Try.underlying9 (hval 0 9 v0 rfl rfl) h0
  obtain ⟨a1, rfl, rfl, rfl, w1⟩ := open_int Try.underlying3 (hval 1 3 v1 rfl rfl) h1
  obtain ⟨a2, len2, cap2, rfl⟩ := okWide_slice Try.underlying22 (hval 2 22 v2 rfl rfl)
  have k2 := h2
  have lt2 : ∀ x ∈ p2, x.block < W.heap.size := by obtain ⟨m, hm⟩ := k2; exact DataW.trod_lt m _ _ _ hm
  simp only [List.append_nil] at hk
  have hbound : Rows.uptoBulkAll [.lit (.string a0.data.toList), .lit (.int .i64 a1), d2] ≤ 1048576 := of_decide_eq_true hk
  obtain ⟨ts, rfl, hstr, hn, hz, hc⟩ : ∃ ts : List ByteArray, len2 = ts.length ∧ StrsAt W W.heap.size a2 ts ∧ ts.length ≤ 1048576 ∧ (∀ x ∈ ts, x.size ≤ 1048576) ∧ (catAll (bytesOf ts)).length ≤ 1048576 := by
    obtain ⟨fuel, hf⟩ := h2
    rcases open_strings Try.underlying22 Try.underlying9 (by kernel_rfl) hf with ⟨hcs, _⟩ | ⟨x, l, c, ss, hcs, _, hl, hm, hzz, hx, hcell, hws⟩
    · simp [Value.cells] at hcs
      obtain ⟨rfl, rfl, rfl⟩ := hcs
      exact ⟨[], rfl, (fun i hi => by simp at hi), by simp, (fun x hx => by cases hx), by simp [catAll, bytesOf]⟩
    · simp [Value.cells] at hcs
      obtain ⟨rfl, rfl, rfl⟩ := hcs
      have hd2 : d2 = .slice (strs (ss.take len2)) (strs (ss.drop len2)) := by injection hx
      have hss : ss.length = cap2 := by simpa using hzz
      have htl : (ss.take len2).length = len2 := by simp; omega
      rw [hd2] at hbound
      simp only [Rows.uptoBulkAll, Rows.uptoBulk, bulk_strs] at hbound
      refine ⟨ss.take len2, htl.symm, fun i hi => ?_, by omega, fun y hy => ?_, by omega⟩
      · obtain ⟨bb, oo, e1, e2⟩ := plain_of_cell (hcell 0 (by omega))
        have e3 := hcell i (by omega)
        rw [e1, addr_add] at e3
        refine ⟨bb, oo, by rw [e1], e2, ?_⟩
        rw [e3]
        congr 2
        rw [List.getD_eq_getElem?_getD, List.getElem?_eq_getElem (by omega), Option.getD_some]
        simp
      · have := size_le_cat hy
        omega
  clear hA0 hbound
  refine (walk a0 a1 a2 cap2 ts W w0 hstr hn hz hc).mono fun e W' ⟨he, bel⟩ => ?_
  subst he
  exact ⟨_, rfl, _, _, _, [], _, [], hW', (trodAll_cons_mk (shut_bool Try.underlying4 _) trodAll_mk0), (trodAll_cons_mk (shut_string Try.underlying9 w0) (trodAll_cons_mk (shut_int Try.underlying3 w1) (trodAll_cons_mk (Below.trod laidOut (by kernel_rfl) (of_decide_eq_true (by kernel_rfl)) k2 bel lt2) trodAll_mk0))), rfl, bel.frame _, fun h => by cases h⟩

set_option maxRecDepth 100000 in
theorem lifted (os : Os) (started : os.Started) (H : Type) (enc : TypeId × Value → H) (F : Stop.Interp) :
    ReturnsInHanded {} Try.checked os 3 .any ((Rows.OpenSpec.upto Rows.memWritesSpec).pre6 enc Try.prog Try.f3 Rows.memWritesUptoRow.domain false) (((Rows.OpenSpec.upto Rows.memWritesSpec).at F).post enc Try.prog Try.f3 false true false false) := by
  refine returnsInHanded_of_cond (C := Try.checked) (s := Rows.OpenSpec.upto Rows.memWritesSpec) (k := Rows.uptoSmall) rfl own started (by kernel_rfl) Try.func3
    (OpenSpec.witness (enc := enc) (C := Try.checked) (s := Rows.OpenSpec.upto Rows.memWritesSpec) (k := Rows.uptoSmall) rfl false ⟨#[], #[.string ByteArray.empty, .int .i64 0, .slice none 0 0], []⟩ 8 (by kernel_rfl) (by kernel_rfl) (by kernel_rfl)
      (x := ([.lit (.string []), .lit (.int .i64 0), .nil], [], [])) (by kernel_rfl) rfl (by kernel_rfl)) ?_
  intro W base args ds gs before hval hW _ hk _
  exact contract H enc W base args ds gs before hval hW hk

theorem over : Rows.memWritesUptoRow.holds Try.pinned (Rows.OpenSpec.upto Rows.memWritesSpec) :=
  OpenClaim.holds_of_cond 3 Try.f3 rfl rfl rfl rfl rfl rfl rfl ⟨rfl, rfl, rfl, rfl, rfl⟩ rfl rfl rfl rfl rfl (by kernel_rfl) Try.func3 (by kernel_rfl)
    (of_decide_eq_true (by kernel_rfl)) (by unfold Func.isWrapper; first | (rw [if_pos (by decide +kernel)]; kernel_rfl) | (rw [if_neg (by decide +kernel)]; exact ⟨rfl, rfl⟩))
    (fun os started H enc _ F => lifted os started H enc F)
end memWrites

theorem memWrites_upto_holds : Rows.MemWritesUptoSaid :=
  memWrites.over
end Go.Proofs.Ytlgmpnaalifegab
