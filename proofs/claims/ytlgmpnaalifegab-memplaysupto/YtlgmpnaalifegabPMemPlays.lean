/-
  The second statement on MemPlays out of its walk.
-/
import Derived.Test.YtlgmpnaalifegabWMemPlays2
import Derived.ProofKit
import Derived.OpenShut
import Derived.ShutString
import Derived.ChangeOld
import Derived.JoinedCond
import Derived.SliceStrings
import Derived.Deep.Slices
namespace Go.Proofs.Ytlgmpnaalifegab
namespace memPlays
open Go.ChangeShapes Go.WideShapes Go.ChangeAt Go.RowKit
open Go.ChangeMaps (open_string shut_string)
set_option linter.unusedVariables false

theorem own : ownKnob Try.prog.godebug = none := by kernel_rfl
theorem laidOut : laidOutB Try.prog = true := by kernel_rfl

theorem plain_of_cell {w : World} {a : Addr} {v : Value} (h : w.cell? (a.add 0) = some v) : ∃ bb oo, a = ⟨bb, oo, none⟩ ∧ bb < w.heap.size := by
  obtain ⟨bb, oo, sp⟩ := a
  have h' : w.cell? ⟨bb, oo, sp⟩ = some v := h
  have hlt : bb < w.heap.size := by
    rcases Nat.lt_or_ge bb w.heap.size with h1 | h1
    · exact h1
    · simp [World.cell?, Array.getElem?_eq_none h1] at h'
  cases sp with
  | none => exact ⟨bb, oo, rfl, hlt⟩
  | some s =>
    exfalso
    unfold World.cell? at h'
    split at h' <;> simp at h'

/-! ### Bulk -/
theorem one_le {H : Type} (d : DataW H) : 1 ≤ Rows.uptoBulk d := by
  cases d with
  | lit l => cases l <;> simp [Rows.uptoBulk]
  | _ => simp [Rows.uptoBulk]
theorem part_le {H : Type} {d : DataW H} {l : List (DataW H)} (h : d ∈ l) : Rows.uptoBulk d ≤ Rows.uptoBulkAll l := by
  induction l with
  | nil => cases h
  | cons x r ih =>
    simp only [Rows.uptoBulkAll]
    cases List.mem_cons.1 h with
    | inl e => subst e; omega
    | inr e => have := ih e; omega
theorem length_le {H : Type} (l : List (DataW H)) : l.length ≤ Rows.uptoBulkAll l := by
  induction l with
  | nil => simp [Rows.uptoBulkAll]
  | cons x r ih => have := one_le x; simp only [Rows.uptoBulkAll, List.length_cons]; omega

theorem bulk_strs {H : Type} (ts : List ByteArray) : Rows.uptoBulkAll (strs (H := H) ts) = (catAll (bytesOf ts)).length + ts.length := by
  induction ts with
  | nil => simp [strs, Rows.uptoBulkAll, catAll, bytesOf]
  | cons t r ih =>
    have e : strs (H := H) (t :: r) = .lit (.string t.data.toList) :: strs r := by simp [strs]
    have e2 : catAll (bytesOf (t :: r)) = t.data.toList ++ catAll (bytesOf r) := by simp [catAll, bytesOf]
    rw [e, e2]
    simp only [Rows.uptoBulkAll, Rows.uptoBulk, ih, List.length_append, List.length_cons]
    omega

/-! ### A call of a script -/
section
variable {H : Type} {enc : TypeId × Value → H} {w : World} {held : Bool}

theorem open_parts {n : Nat} {v : Value} {y : DataW H × List MemPlace} (h : DataW.trod enc Try.prog w 0 (fun _ => true) held n 22 [v] = some y) (hk : Rows.uptoBulk y.1 ≤ 1048576) :
    ∃ (ao : Option Addr) (cap : Nat) (ts : List ByteArray), v = .slice ao ts.length cap ∧ StrsAt w w.heap.size ao ts ∧ ts.length ≤ 1048576 ∧ (∀ x ∈ ts, x.size ≤ 1048576) ∧ (catAll (bytesOf ts)).length ≤ 1048576 := by
  rcases open_strings Try.underlying22 Try.underlying9 (by kernel_rfl) h with ⟨hcs, _⟩ | ⟨x, l, c, ss, hcs, _, hl, hm, hzz, hx, hcell, hws⟩
  · injection hcs with e1 _
    exact ⟨none, 0, [], e1, (fun i hi => by simp at hi), by simp, (fun x hx => by cases hx), by simp [catAll, bytesOf]⟩
  · injection hcs with e1 _
    have hss : ss.length = c := by simpa using hzz
    have htl : (ss.take l).length = l := by simp; omega
    rw [hx] at hk
    simp only [Rows.uptoBulk] at hk
    have h1 := length_le (strs (H := H) (ss.take l))
    have h2 : (strs (H := H) (ss.take l)).length = l := by simp [strs]; omega
    refine ⟨some x, c, ss.take l, by rw [htl]; exact e1, fun i hi => ?_, by omega, fun y hy => ?_, by have := bulk_strs (H := H) (ss.take l); omega⟩
    · obtain ⟨bb, oo, e1, e2⟩ := plain_of_cell (hcell 0 (by omega))
      have e3 := hcell i (by omega)
      rw [e1, addr_add] at e3
      refine ⟨bb, oo, by rw [e1], e2, ?_⟩
      rw [e3]
      congr 2
      rw [List.getD_eq_getElem?_getD, List.getElem?_eq_getElem (by omega), Option.getD_some]
      simp
    · have h3 : (.lit (.string y.data.toList) : DataW H) ∈ strs (H := H) (ss.take l) := List.mem_map.2 ⟨y, hy, rfl⟩
      have h4 := part_le h3
      simp only [Rows.uptoBulk] at h4
      have h5 : y.data.toList.length = y.size := by simp
      omega

theorem open_op {fuel : Nat} {cs : List Value} {x : DataW H × List MemPlace} (h : DataW.trod enc Try.prog w 0 (fun _ => true) held fuel 47 cs = some x) (hk : Rows.uptoBulk x.1 ≤ 1048576) :
    ∃ o : OpD, cs = o.cells.toList ∧ StrsAt w w.heap.size o.ao o.ts ∧ o.ts.length ≤ 1048576 ∧ (∀ t ∈ o.ts, t.size ≤ 1048576) ∧ o.V < 18446744073709551616 ∧ (catAll (bytesOf o.ts)).length ≤ 1048576 := by
  obtain ⟨xs, n, _, rfl, hl, hlen, hf⟩ := DataW.trod_struct Try.underlying47 h
  have hl7 : cs.length = 7 := hl.trans (by kernel_rfl)
  have hlen7 : xs.length = 7 := hlen
  have c3 : Try.prog.cellsOf 3 = 1 := by kernel_rfl
  have c35 : Try.prog.cellsOf 35 = 1 := by kernel_rfl
  have cs22 : Try.prog.cellsOf 22 = 1 := by kernel_rfl
  match cs, hl7, xs, hlen7 with
  | [v0, v1, v2, v3, v4, v5, v6], _, [y0, y1, y2, y3, y4, y5, y6], _ =>
    have f0 := hf 0 _ rfl
    have f1 := hf 1 _ rfl
    have f2 := hf 2 _ rfl
    have f3 := hf 3 _ rfl
    have f4 := hf 4 _ rfl
    have f5 := hf 5 _ rfl
    have f6 := hf 6 _ rfl
    clear hf h
    simp only [List.getElem?_cons_zero, List.getElem?_cons_succ] at f0 f1 f2 f3 f4 f5 f6
    obtain ⟨k0, e0, rfl, _⟩ := DataW.trod_int Try.underlying3 f0
    obtain ⟨k1, e1, rfl, _⟩ := DataW.trod_int Try.underlying3 f1
    obtain ⟨k2, e2, rfl, _⟩ := DataW.trod_int Try.underlying3 f2
    obtain ⟨k3, e3, rfl, _⟩ := DataW.trod_int Try.underlying3 f3
    obtain ⟨k4, e4, rfl, _⟩ := DataW.trod_int Try.underlying3 f4
    obtain ⟨k5, e5, rfl, w5⟩ := DataW.trod_int Try.underlying35 f5
    have p5 : 0 ≤ k5 ∧ k5 < 18446744073709551616 := by
      have hm : IntKind.u64.min = 0 := by decide
      have hM : IntKind.u64.max = 18446744073709551615 := by decide
      simp [Lit.wf] at w5
      omega
    obtain ⟨V, rfl⟩ := Int.eq_ofNat_of_zero_le p5.1
    have hk6 : Rows.uptoBulk y6.1 ≤ 1048576 := by
      have : y6.1 ∈ List.map (·.1) [((.lit (.int .i64 k0), []) : DataW H × List MemPlace), (.lit (.int .i64 k1), []), (.lit (.int .i64 k2), []), (.lit (.int .i64 k3), []), (.lit (.int .i64 k4), []), (.lit (.int .u64 (V : Int)), []), y6] := by simp
      have := part_le this
      simp only [Rows.uptoBulk] at hk
      omega
    obtain ⟨ao, cap, ts, rfl, hs, ht, hz, hcat⟩ := open_parts f6 hk6
    have hV := p5.2
    refine ⟨⟨k0, k1, k2, k3, k4, V, ao, cap, ts⟩, ?_, hs, ht, hz, by show V < _; omega, hcat⟩
    clear hV p5
    simp only [OpD.cells, opCells]
    simp_all

instance : Inhabited OpD := ⟨⟨0, 0, 0, 0, 0, 0, none, 0, []⟩⟩

theorem open_ops {fuel : Nat} {so : Option Addr} {len cap : Nat} {x : DataW H × List MemPlace} (h : DataW.trod enc Try.prog w 0 (fun _ => true) held fuel 41 [.slice so len cap] = some x) (hk : Rows.uptoBulk x.1 ≤ 1048576) :
    ∃ ops : List OpD, len = ops.length ∧ OpsAt w w.heap.size so ops ∧ ops.length ≤ 1048576 ∧ OpsOk ops := by
  rcases Go.Deep.open_slice Try.underlying41 h with ⟨hcs, _⟩ | ⟨a, l, c, m, n, D, Pl, hcs, _, hl, hm, hmm, rfl, hx⟩
  · injection hcs with e1 _
    injection e1 with e1 e2 e3
    subst e2
    exact ⟨[], rfl, (fun i hi => by simp at hi), by simp, (fun o ho => by cases ho)⟩
  · injection hcs with e1 _
    injection e1 with e1 e2 e3
    subst e1 e2 e3
    have hmc : m = cap := by simpa using hmm
    subst hmc
    have c7 : Try.prog.cellsOf 47 = 7 := by kernel_rfl
    rw [c7] at hx
    simp only [Rows.uptoBulk] at hk
    have hn := length_le ((List.range len).map D)
    rw [List.length_map, List.length_range] at hn
    obtain ⟨f, hf⟩ := Go.Deep.choose_lt (α := OpD) (n := len) (p := fun i o => (∀ j, j < 7 → w.cell? (a.add (i * 7 + j)) = o.cells[j]?) ∧ StrsAt w w.heap.size o.ao o.ts ∧ o.ts.length ≤ 1048576 ∧ (∀ t ∈ o.ts, t.size ≤ 1048576) ∧ o.V < 18446744073709551616 ∧ (catAll (bytesOf o.ts)).length ≤ 1048576) (fun i hi => by
      obtain ⟨cs', g1, g2⟩ := hx i (by omega)
      have hD : D i ∈ (List.range len).map D := List.mem_map.2 ⟨i, List.mem_range.2 hi, rfl⟩
      have hp := part_le hD
      obtain ⟨o, ho, hs, ht, hz⟩ := open_op g2 (by show Rows.uptoBulk (D i) ≤ _; omega)
      refine ⟨o, fun j hj => ?_, hs, ht, hz⟩
      have g3 := (World.cells?_some g1).2.2 j hj
      rw [Go.Deep.add_add] at g3
      rw [g3, ho]
      simp)
    refine ⟨(List.range len).map f, by simp, fun i hi => ?_, by rw [List.length_map, List.length_range]; omega, fun o ho => by
      obtain ⟨i, hi, rfl⟩ := List.mem_map.1 ho
      exact (hf i (List.mem_range.1 hi)).2.2.2.2⟩
    have hi' : i < len := by simpa using hi
    obtain ⟨q1, q2, q3, q4, _⟩ := hf i hi'
    have z := (hf 0 (by omega)).1 0 (by omega)
    obtain ⟨bb, oo, rfl, hbb⟩ := plain_of_cell (w := w) (a := a) (v := .int .i64 (f 0).kd) (by simpa [OpD.cells, opCells] using z)
    refine ⟨bb, oo, rfl, hbb, fun j hj => ?_, ?_⟩
    · have := q1 j hj
      rw [addr_add, ← Nat.add_assoc] at this
      rw [this]
      simp
    · simpa using ⟨q2, q3, q4⟩
end

theorem walk (f s : Int) (so : Option Addr) (cap : Nat) (ops : List OpD) (w : World) (hops : OpsAt w w.heap.size so ops) (hn : ops.length ≤ 1048576) (hok : OpsOk ops) :
    Calls Try.prog 6 #[.int .i64 f, .int .i64 s, .slice so ops.length cap] w fun e w' => e = .returned (.bool true) ∧ Below w.heap.size w w' := by
  by_cases hf : f < 0 ∨ 134217728 < f
  · by_cases hs : s < 0 ∨ 134217728 < s
    · exact no_no f s so cap ops w hf hs hops hn
    · obtain ⟨s', rfl⟩ : ∃ s' : Nat, s = s' := ⟨s.toNat, by omega⟩
      exact no_yes f s' so cap ops w hf (by omega) hops hn hok
  · obtain ⟨f', rfl⟩ : ∃ f' : Nat, f = f' := ⟨f.toNat, by omega⟩
    by_cases hs : s < 0 ∨ 134217728 < s
    · exact yes_no f' s so cap ops w (by omega) hs hops hn hok
    · obtain ⟨s', rfl⟩ : ∃ s' : Nat, s = s' := ⟨s.toNat, by omega⟩
      exact yes_yes f' s' so cap ops w (by omega) (by omega) hops hn hok

theorem contract (H : Type) (enc : TypeId × Value → H) (W : World) (base : Nat) (args : Array Value) (ds gs : List (DataW H)) (before : List MemPlace)
    (hval : ∀ (j : Nat) t v, Try.f6.params[j]? = some t → args[j]? = some v → Value.okWide Try.prog W .any base t v)
    (hW : DataW.Whole enc Try.prog Try.f6.params.toList Rows.memPlaysSpec.vars false W args.toList ds gs before) (hk : Rows.uptoSmall H (ds ++ gs) = true) :
    Calls Try.prog 6 args W fun e W' => ∃ v, e = .returned v ∧ Rows.memPlaysSpec.post enc Try.prog Try.f6 false true false false W args v W' := by
  have hW' := hW
  obtain ⟨p, q, hA0, hV, rfl, hfz, hnd⟩ := hW
  have hA : DataW.TrodAll enc Try.prog W 0 (fun _ => true) true Try.f6.params.toList args.toList ds p := hA0
  rw [Try.params6] at hA hval
  obtain ⟨v0, vs0, d0, ds0, p0, q0, hargs, rfl, rfl, h0, r0⟩ := trodAll_cons hA
  obtain ⟨v1, vs1, d1, ds1, p1, q1, rfl, rfl, rfl, h1, r1⟩ := trodAll_cons r0
  obtain ⟨v2, vs2, d2, ds2, p2, q2, rfl, rfl, rfl, h2, r2⟩ := trodAll_cons r1
  obtain ⟨rfl, rfl, rfl⟩ := trodAll_nil r2
  obtain rfl : args = #[v0, v1, v2] := by cases args; simp_all
  obtain ⟨rfl, rfl⟩ := trodVars_none hV
  obtain ⟨a0, rfl, rfl, rfl, w0⟩ := open_int Try.underlying3 (hval 0 3 v0 rfl rfl) h0
  obtain ⟨a1, rfl, rfl, rfl, w1⟩ := open_int Try.underlying3 (hval 1 3 v1 rfl rfl) h1
  obtain ⟨a2, len2, cap2, rfl⟩ := okWide_slice Try.underlying41 (hval 2 41 v2 rfl rfl)
  have k2 := h2
  have lt2 : ∀ x ∈ p2, x.block < W.heap.size := by obtain ⟨m, hm⟩ := k2; exact DataW.trod_lt m _ _ _ hm
  simp only [List.append_nil] at hk
  have hbound : Rows.uptoBulkAll [.lit (.int .i64 a0), .lit (.int .i64 a1), d2] ≤ 1048576 := of_decide_eq_true hk
  obtain ⟨ops, rfl, hops, hn, hok⟩ : ∃ ops : List OpD, len2 = ops.length ∧ OpsAt W W.heap.size a2 ops ∧ ops.length ≤ 1048576 ∧ OpsOk ops := by
    obtain ⟨fuel, hf⟩ := h2
    refine open_ops hf ?_
    have := part_le (l := [.lit (.int .i64 a0), .lit (.int .i64 a1), d2]) (d := d2) (by simp)
    show Rows.uptoBulk d2 ≤ _
    omega
  clear hA0 hbound
  refine (walk a0 a1 a2 cap2 ops W hops hn hok).mono fun e W' ⟨he, bel⟩ => ?_
  subst he
  exact ⟨_, rfl, _, _, _, [], _, [], hW', (trodAll_cons_mk (shut_bool Try.underlying4 _) trodAll_mk0), (trodAll_cons_mk (shut_int Try.underlying3 w0) (trodAll_cons_mk (shut_int Try.underlying3 w1) (trodAll_cons_mk (Below.trod laidOut (by kernel_rfl) (of_decide_eq_true (by kernel_rfl)) k2 bel lt2) trodAll_mk0))), rfl, bel.frame _, fun h => by cases h⟩

set_option maxRecDepth 100000 in
theorem lifted (os : Os) (started : os.Started) (H : Type) (enc : TypeId × Value → H) (F : Stop.Interp) :
    ReturnsInHanded {} Try.checked os 6 .any ((Rows.OpenSpec.upto Rows.memPlaysSpec).pre6 enc Try.prog Try.f6 Rows.memPlaysUptoRow.domain false) (((Rows.OpenSpec.upto Rows.memPlaysSpec).at F).post enc Try.prog Try.f6 false true false false) := by
  refine returnsInHanded_of_cond (C := Try.checked) (s := Rows.OpenSpec.upto Rows.memPlaysSpec) (k := Rows.uptoSmall) rfl own started (by kernel_rfl) Try.func6
    (OpenSpec.witness (enc := enc) (C := Try.checked) (s := Rows.OpenSpec.upto Rows.memPlaysSpec) (k := Rows.uptoSmall) rfl false ⟨#[], #[.int .i64 0, .int .i64 0, .slice none 0 0], []⟩ 8 (by kernel_rfl) (by kernel_rfl) (by kernel_rfl)
      (x := ([.lit (.int .i64 0), .lit (.int .i64 0), .nil], [], [])) (by kernel_rfl) rfl (by kernel_rfl)) ?_
  intro W base args ds gs before hval hW _ hk _
  exact contract H enc W base args ds gs before hval hW hk

theorem over : Rows.memPlaysUptoRow.holds Try.pinned (Rows.OpenSpec.upto Rows.memPlaysSpec) :=
  OpenClaim.holds_of_cond 6 Try.f6 rfl rfl rfl rfl rfl rfl rfl ⟨rfl, rfl, rfl, rfl, rfl⟩ rfl rfl rfl rfl rfl (by kernel_rfl) Try.func6 (by kernel_rfl)
    (of_decide_eq_true (by kernel_rfl)) (by unfold Func.isWrapper; first | (rw [if_pos (by decide +kernel)]; kernel_rfl) | (rw [if_neg (by decide +kernel)]; exact ⟨rfl, rfl⟩))
    (fun os started H enc _ F => lifted os started H enc F)
end memPlays

theorem memPlays_upto_holds : Rows.MemPlaysUptoSaid :=
  memPlays.over
end Go.Proofs.Ytlgmpnaalifegab
