/-
  The statement on CtrlLives out of its walk, and its card.
-/
import Derived.Test.YtbpgjlengpgnnaaDoorCards
import Derived.Test.YtbpgjlengpgnnaaDoorTie
import Derived.SevenTiedAt
import Derived.Deep.SlicePairs
import Derived.WalkKit
import Derived.ShutString
import Derived.ChangeOld
import Derived.Below
import Derived.Carry
import Derived.Lib.SmallJoins
import Derived.Test.YtbpgjlengpgnnaaDoorCDoor
import Derived.Test.YtbpgjlengpgnnaaDoorWCtrlLives
namespace Go.Proofs.YtbpgjlengpgnnaaDoor
namespace ctrlLives
open Go.ChangeShapes Go.WideShapes Go.ChangeAt Go.WideMaps Go.WideElems Go.RowKit
set_option linter.unusedVariables false

theorem plain_of_cell {w : World} {a : Addr} {v : Value} (h : w.cell? (a.add 0) = some v) : ∃ bb oo, a = ⟨bb, oo, none⟩ ∧ bb < w.heap.size := by
  obtain ⟨bb, oo, sp⟩ := a
  have h' : w.cell? ⟨bb, oo, sp⟩ = some v := h
  have hlt : bb < w.heap.size := by
    rcases Nat.lt_or_ge bb w.heap.size with h1 | h1
    · exact h1
    · simp [World.cell?, Array.getElem?_eq_none h1] at h'
  cases sp with
  | none => exact ⟨bb, oo, rfl, hlt⟩
  | some s =>
    exfalso
    unfold World.cell? at h'
    split at h' <;> simp at h'
theorem add_lit (b o j : Nat) : (⟨b, o, none⟩ : Addr).add j = ⟨b, o + j, none⟩ := by simp [Addr.add]
instance : Inhabited TurnD := ⟨⟨0, 0, 0⟩⟩
theorem open_turns {H : Type} {enc : TypeId × Value → H} {w : World} {held : Bool} {a : Option Addr} {l c : Nat} {d : DataW H} {ps : List MemPlace} (h : DataW.Trod enc Tryd.prog w 0 (fun _ => true) held 22 (.slice a l c) d ps) :
    ∃ qs : List TurnD, l = qs.length ∧ RowT w a qs ∧ l ≤ maxLen := by
  obtain ⟨fuel, hf⟩ := h
  rcases Go.Deep.open_slice Tryd.underlying22 hf with ⟨hcs, hx⟩ | ⟨ad, len, cap, m, n, D, Pl, hcs, _, hl, hm, hmm, hx, hc⟩
  · have hcs' : Value.slice a l c = .slice none 0 0 := by simpa [Value.cells] using hcs
    injection hcs' with e1 e2 e3
    subst e2
    exact ⟨[], rfl, fun j hj => by simp at hj, Nat.zero_le _⟩
  · have hcs' : Value.slice a l c = .slice (some ad) len cap := by simpa [Value.cells] using hcs
    injection hcs' with e1 e2 e3
    subst e1 e2 e3
    simp only [Prod.mk.injEq] at hx
    obtain ⟨rfl, _⟩ := hx
    have ce : Tryd.prog.cellsOf 27 = 3 := by kernel_rfl
    have hmc : m = c := by simpa using hmm
    obtain ⟨f, hf⟩ := Go.Deep.choose_lt (α := TurnD) (n := l) (p := fun i q => w.cell? (ad.add (i * 3)) = some (.int .i64 q.kind) ∧ w.cell? (ad.add (i * 3 + 1)) = some (.int .i64 q.tag) ∧ w.cell? (ad.add (i * 3 + 2)) = some (.int .i64 q.i)) (fun i hi => by
      obtain ⟨cs', h1, h2⟩ := hc i (by omega)
      rw [ce] at h1
      obtain ⟨_, hlen, hcell⟩ := World.cells?_some h1
      obtain ⟨xs, k, hk, hxy, _, hxl, hf⟩ := DataW.trod_struct Tryd.underlying27 h2
      match xs, hxl, cs', hlen with
      | [y0, y1, y2], _, [v0, v1, v2], _ =>
        have g0 := hf 0 _ rfl
        have g1 := hf 1 _ rfl
        have g2 := hf 2 _ rfl
        have z3 : Tryd.prog.cellsOf 3 = 1 := by kernel_rfl
        simp [z3] at g0 g1 g2
        have e0 := hcell 0 (by omega)
        have e1 := hcell 1 (by omega)
        have e2 := hcell 2 (by omega)
        rw [Go.Deep.add_add] at e0 e1 e2
        obtain ⟨M, u0, _, _⟩ := DataW.trod_int Tryd.underlying3 g0
        obtain ⟨S, u1, _, _⟩ := DataW.trod_int Tryd.underlying3 g1
        obtain ⟨K, u2, _, _⟩ := DataW.trod_int Tryd.underlying3 g2
        simp only [List.cons.injEq, and_true] at u0 u1 u2
        subst u0 u1 u2
        exact ⟨⟨M, S, K⟩, by simpa using e0, by simpa using e1, by simpa using e2⟩)
    have hlen : ((List.range l).map f).length = l := by simp
    refine ⟨(List.range l).map f, by rw [hlen], fun j hj => ?_, by omega⟩
    have hj' : j < l := by rw [hlen] at hj; exact hj
    have e : ((List.range l).map f)[j] = f j := by simp
    rw [e]
    obtain ⟨b, o, rfl, _⟩ := plain_of_cell (a := ad) (v := .int .i64 (f 0).kind) (by have := (hf 0 (by omega)).1; simpa using this)
    obtain ⟨c0, c1, c2⟩ := hf j hj'
    rw [add_lit] at c0 c1 c2
    exact ⟨b, o, rfl, c0, by rw [Nat.add_assoc]; exact c1, by rw [Nat.add_assoc]; exact c2⟩

set_option maxRecDepth 100000 in
theorem lifted (os : Os) (started : os.Started) (H : Type) (enc : TypeId × Value → H) :
    ReturnsInHanded {} Tryd.checked os 3 .any (fun w args => (Rows.ctrlLivesSpec.pre enc Tryd.prog Tryd.f3 [] false w args ∧ laidMetH Tryd.prog laidO w) ∧ sizedMet enc Tryd.prog Tryd.f3 (OpenSpec.ofChange Rows.ctrlLivesSpec) false w args)
      (Rows.ctrlLivesSpec.post enc Tryd.prog Tryd.f3 false true false false) := by
  refine returnsInHanded_of_change_and (C := Tryd.checked) (X := fun w _ => laidMetH Tryd.prog laidO w) (fun _ _ _ hh h => h.of_heap hh) own started (by kernel_rfl) Tryd.func3
    (ChangeSpec.witness_shaped (enc := enc) (C := Tryd.checked) (os := os) (X := fun w _ => laidMetH Tryd.prog laidO w) false (World.doorLaid Tryd.prog 400 os) #[.slice none 0 0] 8 rfl (World.shaped_of_RefB (by kernel_rfl) (by kernel_rfl)) (by kernel_rfl) (by kernel_rfl) (by kernel_rfl) (door_met os _)) ?_
  intro W base args ds gs before hval0 hW _ hsz hL _
  have hval : ∀ (j : Nat) t v, Tryd.f3.params[j]? = some t → args[j]? = some v → Value.okWide Tryd.prog W .any base t v := hval0
  have hW' := hW
  obtain ⟨p, q, hA0, hV, rfl, hfz, hnd⟩ := hW
  have hA : DataW.TrodAll enc Tryd.prog W 0 (fun _ => true) true Tryd.f3.params.toList args.toList ds p := hA0
  rw [Tryd.params3] at hA hval
  obtain ⟨v0, vs0, d0, ds0, p0, q0, hargs, rfl, rfl, h0, r0⟩ := trodAll_cons hA
  obtain ⟨rfl, rfl, rfl⟩ := trodAll_nil r0
  obtain rfl : args = #[v0] := by cases args; simp_all
  obtain ⟨rfl, rfl⟩ := trodVars_none hV
  have lt0 : ∀ x ∈ p0, x.block < W.heap.size := by obtain ⟨m, hm⟩ := h0; exact DataW.trod_lt m _ _ _ hm
  obtain ⟨a0, l0, c0, rfl⟩ := okWide_slice Tryd.underlying22 (hval 0 22 v0 rfl rfl)
  have hO := of_laid hL
  obtain ⟨qs, rfl, rq, lq⟩ := open_turns h0
  clear hA0 hval0 hsz
  refine (core a0 c0 qs W hO rq (by unfold maxLen at lq; omega)).mono fun e W' ⟨he, bel⟩ => ?_
  subst he
  exact ⟨_, rfl, _, _, _, [], _, [], hW', (trodAll_cons_mk (shut_bool Tryd.underlying4 _) trodAll_mk0), (trodAll_cons_mk (Below.trod laidOut (by kernel_rfl) (of_decide_eq_true (by kernel_rfl)) h0 bel lt0) trodAll_mk0), rfl, bel.frame _, fun h => by cases h⟩

theorem over : Rows.ctrlLivesRow.holds Tryd.pinned (OpenSpec.ofChange Rows.ctrlLivesSpec) :=
  OpenClaim.holds_of_wide 3 Tryd.f3 rfl rfl rfl rfl rfl rfl rfl ⟨rfl, rfl, rfl, rfl, rfl⟩ rfl rfl rfl rfl rfl (by kernel_rfl) Tryd.func3 (by kernel_rfl)
    (of_decide_eq_true (by kernel_rfl)) (by unfold Func.isWrapper; first | (rw [if_pos (by decide +kernel)]; kernel_rfl) | (rw [if_neg (by decide +kernel)]; exact ⟨rfl, rfl⟩))
    (fun os started H enc _ => lifted os started H enc)
end ctrlLives

theorem ctrlLives_holds : Rows.CtrlLivesCardSaid :=
  Claim7.holds_tied_plain_at .later [] [.data] true (true, "b5a3a3dedda2fb4c89f54211b0458e4090a6893260ec9ed51ca37bcefd1caf5f") false
    ctrlLives.over (fun _ h => by cases h) (by kernel_rfl) (fun _ h => by cases h) ctrlLives_row_tie rfl ⟨rfl, rfl⟩ (by kernel_rfl) rfl
    (fun f fn hf hfn => by
      obtain rfl : f = 3 := Option.some.inj ((show Tryd.prog.funcNamed "larder/larderlaw05.CtrlLives" = some 3 by kernel_rfl).symm.trans hf) |>.symm
      obtain rfl : fn = Tryd.f3 := (Option.some.inj (Tryd.func3.symm.trans hfn)).symm
      exact ⟨by kernel_rfl, fun j t ht => by
        rw [Tryd.params3] at ht
        have h3 : t = 22 := by
          rcases j with _ | j
          · simpa using ht.symm
          · simp at ht
        rcases h3 with rfl
        exact (show Tryd.prog.wantsStandIn 22 = false by kernel_rfl)⟩)
    (by kernel_rfl)
end Go.Proofs.YtbpgjlengpgnnaaDoor
