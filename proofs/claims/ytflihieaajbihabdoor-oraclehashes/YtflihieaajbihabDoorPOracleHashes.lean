/-
  The statement on OracleHashes out of its walk, and its card.
-/
import Derived.Test.YtflihieaajbihabDoorCards
import Derived.Test.YtflihieaajbihabDoorTie
import Derived.SevenTiedAt
import Derived.SizedLaws
import Derived.Deep.SlicePairs
import Derived.WalkKit
import Derived.ShutString
import Derived.ChangeOld
import Derived.Below
import Derived.Carry
import Derived.Lib.SmallJoins
import Derived.Test.YtflihieaajbihabDoorODoor
import Derived.Test.YtflihieaajbihabDoorON6
import Derived.Test.YtflihieaajbihabDoorWOracleHashes
namespace Go.Proofs.YtflihieaajbihabDoor
namespace oracleHashes
open Go.ChangeShapes Go.WideShapes Go.ChangeAt Go.WideMaps Go.WideElems Go.RowKit
open Go.ChangeMaps (open_string shut_string)
set_option linter.unusedVariables false

instance : Inhabited Ovr := ⟨((⟨#[]⟩, 0) : ByteArray × Nat)⟩
theorem open_overs {H : Type} {enc : TypeId × Value → H} {w : World} {held : Bool} {a : Option Addr} {l c : Nat} {d : DataW H} {ps : List MemPlace} (h : DataW.Trod enc Tryd.prog w 0 (fun _ => true) held 22 (.slice a l c) d ps) :
    ∃ (a' : Option Addr) (cap : Nat) (os : List Ovr), Value.slice a l c = .slice a' os.length cap ∧ RowO w (.slice a l c) os ∧ (os = [] ∨ ∃ elems spare, d = .slice elems spare ∧ os.length ≤ elems.length + spare.length) := by
  obtain ⟨fuel, hf⟩ := h
  rcases Go.Deep.open_slice_pairs Tryd.underlying22 Tryd.underlying37 (by kernel_rfl) rfl rfl (by kernel_rfl) (by kernel_rfl) hf with ⟨hcs, hx⟩ | ⟨ad, len, cap, m, n, V0, V1, D0, D1, P0, P1, hcs, _, hl, hm, hmm, hx, hc⟩
  · have hcs' : Value.slice a l c = .slice none 0 0 := by simpa [Value.cells] using hcs
    rw [hcs']
    exact ⟨none, 0, [], rfl, Or.inl ⟨rfl, rfl⟩, Or.inl rfl⟩
  · have hcs' : Value.slice a l c = .slice (some ad) len cap := by simpa [Value.cells] using hcs
    rw [hcs']
    have hmc : m = cap := by simpa using hmm
    subst hmc
    obtain ⟨f, hf⟩ := Go.Deep.choose_lt (α := Ovr) (n := len) (p := fun i q => w.cell? (ad.add (2 * i)) = some (.string q.1) ∧ w.cell? (ad.add (2 * i + 1)) = some (.int .u64 (q.2 : Nat)) ∧ q.1.size ≤ maxLen) (fun i hi => by
      obtain ⟨g1, g2, g3, g4⟩ := hc i (by omega)
      obtain ⟨s, e1, _, hs⟩ := DataW.trod_string Tryd.underlying9 g3
      obtain ⟨k, e2, _, hw⟩ := DataW.trod_int Tryd.underlying31 g4
      simp only [List.cons.injEq, and_true] at e1 e2
      obtain ⟨X, rfl, _⟩ := u64_nat hw
      rw [Nat.mul_comm i 2, e1] at g1
      rw [Nat.mul_comm i 2, e2] at g2
      exact ⟨((s, X) : ByteArray × Nat), g1, g2, hs⟩)
    have hlen : ((List.range len).map f).length = len := by simp
    refine ⟨some ad, m, (List.range len).map f, by rw [hlen], Or.inr ⟨ad, m, by rw [hlen], by rw [hlen]; exact hl, hm, fun j hj => ?_⟩, Or.inr ?_⟩
    · have hj' : j < len := by rw [hlen] at hj; exact hj
      have e : ((List.range len).map f)[j] = f j := by simp
      rw [e]
      exact hf j hj'
    · simp only [Prod.mk.injEq] at hx
      refine ⟨_, _, hx.1, ?_⟩
      rw [hlen]
      simp

instance : Inhabited AskD := ⟨⟨0, 0, ⟨#[]⟩⟩⟩
theorem weightsAll_mem' {H : Type} {P : Program} {e : TypeId} : ∀ {l : List (DataW H)} {d : DataW H}, d ∈ l → ∀ n ∈ d.weights P e, n ∈ DataW.weightsAll P e l
  | d0 :: r, d, h, n, hn => by
    simp only [DataW.weightsAll, List.mem_append]
    rcases List.mem_cons.1 h with rfl | h
    · exact Or.inl hn
    · exact Or.inr (weightsAll_mem' h n hn)
theorem triple_string {H : Type} {P : Program} {t e : TypeId} {f0 f1 f2 : Field} {d0 d1 : DataW H} {bytes : List UInt8} {elems spare : List (DataW H)} (ht : P.underlying t = some (.slice e)) (he : P.underlying e = some (.struct #[f0, f1, f2]))
    (h : ∀ n ∈ (DataW.slice elems spare).weights P t, n ≤ reachBytes) (hd : DataW.agg [d0, d1, .lit (.string bytes)] ∈ elems) : bytes.length ≤ reachBytes := by
  apply h
  simp only [DataW.weights, ht, List.mem_cons, List.mem_append]
  refine Or.inr (Or.inl (weightsAll_mem' hd _ ?_))
  simp only [DataW.weights, he]
  exact DataW.weights_mem_each (j := 2) (t := f2.type) (d := .lit (.string bytes)) rfl rfl _ (by simp [DataW.weights])
theorem open_asks {H : Type} {enc : TypeId × Value → H} {w : World} {held : Bool} {a : Option Addr} {l c : Nat} {d : DataW H} {ps : List MemPlace} (h : DataW.Trod enc Tryd.prog w 0 (fun _ => true) held 23 (.slice a l c) d ps) (hw : ∀ n ∈ d.weights Tryd.prog 23, n ≤ reachBytes) :
    ∃ qs : List AskD, l = qs.length ∧ RowA w a qs.length qs ∧ l ≤ maxLen := by
  obtain ⟨fuel, hf⟩ := h
  rcases Go.Deep.open_slice Tryd.underlying23 hf with ⟨hcs, hx⟩ | ⟨ad, len, cap, m, n, D, Pl, hcs, _, hl, hm, hmm, hx, hc⟩
  · have hcs' : Value.slice a l c = .slice none 0 0 := by simpa [Value.cells] using hcs
    injection hcs' with e1 e2 e3
    subst e2
    exact ⟨[], rfl, ⟨rfl, fun j hj => by simp at hj⟩, Nat.zero_le _⟩
  · have hcs' : Value.slice a l c = .slice (some ad) len cap := by simpa [Value.cells] using hcs
    injection hcs' with e1 e2 e3
    subst e1 e2 e3
    simp only [Prod.mk.injEq] at hx
    obtain ⟨rfl, _⟩ := hx
    have ce : Tryd.prog.cellsOf 33 = 3 := by kernel_rfl
    have hmc : m = c := by simpa using hmm
    obtain ⟨f, hf⟩ := Go.Deep.choose_lt (α := AskD) (n := l) (p := fun i q => w.cell? (ad.add (i * 3)) = some (.int .i64 q.m) ∧ w.cell? (ad.add (i * 3 + 1)) = some (.int .u64 (q.s : Nat)) ∧ w.cell? (ad.add (i * 3 + 2)) = some (.string q.k) ∧ q.s < 18446744073709551616 ∧ q.k.size < 9223372036854775807) (fun i hi => by
      obtain ⟨cs', h1, h2⟩ := hc i (by omega)
      rw [ce] at h1
      obtain ⟨_, hlen, hcell⟩ := World.cells?_some h1
      obtain ⟨xs, k, hk, hxy, _, hxl, hf⟩ := DataW.trod_struct Tryd.underlying33 h2
      match xs, hxl, cs', hlen with
      | [y0, y1, y2], _, [v0, v1, v2], _ =>
        have g0 := hf 0 _ rfl
        have g1 := hf 1 _ rfl
        have g2 := hf 2 _ rfl
        have z3 : Tryd.prog.cellsOf 3 = 1 := by kernel_rfl
        have z6 : Tryd.prog.cellsOf 31 = 1 := by kernel_rfl
        have z9 : Tryd.prog.cellsOf 9 = 1 := by kernel_rfl
        simp [z3, z6, z9] at g0 g1 g2
        have e0 := hcell 0 (by omega)
        have e1 := hcell 1 (by omega)
        have e2 := hcell 2 (by omega)
        rw [Go.Deep.add_add] at e0 e1 e2
        simp only [Prod.mk.injEq] at hxy
        obtain ⟨M, u0, _, _⟩ := DataW.trod_int Tryd.underlying3 g0
        obtain ⟨S, u1, _, hS⟩ := DataW.trod_int Tryd.underlying31 g1
        obtain ⟨K, u2, u3, _⟩ := DataW.trod_string Tryd.underlying9 g2
        simp only [List.cons.injEq, and_true] at u0 u1 u2
        subst u0 u1 u2
        obtain ⟨X, rfl, lX⟩ := u64_nat hS
        have hK : K.data.toList.length ≤ reachBytes := by
          refine triple_string (d0 := y0.1) (d1 := y1.1) Tryd.underlying23 Tryd.underlying33 hw ?_
          refine List.mem_map.2 ⟨i, List.mem_range.2 hi, ?_⟩
          rw [hxy.1, u3]
          rfl
        have hK2 : K.data.toList.length = K.size := rfl
        have h47 : reachBytes = 140737488351232 := by decide
        exact ⟨⟨M, X, K⟩, by simpa using e0, by simpa using e1, by simpa using e2, lX, by show K.size < _; omega⟩)
    have hlen : ((List.range l).map f).length = l := by simp
    refine ⟨(List.range l).map f, by rw [hlen], ⟨rfl, fun j hj => ?_⟩, by omega⟩
    have hj' : j < l := by rw [hlen] at hj; exact hj
    have e : ((List.range l).map f)[j] = f j := by simp
    rw [e]
    obtain ⟨b, o, rfl, _⟩ := plain_of_cell (a := ad) (v := .int .i64 (f 0).m) (by have := (hf 0 (by omega)).1; simpa using this)
    obtain ⟨c0, c1, c2, s1, s2⟩ := hf j hj'
    rw [add_lit] at c0 c1 c2
    exact ⟨b, o, rfl, c0, by rw [Nat.add_assoc]; exact c1, by rw [Nat.add_assoc]; exact c2, s1, s2⟩

set_option maxRecDepth 100000 in
theorem lifted (os : Os) (started : os.Started) (H : Type) (enc : TypeId × Value → H) :
    ReturnsInHanded {} Tryd.checked os 3 .any (fun w args => (Rows.oracleHashesSpec.pre enc Tryd.prog Tryd.f3 [] false w args ∧ laidMetH Tryd.prog laidO w) ∧ sizedMet enc Tryd.prog Tryd.f3 (OpenSpec.ofChange Rows.oracleHashesSpec) false w args)
      (Rows.oracleHashesSpec.post enc Tryd.prog Tryd.f3 false true false false) := by
  refine returnsInHanded_of_change_and (C := Tryd.checked) (X := fun w _ => laidMetH Tryd.prog laidO w) (fun _ _ _ hh h => h.of_heap hh) own started (by kernel_rfl) Tryd.func3
    (ChangeSpec.witness_shaped (enc := enc) (C := Tryd.checked) (os := os) (X := fun w _ => laidMetH Tryd.prog laidO w) false (World.doorLaid Tryd.prog 400 os) #[.slice none 0 0, .slice none 0 0, .slice none 0 0] 8 rfl (World.shaped_of_RefB (by kernel_rfl) (by kernel_rfl)) (by kernel_rfl) (by kernel_rfl) (by kernel_rfl) (door_met os _)) ?_
  intro W base args ds gs before hval0 hW _ hsz hL _
  have hval : ∀ (j : Nat) t v, Tryd.f3.params[j]? = some t → args[j]? = some v → Value.okWide Tryd.prog W .any base t v := hval0
  have hW' := hW
  obtain ⟨p, q, hA0, hV, rfl, hfz, hnd⟩ := hW
  have hA : DataW.TrodAll enc Tryd.prog W 0 (fun _ => true) true Tryd.f3.params.toList args.toList ds p := hA0
  rw [Tryd.params3] at hA hval
  obtain ⟨v0, vs0, d0, ds0, p0, q0, hargs, rfl, rfl, h0, r0⟩ := trodAll_cons hA
  obtain ⟨v1, vs1, d1, ds1, p1, q1, rfl, rfl, rfl, h1, r1⟩ := trodAll_cons r0
  obtain ⟨v2, vs2, d2, ds2, p2, q2, rfl, rfl, rfl, h2, r2⟩ := trodAll_cons r1
  obtain ⟨rfl, rfl, rfl⟩ := trodAll_nil r2
  obtain rfl : args = #[v0, v1, v2] := by cases args; simp_all
  obtain ⟨rfl, rfl⟩ := trodVars_none hV
  have lt0 : ∀ x ∈ p0, x.block < W.heap.size := by obtain ⟨m, hm⟩ := h0; exact DataW.trod_lt m _ _ _ hm
  have lt1 : ∀ x ∈ p1, x.block < W.heap.size := by obtain ⟨m, hm⟩ := h1; exact DataW.trod_lt m _ _ _ hm
  have lt2 : ∀ x ∈ p2, x.block < W.heap.size := by obtain ⟨m, hm⟩ := h2; exact DataW.trod_lt m _ _ _ hm
  obtain ⟨a0, l0, c0, rfl⟩ := okWide_slice Tryd.underlying22 (hval 0 22 v0 rfl rfl)
  obtain ⟨a1, l1, c1, rfl⟩ := okWide_slice Tryd.underlying22 (hval 1 22 v1 rfl rfl)
  obtain ⟨a2, l2, c2, rfl⟩ := okWide_slice Tryd.underlying23 (hval 2 23 v2 rfl rfl)
  obtain ⟨b0, cc0, os0, e0, rx0, sx0⟩ := open_overs h0
  injection e0 with e00 e01 e02
  subst e01
  obtain ⟨b1, cc1, os1, e1, rx1, sx1⟩ := open_overs h1
  injection e1 with e10 e11 e12
  subst e11
  have hO := of_laid hL
  simp only [List.append_nil] at hsz
  have htn : (Tryd.f3.params.toList ++ Rows.oracleHashesSpec.plain.varTypes Tryd.checked.prog) = [22, 22, 23] := by rw [Tryd.params3]; rfl
  rw [htn] at hsz
  have hby : Tryd.checked.prog.bytesOf 37 = 24 := by kernel_rfl
  have h47 : reachBytes = 140737488351232 := by decide
  have n0 : os0.length * 24 + 24 ≤ 140737488355328 := by
    rcases sx0 with rfl | ⟨el, sp, rfl, hle⟩
    · simp
    · have := sized_slice hsz (j := 0) rfl rfl Tryd.underlying22
      rw [hby] at this
      omega
  have n1 : os1.length * 24 + 24 ≤ 140737488355328 := by
    rcases sx1 with rfl | ⟨el, sp, rfl, hle⟩
    · simp
    · have := sized_slice hsz (j := 1) rfl rfl Tryd.underlying22
      rw [hby] at this
      omega
  obtain ⟨qs, rfl, rq, lq⟩ := open_asks h2 (fun n hn => by
    have := List.all_eq_true.1 hsz _ (DataW.weights_mem_each (j := 2) (t := 23) (d := d2) rfl rfl n hn)
    simpa using this)
  clear hA0 hval0 hsz
  refine (core a0 a1 a2 c0 c1 c2 os0 os1 qs W rx0 rx1 rq n0 n1 (by unfold maxLen at lq; omega) hO (hide (fun s k w' q1 q2 => rmix_any s k w' q1 q2))).mono fun e W' ⟨he, bel⟩ => ?_
  subst he
  exact ⟨_, rfl, _, _, _, [], _, [], hW', (trodAll_cons_mk (shut_bool Tryd.underlying4 _) trodAll_mk0), (trodAll_cons_mk (Below.trod laidOut (by kernel_rfl) (of_decide_eq_true (by kernel_rfl)) h0 bel lt0) (trodAll_cons_mk (Below.trod laidOut (by kernel_rfl) (of_decide_eq_true (by kernel_rfl)) h1 bel lt1) (trodAll_cons_mk (Below.trod laidOut (by kernel_rfl) (of_decide_eq_true (by kernel_rfl)) h2 bel lt2) trodAll_mk0))), rfl, bel.frame _, fun h => by cases h⟩

theorem over : Rows.oracleHashesRow.holds Tryd.pinned (OpenSpec.ofChange Rows.oracleHashesSpec) :=
  OpenClaim.holds_of_wide 3 Tryd.f3 rfl rfl rfl rfl rfl rfl rfl ⟨rfl, rfl, rfl, rfl, rfl⟩ rfl rfl rfl rfl rfl (by kernel_rfl) Tryd.func3 (by kernel_rfl)
    (of_decide_eq_true (by kernel_rfl)) (by unfold Func.isWrapper; first | (rw [if_pos (by decide +kernel)]; kernel_rfl) | (rw [if_neg (by decide +kernel)]; exact ⟨rfl, rfl⟩))
    (fun os started H enc _ => lifted os started H enc)
end oracleHashes

theorem oracleHashes_holds : Rows.OracleHashesCardSaid :=
  Claim7.holds_tied_plain_at .later [] [.data] true (true, "a55e313bc9ab401ede4a56a5323ace370995e6fe735dc0fd80127f4c91654839") false
    oracleHashes.over (fun _ h => by cases h) (by kernel_rfl) (fun _ h => by cases h) oracleHashes_row_tie rfl ⟨rfl, rfl⟩ (by kernel_rfl) rfl
    (fun f fn hf hfn => by
      obtain rfl : f = 3 := Option.some.inj ((show Tryd.prog.funcNamed "larder/larderlaw04.OracleHashes" = some 3 by kernel_rfl).symm.trans hf) |>.symm
      obtain rfl : fn = Tryd.f3 := (Option.some.inj (Tryd.func3.symm.trans hfn)).symm
      exact ⟨by kernel_rfl, fun j t ht => by
        rw [Tryd.params3] at ht
        have h3 : t = 22 ∨ t = 23 := by
          rcases j with _ | _ | _ | j
          · exact Or.inl (by simpa using ht.symm)
          · exact Or.inl (by simpa using ht.symm)
          · exact Or.inr (by simpa using ht.symm)
          · simp at ht
        rcases h3 with rfl | rfl
        · exact (show Tryd.prog.wantsStandIn 22 = false by kernel_rfl)
        · exact (show Tryd.prog.wantsStandIn 23 = false by kernel_rfl)⟩)
    (by kernel_rfl)
end Go.Proofs.YtflihieaajbihabDoor
