/-
  code: writeInst.
-/
import Derived.Test.YtnicbillhlhmmaaDoorCW3
namespace Go.Proofs.YtnicbillhlhmmaaDoor
namespace Cw
open Go.RowKit
set_option linter.unusedVariables false
theorem i64_row {W : World} {g : Nat} {xs : List Int} {fz : Nat × Nat} (h : W.heap[g]? = some (.cells (xs.map fun n => Value.int .i64 n).toArray 2 fz)) {n c : Nat} (hn : n = xs.length) : I64V W (.slice (some ⟨g, 0, none⟩) n c) xs := by
  subst hn
  refine ⟨_, c, rfl, fun j hj => ⟨g, 0, _, fz, rfl, h, ?_⟩⟩
  rw [Nat.zero_add, List.getElem?_toArray, List.getElem?_map, List.getElem?_eq_getElem hj]
  rfl
theorem i64_new {W : World} {arr : Array Value} (xs : List Int) {n b c : Nat} (ha : arr = (xs.map fun n => Value.int .i64 n).toArray) (hb : b = W.heap.size) (hn : n = xs.length) : I64V (W.alloc (.cells arr 2)) (.slice (some ⟨b, 0, none⟩) n c) xs := by
  subst ha
  subst hb
  exact i64_row (heap_alloc_new _ _) hn
theorem cells3 {W : World} {b : Nat} {x y z : Value} {T : TypeId} {fz : Nat × Nat} (h : W.heap[b]? = some (.cells #[x, y, z] T fz)) : W.cell? ⟨b, 0, none⟩ = some x ∧ W.cell? ⟨b, 1, none⟩ = some y ∧ W.cell? ⟨b, 2, none⟩ = some z := by
  simp [World.cell?, h]
theorem cells2 {W : World} {b : Nat} {x y : Value} {T : TypeId} {fz : Nat × Nat} (h : W.heap[b]? = some (.cells #[x, y] T fz)) : W.cell? ⟨b, 0, none⟩ = some x ∧ W.cell? ⟨b, 1, none⟩ = some y := by
  simp [World.cell?, h]
theorem nmC_len : ∀ k : Fin 30, (nmC k.1).length ≤ 5 := by decide +kernel
set_option maxRecDepth 100000 in
set_option maxHeartbeats 2000000 in
theorem writeInst_any (B b : Nat) (l : Bs) (x : In) (w0 W : World) (hT0 : TabW w0) (hF0 : FormsAt w0) (hk : Keeps w0 W (fun _ => False)) (h0 : w0.heap.size ≤ B) (hBw : B ≤ W.heap.size) (hb : BldF B b l W) (hx : x.fit) (hlen : l.length + 69 ≤ 140737488355328) :
    Calls Tryd.prog 15 #[.pointer (some ⟨b, 0, none⟩), inV x] W fun e W' => (∃ z, e = .returned z) ∧ BldF B b (l ++ lnI x ++ [10]) W' ∧ Below B W W' ∧ Oth b W W' := by
  have hL : ∀ (W' : World) (kk : Keeps W W' (fun _ => False)) (v : Value) (ns : List Int) (word : Bs), I64V W' v ns → (∀ n, n ∈ ns → Fit n) → word.length + 21 * ns.length ≤ 68 → lnI x = lnW word ns →
      Calls Tryd.prog 14 #[.pointer (some ⟨b, 0, none⟩), .string (sB word), v] W' fun e W2 => (∃ z, e = .returned z) ∧ BldF B b (l ++ lnI x ++ [10]) W2 ∧ Below B W W2 ∧ Oth b W W2 := fun W' kk v ns word hv hn hl he => by
    rw [he]
    refine (writeLine_any B b l word v ns w0 W' hT0 (hk.trans kk (fun _ _ e => e)) h0 (Nat.le_trans hBw kk.size) (bld_keeps hb kk) hv hn (by omega)).mono ?_
    rintro e W2 ⟨q1, q2, q3, q4⟩
    exact ⟨q1, q2, (keeps_below kk hBw).trans q3, (oth_keeps kk).trans q4⟩
  have HL := hide hL
  have hFW : FormsAt (W.alloc (.cells #[.int .i64 x.op, .int .i64 x.a, .int .i64 x.n] 36)) := hF0.keeps (hk.alloc _)
  have hI := isForm_any x _ hFW
  have hbox := heap_alloc_new W (.cells #[.int .i64 x.op, .int .i64 x.a, .int .i64 x.n] 36)
  have Hx := hide (And.intro hx (And.intro hbox hFW))
  have hln : lnI x = lnW (nmI x) (nsI x) := rfl
  unfold inV at hI ⊢
  clear hL hT0 hF0 hk h0 hBw hb hx hlen hbox hFW
  cases hfm : isFm x with
  | false =>
    rw [hfm] at hI
    have hn1 : nmI x = instB := by unfold nmI; rw [hfm]; rfl
    have hn2 : nsI x = [x.op, x.a, x.n] := by unfold nsI; rw [hfm]; rfl
    rw [hn1, hn2] at hln
    have Hln := hide hln
    clear hn1 hn2 hln hfm
    go_enter Tryd.func15, Tryd.ntmps15
    go_wp2_with fail
    (with_reducible refine hI.mono ?_)
    rintro e w1 ⟨rfl, k1⟩
    obtain ⟨hx, hbox, hFW⟩ := Hx.out
    have hb1 := (k1.block _ (heap_lt hbox) id).trans hbox
    obtain ⟨c0, c1, c2⟩ := cells3 hb1
    have K1 := hide k1
    clear hI k1 hx hbox hFW hb1
    go_wp2_with fail
    refine Calls.mono (HL.out _ (((Keeps.refl W (fun _ => False)).alloc _).trans (K1.out.alloc _) (fun _ _ e => e)) _ [x.op, x.a, x.n] instB (i64_new [x.op, x.a, x.n] rfl (by simp) rfl) (fun n hn => ?_) (by show 4 + 21 * 3 ≤ 68; decide) Hln.out) ?_
    · obtain ⟨⟨h1, h2, h3⟩, -, -⟩ := Hx.out
      simp only [List.mem_cons, List.not_mem_nil, or_false] at hn
      rcases hn with e | e | e <;> rw [e] <;> assumption
    rintro e w2 ⟨⟨z, rfl⟩, hfin⟩
    have HF := hide hfin
    clear hfin
    go_wp2_with fail
    refine bodyPost_ret (results_none rfl _ _ _) rfl ?_
    exact ⟨⟨_, rfl⟩, HF.out⟩
  | true =>
    rw [hfm] at hI
    have hn1 : nmI x = nmC x.op.toNat := by unfold nmI; rw [hfm]; rfl
    have hn2 : nsI x = (if usC x.op.toNat = 0 then [] else if usC x.op.toNat = 1 then [x.n] else [x.a]) := by unfold nsI; rw [hfm]; rfl
    rw [hn1, hn2] at hln
    unfold isFm at hfm
    simp only [Bool.and_eq_true, decide_eq_true_eq] at hfm
    obtain ⟨⟨⟨h1, h2⟩, -⟩, -⟩ := hfm
    obtain ⟨op, a, n⟩ := x
    dsimp only at *
    obtain ⟨k, rfl⟩ : ∃ k : Nat, op = (k : Int) := ⟨op.toNat, by omega⟩
    rw [Int.toNat_natCast] at hln
    have hk : k < 30 := by omega
    have hl5 : (nmC k).length ≤ 5 := nmC_len ⟨k, hk⟩
    have Hu : Hid (∀ W', Keeps (W.alloc (.cells #[.int .i64 (k : Int), .int .i64 a, .int .i64 n] 36)) W' (fun _ => False) → W'.cell? ⟨0, k * 2, none⟩ = some (.string (sB (nmC k))) ∧ W'.cell? ⟨0, k * 2 + 1, none⟩ = some (.int .i64 (usC k : Nat))) := fun W' kk => (Hx.out.2.2.keeps kk) k hk
    clear hn1 hn2
    generalize usC k = u at *
    generalize nmC k = nm at *
    have Hln := hide (And.intro hln hl5)
    have hk' : (k : Int) < 30 := by omega
    clear hln hl5
    have h3 : u = 0 ∨ u = 1 ∨ 2 ≤ u := by omega
    go_enter Tryd.func15, Tryd.ntmps15
    go_wp2_with fail
    (with_reducible refine hI.mono ?_)
    rintro e w1 ⟨rfl, k1⟩
    obtain ⟨hx, hbox, hFW⟩ := Hx.out
    have hb1 := (k1.block _ (heap_lt hbox) id).trans hbox
    obtain ⟨c0, c1, c2⟩ := cells3 hb1
    obtain ⟨f0, f1⟩ := Hu.out _ k1
    have K1 := hide k1
    clear hI k1 hx hbox hFW hb1
    rcases h3 with rfl | rfl | h3
    · go_wp2_with fail
      refine Calls.mono (HL.out _ (((Keeps.refl W (fun _ => False)).alloc _).trans (K1.out.alloc _) (fun _ _ e => e)) _ [] nm (I64V.nil _) (fun n hn => by cases hn) (by have := Hln.out.2; simp only [List.length_nil]; omega) Hln.out.1) ?_
      rintro e w2 ⟨⟨z, rfl⟩, hfin⟩
      have HF := hide hfin
      clear hfin
      go_wp2_with fail
      go_end0
      exact ⟨⟨_, rfl⟩, HF.out⟩
    · have d2 := keeps_at ((Keeps.refl w1 (fun _ => False)).alloc (.cells #[.string (sB nm), .int .i64 1] 78)) c2
      go_wp2_with fail
      refine Calls.mono (HL.out _ (((Keeps.refl W (fun _ => False)).alloc _).trans ((K1.out.alloc _).alloc _) (fun _ _ e => e)) _ [n] nm (i64_new [n] rfl (by simp) rfl) (fun y hy => by rw [List.mem_singleton.1 hy]; exact Hx.out.1.2.2) (by have := Hln.out.2; simp only [List.length_singleton]; omega) Hln.out.1) ?_
      rintro e w2 ⟨⟨z, rfl⟩, hfin⟩
      have HF := hide hfin
      clear hfin
      go_wp2_with fail
      go_end0
      exact ⟨⟨_, rfl⟩, HF.out⟩
    · have e0 : (((u : Nat) : Int) == 0) = false := by simp; omega
      have e1 : (((u : Nat) : Int) == 1) = false := by simp; omega
      have Hl2 : Hid (lnI ⟨k, a, n⟩ = lnW nm [a]) := by
        have := Hln.out.1
        rw [if_neg (by omega), if_neg (by omega)] at this
        exact this
      have d1 := keeps_at ((Keeps.refl w1 (fun _ => False)).alloc (.cells #[.string (sB nm), .int .i64 (u : Nat)] 78)) c1
      go_wp2_with fail
      refine Calls.mono (HL.out _ (((Keeps.refl W (fun _ => False)).alloc _).trans ((K1.out.alloc _).alloc _) (fun _ _ e => e)) _ [a] nm (i64_new [a] rfl (by simp) rfl) (fun y hy => by rw [List.mem_singleton.1 hy]; exact Hx.out.1.2.1) (by have := Hln.out.2; simp only [List.length_singleton]; omega) Hl2.out) ?_
      rintro e w2 ⟨⟨z, rfl⟩, hfin⟩
      have HF := hide hfin
      clear hfin
      go_wp2_with fail
      go_end0
      exact ⟨⟨_, rfl⟩, HF.out⟩
end Cw
end Go.Proofs.YtnicbillhlhmmaaDoor
