/-
  code: Text.
-/
import Derived.Test.YtnicbillhlhmmaaDoorCW4
namespace Go.Proofs.YtnicbillhlhmmaaDoor
namespace Cw
open Go.RowKit
set_option linter.unusedVariables false
/-- Instructions in a list, somewhere. -/
def InsV (W : World) (v : Value) (is : List In) : Prop := ∃ p c, v = .slice p is.length c ∧ ∀ j (h : j < is.length), ∃ g o, p = some ⟨g, o, none⟩ ∧ W.cell? ⟨g, o + j * 3, none⟩ = some (.int .i64 is[j].op) ∧ W.cell? ⟨g, o + j * 3 + 1, none⟩ = some (.int .i64 is[j].a) ∧ W.cell? ⟨g, o + j * 3 + 2, none⟩ = some (.int .i64 is[j].n)
theorem InsV.keeps {W W' : World} {v : Value} {is : List In} (h : InsV W v is) (k : Keeps W W' (fun _ => False)) : InsV W' v is := by
  obtain ⟨p, c, e, f⟩ := h
  refine ⟨p, c, e, fun j hj => ?_⟩
  obtain ⟨g, o, e1, e2, e3, e4⟩ := f j hj
  exact ⟨g, o, e1, keeps_at k e2, keeps_at k e3, keeps_at k e4⟩
def cdV (v m : Int) (sl : Value) : Value := .agg #[.int .i64 v, .int .i64 m, sl]
def linesL (is : List In) : Bs := is.flatMap fun x => lnI x ++ [10]
theorem linesL_take {is : List In} {i : Nat} (h : i < is.length) : linesL (is.take (i + 1)) = linesL (is.take i) ++ lnI is[i] ++ [10] := by
  unfold linesL
  rw [List.take_succ_eq_append_getElem h, List.flatMap_append]
  simp
theorem lnI_len {x : In} (h : x.fit) : (lnI x).length ≤ 68 := by
  have h1 := numsL_len (nsI x) (nsI_fit h)
  have e : (lnI x).length = (nmI x).length + (numsL (nsI x)).length := by
    show (nmI x ++ numsL (nsI x)).length = _
    rw [List.length_append]
  have h2 : (nmI x).length ≤ 5 := by
    unfold nmI
    split
    · rename_i hf
      unfold isFm at hf
      simp only [Bool.and_eq_true, decide_eq_true_eq] at hf
      obtain ⟨⟨⟨g1, g2⟩, -⟩, -⟩ := hf
      exact nmC_len ⟨x.op.toNat, by omega⟩
    · decide
  have h3 : (nsI x).length ≤ 3 := by
    unfold nsI
    split
    · split
      · decide
      · split
        · show 1 ≤ 3
          decide
        · show 1 ≤ 3
          decide
    · exact Nat.le_refl _
  rw [e]
  exact room3 h1 h2 h3
theorem linesL_len (is : List In) (h : ∀ x, x ∈ is → x.fit) : (linesL is).length ≤ 69 * is.length := by
  unfold linesL
  induction is with
  | nil => simp
  | cons x r ih =>
    have h1 := lnI_len (h x List.mem_cons_self)
    have h2 := ih (fun y hy => h y (List.mem_cons_of_mem _ hy))
    simp only [List.flatMap_cons, List.length_append, List.length_cons, List.length_nil]
    exact room4 h1 h2
theorem linesL_most {is : List In} (h : ∀ x, x ∈ is → x.fit) (i : Nat) : (linesL (is.take i)).length ≤ 69 * is.length :=
  Nat.le_trans (linesL_len (is.take i) (fun n hn => h n (List.mem_of_mem_take hn))) (Nat.mul_le_mul_left 69 (List.length_take_le' i is))
def headC (v m : Int) : Bs := lnW codeB [v, m] ++ [10]
theorem headC_len {v m : Int} (hv : Fit v) (hm : Fit m) : (headC v m).length ≤ 47 := by
  have h1 := numsL_len [v, m] (fun n hn => by
    rcases List.mem_cons.1 hn with e | hn
    · rw [e]; exact hv
    · rw [List.mem_singleton.1 hn]; exact hm)
  have e : (headC v m).length = 4 + (numsL [v, m]).length + 1 := by
    show (codeB ++ numsL [v, m] ++ [10]).length = _
    rw [List.length_append, List.length_append]
    rfl
  rw [e]
  exact room5 h1
theorem textC_eq (v m : Int) (is : List In) : textC ⟨v, m, is⟩ = headC v m ++ linesL is := by
  unfold textC linesC headC linesL
  rw [List.flatMap_cons, List.flatMap_map]
theorem bld_new {W : World} {w0 : World} {B : Nat} (hW : W = w0.alloc (.cells #[.pointer none, .slice none 0 0] 40)) (hB : B = w0.heap.size) : BldF B B [] W := by
  subst hW
  subst hB
  exact Or.inl ⟨Nat.le_refl _, .slice none 0 0, heap_alloc_new _ _, ⟨rfl, Or.inl ⟨rfl, rfl⟩⟩, by simp [Value.ownBlock]⟩
set_option maxRecDepth 100000 in
set_option maxHeartbeats 2000000 in
theorem text_any (v m : Int) (sl : Value) (is : List In) (w : World) (hT : TabW w) (hF : FormsAt w) (hv : Fit v) (hm : Fit m) (hi : ∀ x, x ∈ is → x.fit) (hs : InsV w sl is) (hlen : is.length ≤ 1048576) :
    Calls Tryd.prog 6 #[cdV v m sl] w fun e w' => e = .returned (.string (sB (textC ⟨v, m, is⟩))) ∧ Keeps w w' (fun _ => False) := by
  rw [textC_eq]
  obtain ⟨W0, hW0⟩ : ∃ W0, W0 = w.alloc (.cells #[.int .i64 v, .int .i64 m, sl] 24) := ⟨_, rfl⟩
  have kW : Keeps w W0 (fun _ => False) := by rw [hW0]; exact (Keeps.refl _ _).alloc _
  have hbox : W0.heap[w.heap.size]? = some (.cells #[.int .i64 v, .int .i64 m, sl] 24) := by rw [hW0]; exact heap_alloc_new _ _
  have hsz0 : W0.heap.size = w.heap.size + 1 := by rw [hW0]; simp
  have hT0 := hT.keeps kW
  have hF0 := hF.keeps kW
  have hs0 := hs.keeps kW
  have hhl := headC_len hv hm
  have hfit2 : ∀ n, n ∈ [v, m] → Fit n := fun n hn => by
    rcases List.mem_cons.1 hn with e | hn
    · rw [e]; exact hv
    · rw [List.mem_singleton.1 hn]; exact hm
  have hLine : ∀ (W' : World) (kk : Keeps W0 W' (fun _ => False)) (x : Value), BldF W0.heap.size W0.heap.size [] W' → W0.heap.size ≤ W'.heap.size → I64V W' x [v, m] →
      Calls Tryd.prog 14 #[.pointer (some ⟨W0.heap.size, 0, none⟩), .string (sB codeB), x] W' fun e W2 => (∃ z, e = .returned z) ∧ BldF W0.heap.size W0.heap.size (headC v m) W2 ∧ Keeps W0 W2 (fun _ => False) ∧ W0.heap.size ≤ W2.heap.size := fun W' kk x hb hsz hx => by
    refine (writeLine_any W0.heap.size W0.heap.size [] codeB x [v, m] W0 W' hT0 kk (Nat.le_refl _) hsz hb hx hfit2 (by show 0 + 4 + 21 * 2 + 1 ≤ 140737488355328; decide)).mono ?_
    rintro e W2 ⟨q1, q2, q3, q4⟩
    exact ⟨q1, q2, keeps_under kk q3 (Nat.le_refl _), Nat.le_trans hsz q3.size⟩
  have hInst : ∀ (W' : World) (kk : Keeps W0 W' (fun _ => False)) (l : Bs) (x : In), BldF W0.heap.size W0.heap.size l W' → W0.heap.size ≤ W'.heap.size → x.fit → l.length + 69 ≤ 140737488355328 →
      Calls Tryd.prog 15 #[.pointer (some ⟨W0.heap.size, 0, none⟩), inV x] W' fun e W2 => (∃ z, e = .returned z) ∧ BldF W0.heap.size W0.heap.size (l ++ lnI x ++ [10]) W2 ∧ Keeps W0 W2 (fun _ => False) ∧ W0.heap.size ≤ W2.heap.size := fun W' kk l x hb hsz hx hl => by
    refine (writeInst_any W0.heap.size W0.heap.size l x W0 W' hT0 hF0 kk (Nat.le_refl _) hsz hb hx hl).mono ?_
    rintro e W2 ⟨q1, q2, q3, q4⟩
    exact ⟨q1, q2, keeps_under kk q3 (Nat.le_refl _), Nat.le_trans hsz q3.size⟩
  obtain ⟨c0, c1, c2⟩ := cells3 hbox
  have Hw := hide (And.intro kW (And.intro hbox (And.intro hs0 (And.intro hhl (And.intro hLine (And.intro hInst hi))))))
  clear hT hF hv hm hi hs hT0 hF0 hs0 hhl hfit2 hLine hInst kW hbox
  obtain ⟨p, c, hse, -⟩ := Hw.out.2.2.1
  subst hse
  unfold cdV
  go_enter Tryd.func6, Tryd.ntmps6
  go_wp2_with fail
  rw [← hW0]
  have e1 : w.heap.size + 1 = W0.heap.size := hsz0.symm
  rw [e1]
  obtain ⟨kW, hbox, hs0, hhl, hLine, hInst, hi⟩ := Hw.out
  obtain ⟨WB, hWB⟩ : ∃ WB, WB = W0.alloc (.cells #[.pointer none, .slice none 0 0] 40) := ⟨_, rfl⟩
  have hb0 : BldF W0.heap.size W0.heap.size [] WB := bld_new hWB rfl
  have kB : Keeps W0 WB (fun _ => False) := by rw [hWB]; exact (Keeps.refl _ _).alloc _
  rw [← hWB]
  have hsB : WB.heap.size = W0.heap.size + 1 := by rw [hWB]; simp
  refine Calls.mono (hLine _ (kB.alloc _) _ (bld_keeps hb0 ((Keeps.refl _ _).alloc _)) (by simp; omega) (i64_new [v, m] rfl (by omega) rfl)) ?_
  rintro e w1 ⟨⟨z, rfl⟩, b1, k1, s1⟩
  have H1 := hide (And.intro b1 (And.intro k1 s1))
  obtain ⟨c0, c1, c2⟩ := cells3 ((k1.block _ (heap_lt hbox) id).trans hbox)
  clear kW hbox hs0 hhl hLine hInst hi hb0 kB hsB hWB b1 k1 s1 hW0 hsz0 e1
  go_wp2_with fail
  go_loopw [5, 15] (fun v5 v15 wr => ∃ i : Nat, v15 = .int .i64 (i : Int) ∧ i ≤ is.length ∧ Hid (BldF W0.heap.size W0.heap.size (headC v m ++ linesL (is.take i)) wr ∧ Keeps W0 wr (fun _ => False) ∧ W0.heap.size ≤ wr.heap.size)) (fun _ v15 _ => is.length - (intOf v15).toNat)
  case atStart => exact ⟨0, rfl, Nat.zero_le _, by show BldF _ _ (headC v m ++ linesL []) _ ∧ _; rw [show linesL [] = [] from rfl, List.append_nil]; exact H1.out⟩
  case round =>
    obtain ⟨i, rfl, hi, HR⟩ := hrel
    have hi' : (i : Int) ≤ (is.length : Int) := by omega
    by_cases hlt : i < is.length
    · have hlt' : (i : Int) < (is.length : Int) := by omega
      have hw1 : wrap64 ((i : Int) + 1) = (i : Int) + 1 := by unfold wrap64; omega
      have Hm : Hid (is.length - (i + 1) < is.length - i) := sub_down hlt
      have Hle : Hid (i + 1 ≤ is.length) := hlt
      obtain ⟨kW, hbox, hs0, hhl, hLine, hInst, hi0⟩ := Hw.out
      obtain ⟨r1, r2, r3⟩ := HR.out
      obtain ⟨p', c', hve, hvc⟩ := hs0.keeps r2
      injection hve with hp hn' hc'
      subst hp
      obtain ⟨g, o, rfl, d0, d1, d2⟩ := hvc i hlt
      have hfi := hi0 _ (List.getElem_mem hlt)
      have hroom : (headC v m ++ linesL (is.take i)).length + 69 ≤ 140737488355328 := by
        rw [List.length_append]
        exact room6 hhl (linesL_most hi0 i) hlen
      have htk := linesL_take hlt
      have hI : ∀ (W' : World), Keeps wr W' (fun _ => False) → Calls Tryd.prog 15 #[.pointer (some ⟨W0.heap.size, 0, none⟩), .agg #[.int .i64 is[i].op, .int .i64 is[i].a, .int .i64 is[i].n]] W' fun e W2 => (∃ z, e = .returned z) ∧ BldF W0.heap.size W0.heap.size (headC v m ++ linesL (is.take i) ++ lnI is[i] ++ [10]) W2 ∧ Keeps W0 W2 (fun _ => False) ∧ W0.heap.size ≤ W2.heap.size := fun (W' : World) (kk : Keeps wr W' (fun _ => False)) => hInst W' (r2.trans kk (fun _ _ e => e)) (headC v m ++ linesL (is.take i)) is[i] (bld_keeps r1 kk) (Nat.le_trans r3 kk.size) hfi hroom
      have HI := hide (And.intro hI htk)
      clear hvc hn' hc' kW hbox hs0 hhl hLine hInst hi0 r1 r2 r3 hfi hroom htk hI
      generalize is[i] = x at *
      go_wp2_with fail
      refine Calls.mono (HI.out.1 _ ((Keeps.refl _ _).alloc _)) ?_
      rintro e w2 ⟨⟨z, rfl⟩, b2, k2, s2⟩
      have H2 : Hid (BldF W0.heap.size W0.heap.size (headC v m ++ linesL (is.take (i + 1))) w2 ∧ Keeps W0 w2 (fun _ => False) ∧ W0.heap.size ≤ w2.heap.size) := by
        refine ⟨?_, k2, s2⟩
        rw [HI.out.2]
        simpa only [List.append_assoc] using b2
      clear b2 k2 s2
      go_wp2_with fail
      go_roundw
      case rel => exact ⟨i + 1, by go_num, Hle.out, H2⟩
      case measure => simp [intOf]; exact Hm.out
    · obtain rfl : i = is.length := by omega
      obtain ⟨r1, r2, r3⟩ := HR.out
      rw [List.take_of_length_le (Nat.le_refl _)] at r1
      have hS := bld_string _ _ _ wr r1 r3
      have H3 := hide (And.intro r2 r3)
      clear r1 r2 r3 HR
      go_wp2_with fail
      (with_reducible refine hS.mono ?_)
      rintro e w2 ⟨rfl, b2⟩
      have HF : Hid (Keeps w w2 (fun _ => False)) := Hw.out.1.trans (keeps_under H3.out.1 b2 (Nat.le_refl _)) (fun _ _ e => e)
      clear hS b2
      go_wp2_with fail
      go_ret
      exact ⟨rfl, HF.out⟩
end Cw
end Go.Proofs.YtnicbillhlhmmaaDoor
