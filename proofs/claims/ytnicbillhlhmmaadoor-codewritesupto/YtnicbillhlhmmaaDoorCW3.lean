/-
  code: numbers in a list; writeLine.
-/
import Derived.Test.YtnicbillhlhmmaaDoorCW2
import Derived.Test.YtnicbillhlhmmaaDoorShelfC2
import Derived.Lib.AppendIntMem
namespace Go.Proofs.YtnicbillhlhmmaaDoor
namespace Cw
open Go.RowKit
set_option linter.unusedVariables false
def TabW (w : World) : Prop := Lib.TabIs Tryd.prog w "internal/strconv.uint64pow10" .u64 Lib.pow10Tab
theorem gPow : Tryd.prog.globalNamed "internal/strconv.uint64pow10" = some 3 := by kernel_rfl
theorem TabW.keeps {w w' : World} (h : TabW w) (k : Keeps w w' (fun _ => False)) : TabW w' := by
  unfold TabW Lib.TabIs World.var? at h ⊢
  rw [gPow] at h ⊢
  simp only [Option.bind_some] at h ⊢
  have hlt : 3 < w.heap.size := by
    rcases Nat.lt_or_ge 3 w.heap.size with h' | h'
    · exact h'
    · rw [Array.getElem?_eq_none h'] at h; cases h
  rw [k.block 3 hlt id]
  exact h
theorem format_any (n : Int) (hn : Fit n) (w : World) (ht : TabW w) : Calls Tryd.prog 33 #[.int .i64 n, .int .i64 10] w fun e w' => e = .returned (.string (sB (Lib.itoa n))) ∧ Keeps w w' (fun _ => False) := by
  refine (Tryd.strconv_FormatInt_10 n hn.1 hn.2 w ht).mono ?_
  rintro e w1 ⟨rfl, k, os, rfl⟩
  exact ⟨rfl, keepsW (Lib.below_grow _ w (Nat.le_refl _) k os)⟩
/-- Numbers in a list, somewhere. -/
def I64V (W : World) (v : Value) (ns : List Int) : Prop := ∃ p c, v = .slice p ns.length c ∧ ∀ j (h : j < ns.length), ∃ g o cur fz, p = some ⟨g, o, none⟩ ∧ W.heap[g]? = some (.cells cur 2 fz) ∧ cur[o + j]? = some (.int .i64 ns[j])
theorem I64V.nil (W : World) : I64V W (.slice none 0 0) [] := ⟨none, 0, rfl, fun j h => absurd h (Nat.not_lt_zero _)⟩
theorem I64V.keeps {W W' : World} {v : Value} {ns : List Int} (h : I64V W v ns) (k : Keeps W W' (fun _ => False)) : I64V W' v ns := by
  obtain ⟨p, c, e, f⟩ := h
  refine ⟨p, c, e, fun j hj => ?_⟩
  obtain ⟨g, o, cur, fz, e1, e2, e3⟩ := f j hj
  exact ⟨g, o, cur, fz, e1, (k.block g (heap_lt e2) id).trans e2, e3⟩
theorem I64V.oth {B b : Nat} {l : Bs} {W W' : World} {v : Value} {ns : List Int} (h : I64V W v ns) (hb : BldF B b l W) (k : Oth b W W') : I64V W' v ns := by
  obtain ⟨p, c, e, f⟩ := h
  refine ⟨p, c, e, fun j hj => ?_⟩
  obtain ⟨g, o, cur, fz, e1, e2, e3⟩ := f j hj
  have hgb : g ≠ b := fun q => by
    subst q
    rcases hb with ⟨-, u, h1, -⟩ | ⟨-, u, h1, -⟩ <;> (rw [h1] at e2; injection e2 with e2; injection e2 with _ e2 _; exact absurd e2 (by decide))
  exact ⟨g, o, cur, fz, e1, k g _ e2 (fun q => hgb (by injection q)) (fun c fz q => by injection q with _ q _; exact absurd q (by decide)), e3⟩
def numsL (ns : List Int) : Bs := ns.flatMap fun n => 32 :: Lib.itoa n
theorem numsL_take {ns : List Int} {i : Nat} (h : i < ns.length) : numsL (ns.take (i + 1)) = numsL (ns.take i) ++ [32] ++ Lib.itoa ns[i] := by
  unfold numsL
  rw [List.take_succ_eq_append_getElem h, List.flatMap_append]
  simp
theorem numsL_len (ns : List Int) (h : ∀ n, n ∈ ns → Fit n) : (numsL ns).length ≤ 21 * ns.length := by
  unfold numsL
  induction ns with
  | nil => simp
  | cons n r ih =>
    have h1 := itoa_len n (h n List.mem_cons_self)
    have h2 := ih (fun m hm => h m (List.mem_cons_of_mem _ hm))
    simp only [List.flatMap_cons, List.length_append, List.length_cons]
    omega
theorem room3 {a b n : Nat} (h1 : a ≤ 21 * n) (h2 : b ≤ 5) (h3 : n ≤ 3) : b + a ≤ 68 := by omega
theorem room4 {a b n : Nat} (h1 : a ≤ 68) (h2 : b ≤ 69 * n) : a + (0 + 1) + b ≤ 69 * (n + 1) := by omega
theorem room5 {a : Nat} (h : a ≤ 21 * 2) : 4 + a + 1 ≤ 47 := by omega
theorem room6 {a b n : Nat} (h : a ≤ 47) (h2 : b ≤ 69 * n) (h3 : n ≤ 1048576) : a + b + 69 ≤ 140737488355328 := by omega
theorem sub_down {i n : Nat} (h : i < n) : n - (i + 1) < n - i := by omega
theorem room1 {a b t n : Nat} (h : a + b + 21 * n + 1 ≤ 140737488355328) (ht : t ≤ 21 * n) : a + b + t + 1 ≤ 140737488355328 := by omega
theorem room2 {a b t n u : Nat} (h : a + b + 21 * n + 1 ≤ 140737488355328) (ht : t + 1 + u ≤ 21 * n) : a + b + t + 1 + u ≤ 140737488355328 := by omega
theorem numsL_most {ns : List Int} (h : ∀ n, n ∈ ns → Fit n) (i : Nat) : (numsL (ns.take i)).length ≤ 21 * ns.length :=
  Nat.le_trans (numsL_len (ns.take i) (fun n hn => h n (List.mem_of_mem_take hn))) (Nat.mul_le_mul_left 21 (List.length_take_le' i ns))
set_option maxRecDepth 100000 in
set_option maxHeartbeats 2000000 in
theorem writeLine_any (B b : Nat) (l word : Bs) (v : Value) (ns : List Int) (w0 W : World) (hT0 : TabW w0) (hk : Keeps w0 W (fun _ => False)) (h0 : w0.heap.size ≤ B) (hBw : B ≤ W.heap.size) (hb : BldF B b l W) (hv : I64V W v ns) (hn : ∀ n, n ∈ ns → Fit n)
    (hlen : l.length + word.length + 21 * ns.length + 1 ≤ 140737488355328) :
    Calls Tryd.prog 14 #[.pointer (some ⟨b, 0, none⟩), .string (sB word), v] W fun e W' => (∃ z, e = .returned z) ∧ BldF B b (l ++ lnW word ns ++ [10]) W' ∧ Below B W W' ∧ Oth b W W' := by
  have hl := numsL_len ns hn
  have Hw := hide (And.intro hT0 (And.intro hk (And.intro h0 (And.intro hBw (And.intro hb (And.intro hv (And.intro hn (And.intro hlen hl))))))))
  obtain ⟨p, c, hve, hvc⟩ := hv
  subst hve
  have hW1 := bld_write B b l word W hb (by omega) hBw
  have hns : ns.length ≤ 140737488355328 := by omega
  clear hvc hb hn hk h0 hT0 hBw hl hlen
  go_enter Tryd.func14, Tryd.ntmps14
  go_wp2_with fail
  (with_reducible refine hW1.mono ?_)
  rintro e w1 ⟨⟨z, rfl⟩, b1, k1, o1⟩
  have H1 := hide (And.intro b1 (And.intro k1 o1))
  clear hW1 b1 k1 o1
  go_wp2_with fail
  go_loopw [7, 13] (fun v7 v13 wr => ∃ i : Nat, v13 = .int .i64 (i : Int) ∧ i ≤ ns.length ∧ Hid (BldF B b (l ++ word ++ numsL (ns.take i)) wr ∧ Below B W wr ∧ Oth b W wr)) (fun _ v13 _ => ns.length - (intOf v13).toNat)
  case atStart => exact ⟨0, rfl, Nat.zero_le _, by show BldF B b (l ++ word ++ numsL []) w1 ∧ _; rw [show numsL [] = [] from rfl, List.append_nil]; exact H1.out⟩
  case round =>
    obtain ⟨i, rfl, hi, HR⟩ := hrel
    have hwr : Hid (i < ns.length → wrap64 ((i : Int) + 1) = (i : Int) + 1) := fun h => by unfold wrap64; omega
    obtain ⟨q1, q2, q3, q4, q5, q6, q7, q8, q9⟩ := Hw.out
    obtain ⟨r1, r2, r3⟩ := HR.out
    have hi' : (i : Int) ≤ (ns.length : Int) := by omega
    have htl : (numsL (ns.take i)).length ≤ 21 * ns.length := by
      exact numsL_most q7 i
    have hsz : B ≤ wr.heap.size := Nat.le_trans q4 r2.size
    by_cases hlt : i < ns.length
    · have hlt' : (i : Int) < (ns.length : Int) := by omega
      have hw1 : wrap64 ((i : Int) + 1) = (i : Int) + 1 := hwr.out hlt
      have hvr : I64V wr (.slice p ns.length c) ns := q6.oth q5 r3
      obtain ⟨p', c', hve, hvc⟩ := hvr
      injection hve with hp hn' hc'
      subst hp
      obtain ⟨g, o, cur, fz, rfl, hg, hcell⟩ := hvc i hlt
      have hld : wr.cell? ⟨g, o + i, none⟩ = some (.int .i64 ns[i]) := by simp [World.cell?, hg, hcell]
      have hB1 := bld_byte B b _ 32 32 rfl wr r1 (by rw [List.length_append, List.length_append]; exact room1 q8 htl) hsz
      have hF := fun (W2 : World) (ht : TabW W2) => format_any ns[i] (q7 _ (List.getElem_mem hlt)) W2 ht
      have hil := itoa_len ns[i] (q7 _ (List.getElem_mem hlt))
      have htk := numsL_take hlt
      have htl2 : (numsL (ns.take (i + 1))).length ≤ 21 * ns.length := by
        exact numsL_most q7 (i + 1)
      rw [htk] at htl2
      simp only [List.length_append, List.length_singleton] at htl2
      have Hf := hide (And.intro hF (And.intro hil (And.intro htk htl2)))
      have Hm : Hid (ns.length - (i + 1) < ns.length - i) := sub_down hlt
      clear hvc hcell hF hil htk htl2 q1 q2 q3 q4 q5 q6 q7 q8 q9 r1 r2 r3 hn' hc' htl hg
      generalize ns[i] = x at *
      go_wp2_with fail
      (with_reducible refine hB1.mono ?_)
      rintro e w2 ⟨⟨z, rfl⟩, b2, k2, o2⟩
      obtain ⟨q1, q2, q3, q4, q5, q6, q7, q8, q9⟩ := Hw.out
      obtain ⟨r1, r2, r3⟩ := HR.out
      obtain ⟨hF, hil, htk, htl2⟩ := Hf.out
      have hT2 : TabW w2 := q1.keeps (keeps_under (keeps_under q2 r2 q3) k2 q3)
      have hF2 := hF w2 hT2
      have H2 := hide (And.intro b2 (And.intro k2 o2))
      clear hB1 b2 k2 o2 hF hil htk htl2 q1 q2 q3 q4 q5 q6 q7 q8 q9 r1 r2 r3 hT2
      go_wp2_with fail
      (with_reducible refine hF2.mono ?_)
      rintro e w3 ⟨rfl, k3⟩
      obtain ⟨q1, q2, q3, q4, q5, q6, q7, q8, q9⟩ := Hw.out
      obtain ⟨r1, r2, r3⟩ := HR.out
      obtain ⟨hF, hil, htk, htl2⟩ := Hf.out
      obtain ⟨b2, k2, o2⟩ := H2.out
      have hsz3 : B ≤ w3.heap.size := Nat.le_trans (Nat.le_trans hsz k2.size) k3.size
      have hW3 := bld_write B b _ (Lib.itoa x) w3 (bld_keeps b2 k3) (by rw [List.length_append, List.length_append, List.length_append, List.length_singleton]; exact room2 q8 htl2) hsz3
      have H3 := hide k3
      clear hF2 k3 b2 k2 o2 hF hil htk htl2 q1 q2 q3 q4 q5 q6 q7 q8 q9 r1 r2 r3
      go_wp2_with fail
      (with_reducible refine hW3.mono ?_)
      rintro e w4 ⟨⟨z, rfl⟩, b4, k4, o4⟩
      have H4 : Hid (BldF B b (l ++ word ++ numsL (ns.take (i + 1))) w4 ∧ Below B W w4 ∧ Oth b W w4) := by
        obtain ⟨r1, r2, r3⟩ := HR.out
        obtain ⟨hF, hil, htk, htl2⟩ := Hf.out
        obtain ⟨b2, k2, o2⟩ := H2.out
        refine ⟨?_, ((r2.trans (k2.mono (Nat.le_refl _))).trans (keeps_below H3.out (Nat.le_trans hsz k2.size))).trans k4, ((r3.trans o2).trans (oth_keeps H3.out)).trans o4⟩
        rw [htk]
        simpa [List.append_assoc] using b4
      clear hW3 b4 k4 o4
      go_wp2_with fail
      go_roundw
      case rel => exact ⟨i + 1, by go_num, by omega, H4⟩
      case measure => simp [intOf]; exact Hm.out
    · obtain rfl : i = ns.length := by omega
      have hB1 := bld_byte B b _ 10 10 rfl wr r1 (by rw [List.length_append, List.length_append]; exact room1 q8 htl) hsz
      clear q1 q2 q3 q4 q5 q6 q7 q8 q9 r1 r2 r3
      go_wp2_with fail
      (with_reducible refine hB1.mono ?_)
      rintro e w2 ⟨⟨z, rfl⟩, b2, k2, o2⟩
      obtain ⟨r1, r2, r3⟩ := HR.out
      have HF : Hid (BldF B b (l ++ lnW word ns ++ [10]) w2 ∧ Below B W w2 ∧ Oth b W w2) := by
        refine ⟨?_, r2.trans k2, r3.trans o2⟩
        rw [List.take_of_length_le (Nat.le_refl _)] at b2
        show BldF B b (l ++ (word ++ numsL ns) ++ [10]) w2
        simpa [List.append_assoc] using b2
      clear hB1 b2 k2 o2 r1 r2 r3 HR
      go_wp2_with fail
      go_end0
      exact ⟨⟨_, rfl⟩, HF.out⟩
end Cw
end Go.Proofs.YtnicbillhlhmmaaDoor
