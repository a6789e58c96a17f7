/-
  code: linesOf, wordsOf.
-/
import Derived.Test.YtnicbillhlhmmaaDoorCW9
import Derived.Test.YtnicbillhlhmmaaDoorShelfC4
import Derived.Test.YtnicbillhlhmmaaDoorShelfC5
namespace Go.Proofs.YtnicbillhlhmmaaDoor
namespace Cw
open Go.RowKit
set_option linter.unusedVariables false
theorem few_fold (l : Bs) : ∀ (b : List Bs × Bs), (l.foldl fdS b).1.length + (if (l.foldl fdS b).2 = [] then 0 else 1) ≤ b.1.length + (if b.2 = [] then 0 else 1) + l.length := by
  induction l with
  | nil => intro b; exact Nat.le_refl _
  | cons y t ih =>
    intro b
    rw [List.foldl_cons]
    refine Nat.le_trans (ih _) ?_
    rw [List.length_cons]
    unfold fdS
    split
    · split
      · omega
      · rename_i hc
        show (b.1 ++ [b.2]).length + (if ([] : Bs) = [] then 0 else 1) + t.length ≤ b.1.length + 1 + (t.length + 1)
        rw [if_pos rfl, List.length_append, List.length_singleton]
        omega
    · show b.1.length + (if b.2 ++ [y] = [] then 0 else 1) + t.length ≤ b.1.length + (if b.2 = [] then 0 else 1) + (t.length + 1)
      rw [if_neg (by simp)]
      omega
theorem fields_few (l : Bs) : (fieldsD l).length ≤ l.length := by
  have := few_fold l ([], [])
  unfold fieldsD fdE fdF
  split
  · rename_i h
    rw [if_pos h] at this
    simpa using this
  · rename_i h
    rw [if_neg h] at this
    rw [List.length_append]
    simpa using this
/-- What answers a list of texts. -/
def CapOk (v : Value) : Prop := ∀ p n c, v = .slice p n c → n ≤ c
theorem CapOk.mk {p : Option Addr} {n c : Nat} (h : n ≤ c) : CapOk (.slice p n c) := fun p' n' c' e => by
  injection e with _ e1 e2
  subst e1
  subst e2
  exact h
def TxP (w : World) (ws : List Bs) (e : Ending) (w' : World) : Prop := ∃ r, e = .returned r ∧ (StrV w' r ws ∧ CapOk r) ∧ Keeps w w' (fun _ => False)
theorem row_at {W : World} {h : Nat} {xs : List Bs} {T : TypeId} {fz : Nat × Nat} (hh : W.heap[h]? = some (.cells (xs.map fun x => Value.string (sB x)).toArray T fz)) : ∀ j (hj : j < xs.length), W.cell? ⟨h, j, none⟩ = some (.string (sB xs[j])) := fun j hj => by
  simp [World.cell?, hh, hj]
theorem str_take {W : World} {g : Nat} {xs : List Bs} (h : ∀ j (hj : j < xs.length), W.cell? ⟨g, j, none⟩ = some (.string (sB xs[j]))) {n c : Nat} (hn : n ≤ xs.length) : StrV W (.slice (some ⟨g, 0, none⟩) n c) (xs.take n) := by
  refine ⟨some ⟨g, 0, none⟩, c, by rw [List.length_take, Nat.min_eq_left hn], fun j hj => ?_⟩
  rw [List.length_take] at hj
  have := h j (by omega)
  refine ⟨g, 0, rfl, ?_⟩
  rw [Nat.zero_add, this]
  simp
theorem cut_size (l : Bs) : (lnF l).1.length ≤ l.length := by
  have := lnF_few l l.length (Nat.le_refl _)
  rwa [List.take_of_length_le (Nat.le_refl _)] at this
set_option maxRecDepth 100000 in
set_option maxHeartbeats 2000000 in
theorem linesOf_any (t : Bs) (ht : t.length ≤ 8388608) (w : World) (he : ErrW w) : Calls Tryd.prog 19 #[.string (sB t)] w fun e w' => TxP w (linesD t) e w' := by
  obtain ⟨m, hm⟩ := he.max
  have hS := Tryd.strings_Split (sB t) ⟨#[10]⟩ m w (by rw [sB_size]; omega) hm (by decide)
  have h1 : Lib.splitB ⟨#[10]⟩ 0 (Lib.countB (sB t) ⟨#[10]⟩) (sB t) = (cutD t).map sB := splits t
  have h2 := Lib.splitB_all ⟨#[10]⟩ (by decide) 0 _ (sB t) (rfl : Lib.countB (sB t) ⟨#[10]⟩ = _)
  rw [h1, List.length_map, cut_len] at h2
  have h3 : Lib.countB (sB t) ⟨#[10]⟩ = (lnF t).1.length := by omega
  rw [h1, h3, List.map_map] at hS
  have hn := cut_size t
  have hL := lines_cut t
  have hl := cut_last t
  have hi := cut_init t
  have hln := cut_len t
  obtain ⟨N, hN⟩ : ∃ N, (lnF t).1.length = N := ⟨_, rfl⟩
  rw [hN] at hS hn hl hi hln
  have hN2 : N ≤ 8388608 := by omega
  have hrow := heap_alloc_new w (.cells (List.map (Value.string ∘ sB) (cutD t)).toArray 9)
  have hcs := row_at hrow
  have hlast : (w.alloc (.cells (List.map (Value.string ∘ sB) (cutD t)).toArray 9)).cell? ⟨w.heap.size, N, none⟩ = some (.string (sB (lnF t).2)) := by
    obtain ⟨q1, q2⟩ := List.getElem?_eq_some_iff.1 hl
    rw [hcs N q1, q2]
  have HF := hide (And.intro hcs (And.intro hi (And.intro hln hL)))
  clear h1 h2 h3 hn hL hl hi hln hrow hcs hm he ht
  obtain ⟨W1, hW1⟩ : ∃ W1, w.alloc (.cells (List.map (Value.string ∘ sB) (cutD t)).toArray 9) = W1 := ⟨_, rfl⟩
  have k1 : Keeps w W1 (fun _ => False) := by rw [← hW1]; exact (Keeps.refl _ _).alloc _
  rw [hW1] at hS HF hlast
  have K1 := hide k1
  clear k1 hW1
  have hnn : (N : Int) ≤ 8388608 := by omega
  by_cases hz : (lnF t).2 = []
  · have e0 : ((sB (lnF t).2).toList == []) = true := by
      have h2 : (sB []).toList = [] := by decide +kernel
      rw [hz, h2]
      rfl
    rw [if_pos hz] at HF
    clear hz hN
    generalize sB (lnF t).2 = sl at *
    generalize sB t = st at *
    go_enter Tryd.func19, Tryd.ntmps19
    go_wp2_with fail
    (with_reducible refine hS.mono ?_)
    rintro e w1 ⟨rfl, rfl⟩
    clear hS
    go_wp2_with fail
    go_ret
    refine ⟨_, rfl, ⟨?_, .mk (by omega)⟩, K1.out⟩
    obtain ⟨hcs, hi, hln, hL⟩ := HF.out
    rw [hL, ← hi]
    exact str_take hcs (by omega)
  · have e0 : ((sB (lnF t).2).toList == []) = false := by
      have h1 := str_no (sB_ne hz)
      have h2 : (sB []).toList = [] := by decide +kernel
      rw [h2] at h1
      exact h1
    rw [if_neg hz] at HF
    clear hz hN
    generalize sB (lnF t).2 = sl at *
    generalize sB t = st at *
    go_enter Tryd.func19, Tryd.ntmps19
    go_wp2_with fail
    (with_reducible refine hS.mono ?_)
    rintro e w1 ⟨rfl, rfl⟩
    clear hS
    go_wp2_with fail
    go_ret
    refine ⟨_, rfl, ⟨?_, .mk (by omega)⟩, K1.out⟩
    obtain ⟨hcs, hi, hln, hL⟩ := HF.out
    rw [hL]
    have := str_take (c := N + 1) hcs (Nat.le_refl _)
    rw [List.take_of_length_le (Nat.le_refl _), hln] at this
    exact this
theorem index_at (w : World) (s : Bs) (k : Nat) (hk : k < s.length) : (Instr.index 9 (.string (sB s)) (.int .i64 (k : Int))).run Tryd.prog w = .ok (.int .u8 ((s[k]'hk).toNat : Int)) w := by
  have hk2 : 0 ≤ (k : Int) ∧ (k : Int) < ((sB s).size : Int) := by
    show 0 ≤ (k : Int) ∧ (k : Int) < (s.length : Int)
    omega
  rw [run_index_string w 9 (sB s) .i64 (k : Int) Tryd.underlying9, dif_pos hk2]
  rfl
theorem cf_clo (vs : Array Value) (w : World) : (callFunc 39 vs).run Tryd.prog w = .ok (.enter 39 vs) w := by
  unfold callFunc
  simp [Tryd.func39, go_sem]
  try rfl
set_option maxRecDepth 100000 in
theorem clo_any (w : World) : PredGrows Tryd.prog 39 #[] blankR w := by
  intro W x hx hb
  obtain ⟨R, hR⟩ : ∃ R, blankR x = R := ⟨_, rfl⟩
  rw [hR]
  show Calls Tryd.prog 39 #[.int .i32 (x : Int)] W _
  unfold blankR at hR
  by_cases h1 : x = 32
  · subst h1
    have : R = true := by rw [← hR]; rfl
    subst this
    clear hR hx
    go_enter Tryd.func39, Tryd.ntmps39
    go_wp2_with fail
    go_ret
    exact ⟨rfl, Below.refl _ _⟩
  · by_cases h2 : x = 9
    · subst h2
      have : R = true := by rw [← hR]; rfl
      subst this
      clear hR hx h1
      go_enter Tryd.func39, Tryd.ntmps39
      go_wp2_with fail
      go_ret
      exact ⟨rfl, Below.refl _ _⟩
    · have : R = false := by rw [← hR]; simp [h1, h2]
      subst this
      have e1 : (((x : Nat) : Int) == 32) = false := by simp; omega
      have e2 : (((x : Nat) : Int) == 9) = false := by simp; omega
      clear hR hx h1 h2
      go_enter Tryd.func39, Tryd.ntmps39
      go_wp2_with fail
      go_ret
      exact ⟨rfl, Below.refl _ _⟩
/-- The words of fields up to the i-th, none of which opens a remark. -/
theorem tw_stop (l : List Bs) (i : Nat) (hi : i < l.length) (h : ∀ j (hj : j < l.length), j < i → hashed l[j] = false) (hx : hashed l[i] = true) : l.takeWhile (fun x => !hashed x) = l.take i := by
  induction l generalizing i with
  | nil => simp at hi
  | cons x r ih =>
    cases i with
    | zero =>
      have : hashed x = true := hx
      rw [List.takeWhile_cons, this]
      rfl
    | succ i =>
      have h0 : hashed x = false := h 0 (by simp) (by omega)
      rw [List.takeWhile_cons, h0, if_pos (show (!false) = true from rfl), List.take_succ_cons]
      congr 1
      exact ih i (by simpa using hi) (fun j hj hji => h (j + 1) (by simpa using hj) (by omega)) hx
theorem hashed_at {x : Bs} (h : 0 < x.length) : hashed x = ((x[0]'h).toNat == 35) := by
  cases x with
  | nil => simp at h
  | cons c r =>
    show (some c == some 35) = (c.toNat == 35)
    rw [Bool.eq_iff_iff]
    simp
    exact ⟨fun e => by rw [e]; rfl, fun e => UInt8.toNat_inj.1 e⟩
set_option maxRecDepth 100000 in
set_option maxHeartbeats 2000000 in
theorem wordsOf_any (t : Bs) (ht : t.length ≤ 8388608) (w : World) : Calls Tryd.prog 20 #[.string (sB t)] w fun e w' => TxP w (wdsD t) e w' := by
  have hS := Tryd.strings_FieldsFunc_grows 39 #[] cf_clo blankR (sB t) w (by rw [sB_size]; omega) (clo_any w)
  rw [fields_any, sB_data] at hS
  have hW := words_fields t
  have hne : ∀ x, x ∈ fieldsD t → x ≠ [] := fun x hx => field_ne hx
  have hlen : (fieldsD t).length ≤ 8388608 := Nat.le_trans (fields_few t) ht
  obtain ⟨R, hR⟩ : ∃ R, wdsD t = R := ⟨_, rfl⟩
  rw [hR] at hW ⊢
  generalize fieldsD t = F at *
  rw [List.length_map, List.map_map] at hS
  have HF := hide (And.intro hW hne)
  clear hW hne ht hR
  generalize sB t = st at *
  go_enter Tryd.func20, Tryd.ntmps20
  go_wp2_with fail
  (with_reducible refine hS.mono ?_)
  rintro e w1 ⟨A, rfl, hA, own, b1⟩
  have hcs : ∀ j (hj : j < F.length), w1.cell? ⟨A, j, none⟩ = some (.string (sB F[j])) := fun j hj => by
    rcases own.2 with ⟨e1, -⟩ | ⟨g, cap, cur, e1, e2, e3, e4, e5, e6, e7⟩
    · cases e1
    · injection e1 with e1 _ _
      injection e1 with e1
      injection e1 with e1
      subst e1
      have : (List.map (Value.string ∘ sB) F)[j]? = some (.string (sB F[j])) := by
        rw [List.getElem?_map, List.getElem?_eq_getElem hj]
        rfl
      rw [Nat.mul_one] at e7
      rw [← e7, List.getElem?_take, if_pos hj, Array.getElem?_toList] at this
      simp [World.cell?, e3, this]
  have H1 := hide (And.intro hcs (keepsW b1))
  clear hS own b1 hcs hA
  go_wp2_with fail
  go_loopw [4, 5, 10] (fun v4 v5 v10 wr => ∃ i : Nat, v10 = .int .i64 (i : Int) ∧ i ≤ F.length ∧ wr = w1 ∧ Hid (∀ j (hj : j < F.length), j < i → hashed F[j] = false)) (fun _ _ v10 _ => F.length - (intOf v10).toNat)
  case atStart => exact ⟨0, rfl, Nat.zero_le _, rfl, fun j hj h => absurd h (Nat.not_lt_zero _)⟩
  case round =>
    obtain ⟨i, rfl, hi, rfl, HR⟩ := hrel
    have hi' : (i : Int) ≤ (F.length : Int) := by omega
    by_cases hlt : i < F.length
    · have hlt' : (i : Int) < (F.length : Int) := by omega
      have Hm : Hid (F.length - (i + 1) < F.length - i) := sub_down hlt
      have Hle : Hid (i + 1 ≤ F.length) := hlt
      have d0 := H1.out.1 i hlt
      have hpos : 0 < (F[i]).length := List.length_pos_iff.2 (HF.out.2 _ (List.getElem_mem hlt))
      have hpz : 0 < (sB F[i]).size := hpos
      have hz : ((((sB F[i])[0]'hpz).toNat : Int) == 35) = hashed F[i] := by
        show (((F[i][0]'hpos).toNat : Int) == 35) = _
        rw [hashed_at hpos, Bool.eq_iff_iff]
        simp
        omega
      have HN : Hid (hashed F[i] = false → ∀ j (hj : j < F.length), j < i + 1 → hashed F[j] = false) := fun q j hj hji => by
        by_cases e : j = i
        · subst e; exact q
        · exact HR.out j hj (by omega)
      have HT : Hid (hashed F[i] = true → R = F.take i) := fun q => by rw [HF.out.1]; exact tw_stop F i hlt HR.out q
      generalize hashed F[i] = hb at *
      generalize sB F[i] = sx at *
      clear hpos
      cases hb with
      | true =>
        have HT2 := hide (HT.out rfl)
        clear HT HN
        go_wp2_with fail
        go_ret
        refine ⟨_, rfl, ⟨?_, .mk (by omega)⟩, H1.out.2⟩
        rw [HT2.out]
        exact str_take H1.out.1 hi
      | false =>
        have HN2 := hide (HN.out rfl)
        clear HT HN HR
        go_wp2_with fail
        go_roundw
        case rel => exact ⟨i + 1, by go_num, Hle.out, by trivial, HN2⟩
        case measure => simp [intOf]; exact Hm.out
    · obtain rfl : i = F.length := by omega
      have hno : R = F := by
        rw [HF.out.1]
        exact tw_all F fun x hx => by
          obtain ⟨j, hj, e⟩ := List.getElem_of_mem hx
          rw [← e, HR.out j hj hj]
          rfl
      have Hno := hide hno
      clear hno HR
      go_wp2_with fail
      go_ret
      refine ⟨_, rfl, ⟨?_, .mk (by omega)⟩, H1.out.2⟩
      rw [Hno.out]
      have := str_take (c := F.length) H1.out.1 (Nat.le_refl _)
      rw [List.take_of_length_le (Nat.le_refl _)] at this
      exact this
end Cw
end Go.Proofs.YtnicbillhlhmmaaDoor
