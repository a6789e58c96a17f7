/-
  code: what Split and FieldsFunc make of a text, as data.
-/
import Derived.Test.YtnicbillhlhmmaaDoorCW0
import Derived.Lib.SplitLaws
import Derived.Lib.FieldsP
namespace Go.Proofs.YtnicbillhlhmmaaDoor
namespace Cw
open Go.RowKit
set_option linter.unusedVariables false
theorem sB_self (s : ByteArray) : sB s.data.toList = s := by simp [sB]
theorem extract_sB (s : ByteArray) (a b : Nat) : s.extract a b = sB ((s.data.toList.take b).drop a) := by
  apply ByteArray.ext
  apply Array.toList_inj.1
  rw [ByteArray.data_extract, sB_data]
  simp [List.drop_take]
/-- A text cut at each end of a line. -/
def cutD (l : Bs) : List Bs := (lnF l).1 ++ [(lnF l).2]
def spD : Bs → List Bs
  | [] => [[]]
  | b :: l => if b = 10 then [] :: spD l else match spD l with | [] => [[b]] | h :: t => (b :: h) :: t
theorem spD_ne (l : Bs) : ∃ h t, spD l = h :: t := by
  cases l with
  | nil => exact ⟨_, _, rfl⟩
  | cons b l =>
    unfold spD
    split
    · exact ⟨_, _, rfl⟩
    · split
      · exact ⟨_, _, rfl⟩
      · exact ⟨_, _, rfl⟩
theorem cut_sp (l : Bs) : ∀ (c : Bs) (h : Bs) (t : List Bs), spD l = h :: t → (l.foldl lnS ([], c)).1 ++ [(l.foldl lnS ([], c)).2] = (c ++ h) :: t := by
  induction l with
  | nil =>
    intro c h t e
    injection e with e1 e2
    subst e1
    subst e2
    simp
  | cons b l ih =>
    intro c h t e
    unfold spD at e
    rw [List.foldl_cons]
    obtain ⟨h2, t2, e2⟩ := spD_ne l
    by_cases hb : b = 10
    · rw [if_pos hb] at e
      injection e with e3 e4
      subst e3
      unfold lnS
      rw [if_pos hb]
      show (List.foldl lnS ([] ++ [c], []) l).1 ++ [(List.foldl lnS ([] ++ [c], []) l).2] = _
      rw [ln_fold l ([] ++ [c]) [], ← e4, e2]
      have := ih [] h2 t2 e2
      rw [List.nil_append] at this
      simp only [List.nil_append, List.append_nil, List.cons_append]
      rw [this]
    · rw [if_neg hb, e2] at e
      injection e with e3 e4
      subst e3
      subst e4
      unfold lnS
      rw [if_neg hb]
      show (List.foldl lnS ([], c ++ [b]) l).1 ++ [(List.foldl lnS ([], c ++ [b]) l).2] = _
      rw [ih (c ++ [b]) h2 t2 e2]
      simp
theorem split_sp : ∀ l : Bs, Lib.splitK [10] 0 (l.count 10) l = spD l
  | [] => rfl
  | b :: l => by
    have ih := split_sp l
    by_cases hb : b = 10
    · subst hb
      have hi : Lib.index (10 :: l) [10] = 0 := by rw [Lib.index]; simp [List.isPrefixOf]
      rw [List.count_cons_self, Lib.splitK, hi]
      show [] :: Lib.splitK [10] 0 (l.count 10) l = spD (10 :: l)
      rw [ih]
      unfold spD
      rw [if_pos rfl]
      cases l <;> rfl
    · have hp : ([10] : Bs).isPrefixOf (b :: l) = false := by simp [List.isPrefixOf, Ne.symm hb]
      have hix : Lib.index (b :: l) [10] = if Lib.index l [10] == -1 then -1 else Lib.index l [10] + 1 := by rw [Lib.index, hp]; simp
      rw [List.count_cons_of_ne (by simpa using hb)]
      obtain ⟨h2, t2, e2⟩ := spD_ne l
      have eR : spD (b :: l) = (b :: h2) :: t2 := by
        show (if b = 10 then [] :: spD l else match spD l with | [] => [[b]] | h :: t => (b :: h) :: t) = _
        rw [if_neg hb, e2]
      rw [eR]
      cases hk : l.count 10 with
      | zero =>
        rw [hk] at ih
        have ih' : [l] = spD l := ih
        rw [e2] at ih'
        injection ih' with a1 a2
        subst a1
        subst a2
        rfl
      | succ k =>
        rw [hk, e2] at ih
        rw [Lib.splitK] at ih ⊢
        have hge := Lib.index_ge l [10]
        by_cases hm : Lib.index l [10] = -1
        · rw [if_pos (beq_iff_eq.2 hm)] at ih
          injection ih with a1 a2
          subst a1
          subst a2
          rw [if_pos (by rw [hix, if_pos (beq_iff_eq.2 hm)]; rfl)]
        · rw [if_neg (fun e => hm (beq_iff_eq.1 e))] at ih
          injection ih with a1 a2
          obtain ⟨j, hj⟩ : ∃ j : Nat, Lib.index l [10] = j := ⟨(Lib.index l [10]).toNat, by omega⟩
          have hix' : Lib.index (b :: l) [10] = ((j + 1 : Nat) : Int) := by rw [hix, if_neg (fun e => hm (beq_iff_eq.1 e)), hj]; omega
          rw [if_neg (by rw [hix']; intro e; have := beq_iff_eq.1 e; omega)]
          have n1 : (Lib.index (b :: l) [10]).toNat = j + 1 := by rw [hix']; omega
          have n2 : (Lib.index l [10]).toNat = j := by rw [hj]; omega
          rw [n1]
          rw [n2] at a1 a2
          rw [← a1, ← a2]
          rfl
def endB : ByteArray := ⟨#[10]⟩
theorem splits (l : Bs) : Lib.splitB endB 0 (Lib.countB (sB l) endB) (sB l) = (cutD l).map sB := by
  have h1 := Lib.splitB_data endB 0 (Lib.countB (sB l) endB) (sB l)
  have hc : Lib.countB (sB l) endB = l.count 10 := by
    show Lib.count (sB l).data.toList endB.data.toList = _
    rw [sB_data]
    exact Lib.count_one 10 l
  obtain ⟨h2, t2, e2⟩ := spD_ne l
  have hcut : cutD l = spD l := by
    have := cut_sp l [] h2 t2 e2
    rw [List.nil_append] at this
    rw [e2]
    exact this
  rw [hc, sB_data, show endB.data.toList = [10] from rfl, split_sp] at h1
  rw [hc, hcut, ← h1, List.map_map]
  have : (sB ∘ fun x : ByteArray => x.data.toList) = id := by
    funext x
    exact sB_self x
  rw [this, List.map_id]
theorem lines_cut (l : Bs) : linesD l = if (lnF l).2 = [] then (lnF l).1 else cutD l := rfl
theorem cut_len (l : Bs) : (cutD l).length = (lnF l).1.length + 1 := by simp [cutD]
theorem cut_last (l : Bs) : (cutD l)[(lnF l).1.length]? = some (lnF l).2 := by simp [cutD]
theorem cut_init (l : Bs) : (cutD l).take (lnF l).1.length = (lnF l).1 := by simp [cutD]
/-- The fields of a line: what stands between blanks. -/
def fdS (st : List Bs × Bs) (x : UInt8) : List Bs × Bs := if blank x then (if st.2 = [] then st else (st.1 ++ [st.2], [])) else (st.1, st.2 ++ [x])
def fdF (l : Bs) : List Bs × Bs := l.foldl fdS ([], [])
def fdE (st : List Bs × Bs) : List Bs := if st.2 = [] then st.1 else st.1 ++ [st.2]
def fieldsD (l : Bs) : List Bs := fdE (fdF l)
theorem fdF_take {l : Bs} {i : Nat} (h : i < l.length) : fdF (l.take (i + 1)) = fdS (fdF (l.take i)) l[i] := by
  unfold fdF
  rw [List.take_succ_eq_append_getElem h, List.foldl_append]
  rfl
theorem fdF_skip {l : Bs} {i : Nat} : ∀ k, i + k ≤ l.length → (∀ j (h : j < l.length), i ≤ j → j < i + k → blank l[j] = false) → fdF (l.take (i + k)) = ((fdF (l.take i)).1, (fdF (l.take i)).2 ++ (l.drop i).take k)
  | 0, _, _ => by simp
  | k + 1, h, hx => by
    have ih := fdF_skip k (by omega) (fun j hj h1 h2 => hx j hj h1 (by omega))
    have hlt : i + k < l.length := by omega
    rw [show i + (k + 1) = i + k + 1 by omega, fdF_take hlt, ih]
    unfold fdS
    rw [hx _ hlt (by omega) (by omega), if_neg (by decide), List.append_assoc]
    congr 2
    rw [List.take_succ_eq_append_getElem (by rw [List.length_drop]; omega), List.getElem_drop]
/-- The field under way is the line's end. -/
theorem fdF_cur (l : Bs) : ∀ i, i ≤ l.length → (fdF (l.take i)).2.length ≤ i ∧ (fdF (l.take i)).2 = (l.take i).drop (i - (fdF (l.take i)).2.length)
  | 0, _ => by simp [fdF]
  | i + 1, h => by
    obtain ⟨a, b⟩ := fdF_cur l i (by omega)
    have hlt : i < l.length := by omega
    rw [fdF_take hlt]
    unfold fdS
    cases hb : blank l[i] with
    | true =>
      rw [if_pos rfl]
      by_cases hc : (fdF (l.take i)).2 = []
      · rw [if_pos hc, hc]
        simp
      · rw [if_neg hc]
        simp
    | false =>
      rw [if_neg (by decide)]
      refine ⟨by rw [List.length_append]; simp; omega, ?_⟩
      simp only [List.length_append, List.length_singleton]
      rw [List.take_succ_eq_append_getElem hlt, List.drop_append_of_le_length (by rw [List.length_take]; omega)]
      congr 1
      rw [show i + 1 - ((fdF (l.take i)).2.length + 1) = i - (fdF (l.take i)).2.length by omega]
      exact b
def blankR (r : Nat) : Bool := r == 32 || r == 9
theorem fields_span (s : ByteArray) : ∀ (f pos : Nat) (st : Option Nat) (acc : List (Nat × Nat)), s.size ≤ pos + f → pos ≤ s.size →
    (acc.map fun x => s.extract x.1 x.2) = ((fdF (s.data.toList.take pos)).1).map sB →
    (st = none → (fdF (s.data.toList.take pos)).2 = []) → (∀ a, st = some a → (fdF (s.data.toList.take pos)).2 ≠ [] ∧ a + (fdF (s.data.toList.take pos)).2.length = pos) →
    (Lib.closeSpans s (Lib.spansFromP blankR s f pos st acc)).map (fun x => s.extract x.1 x.2) = (fieldsD s.data.toList).map sB := by
  intro f
  induction f with
  | zero =>
    intro pos st acc h1 h2 ha hn hs
    obtain rfl : pos = s.size := by omega
    have hl : s.data.toList.length = s.size := rfl
    have ht : s.data.toList.take s.size = s.data.toList := List.take_of_length_le (by omega)
    rw [ht] at ha hn hs
    show (Lib.closeSpans s (acc, st)).map _ = _
    unfold Lib.closeSpans fieldsD fdE
    cases st with
    | none => rw [if_pos (hn rfl)]; exact ha
    | some a =>
      obtain ⟨q1, q2⟩ := hs a rfl
      rw [if_neg q1, List.map_append, List.map_append, ha]
      congr 1
      show [s.extract a s.size] = [sB _]
      have := (fdF_cur s.data.toList s.size (by omega)).2
      rw [ht] at this
      rw [this, extract_sB]
      congr 2
      rw [show s.size - (fdF s.data.toList).2.length = a by omega, ht]
  | succ f ih =>
    intro pos st acc h1 h2 ha hn hs
    have hl : s.data.toList.length = s.size := rfl
    by_cases hlt : pos < s.size
    · obtain ⟨d1, d2, d3⟩ := decode_step s pos hlt
      obtain ⟨e1, e2⟩ := decode_ten s pos hlt 32 (by omega)
      obtain ⟨f1, -⟩ := decode_ten s pos hlt 9 (by omega)
      have hx : s.data.toList[pos]'(by omega) = s[pos]'hlt := rfl
      have hbl : blank (s[pos]'hlt) = blankR (Utf8.decode s pos).1 := by
        have t32 : ((s[pos]'hlt) == 32) = ((Utf8.decode s pos).1 == 32) := by
          rw [Bool.eq_iff_iff, beq_iff_eq, beq_iff_eq, e1]
          exact ⟨fun e => by rw [e]; rfl, fun e => UInt8.toNat_inj.1 e⟩
        have t9 : ((s[pos]'hlt) == 9) = ((Utf8.decode s pos).1 == 9) := by
          rw [Bool.eq_iff_iff, beq_iff_eq, beq_iff_eq, f1]
          exact ⟨fun e => by rw [e]; rfl, fun e => UInt8.toNat_inj.1 e⟩
        unfold blank blankR
        rw [t32, t9]
      unfold Lib.spansFromP
      rw [if_pos hlt, ← hbl]
      cases hb : blank (s[pos]'hlt) with
      | true =>
        have h128 : (s[pos]'hlt).toNat < 128 := by
          unfold blank at hb
          rcases (Bool.or_eq_true _ _).mp hb with q | q
          · rw [beq_iff_eq.1 q]; decide
          · rw [beq_iff_eq.1 q]; decide
        rw [if_pos rfl, e2 h128]
        have hT := fdF_take (l := s.data.toList) (i := pos) (by omega)
        unfold fdS at hT
        rw [hx, hb, if_pos rfl] at hT
        cases st with
        | none =>
          rw [if_pos (hn rfl)] at hT
          refine ih (pos + 1) none acc (by omega) (by omega) (by rw [hT]; exact ha) (fun _ => by rw [hT]; exact hn rfl) (fun a e => by cases e)
        | some a =>
          obtain ⟨q1, q2⟩ := hs a rfl
          rw [if_neg q1] at hT
          refine ih (pos + 1) none (acc ++ [(a, pos)]) (by omega) (by omega) ?_ (fun _ => by rw [hT]) (fun a e => by cases e)
          rw [hT, List.map_append, List.map_append, ha]
          congr 1
          show [s.extract a pos] = [sB _]
          have := (fdF_cur s.data.toList pos (by omega)).2
          rw [this, extract_sB]
          congr 2
          rw [show pos - (fdF (s.data.toList.take pos)).2.length = a by omega]
      | false =>
        rw [if_neg (by decide)]
        have hb2 : ∀ j (hj : j < s.data.toList.length), pos ≤ j → j < pos + (Utf8.decode s pos).2 → blank s.data.toList[j] = false := fun j hj g1 g2 => by
          by_cases e : j = pos
          · subst e
            exact hb
          · have := d3 j (by omega) (by omega) g2
            have this' : 128 ≤ (s.data.toList[j]).toNat := this
            unfold blank
            cases hz : (s.data.toList[j] == 32) with
            | true => rw [beq_iff_eq.1 hz] at this'; exact absurd this' (by decide)
            | false =>
              cases hz2 : (s.data.toList[j] == 9) with
              | true => rw [beq_iff_eq.1 hz2] at this'; exact absurd this' (by decide)
              | false => rfl
        have hT := fdF_skip (l := s.data.toList) (i := pos) (Utf8.decode s pos).2 (by omega) hb2
        have hlen : ((s.data.toList.drop pos).take (Utf8.decode s pos).2).length = (Utf8.decode s pos).2 := by
          rw [List.length_take, List.length_drop]
          omega
        have hne : (fdF (s.data.toList.take (pos + (Utf8.decode s pos).2))).2 ≠ [] := by
          rw [hT]
          intro e
          have := congrArg List.length (List.append_eq_nil_iff.1 e).2
          rw [hlen] at this
          simp at this
          omega
        cases st with
        | none =>
          refine ih _ (some pos) acc (by omega) d2 (by rw [hT]; exact ha) (fun e => by cases e) (fun a e => ⟨hne, ?_⟩)
          injection e with e
          subst e
          rw [hT]
          show pos + ((fdF (s.data.toList.take pos)).2 ++ _).length = _
          rw [hn rfl, List.nil_append, hlen]
        | some a =>
          obtain ⟨q1, q2⟩ := hs a rfl
          refine ih _ (some a) acc (by omega) d2 (by rw [hT]; exact ha) (fun e => by cases e) (fun a' e => ⟨hne, ?_⟩)
          injection e with e
          subst e
          rw [hT]
          show a + ((fdF (s.data.toList.take pos)).2 ++ _).length = _
          rw [List.length_append, hlen]
          omega
    · obtain rfl : pos = s.size := by omega
      rw [show Lib.spansFromP blankR s (f + 1) s.size st acc = Lib.spansFromP blankR s 0 s.size st acc by unfold Lib.spansFromP; rw [if_neg hlt]]
      have hl : s.data.toList.length = s.size := rfl
      have ht : s.data.toList.take s.size = s.data.toList := List.take_of_length_le (by omega)
      rw [ht] at ha hn hs
      show (Lib.closeSpans s (acc, st)).map _ = _
      unfold Lib.closeSpans fieldsD fdE
      cases st with
      | none => rw [if_pos (hn rfl)]; exact ha
      | some a =>
        obtain ⟨q1, q2⟩ := hs a rfl
        rw [if_neg q1, List.map_append, List.map_append, ha]
        congr 1
        show [s.extract a s.size] = [sB _]
        have := (fdF_cur s.data.toList s.size (by omega)).2
        rw [ht] at this
        rw [this, extract_sB]
        congr 2
        rw [show s.size - (fdF s.data.toList).2.length = a by omega, ht]
theorem fields_any (s : ByteArray) : Lib.goFieldsP blankR s = (fieldsD s.data.toList).map sB := by
  unfold Lib.goFieldsP Lib.spansOfP
  exact fields_span s s.size 0 none [] (by omega) (Nat.zero_le _) rfl (fun _ => rfl) (fun a e => by cases e)
/-- A word that opens a remark. -/
def hashed (x : Bs) : Bool := x.head? == some 35
theorem fold_rel (l : Bs) : ∀ (a : WdS) (b : List Bs × Bs), (a.rem = false ∧ a.ws = b.1 ∧ a.cur = b.2 ∧ (∀ x, x ∈ b.1 → hashed x = false) ∧ hashed b.2 = false ∨ a.rem = true ∧ a.cur = [] ∧ a.ws = (fdE b).takeWhile (fun x => !hashed x) ∧ ∃ x, x ∈ fdE b ∧ hashed x = true) →
    (l.foldl wdS a).rem = false ∧ (l.foldl wdS a).ws = (l.foldl fdS b).1 ∧ (l.foldl wdS a).cur = (l.foldl fdS b).2 ∧ (∀ x, x ∈ (l.foldl fdS b).1 → hashed x = false) ∧ hashed (l.foldl fdS b).2 = false ∨ (l.foldl wdS a).rem = true ∧ (l.foldl wdS a).cur = [] ∧ (l.foldl wdS a).ws = (fdE (l.foldl fdS b)).takeWhile (fun x => !hashed x) ∧ ∃ x, x ∈ fdE (l.foldl fdS b) ∧ hashed x = true := by
  induction l with
  | nil => intro a b h; exact h
  | cons x t ih =>
    intro a b h
    rw [List.foldl_cons, List.foldl_cons]
    refine ih _ _ ?_
    rcases h with ⟨h1, h2, h3, h4, h5⟩ | ⟨h1, h2, h3, h4⟩
    · by_cases hc : a.cur = []
      · have hc2 : b.2 = [] := by rw [← h3]; exact hc
        cases hb : blank x with
        | true =>
          rw [wdS_out_blank h1 hc hb]
          unfold fdS
          rw [hb, if_pos rfl, if_pos hc2]
          exact Or.inl ⟨h1, h2, h3, h4, h5⟩
        | false =>
          have e2 : fdS b x = (b.1, [x]) := by
            unfold fdS
            rw [hb, if_neg (by decide), hc2]
            rfl
          rw [e2]
          by_cases hx : x = 35
          · subst hx
            rw [wdS_out_hash h1 hc]
            refine Or.inr ⟨rfl, rfl, ?_, [35], ?_, rfl⟩
            · show a.ws = _
              unfold fdE
              rw [if_neg (by simp), h2]
              show b.1 = List.takeWhile _ (b.1 ++ [[35]])
              rw [List.takeWhile_append_of_pos (fun y hy => by rw [h4 y hy]; rfl)]
              simp [hashed]
            · unfold fdE
              rw [if_neg (by simp)]
              simp
          · rw [wdS_out h1 hc hb hx]
            refine Or.inl ⟨rfl, h2, rfl, h4, ?_⟩
            unfold hashed
            simpa using hx
      · have hc2 : b.2 ≠ [] := by rw [← h3]; exact hc
        cases hb : blank x with
        | true =>
          rw [wdS_in_blank h1 hc hb]
          unfold fdS
          rw [hb, if_pos rfl, if_neg hc2]
          refine Or.inl ⟨rfl, by show a.ws ++ [a.cur] = _; rw [h2, h3], rfl, fun y hy => ?_, rfl⟩
          rcases List.mem_append.1 hy with q | q
          · exact h4 y q
          · rw [List.mem_singleton.1 q]; exact h5
        | false =>
          rw [wdS_in h1 hc hb]
          unfold fdS
          rw [hb, if_neg (by decide)]
          refine Or.inl ⟨rfl, h2, by show a.cur ++ [x] = _; rw [h3], h4, ?_⟩
          cases hb2 : b.2 with
          | nil => exact absurd hb2 hc2
          | cons z r =>
            rw [hb2] at h5
            exact h5
    · rw [wdS_rem h1]
      refine Or.inr ⟨h1, h2, ?_⟩
      obtain ⟨y, hy1, hy2⟩ := h4
      -- what stands behind the first remark does not count
      have key : ∀ A B : List Bs, (∃ y, y ∈ A ∧ hashed y = true) → (A ++ B).takeWhile (fun x => !hashed x) = A.takeWhile (fun x => !hashed x) := by
        intro A B hA
        induction A with
        | nil => obtain ⟨y, q, -⟩ := hA; cases q
        | cons z r ihA =>
          rw [List.cons_append, List.takeWhile_cons, List.takeWhile_cons]
          cases hz : hashed z with
          | true => rfl
          | false =>
            rw [if_pos (show (!false) = true from rfl), if_pos (show (!false) = true from rfl), ihA]
            obtain ⟨y, q1, q2⟩ := hA
            rcases List.mem_cons.1 q1 with e | e
            · rw [e, hz] at q2; cases q2
            · exact ⟨y, e, q2⟩
      cases hb : blank x with
      | true =>
        have : fdE (fdS b x) = fdE b := by
          unfold fdS
          rw [hb, if_pos rfl]
          unfold fdE
          by_cases hc : b.2 = []
          · rw [if_pos hc]
          · rw [if_neg hc, if_pos rfl, if_neg hc]
        rw [this]
        exact ⟨h3, y, hy1, hy2⟩
      | false =>
        have e2 : fdE (fdS b x) = b.1 ++ [b.2 ++ [x]] := by
          unfold fdS
          rw [hb, if_neg (by decide)]
          unfold fdE
          rw [if_neg (by simp)]
        rw [e2]
        unfold fdE at h3 hy1
        by_cases hc : b.2 = []
        · rw [if_pos hc] at h3 hy1
          rw [key b.1 _ ⟨y, hy1, hy2⟩]
          exact ⟨h3, y, List.mem_append.2 (Or.inl hy1), hy2⟩
        · rw [if_neg hc] at h3 hy1
          have hh : hashed (b.2 ++ [x]) = hashed b.2 := by
            cases hb2 : b.2 with
            | nil => exact absurd hb2 hc
            | cons z r => rfl
          by_cases hA : ∃ y, y ∈ b.1 ∧ hashed y = true
          · rw [key b.1 _ hA]
            rw [key b.1 _ hA] at h3
            obtain ⟨y, q1, q2⟩ := hA
            exact ⟨h3, y, List.mem_append.2 (Or.inl q1), q2⟩
          · have hno : ∀ z, z ∈ b.1 → (!hashed z) = true := fun z hz => by
              cases hq : hashed z with
              | true => exact absurd ⟨z, hz, hq⟩ hA
              | false => rfl
            rw [List.takeWhile_append_of_pos hno] at h3 ⊢
            have hy3 : hashed b.2 = true := by
              rcases List.mem_append.1 hy1 with q | q
              · exact absurd ⟨y, q, hy2⟩ hA
              · rw [List.mem_singleton.1 q] at hy2; exact hy2
            rw [List.takeWhile_cons, hh, hy3] at ⊢
            rw [List.takeWhile_cons, hy3] at h3
            exact ⟨h3, b.2 ++ [x], by simp, by rw [hh]; exact hy3⟩
theorem tw_all : ∀ l : List Bs, (∀ x, x ∈ l → (!hashed x) = true) → l.takeWhile (fun x => !hashed x) = l
  | [], _ => rfl
  | x :: r, h => by
    rw [List.takeWhile_cons, if_pos (h x List.mem_cons_self), tw_all r (fun y hy => h y (List.mem_cons_of_mem _ hy))]
/-- The words are the fields up to the first that opens a remark. -/
theorem words_fields (l : Bs) : wdsD l = (fieldsD l).takeWhile (fun x => !hashed x) := by
  have h := fold_rel l ⟨[], [], false⟩ ([], []) (Or.inl ⟨rfl, rfl, rfl, (fun x q => by cases q), rfl⟩)
  unfold wdsD wdF fieldsD fdF
  rcases h with ⟨-, h2, h3, h4, h5⟩ | ⟨-, h2, h3, -⟩
  · have hall : ∀ x, x ∈ fdE (l.foldl fdS ([], [])) → (!hashed x) = true := fun x hx => by
      unfold fdE at hx
      split at hx
      · rw [h4 x hx]; rfl
      · rcases List.mem_append.1 hx with q | q
        · rw [h4 x q]; rfl
        · rw [List.mem_singleton.1 q, h5]; rfl
    rw [tw_all _ hall, h2, h3]
    rfl
  · rw [h2, if_pos rfl]
    exact h3
/-- No field is empty. -/
theorem fields_ne (l : Bs) : ∀ (b : List Bs × Bs), (∀ x, x ∈ b.1 → x ≠ []) → ∀ x, x ∈ (l.foldl fdS b).1 → x ≠ [] := by
  induction l with
  | nil => intro b h; exact h
  | cons y t ih =>
    intro b h
    rw [List.foldl_cons]
    refine ih _ (fun x hx => ?_)
    unfold fdS at hx
    split at hx
    · split at hx
      · exact h x hx
      · rename_i hc
        rcases List.mem_append.1 hx with q | q
        · exact h x q
        · rw [List.mem_singleton.1 q]; exact hc
    · exact h x hx
theorem field_ne {l x : Bs} (h : x ∈ fieldsD l) : x ≠ [] := by
  unfold fieldsD fdE at h
  split at h
  · exact fields_ne l ([], []) (fun x q => by cases q) x h
  · rename_i hc
    rcases List.mem_append.1 h with q | q
    · exact fields_ne l ([], []) (fun x q => by cases q) x q
    · rw [List.mem_singleton.1 q]; exact hc
end Cw
end Go.Proofs.YtnicbillhlhmmaaDoor
