/-
  script: a line as data, in one form; rows of overrides and of commands that lie somewhere; a script's text.
-/
import Derived.Test.YtpkbjjbbdhehdaaDoorSG0
namespace Go.Proofs.YtpkbjjbbdhehdaaDoor
open Go.RowKit
set_option linter.unusedVariables false

/-- Words, each with a blank ahead of it. -/
def tailD (ws : List ByteArray) : List UInt8 := ws.flatMap (fun x => 32 :: x.data.toList)
def lineW (i : Nat) (c : CmdD) : List UInt8 := (nmN i).data.toList ++ tailD (fldsD c (fmN i).data.toList)
theorem lineI_eq (i : Nat) (c : CmdD) : lineI i c = strOf (lineW i c ++ [10]) := by
  unfold lineI lineW
  rw [List.map_cons, Lib.join_cons]
  have e : Lib.joinTail [32] ((fldsD c (fmN i).data.toList).map (·.data.toList)) = tailD (fldsD c (fmN i).data.toList) := by
    unfold Lib.joinTail tailD
    rw [List.map_map, List.flatMap_def]
    rfl
  rw [e]
  exact strOf_append _ [10]
/-- A command's line with its end; none where there is no such command. -/
def cmdT (c : CmdD) : List UInt8 := if 1 ≤ c.op ∧ c.op ≤ 14 then lineW (c.op.toNat + 1) c ++ [10] else []
def limC (n : Int) : CmdD := ⟨0, 0, 0, 0, n, ⟨#[]⟩, ⟨#[]⟩, [], []⟩
abbrev Ovr := ByteArray × Nat
def ovC (o : Ovr) : CmdD := ⟨0, 0, o.2, 0, 0, o.1, ⟨#[]⟩, [], []⟩
def limT (n : Int) : List UInt8 := lineW 0 (limC n) ++ [10]
def ovT (o : Ovr) : List UInt8 := lineW 1 (ovC o) ++ [10]
theorem none_ints (w : World) : IntsIn w (.slice none 0 0) [] := ⟨Or.inl ⟨rfl, rfl⟩, fun n hn => by cases hn⟩
theorem lim_in (w : World) {n : Int} (h : -9223372036854775808 ≤ n ∧ n ≤ 9223372036854775807) : CmdIn w (limC n) (.slice none 0 0) (.slice none 0 0) :=
  ⟨none_ints w, none_ints w, by simp [limC], by simp [limC], by simp [limC], h, by simp [limC], by simp [limC], Nat.zero_le _, Nat.zero_le _⟩
theorem ov_in (w : World) {o : Ovr} (h1 : o.1.size ≤ 8388608) (h2 : o.2 < 18446744073709551616) : CmdIn w (ovC o) (.slice none 0 0) (.slice none 0 0) :=
  ⟨none_ints w, none_ints w, by simp [ovC], by simp [ovC], by simp [ovC], by simp [ovC], h2, by simp [ovC], h1, Nat.zero_le _⟩
theorem line_cmd (c : CmdD) (fs hs : Value) (w : World) (hc : CmdIn w c fs hs) (ht : TabW w) (hD : Deb w) (hR : RowsF w) : Calls Tryd.prog 9 #[.int .i64 3, .agg (c.vals fs hs)] w fun e w' => e = .returned (.string (strOf (cmdT c))) ∧ Keeps w w' (fun _ => False) := by
  refine (line_found 3 c fs hs w hc ht hD hR).mono ?_
  rintro e w' ⟨⟨i, hi, h1, h2, rfl⟩ | ⟨hno, rfl⟩, k⟩
  · refine ⟨?_, k⟩
    unfold kN at h1
    unfold oN at h2
    have h3 : 2 ≤ i := by
      split at h1
      · omega
      · split at h1
        · omega
        · omega
    rw [if_neg (by omega)] at h2
    unfold cmdT
    rw [if_pos (by omega), show c.op.toNat + 1 = i by omega, lineI_eq]
  · refine ⟨?_, k⟩
    have h4 : ¬ (1 ≤ c.op ∧ c.op ≤ 14) := fun q => by
      refine hno (c.op.toNat + 1) (by omega) ⟨?_, ?_⟩
      · unfold kN
        rw [if_neg (by omega), if_neg (by omega)]
      · unfold oN
        rw [if_neg (by omega)]
        omega
    unfold cmdT
    rw [if_neg h4]
    rfl
theorem line_lim (n : Int) (h : -9223372036854775808 ≤ n ∧ n ≤ 9223372036854775807) (w : World) (ht : TabW w) (hD : Deb w) (hR : RowsF w) : Calls Tryd.prog 9 #[.int .i64 1, .agg ((limC n).vals (.slice none 0 0) (.slice none 0 0))] w fun e w' => e = .returned (.string (strOf (limT n))) ∧ Keeps w w' (fun _ => False) := by
  refine (line_found 1 (limC n) _ _ w (lim_in w h) ht hD hR).mono ?_
  rintro e w' ⟨⟨i, hi, h1, h2, rfl⟩ | ⟨hno, rfl⟩, k⟩
  · refine ⟨?_, k⟩
    unfold kN at h1
    have h3 : i = 0 := by
      split at h1
      · assumption
      · split at h1 <;> omega
    subst h3
    rw [lineI_eq]
    rfl
  · exact absurd ⟨rfl, rfl⟩ (hno 0 (by omega))
theorem line_ov (o : Ovr) (h1 : o.1.size ≤ 8388608) (h2 : o.2 < 18446744073709551616) (w : World) (ht : TabW w) (hD : Deb w) (hR : RowsF w) : Calls Tryd.prog 9 #[.int .i64 2, .agg ((ovC o).vals (.slice none 0 0) (.slice none 0 0))] w fun e w' => e = .returned (.string (strOf (ovT o))) ∧ Keeps w w' (fun _ => False) := by
  refine (line_found 2 (ovC o) _ _ w (ov_in w h1 h2) ht hD hR).mono ?_
  rintro e w' ⟨⟨i, hi, h1, h2, rfl⟩ | ⟨hno, rfl⟩, k⟩
  · refine ⟨?_, k⟩
    unfold kN at h1
    have h3 : i = 1 := by
      split at h1
      · omega
      · split at h1
        · assumption
        · omega
    subst h3
    rw [lineI_eq]
    rfl
  · exact absurd ⟨rfl, rfl⟩ (hno 1 (by omega))

/-- What a command's line costs. -/
def costC (c : CmdD) : Nat := c.fl.length + c.hl.length + c.key.size + c.elem.size + 1
theorem tail_nums : ∀ l : List Int, (∀ n, n ∈ l → -9223372036854775808 ≤ n ∧ n ≤ 9223372036854775807) → (tailD (l.map numD)).length ≤ 22 * l.length
  | [], _ => by simp [tailD]
  | n :: r, h => by
    have ih := tail_nums r (fun m hm => h m (List.mem_cons_of_mem _ hm))
    have hz := num_size n (h n List.mem_cons_self).1 (h n List.mem_cons_self).2
    have e : (numD n).data.toList.length = (numD n).size := rfl
    unfold tailD at ih ⊢
    rw [List.map_cons, List.flatMap_cons, List.length_append, List.length_cons, List.length_cons]
    omega
theorem tail_one (x : ByteArray) : (tailD [x]).length = x.size + 1 := by
  simp [tailD]
theorem byte_sz2 (s : ByteArray) : (bytesD s).size ≤ 2 * s.size + 1 := by
  unfold bytesD
  split
  · show 1 ≤ 2 * s.size + 1
    omega
  · rw [strOf_size, hexL_length]
    have : s.data.toList.length = s.size := rfl
    omega
theorem fld_tail {w : World} {c : CmdD} {fs hs : Value} (h : CmdIn w c fs hs) (p : Int) : (tailD (fldD c p)).length ≤ 22 * costC c := by
  have l1 := tail_nums c.fl h.f.fits
  have l2 := tail_nums c.hl h.s.fits
  have a1 := num_size c.h h.h.1 h.h.2
  have a2 := num_size c.n h.n.1 h.n.2
  have a3 := word_sz h.u
  have a4 := word_sz h.v
  have a5 := byte_sz2 c.key
  have a6 := byte_sz2 c.elem
  unfold costC fldD
  by_cases p1 : p = 72
  · rw [if_pos p1, tail_one]; omega
  rw [if_neg p1]
  by_cases p2 : p = 78
  · rw [if_pos p2, tail_one]; omega
  rw [if_neg p2]
  by_cases p3 : p = 85
  · rw [if_pos p3, tail_one]; omega
  rw [if_neg p3]
  by_cases p4 : p = 86
  · rw [if_pos p4, tail_one]; omega
  rw [if_neg p4]
  by_cases p5 : p = 75
  · rw [if_pos p5, tail_one]; omega
  rw [if_neg p5]
  by_cases p6 : p = 69
  · rw [if_pos p6, tail_one]; omega
  rw [if_neg p6]
  by_cases p7 : p = 70
  · rw [if_pos p7]; omega
  rw [if_neg p7]
  by_cases p8 : p = 83
  · rw [if_pos p8]; omega
  rw [if_neg p8]
  simp [tailD]
theorem tail_append (a b : List ByteArray) : tailD (a ++ b) = tailD a ++ tailD b := by simp [tailD]
theorem flds_tail {w : World} {c : CmdD} {fs hs : Value} (h : CmdIn w c fs hs) : ∀ l : List UInt8, (tailD (fldsD c l)).length ≤ 22 * costC c * l.length
  | [] => by simp [fldsD, tailD]
  | x :: r => by
    have ih := flds_tail h r
    have := fld_tail h (x.toNat : Int)
    have e : fldsD c (x :: r) = fldD c (x.toNat : Int) ++ fldsD c r := by simp [fldsD]
    rw [e, tail_append, List.length_append, List.length_cons, Nat.mul_add]
    omega
theorem lineW_len {w : World} {c : CmdD} {fs hs : Value} (h : CmdIn w c fs hs) {i : Nat} (hi : i < 16) : (lineW i c).length + 1 ≤ 100 * costC c := by
  have a := flds_tail h (fmN i).data.toList
  have b := (form_few i hi).1
  have d : (nmN i).data.toList.length ≤ 7 := by
    have : ∀ k : Fin 16, (nmN k.1).data.toList.length ≤ 7 := by decide +kernel
    exact this ⟨i, hi⟩
  have e : 22 * costC c * (fmN i).data.toList.length ≤ 22 * costC c * 3 := Nat.mul_le_mul_left _ b
  have f : 1 ≤ costC c := by unfold costC; omega
  unfold lineW
  rw [List.length_append]
  omega
theorem cmdT_len {w : World} {c : CmdD} {fs hs : Value} (h : CmdIn w c fs hs) : (cmdT c).length ≤ 100 * costC c := by
  unfold cmdT
  split
  · rename_i q
    have := lineW_len h (i := c.op.toNat + 1) (by omega)
    simp
    omega
  · simp
theorem limT_len {n : Int} (h : -9223372036854775808 ≤ n ∧ n ≤ 9223372036854775807) : (limT n).length ≤ 100 := by
  have := lineW_len (lim_in default h) (i := 0) (by omega)
  unfold limT
  have e : costC (limC n) = 1 := rfl
  rw [e] at this
  simp
  omega
theorem ovT_len {o : Ovr} (h1 : o.1.size ≤ 8388608) (h2 : o.2 < 18446744073709551616) : (ovT o).length ≤ 100 * (o.1.size + 1) := by
  have := lineW_len (ov_in default h1 h2) (i := 1) (by omega)
  unfold ovT
  have e : costC (ovC o) = o.1.size + 1 := by
    show 0 + 0 + o.1.size + 0 + 1 = _
    omega
  rw [e] at this
  simp
  omega
end Go.Proofs.YtpkbjjbbdhehdaaDoor
