/-
  code: instructions and the lines that tell them, as data.
-/
import Derived.Test.YtnicbillhlhmmaaDoorCWN
namespace Go.Proofs.YtnicbillhlhmmaaDoor
namespace Cw
open Go.RowKit
set_option linter.unusedVariables false
abbrev Bs := List UInt8
def sB (s : Bs) : ByteArray := ⟨s.toArray⟩
theorem sB_data (s : Bs) : (sB s).data.toList = s := by simp [sB]
theorem sB_size (s : Bs) : (sB s).size = s.length := rfl
/-- An instruction. -/
structure In where
  op : Int
  a : Int
  n : Int
deriving DecidableEq
def In.fit (x : In) : Prop := Fit x.op ∧ Fit x.a ∧ Fit x.n
/-- The names of the table, and what each uses (0 nothing, 1 the number, 2 to 5 its place). -/
def namesL : List Bs := [[], [112, 117, 115, 104], [108, 111, 97, 100], [115, 116, 111, 114, 101], [103, 101, 116], [104, 97, 115], [108, 101, 110], [110, 101, 103], [110, 111, 116], [97, 100, 100], [115, 117, 98], [109, 117, 108], [100, 105, 118], [114, 101, 109], [101, 113], [110, 101], [108, 116], [108, 101], [103, 116], [103, 101], [112, 117, 116], [100, 101, 108], [99, 108, 101, 97, 114], [112, 114, 105, 110, 116], [106, 117, 109, 112], [122, 101, 114, 111], [111, 112, 101, 110], [110, 101, 120, 116], [99, 108, 111, 115, 101], [116, 105, 99, 107]]
def usesL : List Nat := [0, 1, 2, 2, 3, 3, 3, 0, 0, 0, 0, 0, 0, 0, 0, 0, 0, 0, 0, 0, 3, 3, 3, 5, 4, 4, 3, 4, 0, 0]
def nmC (k : Nat) : Bs := namesL.getD k []
def usC (k : Nat) : Nat := usesL.getD k 0
def codeB : Bs := [99, 111, 100, 101]
def instB : Bs := [105, 110, 115, 116]
def isFm (x : In) : Bool := decide (1 ≤ x.op) && decide (x.op ≤ 29) && (decide (x.n = 0) || usC x.op.toNat == 1) && (decide (x.a = 0) || (usC x.op.toNat != 1 && usC x.op.toNat != 0))
def nmI (x : In) : Bs := if isFm x then nmC x.op.toNat else instB
def nsI (x : In) : List Int := if isFm x then (if usC x.op.toNat = 0 then [] else if usC x.op.toNat = 1 then [x.n] else [x.a]) else [x.op, x.a, x.n]
/-- A line of a word and numbers, without its end. -/
def lnW (w : Bs) (ns : List Int) : Bs := w ++ ns.flatMap fun n => 32 :: Lib.itoa n
def lnI (x : In) : Bs := lnW (nmI x) (nsI x)
/-- A code. -/
structure Cd where
  v : Int
  m : Int
  is : List In
deriving DecidableEq
def Cd.fit (c : Cd) : Prop := Fit c.v ∧ Fit c.m ∧ ∀ x, x ∈ c.is → x.fit
def linesC (c : Cd) : List Bs := lnW codeB [c.v, c.m] :: c.is.map lnI
def textC (c : Cd) : Bs := (linesC c).flatMap fun l => l ++ [10]
/-- What words say that are to be numbers. -/
def numD1 (s : Bs) : Option Int := if Lib.hasPrefix s [43] then none else match Lib.parseIntB 64 s with | .ok v => some v | _ => none
def numsD : List Bs → Option (List Int)
  | [] => some []
  | s :: r => match numD1 s with | none => none | some v => (numsD r).map (v :: ·)
/-- The Op of a name; 0: it is none. -/
def opF : Nat → Nat → Bs → Nat
  | 0, _, _ => 0
  | f + 1, i, s => if nmC i = s then i else opF f (i + 1) s
def opD (w : Bs) : Nat := opF 29 1 w
def instD (w : Bs) (ns : List Int) : Option In :=
  if w = instB then (match ns with | [a, b, c] => some ⟨a, b, c⟩ | _ => none)
  else if opD w = 0 then none
  else if usC (opD w) = 0 then (if ns = [] then some ⟨opD w, 0, 0⟩ else none)
  else match ns with
    | [v] => if usC (opD w) = 1 then some ⟨opD w, 0, v⟩ else some ⟨opD w, v, 0⟩
    | _ => none
/-- What has been read: whether the first line has, and the code so far. -/
def rdD (begun : Bool) (c : Cd) (w : Bs) (fs : List Bs) : Option Cd :=
  match numsD fs with
  | none => none
  | some ns => if begun then (instD w ns).map (fun x => { c with is := c.is ++ [x] }) else (if w = codeB then (match ns with | [v, m] => some { c with v := v, m := m } | _ => none) else none)
/-- The lines from the i-th on: the code; or the line at which it stops to be one. -/
def asmL : Bool → Cd → Nat → List Bs → Sum Cd Nat
  | b, c, i, [] => if b then .inl c else .inr (i + 1)
  | b, c, i, l :: r => match wdsD l with
    | [] => asmL b c (i + 1) r
    | w :: fs => match rdD b c w fs with
      | none => .inr (i + 1)
      | some c' => asmL true c' (i + 1) r
def asmD (t : Bs) : Sum Cd Nat := if t.length > 1048576 then .inr 0 else asmL false ⟨0, 0, []⟩ 0 (linesD t)
theorem itoa_num (n : Int) (h : Fit n) : numD1 (Lib.itoa n) = some n := by
  unfold numD1
  rw [itoa_plus, parse_itoa n h]
  rfl
theorem nums_back : ∀ (ns : List Int), (∀ n, n ∈ ns → Fit n) → numsD (ns.map Lib.itoa) = some ns
  | [], _ => rfl
  | n :: r, h => by
    rw [List.map_cons, numsD, itoa_num n (h n List.mem_cons_self), nums_back r (fun m hm => h m (List.mem_cons_of_mem _ hm))]
    rfl
theorem nsI_fit {x : In} (h : x.fit) : ∀ n, n ∈ nsI x → Fit n := fun n hn => by
  obtain ⟨h1, h2, h3⟩ := h
  unfold nsI at hn
  split at hn
  · split at hn
    · cases hn
    · split at hn
      · rw [List.mem_singleton.1 hn]; exact h3
      · rw [List.mem_singleton.1 hn]; exact h2
  · rcases List.mem_cons.1 hn with e | hn
    · rw [e]; exact h1
    · rcases List.mem_cons.1 hn with e | hn
      · rw [e]; exact h2
      · rw [List.mem_singleton.1 hn]; exact h3
theorem ops_back : ∀ k : Fin 30, 1 ≤ k.1 → opD (nmC k.1) = k.1 ∧ nmC k.1 ≠ instB := by decide +kernel
theorem inst_back (x : In) : instD (nmI x) (nsI x) = some x := by
  obtain ⟨op, a, n⟩ := x
  unfold nmI nsI
  by_cases hf : isFm ⟨op, a, n⟩ = true
  · rw [if_pos hf, if_pos hf]
    unfold isFm at hf
    simp only [Bool.and_eq_true, Bool.or_eq_true, decide_eq_true_eq, bne_iff_ne, beq_iff_eq, ne_eq] at hf
    obtain ⟨⟨⟨h1, h2⟩, h3⟩, h4⟩ := hf
    obtain ⟨b1, b2⟩ := ops_back ⟨op.toNat, by omega⟩ (by show 1 ≤ op.toNat; omega)
    have b1' : opD (nmC op.toNat) = op.toNat := b1
    have b2' : nmC op.toNat ≠ instB := b2
    have ho : ((op.toNat : Nat) : Int) = op := by omega
    unfold instD
    rw [if_neg b2', b1', if_neg (by omega)]
    by_cases u0 : usC op.toNat = 0
    · rw [if_pos u0, if_pos u0, if_pos rfl, ho]
      rcases h3 with h3 | h3
      · rcases h4 with h4 | h4
        · rw [h3, h4]
        · exact absurd u0 h4.2
      · omega
    · rw [if_neg u0, if_neg u0]
      by_cases u1 : usC op.toNat = 1
      · rw [if_pos u1]
        show (if usC op.toNat = 1 then some (⟨(op.toNat : Nat), 0, n⟩ : In) else _) = _
        rw [if_pos u1, ho]
        rcases h4 with h4 | h4
        · rw [h4]
        · exact absurd u1 h4.1
      · rw [if_neg u1]
        show (if usC op.toNat = 1 then _ else some (⟨(op.toNat : Nat), a, 0⟩ : In)) = _
        rw [if_neg u1, ho]
        rcases h3 with h3 | h3
        · rw [h3]
        · exact absurd h3 u1
  · rw [if_neg hf, if_neg hf]
    rfl
theorem wd_names : ∀ k : Fin 30, 1 ≤ k.1 → nmC k.1 ≠ [] ∧ ∀ y, y ∈ nmC k.1 → blank y = false ∧ y ≠ 10 ∧ y ≠ 35 := by decide +kernel
theorem wd_nmI (x : In) : Wd (nmI x) := by
  unfold nmI
  split
  · rename_i h
    unfold isFm at h
    simp only [Bool.and_eq_true, decide_eq_true_eq] at h
    obtain ⟨⟨⟨h1, h2⟩, -⟩, -⟩ := h
    have := wd_names ⟨x.op.toNat, by omega⟩ (by show 1 ≤ x.op.toNat; omega)
    exact wd_fine this.1 this.2
  · exact wd_fine (by decide) (by decide)
theorem wd_code : Wd codeB := wd_fine (by decide) (by decide)
theorem words_ln {w : Bs} (hw : Wd w) (ns : List Int) : wdsD (lnW w ns) = w :: ns.map Lib.itoa := by
  unfold lnW
  rw [show (ns.flatMap fun n => 32 :: Lib.itoa n) = (ns.map Lib.itoa).flatMap (fun x => 32 :: x) by rw [List.flatMap_map]]
  exact words_line w _ hw (fun x hx => by
    obtain ⟨n, -, rfl⟩ := List.mem_map.1 hx
    exact wd_itoa n)
theorem end_ln {w : Bs} (hw : Wd w) (ns : List Int) : (10 : UInt8) ∉ lnW w ns := by
  unfold lnW
  rw [show (ns.flatMap fun n => 32 :: Lib.itoa n) = (ns.map Lib.itoa).flatMap (fun x => 32 :: x) by rw [List.flatMap_map]]
  exact no_end w _ hw (fun x hx => by
    obtain ⟨n, -, rfl⟩ := List.mem_map.1 hx
    exact wd_itoa n)
theorem lines_text : ∀ ls : List Bs, (∀ l, l ∈ ls → (10 : UInt8) ∉ l) → linesD (ls.flatMap fun l => l ++ [10]) = ls
  | [], _ => rfl
  | l :: r, h => by
    rw [List.flatMap_cons, lines_cons l _ (h l List.mem_cons_self), lines_text r (fun x hx => h x (List.mem_cons_of_mem _ hx))]
theorem lines_code (c : Cd) : linesD (textC c) = linesC c := lines_text _ fun l hl => by
  rcases List.mem_cons.1 hl with e | hl
  · rw [e]; exact end_ln wd_code _
  · obtain ⟨x, -, rfl⟩ := List.mem_map.1 hl
    exact end_ln (wd_nmI x) _
theorem asm_is : ∀ (is : List In) (c : Cd) (i : Nat), (∀ x, x ∈ is → x.fit) → asmL true c i (is.map lnI) = .inl { c with is := c.is ++ is }
  | [], c, i, _ => by simp [asmL]
  | x :: r, c, i, h => by
    have hx := h x List.mem_cons_self
    rw [List.map_cons, asmL, show lnI x = lnW (nmI x) (nsI x) from rfl, words_ln (wd_nmI x)]
    show (match rdD true c (nmI x) ((nsI x).map Lib.itoa) with | none => Sum.inr (i + 1) | some c' => asmL true c' (i + 1) (r.map lnI)) = _
    unfold rdD
    rw [nums_back _ (nsI_fit hx)]
    show (match (instD (nmI x) (nsI x)).map (fun y => { c with is := c.is ++ [y] }) with | none => Sum.inr (i + 1) | some c' => asmL true c' (i + 1) (r.map lnI)) = _
    rw [inst_back]
    show asmL true { c with is := c.is ++ [x] } (i + 1) (r.map lnI) = _
    rw [asm_is r _ _ (fun y hy => h y (List.mem_cons_of_mem _ hy))]
    simp
theorem asm_text (c : Cd) (hc : c.fit) (hl : (textC c).length ≤ 1048576) : asmD (textC c) = .inl c := by
  obtain ⟨h1, h2, h3⟩ := hc
  unfold asmD
  rw [if_neg (by omega), lines_code]
  unfold linesC
  rw [asmL, words_ln wd_code]
  show (match rdD false ⟨0, 0, []⟩ codeB ([c.v, c.m].map Lib.itoa) with | none => Sum.inr (0 + 1) | some c' => asmL true c' (0 + 1) (c.is.map lnI)) = _
  unfold rdD
  rw [nums_back _ (fun n hn => by
    rcases List.mem_cons.1 hn with e | hn
    · rw [e]; exact h1
    · rw [List.mem_singleton.1 hn]; exact h2)]
  show (match (if codeB = codeB then (some { v := c.v, m := c.m, is := [] } : Option Cd) else none) with | none => Sum.inr (0 + 1) | some c' => asmL true c' (0 + 1) (c.is.map lnI)) = _
  rw [if_pos rfl]
  show asmL true { v := c.v, m := c.m, is := [] } 1 (c.is.map lnI) = _
  rw [asm_is _ _ _ h3]
  simp
end Cw
end Go.Proofs.YtnicbillhlhmmaaDoor
