import Derived.Test.YtlpfnikhnchpdaaDoorProg
import Derived.WalkKit
import Derived.Below
import Derived.Laws.CopyRow
import Derived.Laws.IdiomStrings
import Derived.Laws.MakeOwn
import Derived.Laws.Slices
import Derived.Lib.SliceRun
import Derived.RegionTactic
import Derived.Deep.MidRow
import Derived.Laws.Tables
import Derived.Shelf.Strings.Builder1
import Derived.Shelf.Small.Strs
import Derived.Shelf.Strings.BuilderF
import Derived.Shelf.Strconv.Itoa0
import Derived.Shelf.Strconv.Itoa1
import Derived.Shelf.LaysM
import Derived.Shelf.Strconv.Itoa2
import Derived.Shelf.Strconv.Itoa3
import Derived.Shelf.Strconv.Itoa4
import Derived.Shelf.Strconv.ParseIntEmpty
import Derived.Shelf.Strconv.Clone
import Derived.Shelf.Strconv.SyntaxError
import Derived.Shelf.LaysC
import Derived.Shelf.Strconv.ToError
import Derived.Shelf.Strconv.Lower
import Derived.Shelf.Strconv.ParseUint10
import Derived.Shelf.Strconv.ParseUint10Empty
import Derived.Shelf.Strconv.ParseUint10Any
import Derived.Shelf.Strconv.ParseInt10
import Derived.Shelf.Strconv.RangeError
import Derived.Shelf.Strconv.ToErrorRange
import Derived.Shelf.Strconv.ParseUintEmpty
import Derived.Shelf.Strconv.ParseUint10b64
import Derived.Shelf.Strconv.ParseUint10b32
import Derived.Shelf.Strconv.ParseUint10b16
import Derived.Shelf.Strconv.ParseUint10b8
import Derived.Shelf.Strconv.ParseUint10At
import Derived.Shelf.Strconv.ParseInt10At64
import Derived.Shelf.Strconv.ParseInt10At32
import Derived.Shelf.Strconv.ParseInt10At16
import Derived.Shelf.Strconv.ParseInt10At8
import Derived.Shelf.Strconv.ParseInt10All
import Derived.Shelf.Strconv.ParseIntPublic10
import Derived.Shelf.Strconv.ErrVarParseInt
import Derived.Shelf.Strings.Search1
import Derived.Shelf.Strings.Prefix
/-
  lang: tokens, trees and the reading of them, as data. Nothing here names the program. (Made by genLG0.py.)
-/
namespace Go.Proofs.YtlpfnikhnchpdaaDoor
namespace Lg
abbrev Bs := List UInt8
/-- An expression. -/
inductive Ex where
  | mk (kind num : Int) (name op : Bs) (args : List Ex)
/-- A statement. -/
inductive St where
  | mk (kind : Int) (name key val : Bs) (exprs : List Ex) (body els : List St)
structure Pg where
  maps : List Bs
  stmts : List St
/-- A token: 0 the end, 1 an odd one, 2 a name, 3 a number, 4 a word or a mark. -/
structure Tk where
  kind : Nat
  text : Bs
  line : Nat
abbrev kMap : Bs := [109, 97, 112]
abbrev kDelete : Bs := [100, 101, 108, 101, 116, 101]
abbrev kClear : Bs := [99, 108, 101, 97, 114]
abbrev kPrint : Bs := [112, 114, 105, 110, 116]
abbrev kIf : Bs := [105, 102]
abbrev kElse : Bs := [101, 108, 115, 101]
abbrev kWhile : Bs := [119, 104, 105, 108, 101]
abbrev kFor : Bs := [102, 111, 114]
abbrev kIn : Bs := [105, 110]
abbrev kBreak : Bs := [98, 114, 101, 97, 107]
abbrev kContinue : Bs := [99, 111, 110, 116, 105, 110, 117, 101]
abbrev kHas : Bs := [104, 97, 115]
abbrev kLen : Bs := [108, 101, 110]
abbrev kSemi : Bs := [59]
abbrev kComma : Bs := [44]
abbrev kEq : Bs := [61]
abbrev kLb : Bs := [91]
abbrev kLp : Bs := [40]
abbrev kRb : Bs := [93]
abbrev kRp : Bs := [41]
abbrev kLc : Bs := [123]
abbrev kRc : Bs := [125]
def wordsL : List Bs := [[109, 97, 112], [100, 101, 108, 101, 116, 101], [99, 108, 101, 97, 114], [112, 114, 105, 110, 116], [105, 102], [101, 108, 115, 101], [119, 104, 105, 108, 101], [102, 111, 114], [105, 110], [98, 114, 101, 97, 107], [99, 111, 110, 116, 105, 110, 117, 101], [104, 97, 115], [108, 101, 110]]
def marksL : List Bs := [[124, 124], [38, 38], [61, 61], [33, 61], [60, 61], [62, 61], [59], [44], [61], [91], [93], [40], [41], [123], [125], [60], [62], [43], [45], [42], [47], [37], [33]]
def opsL : List (Bs × Nat) := [([124, 124], 1), ([38, 38], 2), ([61, 61], 3), ([33, 61], 3), ([60], 3), ([60, 61], 3), ([62], 3), ([62, 61], 3), ([43], 4), ([45], 4), ([42], 5), ([47], 5), ([37], 5)]
def isBl (c : UInt8) : Bool := c == 9 || c == 10 || c == 13 || c == 32
def isDg (c : UInt8) : Bool := decide (48 ≤ c.toNat ∧ c.toNat ≤ 57)
def isLt (c : UInt8) : Bool := decide ((97 ≤ c.toNat ∧ c.toNat ≤ 122) ∨ (65 ≤ c.toNat ∧ c.toNat ≤ 90) ∨ c.toNat = 95)
def isNm (c : UInt8) : Bool := isLt c || isDg c
def isWd (s : Bs) : Bool := wordsL.any (· == s)
/-- The rule of a binary operator; 0: it is none. -/
def ruleL : List (Bs × Nat) → Bs → Nat
  | [], _ => 0
  | x :: r, s => if x.1 == s then x.2 else ruleL r s
def ruleN (s : Bs) : Nat := ruleL opsL s
/-- How long the mark is with which the text begins. -/
def markL : List Bs → Bs → Nat
  | [], _ => 0
  | x :: r, s => if x.isPrefixOf s then x.length else markL r s
def markN (s : Bs) : Nat := markL marksL s
/-- Blanks and remarks are passed by; r: within a remark. -/
def skipD : Bs → Nat → Bool → Bs × Nat
  | [], l, _ => ([], l)
  | c :: t, l, true => if c == 10 then skipD t (l + 1) false else skipD t l true
  | c :: t, l, false =>
    if isBl c then skipD t (if c == 10 then l + 1 else l) false
    else if c == 47 && t.head? == some 47 then skipD t l true
    else (c :: t, l)
/-- The kind and the size of the token with which the text begins. -/
def firstD (s : Bs) : Nat × Nat :=
  match s with
  | [] => (1, 1)
  | c :: _ =>
    if isDg c then (3, (s.takeWhile isDg).length)
    else if isLt c then (if isWd (s.takeWhile isNm) then 4 else 2, (s.takeWhile isNm).length)
    else if 0 < markN s then (4, markN s) else (1, 1)
/-- A text's tokens from here on. -/
def toksD : Nat → Bs → Nat → Nat → List Tk
  | 0, _, l, _ => [⟨0, [], l⟩]
  | n + 1, s, l, k =>
    match skipD s l false with
    | ([], l') => [⟨0, [], l'⟩]
    | (c :: t, l') =>
      if 8192 < k + 1 then [⟨1, [], l'⟩]
      else ⟨(firstD (c :: t)).1, (c :: t).take (firstD (c :: t)).2, l'⟩ :: toksD n ((c :: t).drop (firstD (c :: t)).2) l' (k + 1)
/-- What a part of the reader answers: a result and the tokens left; a fault; or there was no more fuel. -/
inductive Rs (α : Type) where
  | ok (a : α) (ts : List Tk)
  | no (line e : Nat)
  | out
def Rs.bind {α β : Type} : Rs α → (α → List Tk → Rs β) → Rs β
  | .ok a ts, f => f a ts
  | .no l e, _ => .no l e
  | .out, _ => .out
def hd : List Tk → Tk
  | t :: _ => t
  | [] => ⟨0, [], 0⟩
def isF (f : Bs) (ts : List Tk) : Bool := (hd ts).kind == 4 && (hd ts).text == f
def mustD (f : Bs) (ts : List Tk) : Rs Unit := if isF f ts then .ok () ts.tail else .no (hd ts).line 230
def nameD (ts : List Tk) : Rs Bs := if (hd ts).kind == 2 then .ok (hd ts).text ts.tail else .no (hd ts).line 230
/-- The value of digits. -/
def valD (s : Bs) : Nat := s.foldl (fun n c => 10 * n + (c.toNat - 48)) 0
def numberD (ts : List Tk) : Rs Int := if valD (hd ts).text ≤ 9223372036854775807 then .ok (valD (hd ts).text : Int) ts.tail else .no (hd ts).line 161
def exNum (n : Int) : Ex := .mk 1 n [] [] []
def exName (s : Bs) : Ex := .mk 2 0 s [] []
def exIndex (s : Bs) (k : Ex) : Ex := .mk 3 0 s [] [k]
def exHas (s : Bs) (k : Ex) : Ex := .mk 4 0 s [] [k]
def exLen (s : Bs) : Ex := .mk 5 0 s [] []
def exUn (o : Bs) (x : Ex) : Ex := .mk 6 0 [] o [x]
def exBin (o : Bs) (x y : Ex) : Ex := .mk 7 0 [] o [x, y]
mutual
def joinedD : Nat → Nat → List Tk → Rs Ex
  | 0, _, _ => .out
  | n + 1, r, ts => if r = 6 then unaryD n ts else (joinedD n (r + 1) ts).bind fun x ts => loopD n r x ts
def loopD : Nat → Nat → Ex → List Tk → Rs Ex
  | 0, _, _, _ => .out
  | n + 1, r, x, ts =>
    if (hd ts).kind == 4 && ruleN (hd ts).text == r then
      (joinedD n (r + 1) ts.tail).bind fun y ts2 => if r = 3 then .ok (exBin (hd ts).text x y) ts2 else loopD n r (exBin (hd ts).text x y) ts2
    else .ok x ts
def unaryD : Nat → List Tk → Rs Ex
  | 0, _ => .out
  | n + 1, ts =>
    if (hd ts).kind == 4 && ((hd ts).text == [45] || (hd ts).text == [33]) then (unaryD n ts.tail).bind fun x ts2 => .ok (exUn (hd ts).text x) ts2
    else primD n ts
def primD : Nat → List Tk → Rs Ex
  | 0, _ => .out
  | n + 1, ts =>
    if (hd ts).kind == 3 then (numberD ts).bind fun v ts2 => .ok (exNum v) ts2
    else if isF kHas ts then (nameD ts.tail).bind fun s ts2 => (keyD n ts2).bind fun x ts3 => .ok (exHas s x) ts3
    else if isF kLen ts then (nameD ts.tail).bind fun s ts2 => .ok (exLen s) ts2
    else if isF kLp ts then (joinedD n 1 ts.tail).bind fun x ts2 => (mustD kRp ts2).bind fun _ ts3 => .ok x ts3
    else (nameD ts).bind fun s ts2 => if isF kLb ts2 then (keyD n ts2).bind fun x ts3 => .ok (exIndex s x) ts3 else .ok (exName s) ts2
def keyD : Nat → List Tk → Rs Ex
  | 0, _ => .out
  | n + 1, ts => (mustD kLb ts).bind fun _ ts2 => (joinedD n 1 ts2).bind fun x ts3 => (mustD kRb ts3).bind fun _ ts4 => .ok x ts4
end
/-- The expressions behind a comma, again and again. -/
def commaD : Nat → List Ex → List Tk → Rs (List Ex)
  | 0, _, _ => .out
  | n + 1, acc, ts => if isF kComma ts then (joinedD n 1 ts.tail).bind fun x ts2 => commaD n (acc ++ [x]) ts2 else .ok acc ts
def printedD (n : Nat) (ts : List Tk) : Rs (List Ex) := if isF kSemi ts then .ok [] ts else (joinedD n 1 ts).bind fun x ts2 => commaD n [x] ts2
def assignD (n : Nat) (ts : List Tk) : Rs St :=
  (nameD ts).bind fun s ts2 =>
    if isF kLb ts2 then (keyD n ts2).bind fun k ts3 => (mustD kEq ts3).bind fun _ ts4 => (joinedD n 1 ts4).bind fun x ts5 => .ok (.mk 2 s [] [] [k, x] [] []) ts5
    else (mustD kEq ts2).bind fun _ ts4 => (joinedD n 1 ts4).bind fun x ts5 => .ok (.mk 1 s [] [] [x] [] []) ts5
def plainD (n : Nat) (ts : List Tk) : Rs St :=
  if isF kDelete ts then (nameD ts.tail).bind fun s ts2 => (keyD n ts2).bind fun k ts3 => .ok (.mk 3 s [] [] [k] [] []) ts3
  else if isF kClear ts then (nameD ts.tail).bind fun s ts2 => .ok (.mk 4 s [] [] [] [] []) ts2
  else if isF kPrint ts then (printedD n ts.tail).bind fun l ts2 => .ok (.mk 5 [] [] [] l [] []) ts2
  else if isF kBreak ts then .ok (.mk 9 [] [] [] [] [] []) ts.tail
  else if isF kContinue ts then .ok (.mk 10 [] [] [] [] [] []) ts.tail
  else assignD n ts
mutual
def stmtD : Nat → List Tk → Rs St
  | 0, _ => .out
  | n + 1, ts =>
    if isF kIf ts then ifD n ts
    else if isF kWhile ts then (joinedD n 1 ts.tail).bind fun x ts2 => (blockD n ts2).bind fun b ts3 => .ok (.mk 7 [] [] [] [x] b []) ts3
    else if isF kFor ts then
      (nameD ts.tail).bind fun k ts2 => (mustD kComma ts2).bind fun _ ts3 => (nameD ts3).bind fun v ts4 => (mustD kIn ts4).bind fun _ ts5 => (nameD ts5).bind fun m ts6 =>
        (blockD n ts6).bind fun b ts7 => .ok (.mk 8 m k v [] b []) ts7
    else (plainD n ts).bind fun s ts2 => (mustD kSemi ts2).bind fun _ ts3 => .ok s ts3
def ifD : Nat → List Tk → Rs St
  | 0, _ => .out
  | n + 1, ts =>
    (mustD kIf ts).bind fun _ ts1 => (joinedD n 1 ts1).bind fun x ts2 => (blockD n ts2).bind fun b ts3 =>
      if isF kElse ts3 then
        (if isF kIf ts3.tail then (ifD n ts3.tail).bind fun s ts4 => .ok (.mk 6 [] [] [] [x] b [s]) ts4
        else (blockD n ts3.tail).bind fun e ts4 => .ok (.mk 6 [] [] [] [x] b e) ts4)
      else .ok (.mk 6 [] [] [] [x] b []) ts3
def blockD : Nat → List Tk → Rs (List St)
  | 0, _ => .out
  | n + 1, ts => (mustD kLc ts).bind fun _ ts2 => manyD n [] ts2
def manyD : Nat → List St → List Tk → Rs (List St)
  | 0, _, _ => .out
  | n + 1, acc, ts => if isF kRc ts then .ok acc ts.tail else (stmtD n ts).bind fun s ts2 => manyD n (acc ++ [s]) ts2
end
def mapsD : Nat → List Bs → List Tk → Rs (List Bs)
  | 0, _, _ => .out
  | n + 1, acc, ts => if isF kMap ts then (nameD ts.tail).bind fun s ts2 => (mustD kSemi ts2).bind fun _ ts3 => mapsD n (acc ++ [s]) ts3 else .ok acc ts
def allD : Nat → List St → List Tk → Rs (List St)
  | 0, _, _ => .out
  | n + 1, acc, ts => if (hd ts).kind == 0 then .ok acc ts else (stmtD n ts).bind fun s ts2 => allD n (acc ++ [s]) ts2
def programD (n : Nat) (ts : List Tk) : Rs Pg := (mapsD n [] ts).bind fun m ts2 => (allD n [] ts2).bind fun l ts3 => .ok ⟨m, l⟩ ts3
def tokens (s : Bs) : List Tk := toksD (s.length + 1) s 1 0
/-- What Parse answers: the program, the line, the error. -/
def parseN (n : Nat) (s : Bs) : Option (Pg × Nat × Nat) :=
  if 1048576 < s.length then some (⟨[], []⟩, 0, 230)
  else match programD n (tokens s) with
    | .ok p _ => some (p, 0, 0)
    | .no l e => some (⟨[], []⟩, l, e)
    | .out => none
end Lg
end Go.Proofs.YtlpfnikhnchpdaaDoor
/-
  lang: the reading ends, however long the text; how much fuel it wants does not matter.
-/
namespace Go.Proofs.YtlpfnikhnchpdaaDoor
namespace Lg
/-- A result; what is left is shorter than k. -/
def Fin {α : Type} (r : Rs α) (k : Nat) : Prop := match r with
  | .ok _ ts => ts.length < k
  | .no _ _ => True
  | .out => False
theorem Fin.bind {α β : Type} {r : Rs α} {f : α → List Tk → Rs β} {k j : Nat} (h : Fin r k) (hf : ∀ a ts, ts.length < k → Fin (f a ts) j) : Fin (r.bind f) j := by
  cases r with
  | ok a ts => exact hf a ts h
  | no l e => trivial
  | out => exact h.elim
theorem Fin.less {α : Type} {r : Rs α} {k j : Nat} (h : Fin r k) (hk : k ≤ j) : Fin r j := by
  cases r with
  | ok a ts => exact Nat.lt_of_lt_of_le h hk
  | no l e => trivial
  | out => exact h.elim
theorem tail_lt {ts : List Tk} (h : (hd ts).kind ≠ 0) : ts.tail.length < ts.length := by
  cases ts with
  | nil => exact absurd rfl h
  | cons t r => simp
theorem isF_kind {f : Bs} {ts : List Tk} (h : isF f ts = true) : (hd ts).kind = 4 := by
  unfold isF at h
  simp only [Bool.and_eq_true, beq_iff_eq] at h
  exact h.1
theorem isF_lt {f : Bs} {ts : List Tk} (h : isF f ts = true) : ts.tail.length < ts.length := tail_lt (by rw [isF_kind h]; decide)
theorem must_fin (f : Bs) (ts : List Tk) : Fin (mustD f ts) ts.length := by
  unfold mustD
  by_cases h : isF f ts = true
  · rw [if_pos h]
    exact isF_lt h
  · rw [if_neg h]
    trivial
theorem name_fin (ts : List Tk) : Fin (nameD ts) ts.length := by
  unfold nameD
  by_cases h : ((hd ts).kind == 2) = true
  · rw [if_pos h]
    exact tail_lt (by rw [beq_iff_eq.1 h]; decide)
  · rw [if_neg h]
    trivial
theorem number_fin {ts : List Tk} (hk : (hd ts).kind = 3) : Fin (numberD ts) ts.length := by
  unfold numberD
  split
  · exact tail_lt (by rw [hk]; decide)
  · trivial
structure ExFin (n : Nat) : Prop where
  joined : ∀ r ts, 1 ≤ r → r ≤ 6 → 16 * ts.length + 2 * (7 - r) + 1 ≤ n → Fin (joinedD n r ts) ts.length
  loop : ∀ r x ts, 1 ≤ r → r ≤ 5 → 16 * ts.length + 1 ≤ n → Fin (loopD n r x ts) (ts.length + 1)
  unary : ∀ ts, 16 * ts.length + 2 ≤ n → Fin (unaryD n ts) ts.length
  prim : ∀ ts, 16 * ts.length + 1 ≤ n → Fin (primD n ts) ts.length
  key : ∀ ts, 16 * ts.length + 1 ≤ n → Fin (keyD n ts) ts.length
theorem ex_fin : ∀ n, ExFin n
  | 0 => ⟨fun _ _ _ _ h => by omega, fun _ _ _ _ _ h => by omega, fun _ h => by omega, fun _ h => by omega, fun _ h => by omega⟩
  | n + 1 => by
    have ih := ex_fin n
    refine ⟨fun r ts h1 h6 hn => ?_, fun r x ts h1 h6 hn => ?_, fun ts hn => ?_, fun ts hn => ?_, fun ts hn => ?_⟩
    · unfold joinedD
      by_cases h : r = 6
      · rw [if_pos h]
        exact ih.unary ts (by omega)
      · rw [if_neg h]
        exact (ih.joined (r + 1) ts (by omega) (by omega) (by omega)).bind fun a t2 h2 => (ih.loop r a t2 h1 (by omega) (by omega)).less (by omega)
    · unfold loopD
      by_cases h : ((hd ts).kind == 4 && ruleN (hd ts).text == r) = true
      · rw [if_pos h]
        simp only [Bool.and_eq_true, beq_iff_eq] at h
        have ht := tail_lt (ts := ts) (by rw [h.1]; decide)
        refine (ih.joined (r + 1) ts.tail (by omega) (by omega) (by omega)).bind fun a t2 h2 => ?_
        by_cases h3 : r = 3
        · rw [if_pos h3]
          show t2.length < _
          omega
        · rw [if_neg h3]
          exact (ih.loop r _ t2 h1 h6 (by omega)).less (by omega)
      · rw [if_neg h]
        show ts.length < _
        omega
    · unfold unaryD
      split
      · rename_i h
        simp only [Bool.and_eq_true, beq_iff_eq] at h
        have ht := tail_lt (ts := ts) (by rw [h.1]; decide)
        refine (ih.unary ts.tail (by omega)).bind fun a t2 h2 => ?_
        show t2.length < _
        omega
      · exact ih.prim ts (by omega)
    · unfold primD
      split
      · rename_i h
        refine (number_fin (beq_iff_eq.1 h)).bind fun a t2 h2 => ?_
        exact h2
      · split
        · rename_i h
          have ht := isF_lt h
          refine (name_fin ts.tail).bind fun a t2 h2 => (ih.key t2 (by omega)).bind fun x t3 h3 => ?_
          show t3.length < _
          omega
        · split
          · rename_i h
            have ht := isF_lt h
            refine (name_fin ts.tail).bind fun a t2 h2 => ?_
            show t2.length < _
            omega
          · split
            · rename_i h
              have ht := isF_lt h
              refine (ih.joined 1 ts.tail (by omega) (by omega) (by omega)).bind fun a t2 h2 => (must_fin kRp t2).bind fun x t3 h3 => ?_
              show t3.length < _
              omega
            · refine (name_fin ts).bind fun a t2 h2 => ?_
              split
              · refine (ih.key t2 (by omega)).bind fun x t3 h3 => ?_
                show t3.length < _
                omega
              · exact h2
    · unfold keyD
      refine (must_fin kLb ts).bind fun a t2 h2 => (ih.joined 1 t2 (by omega) (by omega) (by omega)).bind fun x t3 h3 => (must_fin kRb t3).bind fun y t4 h4 => ?_
      show t4.length < _
      omega
theorem comma_fin : ∀ n acc ts, 16 * ts.length + 1 ≤ n → Fin (commaD n acc ts) (ts.length + 1)
  | 0, _, _, h => by omega
  | n + 1, acc, ts, hn => by
    unfold commaD
    split
    · rename_i h
      have ht := isF_lt h
      exact ((ex_fin n).joined 1 ts.tail (by omega) (by omega) (by omega)).bind fun a t2 h2 => (comma_fin n _ t2 (by omega)).less (by omega)
    · show ts.length < _
      omega
theorem expr_fin {n : Nat} {ts : List Tk} (h : 16 * ts.length + 13 ≤ n) : Fin (joinedD n 1 ts) ts.length := (ex_fin n).joined 1 ts (by omega) (by omega) (by omega)
theorem printed_fin {n : Nat} {ts : List Tk} (h : 16 * ts.length + 13 ≤ n) : Fin (printedD n ts) (ts.length + 1) := by
  unfold printedD
  split
  · show ts.length < _
    omega
  · exact (expr_fin h).bind fun a t2 h2 => (comma_fin n _ t2 (by omega)).less (by omega)
theorem assign_fin {n : Nat} {ts : List Tk} (h : 16 * ts.length + 13 ≤ n) : Fin (assignD n ts) ts.length := by
  unfold assignD
  refine (name_fin ts).bind fun a t2 h2 => ?_
  split
  · refine ((ex_fin n).key t2 (by omega)).bind fun k t3 h3 => (must_fin kEq t3).bind fun _ t4 h4 => (expr_fin (by omega)).bind fun x t5 h5 => ?_
    show t5.length < _
    omega
  · refine (must_fin kEq t2).bind fun _ t4 h4 => (expr_fin (by omega)).bind fun x t5 h5 => ?_
    show t5.length < _
    omega
theorem plain_fin {n : Nat} {ts : List Tk} (h : 16 * ts.length + 13 ≤ n) : Fin (plainD n ts) ts.length := by
  unfold plainD
  split
  · rename_i h1
    have ht := isF_lt h1
    refine (name_fin ts.tail).bind fun a t2 h2 => ((ex_fin n).key t2 (by omega)).bind fun k t3 h3 => ?_
    show t3.length < _
    omega
  split
  · rename_i h1
    have ht := isF_lt h1
    refine (name_fin ts.tail).bind fun a t2 h2 => ?_
    show t2.length < _
    omega
  split
  · rename_i h1
    have ht := isF_lt h1
    refine (printed_fin (ts := ts.tail) (by omega)).bind fun a t2 h2 => ?_
    show t2.length < _
    omega
  split
  · rename_i h1
    exact isF_lt h1
  split
  · rename_i h1
    exact isF_lt h1
  · exact assign_fin h
structure StFin (n : Nat) : Prop where
  stmt : ∀ ts, 16 * ts.length + 20 ≤ n → Fin (stmtD n ts) ts.length
  cond : ∀ ts, 16 * ts.length + 19 ≤ n → Fin (ifD n ts) ts.length
  block : ∀ ts, 16 * ts.length + 22 ≤ n → Fin (blockD n ts) ts.length
  many : ∀ acc ts, 16 * ts.length + 21 ≤ n → Fin (manyD n acc ts) ts.length
theorem st_fin : ∀ n, StFin n
  | 0 => ⟨fun _ h => by omega, fun _ h => by omega, fun _ h => by omega, fun _ _ h => by omega⟩
  | n + 1 => by
    have ih := st_fin n
    refine ⟨fun ts hn => ?_, fun ts hn => ?_, fun ts hn => ?_, fun acc ts hn => ?_⟩
    · unfold stmtD
      split
      · exact ih.cond ts (by omega)
      split
      · rename_i h
        have ht := isF_lt h
        refine (expr_fin (ts := ts.tail) (by omega)).bind fun x t2 h2 => (ih.block t2 (by omega)).bind fun b t3 h3 => ?_
        show t3.length < _
        omega
      split
      · rename_i h
        have ht := isF_lt h
        refine (name_fin ts.tail).bind fun k t2 h2 => (must_fin kComma t2).bind fun _ t3 h3 => (name_fin t3).bind fun v t4 h4 => (must_fin kIn t4).bind fun _ t5 h5 => (name_fin t5).bind fun m t6 h6 => (ih.block t6 (by omega)).bind fun b t7 h7 => ?_
        show t7.length < _
        omega
      · refine (plain_fin (by omega)).bind fun s t2 h2 => (must_fin kSemi t2).bind fun _ t3 h3 => ?_
        show t3.length < _
        omega
    · unfold ifD
      refine (must_fin kIf ts).bind fun _ t1 h1 => (expr_fin (by omega)).bind fun x t2 h2 => (ih.block t2 (by omega)).bind fun b t3 h3 => ?_
      split
      · rename_i h
        have ht := isF_lt h
        split
        · refine (ih.cond t3.tail (by omega)).bind fun s t4 h4 => ?_
          show t4.length < _
          omega
        · refine (ih.block t3.tail (by omega)).bind fun s t4 h4 => ?_
          show t4.length < _
          omega
      · show t3.length < _
        omega
    · unfold blockD
      exact (must_fin kLc ts).bind fun _ t2 h2 => (ih.many [] t2 (by omega)).less (by omega)
    · unfold manyD
      split
      · rename_i h
        exact isF_lt h
      · exact (ih.stmt ts (by omega)).bind fun s t2 h2 => (ih.many _ t2 (by omega)).less (by omega)
theorem maps_fin : ∀ n acc ts, ts.length + 1 ≤ n → Fin (mapsD n acc ts) (ts.length + 1)
  | 0, _, _, h => by omega
  | n + 1, acc, ts, hn => by
    unfold mapsD
    split
    · rename_i h
      have ht := isF_lt h
      exact (name_fin ts.tail).bind fun s t2 h2 => (must_fin kSemi t2).bind fun _ t3 h3 => (maps_fin n _ t3 (by omega)).less (by omega)
    · show ts.length < _
      omega
theorem all_fin : ∀ n acc ts, 16 * ts.length + 21 ≤ n → Fin (allD n acc ts) (ts.length + 1)
  | 0, _, _, h => by omega
  | n + 1, acc, ts, hn => by
    unfold allD
    split
    · show ts.length < _
      omega
    · exact ((st_fin n).stmt ts (by omega)).bind fun s t2 h2 => (all_fin n _ t2 (by omega)).less (by omega)
theorem program_fin {n : Nat} {ts : List Tk} (h : 16 * ts.length + 21 ≤ n) : Fin (programD n ts) (ts.length + 1) :=
  (maps_fin n [] ts (by omega)).bind fun m t2 h2 => (all_fin n [] t2 (by omega)).bind fun l t3 h3 => by
    show t3.length < _
    omega
/-- What Parse answers to any text. -/
def parseD (s : Bs) : Pg × Nat × Nat := (parseN (16 * (tokens s).length + 21) s).getD (⟨[], []⟩, 0, 0)
theorem parseN_some (s : Bs) : parseN (16 * (tokens s).length + 21) s = some (parseD s) := by
  unfold parseD
  cases h : parseN (16 * (tokens s).length + 21) s with
  | some x => rfl
  | none =>
    exfalso
    have hf := program_fin (ts := tokens s) (Nat.le_refl _)
    unfold parseN at h
    split at h
    · cases h
    · revert h
      cases e : programD (16 * (tokens s).length + 21) (tokens s) with
      | ok p ts => intro h; cases h
      | no l e => intro h; cases h
      | out => rw [e] at hf; exact hf.elim
end Lg
end Go.Proofs.YtlpfnikhnchpdaaDoor
/-
  Plain laws for a bounds-checked memory: a struct of one slice of bytes behind a pointer; worlds that keep all blocks but some. Nothing here names the program.
-/
namespace Go.Proofs.YtlpfnikhnchpdaaDoor
open Go.RowKit

/-- The cell of a byte. -/
def cellOf (x : UInt8) : Value := .int .u8 (x.toNat : Int)
def cellsOf (bs : List UInt8) : List Value := bs.map cellOf
def rowOf (bs : List UInt8) : Array Value := (cellsOf bs).toArray
def zeros (n : Nat) : List UInt8 := List.replicate n 0

theorem cellsOf_length (bs : List UInt8) : (cellsOf bs).length = bs.length := by simp [cellsOf]
theorem rowOf_size (bs : List UInt8) : (rowOf bs).size = bs.length := by simp [rowOf, cellsOf]
theorem rowOf_toList (bs : List UInt8) : (rowOf bs).toList = cellsOf bs := by simp [rowOf]
theorem zeros_length (n : Nat) : (zeros n).length = n := by simp [zeros]
theorem cellsOf_append (a b : List UInt8) : cellsOf (a ++ b) = cellsOf a ++ cellsOf b := by simp [cellsOf]
theorem cellsOf_take (a : List UInt8) (n : Nat) : cellsOf (a.take n) = (cellsOf a).take n := by simp [cellsOf, List.map_take]
theorem cellsOf_drop (a : List UInt8) (n : Nat) : cellsOf (a.drop n) = (cellsOf a).drop n := by simp [cellsOf, List.map_drop]
theorem cellsOf_one {bs : List UInt8} : ∀ v ∈ cellsOf bs, v.oneCell' = true := by
  intro v hv
  simp only [cellsOf, List.mem_map] at hv
  obtain ⟨x, _, rfl⟩ := hv
  rfl
theorem rowOf_get (bs : List UInt8) (j : Nat) (h : j < bs.length) : (rowOf bs)[j]? = some (.int .u8 (bs[j].toNat : Int)) := by
  simp [rowOf, cellsOf, cellOf, h]

theorem addr_add (h o j : Nat) : (⟨h, o, none⟩ : Addr).add j = ⟨h, o + j, none⟩ := by unfold Addr.add; split <;> simp_all
theorem made_row (n : Nat) : madeCells (Value.int .u8 0).cells (n * 1) = rowOf (zeros n) := by
  apply Array.ext
  · simp [size_madeCells, rowOf_size, zeros_length]
  · intro i h1 h2
    simp [madeCells, Value.cells, rowOf, cellsOf, zeros, cellOf, Nat.mod_one]

/-- All blocks of w but those in S are in w' as they were; the streams stand. -/
structure Keeps (w w' : World) (S : Nat → Prop) : Prop where
  os : w'.os = w.os
  tape : w'.tape = w.tape
  output : w'.output = w.output
  size : w.heap.size ≤ w'.heap.size
  block : ∀ k, k < w.heap.size → ¬ S k → w'.heap[k]? = w.heap[k]?

theorem Keeps.refl (w : World) (S : Nat → Prop) : Keeps w w S := ⟨rfl, rfl, rfl, Nat.le_refl _, fun _ _ _ => rfl⟩
theorem Keeps.trans {w w1 w2 : World} {S S1 : Nat → Prop} (h : Keeps w w1 S) (k : Keeps w1 w2 S1) (hS : ∀ i, i < w.heap.size → S1 i → S i) : Keeps w w2 S :=
  ⟨k.os.trans h.os, k.tape.trans h.tape, k.output.trans h.output, Nat.le_trans h.size k.size,
    fun i hi hn => (k.block i (Nat.lt_of_lt_of_le hi h.size) (fun x => hn (hS i hi x))).trans (h.block i hi hn)⟩
theorem Keeps.mono {w w1 : World} {S S1 : Nat → Prop} (h : Keeps w w1 S) (hS : ∀ i, i < w.heap.size → S i → S1 i) : Keeps w w1 S1 :=
  ⟨h.os, h.tape, h.output, h.size, fun i hi hn => h.block i hi (fun x => hn (hS i hi x))⟩
theorem Keeps.drew {w w1 : World} {S : Nat → Prop} (h : Keeps w w1 S) : Keeps w w1.drew S := ⟨h.os, h.tape, h.output, h.size, h.block⟩
theorem Keeps.alloc {w w1 : World} {S : Nat → Prop} (h : Keeps w w1 S) (o : Obj) : Keeps w (w1.alloc o) S :=
  h.trans (S1 := fun _ => False) ⟨rfl, rfl, rfl, by simp, fun k hk _ => Below.heap_alloc _ _ _ hk⟩ (fun _ _ x => x.elim)
theorem heap_setRow_other (w : World) (g : Nat) (cs : Array Value) (k : Nat) (h : k ≠ g) : (w.setRow g cs).heap[k]? = w.heap[k]? := by
  simp only [World.setRow, Array.getElem?_modify]
  rw [if_neg (by omega)]
theorem setRow_size (w : World) (g : Nat) (cs : Array Value) : (w.setRow g cs).heap.size = w.heap.size := by simp [World.setRow]
theorem Keeps.setRow {w w1 : World} {S : Nat → Prop} (h : Keeps w w1 S) (g : Nat) (hg : g < w.heap.size → S g) (cs : Array Value) : Keeps w (w1.setRow g cs) S :=
  h.trans (S1 := fun k => k = g) ⟨rfl, rfl, rfl, by simp [World.setRow], fun k _ hn => heap_setRow_other _ _ _ _ hn⟩ (fun i hi e => by subst e; exact hg hi)
theorem Keeps.setCell {w w1 : World} {S : Nat → Prop} (h : Keeps w w1 S) (p : Addr) (hg : p.block < w.heap.size → S p.block) (u : Value) : Keeps w (w1.setCell p u) S :=
  h.trans (S1 := fun k => k = p.block) ⟨rfl, rfl, rfl, by simp [World.setCell], fun k _ hn => Below.heap_setCell _ _ _ _ hn⟩ (fun i hi e => by subst e; exact hg hi)
theorem Keeps.below {w w1 : World} {S : Nat → Prop} {B : Nat} (h : Keeps w w1 S) (hB : B ≤ w.heap.size) (hS : ∀ i, i < B → ¬ S i) : Below B w w1 :=
  ⟨h.os, h.tape, h.output, h.size, fun k hk => h.block k (by omega) (hS k hk)⟩

theorem heap_lt {w : World} {k : Nat} {o : Obj} (h : w.heap[k]? = some o) : k < w.heap.size := (Array.getElem?_eq_some_iff.1 h).1
theorem heap_alloc_new (w : World) (o : Obj) : (w.alloc o).heap[w.heap.size]? = some o := by
  show (w.heap.push o)[w.heap.size]? = _
  simp
theorem heap_setRow_same {w : World} {g : Nat} {old cs : Array Value} {t : TypeId} {fr : Nat × Nat} (hg : w.heap[g]? = some (.cells old t fr)) : (w.setRow g cs).heap[g]? = some (.cells cs t fr) :=
  setRow_heap w g old cs t fr hg
theorem heap_setCell_zero {w : World} {b : Nat} {u v : Value} {t : TypeId} (hb : w.heap[b]? = some (.cells #[u] t)) : (w.setCell ⟨b, 0, none⟩ v).heap[b]? = some (.cells #[v] t) := by
  have hlt := heap_lt hb
  have hv := (Array.getElem?_eq_some_iff.1 hb).2
  simp only [World.setCell, Array.getElem?_modify]
  simp [hlt, hv]

/-- A memory: block b holds the one slice, block g the bytes and the room behind them. T, E: the struct's type, the byte's. -/
structure MemAt (T E : TypeId) (w : World) (b g : Nat) (bs sp : List UInt8) : Prop where
  hb : w.heap[b]? = some (.cells #[.slice (some ⟨g, 0, none⟩) bs.length (bs.length + sp.length)] T)
  hg : w.heap[g]? = some (.cells (rowOf (bs ++ sp)) E)
  hmax : bs.length + sp.length ≤ 134217728
  hne : b ≠ g

theorem MemAt.keeps {T E : TypeId} {w w1 : World} {b g : Nat} {bs sp : List UInt8} {S : Nat → Prop} (m : MemAt T E w b g bs sp) (k : Keeps w w1 S) (h1 : ¬ S b) (h2 : ¬ S g) : MemAt T E w1 b g bs sp :=
  ⟨(k.block b (heap_lt m.hb) h1).trans m.hb, (k.block g (heap_lt m.hg) h2).trans m.hg, m.hmax, m.hne⟩
theorem MemAt.drew {T E : TypeId} {w : World} {b g : Nat} {bs sp : List UInt8} (m : MemAt T E w b g bs sp) : MemAt T E w.drew b g bs sp := ⟨m.hb, m.hg, m.hmax, m.hne⟩
theorem MemAt.cell {T E : TypeId} {w : World} {b g : Nat} {bs sp : List UInt8} (m : MemAt T E w b g bs sp) : w.cell? ⟨b, 0, none⟩ = some (.slice (some ⟨g, 0, none⟩) bs.length (bs.length + sp.length)) := by
  simp [World.cell?, m.hb]
theorem MemAt.frozen {T E : TypeId} {w : World} {b g : Nat} {bs sp : List UInt8} (m : MemAt T E w b g bs sp) : w.frozen? ⟨b, 0, none⟩ = false := by
  simp [World.frozen?, m.hb]
theorem MemAt.gcell {T E : TypeId} {w : World} {b g : Nat} {bs sp : List UInt8} (m : MemAt T E w b g bs sp) (j : Nat) (h : j < bs.length) : w.cell? ⟨g, j, none⟩ = some (.int .u8 (bs[j].toNat : Int)) := by
  have := rowOf_get (bs ++ sp) j (by simp; omega)
  simp only [World.cell?, m.hg]
  simpa [List.getElem_append_left h] using this
theorem MemAt.gfrozen {T E : TypeId} {w : World} {b g : Nat} {bs sp : List UInt8} (m : MemAt T E w b g bs sp) (j : Nat) : w.frozen? ⟨g, j, none⟩ = false := by
  simp [World.frozen?, m.hg]

/-- Does the span lie inside? -/
def insideB (s : Nat) (off n : Int) : Bool := decide (0 ≤ off ∧ 0 ≤ n ∧ n ≤ s ∧ off ≤ s - n)
theorem insideB_true {s : Nat} {off n : Int} (h : insideB s off n = true) : 0 ≤ off ∧ 0 ≤ n ∧ n ≤ s ∧ off ≤ s - n := of_decide_eq_true h
theorem insideB_false {s : Nat} {off n : Int} (h : insideB s off n = false) : ¬ (0 ≤ off ∧ 0 ≤ n ∧ n ≤ s ∧ off ≤ s - n) := of_decide_eq_false h
theorem insideB_nat {s : Nat} {off n : Int} (h : insideB s off n = true) : ∃ o k : Nat, off = o ∧ n = k ∧ o + k ≤ s := by
  have := insideB_true h
  exact ⟨off.toNat, n.toNat, by omega, by omega, by omega⟩
theorem insideB_mk {s o k : Nat} (h : o + k ≤ s) : insideB s (o : Int) (k : Int) = true := by
  unfold insideB
  exact decide_eq_true (by omega)

/-- What New leaves. -/
def NewPost (T E : TypeId) (w : World) (n : Nat) (e : Ending) (w' : World) : Prop :=
  ∃ b g, w.heap.size ≤ b ∧ w.heap.size ≤ g ∧ e = .returned (.tuple #[.pointer (some ⟨b, 0, none⟩), .int .i64 0]) ∧ MemAt T E w' b g (zeros n) [] ∧ Keeps w w' (fun _ => False)
theorem newPost_mk (T E : TypeId) (w : World) (n : Nat) (h : n ≤ 134217728) : NewPost T E w n (.returned (.tuple #[.pointer (some ⟨w.heap.size + 1, 0, none⟩), .int .i64 0]))
    ((w.alloc (.cells (rowOf (zeros n)) E)).alloc (.cells #[.slice (some ⟨w.heap.size, 0, none⟩) n n] T)) := by
  refine ⟨w.heap.size + 1, w.heap.size, by omega, by omega, rfl, ⟨?_, ?_, ?_, by omega⟩, ((Keeps.refl _ _).alloc _).alloc _⟩
  · have := heap_alloc_new (w.alloc (.cells (rowOf (zeros n)) E)) (.cells #[.slice (some ⟨w.heap.size, 0, none⟩) n n] T)
    simpa [zeros_length] using this
  · rw [Below.heap_alloc _ _ _ (by simp), heap_alloc_new, List.append_nil]
  · simpa [zeros_length] using h

section
variable {P : Program}

/-- make of n bytes. -/
theorem run_make_bytes (w : World) (t e : TypeId) (hu : P.underlying t = some (.slice e)) (hi : (P.info? e).map (fun i => (i.zero, i.size, i.bytes)) = some (some (.int .u8 0), 1, 1)) (n : Nat) (hn : n ≤ 134217728) :
    (Instr.makeSlice t (.int .i64 (n : Int)) (.int .i64 (n : Int))).run P w = .ok (.slice (some ⟨w.heap.size, 0, none⟩) n n) (w.alloc (.cells (rowOf (zeros n)) e)) := by
  obtain ⟨i, h1, h2, h3, h4⟩ := info_parts hi
  have h := run_make (P := P) w t e i (.int .u8 0) hu h1 h2 .i64 .i64 (n : Int) (n : Int) (by omega) (by omega) (by rw [h4]; omega) (by omega)
  rw [h, h3]
  simp only [Int.toNat_natCast, made_row]

/-- make of l bytes with room for n. -/
theorem run_make_room (w : World) (t e : TypeId) (hu : P.underlying t = some (.slice e)) (hi : (P.info? e).map (fun i => (i.zero, i.size, i.bytes)) = some (some (.int .u8 0), 1, 1)) (l n : Nat) (hl : l ≤ n) (hn : n ≤ 134217728) :
    (Instr.makeSlice t (.int .i64 (l : Int)) (.int .i64 (n : Int))).run P w = .ok (.slice (some ⟨w.heap.size, 0, none⟩) l n) (w.alloc (.cells (rowOf (zeros n)) e)) := by
  obtain ⟨i, h1, h2, h3, h4⟩ := info_parts hi
  have h := run_make (P := P) w t e i (.int .u8 0) hu h1 h2 .i64 .i64 (l : Int) (n : Int) (by omega) (by omega) (by rw [h4]; omega) (by omega)
  rw [h, h3]
  simp only [Int.toNat_natCast, made_row]

/-- copy of k bytes cs into the row of bytes at g, from q on. -/
theorem run_copy_bytes (w : World) (t sT ty e : TypeId) (hu : P.underlying t = some (.slice e)) (hi : (P.info? e).map (fun i => (i.zero, i.size, i.bytes)) = some (some (.int .u8 0), 1, 1))
    (g q dLen dCap : Nat) (a : Addr) (sLen sCap : Nat) (cur cs : List UInt8) (hg : w.heap[g]? = some (.cells (rowOf cur) e)) (hn : cs.length = Nat.min sLen dLen)
    (hsrc : ∀ j (h : j < cs.length), w.cell? (a.add j) = some (.int .u8 (cs[j].toNat : Int))) (hfit : q + cs.length ≤ cur.length) :
    (Builtin.copy_ #[t, sT] ty #[.slice (some ⟨g, q, none⟩) dLen dCap, .slice (some a) sLen sCap]).run P w =
      .ok (goInt cs.length) (w.setRow g (rowOf (cur.take q ++ cs ++ cur.drop (q + cs.length)))) := by
  obtain ⟨i, h1, h2, h3, h4⟩ := info_parts hi
  have h := run_copy_row (P := P) w t sT ty e g q dLen dCap a sLen sCap (rowOf cur) e (cellsOf cs) hu (by simp [h1, h3]) hg (by rw [cellsOf_length, hn])
    (fun j v hj => by
      have hj' : j < cs.length := by have := (List.getElem?_eq_some_iff.1 hj).1; rwa [cellsOf_length] at this
      rw [hsrc j hj']
      simp [cellsOf, cellOf, hj'] at hj
      rw [← hj]) (by rw [cellsOf_length, rowOf_size]; exact hfit) cellsOf_one
  rw [h, cellsOf_length]
  have e : (List.take q (rowOf cur).toList ++ cellsOf cs ++ List.drop (q + cs.length) (rowOf cur).toList).toArray = rowOf (cur.take q ++ cs ++ cur.drop (q + cs.length)) := by
    rw [rowOf_toList, ← cellsOf_take, ← cellsOf_drop, ← cellsOf_append, ← cellsOf_append, rowOf]
  rw [e]

/-- The value of row[o : o+n]. -/
def spanVal (g cap o n : Nat) : Value := .slice (some ⟨g, if cap = o then 0 else o, none⟩) n (cap - o)
theorem spanVal_eq (g cap o n : Nat) : ∃ q, (q = o ∨ (q = 0 ∧ cap = o)) ∧ spanVal g cap o n = .slice (some ⟨g, q, none⟩) n (cap - o) := by
  unfold spanVal
  by_cases h : cap = o
  · exact ⟨0, Or.inr ⟨rfl, h⟩, by simp [h]⟩
  · exact ⟨o, Or.inl rfl, by simp [h]⟩
theorem run_sizeOf_byte (w : World) (e : TypeId) (hi : (P.info? e).map (fun i => (i.zero, i.size, i.bytes)) = some (some (.int .u8 0), 1, 1)) : (Go.sizeOf e).run P w = .ok 1 w := by
  obtain ⟨i, h1, h2, h3, h4⟩ := info_parts hi
  simp [Go.sizeOf, typeInfo, h1, h3]
theorem run_slice_span (w : World) (t e : TypeId) (ht : P.underlying t = some (.slice e)) (hi : (P.info? e).map (fun i => (i.zero, i.size, i.bytes)) = some (some (.int .u8 0), 1, 1)) (g len cap o n : Nat) (hh : o + n ≤ cap) :
    (Instr.slice t (.slice (some ⟨g, 0, none⟩) len cap) (some (.int .i64 (o : Int))) (some (.int .i64 ((o : Int) + (n : Int)))) none).run P w = .ok (spanVal g cap o n) w := by
  have ht' : P.underlying t = some (.slice (P.elem t)) := by simp [Program.elem, ht]
  have he : P.elem t = e := by simp [Program.elem, ht]
  rw [run_slice_lh w t _ _ _ ht' .i64 .i64 _ _ (by omega) (by omega) (by omega), he, run_sizeOf_byte w e hi]
  have e1 : ((o : Int) + (n : Int)).toNat = o + n := by omega
  by_cases h : cap = o
  · have : n = 0 := by omega
    subst this
    simp [Result.andThen, sliced, spanVal, h]
  · by_cases h0 : o = 0
    · subst h0
      simp [Result.andThen, sliced, Addr.add, spanVal, h]
    · simp [Result.andThen, sliced, Addr.add, spanVal, h, h0, e1]

end

/-- What Read leaves where the span lies inside. -/
def ReadPost (E : TypeId) (w : World) (bs : List UInt8) (o n : Nat) (e : Ending) (w' : World) : Prop :=
  ∃ h, w.heap.size ≤ h ∧ e = .returned (.tuple #[.slice (some ⟨h, 0, none⟩) n n, .int .i64 0]) ∧ w'.heap[h]? = some (.cells (rowOf ((bs.drop o).take n)) E) ∧ Keeps w w' (fun _ => False)
theorem readPost_mk (E : TypeId) (w : World) (bs : List UInt8) (o n : Nat) (hn : o + n ≤ bs.length) : ReadPost E w bs o n (.returned (.tuple #[.slice (some ⟨w.heap.size, 0, none⟩) n n, .int .i64 0]))
    ((w.alloc (.cells (rowOf (zeros n)) E)).setRow w.heap.size (rowOf ((zeros n).take 0 ++ (bs.drop o).take n ++ (zeros n).drop (0 + ((bs.drop o).take n).length)))) := by
  refine ⟨w.heap.size, Nat.le_refl _, rfl, ?_, ((Keeps.refl _ _).alloc _).setRow _ (fun h => absurd h (Nat.lt_irrefl _)) _⟩
  rw [heap_setRow_same (heap_alloc_new w (.cells (rowOf (zeros n)) E))]
  have e : (zeros n).drop (0 + ((bs.drop o).take n).length) = [] := by
    apply List.drop_eq_nil_of_le
    simp [zeros_length]
    omega
  rw [e]
  simp
/-- The bytes of a span, as cells. -/
theorem MemAt.span {T E : TypeId} {w : World} {b g : Nat} {bs sp : List UInt8} (m : MemAt T E w b g bs sp) {o n q : Nat} (hn : o + n ≤ bs.length) (hq : q = o ∨ (q = 0 ∧ bs.length + sp.length = o)) :
    ∀ j (h : j < ((bs.drop o).take n).length), w.cell? ((⟨g, q, none⟩ : Addr).add j) = some (.int .u8 (((bs.drop o).take n)[j].toNat : Int)) := by
  intro j h
  have hj : j < n := by simp at h; omega
  have hq' : q = o := by
    rcases hq with hq | ⟨_, hq⟩
    · exact hq
    · omega
  subst hq'
  rw [addr_add, m.gcell (q + j) (by omega)]
  simp

theorem read_copy {P : Program} (t sT : TypeId) {T : TypeId} (E : TypeId) (hu : P.underlying t = some (.slice E)) (hi : (P.info? E).map (fun i => (i.zero, i.size, i.bytes)) = some (some (.int .u8 0), 1, 1))
    {w : World} {b g : Nat} {bs sp : List UInt8} (m : MemAt T E w b g bs sp) {o n q : Nat} (hn : o + n ≤ bs.length) (hq : q = o ∨ (q = 0 ∧ bs.length + sp.length = o)) :
    ∃ w2, (∀ ty, (Builtin.copy_ #[t, sT] ty #[.slice (some ⟨w.heap.size, 0, none⟩) n n, .slice (some ⟨g, q, none⟩) n (bs.length + sp.length - o)]).run P (w.alloc (.cells (rowOf (zeros n)) E)) = .ok (goInt n) w2) ∧
      ReadPost E w bs o n (.returned (.tuple #[.slice (some ⟨w.heap.size, 0, none⟩) n n, .int .i64 0])) w2 := by
  have m1 : MemAt T E (w.alloc (.cells (rowOf (zeros n)) E)) b g bs sp := m.keeps ((Keeps.refl _ (fun _ => False)).alloc _) id id
  have hlen : ((bs.drop o).take n).length = n := by simp; omega
  refine ⟨_, fun ty => ?_, readPost_mk E w bs o n hn⟩
  have h := run_copy_bytes (P := P) (w.alloc (.cells (rowOf (zeros n)) E)) t sT ty E hu hi w.heap.size 0 n n ⟨g, q, none⟩ n (bs.length + sp.length - o) (zeros n) ((bs.drop o).take n)
    (heap_alloc_new _ _) (by rw [hlen]; exact (Nat.min_self n).symm) (m1.span hn hq) (by rw [hlen, zeros_length]; omega)
  rw [h, hlen]
end Go.Proofs.YtlpfnikhnchpdaaDoor
/-
  lang: bytes.
-/
namespace Go.Proofs.YtlpfnikhnchpdaaDoor
namespace Lg
open Go.RowKit
set_option linter.unusedVariables false
def Hid (p : Prop) : Prop := p
theorem hide {p : Prop} (h : p) : Hid p := h
theorem Hid.out {p : Prop} (h : Hid p) : p := h
theorem u8_ne {c : UInt8} {n : Nat} (hn : n < 256) (h : c.toNat ≠ n) : (c == UInt8.ofNat n) = false := by
  rw [beq_eq_false_iff_ne]
  rintro rfl
  exact h (by simp [Nat.mod_eq_of_lt hn])
theorem u8_eq {c : UInt8} {n : Nat} (h : c.toNat = n) : c = UInt8.ofNat n := by
  rw [← h]
  simp

set_option maxRecDepth 100000 in
theorem isDigit_any (c : UInt8) (w : World) : Calls Tryd.prog 94 #[.int .u8 (c.toNat : Int)] w fun e w' => e = .returned (.bool (isDg c)) ∧ w' = w := by
  unfold isDg
  by_cases h1 : 48 ≤ c.toNat
  · by_cases h2 : c.toNat ≤ 57
    · rw [decide_eq_true ⟨h1, h2⟩]
      have g1 : (48 : Int) ≤ (c.toNat : Int) := by omega
      have g2 : (c.toNat : Int) ≤ 57 := by omega
      generalize (c.toNat : Int) = x at *
      go_enter Tryd.func94, Tryd.ntmps94
      go_wp2_with fail
      go_ret
      exact ⟨rfl, rfl⟩
    · rw [decide_eq_false (fun q => h2 q.2)]
      have g1 : (48 : Int) ≤ (c.toNat : Int) := by omega
      have g2 : ¬ (c.toNat : Int) ≤ 57 := by omega
      generalize (c.toNat : Int) = x at *
      go_enter Tryd.func94, Tryd.ntmps94
      go_wp2_with fail
      go_ret
      exact ⟨rfl, rfl⟩
  · rw [decide_eq_false (fun q => h1 q.1)]
    have g1 : ¬ (48 : Int) ≤ (c.toNat : Int) := by omega
    generalize (c.toNat : Int) = x at *
    go_enter Tryd.func94, Tryd.ntmps94
    go_wp2_with fail
    go_ret
    exact ⟨rfl, rfl⟩

set_option maxRecDepth 100000 in
theorem isLetter_any (c : UInt8) (w : World) : Calls Tryd.prog 96 #[.int .u8 (c.toNat : Int)] w fun e w' => e = .returned (.bool (isLt c)) ∧ w' = w := by
  unfold isLt
  by_cases h1 : 97 ≤ c.toNat ∧ c.toNat ≤ 122
  · rw [decide_eq_true (by omega)]
    have g0 : (97 : Int) ≤ (c.toNat : Int) := by first | omega | (rw [beq_eq_false_iff_ne]; omega) | (rw [beq_iff_eq]; omega)
    have g1 : (c.toNat : Int) ≤ 122 := by first | omega | (rw [beq_eq_false_iff_ne]; omega) | (rw [beq_iff_eq]; omega)
    generalize (c.toNat : Int) = x at *
    go_enter Tryd.func96, Tryd.ntmps96
    go_wp2_with fail
    go_ret
    exact ⟨rfl, rfl⟩
  by_cases h2 : 65 ≤ c.toNat ∧ c.toNat ≤ 90
  · rw [decide_eq_true (by omega)]
    have g0 : ¬ (97 : Int) ≤ (c.toNat : Int) := by first | omega | (rw [beq_eq_false_iff_ne]; omega) | (rw [beq_iff_eq]; omega)
    have g1 : (65 : Int) ≤ (c.toNat : Int) := by first | omega | (rw [beq_eq_false_iff_ne]; omega) | (rw [beq_iff_eq]; omega)
    have g2 : (c.toNat : Int) ≤ 90 := by first | omega | (rw [beq_eq_false_iff_ne]; omega) | (rw [beq_iff_eq]; omega)
    generalize (c.toNat : Int) = x at *
    go_enter Tryd.func96, Tryd.ntmps96
    go_wp2_with fail
    go_ret
    exact ⟨rfl, rfl⟩
  by_cases h3 : c.toNat = 95
  · rw [decide_eq_true (by omega)]
    have g0 : ¬ (97 : Int) ≤ (c.toNat : Int) := by first | omega | (rw [beq_eq_false_iff_ne]; omega) | (rw [beq_iff_eq]; omega)
    have g1 : (65 : Int) ≤ (c.toNat : Int) := by first | omega | (rw [beq_eq_false_iff_ne]; omega) | (rw [beq_iff_eq]; omega)
    have g2 : ¬ (c.toNat : Int) ≤ 90 := by first | omega | (rw [beq_eq_false_iff_ne]; omega) | (rw [beq_iff_eq]; omega)
    have g3 : ((c.toNat : Int) == 95) = true := by first | omega | (rw [beq_eq_false_iff_ne]; omega) | (rw [beq_iff_eq]; omega)
    generalize (c.toNat : Int) = x at *
    go_enter Tryd.func96, Tryd.ntmps96
    go_wp2_with fail
    go_ret
    exact ⟨rfl, rfl⟩
  by_cases h4 : 97 ≤ c.toNat
  · rw [decide_eq_false (by omega)]
    have g0 : (97 : Int) ≤ (c.toNat : Int) := by first | omega | (rw [beq_eq_false_iff_ne]; omega) | (rw [beq_iff_eq]; omega)
    have g1 : ¬ (c.toNat : Int) ≤ 122 := by first | omega | (rw [beq_eq_false_iff_ne]; omega) | (rw [beq_iff_eq]; omega)
    have g2 : (65 : Int) ≤ (c.toNat : Int) := by first | omega | (rw [beq_eq_false_iff_ne]; omega) | (rw [beq_iff_eq]; omega)
    have g3 : ¬ (c.toNat : Int) ≤ 90 := by first | omega | (rw [beq_eq_false_iff_ne]; omega) | (rw [beq_iff_eq]; omega)
    have g4 : ((c.toNat : Int) == 95) = false := by first | omega | (rw [beq_eq_false_iff_ne]; omega) | (rw [beq_iff_eq]; omega)
    generalize (c.toNat : Int) = x at *
    go_enter Tryd.func96, Tryd.ntmps96
    go_wp2_with fail
    go_ret
    exact ⟨rfl, rfl⟩
  by_cases h5 : 65 ≤ c.toNat
  · rw [decide_eq_false (by omega)]
    have g0 : ¬ (97 : Int) ≤ (c.toNat : Int) := by first | omega | (rw [beq_eq_false_iff_ne]; omega) | (rw [beq_iff_eq]; omega)
    have g1 : (65 : Int) ≤ (c.toNat : Int) := by first | omega | (rw [beq_eq_false_iff_ne]; omega) | (rw [beq_iff_eq]; omega)
    have g2 : ¬ (c.toNat : Int) ≤ 90 := by first | omega | (rw [beq_eq_false_iff_ne]; omega) | (rw [beq_iff_eq]; omega)
    have g3 : ((c.toNat : Int) == 95) = false := by first | omega | (rw [beq_eq_false_iff_ne]; omega) | (rw [beq_iff_eq]; omega)
    generalize (c.toNat : Int) = x at *
    go_enter Tryd.func96, Tryd.ntmps96
    go_wp2_with fail
    go_ret
    exact ⟨rfl, rfl⟩
  · rw [decide_eq_false (by omega)]
    have g0 : ¬ (97 : Int) ≤ (c.toNat : Int) := by first | omega | (rw [beq_eq_false_iff_ne]; omega) | (rw [beq_iff_eq]; omega)
    have g1 : ¬ (65 : Int) ≤ (c.toNat : Int) := by first | omega | (rw [beq_eq_false_iff_ne]; omega) | (rw [beq_iff_eq]; omega)
    have g2 : ((c.toNat : Int) == 95) = false := by first | omega | (rw [beq_eq_false_iff_ne]; omega) | (rw [beq_iff_eq]; omega)
    generalize (c.toNat : Int) = x at *
    go_enter Tryd.func96, Tryd.ntmps96
    go_wp2_with fail
    go_ret
    exact ⟨rfl, rfl⟩

set_option maxRecDepth 100000 in
theorem isInName_any (c : UInt8) (w : World) : Calls Tryd.prog 97 #[.int .u8 (c.toNat : Int)] w fun e w' => e = .returned (.bool (isNm c)) ∧ w' = w := by
  have hL := fun W => isLetter_any c W
  have hD := fun W => isDigit_any c W
  unfold isNm
  generalize (c.toNat : Int) = x at *
  generalize isDg c = dg at *
  generalize isLt c = lt at *
  cases lt with
  | true =>
    go_enter Tryd.func97, Tryd.ntmps97
    go_wp2_with (first | (go_at_call 96; (with_reducible refine (hL _).mono ?_); rintro e w1 ⟨rfl, rfl⟩) | (go_at_call 94; (with_reducible refine (hD _).mono ?_); rintro e w1 ⟨rfl, rfl⟩))
    go_ret
    exact ⟨rfl, rfl⟩
  | false =>
    go_enter Tryd.func97, Tryd.ntmps97
    go_wp2_with (first | (go_at_call 96; (with_reducible refine (hL _).mono ?_); rintro e w1 ⟨rfl, rfl⟩) | (go_at_call 94; (with_reducible refine (hD _).mono ?_); rintro e w1 ⟨rfl, rfl⟩))
    go_ret
    exact ⟨rfl, rfl⟩

set_option maxRecDepth 100000 in
theorem isBlank_any (c : UInt8) (w : World) : Calls Tryd.prog 111 #[.int .u8 (c.toNat : Int)] w fun e w' => e = .returned (.bool (isBl c)) ∧ w' = w := by
  by_cases h9 : c.toNat = 9
  · obtain rfl := u8_eq h9
    go_enter Tryd.func111, Tryd.ntmps111
    go_wp2_with fail
    go_ret
    exact ⟨rfl, rfl⟩
  by_cases h10 : c.toNat = 10
  · obtain rfl := u8_eq h10
    go_enter Tryd.func111, Tryd.ntmps111
    go_wp2_with fail
    go_ret
    exact ⟨rfl, rfl⟩
  by_cases h13 : c.toNat = 13
  · obtain rfl := u8_eq h13
    go_enter Tryd.func111, Tryd.ntmps111
    go_wp2_with fail
    go_ret
    exact ⟨rfl, rfl⟩
  by_cases h32 : c.toNat = 32
  · obtain rfl := u8_eq h32
    go_enter Tryd.func111, Tryd.ntmps111
    go_wp2_with fail
    go_ret
    exact ⟨rfl, rfl⟩
  have e : isBl c = false := by
    unfold isBl
    have z9 := u8_ne (by decide) h9
    have z10 := u8_ne (by decide) h10
    have z13 := u8_ne (by decide) h13
    have z32 := u8_ne (by decide) h32
    rw [show ((c == 9) = false) from z9, show ((c == 10) = false) from z10, show ((c == 13) = false) from z13, show ((c == 32) = false) from z32]
    rfl
  rw [e]
  have g9 : ((c.toNat : Int) == 9) = false := by rw [beq_eq_false_iff_ne]; omega
  have g10 : ((c.toNat : Int) == 10) = false := by rw [beq_eq_false_iff_ne]; omega
  have g13 : ((c.toNat : Int) == 13) = false := by rw [beq_eq_false_iff_ne]; omega
  have g32 : ((c.toNat : Int) == 32) = false := by rw [beq_eq_false_iff_ne]; omega
  generalize (c.toNat : Int) = x at *
  go_enter Tryd.func111, Tryd.ntmps111
  go_wp2_with fail
  go_ret
  exact ⟨rfl, rfl⟩
end Lg
end Go.Proofs.YtlpfnikhnchpdaaDoor
/-
  lang: the tables of words, marks and operators.
-/
namespace Go.Proofs.YtlpfnikhnchpdaaDoor
namespace Lg
open Go.RowKit
set_option linter.unusedVariables false
/-- A text's bytes as a string. -/
abbrev sB (s : Bs) : ByteArray := ⟨⟨s⟩⟩
theorem run_index_one {P : Program} (w : World) (t e : TypeId) (n : Nat) (cs : Array Value) (i : Nat) (v : Value) (d : TypeDesc) (h : P.underlying t = some (.array n e)) (hu : P.underlying e = some d) (hd : (match d with | .struct _ | .array _ _ => false | _ => true) = true) (hz : (P.info? e).map (·.size) = some 1) (hi : i < n) (hv : cs[i]? = some v) :
    (Instr.index t (.agg cs) (.int .i64 (i : Int))).run P w = .ok v w := by
  have hi2 : 0 ≤ (i : Int) ∧ (i : Int) < (n : Int) := by omega
  cases hq : P.info? e with
  | none => simp [hq] at hz
  | some z =>
    have hs : z.size = 1 := by simpa [hq] using hz
    have hagg : (isAgg e).run P w = .ok false w := by
      unfold isAgg
      rw [Sem.run_bind, run_underlying hu w]
      cases d <;> simp_all
    simp only [Instr.index, asIntOf, Sem.run_bind, Sem.run_pure, Result.andThen_ok, run_underlying h, if_pos hi2, sizeOf, typeInfo]
    simp [part, Sem.run_bind, hagg, hv, hq, hs]
def WordsAt (w : World) : Prop := w.rangeAt 2 0 (wordsL.map fun s => .string (sB s))
def MarksAt (w : World) : Prop := w.rangeAt 3 0 (marksL.map fun s => .string (sB s))
def OpersAt (w : World) : Prop := w.rangeAt 4 0 (opsL.flatMap fun x => [.string (sB x.1), .int .i64 (x.2 : Int)])
structure LgAt (w : World) : Prop where
  words : WordsAt w
  marks : MarksAt w
  opers : OpersAt w
theorem range_below {w w' : World} {b o : Nat} {cs : List Value} (h : w.rangeAt b o cs) (k : Below w.heap.size w w') : w'.rangeAt b o cs := fun j v hv => by
  have := h j v hv
  have hb : b < w.heap.size := by
    refine Nat.lt_of_not_le fun hn => ?_
    rw [World.cell?, Array.getElem?_eq_none hn] at this
    cases this
  exact (k.cell (p := ⟨b, o + j, none⟩) hb).trans this
theorem LgAt.below {w w' : World} (h : LgAt w) (k : Below w.heap.size w w') : LgAt w' := ⟨range_below h.words k, range_below h.marks k, range_below h.opers k⟩
theorem sB_no {a b : Bs} (h : (a == b) = false) : ((sB a).toList == (sB b).toList) = false := by
  have : a ≠ b := by simpa using h
  simp only [ByteArray.toList_eq, beq_eq_false_iff_ne, ne_eq]
  exact this
theorem sB_yes {a b : Bs} (h : (a == b) = true) : ((sB a).toList == (sB b).toList) = true := by
  have : a = b := by simpa using h
  simp [this]

set_option maxRecDepth 100000 in
set_option maxHeartbeats 1000000 in
theorem isWord_any (s : Bs) (w : World) (hW : WordsAt w) : Calls Tryd.prog 98 #[.string (sB s)] w fun e w' => e = .returned (.bool (isWd s)) ∧ w' = w := by
  have HW := hide hW
  obtain ⟨C, hC⟩ : ∃ C : List Value, C = wordsL.map fun s => .string (sB s) := ⟨_, rfl⟩
  have hget : ∀ i (hi : i < 13), C.toArray[i]? = some (.string (sB (wordsL[i]'hi))) := fun i hi => by
    rw [hC]
    have hi2 : i < wordsL.length := hi
    rw [List.getElem?_toArray, List.getElem?_map, List.getElem?_eq_getElem hi2]
    rfl
  have hlen : (Tryd.prog.info? 150).map (·.size) = some C.length := by
    rw [hC]
    kernel_rfl
  have hix : Hid (∀ (i : Nat) (hi : i < 13), (Instr.index 150 (.agg C.toArray) (.int .i64 (i : Int))).run Tryd.prog w = .ok (.string (sB (wordsL[i]'hi))) w) := fun i hi =>
    run_index_one w 150 9 13 C.toArray i _ _ Tryd.underlying150 Tryd.underlying9 rfl (by kernel_rfl) hi (hget i hi)
  have hcells : w.rangeAt 2 0 C := by
    rw [hC]
    exact hW
  have HL := hide (And.intro hcells hlen)
  clear hW hget hcells hlen hC
  obtain ⟨R, hR⟩ : ∃ R, isWd s = R := ⟨_, rfl⟩
  rw [hR]
  have HRR := hide hR
  clear hR
  go_enter Tryd.func98, Tryd.ntmps98
  obtain ⟨hcells, hlen⟩ := HL.out
  go_wp2_with (refine wpList_load_mid rfl 150 (Operand.global 2) rfl 2 0 rfl C _ hcells Tryd.underlying150 rfl hlen ?_)
  clear hcells hlen HL
  go_loopw [6] (fun v6 wr => ∃ i : Nat, v6 = .int .i64 (i : Int) ∧ i ≤ 13 ∧ wr = w ∧ Hid (R = (wordsL.drop i).any (· == s))) (fun v6 _ => 13 - (intOf v6).toNat)
  case atStart => exact ⟨0, rfl, by omega, rfl, HRR.out.symm⟩
  case round =>
    obtain ⟨i, rfl, hi, rfl, HR⟩ := hrel
    by_cases hlt : i < 13
    · have hlt' : (i : Int) < 13 := by omega
      have hx := hix.out i hlt
      have hw1 : wrap64 ((i : Int) + 1) = (i : Int) + 1 := by unfold wrap64; omega
      have hdr : wordsL.drop i = wordsL[i]'hlt :: wordsL.drop (i + 1) := List.drop_eq_getElem_cons hlt
      have HR2 := HR.out
      rw [hdr, List.any_cons] at HR2
      have Hi := hide hlt
      generalize wordsL[i]'hlt = y at *
      clear hdr HR
      cases hb : (y == s) with
      | true =>
        have hs := sB_yes hb
        rw [hb, Bool.true_or] at HR2
        subst HR2
        clear hix hi hlt
        go_wp2_with fail
        go_ret
        exact ⟨rfl, rfl⟩
      | false =>
        have hs := sB_no hb
        rw [hb, Bool.false_or] at HR2
        have HQ := hide HR2
        clear HR2 hi hlt
        go_wp2_with fail
        go_roundw
        case rel => exact ⟨i + 1, by go_num, Hi.out, by trivial, HQ⟩
        case measure => simp [intOf]; have := Hi.out; omega
    · obtain rfl : i = 13 := by omega
      have hz : R = false := HR.out
      subst hz
      clear hix hi hlt HR
      go_wp2_with fail
      go_ret
      exact ⟨rfl, rfl⟩

end Lg
end Go.Proofs.YtlpfnikhnchpdaaDoor
namespace Go.Proofs
open Go.Shelf
def Tryd.lays137_ren : Go.Shelf.Ren := ⟨fun | 137 => 121 | 217 => 128 | 266 => 135 | n => n, fun | 9 => 9 | 5 => 5 | 3 => 3 | n => n, fun | n => n⟩
theorem Tryd.lays137 : Go.Proofs.Lays.n137 Tryd.prog Tryd.lays137_ren := {
  mixed := by kernel_rfl
  f137 := Tryd.func121.trans (congrArg some (by kernel_rfl))
  f217 := Tryd.func128.trans (congrArg some (by kernel_rfl))
  f266 := Tryd.func135.trans (congrArg some (by kernel_rfl))
  t3 := Tryd.underlying3
  a3 := Tryd.isAgg3
  z3 := Tryd.sizeOf3
  v3 := Tryd.zeroValue3
  t5 := Tryd.underlying5
  a5 := Tryd.isAgg5
  z5 := Tryd.sizeOf5
  v5 := Tryd.zeroValue5
  t9 := Tryd.underlying9
  a9 := Tryd.isAgg9
  z9 := Tryd.sizeOf9
  v9 := Tryd.zeroValue9 }
open Go.RowKit in
theorem Tryd.strings_IndexByte (s : ByteArray) (c : Int) (w : World) :
    Calls Tryd.prog 121 #[.string s, .int .u8 c] w fun e w' => e = .returned (.int .i64 (Lib.indexByte s.data.toList c.toNat.toUInt8)) ∧ w' = w := Any.strings_IndexByte Tryd.lays137 s c w
def Tryd.laysM316_ren : Go.Shelf.Ren := ⟨fun | 316 => 122 | n => n, fun | 9 => 9 | 3 => 3 | 4 => 4 | 37 => 73 | 0 => 0 | 127 => 113 | 5 => 5 | n => n, fun | n => n⟩
theorem Tryd.laysM316 : Go.Proofs.LaysM.n316 Tryd.prog Tryd.laysM316_ren := {
  mixed := by kernel_rfl
  f316 := Tryd.func122.trans (congrArg some (by kernel_rfl))
  t0 := Tryd.underlying0
  a0 := Tryd.isAgg0
  z0 := Tryd.sizeOf0
  v0 := Tryd.zeroValue0
  t3 := Tryd.underlying3
  a3 := Tryd.isAgg3
  z3 := Tryd.sizeOf3
  v3 := Tryd.zeroValue3
  t4 := Tryd.underlying4
  a4 := Tryd.isAgg4
  z4 := Tryd.sizeOf4
  v4 := Tryd.zeroValue4
  t9 := Tryd.underlying9
  a9 := Tryd.isAgg9
  z9 := Tryd.sizeOf9
  v9 := Tryd.zeroValue9
  t37 := Tryd.underlying73
  a37 := Tryd.isAgg73
  z37 := Tryd.sizeOf73
  v37 := Tryd.zeroValue73
  t127 := Tryd.underlying113
  a127 := Tryd.isAgg113
  z127 := Tryd.sizeOf113
  v127 := Tryd.zeroValue113
  t5 := Tryd.underlying5
  a5 := Tryd.isAgg5
  z5 := Tryd.sizeOf5
  v5 := Tryd.zeroValue5
  i0 := by kernel_rfl
  i3 := by kernel_rfl
  i4 := by kernel_rfl
  i5 := by kernel_rfl
  i9 := by kernel_rfl
  i37 := by kernel_rfl
  i127 := by kernel_rfl }
open Go.RowKit in
theorem Tryd.stringslite_Clone (s : ByteArray) (w : World) (hlim : s.size ≤ 281474976710656) :
    Calls Tryd.prog 122 #[.string s] w fun e w' => e = .returned (.string s) ∧ Below w.heap.size w w' := Any.stringslite_Clone Tryd.laysM316 s w hlim
def Tryd.lays99_ren : Go.Shelf.Ren := ⟨fun | 99 => 112 | 206 => 120 | n => n, fun | 9 => 9 | 4 => 4 | 3 => 3 | n => n, fun | n => n⟩
theorem Tryd.lays99 : Go.Proofs.Lays.n99 Tryd.prog Tryd.lays99_ren := {
  mixed := by kernel_rfl
  f99 := Tryd.func112.trans (congrArg some (by kernel_rfl))
  f206 := Tryd.func120.trans (congrArg some (by kernel_rfl))
  t3 := Tryd.underlying3
  a3 := Tryd.isAgg3
  z3 := Tryd.sizeOf3
  v3 := Tryd.zeroValue3
  t4 := Tryd.underlying4
  a4 := Tryd.isAgg4
  z4 := Tryd.sizeOf4
  v4 := Tryd.zeroValue4
  t9 := Tryd.underlying9
  a9 := Tryd.isAgg9
  z9 := Tryd.sizeOf9
  v9 := Tryd.zeroValue9 }
open Go.RowKit Go.Lib in
theorem Tryd.strings_HasPrefix (s p : ByteArray) (w : World) :
    Calls Tryd.prog 112 #[.string s, .string p] w fun e w' => e = .returned (.bool (Lib.hasPrefix s.data.toList p.data.toList)) ∧ w' = w := Any.strings_HasPrefix Tryd.lays99 s p w
end Go.Proofs
