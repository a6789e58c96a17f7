/-
  script: texts of bytes, numbers and answers, as data; plain laws.
-/
import Derived.Test.YtnicbillhlhmmaaDoorRows
import Derived.Test.YtnicbillhlhmmaaDoorBase6
import Derived.Outline
import Derived.Lib.ItoaNum
import Derived.Lib.Join
import Derived.Deep.AppendLies
import Derived.Laws.IdiomStrings
namespace Go.Proofs.YtnicbillhlhmmaaDoor
open Go.RowKit
set_option linter.unusedVariables false

/-- A fact that the walk does not look into. -/
def Hid (p : Prop) : Prop := p
theorem hide {p : Prop} (h : p) : Hid p := h
theorem Hid.out {p : Prop} (h : Hid p) : p := h

def strOf (x : List UInt8) : ByteArray := ⟨x.toArray⟩
theorem strOf_data (x : List UInt8) : (strOf x).data.toList = x := by simp [strOf]
theorem strOf_self (s : ByteArray) : strOf s.data.toList = s := by simp [strOf]
theorem strOf_append (x y : List UInt8) : strOf x ++ strOf y = strOf (x ++ y) := by
  apply ByteArray.ext
  simp [strOf]
theorem run_text (w : World) (a : Addr) (c n : Nat) (x : List UInt8) (hn : x.length = n) (h : ∀ j (hj : j < x.length), w.cell? (a.add j) = some (.int .u8 (x[j].toNat : Int))) :
    (convert 38 9 (.slice (some a) n c)).run Tryd.prog w = .ok (.string (strOf x)) w := by
  subst hn
  exact run_convert_bytes_back (P := Tryd.prog) w 38 9 5 a c x Tryd.underlying38 Tryd.underlying5 Tryd.underlying9 h
theorem app_run {P : Program} (w : World) {ops : Array Oper} {rest : List Oper} {o : Oper} {a : Act} {Q : Exit → Act → World → Prop}
    (hgd : o.guard = none) (s x : Operand) (t : TypeId) (hop : o.op = Op.call { callee := Callee.builtin Builtin.append, args := #[s, x], argTypes := #[t, t] }) {v u v' : Value} {w' : World} (hs : a.eval s = v) (hx : a.eval x = u)
    (hrun : ∀ ty, (Builtin.append_ #[t, t] ty #[v, u]).run P w = .ok v' w') (hK : wpList P ops Q rest (a.put o.dst v') w') : wpList P ops Q (o :: rest) a w := by
  refine wpList_plain hgd fun K hK' => ?_
  unfold Oper.wp
  simp [execOp, hop, resolve, invoke, builtin, hs, hx, hrun, Result.andThen]
  exact hK' _ _ hK

/-- One digit of sixteen. -/
def hexC (v : Nat) : UInt8 := if v < 10 then UInt8.ofNat (48 + v) else UInt8.ofNat (87 + v)
def hexD (x : UInt8) : List UInt8 := [hexC (x.toNat / 16), hexC (x.toNat % 16)]
def hexL (s : List UInt8) : List UInt8 := s.flatMap hexD
/-- Bytes as they are told. -/
def bytesD (s : ByteArray) : ByteArray := if s.data.toList = [] then ⟨#[45]⟩ else strOf (hexL s.data.toList)
theorem hexL_length (s : List UInt8) : (hexL s).length = 2 * s.length := by
  induction s with
  | nil => rfl
  | cons x r ih =>
    unfold hexL at ih ⊢
    rw [List.flatMap_cons, List.length_append, ih, List.length_cons]
    simp [hexD]
    omega
theorem hexL_take {s : List UInt8} {i : Nat} (h : i < s.length) : hexL (s.take (i + 1)) = hexL (s.take i) ++ hexD s[i] := by
  unfold hexL
  rw [List.take_succ_eq_append_getElem h, List.flatMap_append]
  simp
theorem hexC_val {v : Nat} (h : v < 16) : (hexC v).toNat = if v < 10 then 48 + v else 87 + v := by
  unfold hexC
  split <;> simp <;> omega
/-- A number as it is told. -/
def numD (n : Int) : ByteArray := strOf (Lib.itoa n)
theorem wr64 {n : Nat} (h : n ≤ 1099511627776) : wrap64 (n : Int) = (n : Int) ∧ IntKind.i64.wrap (n : Int) = (n : Int) := by
  constructor
  · unfold wrap64; omega
  · rw [IntKind.wrap_i64]; omega
theorem wr64s {n : Nat} (h : n ≤ 1099511627776) : wrap64 ((n : Int) + 1) = (n : Int) + 1 ∧ IntKind.i64.wrap ((n : Int) + 1) = (n : Int) + 1 := by
  constructor
  · unfold wrap64; omega
  · rw [IntKind.wrap_i64]; omega
end Go.Proofs.YtnicbillhlhmmaaDoor
