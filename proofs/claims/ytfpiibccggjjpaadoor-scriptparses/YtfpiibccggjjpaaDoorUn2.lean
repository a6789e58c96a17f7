import Derived.Shelf.Strings.Builder1
import Derived.Shelf.Strings.Builder2
import Derived.Shelf.Strings.OnBuilder
import Derived.Shelf.Small.Utf8
import Derived.Shelf.Small.Strs
import Derived.Shelf.Strconv.Itoa0
import Derived.Shelf.Strconv.Itoa1
import Derived.Shelf.LaysM
import Derived.Shelf.Strconv.Itoa2
import Derived.Shelf.Strconv.Itoa3
import Derived.Shelf.Strconv.ParseIntEmpty
import Derived.Shelf.Strconv.Clone
import Derived.Shelf.Strconv.SyntaxError
import Derived.Shelf.LaysC
import Derived.Shelf.Strconv.ToError
import Derived.Shelf.Strconv.Lower
import Derived.Shelf.Strconv.ParseUint10
import Derived.Shelf.Strconv.ParseUint10Empty
import Derived.Shelf.Strconv.ParseUint10Any
import Derived.Shelf.Strconv.ParseInt10
import Derived.Shelf.Strconv.RangeError
import Derived.Shelf.Strconv.ToErrorRange
import Derived.Shelf.Strconv.ParseUintEmpty
import Derived.Shelf.Strconv.ParseUint10b64
import Derived.Shelf.Strconv.ParseUint10b32
import Derived.Shelf.Strconv.ParseUint10b16
import Derived.Shelf.Strconv.ParseUint10b8
import Derived.Shelf.Strconv.ParseUint10At
import Derived.Shelf.Strconv.ParseInt10At64
import Derived.Shelf.Strconv.ParseInt10At32
import Derived.Shelf.Strconv.ParseInt10At16
import Derived.Shelf.Strconv.ParseInt10At8
import Derived.Shelf.Strconv.ParseInt10All
import Derived.Shelf.Strconv.ParseIntPublic10
import Derived.Shelf.Strconv.ErrVarParseInt
import Derived.Shelf.Strings.Search1
import Derived.Test.YtfpiibccggjjpaaDoorProg
import Derived.Lib.AppendIntMem
import Derived.Lib.LaidTab
import Derived.Laws.RangeString
import Derived.Deep.LoopGhost
import Derived.Shelf.Strings.BuilderF
import Derived.Ground.MpProg
import Derived.Shelf.Pu.ParseUintPublic10
import Derived.Shelf.Strings.Prefix
import Derived.Shelf.Strings.Runes
import Derived.Shelf.Strings.IndexAny
import Derived.Shelf.Strings.AsciiSet
import Derived.Shelf.Strings.IndexAnyAll
import Derived.Test.YtfpiibccggjjpaaDoorUn1
namespace Go.Proofs
open Go.Shelf
def Tryd.laysM171_ren : Go.Shelf.Ren := ⟨fun | 171 => 66 | 243 => 83 | 246 => 96 | 283 => 97 | 284 => 98 | 285 => 99 | 286 => 100 | 129 => 104 | 317 => 103 | 318 => 105 | 319 => 106 | 320 => 107 | 337 => 109 | 338 => 110 | n => n, fun | 3 => 3 | 9 => 9 | 2 => 2 | 4 => 4 | 171 => 147 | 0 => 0 | 53 => 31 | 37 => 54 | 5 => 5 | 173 => 150 | 212 => 156 | 51 => 157 | 20 => 20 | 213 => 158 | 46 => 123 | 232 => 164 | 233 => 165 | n => n, fun | 17 => 4 | 18 => 5 | 19 => 6 | n => n⟩
theorem Tryd.laysM171 : Go.Proofs.LaysM.n171 Tryd.prog Tryd.laysM171_ren := {
  mixed := by kernel_rfl
  f129 := Tryd.func104.trans (congrArg some (by kernel_rfl))
  f171 := Tryd.func66.trans (congrArg some (by kernel_rfl))
  f243 := Tryd.func83.trans (congrArg some (by kernel_rfl))
  f246 := Tryd.func96.trans (congrArg some (by kernel_rfl))
  f283 := Tryd.func97.trans (congrArg some (by kernel_rfl))
  f284 := Tryd.func98.trans (congrArg some (by kernel_rfl))
  f285 := Tryd.func99.trans (congrArg some (by kernel_rfl))
  f286 := Tryd.func100.trans (congrArg some (by kernel_rfl))
  f317 := Tryd.func103.trans (congrArg some (by kernel_rfl))
  f318 := Tryd.func105.trans (congrArg some (by kernel_rfl))
  f319 := Tryd.func106.trans (congrArg some (by kernel_rfl))
  f320 := Tryd.func107.trans (congrArg some (by kernel_rfl))
  f337 := Tryd.func109.trans (congrArg some (by kernel_rfl))
  f338 := Tryd.func110.trans (congrArg some (by kernel_rfl))
  t0 := Tryd.underlying0
  a0 := Tryd.isAgg0
  z0 := Tryd.sizeOf0
  v0 := Tryd.zeroValue0
  t2 := Tryd.underlying2
  a2 := Tryd.isAgg2
  z2 := Tryd.sizeOf2
  v2 := Tryd.zeroValue2
  t3 := Tryd.underlying3
  a3 := Tryd.isAgg3
  z3 := Tryd.sizeOf3
  v3 := Tryd.zeroValue3
  t4 := Tryd.underlying4
  a4 := Tryd.isAgg4
  z4 := Tryd.sizeOf4
  v4 := Tryd.zeroValue4
  t5 := Tryd.underlying5
  a5 := Tryd.isAgg5
  z5 := Tryd.sizeOf5
  v5 := Tryd.zeroValue5
  t9 := Tryd.underlying9
  a9 := Tryd.isAgg9
  z9 := Tryd.sizeOf9
  v9 := Tryd.zeroValue9
  t20 := Tryd.underlying20
  a20 := Tryd.isAgg20
  z20 := Tryd.sizeOf20
  v20 := Tryd.zeroValue20
  t37 := Tryd.underlying54
  a37 := Tryd.isAgg54
  z37 := Tryd.sizeOf54
  v37 := Tryd.zeroValue54
  t46 := Tryd.underlying123
  a46 := Tryd.isAgg123
  z46 := Tryd.sizeOf123
  v46 := Tryd.zeroValue123
  t51 := Tryd.underlying157
  a51 := Tryd.isAgg157
  z51 := Tryd.sizeOf157
  v51 := Tryd.zeroValue157
  t53 := Tryd.underlying31
  a53 := Tryd.isAgg31
  z53 := Tryd.sizeOf31
  v53 := Tryd.zeroValue31
  t171 := Tryd.underlying147
  a171 := Tryd.isAgg147
  z171 := Tryd.sizeOf147
  v171 := Tryd.zeroValue147
  t173 := Tryd.underlying150
  a173 := Tryd.isAgg150
  z173 := Tryd.sizeOf150
  v173 := Tryd.zeroValue150
  t212 := Tryd.underlying156
  a212 := Tryd.isAgg156
  z212 := Tryd.sizeOf156
  v212 := Tryd.zeroValue156
  t213 := Tryd.underlying158
  a213 := Tryd.isAgg158
  z213 := Tryd.sizeOf158
  t232 := Tryd.underlying164
  a232 := Tryd.isAgg164
  z232 := Tryd.sizeOf164
  v232 := Tryd.zeroValue164
  t233 := Tryd.underlying165
  a233 := Tryd.isAgg165
  z233 := Tryd.sizeOf165
  v233 := Tryd.zeroValue165
  g17 := by kernel_rfl
  g18 := by kernel_rfl
  g19 := by kernel_rfl
  i0 := by kernel_rfl
  i2 := by kernel_rfl
  i3 := by kernel_rfl
  i4 := by kernel_rfl
  i5 := by kernel_rfl
  i9 := by kernel_rfl
  i20 := by kernel_rfl
  i37 := by kernel_rfl
  i46 := by kernel_rfl
  i51 := by kernel_rfl
  i53 := by kernel_rfl
  i171 := by kernel_rfl
  i173 := by kernel_rfl
  i212 := by kernel_rfl
  i232 := by kernel_rfl
  i233 := by kernel_rfl
  m17 := by kernel_rfl
  m18 := by kernel_rfl
  m19 := by kernel_rfl }
open Go.RowKit Go.Sort Go.Lib in
theorem Tryd.strconv_Itoa (n : Int) (h0 : -9223372036854775808 ≤ n) (h1 : n ≤ 9223372036854775807) (w : World) (htab : Lib.TabIs Tryd.prog w "internal/strconv.uint64pow10" .u64 Lib.pow10Tab) :
    Calls Tryd.prog 66 #[.int .i64 n] w fun e w' => e = .returned (.string ⟨(Lib.itoa n).toArray⟩) ∧ ∃ k os, w' = grow (w.drewN k) os := Any.strconv_Itoa Tryd.laysM171 n h0 h1 w htab
def Tryd.lays171_ren : Go.Shelf.Ren := ⟨fun | 171 => 66 | 243 => 83 | 246 => 96 | 283 => 97 | 284 => 98 | 285 => 99 | 286 => 100 | 129 => 104 | 317 => 103 | 318 => 105 | 319 => 106 | 320 => 107 | 337 => 109 | 338 => 110 | n => n, fun | 3 => 3 | 9 => 9 | 2 => 2 | 4 => 4 | 171 => 147 | 0 => 0 | 53 => 31 | 37 => 54 | 5 => 5 | 173 => 150 | 212 => 156 | 51 => 157 | 20 => 20 | 213 => 158 | 46 => 123 | 232 => 164 | 233 => 165 | n => n, fun | 17 => 4 | 18 => 5 | 19 => 6 | n => n⟩
theorem Tryd.lays171 : Go.Proofs.Lays.n171 Tryd.prog Tryd.lays171_ren := {
  mixed := by kernel_rfl
  f129 := Tryd.func104.trans (congrArg some (by kernel_rfl))
  f171 := Tryd.func66.trans (congrArg some (by kernel_rfl))
  f243 := Tryd.func83.trans (congrArg some (by kernel_rfl))
  f246 := Tryd.func96.trans (congrArg some (by kernel_rfl))
  f283 := Tryd.func97.trans (congrArg some (by kernel_rfl))
  f284 := Tryd.func98.trans (congrArg some (by kernel_rfl))
  f285 := Tryd.func99.trans (congrArg some (by kernel_rfl))
  f286 := Tryd.func100.trans (congrArg some (by kernel_rfl))
  f317 := Tryd.func103.trans (congrArg some (by kernel_rfl))
  f318 := Tryd.func105.trans (congrArg some (by kernel_rfl))
  f319 := Tryd.func106.trans (congrArg some (by kernel_rfl))
  f320 := Tryd.func107.trans (congrArg some (by kernel_rfl))
  f337 := Tryd.func109.trans (congrArg some (by kernel_rfl))
  f338 := Tryd.func110.trans (congrArg some (by kernel_rfl))
  t0 := Tryd.underlying0
  a0 := Tryd.isAgg0
  z0 := Tryd.sizeOf0
  v0 := Tryd.zeroValue0
  t2 := Tryd.underlying2
  a2 := Tryd.isAgg2
  z2 := Tryd.sizeOf2
  v2 := Tryd.zeroValue2
  t3 := Tryd.underlying3
  a3 := Tryd.isAgg3
  z3 := Tryd.sizeOf3
  v3 := Tryd.zeroValue3
  t4 := Tryd.underlying4
  a4 := Tryd.isAgg4
  z4 := Tryd.sizeOf4
  v4 := Tryd.zeroValue4
  t5 := Tryd.underlying5
  a5 := Tryd.isAgg5
  z5 := Tryd.sizeOf5
  v5 := Tryd.zeroValue5
  t9 := Tryd.underlying9
  a9 := Tryd.isAgg9
  z9 := Tryd.sizeOf9
  v9 := Tryd.zeroValue9
  t20 := Tryd.underlying20
  a20 := Tryd.isAgg20
  z20 := Tryd.sizeOf20
  v20 := Tryd.zeroValue20
  t37 := Tryd.underlying54
  a37 := Tryd.isAgg54
  z37 := Tryd.sizeOf54
  v37 := Tryd.zeroValue54
  t46 := Tryd.underlying123
  a46 := Tryd.isAgg123
  z46 := Tryd.sizeOf123
  v46 := Tryd.zeroValue123
  t51 := Tryd.underlying157
  a51 := Tryd.isAgg157
  z51 := Tryd.sizeOf157
  v51 := Tryd.zeroValue157
  t53 := Tryd.underlying31
  a53 := Tryd.isAgg31
  z53 := Tryd.sizeOf31
  v53 := Tryd.zeroValue31
  t171 := Tryd.underlying147
  a171 := Tryd.isAgg147
  z171 := Tryd.sizeOf147
  v171 := Tryd.zeroValue147
  t173 := Tryd.underlying150
  a173 := Tryd.isAgg150
  z173 := Tryd.sizeOf150
  v173 := Tryd.zeroValue150
  t212 := Tryd.underlying156
  a212 := Tryd.isAgg156
  z212 := Tryd.sizeOf156
  v212 := Tryd.zeroValue156
  t213 := Tryd.underlying158
  a213 := Tryd.isAgg158
  z213 := Tryd.sizeOf158
  t232 := Tryd.underlying164
  a232 := Tryd.isAgg164
  z232 := Tryd.sizeOf164
  v232 := Tryd.zeroValue164
  t233 := Tryd.underlying165
  a233 := Tryd.isAgg165
  z233 := Tryd.sizeOf165
  v233 := Tryd.zeroValue165
  g17 := by kernel_rfl
  g18 := by kernel_rfl
  g19 := by kernel_rfl }
open Go.RowKit Go.Sort Go.Lib in
theorem Tryd.strconv_Itoa_small (i : Nat) (hi : i < 100) (w : World) :
    Calls Tryd.prog 66 #[.int .i64 i] w fun e w' => e = .returned (.string ⟨(Lib.decDigits i).toArray⟩) ∧ w' = w := Any.strconv_Itoa_small Tryd.lays171 i hi w
end Go.Proofs
/-
  script: numberText; the table of rows, rowOf.
-/
namespace Go.Proofs.YtfpiibccggjjpaaDoor
open Go.RowKit
set_option linter.unusedVariables false

theorem keeps_of_below {w w' : World} (h : Below w.heap.size w w') : Keeps w w' (fun _ => False) := ⟨h.os, h.tape, h.output, h.size, fun k hk _ => h.block k hk⟩

def TabW (w : World) : Prop := Lib.TabIs Tryd.prog w "internal/strconv.uint64pow10" .u64 Lib.pow10Tab

theorem gPow : Tryd.prog.globalNamed "internal/strconv.uint64pow10" = some 4 := by kernel_rfl

theorem TabW.keeps {w w' : World} (h : TabW w) (k : Keeps w w' (fun _ => False)) : TabW w' := by
  unfold TabW Lib.TabIs World.var? at h ⊢
  rw [gPow] at h ⊢
  simp only [Option.bind_some] at h ⊢
  have hlt : 4 < w.heap.size := by
    rcases Nat.lt_or_ge 4 w.heap.size with h' | h'
    · exact h'
    · rw [Array.getElem?_eq_none h'] at h; cases h
  rw [k.block 4 hlt id]
  exact h

theorem keeps_cell {w w' : World} (k : Keeps w w' (fun _ => False)) {a : Addr} {v : Value} (h : w.cell? a = some v) : w'.cell? a = some v :=
  ((k.below (Nat.le_refl _) (fun _ _ e => e)).cell (World.block_lt_of_cell? w a h)).trans h

theorem ntext_any (n : Int) (h0 : -9223372036854775808 ≤ n) (h1 : n ≤ 9223372036854775807) (w : World) (ht : TabW w) : Calls Tryd.prog 49 #[.int .i64 n] w fun e w' => e = .returned (.string (numD n)) ∧ Keeps w w' (fun _ => False) := by
  have hI := Tryd.strconv_Itoa n h0 h1 w ht
  rw [show (⟨(Lib.itoa n).toArray⟩ : ByteArray) = numD n from rfl] at hI
  generalize numD n = S at *
  go_enter Tryd.func49, Tryd.ntmps49
  go_wp2_with fail
  (with_reducible refine hI.mono ?_)
  rintro e w1 ⟨rfl, k, os, rfl⟩
  go_wp2_with fail
  go_ret
  exact ⟨rfl, keeps_of_below (Lib.below_grow _ w (Nat.le_refl _) k os)⟩

def nmL : List ByteArray := [⟨#[108, 105, 109, 105, 116]⟩, ⟨#[104, 97, 115, 104]⟩, ⟨#[109, 97, 107, 101]⟩, ⟨#[103, 101, 116]⟩, ⟨#[112, 117, 116]⟩, ⟨#[100, 101, 108, 101, 116, 101]⟩, ⟨#[108, 101, 110]⟩, ⟨#[99, 108, 101, 97, 114]⟩, ⟨#[99, 108, 111, 110, 101]⟩, ⟨#[111, 112, 101, 110]⟩, ⟨#[110, 101, 120, 116]⟩, ⟨#[114, 101, 108, 101, 97, 115, 101]⟩, ⟨#[108, 105, 118, 101]⟩, ⟨#[112, 114, 111, 98, 101, 115]⟩, ⟨#[115, 108, 111, 116, 115]⟩, ⟨#[97, 117, 100, 105, 116]⟩]

def nmN (i : Nat) : ByteArray := nmL.getD i ⟨#[]⟩

def kN (i : Nat) : Int := if i = 0 then 1 else if i = 1 then 2 else 3

def oN (i : Nat) : Int := if i < 2 then 0 else (i : Int) - 1

/-- Is it a command's number? -/
def isOp (op : Int) : Bool := decide (1 ≤ op ∧ op ≤ 14)

def nameD (op : Int) : ByteArray := if 1 ≤ op ∧ op ≤ 14 then nmN (op.toNat + 1) else ⟨#[]⟩

theorem hit {i : Nat} {op : Int} (hi : i < 16) (h1 : kN i = 3) (h2 : oN i = op) : nameD op = nmN i ∧ isOp op = true := by
  unfold kN at h1
  unfold oN at h2
  have h3 : 2 ≤ i := by
    split at h1
    · omega
    · split at h1
      · omega
      · omega
  rw [if_neg (by omega)] at h2
  have h4 : 1 ≤ op ∧ op ≤ 14 := by omega
  unfold nameD isOp
  rw [if_pos h4, show op.toNat + 1 = i by omega]
  exact ⟨rfl, decide_eq_true h4⟩

theorem nohit {op : Int} (h : ∀ j, j < 16 → ¬ (kN j = 3 ∧ oN j = op)) : nameD op = ⟨#[]⟩ ∧ isOp op = false := by
  have h4 : ¬ (1 ≤ op ∧ op ≤ 14) := fun q => by
    refine h (op.toNat + 1) (by omega) ⟨?_, ?_⟩
    · unfold kN
      rw [if_neg (by omega), if_neg (by omega)]
    · unfold oN
      rw [if_neg (by omega)]
      omega
  unfold nameD isOp
  exact ⟨if_neg h4, decide_eq_false h4⟩

def RowsAt (w : World) : Prop := ∀ i, i < 16 → w.cell? ⟨0, i * 4, none⟩ = some (.string (nmN i)) ∧ w.cell? ⟨0, i * 4 + 1, none⟩ = some (.int .i64 (kN i)) ∧ w.cell? ⟨0, i * 4 + 2, none⟩ = some (.int .i64 (oN i)) ∧ ∃ f, w.cell? ⟨0, i * 4 + 3, none⟩ = some (.string f)

theorem RowsAt.keeps {w w' : World} (h : RowsAt w) (k : Keeps w w' (fun _ => False)) : RowsAt w' := fun i hi => by
  obtain ⟨h1, h2, h3, f, h4⟩ := h i hi
  exact ⟨keeps_cell k h1, keeps_cell k h2, keeps_cell k h3, f, keeps_cell k h4⟩

set_option maxRecDepth 100000 in
set_option maxHeartbeats 2000000 in
theorem rowOf_any (op : Int) (w : World) (hR : RowsAt w) : Calls Tryd.prog 35 #[.int .i64 3, .int .i64 op] w fun e w' => (∃ k o f, e = .returned (.tuple #[.agg #[.string (nameD op), .int .i64 k, .int .i64 o, .string f], .bool (isOp op)])) ∧ Keeps w w' (fun _ => False) := by
  have HR := hide hR
  have HH : Hid (∀ i, i < 16 → kN i = 3 → oN i = op → nameD op = nmN i ∧ isOp op = true) := fun i a b c => hit a b c
  have HN : Hid ((∀ j, j < 16 → ¬ (kN j = 3 ∧ oN j = op)) → nameD op = ⟨#[]⟩ ∧ isOp op = false) := nohit
  generalize nameD op = ND at *
  generalize isOp op = IsO at *
  clear hR
  go_enter Tryd.func35, Tryd.ntmps35
  go_wp2_with fail
  go_loopw [7] (fun v7 wr => ∃ i : Nat, v7 = .int .i64 (i : Int) ∧ i ≤ 16 ∧ Hid (∀ j, j < i → ¬ (kN j = 3 ∧ oN j = op)) ∧ wr.heap[w.heap.size]? = some (.cells #[.string ⟨#[]⟩, .int .i64 0, .int .i64 0, .string ⟨#[]⟩] 68) ∧ Hid (Keeps w wr (fun _ => False))) (fun v7 _ => 16 - (intOf v7).toNat)
  case atStart => exact ⟨0, rfl, Nat.zero_le _, fun j hj => by omega, heap_alloc_new _ _, (Keeps.refl _ _).alloc _⟩
  case round =>
    obtain ⟨i, rfl, hi, hno, hb, HK⟩ := hrel
    have d0 : wr.cell? ⟨w.heap.size, 0, none⟩ = some (.string ⟨#[]⟩) := by simp [World.cell?, hb]
    have d1 : wr.cell? ⟨w.heap.size, 1, none⟩ = some (.int .i64 0) := by simp [World.cell?, hb]
    have d2 : wr.cell? ⟨w.heap.size, 2, none⟩ = some (.int .i64 0) := by simp [World.cell?, hb]
    have d3 : wr.cell? ⟨w.heap.size, 3, none⟩ = some (.string ⟨#[]⟩) := by simp [World.cell?, hb]
    have f0 : wr.frozen? ⟨w.heap.size, 0, none⟩ = false := by simp [World.frozen?, hb]
    have f1 : wr.frozen? ⟨w.heap.size, 1, none⟩ = false := by simp [World.frozen?, hb]
    have f2 : wr.frozen? ⟨w.heap.size, 2, none⟩ = false := by simp [World.frozen?, hb]
    have f3 : wr.frozen? ⟨w.heap.size, 3, none⟩ = false := by simp [World.frozen?, hb]
    by_cases hlt : i < 16
    · have hlt' : (i : Int) < 16 := by omega
      obtain ⟨c1, c2, c3, f, c4⟩ := (HR.out.keeps HK.out) i hlt
      have hi5 : i ≤ 1099511627776 := by omega
      have Hms : Hid (15 - i < 16 - i) := by show 15 - i < 16 - i; omega
      have Hnx : Hid (¬ (kN i = 3 ∧ oN i = op) → ∀ j, j < i + 1 → ¬ (kN j = 3 ∧ oN j = op)) := fun q j hj => by
        by_cases e : j = i
        · rw [e]; exact q
        · exact hno.out j (by omega)
      obtain ⟨a6, a7⟩ := wr64s hi5
      by_cases h1 : kN i = 3
      · have e1 : (kN i == 3) = true := by simp [h1]
        by_cases h2 : oN i = op
        · have e2 : (oN i == op) = true := by simp [h2]
          obtain ⟨n1, n2⟩ := HH.out i hlt h1 h2
          rw [← n1] at c1
          have N2 := hide n2
          clear h1 h2 hno Hnx a6 a7 n1 n2 hi5
          generalize kN i = kk at *
          generalize oN i = oo at *
          have hk : Keeps w ((((wr.setCell ⟨w.heap.size, 0, none⟩ (.string ND)).setCell ⟨w.heap.size, 1, none⟩ (.int .i64 kk)).setCell ⟨w.heap.size, 2, none⟩ (.int .i64 oo)).setCell ⟨w.heap.size, 3, none⟩ (.string f)) (fun _ => False) := (((HK.out.setCell ⟨w.heap.size, 0, none⟩ (fun h => absurd h (Nat.lt_irrefl _)) _).setCell ⟨w.heap.size, 1, none⟩ (fun h => absurd h (Nat.lt_irrefl _)) _).setCell ⟨w.heap.size, 2, none⟩ (fun h => absurd h (Nat.lt_irrefl _)) _).setCell ⟨w.heap.size, 3, none⟩ (fun h => absurd h (Nat.lt_irrefl _)) _
          have Hk := hide hk
          clear hk
          go_wp2_with fail
          refine bodyPost_ret (v := .tuple #[.agg #[.string ND, .int .i64 kk, .int .i64 oo, .string f], .bool true]) ?_ rfl ?_
          · simp [results, Tryd.results35, go_sem, d0, d1, d2, d3]
          · rw [N2.out]
            exact ⟨⟨kk, oo, f, rfl⟩, Hk.out⟩
        · have e2 : (oN i == op) = false := beq_eq_false_iff_ne.2 h2
          have HX := hide (Hnx.out (fun q => h2 q.2))
          have hb' := hide hb
          clear h1 h2 hno Hnx hi5 d0 d1 d2 d3 f0 f1 f2 f3 c1 c4 hb
          generalize kN i = kk at *
          generalize oN i = oo at *
          go_wp2_with fail
          go_roundw
          case rel => exact ⟨i + 1, by go_num, hlt, HX, hb'.out, HK⟩
          case measure => simp [intOf]; exact Hms.out
      · have e1 : (kN i == 3) = false := beq_eq_false_iff_ne.2 h1
        have HX := hide (Hnx.out (fun q => h1 q.1))
        have hb' := hide hb
        clear h1 hno Hnx hi5 d0 d1 d2 d3 f0 f1 f2 f3 c1 c4 hb c3
        generalize kN i = kk at *
        go_wp2_with fail
        go_roundw
        case rel => exact ⟨i + 1, by go_num, hlt, HX, hb'.out, HK⟩
        case measure => simp [intOf]; exact Hms.out
    · obtain rfl : i = 16 := by omega
      obtain ⟨n1, n2⟩ := HN.out hno.out
      have N1 := hide n1
      have N2 := hide n2
      clear n1 n2 hno HN HH
      have hk : Keeps w ((((wr.setCell ⟨w.heap.size, 0, none⟩ (.string ⟨#[]⟩)).setCell ⟨w.heap.size, 1, none⟩ (.int .i64 0)).setCell ⟨w.heap.size, 2, none⟩ (.int .i64 0)).setCell ⟨w.heap.size, 3, none⟩ (.string ⟨#[]⟩)) (fun _ => False) := (((HK.out.setCell ⟨w.heap.size, 0, none⟩ (fun h => absurd h (Nat.lt_irrefl _)) _).setCell ⟨w.heap.size, 1, none⟩ (fun h => absurd h (Nat.lt_irrefl _)) _).setCell ⟨w.heap.size, 2, none⟩ (fun h => absurd h (Nat.lt_irrefl _)) _).setCell ⟨w.heap.size, 3, none⟩ (fun h => absurd h (Nat.lt_irrefl _)) _
      have Hk := hide hk
      clear hk
      go_wp2_with fail
      refine bodyPost_ret (v := .tuple #[.agg #[.string ⟨#[]⟩, .int .i64 0, .int .i64 0, .string ⟨#[]⟩], .bool false]) ?_ rfl ?_
      · simp [results, Tryd.results35, go_sem, d0, d1, d2, d3]
      · rw [N1.out, N2.out]
        exact ⟨⟨0, 0, _, rfl⟩, Hk.out⟩
end Go.Proofs.YtfpiibccggjjpaaDoor
/-
  script: the reference's Rows and Name.
-/
namespace Go.Proofs.YtfpiibccggjjpaaDoor
open Go.RowKit
set_option linter.unusedVariables false

theorem Keeps.blk {w w' : World} (k : Keeps w w' (fun _ => False)) {b : Nat} {o : Obj} (h : w.heap[b]? = some o) : w'.heap[b]? = some o := (k.block b (heap_lt h) id).trans h

set_option maxRecDepth 100000 in
set_option maxHeartbeats 2000000 in
theorem rrows_any (w : World) : Calls Tryd.prog 54 #[] w fun e w' => ∃ cs : Array Value, e = .returned (.slice (some ⟨w.heap.size, 0, none⟩) 16 16) ∧ w' = w.alloc (.cells cs 81) ∧ ∀ i, i < 16 → cs[i * 4]? = some (.string (nmN i)) ∧ cs[i * 4 + 1]? = some (.int .i64 (oN i)) := by
  go_enter Tryd.func54, Tryd.ntmps54
  go_wp2_with fail
  go_ret
  refine ⟨_, rfl, rfl, ?_⟩
  intro i hi
  iterate 16 (rcases i with _ | i; exact ⟨rfl, rfl⟩)
  omega

theorem hit2 {i : Nat} {op : Int} (hi : i < 16) (h1 : 0 < op) (h2 : oN i = op) : nameD op = nmN i := by
  refine (hit hi ?_ h2).1
  unfold oN at h2
  unfold kN
  split at h2
  · omega
  · rw [if_neg (by omega), if_neg (by omega)]

theorem nohit2 {op : Int} (h : ∀ j, j < 16 → ¬ (0 < op ∧ oN j = op)) : nameD op = ⟨#[]⟩ := by
  refine (nohit fun j hj q => h j hj ⟨?_, q.2⟩).1
  have h1 := q.1
  have h2 := q.2
  unfold kN at h1
  unfold oN at h2
  split at h1
  · omega
  · split at h1
    · omega
    · rw [if_neg (by omega)] at h2
      omega
end Go.Proofs.YtfpiibccggjjpaaDoor
/-
  script: rowNamed, digit.
-/
namespace Go.Proofs.YtfpiibccggjjpaaDoor
open Go.RowKit
set_option linter.unusedVariables false

theorem str_yes {a b : ByteArray} (h : a = b) : (a.toList == b.toList) = true := by simp [h]
theorem str_no {a b : ByteArray} (h : a ≠ b) : (a.toList == b.toList) = false := by
  simp only [beq_eq_false_iff_ne, ne_eq]
  exact fun e => h (ByteArray.ext (Array.toList_inj.1 (by simpa [ByteArray.toList_eq] using e)))
set_option maxRecDepth 100000 in
set_option maxHeartbeats 2000000 in
theorem rowNamed_any (name : ByteArray) (w : World) (hR : RowsAt w) : Calls Tryd.prog 29 #[.string name] w fun e w' => ((∃ i f, i < 16 ∧ nmN i = name ∧ e = .returned (.tuple #[.agg #[.string name, .int .i64 (kN i), .int .i64 (oN i), .string f], .bool true])) ∨ ((∀ i, i < 16 → nmN i ≠ name) ∧ e = .returned (.tuple #[.agg #[.string ⟨#[]⟩, .int .i64 0, .int .i64 0, .string ⟨#[]⟩], .bool false]))) ∧ Keeps w w' (fun _ => False) := by
  have HR := hide hR
  clear hR
  go_enter Tryd.func29, Tryd.ntmps29
  go_wp2_with fail
  go_loopw [5] (fun v5 wr => ∃ i : Nat, v5 = .int .i64 (i : Int) ∧ i ≤ 16 ∧ Hid (∀ j, j < i → nmN j ≠ name) ∧ wr.heap[w.heap.size]? = some (.cells #[.string ⟨#[]⟩, .int .i64 0, .int .i64 0, .string ⟨#[]⟩] 68) ∧ Hid (Keeps w wr (fun _ => False))) (fun v5 _ => 16 - (intOf v5).toNat)
  case atStart => exact ⟨0, rfl, Nat.zero_le _, fun j hj => by omega, heap_alloc_new _ _, (Keeps.refl _ _).alloc _⟩
  case round =>
    obtain ⟨i, rfl, hi, hno, hb, HK⟩ := hrel
    have d0 : wr.cell? ⟨w.heap.size, 0, none⟩ = some (.string ⟨#[]⟩) := by simp [World.cell?, hb]
    have d1 : wr.cell? ⟨w.heap.size, 1, none⟩ = some (.int .i64 0) := by simp [World.cell?, hb]
    have d2 : wr.cell? ⟨w.heap.size, 2, none⟩ = some (.int .i64 0) := by simp [World.cell?, hb]
    have d3 : wr.cell? ⟨w.heap.size, 3, none⟩ = some (.string ⟨#[]⟩) := by simp [World.cell?, hb]
    have f0 : wr.frozen? ⟨w.heap.size, 0, none⟩ = false := by simp [World.frozen?, hb]
    have f1 : wr.frozen? ⟨w.heap.size, 1, none⟩ = false := by simp [World.frozen?, hb]
    have f2 : wr.frozen? ⟨w.heap.size, 2, none⟩ = false := by simp [World.frozen?, hb]
    have f3 : wr.frozen? ⟨w.heap.size, 3, none⟩ = false := by simp [World.frozen?, hb]
    by_cases hlt : i < 16
    · have hlt' : (i : Int) < 16 := by omega
      obtain ⟨c1, c2, c3, f, c4⟩ := (HR.out.keeps HK.out) i hlt
      have hi5 : i ≤ 1099511627776 := by omega
      have Hms : Hid (15 - i < 16 - i) := by show 15 - i < 16 - i; omega
      have Hnx : Hid (nmN i ≠ name → ∀ j, j < i + 1 → nmN j ≠ name) := fun q j hj => by
        by_cases e : j = i
        · rw [e]; exact q
        · exact hno.out j (by omega)
      by_cases h1 : nmN i = name
      · have H1 := hide h1
        rw [h1] at c1
        have e1 : (name.toList == name.toList) = true := by simp
        have hk : Keeps w ((((wr.setCell ⟨w.heap.size, 0, none⟩ (.string name)).setCell ⟨w.heap.size, 1, none⟩ (.int .i64 (kN i))).setCell ⟨w.heap.size, 2, none⟩ (.int .i64 (oN i))).setCell ⟨w.heap.size, 3, none⟩ (.string f)) (fun _ => False) := (((HK.out.setCell ⟨w.heap.size, 0, none⟩ (fun h => absurd h (Nat.lt_irrefl _)) _).setCell ⟨w.heap.size, 1, none⟩ (fun h => absurd h (Nat.lt_irrefl _)) _).setCell ⟨w.heap.size, 2, none⟩ (fun h => absurd h (Nat.lt_irrefl _)) _).setCell ⟨w.heap.size, 3, none⟩ (fun h => absurd h (Nat.lt_irrefl _)) _
        have Hk := hide hk
        have Hlt := hide hlt
        clear h1 hno Hnx hi5 hk
        have HF : Hid (∃ j g, j < 16 ∧ nmN j = name ∧ (Ending.returned (.tuple #[.agg #[.string name, .int .i64 (kN i), .int .i64 (oN i), .string f], .bool true])) = .returned (.tuple #[.agg #[.string name, .int .i64 (kN j), .int .i64 (oN j), .string g], .bool true])) := ⟨i, f, hlt, H1.out, rfl⟩
        generalize kN i = kk at *
        generalize oN i = oo at *
        go_wp2_with fail
        refine bodyPost_ret (v := .tuple #[.agg #[.string name, .int .i64 kk, .int .i64 oo, .string f], .bool true]) ?_ rfl ?_
        · simp [results, Tryd.results29, go_sem, d0, d1, d2, d3]
        · exact ⟨Or.inl HF.out, Hk.out⟩
      · have e1 := str_no h1
        have HX := hide (Hnx.out h1)
        have hb' := hide hb
        obtain ⟨a6, a7⟩ := wr64s hi5
        clear h1 hno Hnx hi5 d0 d1 d2 d3 f0 f1 f2 f3 c2 c3 c4 hb
        generalize nmN i = nn at *
        go_wp2_with fail
        go_roundw
        case rel => exact ⟨i + 1, by go_num, hlt, HX, hb'.out, HK⟩
        case measure => simp [intOf]; exact Hms.out
    · obtain rfl : i = 16 := by omega
      have hk : Keeps w ((((wr.setCell ⟨w.heap.size, 0, none⟩ (.string ⟨#[]⟩)).setCell ⟨w.heap.size, 1, none⟩ (.int .i64 0)).setCell ⟨w.heap.size, 2, none⟩ (.int .i64 0)).setCell ⟨w.heap.size, 3, none⟩ (.string ⟨#[]⟩)) (fun _ => False) := (((HK.out.setCell ⟨w.heap.size, 0, none⟩ (fun h => absurd h (Nat.lt_irrefl _)) _).setCell ⟨w.heap.size, 1, none⟩ (fun h => absurd h (Nat.lt_irrefl _)) _).setCell ⟨w.heap.size, 2, none⟩ (fun h => absurd h (Nat.lt_irrefl _)) _).setCell ⟨w.heap.size, 3, none⟩ (fun h => absurd h (Nat.lt_irrefl _)) _
      have Hk := hide hk
      clear hk
      go_wp2_with fail
      refine bodyPost_ret (v := .tuple #[.agg #[.string ⟨#[]⟩, .int .i64 0, .int .i64 0, .string ⟨#[]⟩], .bool false]) ?_ rfl ?_
      · simp [results, Tryd.results29, go_sem, d0, d1, d2, d3]
      · exact ⟨Or.inr ⟨hno.out, rfl⟩, Hk.out⟩
/-- What a digit is worth. -/
def digD (c : Int) : Int := if c < 48 then 16 else if c ≤ 57 then c - 48 else if c < 65 then 16 else if c ≤ 70 then c - 65 + 10 else if c < 97 then 16 else if c ≤ 102 then c - 97 + 10 else 16
set_option maxRecDepth 100000 in
set_option maxHeartbeats 2000000 in
theorem digit_any (c : Int) (w : World) : Calls Tryd.prog 76 #[.int .i32 c] w fun e w' => e = .returned (.int .i64 (digD c)) ∧ w' = w := by
  obtain ⟨D, hD⟩ : ∃ D, digD c = D := ⟨_, rfl⟩
  rw [hD]
  unfold digD at hD
  by_cases h0 : c < 48
  · rw [if_pos h0] at hD
    subst hD
    go_enter Tryd.func76, Tryd.ntmps76
    go_wp2_with fail
    go_ret
    exact ⟨rfl, rfl⟩
  by_cases h1 : c ≤ 57
  · rw [if_neg h0, if_pos h1] at hD
    subst hD
    go_enter Tryd.func76, Tryd.ntmps76
    go_wp2_with fail
    go_ret
    exact ⟨rfl, rfl⟩
  by_cases h2 : c < 65
  · rw [if_neg h0, if_neg h1, if_pos h2] at hD
    subst hD
    go_enter Tryd.func76, Tryd.ntmps76
    go_wp2_with fail
    go_ret
    exact ⟨rfl, rfl⟩
  by_cases h3 : c ≤ 70
  · rw [if_neg h0, if_neg h1, if_neg h2, if_pos h3] at hD
    subst hD
    go_enter Tryd.func76, Tryd.ntmps76
    go_wp2_with fail
    go_ret
    exact ⟨rfl, rfl⟩
  by_cases h4 : c < 97
  · rw [if_neg h0, if_neg h1, if_neg h2, if_neg h3, if_pos h4] at hD
    subst hD
    go_enter Tryd.func76, Tryd.ntmps76
    go_wp2_with fail
    go_ret
    exact ⟨rfl, rfl⟩
  by_cases h5 : c ≤ 102
  · rw [if_neg h0, if_neg h1, if_neg h2, if_neg h3, if_neg h4, if_pos h5] at hD
    subst hD
    go_enter Tryd.func76, Tryd.ntmps76
    go_wp2_with fail
    go_ret
    exact ⟨rfl, rfl⟩
  rw [if_neg h0, if_neg h1, if_neg h2, if_neg h3, if_neg h4, if_neg h5] at hD
  subst hD
  go_enter Tryd.func76, Tryd.ntmps76
  go_wp2_with fail
  go_ret
  exact ⟨rfl, rfl⟩
end Go.Proofs.YtfpiibccggjjpaaDoor
/-
  script: allDigits.
-/
namespace Go.Proofs.YtfpiibccggjjpaaDoor
open Go.RowKit
set_option linter.unusedVariables false

theorem run_next_any {P : Program} (w : World) (s : ByteArray) (pos : Nat) (ty : TypeId) (h : pos < s.size) :
    (Instr.next (.pointer (some ⟨w.heap.size, 0, none⟩)) true ty).run P (w.iter s pos) =
      .ok (.tuple #[.bool true, .int .i64 pos, .int .i32 (Utf8.decode s pos).1]) (w.iter s (pos + (Utf8.decode s pos).2)) := by
  simp only [Instr.next, getObj, setObj, Sem.run_bind, Sem.run, World.iter_heap, Result.andThen, h, if_true, World.iter_set]
  simp [goInt]
theorem decode_big (s : ByteArray) (pos : Nat) (h : pos < s.size) (ha : ¬ (s[pos]'h).toNat < 128) : 128 ≤ (Utf8.decode s pos).1 := by
  have e : s.get! (pos + 0) = s[pos]'h := by
    show s.get! pos = _
    simp [ByteArray.get!, getElem!_pos, h]
    rfl
  have hr : 128 ≤ Utf8.runeError := by decide
  unfold Utf8.decode
  simp only [e]
  rw [if_neg ha]
  split
  · split
    · assumption
    · exact hr
  · split
    · split
      · rename_i q
        simp only [Bool.and_eq_true, decide_eq_true_eq] at q
        exact Nat.le_trans (by decide) q.1
      · exact hr
    · split
      · split
        · rename_i q
          simp only [Bool.and_eq_true, decide_eq_true_eq] at q
          exact Nat.le_trans (by decide) q.1
        · exact hr
      · exact hr
theorem digD_big {c : Int} (h : 128 ≤ c) : digD c = 16 := by
  unfold digD
  rw [if_neg (by omega), if_neg (by omega), if_neg (by omega), if_neg (by omega), if_neg (by omega), if_neg (by omega)]
/-- Are they digits, all of them? -/
def allB (b : Int) (l : List UInt8) : Prop := ∀ x, x ∈ l → digD (x.toNat : Int) < b
def allD (b : Int) (l : List UInt8) : Bool := !l.isEmpty && l.all (fun x => decide (digD (x.toNat : Int) < b))
theorem allD_iff {b : Int} {l : List UInt8} : allD b l = true ↔ l ≠ [] ∧ allB b l := by
  unfold allD allB
  simp [List.all_eq_true]
theorem small_ascii {x : UInt8} {b : Int} (h : digD (x.toNat : Int) < b) (hb : b ≤ 16) : x.toNat < 128 := by
  rcases Nat.lt_or_ge x.toNat 128 with q | q
  · exact q
  · rw [digD_big (by omega)] at h
    omega
set_option maxRecDepth 100000 in
set_option maxHeartbeats 2000000 in
theorem allDigits_any (s : ByteArray) (b : Int) (hb : b ≤ 16) (w : World) : Calls Tryd.prog 59 #[.string s, .int .i64 b] w fun e w' => e = .returned (.bool (allD b s.data.toList)) ∧ Keeps w w' (fun _ => False) := by
  have HY : Hid (s.data.toList ≠ [] → allB b s.data.toList → allD b s.data.toList = true) := fun a c => allD_iff.2 ⟨a, c⟩
  have HN : Hid (¬ (s.data.toList ≠ [] ∧ allB b s.data.toList) → allD b s.data.toList = false) := fun a => by
    cases h : allD b s.data.toList with
    | true => exact absurd (allD_iff.1 h) a
    | false => rfl
  generalize allD b s.data.toList = A at *
  have hsz : s.data.toList.length = s.size := rfl
  go_enter Tryd.func59, Tryd.ntmps59
  go_wp2_with fail
  go_loopg [6] s.size (fun gm v6 wr => ∃ pos : Nat, gm = s.size - pos ∧ pos ≤ s.size ∧ wr = w.iter s pos ∧ Hid (allB b (s.data.toList.take pos)))
  case atStart => exact ⟨0, rfl, Nat.zero_le _, rfl, fun x hx => by simp at hx⟩
  case round =>
    obtain ⟨pos, rfl, hp, rfl, hal⟩ := hrel
    have HK : Hid (∀ p, Keeps w (w.iter s p) (fun _ => False)) := fun p => (Keeps.refl _ _).alloc _
    by_cases hlt : pos < s.size
    · by_cases h128 : (s[pos]'hlt).toNat < 128
      · have hN := fun ty => run_next_ascii (P := Tryd.prog) w s pos ty hlt h128
        obtain ⟨x, hx⟩ : ∃ x, s[pos] = x := ⟨_, rfl⟩
        have hxl : s.data.toList[pos]'(by omega) = x := hx
        rw [hx] at hN
        have hD := fun W => digit_any (x.toNat : Int) W
        have hms : s.size - (pos + 1) < s.size - pos := by omega
        by_cases hd : digD (x.toNat : Int) < b
        · have hd' : ¬ b ≤ digD (x.toNat : Int) := by omega
          have HX : Hid (allB b (s.data.toList.take (pos + 1))) := fun y hy => by
            rw [List.take_succ_eq_append_getElem (by omega), List.mem_append] at hy
            rcases hy with hy | hy
            · exact hal.out y hy
            · rw [List.mem_singleton.1 hy, hxl]; exact hd
          clear hal hd
          generalize digD (x.toNat : Int) = dd at *
          go_wp2_with fail
          refine (hD _).mono ?_
          rintro e w2 ⟨rfl, rfl⟩
          go_wp2_with fail
          go_roundg (s.size - (pos + 1))
          case measure => exact hms
          case rel => exact ⟨pos + 1, rfl, hlt, rfl, HX⟩
        · have hd' : b ≤ digD (x.toNat : Int) := by omega
          have HF := hide (HN.out (fun q => hd (q.2 x (hxl ▸ List.getElem_mem _))))
          clear hal hd
          generalize digD (x.toNat : Int) = dd at *
          go_wp2_with fail
          refine (hD _).mono ?_
          rintro e w2 ⟨rfl, rfl⟩
          go_wp2_with fail
          go_ret
          exact ⟨congrArg (fun z => Ending.returned (Value.bool z)) HF.out.symm, HK.out _⟩
      · have hN := fun ty => run_next_any (P := Tryd.prog) w s pos ty hlt
        have hbig := decode_big s pos hlt h128
        obtain ⟨r, hr⟩ : ∃ r, (Utf8.decode s pos).1 = r := ⟨_, rfl⟩
        obtain ⟨k, hk⟩ : ∃ k, (Utf8.decode s pos).2 = k := ⟨_, rfl⟩
        rw [hr] at hN hbig
        rw [hk] at hN
        have hD := fun W => digit_any (r : Int) W
        rw [digD_big (c := (r : Int)) (by omega)] at hD
        have hd' : b ≤ 16 := hb
        have HF := hide (HN.out (fun q => h128 (small_ascii (q.2 _ (List.getElem_mem (l := s.data.toList) (n := pos) (by omega))) hb)))
        clear hal hr hk h128 hbig
        go_wp2_with fail
        refine (hD _).mono ?_
        rintro e w2 ⟨rfl, rfl⟩
        go_wp2_with fail
        go_ret
        exact ⟨congrArg (fun z => Ending.returned (Value.bool z)) HF.out.symm, HK.out _⟩
    · obtain rfl : pos = s.size := by omega
      have hN := fun ty => run_next_end (P := Tryd.prog) w s s.size ty hlt
      rw [List.take_of_length_le (Nat.le_of_eq hsz)] at hal
      by_cases h0 : s.data.toList = []
      · have HF := hide (HN.out (fun q => q.1 h0))
        have hne : s.toList.isEmpty = true := by rw [ByteArray.toList_eq, h0]; rfl
        clear h0 hal
        go_wp2_with fail
        go_ret
        exact ⟨congrArg (fun z => Ending.returned (Value.bool z)) HF.out.symm, HK.out _⟩
      · have HF := hide (HY.out h0 hal.out)
        have hne : s.toList.isEmpty = false := by
          rw [ByteArray.toList_eq, List.isEmpty_eq_false_iff]
          exact h0
        clear h0 hal
        go_wp2_with fail
        go_ret
        exact ⟨congrArg (fun z => Ending.returned (Value.bool z)) HF.out.symm, HK.out _⟩
end Go.Proofs.YtfpiibccggjjpaaDoor
namespace Go.Proofs
open Go.Shelf
def Tryd.laysM316_ren : Go.Shelf.Ren := ⟨fun | 316 => 82 | n => n, fun | 9 => 9 | 3 => 3 | 4 => 4 | 37 => 54 | 0 => 0 | 127 => 79 | 5 => 5 | n => n, fun | n => n⟩
theorem Tryd.laysM316 : Go.Proofs.LaysM.n316 Tryd.prog Tryd.laysM316_ren := {
  mixed := by kernel_rfl
  f316 := Tryd.func82.trans (congrArg some (by kernel_rfl))
  t0 := Tryd.underlying0
  a0 := Tryd.isAgg0
  z0 := Tryd.sizeOf0
  v0 := Tryd.zeroValue0
  t3 := Tryd.underlying3
  a3 := Tryd.isAgg3
  z3 := Tryd.sizeOf3
  v3 := Tryd.zeroValue3
  t4 := Tryd.underlying4
  a4 := Tryd.isAgg4
  z4 := Tryd.sizeOf4
  v4 := Tryd.zeroValue4
  t9 := Tryd.underlying9
  a9 := Tryd.isAgg9
  z9 := Tryd.sizeOf9
  v9 := Tryd.zeroValue9
  t37 := Tryd.underlying54
  a37 := Tryd.isAgg54
  z37 := Tryd.sizeOf54
  v37 := Tryd.zeroValue54
  t127 := Tryd.underlying79
  a127 := Tryd.isAgg79
  z127 := Tryd.sizeOf79
  v127 := Tryd.zeroValue79
  t5 := Tryd.underlying5
  a5 := Tryd.isAgg5
  z5 := Tryd.sizeOf5
  v5 := Tryd.zeroValue5
  i0 := by kernel_rfl
  i3 := by kernel_rfl
  i4 := by kernel_rfl
  i5 := by kernel_rfl
  i9 := by kernel_rfl
  i37 := by kernel_rfl
  i127 := by kernel_rfl }
open Go.RowKit in
theorem Tryd.stringslite_Clone (s : ByteArray) (w : World) (hlim : s.size ≤ 281474976710656) :
    Calls Tryd.prog 82 #[.string s] w fun e w' => e = .returned (.string s) ∧ Below w.heap.size w w' := Any.stringslite_Clone Tryd.laysM316 s w hlim
def Tryd.laysC174_ren : Go.Shelf.Ren := ⟨fun | 174 => 61 | 247 => 78 | 245 => 79 | 287 => 81 | 279 => 90 | 280 => 91 | 281 => 92 | 282 => 93 | 321 => 94 | 322 => 95 | 316 => 82 | 171 => 66 | 205 => 102 | 243 => 83 | 246 => 96 | 283 => 97 | 284 => 98 | 285 => 99 | 286 => 100 | 129 => 104 | 317 => 103 | 318 => 105 | 319 => 106 | 320 => 107 | 337 => 109 | 338 => 110 | n => n, fun | 9 => 9 | 3 => 3 | 2 => 2 | 75 => 58 | 85 => 118 | 4 => 4 | 167 => 141 | 5 => 5 | 53 => 31 | 175 => 120 | 46 => 123 | 168 => 142 | 37 => 54 | 0 => 0 | 210 => 153 | 21 => 21 | 127 => 79 | 145 => 162 | 143 => 160 | 171 => 147 | 173 => 150 | 212 => 156 | 51 => 157 | 20 => 20 | 213 => 158 | 232 => 164 | 233 => 165 | 80 => 62 | n => n, fun | 15 => 2 | 16 => 3 | 17 => 4 | 18 => 5 | 19 => 6 | n => n⟩
theorem Tryd.laysC174 : Go.Proofs.LaysC.n174 Tryd.prog Tryd.laysC174_ren := {
  mixed := by kernel_rfl
  f129 := Tryd.func104.trans (congrArg some (by kernel_rfl))
  f171 := Tryd.func66.trans (congrArg some (by kernel_rfl))
  f174 := Tryd.func61.trans (congrArg some (by kernel_rfl))
  f205 := Tryd.func102.trans (congrArg some (by kernel_rfl))
  f243 := Tryd.func83.trans (congrArg some (by kernel_rfl))
  f245 := Tryd.func79.trans (congrArg some (by kernel_rfl))
  f246 := Tryd.func96.trans (congrArg some (by kernel_rfl))
  f247 := Tryd.func78.trans (congrArg some (by kernel_rfl))
  f279 := Tryd.func90.trans (congrArg some (by kernel_rfl))
  f280 := Tryd.func91.trans (congrArg some (by kernel_rfl))
  f281 := Tryd.func92.trans (congrArg some (by kernel_rfl))
  f282 := Tryd.func93.trans (congrArg some (by kernel_rfl))
  f283 := Tryd.func97.trans (congrArg some (by kernel_rfl))
  f284 := Tryd.func98.trans (congrArg some (by kernel_rfl))
  f285 := Tryd.func99.trans (congrArg some (by kernel_rfl))
  f286 := Tryd.func100.trans (congrArg some (by kernel_rfl))
  f287 := Tryd.func81.trans (congrArg some (by kernel_rfl))
  f316 := Tryd.func82.trans (congrArg some (by kernel_rfl))
  f317 := Tryd.func103.trans (congrArg some (by kernel_rfl))
  f318 := Tryd.func105.trans (congrArg some (by kernel_rfl))
  f319 := Tryd.func106.trans (congrArg some (by kernel_rfl))
  f320 := Tryd.func107.trans (congrArg some (by kernel_rfl))
  f321 := Tryd.func94.trans (congrArg some (by kernel_rfl))
  f322 := Tryd.func95.trans (congrArg some (by kernel_rfl))
  f337 := Tryd.func109.trans (congrArg some (by kernel_rfl))
  f338 := Tryd.func110.trans (congrArg some (by kernel_rfl))
  t0 := Tryd.underlying0
  a0 := Tryd.isAgg0
  z0 := Tryd.sizeOf0
  v0 := Tryd.zeroValue0
  t2 := Tryd.underlying2
  a2 := Tryd.isAgg2
  z2 := Tryd.sizeOf2
  v2 := Tryd.zeroValue2
  t3 := Tryd.underlying3
  a3 := Tryd.isAgg3
  z3 := Tryd.sizeOf3
  v3 := Tryd.zeroValue3
  t4 := Tryd.underlying4
  a4 := Tryd.isAgg4
  z4 := Tryd.sizeOf4
  v4 := Tryd.zeroValue4
  t5 := Tryd.underlying5
  a5 := Tryd.isAgg5
  z5 := Tryd.sizeOf5
  v5 := Tryd.zeroValue5
  t9 := Tryd.underlying9
  a9 := Tryd.isAgg9
  z9 := Tryd.sizeOf9
  v9 := Tryd.zeroValue9
  t20 := Tryd.underlying20
  a20 := Tryd.isAgg20
  z20 := Tryd.sizeOf20
  v20 := Tryd.zeroValue20
  t21 := Tryd.underlying21
  a21 := Tryd.isAgg21
  z21 := Tryd.sizeOf21
  v21 := Tryd.zeroValue21
  t37 := Tryd.underlying54
  a37 := Tryd.isAgg54
  z37 := Tryd.sizeOf54
  v37 := Tryd.zeroValue54
  t46 := Tryd.underlying123
  a46 := Tryd.isAgg123
  z46 := Tryd.sizeOf123
  v46 := Tryd.zeroValue123
  t51 := Tryd.underlying157
  a51 := Tryd.isAgg157
  z51 := Tryd.sizeOf157
  v51 := Tryd.zeroValue157
  t53 := Tryd.underlying31
  a53 := Tryd.isAgg31
  z53 := Tryd.sizeOf31
  v53 := Tryd.zeroValue31
  t75 := Tryd.underlying58
  a75 := Tryd.isAgg58
  z75 := Tryd.sizeOf58
  v75 := Tryd.zeroValue58
  t85 := Tryd.underlying118
  a85 := Tryd.isAgg118
  z85 := Tryd.sizeOf118
  v85 := Tryd.zeroValue118
  t127 := Tryd.underlying79
  a127 := Tryd.isAgg79
  z127 := Tryd.sizeOf79
  v127 := Tryd.zeroValue79
  t143 := Tryd.underlying160
  a143 := Tryd.isAgg160
  z143 := Tryd.sizeOf160
  v143 := Tryd.zeroValue160
  t145 := Tryd.underlying162
  a145 := Tryd.isAgg162
  z145 := Tryd.sizeOf162
  v145 := Tryd.zeroValue162
  t167 := Tryd.underlying141
  a167 := Tryd.isAgg141
  z167 := Tryd.sizeOf141
  v167 := Tryd.zeroValue141
  t168 := Tryd.underlying142
  a168 := Tryd.isAgg142
  z168 := Tryd.sizeOf142
  v168 := Tryd.zeroValue142
  t171 := Tryd.underlying147
  a171 := Tryd.isAgg147
  z171 := Tryd.sizeOf147
  v171 := Tryd.zeroValue147
  t173 := Tryd.underlying150
  a173 := Tryd.isAgg150
  z173 := Tryd.sizeOf150
  v173 := Tryd.zeroValue150
  t175 := Tryd.underlying120
  a175 := Tryd.isAgg120
  z175 := Tryd.sizeOf120
  v175 := Tryd.zeroValue120
  t210 := Tryd.underlying153
  a210 := Tryd.isAgg153
  z210 := Tryd.sizeOf153
  v210 := Tryd.zeroValue153
  t212 := Tryd.underlying156
  a212 := Tryd.isAgg156
  z212 := Tryd.sizeOf156
  v212 := Tryd.zeroValue156
  t213 := Tryd.underlying158
  a213 := Tryd.isAgg158
  z213 := Tryd.sizeOf158
  t232 := Tryd.underlying164
  a232 := Tryd.isAgg164
  z232 := Tryd.sizeOf164
  v232 := Tryd.zeroValue164
  t233 := Tryd.underlying165
  a233 := Tryd.isAgg165
  z233 := Tryd.sizeOf165
  v233 := Tryd.zeroValue165
  g15 := by kernel_rfl
  g16 := by kernel_rfl
  g17 := by kernel_rfl
  g18 := by kernel_rfl
  g19 := by kernel_rfl
  t80 := Tryd.underlying62
  a80 := Tryd.isAgg62
  z80 := Tryd.sizeOf62
  v80 := Tryd.zeroValue62
  i0 := by kernel_rfl
  i2 := by kernel_rfl
  i3 := by kernel_rfl
  i4 := by kernel_rfl
  i5 := by kernel_rfl
  i9 := by kernel_rfl
  i20 := by kernel_rfl
  i21 := by kernel_rfl
  i37 := by kernel_rfl
  i46 := by kernel_rfl
  i51 := by kernel_rfl
  i53 := by kernel_rfl
  i75 := by kernel_rfl
  i80 := by kernel_rfl
  i85 := by kernel_rfl
  i127 := by kernel_rfl
  i143 := by kernel_rfl
  i145 := by kernel_rfl
  i167 := by kernel_rfl
  i168 := by kernel_rfl
  i171 := by kernel_rfl
  i173 := by kernel_rfl
  i175 := by kernel_rfl
  i210 := by kernel_rfl
  i212 := by kernel_rfl
  i232 := by kernel_rfl
  i233 := by kernel_rfl
  m15 := by kernel_rfl
  m16 := by kernel_rfl
  m17 := by kernel_rfl
  m18 := by kernel_rfl
  m19 := by kernel_rfl
  c0 := by kernel_rfl
  c2 := by kernel_rfl
  c3 := by kernel_rfl
  c4 := by kernel_rfl
  c5 := by kernel_rfl
  c9 := by kernel_rfl
  c20 := by kernel_rfl
  c21 := by kernel_rfl
  c37 := by kernel_rfl
  c46 := by kernel_rfl
  c51 := by kernel_rfl
  c53 := by kernel_rfl
  c75 := by kernel_rfl
  c80 := by kernel_rfl
  c85 := by kernel_rfl
  c127 := by kernel_rfl
  c143 := by kernel_rfl
  c145 := by kernel_rfl
  c167 := by kernel_rfl
  c168 := by kernel_rfl
  c171 := by kernel_rfl
  c173 := by kernel_rfl
  c175 := by kernel_rfl
  c210 := by kernel_rfl
  c212 := by kernel_rfl
  c213 := by kernel_rfl
  c232 := by kernel_rfl
  c233 := by kernel_rfl }
open Go.RowKit in
theorem Tryd.strconv_ParseInt_10_at64_ok (s : ByteArray) (hmax : s.size ≤ 9223372036854775806) (v : Int) (h : Lib.parseIntB 64 s.data.toList = .ok v) (w : World) :
    Calls Tryd.prog 61 #[.string s, .int .i64 10, .int .i64 64] w fun e w' => e = .returned (.tuple #[.int .i64 v, .nilIface]) ∧ (w' = w ∨ ∃ t, w' = Lib.bytesWorld w 5 t) := Any.strconv_ParseInt_10_at64_ok Tryd.laysC174 s hmax v h w
open Go.RowKit in
theorem Tryd.strconv_ParseInt_10_at64_syntax (s : ByteArray) (hlim : s.size ≤ 281474976710656) (h : Lib.parseIntB 64 s.data.toList = .«syntax») (ev : Value) (w : World) (hv : w.cell? ⟨2, 0, none⟩ = some ev) (hev : ev = .nilIface ∨ ∃ te pe, ev = .iface te pe) :
    Calls Tryd.prog 61 #[.string s, .int .i64 10, .int .i64 64] w fun e w' => ∃ N, e = .returned (.tuple #[.int .i64 (0), .iface 142 (.pointer (some ⟨N, 0, none⟩))]) ∧ w.heap.size ≤ N ∧ w'.heap[N]? = some (.cells #[.string ⟨#[80, 97, 114, 115, 101, 73, 110, 116]⟩, .string s, ev] 153 (0, 0)) ∧ Below w.heap.size w w' := Any.strconv_ParseInt_10_at64_syntax Tryd.laysC174 s hlim h ev w hv hev
open Go.RowKit in
theorem Tryd.strconv_ParseInt_10_at64_range (s : ByteArray) (hlim : s.size ≤ 281474976710656) (h : Lib.parseIntB 64 s.data.toList = .range) (ev : Value) (w : World) (hv : w.cell? ⟨3, 0, none⟩ = some ev) (hev : ev = .nilIface ∨ ∃ te pe, ev = .iface te pe) :
    Calls Tryd.prog 61 #[.string s, .int .i64 10, .int .i64 64] w fun e w' => ∃ N, e = .returned (.tuple #[.int .i64 (Lib.intSat 64 s.data.toList), .iface 142 (.pointer (some ⟨N, 0, none⟩))]) ∧ w.heap.size ≤ N ∧ w'.heap[N]? = some (.cells #[.string ⟨#[80, 97, 114, 115, 101, 73, 110, 116]⟩, .string s, ev] 153 (0, 0)) ∧ Below w.heap.size w w' := Any.strconv_ParseInt_10_at64_range Tryd.laysC174 s hlim h ev w hv hev
open Go.RowKit in
theorem Tryd.strconv_ParseInt_10_at64_syntax_var (s : ByteArray) (hlim : s.size ≤ 281474976710656) (h : Lib.parseIntB 64 s.data.toList = .«syntax») (tp : TypeId) (p : Value) (w : World) (hvar : w.var? Tryd.prog "strconv.ErrSyntax" = some #[.iface tp p]) :
    Calls Tryd.prog 61 #[.string s, .int .i64 10, .int .i64 64] w fun e w' => ∃ N, e = .returned (.tuple #[.int .i64 (0), .iface 142 (.pointer (some ⟨N, 0, none⟩))]) ∧ w.heap.size ≤ N ∧ w'.heap[N]? = some (.cells #[.string ⟨#[80, 97, 114, 115, 101, 73, 110, 116]⟩, .string s, .iface tp p] 153 (0, 0)) ∧ Below w.heap.size w w' := Any.strconv_ParseInt_10_at64_syntax_var Tryd.laysC174 s hlim h tp p w hvar
open Go.RowKit in
theorem Tryd.strconv_ParseInt_10_at64_range_var (s : ByteArray) (hlim : s.size ≤ 281474976710656) (h : Lib.parseIntB 64 s.data.toList = .range) (tp : TypeId) (p : Value) (w : World) (hvar : w.var? Tryd.prog "strconv.ErrRange" = some #[.iface tp p]) :
    Calls Tryd.prog 61 #[.string s, .int .i64 10, .int .i64 64] w fun e w' => ∃ N, e = .returned (.tuple #[.int .i64 (Lib.intSat 64 s.data.toList), .iface 142 (.pointer (some ⟨N, 0, none⟩))]) ∧ w.heap.size ≤ N ∧ w'.heap[N]? = some (.cells #[.string ⟨#[80, 97, 114, 115, 101, 73, 110, 116]⟩, .string s, .iface tp p] 153 (0, 0)) ∧ Below w.heap.size w w' := Any.strconv_ParseInt_10_at64_range_var Tryd.laysC174 s hlim h tp p w hvar
def Tryd.lays101_ren : Go.Shelf.Ren := ⟨fun | 101 => 60 | 208 => 77 | 206 => 80 | n => n, fun | 9 => 9 | 4 => 4 | 3 => 3 | n => n, fun | n => n⟩
theorem Tryd.lays101 : Go.Proofs.Lays.n101 Tryd.prog Tryd.lays101_ren := {
  mixed := by kernel_rfl
  f101 := Tryd.func60.trans (congrArg some (by kernel_rfl))
  f206 := Tryd.func80.trans (congrArg some (by kernel_rfl))
  f208 := Tryd.func77.trans (congrArg some (by kernel_rfl))
  t3 := Tryd.underlying3
  a3 := Tryd.isAgg3
  z3 := Tryd.sizeOf3
  v3 := Tryd.zeroValue3
  t4 := Tryd.underlying4
  a4 := Tryd.isAgg4
  z4 := Tryd.sizeOf4
  v4 := Tryd.zeroValue4
  t9 := Tryd.underlying9
  a9 := Tryd.isAgg9
  z9 := Tryd.sizeOf9
  v9 := Tryd.zeroValue9 }
open Go.RowKit Go.Lib in
theorem Tryd.strings_TrimPrefix (s p : ByteArray) (w : World) :
    Calls Tryd.prog 60 #[.string s, .string p] w fun e w' => e = .returned (.string ⟨(Lib.trimPrefix s.data.toList p.data.toList).toArray⟩) ∧ w' = w := Any.strings_TrimPrefix Tryd.lays101 s p w
end Go.Proofs
/-
  script: a number's text is read as the number (as data).
-/
namespace Go.Proofs.YtfpiibccggjjpaaDoor
open Go.RowKit
set_option linter.unusedVariables false
def Fit (n : Int) : Prop := -9223372036854775808 ≤ n ∧ n ≤ 9223372036854775807
theorem dec_unfold (u : Nat) : Lib.decDigits u = if u < 10 then [UInt8.ofNat (48 + u)] else Lib.decDigits (u / 10) ++ [UInt8.ofNat (48 + u % 10)] := by
  rw [Lib.decDigits]
  split <;> rfl
theorem dig_val {d : Nat} (h : d < 10) : (UInt8.ofNat (48 + d)).toNat = 48 + d := by
  simp
  omega
theorem dec_ne (u : Nat) : Lib.decDigits u ≠ [] := by
  rw [dec_unfold]
  split <;> simp
theorem dec_last (u : Nat) : 48 ≤ (UInt8.ofNat (48 + u % 10)).toNat ∧ (UInt8.ofNat (48 + u % 10)).toNat ≤ 57 := by
  have := Nat.mod_lt u (show 0 < 10 by decide)
  rw [dig_val this]
  omega
theorem dec_dig : ∀ (k u : Nat), u ≤ k → ∀ x, x ∈ Lib.decDigits u → 48 ≤ x.toNat ∧ x.toNat ≤ 57
  | 0, u, hk, x, hx => by
    rw [dec_unfold, if_pos (by omega)] at hx
    simp only [List.mem_singleton] at hx
    rw [hx, dig_val (by omega)]
    omega
  | k + 1, u, hk, x, hx => by
    rw [dec_unfold] at hx
    split at hx
    · rename_i h
      simp only [List.mem_singleton] at hx
      rw [hx, dig_val h]
      omega
    · rename_i h
      rcases List.mem_append.1 hx with hx | hx
      · exact dec_dig k (u / 10) (by omega) x hx
      · simp only [List.mem_singleton] at hx
        rw [hx]
        exact dec_last u
theorem parse_app (M : Nat) : ∀ (l1 l2 : List UInt8) (acc a : Nat), Lib.parseUintM M acc l1 = .ok a → Lib.parseUintM M acc (l1 ++ l2) = Lib.parseUintM M a l2
  | [], l2, acc, a, h => by
    simp only [Lib.parseUintM] at h
    injection h with h
    subst h
    rfl
  | c :: r, l2, acc, a, h => by
    simp only [List.cons_append, Lib.parseUintM] at h ⊢
    split at h
    · rename_i h1
      rw [if_pos h1]
      split at h
      · cases h
      · rename_i h2
        rw [if_neg h2]
        split at h
        · cases h
        · rename_i h3
          rw [if_neg h3]
          exact parse_app M r l2 _ a h
    · cases h
theorem parse_one {u : Nat} (h : u < 10) : Lib.parseUintM 18446744073709551615 0 [UInt8.ofNat (48 + u)] = .ok u := by
  simp only [Lib.parseUintM, dig_val h]
  rw [if_pos (by omega), if_neg (by omega), if_neg (by omega)]
  congr 1
  omega
theorem parse_dec : ∀ (k u : Nat), u ≤ k → u ≤ 18446744073709551615 → Lib.parseUintM 18446744073709551615 0 (Lib.decDigits u) = .ok u
  | 0, u, hk, hu => by
    rw [dec_unfold, if_pos (by omega)]
    exact parse_one (by omega)
  | k + 1, u, hk, hu => by
    rw [dec_unfold]
    split
    · rename_i h
      exact parse_one h
    · rename_i h
      have ih := parse_dec k (u / 10) (by omega) (by omega)
      rw [parse_app _ _ _ _ _ ih]
      have hm := Nat.mod_lt u (show 0 < 10 by decide)
      simp only [Lib.parseUintM, dig_val hm]
      rw [if_pos (by omega), if_neg (by omega), if_neg (by omega)]
      congr 1
      omega
theorem parseB_dec (u : Nat) (hu : u ≤ 18446744073709551615) : Lib.parseUintB 64 (Lib.decDigits u) = .ok u := by
  unfold Lib.parseUintB
  rw [if_neg (dec_ne u)]
  exact parse_dec u u (Nat.le_refl _) hu
theorem parse_itoa (n : Int) (hn : Fit n) : Lib.parseIntB 64 (Lib.itoa n) = .ok n := by
  obtain ⟨h1, h2⟩ := hn
  have e63 : (2 : Nat) ^ (64 - 1) = 9223372036854775808 := by decide
  unfold Lib.itoa
  split
  · rename_i h
    unfold Lib.parseIntB
    have c45 : (45 : UInt8).toNat = 45 := rfl
    simp only [c45, true_and, or_true, if_true, not_true_eq_false, false_and, if_false, parseB_dec n.natAbs (by omega), e63]
    rw [if_neg (by omega)]
    congr 1
    omega
  · rename_i h
    cases hd : Lib.decDigits n.toNat with
    | nil => exact absurd hd (dec_ne _)
    | cons c r =>
      have hc := dec_dig _ n.toNat (Nat.le_refl _) c (by rw [hd]; exact List.mem_cons_self)
      unfold Lib.parseIntB
      have x1 : ¬ c.toNat = 43 := by omega
      have x2 : ¬ c.toNat = 45 := by omega
      have key : Lib.parseUintB 64 (c :: r) = .ok n.toNat := by
        rw [← hd]
        exact parseB_dec n.toNat (by omega)
      simp only [x1, x2, or_self, if_false, key, e63, not_false_eq_true, true_and, false_and]
      rw [if_neg (by omega)]
      congr 1
      omega
theorem digD_dec {x : UInt8} (h : 48 ≤ x.toNat ∧ x.toNat ≤ 57) : digD (x.toNat : Int) < 10 := by
  unfold digD
  split
  · omega
  · split
    · omega
    · omega
theorem all_dec (u : Nat) : allD 10 (Lib.decDigits u) = true := allD_iff.2 ⟨dec_ne u, fun x hx => digD_dec (dec_dig _ u (Nat.le_refl _) x hx)⟩
theorem all_itoa (n : Int) : allD 10 (Lib.trimPrefix (Lib.itoa n) [45]) = true := by
  unfold Lib.itoa
  split
  · have : Lib.trimPrefix (45 :: Lib.decDigits n.natAbs) [45] = Lib.decDigits n.natAbs := by
      simp [Lib.trimPrefix, Lib.hasPrefix]
    rw [this]
    exact all_dec _
  · cases hd : Lib.decDigits n.toNat with
    | nil => exact absurd hd (dec_ne _)
    | cons c r =>
      have hc := dec_dig _ n.toNat (Nat.le_refl _) c (by rw [hd]; exact List.mem_cons_self)
      have : Lib.trimPrefix (c :: r) [45] = c :: r := by
        have hne : ¬ (45 : UInt8) = c := fun e => by
          rw [← e] at hc
          have : (45 : UInt8).toNat = 45 := rfl
          omega
        simp [Lib.trimPrefix, Lib.hasPrefix, hne]
      rw [this, ← hd]
      exact all_dec _
/-- What number answers to a text. -/
def NumR (s : ByteArray) (n : Int) : Prop := Fit n ∧ (∀ m, Fit m → s = numD m → n = m) ∧ (s = ⟨#[]⟩ → n = 0)
end Go.Proofs.YtfpiibccggjjpaaDoor
