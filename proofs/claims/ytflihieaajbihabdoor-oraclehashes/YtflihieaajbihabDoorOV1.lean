/-
  An oracle's overrides: add, Hash.
-/
import Derived.Test.YtflihieaajbihabDoorOMap
import Derived.RegionTactic
namespace Go.Proofs.YtflihieaajbihabDoor
open Go.RowKit
set_option linter.unusedVariables false

theorem cell_blk {w : World} {b j : Nat} {cs : Array Value} {t : TypeId} {v : Value} (h : w.heap[b]? = some (.cells cs t)) (hv : cs[j]? = some v) : w.cell? ⟨b, j, none⟩ = some v := by
  simp [World.cell?, h, hv]
theorem heap_new (w : World) (o : Obj) : (w.alloc o).heap[w.heap.size]? = some o := by
  show (w.heap.push o)[w.heap.size]? = _
  simp
theorem heap_old {w : World} {b : Nat} {x : Obj} (h : w.heap[b]? = some x) (o : Obj) : (w.alloc o).heap[b]? = some x :=
  (Below.heap_alloc w o b (Array.getElem?_eq_some_iff.1 h).1).trans h
theorem Kp.blk {w w1 : World} {b : Nat} {x : Obj} (h : Kp w w1) (hb : w.heap[b]? = some x) : w1.heap[b]? = some x := (h.block b (Array.getElem?_eq_some_iff.1 hb).1).trans hb

/-- An oracle at block p, its overrides in the map at block m. -/
def OrcAt (w : World) (p m n : Nat) (f : List UInt8 → Option Nat) : Prop := w.heap[p]? = some (.cells #[.map (some m)] 45) ∧ MapS w m n f
theorem OrcAt.kp {w w1 : World} {p m n : Nat} {f : List UInt8 → Option Nat} (h : OrcAt w p m n f) (k : Kp w w1) : OrcAt w1 p m n f := ⟨k.blk h.1, h.2.kp k⟩
theorem OrcAt.cell {w : World} {p m n : Nat} {f : List UInt8 → Option Nat} (h : OrcAt w p m n f) : w.cell? ⟨p, 0, none⟩ = some (.map (some m)) := cell_blk h.1 rfl

/-- What the oracle answers. -/
def hashN (f : List UInt8 → Option Nat) (seed : Nat) (k : List UInt8) : Nat := (f k).getD (mixN seed k)

set_option maxHeartbeats 1000000 in
theorem hash_none (seed : Int) (key : ByteArray) (X : Nat) {p m : Nat} (w : World) (hc : w.cell? ⟨p, 0, none⟩ = some (.map (some m)))
    (hk : (Instr.lookup 43 (.map (some m)) (.string key) true).run Tryd.prog w = .ok (.tuple #[.int .u64 0, .bool false]) w)
    (hM : Calls Tryd.prog 9 #[.int .u64 seed, .string key] w fun e w' => e = .returned (.int .u64 (X : Nat)) ∧ Kp w w') :
    Calls Tryd.prog 6 #[.pointer (some ⟨p, 0, none⟩), .int .u64 seed, .string key] w fun e w' => e = .returned (.int .u64 (X : Nat)) ∧ Kp w w' := by
  go_enter Tryd.func6, Tryd.ntmps6
  go_wp2_with fail
  refine hM.mono ?_
  rintro r w1 ⟨rfl, k1⟩
  go_wp2_with fail
  go_ret
  exact ⟨rfl, k1⟩

set_option maxHeartbeats 1000000 in
theorem hash_some (seed : Int) (key : ByteArray) (a : Nat) {p m : Nat} (w : World) (hc : w.cell? ⟨p, 0, none⟩ = some (.map (some m)))
    (hk : (Instr.lookup 43 (.map (some m)) (.string key) true).run Tryd.prog w = .ok (.tuple #[.int .u64 (a : Int), .bool true]) w) :
    Calls Tryd.prog 6 #[.pointer (some ⟨p, 0, none⟩), .int .u64 seed, .string key] w fun e w' => e = .returned (.int .u64 (a : Int)) ∧ Kp w w' := by
  go_enter Tryd.func6, Tryd.ntmps6
  go_wp2_with fail
  go_ret
  exact ⟨rfl, Kp.refl _⟩

theorem hashN_none {f : List UInt8 → Option Nat} {seed : Nat} {k : List UInt8} (h : f k = none) : hashN f seed k = mixN seed k := by
  unfold hashN
  rw [h, Option.getD_none]
theorem hashN_some {f : List UInt8 → Option Nat} {seed a : Nat} {k : List UInt8} (h : f k = some a) : hashN f seed k = a := by
  unfold hashN
  rw [h, Option.getD_some]
theorem look_none {w : World} {m n : Nat} {f : List UInt8 → Option Nat} (h : MapS w m n f) {key : ByteArray} (hl : key.size ≤ maxLen) (hf : f key.data.toList = none) :
    (Instr.lookup 43 (.map (some m)) (.string key) true).run Tryd.prog w = .ok (.tuple #[.int .u64 0, .bool false]) w := by
  have hk := h.look Tryd.underlying43 hl
  rw [hf, Option.getD_none, Option.isSome_none] at hk
  exact hk
theorem look_some {w : World} {m n a : Nat} {f : List UInt8 → Option Nat} (h : MapS w m n f) {key : ByteArray} (hl : key.size ≤ maxLen) (hf : f key.data.toList = some a) :
    (Instr.lookup 43 (.map (some m)) (.string key) true).run Tryd.prog w = .ok (.tuple #[.int .u64 (a : Int), .bool true]) w := by
  have hk := h.look Tryd.underlying43 hl
  rw [hf, Option.getD_some, Option.isSome_some] at hk
  exact hk
theorem max_of {n : Nat} (h : n < 9223372036854775808) : n ≤ maxLen := by
  unfold maxLen
  omega
theorem hash_any (seed : Nat) (key : ByteArray) {p m n : Nat} {f : List UInt8 → Option Nat} (w : World) (h : OrcAt w p m n f) (hs : seed < 18446744073709551616) (hl : key.size < 9223372036854775808) (ho : OddAt w) (R : Nat) (hR : R = hashN f seed key.data.toList) :
    Calls Tryd.prog 6 #[.pointer (some ⟨p, 0, none⟩), .int .u64 (seed : Int), .string key] w fun e w' => e = .returned (.int .u64 ((R : Nat) : Int)) ∧ Kp w w' := by
  cases hf : f key.data.toList with
  | none =>
    rw [hashN_none hf] at hR
    rw [hR]
    exact hash_none _ key _ w h.cell (look_none h.2 (max_of hl) hf) (mix_any seed key w hs hl ho)
  | some a =>
    rw [hashN_some hf] at hR
    rw [hR]
    exact hash_some _ key a w h.cell (look_some h.2 (max_of hl) hf)

set_option maxHeartbeats 1000000 in
theorem add_long (key : ByteArray) (x : Nat) (p : Nat) (w : World) (hb : key.size < 1 ∨ 128 < key.size) (hl : key.size ≤ maxLen) :
    Calls Tryd.prog 11 #[.pointer (some ⟨p, 0, none⟩), .agg #[.string key, .int .u64 (x : Int)]] w fun e w' => e = .returned (.int .i64 41) ∧ Kp w w' := by
  by_cases h1 : key.size < 1
  · have h1' : (key.size : Int) < 1 := by omega
    clear hb
    go_enter Tryd.func11, Tryd.ntmps11
    go_wp2_with fail
    go_ret
    exact ⟨rfl, (Kp.refl _).alloc _⟩
  · have h1' : ¬ (key.size : Int) < 1 := by omega
    have h2' : (128 : Int) < (key.size : Int) := by omega
    clear hb
    go_enter Tryd.func11, Tryd.ntmps11
    go_wp2_with fail
    go_ret
    exact ⟨rfl, (Kp.refl _).alloc _⟩

theorem Kp.drewN {w w1 : World} (h : Kp w w1) (n : Nat) : Kp w (w1.drewN n) := ⟨h.os, h.tape, h.output, h.size, h.block⟩
/-- What add leaves. -/
def AddPost (w : World) (p m n : Nat) (f : List UInt8 → Option Nat) (e : Ending) (w' : World) : Prop :=
  e = .returned (.int .i64 0) ∧ OrcAt w' p m (n + 1) f ∧ w.heap.size ≤ w'.heap.size ∧ (∀ k, k < w.heap.size → k ≠ m → w'.heap[k]? = w.heap[k]?) ∧ w'.os = w.os ∧ w'.tape = w.tape ∧ w'.output = w.output

set_option maxHeartbeats 1000000 in
theorem add_twice (key : ByteArray) (x a : Nat) {p m n : Nat} {f : List UInt8 → Option Nat} (w : World) (h : OrcAt w p m n f) (hb1 : 1 ≤ key.size) (hb2 : key.size ≤ 128) (hf : f key.data.toList = some a) :
    Calls Tryd.prog 11 #[.pointer (some ⟨p, 0, none⟩), .agg #[.string key, .int .u64 (x : Int)]] w fun e w' => e = .returned (.int .i64 42) ∧ Kp w w' := by
  have hl : key.size ≤ maxLen := Nat.le_trans hb2 (by decide)
  have h1' : ¬ (key.size : Int) < 1 := by omega
  have h2' : ¬ (128 : Int) < (key.size : Int) := by omega
  have hO := h.kp ((Kp.refl w).alloc (.cells #[.string key, .int .u64 (x : Int)] 37))
  have hc := hO.cell
  have hk := fun n => look_some (w := (w.alloc (.cells #[.string key, .int .u64 (x : Int)] 37)).drewN n) (hO.2.same rfl) hl hf
  have c0 : (w.alloc (.cells #[.string key, .int .u64 (x : Int)] 37)).cell? ⟨w.heap.size, 0, none⟩ = some (.string key) := cell_blk (heap_new _ _) rfl
  have c1 : (w.alloc (.cells #[.string key, .int .u64 (x : Int)] 37)).cell? ⟨w.heap.size, 1, none⟩ = some (.int .u64 (x : Int)) := cell_blk (heap_new _ _) rfl
  have kw : Kp w (w.alloc (.cells #[.string key, .int .u64 (x : Int)] 37)) := (Kp.refl w).alloc _
  clear h hO
  go_enter Tryd.func11, Tryd.ntmps11
  go_wp2_with fail
  generalize hB : w.heap.size = B at *
  generalize (w.alloc (.cells #[.string key, .int .u64 (x : Int)] 37)) = W at *
  go_quiet (fail)
  go_wp2_with fail
  go_ret
  exact ⟨rfl, kw.drewN _⟩

set_option maxHeartbeats 1000000 in
theorem add_new (key : ByteArray) (x : Nat) {p m n : Nat} {f : List UInt8 → Option Nat} (w : World) (h : OrcAt w p m n f) (hb1 : 1 ≤ key.size) (hb2 : key.size ≤ 128) (hf : f key.data.toList = none) (hn : n < 1000) :
    Calls Tryd.prog 11 #[.pointer (some ⟨p, 0, none⟩), .agg #[.string key, .int .u64 (x : Int)]] w (AddPost w p m n (updS f key.data.toList (some x))) := by
  have hl : key.size ≤ maxLen := Nat.le_trans hb2 (by decide)
  have h1' : ¬ (key.size : Int) < 1 := by omega
  have h2' : ¬ (128 : Int) < (key.size : Int) := by omega
  have hO := h.kp ((Kp.refl w).alloc (.cells #[.string key, .int .u64 (x : Int)] 37))
  have hc := hO.cell
  have hk := fun n => look_none (w := (w.alloc (.cells #[.string key, .int .u64 (x : Int)] 37)).drewN n) (hO.2.same rfl) hl hf
  have c0 : (w.alloc (.cells #[.string key, .int .u64 (x : Int)] 37)).cell? ⟨w.heap.size, 0, none⟩ = some (.string key) := cell_blk (heap_new _ _) rfl
  have c1 : (w.alloc (.cells #[.string key, .int .u64 (x : Int)] 37)).cell? ⟨w.heap.size, 1, none⟩ = some (.int .u64 (x : Int)) := cell_blk (heap_new _ _) rfl
  have kw : Kp w (w.alloc (.cells #[.string key, .int .u64 (x : Int)] 37)) := (Kp.refl w).alloc _
  clear h
  go_enter Tryd.func11, Tryd.ntmps11
  go_wp2_with fail
  generalize hB : w.heap.size = B at *
  generalize (w.alloc (.cells #[.string key, .int .u64 (x : Int)] 37)) = W at *
  go_quiet (fail)
  go_wp2_with fail
  have hS : MapS (W.drewN (nq + 1)) m n f := hO.2.same rfl
  obtain ⟨w2, r2, m2, s1, s2, s3, s4, s5⟩ := hS.store Tryd.underlying43 (by unfold maxLen; omega) hl x
  have hpm : p ≠ m := by
    intro e
    obtain ⟨D, ⟨es, cl, hb, _⟩, _⟩ := hO.2
    have := hO.1
    rw [e, hb] at this
    cases this
  have hend : Hid (AddPost w p m n (updS f key.data.toList (some x)) (.returned (.int .i64 0)) w2) := by
    have hsz : W.heap.size = (W.drewN (nq + 1)).heap.size := rfl
    refine ⟨rfl, ⟨(s2 p hpm).trans hO.1, m2⟩, by rw [s1, ← hsz]; exact kw.size, fun k hk hkm => (s2 k hkm).trans (kw.block k hk), s3.trans kw.os, s4.trans kw.tape, s5.trans kw.output⟩
  clear hS m2 s1 s2 s3 s4 s5 hpm hO kw hk
  go_region
  go_wp2_with fail
  go_ret
  exact hend.out
end Go.Proofs.YtflihieaajbihabDoor
