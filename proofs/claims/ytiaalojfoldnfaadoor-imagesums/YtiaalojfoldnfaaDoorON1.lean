/-
  The reference's numbers: four digits to the base 65536.
-/
import Derived.Test.YtiaalojfoldnfaaDoorOM2
namespace Go.Proofs.YtiaalojfoldnfaaDoor
open Go.RowKit
set_option linter.unusedVariables false

theorem cell_blk {w : World} {b j : Nat} {cs : Array Value} {t : TypeId} {v : Value} (h : w.heap[b]? = some (.cells cs t)) (hv : cs[j]? = some v) : w.cell? ⟨b, j, none⟩ = some v := by
  simp [World.cell?, h, hv]
theorem set_one {w : World} {b : Nat} {cs : Array Value} {t : TypeId} (h : w.heap[b]? = some (.cells cs t)) (i : Nat) (v : Value) (hi : i < cs.size) :
    (w.setCell ⟨b, i, none⟩ v).heap[b]? = some (.cells (cs.set i v hi) t) := by
  have hlt := (Array.getElem?_eq_some_iff.1 h).1
  have hv := (Array.getElem?_eq_some_iff.1 h).2
  simp only [World.setCell, Array.getElem?_modify]
  simp [hlt, hv, hi, Array.setIfInBounds]

def numA (f : Nat → Nat) : Array Value := #[.int .i64 (f 0 : Nat), .int .i64 (f 1 : Nat), .int .i64 (f 2 : Nat), .int .i64 (f 3 : Nat)]
/-- The number whose digits f tells, at block b. -/
def NumAt (w : World) (b : Nat) (f : Nat → Nat) : Prop := w.heap[b]? = some (.cells (numA f) 30)
theorem numA_at (f : Nat → Nat) {k : Nat} (hk : k < 4) : (numA f)[k]? = some (.int .i64 (f k : Nat)) := by
  match k, hk with
  | 0, _ => rfl
  | 1, _ => rfl
  | 2, _ => rfl
  | 3, _ => rfl
theorem NumAt.cell {w : World} {b : Nat} {f : Nat → Nat} (h : NumAt w b f) {k : Nat} (hk : k < 4) : w.cell? ⟨b, k, none⟩ = some (.int .i64 (f k : Nat)) := cell_blk h (numA_at f hk)
theorem NumAt.frozen {w : World} {b : Nat} {f : Nat → Nat} (h : NumAt w b f) (k : Nat) : w.frozen? ⟨b, k, none⟩ = false := by
  have h : w.heap[b]? = some (.cells (numA f) 30) := h
  simp [World.frozen?, h]
theorem NumAt.lt {w : World} {b : Nat} {f : Nat → Nat} (h : NumAt w b f) : b < w.heap.size := (Array.getElem?_eq_some_iff.1 h).1
theorem NumAt.same {w : World} {b : Nat} {f g : Nat → Nat} (h : NumAt w b f) (e : ∀ k, k < 4 → f k = g k) : NumAt w b g := by
  have : numA f = numA g := by
    unfold numA
    rw [e 0 (by decide), e 1 (by decide), e 2 (by decide), e 3 (by decide)]
  unfold NumAt at h ⊢
  rw [← this]
  exact h
def updN (f : Nat → Nat) (k v : Nat) : Nat → Nat := fun j => if j = k then v else f j
theorem NumAt.set {w : World} {b : Nat} {f : Nat → Nat} (h : NumAt w b f) {k : Nat} (hk : k < 4) (v : Nat) : NumAt (w.setCell ⟨b, k, none⟩ (.int .i64 (v : Nat))) b (updN f k v) := by
  have := set_one h k (.int .i64 (v : Nat)) (show k < (numA f).size from hk)
  unfold NumAt
  rw [this]
  match k, hk with
  | 0, _ => rfl
  | 1, _ => rfl
  | 2, _ => rfl
  | 3, _ => rfl
/-- All blocks but q are as they were. -/
structure Kq (q : Nat) (w w' : World) : Prop where
  os : w'.os = w.os
  tape : w'.tape = w.tape
  output : w'.output = w.output
  size : w.heap.size ≤ w'.heap.size
  block : ∀ k, k < w.heap.size → k ≠ q → w'.heap[k]? = w.heap[k]?
theorem Kq.refl (q : Nat) (w : World) : Kq q w w := ⟨rfl, rfl, rfl, Nat.le_refl _, fun _ _ _ => rfl⟩
theorem Kq.trans {q : Nat} {w w1 w2 : World} (h : Kq q w w1) (k : Kq q w1 w2) : Kq q w w2 :=
  ⟨k.os.trans h.os, k.tape.trans h.tape, k.output.trans h.output, Nat.le_trans h.size k.size, fun i hi hn => (k.block i (Nat.lt_of_lt_of_le hi h.size) hn).trans (h.block i hi hn)⟩
theorem Kq.set {q : Nat} {w w1 : World} (h : Kq q w w1) (i : Nat) (v : Value) : Kq q w (w1.setCell ⟨q, i, none⟩ v) :=
  h.trans ⟨rfl, rfl, rfl, by simp [World.setCell], fun k _ hn => Below.heap_setCell _ ⟨q, i, none⟩ _ k hn⟩
theorem Kq.of {q : Nat} {w w1 : World} (h : Kp w w1) : Kq q w w1 := ⟨h.os, h.tape, h.output, h.size, fun k hk _ => h.block k hk⟩
theorem Kq.kp {q : Nat} {w0 w w1 : World} (h : Kq q w w1) (k : Kp w0 w) (hq : w0.heap.size ≤ q) : Kp w0 w1 :=
  ⟨h.os.trans k.os, h.tape.trans k.tape, h.output.trans k.output, Nat.le_trans k.size h.size, fun i hi => (h.block i (Nat.lt_of_lt_of_le hi k.size) (by omega)).trans (k.block i hi)⟩
theorem Kp.set {w w1 : World} (h : Kp w w1) {q : Nat} (hq : w.heap.size ≤ q) (i : Nat) (v : Value) : Kp w (w1.setCell ⟨q, i, none⟩ v) :=
  ((Kq.refl q w1).set i v).kp h hq
theorem NumAt.kp {w w1 : World} {b : Nat} {f : Nat → Nat} (h : NumAt w b f) (k : Kp w w1) : NumAt w1 b f := (k.block b h.lt).trans h
theorem NumAt.other {w : World} {b q : Nat} {f : Nat → Nat} (h : NumAt w b f) (hq : b ≠ q) (i : Nat) (v : Value) : NumAt (w.setCell ⟨q, i, none⟩ v) b f :=
  (Below.heap_setCell _ ⟨q, i, none⟩ _ b hq).trans h
theorem heap_new (w : World) (o : Obj) : (w.alloc o).heap[w.heap.size]? = some o := by
  show (w.heap.push o)[w.heap.size]? = _
  simp
theorem heap_old {w : World} {b : Nat} {x : Obj} (h : w.heap[b]? = some x) (o : Obj) : (w.alloc o).heap[b]? = some x :=
  (Below.heap_alloc w o b (Array.getElem?_eq_some_iff.1 h).1).trans h
theorem heap_next (w : World) (o q : Obj) : ((w.alloc o).alloc q).heap[w.heap.size + 1]? = some q := by
  have := heap_new (w.alloc o) q
  simpa using this
theorem NumAt.four {w : World} {b : Nat} {f : Nat → Nat} (h : NumAt w b f) :
    w.cell? ⟨b, 0, none⟩ = some (.int .i64 (f 0 : Nat)) ∧ w.cell? ⟨b, 1, none⟩ = some (.int .i64 (f 1 : Nat)) ∧ w.cell? ⟨b, 2, none⟩ = some (.int .i64 (f 2 : Nat)) ∧ w.cell? ⟨b, 3, none⟩ = some (.int .i64 (f 3 : Nat)) ∧
    w.frozen? ⟨b, 0, none⟩ = false ∧ w.frozen? ⟨b, 1, none⟩ = false ∧ w.frozen? ⟨b, 2, none⟩ = false ∧ w.frozen? ⟨b, 3, none⟩ = false :=
  ⟨h.cell (by decide), h.cell (by decide), h.cell (by decide), h.cell (by decide), h.frozen 0, h.frozen 1, h.frozen 2, h.frozen 3⟩
/-- A whole number stored. -/
theorem num_put {w0 w : World} {b : Nat} {f : Nat → Nat} (g : Nat → Nat) (h : NumAt w b f) (k : Kp w0 w) (hb : w0.heap.size ≤ b) {P : World → Prop} (hP : ∀ w4, NumAt w4 b g → Kp w0 w4 → (∀ i, i ≠ b → w4.heap[i]? = w.heap[i]?) → P w4) :
    P ((((w.setCell ⟨b, 0, none⟩ (.int .i64 (g 0 : Nat))).setCell ⟨b, 1, none⟩ (.int .i64 (g 1 : Nat))).setCell ⟨b, 2, none⟩ (.int .i64 (g 2 : Nat))).setCell ⟨b, 3, none⟩ (.int .i64 (g 3 : Nat))) := by
  refine hP _ ?_ ?_ ?_
  · have h0 := set_one h 0 (.int .i64 (g 0 : Nat)) (by simp [numA])
    have h1 := set_one h0 1 (.int .i64 (g 1 : Nat)) (by simp [numA])
    have h2 := set_one h1 2 (.int .i64 (g 2 : Nat)) (by simp [numA])
    have h3 := set_one h2 3 (.int .i64 (g 3 : Nat)) (by simp [numA])
    exact h3
  · exact Below.setCell (Below.setCell (Below.setCell (Below.setCell k hb _) hb _) hb _) hb _
  · intro i hi
    rw [Below.heap_setCell _ ⟨b, 3, none⟩ _ i hi, Below.heap_setCell _ ⟨b, 2, none⟩ _ i hi, Below.heap_setCell _ ⟨b, 1, none⟩ _ i hi, Below.heap_setCell _ ⟨b, 0, none⟩ _ i hi]

/-- The digit at place k. -/
def dig (v k : Nat) : Nat := v / 65536 ^ k % 65536
theorem dig_lt (v k : Nat) : dig v k < 65536 := Nat.mod_lt _ (by decide)
/-- The first i digits of f, then zeros. -/
def toN (f : Nat → Nat) (i : Nat) : Nat → Nat := fun j => if j < i then f j else 0
theorem toN_zero (f : Nat → Nat) (k : Nat) : (0 : Nat) = toN f 0 k := by
  unfold toN
  rw [if_neg (by omega)]
theorem toN_all (f : Nat → Nat) {i k : Nat} (h : k < i) : toN f i k = f k := if_pos h
theorem toN_upd (f : Nat → Nat) (i k : Nat) : updN (toN f i) i (f i) k = toN f (i + 1) k := by
  unfold updN toN
  by_cases e : k = i
  · subst e
    rw [if_pos rfl, if_pos (by omega)]
  · rw [if_neg e]
    by_cases e2 : k < i
    · rw [if_pos e2, if_pos (by omega)]
    · rw [if_neg e2, if_neg (by omega)]
def numV (f : Nat → Nat) : Value := .agg (numA f)

set_option maxHeartbeats 1000000 in
theorem digits_any (v : Nat) (hv : v < 18446744073709551616) (w : World) :
    Calls Tryd.prog 10 #[.int .u64 (v : Int)] w fun e w' => e = .returned (numV (dig v)) ∧ Kp w w' := by
  go_enter Tryd.func10, Tryd.ntmps10
  go_wp2_with fail
  go_loopw [0, 4] (fun vv vi wr => ∃ i : Nat, i ≤ 4 ∧ vi = .int .i64 (i : Int) ∧ vv = .int .u64 ((v / 65536 ^ i : Nat) : Int) ∧ NumAt wr (w.heap.size + 1) (toN (dig v) i) ∧ NumAt wr w.heap.size (fun _ => 0) ∧ Kp w wr) (fun _ vi _ => 4 - (intOf vi).toNat)
  case atStart =>
    refine ⟨0, Nat.zero_le _, rfl, by simp, ?_, heap_old (heap_new _ _) _, ((Kp.refl w).alloc _).alloc _⟩
    exact NumAt.same (f := fun _ => 0) (heap_next _ _ _) (fun k _ => toN_zero _ k)
  case round =>
    obtain ⟨i, hi, rfl, rfl, ho, hr, kr⟩ := hrel
    by_cases hlt : i < 4
    · have hlt' : (i : Int) < 4 := by omega
      have hc := ho.cell hlt
      have hz := ho.frozen i
      have hd : Hid (v / 65536 ^ i % 65536 = dig v i) := rfl
      have hn : Hid (v / 65536 ^ (i + 1) = v / 65536 ^ i / 65536) := by show _ = _; rw [Nat.pow_succ, Nat.div_div_eq_div_mul]
      have hX : v / 65536 ^ i ≤ v := Nat.div_le_self _ _
      generalize v / 65536 ^ i = X at *
      have hX2 : X < 18446744073709551616 := by omega
      go_wp2_with fail
      have hset := ho.set hlt (X % 65536)
      rw [Int.natCast_emod] at hset
      refine ⟨⟨i + 1, by omega, by simp, ?_, ?_, hr.other (by omega) _ _, kr.set (by omega) _ _⟩, by simp [intOf]; omega⟩
      · rw [hn.out, Int.natCast_ediv]
        rfl
      · have e : X % 65536 = dig v i := hd
        rw [e] at hset
        exact hset.same fun k _ => toN_upd (dig v) i k
    · have hlt' : ¬ (i : Int) < 4 := by omega
      replace ho : NumAt wr (w.heap.size + 1) (dig v) := ho.same fun k hk => toN_all _ (by omega)
      obtain ⟨a0, a1, a2, a3, -⟩ := ho.four
      obtain ⟨-, -, -, -, f0, f1, f2, f3⟩ := hr.four
      obtain ⟨b0, b1, b2, b3, -⟩ := hr.four
      go_wp2_with fail
      refine num_put (dig v) hr kr (Nat.le_refl _) (P := fun w9 => bodyPost _ _ _ _ _ w9) fun w9 h9 k9 _ => ?_
      obtain ⟨c0, c1, c2, c3, -⟩ := h9.four
      exact bodyPost_ret (v := numV (dig v)) (by simp [results, Tryd.results10, go_sem, numV, numA, c0, c1, c2, c3]) rfl ⟨rfl, k9⟩
end Go.Proofs.YtiaalojfoldnfaaDoor
