/-
  Maps keyed by int whose elements are ints or pointers to a block's head, as partial functions. Nothing here names the program.
-/
import Derived.Test.YtmfmiaiijepgdaaBase6
import Derived.Maps.OwnSet
namespace Go.Proofs.Ytmfmiaiijepgdaa
open Go.RowKit Go.Maps

/-- How an element reads: an int, a nil pointer, a pointer to a block's head. -/
def rdr : Value → Option (DataW Unit × List MemPlace)
  | .int .i64 a => some (.lit (.int .i64 a), [])
  | .pointer none => some (.lit (.bool false), [])
  | .pointer (some ⟨b, 0, none⟩) => some (.lit (.int .u64 b), [])
  | _ => none
theorem rdr_int (a : Int) : rdr (.int .i64 a) = some (.lit (.int .i64 a), []) := rfl
theorem rdr_nil : rdr (.pointer none) = some (.lit (.bool false), []) := rfl
theorem rdr_ptr (b : Nat) : rdr (.pointer (some ⟨b, 0, none⟩)) = some (.lit (.int .u64 b), []) := rfl
theorem rdr_int_inv {v : Value} {a : Int} {ps : List MemPlace} (h : rdr v = some (.lit (.int .i64 a), ps)) : v = .int .i64 a := by
  unfold rdr at h
  split at h
  · simp at h
    rw [h.1]
  · simp at h
  · simp at h
  · cases h
theorem rdr_nil_inv {v : Value} {ps : List MemPlace} (h : rdr v = some (.lit (.bool false), ps)) : v = .pointer none := by
  unfold rdr at h
  split at h
  · simp at h
  · rfl
  · simp at h
  · cases h
theorem rdr_ptr_inv {v : Value} {b : Nat} {ps : List MemPlace} (h : rdr v = some (.lit (.int .u64 b), ps)) : v = .pointer (some ⟨b, 0, none⟩) := by
  unfold rdr at h
  split at h
  · simp at h
  · simp at h
  · simp at h
    have := Int.ofNat_inj.1 h.1
    subst this
    rfl
  · cases h

/-- A key: an int that fits. -/
def fitsI (x : Int) : Prop := (Lit.int .i64 x).wf = true
theorem fitsI_mk {x : Int} (h1 : -9223372036854775808 ≤ x) (h2 : x ≤ 9223372036854775807) : fitsI x := WalkArith.wf_i64 ⟨h1, h2⟩
theorem fitsI_bounds {x : Int} (h : fitsI x) : -9223372036854775808 ≤ x ∧ x ≤ 9223372036854775807 := by
  simp [fitsI, Lit.wf, IntKind.min, IntKind.max, IntKind.signed, IntKind.bits] at h
  omega
theorem lit_ne {x y : Int} (h : x ≠ y) : Lit.int .i64 x ≠ Lit.int .i64 y := fun e => h (by simpa using e)

/-- Block b is a map that holds c a at each key x with f x = some a, and nothing else. -/
def MapTo {α : Type} (P : Program) (c : α → DataW Unit) (w : World) (b n : Nat) (f : Int → Option α) : Prop :=
  ∃ D : DataW Unit, w.ownsMap P 3 rdr b n D ∧ ∀ x, fitsI x → has D (.int .i64 x) = (f x).isSome ∧ ∀ a, f x = some a → ∀ z, D.atKey (.int .i64 x) z = c a
def cInt (a : Int) : DataW Unit := .lit (.int .i64 a)
def cPtr (b : Nat) : DataW Unit := .lit (.int .u64 b)
def upd {α : Type} (f : Int → Option α) (x : Int) (a : Option α) : Int → Option α := fun y => if y = x then a else f y
theorem upd_same {α : Type} (f : Int → Option α) (x : Int) (a : Option α) : upd f x a x = a := by simp [upd]
theorem upd_other {α : Type} (f : Int → Option α) (x y : Int) (a : Option α) (h : y ≠ x) : upd f x a y = f y := by simp [upd, h]

section
variable {P : Program} {α : Type} {c : α → DataW Unit} {w : World} {b n : Nat} {f : Int → Option α}

theorem MapTo.lt (h : MapTo P c w b n f) : b < w.heap.size := by
  obtain ⟨D, ho, _⟩ := h
  exact ho.lt
theorem MapTo.keeps {w' : World} {S : Nat → Prop} (h : MapTo P c w b n f) (k : Keeps w w' S) (hS : ¬ S b) : MapTo P c w' b n f := by
  obtain ⟨D, ho, hd⟩ := h
  have hlt := ho.lt
  obtain ⟨es, clock, hb, r⟩ := ho
  exact ⟨D, ⟨es, clock, (k.block b hlt hS).trans hb, r⟩, hd⟩
theorem MapTo.drew (h : MapTo P c w b n f) : MapTo P c w.drew b n f := h
theorem MapTo.made (P : Program) (c : α → DataW Unit) (w : World) : MapTo P c (w.alloc (.map #[] 0)) w.heap.size 0 (fun _ => none) :=
  ⟨.map [], World.ownsMap_made w P 3 rdr, fun x _ => ⟨rfl, fun a h => by cases h⟩⟩

variable (hu3 : P.underlying 3 = some (.int .i64))
include hu3

theorem key_of {x : Int} (hx : fitsI x) : keyOf P 3 (.int .i64 x) = some (.int .i64 x) := keyOf_int_mk hu3 hx

/-- A store. -/
theorem MapTo.store {t e : TypeId} (ht : P.underlying t = some (.map 3 e)) (h : MapTo P c w b n f) (hn : n < maxLen) {x : Int} (hx : fitsI x) {v : Value} {a : α} {ps : List MemPlace} (hv : rdr v = some (c a, ps)) :
    ∃ w', (Instr.mapUpdate t (.map (some b)) (.int .i64 x) v).run P w = .ok () w' ∧ MapTo P c w' b (n + 1) (upd f x (some a)) ∧ Keeps w w' (fun k => k = b) := by
  obtain ⟨D, ho, hd⟩ := h
  obtain ⟨w', hrun, ho', ht'⟩ := ho.store (int_keyed hu3) ht hn (key_of hu3 hx) hv
  refine ⟨w', hrun, ⟨_, ho', fun y hy => ?_⟩, (Keeps.ofGrown ht'.grown).mono (fun i _ e => by simpa using e.symm)⟩
  by_cases hxy : y = x
  · subst hxy
    exact ⟨by rw [has_put_same (k := .int .i64 y) ho.isMap trivial, upd_same]; rfl, fun a' ha z => by rw [upd_same] at ha; cases ha; exact atKey_put_same (k := .int .i64 y) ho.isMap trivial _ _⟩
  · obtain ⟨h1, h2⟩ := hd y hy
    exact ⟨by rw [has_put_other (lit_ne hxy), h1, upd_other _ _ _ _ hxy], fun a' ha z => by rw [upd_other _ _ _ _ hxy] at ha; rw [atKey_put_other (lit_ne hxy)]; exact h2 a' ha z⟩
/-- A key is struck. -/
theorem MapTo.strike {t e : TypeId} (ht : P.underlying t = some (.map 3 e)) (h : MapTo P c w b n f) {x : Int} (hx : fitsI x) :
    ∃ w', (∀ ty, (Builtin.delete_ #[t, 3] ty #[.map (some b), .int .i64 x]).run P w = .ok (.tuple #[]) w') ∧ MapTo P c w' b n (upd f x none) ∧ Keeps w w' (fun k => k = b) := by
  obtain ⟨D, ho, hd⟩ := h
  obtain ⟨w', hrun, ho', ht'⟩ := ho.drop (int_keyed hu3) ht (key_of hu3 hx) 0
  refine ⟨w', fun ty => hrun, ⟨_, ho', fun y hy => ?_⟩, (Keeps.ofGrown ht'.grown).mono (fun i _ e => by simpa using e.symm)⟩
  by_cases hxy : y = x
  · subst hxy
    exact ⟨by rw [has_del_same, upd_same]; rfl, fun a' ha => by rw [upd_same] at ha; cases ha⟩
  · obtain ⟨h1, h2⟩ := hd y hy
    exact ⟨by rw [has_del_other (lit_ne hxy), h1, upd_other _ _ _ _ hxy], fun a' ha z => by rw [upd_other _ _ _ _ hxy] at ha; rw [atKey_del_other (lit_ne hxy)]; exact h2 a' ha z⟩
end

section
variable {P : Program} {w : World} {b n : Nat} (hu3 : P.underlying 3 = some (.int .i64))
include hu3

/-- A look into a map of ints: with ok. -/
theorem look_ok_int {f : Int → Option Int} {t : TypeId} (ht : P.underlying t = some (.map 3 3)) (hz : (zeroValue 3).run P w = .ok (.int .i64 0) w) (h : MapTo P cInt w b n f) {x : Int} (hx : fitsI x) :
    (Instr.lookup t (.map (some b)) (.int .i64 x) true).run P w = .ok (.tuple #[.int .i64 ((f x).getD 0), .bool (f x).isSome]) w := by
  obtain ⟨D, ho, hd⟩ := h
  obtain ⟨h1, h2⟩ := hd x hx
  obtain ⟨v, ps, hrun, hv⟩ := ho.look_ok (int_keyed hu3) ht hz (rdr_int 0) (key_of hu3 hx)
  rw [hrun, h1]
  cases hf : f x with
  | none =>
    rw [hf] at h1
    rw [atKey_of_not_has h1] at hv
    rw [rdr_int_inv hv]
    rfl
  | some a =>
    rw [h2 a hf] at hv
    rw [rdr_int_inv hv]
    rfl
/-- .. without ok. -/
theorem look_int {f : Int → Option Int} {t : TypeId} (ht : P.underlying t = some (.map 3 3)) (hz : (zeroValue 3).run P w = .ok (.int .i64 0) w) (h : MapTo P cInt w b n f) {x : Int} (hx : fitsI x) :
    (Instr.lookup t (.map (some b)) (.int .i64 x) false).run P w = .ok (.int .i64 ((f x).getD 0)) w := by
  obtain ⟨D, ho, hd⟩ := h
  obtain ⟨h1, h2⟩ := hd x hx
  obtain ⟨v, ps, hrun, hv⟩ := ho.lookup (int_keyed hu3) ht hz (rdr_int 0) (key_of hu3 hx)
  rw [hrun]
  cases hf : f x with
  | none =>
    rw [hf] at h1
    rw [atKey_of_not_has h1] at hv
    rw [rdr_int_inv hv]
    rfl
  | some a =>
    rw [h2 a hf] at hv
    rw [rdr_int_inv hv]
    rfl
/-- A look into a map of pointers. -/
theorem look_ptr {f : Int → Option Nat} {t e : TypeId} (ht : P.underlying t = some (.map 3 e)) (hz : (zeroValue e).run P w = .ok (.pointer none) w) (h : MapTo P cPtr w b n f) {x : Int} (hx : fitsI x) :
    (Instr.lookup t (.map (some b)) (.int .i64 x) false).run P w = .ok (.pointer ((f x).map (fun g => ⟨g, 0, none⟩))) w := by
  obtain ⟨D, ho, hd⟩ := h
  obtain ⟨h1, h2⟩ := hd x hx
  obtain ⟨v, ps, hrun, hv⟩ := ho.lookup (int_keyed hu3) ht hz rdr_nil (key_of hu3 hx)
  rw [hrun]
  cases hf : f x with
  | none =>
    rw [hf] at h1
    rw [atKey_of_not_has h1] at hv
    rw [rdr_nil_inv hv]
    rfl
  | some a =>
    rw [h2 a hf] at hv
    rw [rdr_ptr_inv hv]
    rfl
end
end Go.Proofs.Ytmfmiaiijepgdaa
