/-
  A map from texts to numbers, as a partial function.
-/
import Derived.Test.YtflihieaajbihabDoorOM2
import Derived.Maps.OwnSet
namespace Go.Proofs.YtflihieaajbihabDoor
open Go.RowKit Go.Maps Go.WideMaps

def rdS : Value → Option (DataW Unit × List MemPlace)
  | .int .u64 a => some (.lit (.int .u64 a), [])
  | _ => none
theorem rdS_int (a : Int) : rdS (.int .u64 a) = some (.lit (.int .u64 a), []) := rfl
theorem rdS_inv {v : Value} {a : Int} {ps : List MemPlace} (h : rdS v = some (.lit (.int .u64 a), ps)) : v = .int .u64 a := by
  unfold rdS at h
  split at h
  · simp at h
    rw [h.1]
  · cases h
theorem key_ne {x y : List UInt8} (h : x ≠ y) : Lit.string x ≠ Lit.string y := fun e => h (by simpa using e)

/-- Block b is a map that holds a at each key x with f x = some a, and nothing else. -/
def MapS (w : World) (b n : Nat) (f : List UInt8 → Option Nat) : Prop :=
  ∃ D : DataW Unit, w.ownsMap Tryd.prog 9 rdS b n D ∧ ∀ x, has D (.string x) = (f x).isSome ∧ ∀ a, f x = some a → ∀ z, D.atKey (.string x) z = .lit (.int .u64 (a : Nat))
def updS (f : List UInt8 → Option Nat) (x : List UInt8) (a : Option Nat) : List UInt8 → Option Nat := fun y => if y = x then a else f y
theorem updS_same (f : List UInt8 → Option Nat) (x : List UInt8) (a : Option Nat) : updS f x a x = a := by simp [updS]
theorem updS_other (f : List UInt8 → Option Nat) (x y : List UInt8) (a : Option Nat) (h : y ≠ x) : updS f x a y = f y := by simp [updS, h]
theorem law9 : Keyed Tryd.prog 9 := string_keyed Tryd.underlying9

section
variable {w : World} {b n : Nat} {f : List UInt8 → Option Nat}
theorem MapS.lt (h : MapS w b n f) : b < w.heap.size := by
  obtain ⟨D, ho, _⟩ := h
  exact ho.lt
theorem MapS.same {w' : World} (h : MapS w b n f) (e : w'.heap[b]? = w.heap[b]?) : MapS w' b n f := by
  obtain ⟨D, ho, hd⟩ := h
  obtain ⟨es, clock, hb, r⟩ := ho
  exact ⟨D, ⟨es, clock, e.trans hb, r⟩, hd⟩
theorem MapS.kp {w' : World} (h : MapS w b n f) (k : Kp w w') : MapS w' b n f := h.same (k.block b h.lt)
theorem MapS.made (w : World) : MapS (w.alloc (.map #[] 0)) w.heap.size 0 (fun _ => none) :=
  ⟨.map [], World.ownsMap_made w Tryd.prog 9 rdS, fun x => ⟨rfl, fun a h => by cases h⟩⟩
theorem MapS.store {t : TypeId} (ht : Tryd.prog.underlying t = some (.map 9 31)) (h : MapS w b n f) (hn : n < maxLen) {s : ByteArray} (hs : s.size ≤ maxLen) (a : Nat) :
    ∃ w', (Instr.mapUpdate t (.map (some b)) (.string s) (.int .u64 (a : Int))).run Tryd.prog w = .ok () w' ∧ MapS w' b (n + 1) (updS f s.data.toList (some a)) ∧ w'.heap.size = w.heap.size ∧ (∀ k, k ≠ b → w'.heap[k]? = w.heap[k]?) ∧ w'.os = w.os ∧ w'.tape = w.tape ∧ w'.output = w.output := by
  obtain ⟨D, ho, hd⟩ := h
  obtain ⟨w', hrun, ho', ht'⟩ := ho.store law9 ht hn (keyOf_string_mk (s := s) Tryd.underlying9 hs) (rdS_int (a : Int))
  refine ⟨w', hrun, ⟨_, ho', fun y => ?_⟩, ?_, ?_, ?_⟩
  · by_cases hxy : y = s.data.toList
    · subst hxy
      exact ⟨by rw [has_put_same (k := .string s.data.toList) ho.isMap trivial, updS_same]; rfl, fun a' ha z => by rw [updS_same] at ha; cases ha; exact atKey_put_same (k := .string s.data.toList) ho.isMap trivial _ _⟩
    · obtain ⟨h1, h2⟩ := hd y
      exact ⟨by rw [has_put_other (key_ne hxy), h1, updS_other _ _ _ _ hxy], fun a' ha z => by rw [updS_other _ _ _ _ hxy] at ha; rw [atKey_put_other (key_ne hxy)]; exact h2 a' ha z⟩
  · obtain ⟨es, cl, es', cl', hb, rfl⟩ := ht'
    simp [Go.ChangeMaps.setBlock]
  · obtain ⟨es, cl, es', cl', hb, rfl⟩ := ht'
    exact fun k hk => Go.ChangeMaps.heap_setBlock_other hb _ hk
  · obtain ⟨es, cl, es', cl', hb, rfl⟩ := ht'
    exact ⟨rfl, rfl, rfl⟩
theorem MapS.look {t : TypeId} (ht : Tryd.prog.underlying t = some (.map 9 31)) (h : MapS w b n f) {s : ByteArray} (hs : s.size ≤ maxLen) :
    (Instr.lookup t (.map (some b)) (.string s) true).run Tryd.prog w = .ok (.tuple #[.int .u64 (((f s.data.toList).getD 0 : Nat) : Int), .bool (f s.data.toList).isSome]) w := by
  obtain ⟨D, ho, hd⟩ := h
  obtain ⟨h1, h2⟩ := hd s.data.toList
  have hz : (zeroValue 31).run Tryd.prog w = .ok (.int .u64 0) w := by kernel_rfl
  obtain ⟨v, ps, hrun, hv⟩ := ho.look_ok law9 ht hz (rdS_int 0) (keyOf_string_mk (s := s) Tryd.underlying9 hs)
  rw [hrun, h1]
  cases hf : f s.data.toList with
  | none =>
    rw [hf] at h1
    rw [atKey_of_not_has h1] at hv
    rw [rdS_inv hv]
    rfl
  | some a =>
    rw [h2 a hf] at hv
    rw [rdS_inv hv]
    rfl
end
end Go.Proofs.YtflihieaajbihabDoor
