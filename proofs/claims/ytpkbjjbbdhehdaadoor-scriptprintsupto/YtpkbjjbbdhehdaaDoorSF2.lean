/-
  script: FormatUint to the base 16.
-/
import Derived.Test.YtpkbjjbbdhehdaaDoorSF1
import Derived.Laws.BitsAllLaws
namespace Go.Proofs.YtpkbjjbbdhehdaaDoor
open Go.RowKit
set_option linter.unusedVariables false
/-- The cell of the table of math/bits that is read for 16. -/
def Deb (w : World) : Prop := w.cell? ⟨4, 15, none⟩ = some (.int .u8 4)
set_option maxRecDepth 100000 in
theorem tz64_16 (w : World) (hD : Deb w) : Calls Tryd.prog 48 #[.int .u64 16] w fun e w' => e = .returned (.int .i64 4) ∧ w' = w := by
  have hD' : w.cell? ⟨4, 15, none⟩ = some (.int .u8 4) := hD
  have h1 : bits BinOp.and IntKind.u64 16 (IntKind.u64.wrap (-16)) = 16 := by decide +kernel
  have h2 : IntKind.u64.wrap 4573923408821661840 = 4573923408821661840 := by decide +kernel
  go_enter Tryd.func48, Tryd.ntmps48
  go_wp2_with fail
  go_ret
  exact ⟨rfl, rfl⟩
set_option maxRecDepth 100000 in
theorem tz_16 (w : World) (hD : Deb w) : Calls Tryd.prog 46 #[.int .u64 16] w fun e w' => e = .returned (.int .i64 4) ∧ w' = w := by
  have h := tz64_16 w hD
  go_enter Tryd.func46, Tryd.ntmps46
  go_wp2_with fail
  (with_reducible refine h.mono ?_)
  rintro e w1 ⟨rfl, rfl⟩
  go_wp2_with fail
  go_ret
  exact ⟨rfl, rfl⟩
set_option maxRecDepth 100000 in
theorem pow2_16 (w : World) : Calls Tryd.prog 45 #[.int .i64 16] w fun e w' => e = .returned (.bool true) ∧ w' = w := by
  go_enter Tryd.func45, Tryd.ntmps45
  go_wp2_with fail
  go_ret
  exact ⟨by first | rfl | decide | simp, rfl⟩
theorem zero65 : ∃ Z : Array Value, (∀ W : World, Sem.run Tryd.prog (zeroValue 86) W = .ok (.agg Z) W) ∧ Z.size = 65 :=
  ⟨Array.replicate 65 (.int .u8 0), fun W => by kernel_rfl, by simp⟩
theorem and15w (v : Nat) (h : v < 18446744073709551616) : bits BinOp.and IntKind.u64 (v : Int) 15 = ((v % 16 : Nat) : Int) := by
  have e2 := u64_and_nat v 15 h (by decide)
  rw [show ((15 : Nat) : Int) = 15 from rfl] at e2
  rw [e2]
  have := Nat.and_two_pow_sub_one_eq_mod v 4
  rw [show (2 : Nat) ^ 4 - 1 = 15 from rfl, show (2 : Nat) ^ 4 = 16 from rfl] at this
  rw [this]
def dig36 : ByteArray := ⟨#[48, 49, 50, 51, 52, 53, 54, 55, 56, 57, 97, 98, 99, 100, 101, 102, 103, 104, 105, 106, 107, 108, 109, 110, 111, 112, 113, 114, 115, 116, 117, 118, 119, 120, 121, 122]⟩
theorem dig36_get {q : Nat} (h : q < 16) (h2 : q < dig36.size) : dig36[q] = hexC q := by
  have : ∀ q : Fin 16, dig36[q.1]'(by have := q.2; exact Nat.lt_trans this (by decide)) = hexC q.1 := by decide
  exact this ⟨q, h⟩
/-- The digits so far, at the end of the array. -/
def AtEnd (cs : Array Value) (k : Nat) (S : List UInt8) : Prop := cs.size = 65 ∧ k + S.length = 65 ∧ ∀ j (hj : j < S.length), cs[k + j]? = some (.int .u8 (S[j].toNat : Int))
theorem AtEnd.more {cs : Array Value} {k : Nat} {S : List UInt8} (h : AtEnd cs (k + 1) S) (x : UInt8) : AtEnd (cs.setIfInBounds k (.int .u8 (x.toNat : Int))) k (x :: S) := by
  obtain ⟨h1, h2, h3⟩ := h
  refine ⟨by simpa using h1, by simp; omega, fun j hj => ?_⟩
  rw [Array.getElem?_setIfInBounds]
  cases j with
  | zero =>
    simp
    omega
  | succ j =>
    rw [if_neg (by omega)]
    have := h3 j (by simp at hj; omega)
    rw [show k + (j + 1) = k + 1 + j by omega, this]
    simp
theorem set_blk {w : World} {q : Nat} {cs : Array Value} {t : TypeId} (h : w.heap[q]? = some (.cells cs t)) (i : Nat) (v : Value) : (w.setCell ⟨q, i, none⟩ v).heap[q]? = some (.cells (cs.setIfInBounds i v) t) := by
  have hlt := (Array.getElem?_eq_some_iff.1 h).1
  have hv := (Array.getElem?_eq_some_iff.1 h).2
  simp only [World.setCell, Array.getElem?_modify]
  simp [hlt, hv]
theorem hexW_pos (v : Nat) : 1 ≤ (hexW v).length := by
  by_cases h : v < 16
  · rw [hexW_small h]
    simp
  · rw [hexW_big h]
    simp
theorem AtEnd.text {cs : Array Value} {k : Nat} {S : List UInt8} (h : AtEnd cs k S) {W : World} {q : Nat} (hb : W.heap[q]? = some (.cells cs 86)) (n : Nat) (hn : S.length = n) : (convert 39 9 (.slice (some ⟨q, k, none⟩) n n)).run Tryd.prog W = .ok (.string (strOf S)) W :=
  run_text W ⟨q, k, none⟩ n n S hn (fun j hj => by
    rw [addr_add]
    simp only [World.cell?, hb]
    exact h.2.2 j hj)
theorem len65 : Tryd.prog.arrayLen 86 = 65 := by kernel_rfl
theorem und65 : Tryd.prog.underlying 86 = some (.array (Tryd.prog.arrayLen 86) (Tryd.prog.elem 86)) := by kernel_rfl
theorem size65 (W : World) : (sizeOf (Tryd.prog.elem 86)).run Tryd.prog W = .ok 1 W := by kernel_rfl
theorem sl65 (W : World) (q k : Nat) (hk : k < 65) : Sem.run Tryd.prog (Instr.sliceAt 86 (.pointer (some ⟨q, 0, none⟩)) (some (.int .i64 (k : Int))) none none) W = .ok (.slice (some ⟨q, k, none⟩) (65 - k) (65 - k)) W := by
  rw [run_sliceAt_array_l W 86 ⟨q, 0, none⟩ und65 .i64 (k : Int) (by omega) (by rw [len65]; omega), size65, len65]
  simp only [Result.andThen_ok, slicedAt, Int.toNat_natCast]
  rw [if_neg (by omega), addr_add]
  simp
set_option maxRecDepth 100000 in
set_option maxHeartbeats 2000000 in
theorem fbits_any (u : Nat) (hu : u < 18446744073709551616) (w : World) (hD : Deb w) : Calls Tryd.prog 41 #[.slice none 0 0, .int .u64 (u : Int), .int .i64 16, .bool false, .bool false] w fun e w' => e = .returned (.tuple #[.slice none 0 0, .string (strOf (hexW u))]) ∧ Keeps w w' (fun _ => False) := by
  have hP := fun W => pow2_16 W
  have hT := fun (W : World) (k : Keeps w W (fun _ => False)) => tz_16 W (keeps_cell k hD)
  have HT := hide hT
  clear hT
  obtain ⟨Z, hZ, hZs⟩ := zero65
  go_enter Tryd.func41, Tryd.ntmps41
  go_wp2_with fail
  have k0 : Keeps w (w.alloc (.cells Z 86)) (fun _ => False) := (Keeps.refl _ _).alloc _
  (with_reducible refine (hP _).mono ?_)
  rintro e w1 ⟨rfl, e1⟩
  subst e1
  go_wp2_with fail
  (with_reducible refine (HT.out _ k0).mono ?_)
  rintro e w1 ⟨rfl, e1⟩
  subst e1
  go_wp2_with fail
  go_loopw [1, 13] (fun v1 v13 wr => ∃ (v k : Nat) (S : List UInt8) (cs : Array Value), v1 = .int .u64 (v : Int) ∧ v ≤ u ∧ v13 = .int .i64 (k : Int) ∧ wr.heap[w.heap.size]? = some (.cells cs 86) ∧ Hid (AtEnd cs k S ∧ hexW u = hexW v ++ S) ∧ Keeps w wr (fun _ => False)) (fun v1 _ _ => (intOf v1).toNat)
  case atStart => exact ⟨u, 65, [], Z, rfl, Nat.le_refl _, rfl, heap_alloc_new _ _, ⟨⟨hZs, rfl, fun j hj => by simp at hj⟩, by simp⟩, k0⟩
  case round =>
    obtain ⟨v, k, S, cs, rfl, hv, rfl, hb, HI, K⟩ := hrel
    by_cases h16 : v < 16
    · have h16' : ¬ (16 : Int) ≤ (v : Int) := by omega
      have hlen := hexW_len 15 u (by omega)
      have hpos := hexW_pos v
      have hS : S.length ≤ 15 := by
        rw [HI.out.2, List.length_append] at hlen
        omega
      have hk65 := HI.out.1.2.1
      have hcs := HI.out.1.1
      obtain ⟨k, rfl⟩ : ∃ k', k = k' + 1 := ⟨k - 1, by omega⟩
      have hk1 : k < 65 := by omega
      have hk' : (k : Int) < 65 := by omega
      have hk0 : (0 : Int) ≤ (k : Int) := by omega
      have a1 : wrap64 (k : Int) = (k : Int) := by unfold wrap64; omega
      have a2 : IntKind.i64.wrap (k : Int) = (k : Int) := by rw [IntKind.wrap_i64]; omega
      have hcell : wr.cell? ⟨w.heap.size, k, none⟩ = some (cs[k]'(by omega)) := by
        simp only [World.cell?, hb]
        exact Array.getElem?_eq_getElem _
      have hfz : wr.frozen? ⟨w.heap.size, k, none⟩ = false := by simp [World.frozen?, hb]
      obtain ⟨old, hold⟩ : ∃ old, cs[k]'(by omega) = old := ⟨_, rfl⟩
      rw [hold] at hcell
      have g1 : ∀ h, (⟨#[48, 49, 50, 51, 52, 53, 54, 55, 56, 57, 97, 98, 99, 100, 101, 102, 103, 104, 105, 106, 107, 108, 109, 110, 111, 112, 113, 114, 115, 116, 117, 118, 119, 120, 121, 122]⟩ : ByteArray)[v]'h = hexC v := fun h => dig36_get h16 h
      have i1 : (0 : Int) ≤ (v : Int) := by omega
      have i2 : (v : Int) < 36 := by omega
      obtain ⟨c, hc⟩ : ∃ c, hexC v = c := ⟨_, rfl⟩
      have hA := HI.out.1.more c
      have hW2 : hexW u = c :: S := by rw [HI.out.2, hexW_small h16, hc]; rfl
      have hb2 := set_blk hb k (.int .u8 (c.toNat : Int))
      have htx := hA.text hb2 (65 - k) (by simp; omega)
      have hK : Keeps w (wr.setCell ⟨w.heap.size, k, none⟩ (.int .u8 (c.toNat : Int))) (fun _ => False) := K.setCell _ (fun e => by simp at e) _
      have HK := hide hK
      have HW := hide hW2
      simp only [hc] at g1
      obtain ⟨R, hR⟩ : ∃ R, strOf (c :: S) = R := ⟨_, rfl⟩
      rw [hR] at htx
      have HR := hide hR
      clear hlen hpos hS hA hW2 hb2 hK hR HI K hb hcs hold hc
      have hsl := sl65 (wr.setCell ⟨w.heap.size, k, none⟩ (.int .u8 (c.toNat : Int))) w.heap.size k hk1
      generalize 65 - k = nn at *
      go_wp2_with fail
      refine bodyPost_ret (v := .tuple #[.slice none 0 0, .string R]) (by simp [results, Tryd.results41, go_sem]) rfl ?_
      refine ⟨?_, HK.out⟩
      rw [HW.out, HR.out]
    · have h16' : (16 : Int) ≤ (v : Int) := by omega
      have hlen := hexW_len 15 u (by omega)
      have hpos := hexW_pos v
      have hS : S.length ≤ 15 := by
        rw [HI.out.2, List.length_append] at hlen
        omega
      have hk65 := HI.out.1.2.1
      have hcs := HI.out.1.1
      obtain ⟨k, rfl⟩ : ∃ k', k = k' + 1 := ⟨k - 1, by omega⟩
      have hk1 : k < 65 := by omega
      have hk' : (k : Int) < 65 := by omega
      have hk0 : (0 : Int) ≤ (k : Int) := by omega
      have a1 : wrap64 (k : Int) = (k : Int) := by unfold wrap64; omega
      have a2 : IntKind.i64.wrap (k : Int) = (k : Int) := by rw [IntKind.wrap_i64]; omega
      have hcell : wr.cell? ⟨w.heap.size, k, none⟩ = some (cs[k]'(by omega)) := by
        simp only [World.cell?, hb]
        exact Array.getElem?_eq_getElem _
      have hfz : wr.frozen? ⟨w.heap.size, k, none⟩ = false := by simp [World.frozen?, hb]
      obtain ⟨old, hold⟩ : ∃ old, cs[k]'(by omega) = old := ⟨_, rfl⟩
      rw [hold] at hcell
      have hq2 : v % 16 < 16 := Nat.mod_lt _ (by decide)
      have hv64 : v < 18446744073709551616 := Nat.lt_of_le_of_lt hv hu
      have hand := and15w v hv64
      have g1 : ∀ h, (⟨#[48, 49, 50, 51, 52, 53, 54, 55, 56, 57, 97, 98, 99, 100, 101, 102, 103, 104, 105, 106, 107, 108, 109, 110, 111, 112, 113, 114, 115, 116, 117, 118, 119, 120, 121, 122]⟩ : ByteArray)[v % 16]'h = hexC (v % 16) := fun h => dig36_get hq2 h
      have i1 : (0 : Int) ≤ ((v % 16 : Nat) : Int) := Int.natCast_nonneg _
      have i2 : ((v % 16 : Nat) : Int) < 36 := Int.ofNat_lt.2 (Nat.lt_trans hq2 (by decide))
      obtain ⟨c, hc⟩ : ∃ c, hexC (v % 16) = c := ⟨_, rfl⟩
      have hA := HI.out.1.more c
      have hW2 : hexW u = hexW (v / 16) ++ (c :: S) := by rw [HI.out.2, hexW_big h16, hc, List.append_assoc]; rfl
      have hb2 := set_blk hb k (.int .u8 (c.toNat : Int))
      have hK : Keeps w (wr.setCell ⟨w.heap.size, k, none⟩ (.int .u8 (c.toNat : Int))) (fun _ => False) := K.setCell _ (fun e => by simp at e) _
      obtain ⟨p, hp⟩ : ∃ p, v / 16 = p := ⟨_, rfl⟩
      have hpl : p ≤ u := Nat.le_trans (hp ▸ Nat.div_le_self v 16) hv
      have hpv : p < v := hp ▸ Nat.div_lt_self (by omega) (by decide)
      obtain ⟨-, b2⟩ := quo16 v p hp
      have b5 := wrapu (q := p) (Nat.lt_of_le_of_lt hpl hu)
      rw [hp] at hW2
      simp only [hc] at g1
      have HN := hide (And.intro hb2 (And.intro (And.intro hA hW2) hK))
      have Hms := hide hpv
      have Hpl := hide hpl
      clear hlen hpos hS hA hW2 hb2 hK HI K hb hcs hold hc hp hpv hpl hv64 hZ hZs hP HT hD k0
      generalize v % 16 = q at *
      go_wp2_with fail
      refine ⟨⟨p, k, c :: S, _, rfl, Hpl.out, rfl, HN.out.1, HN.out.2.1, HN.out.2.2⟩, ?_⟩
      simp [intOf]
      exact Hms.out
end Go.Proofs.YtpkbjjbbdhehdaaDoor
