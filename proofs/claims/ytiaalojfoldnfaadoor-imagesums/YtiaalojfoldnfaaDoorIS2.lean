/-
  image: Sum, the reference's Sum, and the walk of ImageSums.
-/
import Derived.Test.YtiaalojfoldnfaaDoorIS1
import Derived.Test.YtiaalojfoldnfaaDoorON6
namespace Go.Proofs.YtiaalojfoldnfaaDoor
open Go.RowKit
set_option linter.unusedVariables false

theorem sum_any (v : Value) (xs : List UInt8) (w : World) (h : InB w v xs) (hn : xs.length ≤ 281474976710656) (ho : OddAt w) :
    Calls Tryd.prog 4 #[v] w fun e w' => e = .returned (.int .u64 (mixN 19 xs : Nat)) ∧ Kp w w' := by
  have ht := h.text
  have q : Calls Tryd.prog 6 #[.int .u64 19, .string (strOf xs)] w fun e w' => e = .returned (.int .u64 (mixN 19 (strOf xs).data.toList : Nat)) ∧ Kp w w' := mix_any 19 (strOf xs) w (by decide) (by rw [strOf_size]; omega) ho
  rw [strOf_data] at q
  generalize mixN 19 xs = X at *
  generalize strOf xs = S at *
  clear h
  go_enter Tryd.func4, Tryd.ntmps4
  go_wp2_with fail
  (with_reducible refine q.mono ?_)
  rintro r w1 ⟨rfl, k1⟩
  go_wp2_with fail
  go_ret
  exact ⟨rfl, k1⟩
theorem rsum_any (v : Value) (xs : List UInt8) (w : World) (h : InB w v xs) (hn : xs.length ≤ 281474976710656) :
    Calls Tryd.prog 5 #[v] w fun e w' => e = .returned (.int .u64 (mixN 19 xs : Nat)) ∧ Kp w w' := by
  have ht := h.text
  have q : Calls Tryd.prog 7 #[.int .u64 19, .string (strOf xs)] w fun e w' => e = .returned (.int .u64 (mixN 19 (strOf xs).data.toList : Nat)) ∧ Kp w w' := rmix_any 19 (strOf xs) w (by decide) (by rw [strOf_size]; omega)
  rw [strOf_data] at q
  generalize mixN 19 xs = X at *
  generalize strOf xs = S at *
  clear h
  go_enter Tryd.func5, Tryd.ntmps5
  go_wp2_with fail
  (with_reducible refine q.mono ?_)
  rintro r w1 ⟨rfl, k1⟩
  go_wp2_with fail
  go_ret
  exact ⟨rfl, k1⟩
/-- A copied list with two bytes behind it. -/
theorem InB.two {W : World} {v : Value} {xs : List UInt8} (h : InB W v xs) (hn : xs.length ≤ 140737488351232) :
    ∃ a c W1, (∀ ty, (Builtin.append_ #[22, 22] ty #[.slice (some ⟨W.heap.size, 0, none⟩) 0 0, v]).run Tryd.prog (W.alloc (.cells #[] 5)) = .ok (.slice (some ⟨a, 0, none⟩) xs.length c) W1) ∧
    ∃ g d W2, (∀ ty, (Builtin.append_ #[22, 22] ty #[.slice (some ⟨a, 0, none⟩) xs.length c, .slice (some ⟨W1.heap.size, 0, none⟩) 2 2]).run Tryd.prog (W1.alloc (.cells #[.int .u8 165, .int .u8 166] 5)) = .ok (.slice (some ⟨g, 0, none⟩) (xs.length + 2) d) W2) ∧
    xs.length + 2 ≤ d ∧ Keeps W W2 (fun _ => False) ∧ InB W2 (.slice (some ⟨g, 0, none⟩) xs.length d) xs ∧ InB W2 (.slice (some ⟨g, 0, none⟩) (xs.length + 2) d) (xs ++ [165, 166]) := by
  obtain ⟨a, c, W1, h1, hown, ha, K⟩ := h.copy hn
  have hi : (Tryd.prog.info? 5).map (fun i => (i.zero, i.size, i.bytes)) = some (some (.int .u8 0), 1, 1) := by kernel_rfl
  obtain ⟨g, d, W2, h2, hown2, K2, hg⟩ := append_list (P := Tryd.prog) 22 5 (.int .u8 0) 1 Tryd.underlying22 hi rfl (hown.alloc (.cells #[.int .u8 165, .int .u8 166] 5)) (us := [.int .u8 165, .int .u8 166]) (heap_alloc_new W1 (.cells #[.int .u8 165, .int .u8 166] 5)) (m := 2) rfl (by omega) (by simp [Value.oneCell']) 2 (by omega) (by simp only [maxLen]; omega) (by rw [World.size_alloc]; have := K.size; omega)
  have KK : Keeps W W2 (fun _ => False) := (K.alloc _).trans K2 (fun i hi e => by
    have e' : a = i := by simpa [Value.ownBlock] using e
    omega)
  have hcells : ∀ j (hj : j < (xs ++ [165, 166] : List UInt8).length), W2.cell? ((⟨g, 0, none⟩ : Addr).add j) = some (.int .u8 ((xs ++ [165, 166] : List UInt8)[j].toNat : Int)) := fun j hj => by
    have e : cellsOf xs ++ [Value.int .u8 165, .int .u8 166] = cellsOf (xs ++ [165, 166]) := by simp [cellsOf, cellOf]
    rw [e] at hown2
    have := hown2.cells (g := g) rfl j (cellOf (xs ++ [165, 166] : List UInt8)[j]) (by unfold cellsOf; rw [List.getElem?_map, List.getElem?_eq_getElem hj]; rfl)
    exact this
  have hlt : g < W2.heap.size := (hown2.lt g rfl).2
  have hd : xs.length + 2 ≤ d := by
    rcases hown2.2 with ⟨e, _⟩ | ⟨g', cap', cur', e1, _, _, e4, _⟩
    · cases e
    · injection e1 with _ _ e3
      omega
  refine ⟨a, c, W1, h1, g, d, W2, h2, hd, KK, Or.inr ⟨_, _, rfl, fun j hj => ?_, fun _ => ⟨g, 0, rfl, hlt⟩⟩, Or.inr ⟨⟨g, 0, none⟩, d, by simp, hcells, fun _ => ⟨g, 0, rfl, hlt⟩⟩⟩
  have := hcells j (by simp; omega)
  rw [List.getElem_append_left hj] at this
  exact this
namespace imageSums
def Post (w : World) (e : Ending) (w' : World) : Prop := e = .returned (.bool true) ∧ Below w.heap.size w w'

set_option maxHeartbeats 2000000 in
theorem walk (v : Value) (xs : List UInt8) (w : World) (h : InB w v xs) (hn : xs.length ≤ 140737488351232) (ho : OddAt w) :
    Calls Tryd.prog 3 #[v] w (Post w) := by
  obtain ⟨a, c, W1, h1, g, d, W2, h2, hd, K, b1, b2⟩ := h.two hn
  have bv := h.keeps K
  have HS := hide (sum_any _ xs W2 b1 (by omega) (ho.keeps K))
  have HR := hide (fun W (k : Kp W2 W) => rsum_any v xs W (bv.keeps (Keeps.of_kp k)) (by omega))
  have HT := hide (fun W (k : Kp W2 W) => (And.intro (b2.keeps (Keeps.of_kp k)).text (bv.keeps (Keeps.of_kp k)).text))
  obtain ⟨so, cap, rfl⟩ := h.len
  have hadd : strOf xs ++ ⟨#[165, 166]⟩ = strOf (xs ++ [165, 166]) := strOf_append xs [165, 166]
  have hl2 : (strOf xs).size + 2 < 9223372036854775808 := by rw [strOf_size]; omega
  have HK := hide K
  have hl : xs.length + 2 < 9223372036854775808 := by omega
  clear h bv b1 b2 ho K hn
  generalize xs.length = n at *
  generalize mixN 19 xs = X at *
  generalize strOf (xs ++ [165, 166]) = S2 at *
  generalize strOf xs = S at *
  go_enter Tryd.func3, Tryd.ntmps3
  go_wp2_with (first | (at_builtin; have _t := h1; refine app_run _ rfl (.tmp 4) (.tmp 5) 22 rfl rfl rfl h1 ?_; clear h1) | (at_builtin; have _t := h2; refine app_run _ rfl (.tmp 7) (.tmp 8) 22 rfl rfl rfl h2 ?_; clear h2))
  (with_reducible refine HS.out.mono ?_)
  rintro r w3 ⟨rfl, k3⟩
  go_wp2_with fail
  (with_reducible refine (HR.out _ k3).mono ?_)
  rintro r w4 ⟨rfl, k4⟩
  obtain ⟨t1, t2⟩ := HT.out w4 (k3.trans k4)
  have HK4 := hide (HK.out.kp.trans (k3.trans k4))
  clear HT HR HS HK
  go_wp2_with fail
  go_ret
  exact ⟨rfl, HK4.out⟩
end imageSums
end Go.Proofs.YtiaalojfoldnfaaDoor
