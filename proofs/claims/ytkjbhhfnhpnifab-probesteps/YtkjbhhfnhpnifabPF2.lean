/-
  The reference's At, Start, Steps.
-/
import Derived.Test.YtkjbhhfnhpnifabPF1
namespace Go.Proofs.Ytkjbhhfnhpnifab
open Go.RowKit Go.Shelf
set_option linter.unusedVariables false

theorem RowI.slice {W : World} {base : Nat} {v : Value} {L : List Nat} (h : RowI W base v L) : ∃ a cap, v = .slice a L.length cap ∧ ∀ k (hk : k < L.length), ∃ g, base ≤ g ∧ g < W.heap.size ∧ a = some ⟨g, 0, none⟩ ∧ W.cell? ⟨g, k, none⟩ = some (.int .i64 ((L[k] : Nat) : Int)) := by
  have h' : W.ownsRow base 3 1 v L.length (L.map fun n : Nat => Value.int .i64 (n : Int)) := h
  rcases h'.2 with ⟨rfl, h0⟩ | ⟨g, cap, cur, rfl, hb, hg, h1, h2, h3, h4⟩
  · exact ⟨none, 0, by rw [h0], fun k hk => by omega⟩
  · refine ⟨some ⟨g, 0, none⟩, cap, rfl, fun k hk => ⟨g, hb, (Array.getElem?_eq_some_iff.1 hg).1, rfl, ?_⟩⟩
    have := h'.cellAt k (by omega)
    rw [this]
    simp [hk]
theorem ordN_at {h : Nat} {g : Int} {n : Nat} (hn : n < (ordN h g).length) : atN h g (n : Int) = (((ordN h g)[n] : Nat) : Int) := by
  cases hq : pw g 1 8192
  · have := ordN_no (h := h) hq
    rw [this] at hn
    simp at hn
  · obtain ⟨k, hk, rfl⟩ := pwG hq
    have e := ordN_yes (h := h) hk
    have hn' : n < 2 ^ k := by rw [e] at hn; simpa using hn
    rw [atN_yes hk hn', List.getElem_of_eq e hn, List.getElem_map, List.getElem_range]
theorem ordN_no_at {h : Nat} {g n : Int} (hn : n < 0 ∨ ((ordN h g).length : Int) ≤ n) : atN h g n = -1 := by
  unfold atN
  rw [if_neg]
  rintro ⟨hq, h0, h1⟩
  obtain ⟨k, hk, rfl⟩ := pwG hq
  have e := ordN_yes (h := h) hk
  have : (ordN h ((2 ^ k : Nat) : Int)).length = 2 ^ k := by rw [e]; simp
  omega

set_option maxHeartbeats 1000000 in
theorem rat_any (h : Nat) (g n : Int) (w : World) (hh : h < 18446744073709551616) :
    Calls Try.prog 7 #[.int .u64 (h : Int), .int .i64 g, .int .i64 n] w fun e w' => e = .returned (.int .i64 (atN h g n)) ∧ Kp w w' := by
  have hO := rorder_any h g w hh
  have hle := ordN_len_le (h := h) (g := g)
  by_cases hn : n < 0 ∨ ((ordN h g).length : Int) ≤ n
  · rw [ordN_no_at hn]
    by_cases h0 : n < 0
    · clear hn
      go_enter Try.func7, Try.ntmps7
      go_wp2_with fail
      refine hO.mono ?_
      rintro e w1 ⟨v, rfl, hr, k1⟩
      obtain ⟨a, cap, rfl, hc⟩ := hr.slice
      clear hO hr hc
      go_wp2_with fail
      go_ret
      exact ⟨rfl, k1⟩
    · have h1 : ((ordN h g).length : Int) ≤ n := by omega
      clear hn
      go_enter Try.func7, Try.ntmps7
      go_wp2_with fail
      refine hO.mono ?_
      rintro e w1 ⟨v, rfl, hr, k1⟩
      obtain ⟨a, cap, rfl, hc⟩ := hr.slice
      clear hO hr hc
      generalize (ordN h g).length = N at *
      go_wp2_with fail
      go_ret
      exact ⟨rfl, k1⟩
  · obtain ⟨m, rfl⟩ := Int.eq_ofNat_of_zero_le (show 0 ≤ n by omega)
    have hm : m < (ordN h g).length := by omega
    rw [ordN_at hm]
    obtain ⟨X, hX⟩ : ∃ X, (ordN h g)[m] = X := ⟨_, rfl⟩
    rw [hX]
    replace hX := hide hX
    clear hn
    go_enter Try.func7, Try.ntmps7
    go_wp2_with fail
    refine hO.mono ?_
    rintro e w1 ⟨v, rfl, hr, k1⟩
    obtain ⟨a, cap, rfl, hc⟩ := hr.slice
    obtain ⟨b, hb1, hb2, rfl, hb3⟩ := hc m hm
    have hm' : (m : Int) < ((ordN h g).length : Int) := by omega
    rw [hX.out] at hb3
    clear hO hr hc
    go_wp2_with fail
    go_ret
    exact ⟨rfl, k1⟩

theorem rstart_any (h : Nat) (g : Int) (w : World) (hh : h < 18446744073709551616) :
    Calls Try.prog 5 #[.int .u64 (h : Int), .int .i64 g] w fun e w' => e = .returned (.int .i64 (atN h g 0)) ∧ Kp w w' := by
  have ha := rat_any h g 0 w hh
  generalize atN h g 0 = M at *
  go_enter Try.func5, Try.ntmps5
  go_wp2_with fail
  refine ha.mono ?_
  rintro e w' ⟨rfl, k1⟩
  go_wp2_with fail
  go_ret
  exact ⟨rfl, k1⟩

set_option maxHeartbeats 2000000 in
theorem rsteps_any (h : Nat) (g x : Int) (w : World) (hh : h < 18446744073709551616) :
    Calls Try.prog 9 #[.int .u64 (h : Int), .int .i64 g, .int .i64 x] w fun e w' => e = .returned (.int .i64 (stepsN h g x)) ∧ Kp w w' := by
  have hO := rorder_any h g w hh
  have hle := ordN_len_le (h := h) (g := g)
  obtain ⟨V, hV⟩ : ∃ V, stepsN h g x = V := ⟨_, rfl⟩
  rw [hV]
  unfold stepsN at hV
  replace hV := hide hV
  generalize ordN h g = L at *
  go_enter Try.func9, Try.ntmps9
  go_wp2_with fail
  refine hO.mono ?_
  rintro e w1 ⟨v, rfl, hr, k1⟩
  obtain ⟨a, cap, rfl, hc⟩ := hr.slice
  replace hc := hide hc
  clear hO hr
  go_wp2_with fail
  go_loop [8] (fun v => ∃ i : Nat, v = .int .i64 (i : Int) ∧ i ≤ L.length ∧ Hid (∀ j (hj : j < L.length), j < i → ((L[j] : Nat) : Int) ≠ x)) (fun v => L.length - (intOf v).toNat)
  case atStart => exact ⟨0, rfl, by omega, fun j hj h => by omega⟩
  case round =>
    obtain ⟨i, rfl, hi, hall⟩ := hrel
    by_cases hlt : i < L.length
    · obtain ⟨b, hb1, hb2, rfl, hb3⟩ := hc.out i hlt
      have hlt' : (i : Int) < (L.length : Int) := by omega
      by_cases hx : ((L[i] : Nat) : Int) = x
      · have e : V = (i : Int) := by
          rw [← hV.out]
          have e1 : L = L.take i ++ L[i] :: L.drop (i + 1) := by
            rw [← List.drop_eq_getElem_cons hlt, List.take_append_drop]
          have e2 := stepsL_some (t := L.drop (i + 1)) hx (pre := L.take i) (i := 0) (fun z hz => by
            obtain ⟨j, hj, rfl⟩ := List.getElem_of_mem hz
            have hj2 : j < i := by simp at hj; omega
            rw [List.getElem_take]
            exact hall.out j (by omega) hj2)
          rw [← e1] at e2
          rw [e2, List.length_take, Nat.min_eq_left (by omega), Nat.zero_add]
        subst e
        have hx' : (((L[i] : Nat) : Int) == x) = true := beq_iff_eq.2 hx
        clear hall hx hV hc
        generalize L[i] = X at *
        go_wp2_with fail
        go_ret
        exact ⟨rfl, k1⟩
      · have hx' : (((L[i] : Nat) : Int) == x) = false := beq_eq_false_iff_ne.2 hx
        have h2 : Hid (∀ j (hj : j < L.length), j < i + 1 → ((L[j] : Nat) : Int) ≠ x) := fun j hj hji => by
          by_cases h3 : j < i
          · exact hall.out j hj h3
          · obtain rfl : j = i := by omega
            exact hx
        clear hall hx
        generalize hLX : L[i] = X at *
        replace hLX := hide hLX
        go_wp2_with fail
        go_round
        case rel => exact ⟨i + 1, rfl, by omega, h2⟩
        case measure => simp [intOf]; omega
    · have e : V = -1 := by
        rw [← hV.out]
        refine stepsL_none (fun y hy => ?_)
        obtain ⟨j, hj, rfl⟩ := List.getElem_of_mem hy
        exact hall.out j hj (by omega)
      subst e
      have hge : (L.length : Int) ≤ (i : Int) := by omega
      clear hall hV hc
      go_wp2_with fail
      go_ret
      exact ⟨rfl, k1⟩
end Go.Proofs.Ytkjbhhfnhpnifab
