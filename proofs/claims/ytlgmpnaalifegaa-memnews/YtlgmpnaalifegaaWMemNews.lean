import Derived.Test.YtlgmpnaalifegaaWalks2
namespace Go.Proofs.Ytlgmpnaalifegaa
namespace memNews
open Go.RowKit

def Post (w : World) (e : Ending) (w' : World) : Prop := e = .returned (.bool true) ∧ Below w.heap.size w w'

set_option maxHeartbeats 400000 in
theorem walk_no (a0 : Int) (a1 : Int) (w : World) (h : a0 < 0 ∨ 134217728 < a0) :
    Calls Try.prog 3 #[.int .i64 a0, .int .i64 a1] w fun e w' => Post w e w' := by
  have hnew := new_no a0 w h
  rcases h with h | h
  · go_enter Try.func3, Try.ntmps3
    go_wp2_with fail
    refine hnew.mono ?_
    rintro e w' ⟨rfl, rfl⟩
    clear hnew
    go_wp2_with fail
    go_ret
    exact ⟨rfl, Below.refl _ _⟩
  · have h0 : ¬ a0 < 0 := by omega
    go_enter Try.func3, Try.ntmps3
    go_wp2_with fail
    refine hnew.mono ?_
    rintro e w' ⟨rfl, rfl⟩
    clear hnew
    go_wp2_with fail
    go_ret
    exact ⟨rfl, Below.refl _ _⟩

set_option maxHeartbeats 400000 in
theorem walk_out (n : Nat) (a1 : Int) (w : World) (h : n ≤ 134217728) (h1 : a1 < 0 ∨ (n : Int) ≤ a1) :
    Calls Try.prog 3 #[.int .i64 (n : Int), .int .i64 a1] w fun e w' => Post w e w' := by
  have hnew := new_yes n w h
  have h0 : ¬ (n : Int) < 0 := by omega
  have h0' : ¬ 134217728 < (n : Int) := by omega
  have hz : (zeros n).length = n := zeros_length n
  have hin : insideB (zeros n).length a1 1 = false := by unfold insideB; exact decide_eq_false (by omega)
  have hnil := fun W => Lib.run_eql_slice_nil (P := Try.prog) W 27 5 none 0 0 0 0 Try.underlying27
  rcases h1 with h1 | h1
  · go_enter Try.func3, Try.ntmps3
    go_wp2_with fail
    refine hnew.mono ?_
    rintro e w1 ⟨b, g, hb, hg, rfl, m, k⟩
    clear hnew
    go_wp2_with fail
    refine (len_any _ b g _ _ m).mono ?_
    rintro e w2 ⟨rfl, rfl⟩
    go_wp2_with fail
    refine (read_no _ b g _ _ m _ _ hin).mono ?_
    rintro e w3 ⟨rfl, rfl⟩
    go_wp2_with fail
    go_ret
    exact ⟨rfl, k.below (Nat.le_refl _) (fun _ _ => id)⟩
  · have h2 : ¬ a1 < 0 := by omega
    go_enter Try.func3, Try.ntmps3
    go_wp2_with fail
    refine hnew.mono ?_
    rintro e w1 ⟨b, g, hb, hg, rfl, m, k⟩
    clear hnew
    go_wp2_with fail
    refine (len_any _ b g _ _ m).mono ?_
    rintro e w2 ⟨rfl, rfl⟩
    go_wp2_with fail
    refine (read_no _ b g _ _ m _ _ hin).mono ?_
    rintro e w3 ⟨rfl, rfl⟩
    go_wp2_with fail
    go_ret
    exact ⟨rfl, k.below (Nat.le_refl _) (fun _ _ => id)⟩

set_option maxHeartbeats 400000 in
theorem walk_in (n q : Nat) (w : World) (h : n ≤ 134217728) (h1 : q < n) :
    Calls Try.prog 3 #[.int .i64 (n : Int), .int .i64 (q : Int)] w fun e w' => Post w e w' := by
  have hnew := new_yes n w h
  have h0 : ¬ (n : Int) < 0 := by omega
  have h0' : ¬ 134217728 < (n : Int) := by omega
  have h2 : ¬ (q : Int) < 0 := by omega
  have h3 : ¬ (n : Int) ≤ (q : Int) := by omega
  have hz : (zeros n).length = n := zeros_length n
  have hfit : q + 1 ≤ (zeros n).length := by omega
  go_enter Try.func3, Try.ntmps3
  go_wp2_with fail
  refine hnew.mono ?_
  rintro e w1 ⟨b, g, hb, hg, rfl, m, k⟩
  clear hnew
  go_wp2_with fail
  refine (len_any _ b g _ _ m).mono ?_
  rintro e w2 ⟨rfl, rfl⟩
  go_wp2_with fail
  refine (read_yes _ b g _ _ m q 1 hfit).mono ?_
  rintro e w3 ⟨l, hl, rfl, hrow, k3⟩
  have hc : w3.cell? ⟨l, 0, none⟩ = some (.int .u8 0) := by
    have hlen : (((zeros n).drop q).take 1).length = 1 := by simp [zeros_length]; omega
    have := rowOf_get (((zeros n).drop q).take 1) 0 (by omega)
    simp only [World.cell?, hrow]
    simpa [zeros] using this
  have kk := k.trans k3 (fun _ _ x => x)
  clear hrow k k3 m hfit hz
  go_wp2_with fail
  go_ret
  exact ⟨rfl, kk.below (Nat.le_refl _) (fun _ _ => id)⟩

theorem walk (a0 : Int) (a1 : Int) (w0 : (Lit.int .i64 a0).wf = true) (w1 : (Lit.int .i64 a1).wf = true) (w : World) :
    Calls Try.prog 3 #[.int .i64 a0, .int .i64 a1] w fun e w' => e = .returned (.bool true) ∧ Below w.heap.size w w' := by
  by_cases h : a0 < 0 ∨ 134217728 < a0
  · exact walk_no a0 a1 w h
  · obtain ⟨n, rfl⟩ := Int.eq_ofNat_of_zero_le (show 0 ≤ a0 by omega)
    by_cases h1 : a1 < 0 ∨ (n : Int) ≤ a1
    · exact walk_out n a1 w (by omega) h1
    · obtain ⟨q, rfl⟩ := Int.eq_ofNat_of_zero_le (show 0 ≤ a1 by omega)
      exact walk_in n q w (by omega) (by omega)
end memNews
end Go.Proofs.Ytlgmpnaalifegaa
