import Derived.Test.YtmfmiaiijepgdaaAW4
import Derived.Shelf.Abstract
namespace Go.Proofs.Ytmfmiaiijepgdaa
open Go.RowKit Go.Shelf

theorem lit_any (n : Int) (w : World) : Calls Try.prog 52 #[.int .i64 n] w fun e w' => e = .returned (.bool (decide (n < 1))) ∧ w' = w := by
  go_enter Try.func52, Try.ntmps52
  go_wp2
  go_ret
  exact ⟨rfl, rfl⟩

/-- All of them at least 1. -/
def allOne (zs : List Int) : Prop := ∀ z ∈ zs, 1 ≤ z
def IdxPost (w : World) (zs : List Int) (e : Ending) (w' : World) : Prop := ∃ i : Int, e = .returned (.int .i64 i) ∧ w' = w ∧ -1 ≤ i ∧ i ≤ 9223372036854775807 ∧ (0 ≤ i → ¬ allOne zs) ∧ (i < 0 → allOne zs)

set_option maxHeartbeats 1000000 in
theorem index_nil (a : Option Addr) (cap : Nat) (w : World) : Calls Try.prog 70 #[.slice a 0 cap, .func (.func 52) #[] #[]] w fun e w' => IdxPost w [] e w' := by
  go_enter Try.func70, Try.ntmps70
  go_wp2_with fail
  go_loop [8] (fun i => i = .int .i64 0) (fun _ => 0)
  case atStart => rfl
  case round =>
    subst hrel
    go_wp2_with fail
    go_ret
    exact ⟨-1, rfl, rfl, by omega, by omega, by omega, fun _ z hz => by cases hz⟩

set_option maxHeartbeats 1000000 in
theorem index_some (b o cap : Nat) (zs : List Int) (w : World) (hbig : zs.length ≤ 140737488355328) (hc : ∀ j (h : j < zs.length), w.cell? ⟨b, o + j, none⟩ = some (.int .i64 zs[j])) :
    Calls Try.prog 70 #[.slice (some ⟨b, o, none⟩) zs.length cap, .func (.func 52) #[] #[]] w fun e w' => IdxPost w zs e w' := by
  have eg : ∀ args w, (callFunc 52 args).run Try.prog w = .ok (.enter 52 args) w := enters_of Try.func52 (by kernel_rfl) rfl
  go_enter Try.func70, Try.ntmps70
  go_wp2_with fail
  go_loop [8] (fun i => ∃ k : Nat, i = .int .i64 (k : Int) ∧ k ≤ zs.length ∧ Hid (∀ j (h : j < zs.length), j < k → 1 ≤ zs[j])) (fun i => zs.length - (intOf i).toNat)
  case atStart => exact ⟨0, rfl, Nat.zero_le _, fun j _ h => by omega⟩
  case round =>
    obtain ⟨k, rfl, hk, hall⟩ := hrel
    by_cases hlt : k < zs.length
    · have hlt' : (k : Int) < (zs.length : Int) := by omega
      have hck := hc k (by omega)
      have hkl : k < zs.length := by omega
      generalize hz : zs[k]'hkl = z at hck
      have HZ : Hid (zs[k]'hkl = z) := hz
      clear hz hc
      have hlit := lit_any z w
      by_cases hz1 : z < 1
      · rw [decide_eq_true hz1] at hlit
        go_wp2_with fail
        refine hlit.mono ?_
        rintro e w1 ⟨rfl, rfl⟩
        go_wp2_with fail
        go_ret
        exact ⟨k, rfl, rfl, by omega, by omega, fun _ h => by have := h _ (List.getElem_mem hkl); rw [HZ.out] at this; omega, by omega⟩
      · rw [decide_eq_false hz1] at hlit
        go_wp2_with fail
        refine hlit.mono ?_
        rintro e w1 ⟨rfl, rfl⟩
        clear hlit
        go_wp2_with fail
        go_round
        case rel => exact ⟨k + 1, by go_num, by omega, fun j hj hjk => by
          rcases Nat.lt_or_ge j k with h | h
          · exact hall.out j hj h
          · have : j = k := by omega
            subst this
            rw [HZ.out]
            omega⟩
        case measure => simp [intOf]; omega
    · have hk' : ¬ (k : Int) < (zs.length : Int) := by omega
      go_wp2_with fail
      go_ret
      exact ⟨-1, rfl, rfl, by omega, by omega, by omega, fun _ z hz => by
        obtain ⟨j, hj, rfl⟩ := List.getElem_of_mem hz
        exact hall.out j hj (by omega)⟩
end Go.Proofs.Ytmfmiaiijepgdaa
