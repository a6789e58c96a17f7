/-
  script: ScriptLists' numbered and holds.
-/
import Derived.Test.YtfpiibccggjjpaaDoorUn13
import Derived.Deep.Cut
namespace Go.Proofs.YtfpiibccggjjpaaDoor
open Go.RowKit
set_option linter.unusedVariables false
/-- n, n + 1, and so on: k numbers. -/
def numN (n : Int) (k : Nat) : List Int := (List.range k).map fun (j : Nat) => n + (j : Int)
theorem numN_length (n : Int) (k : Nat) : (numN n k).length = k := by simp [numN]
theorem numN_at (n : Int) (k j : Nat) (h : j < k) : (numN n k)[j]? = some (n + (j : Int)) := by
  simp [numN, h]
def mixN (n : Int) (l : List Int) (i : Nat) : List Int := numN n i ++ l.drop i
theorem mixN_length (n : Int) (l : List Int) (i : Nat) (h : i ≤ l.length) : (mixN n l i).length = l.length := by
  unfold mixN
  rw [List.length_append, numN_length, List.length_drop]
  omega
theorem mixN_zero (n : Int) (l : List Int) : mixN n l 0 = l := rfl
theorem mixN_all (n : Int) (l : List Int) : mixN n l l.length = numN n l.length := by
  unfold mixN
  rw [List.drop_length, List.append_nil]
theorem mixN_step (n : Int) (l : List Int) (i : Nat) (h : i < l.length) : (mixN n l i).set i (n + (i : Int)) = mixN n l (i + 1) := by
  have e : numN n (i + 1) = numN n i ++ [n + (i : Int)] := by
    unfold numN
    rw [List.range_succ, List.map_append]
    rfl
  unfold mixN
  rw [e, List.drop_eq_getElem_cons h, List.set_append_right _ _ (by rw [numN_length]; omega), numN_length, Nat.sub_self, List.set_cons_zero, List.append_assoc]
  rfl
theorem wrAdd {n : Int} {i : Nat} (h0 : 0 ≤ n) (h1 : n ≤ 1099511627776) (h2 : i ≤ 1099511627776) : wrap64 (n + (i : Int)) = n + (i : Int) ∧ IntKind.i64.wrap (n + (i : Int)) = n + (i : Int) := by
  constructor
  · unfold wrap64; omega
  · rw [IntKind.wrap_i64]; omega
set_option maxRecDepth 100000 in
set_option maxHeartbeats 4000000 in
theorem numbered_any (lo : Nat) (v : Value) (l : List Int) (n : Int) (h0 : 0 ≤ n) (h1 : n ≤ 1099511627776) (hl : l.length ≤ 8388608) (w : World) (h : IntsO lo w v l) : Calls Tryd.prog 21 #[v, .int .i64 n] w fun e w' => e = .returned (.tuple #[]) ∧ IntsO lo w' v (numN n l.length) ∧ Keeps w w' (fun k => v.ownBlock = some k) := by
  rcases h.2 with ⟨rfl, hz⟩ | ⟨g, cap, cur, rfl, -⟩
  · have hl0 : l = [] := List.eq_nil_of_length_eq_zero hz
    subst hl0
    have HF : Hid (IntsO lo w (.slice none 0 0) (numN n ([] : List Int).length)) := h
    clear h hz
    go_enter Tryd.func21, Tryd.ntmps21
    go_wp2_with fail
    go_loopw [7] (fun v7 wr => v7 = .int .i64 0 ∧ wr = w) (fun _ _ => 0)
    case atStart => exact ⟨rfl, rfl⟩
    case round =>
      obtain ⟨rfl, rfl⟩ := hrel
      go_wp2_with fail
      go_end0
      exact ⟨rfl, HF.out, Keeps.refl _ _⟩
  · have H0 := hide (And.intro h0 (And.intro h1 hl))
    have HI := hide h
    clear h h0 h1
    go_enter Tryd.func21, Tryd.ntmps21
    go_wp2_with fail
    go_loopw [7] (fun v7 wr => ∃ i : Nat, v7 = .int .i64 (i : Int) ∧ i ≤ l.length ∧ wr.ownsRow lo 3 1 (.slice (some ⟨g, 0, none⟩) l.length cap) l.length ((mixN n l i).map cellI) ∧ Keeps w wr (fun k => k = g)) (fun v7 _ => l.length - (intOf v7).toNat)
    case atStart => exact ⟨0, rfl, Nat.zero_le _, HI.out, Keeps.refl _ _⟩
    case round =>
      obtain ⟨i, rfl, hi, ho, K⟩ := hrel
      by_cases hlt : i < l.length
      · have hlt' : (i : Int) < (l.length : Int) := by omega
        have hi0 : (0 : Int) ≤ (i : Int) := by omega
        obtain ⟨u, q1⟩ : ∃ u, wr.cell? ⟨g, i, none⟩ = some u := by
          rw [ho.cellAt i (by omega)]
          exact ⟨_, List.getElem?_eq_getElem (by rw [List.length_map, mixN_length n l i hi]; exact hlt)⟩
        have q2 := ho.frozenAt i
        obtain ⟨s1, s2⟩ := ho.stored i (.int .i64 (n + (i : Int)))
        have e : ((mixN n l i).map cellI).set i (.int .i64 (n + (i : Int))) = (mixN n l (i + 1)).map cellI := by
          rw [← mixN_step n l i hlt, List.map_set]
          rfl
        rw [e] at s1
        have HN := hide (And.intro s1 (K.trans ((Keeps.ofGrown s2).mono (S1 := fun k => k = g) (fun q hq e => by injection e with e; exact e.symm)) (fun _ _ e => e)))
        have Hms : Hid (l.length - (i + 1) < l.length - i) := by show l.length - (i + 1) < l.length - i; omega
        have Hi : Hid (i + 1 ≤ l.length) := hlt
        have hw1 := hide (wr64s (n := i) (by have := H0.out.2.2; omega))
        have hw2 := hide (wrAdd (i := i) H0.out.1 H0.out.2.1 (by have := H0.out.2.2; omega))
        clear ho K s1 s2 e hi
        obtain ⟨a6, a7⟩ := hw1.out
        obtain ⟨b6, b7⟩ := hw2.out
        go_wp2_with fail
        go_roundw
        case rel => exact ⟨i + 1, by go_num, Hi.out, HN.out.1, HN.out.2⟩
        case measure => simp [intOf]; exact Hms.out
      · obtain rfl : i = l.length := by omega
        have hlt' : ¬ (l.length : Int) < (l.length : Int) := by omega
        rw [mixN_all] at ho
        have HN : Hid (IntsO lo wr (.slice (some ⟨g, 0, none⟩) l.length cap) (numN n l.length)) := by
          show World.ownsRow _ _ _ _ _ _ _
          rw [numN_length]
          exact ho
        have HK := hide (K.mono (S1 := fun k => (Value.slice (some ⟨g, 0, none⟩) l.length cap).ownBlock = some k) (fun q _ e => by rw [e]; rfl))
        clear ho K
        go_wp2_with fail
        go_end0
        exact ⟨rfl, HN.out, HK.out⟩
theorem wrLast {k : Nat} (h : k ≤ 8388608) : wrap64 ((k : Int) + 1 - 1) = (k : Int) ∧ IntKind.i64.wrap ((k : Int) + 1 - 1) = (k : Int) ∧ wrap64 (k : Int) = (k : Int) ∧ IntKind.i64.wrap (k : Int) = (k : Int) := by
  simp only [IntKind.wrap_i64]
  unfold wrap64
  refine ⟨by omega, by omega, by omega, by omega⟩
set_option maxRecDepth 100000 in
set_option maxHeartbeats 4000000 in
theorem holds_any (lo : Nat) (v : Value) (k : Nat) (n last : Int) (h0 : 0 ≤ n) (h1 : n ≤ 1099511627776) (hk : k ≤ 8388608) (w : World) (h : IntsO lo w v (numN n k ++ [last])) : Calls Tryd.prog 22 #[v, .int .i64 n, .int .i64 last] w fun e w' => e = .returned (.bool true) ∧ w' = w := by
  have hlen : (numN n k ++ [last]).length = k + 1 := by rw [List.length_append, numN_length]; rfl
  unfold IntsO at h
  rw [hlen] at h
  rcases h.2 with ⟨rfl, hz⟩ | ⟨g, cap, cur, rfl, -⟩
  · omega
  · have HC : Hid (∀ j, j < k → w.cell? ⟨g, j, none⟩ = some (.int .i64 (n + (j : Int)))) := fun j hj => by
      rw [h.cellAt j (by omega), List.getElem?_map, List.getElem?_append_left (by rw [numN_length]; exact hj), numN_at n k j hj]
      rfl
    have hl : w.cell? ⟨g, k, none⟩ = some (.int .i64 last) := by
      rw [h.cellAt k (by omega), List.getElem?_map, List.getElem?_append_right (by rw [numN_length]; exact Nat.le_refl _), numN_length, Nat.sub_self]
      rfl
    have HL := hide hl
    have H0 := hide (And.intro h0 h1)
    have Hk := hide hk
    have hW1 := hide (wrLast hk)
    clear h hlen h0 h1 hl hk
    obtain ⟨c6, c7, c8, c9⟩ := hW1.out
    have hpos : (0 : Int) < (k : Int) + 1 := by omega
    have hki0 : (0 : Int) ≤ (k : Int) := by omega
    have hkl : (k : Int) < (k : Int) + 1 := by omega
    go_enter Tryd.func22, Tryd.ntmps22
    go_wp2_with fail
    go_loopw [7] (fun v7 wr => ∃ i : Nat, v7 = .int .i64 (i : Int) ∧ i ≤ k ∧ wr = w) (fun v7 _ => k - (intOf v7).toNat)
    case atStart => exact ⟨0, rfl, Nat.zero_le _, rfl⟩
    case round =>
      obtain ⟨i, rfl, hi, rfl⟩ := hrel
      by_cases hlt : i < k
      · have hlt' : (i : Int) < (k : Int) := by omega
        have hi0 : (0 : Int) ≤ (i : Int) := by omega
        have hik : (i : Int) < (k : Int) + 1 := by omega
        have q1 := HC.out i hlt
        have Hms : Hid (k - (i + 1) < k - i) := by show k - (i + 1) < k - i; omega
        have Hi : Hid (i + 1 ≤ k) := hlt
        have hw1 := hide (wr64s (n := i) (by have := Hk.out; omega))
        have hw2 := hide (wrAdd (i := i) H0.out.1 H0.out.2 (by have := Hk.out; omega))
        clear hi
        obtain ⟨a6, a7⟩ := hw1.out
        obtain ⟨b6, b7⟩ := hw2.out
        go_wp2_with fail
        go_roundw
        case rel => exact ⟨i + 1, by go_num, Hi.out, by trivial⟩
        case measure => simp [intOf]; exact Hms.out
      · obtain rfl : i = k := by omega
        have hlt' : ¬ (i : Int) < (i : Int) := by omega
        have q1 := HL.out
        go_wp2_with fail
        go_ret
        exact ⟨rfl, by trivial⟩
end Go.Proofs.YtfpiibccggjjpaaDoor
