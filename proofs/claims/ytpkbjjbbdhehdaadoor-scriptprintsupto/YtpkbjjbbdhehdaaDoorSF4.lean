/-
  script: lists of numbers as texts: the reference's numbers.
-/
import Derived.Test.YtpkbjjbbdhehdaaDoorSF3
namespace Go.Proofs.YtpkbjjbbdhehdaaDoor
open Go.RowKit
set_option linter.unusedVariables false
/-- A list of ints that lies somewhere. -/
structure IntsIn (w : World) (v : Value) (l : List Int) : Prop where
  form : (v = .slice none 0 0 ∧ l = []) ∨ ∃ a c, v = .slice (some a) l.length c ∧ ∀ j (hj : j < l.length), w.cell? (a.add j) = some (.int .i64 l[j])
  fits : ∀ n, n ∈ l → -9223372036854775808 ≤ n ∧ n ≤ 9223372036854775807
def numsL (l : List Int) : List UInt8 := l.flatMap (fun n => 32 :: Lib.itoa n)
theorem numsL_take {l : List Int} {i : Nat} (h : i < l.length) : numsL (l.take (i + 1)) = numsL (l.take i) ++ (32 :: Lib.itoa l[i]) := by
  unfold numsL
  rw [List.take_succ_eq_append_getElem h, List.flatMap_append]
  simp
theorem numsL_len : ∀ l : List Int, (∀ n, n ∈ l → -9223372036854775808 ≤ n ∧ n ≤ 9223372036854775807) → (numsL l).length ≤ 22 * l.length
  | [], _ => by simp [numsL]
  | n :: r, h => by
    have ih := numsL_len r (fun m hm => h m (List.mem_cons_of_mem _ hm))
    obtain ⟨h1, h2⟩ := h n List.mem_cons_self
    have hz := num_size n h1 h2
    unfold numD at hz
    rw [strOf_size] at hz
    unfold numsL at ih ⊢
    rw [List.flatMap_cons, List.length_append, List.length_cons, List.length_cons]
    omega
set_option maxRecDepth 100000 in
set_option maxHeartbeats 2000000 in
theorem rnums_any (v : Value) (l : List Int) (hl : l.length ≤ 8388608) (w : World) (h : IntsIn w v l) : Calls Tryd.prog 22 #[v] w fun e w' => e = .returned (.string (strOf (numsL l))) ∧ Keeps w w' (fun _ => False) := by
  have hfit := h.fits
  rcases h.form with ⟨rfl, rfl⟩ | ⟨a, c, rfl, hcell⟩
  · go_enter Tryd.func22, Tryd.ntmps22
    go_wp2_with fail
    go_loopw [3, 4] (fun v3 v4 wr => v3 = .string (strOf []) ∧ v4 = .int .i64 0 ∧ wr = w) (fun _ _ _ => 0)
    case atStart => exact ⟨rfl, rfl, rfl⟩
    case round =>
      obtain ⟨rfl, rfl, rfl⟩ := hrel
      go_wp2_with fail
      go_ret
      exact ⟨rfl, Keeps.refl _ _⟩
  · have Hcell := hide hcell
    have Hfit := hide hfit
    clear h hcell hfit
    go_enter Tryd.func22, Tryd.ntmps22
    go_wp2_with fail
    go_loopw [3, 4] (fun v3 v4 wr => ∃ i : Nat, v4 = .int .i64 (i : Int) ∧ i ≤ l.length ∧ v3 = .string (strOf (numsL (l.take i))) ∧ Keeps w wr (fun _ => False)) (fun _ v4 _ => l.length - (intOf v4).toNat)
    case atStart => exact ⟨0, rfl, Nat.zero_le _, rfl, Keeps.refl _ _⟩
    case round =>
      obtain ⟨i, rfl, hi, rfl, K⟩ := hrel
      by_cases hlt : i < l.length
      · have hlt' : (i : Int) < (l.length : Int) := by omega
        have hc := keeps_cell K (Hcell.out i hlt)
        obtain ⟨f1, f2⟩ := Hfit.out l[i] (List.getElem_mem _)
        obtain ⟨n, hn⟩ : ∃ n, l[i] = n := ⟨_, rfl⟩
        rw [hn] at hc f1 f2
        have hT := hide (numsL_take hlt)
        rw [hn] at hT
        have hD := fun W => dec_any n f1 f2 W
        have z1 := num_size n f1 f2
        have z2 : (numsL (l.take i)).length ≤ 22 * i := by
          have := numsL_len (l.take i) (fun m hm => Hfit.out m (List.mem_of_mem_take hm))
          rw [List.length_take] at this
          omega
        have z3 : (strOf (numsL (l.take i))).size = (numsL (l.take i)).length := strOf_size _
        obtain ⟨R, hR⟩ : ∃ R, strOf (numsL (l.take i)) = R := ⟨_, rfl⟩
        have HE : Hid (R ++ ⟨#[32]⟩ ++ numD n = strOf (numsL (l.take (i + 1)))) := by
          show _ = _
          rw [hT.out, ← hR]
          have e1 : strOf (numsL (l.take i)) ++ ⟨#[32]⟩ = strOf (numsL (l.take i) ++ [32]) := strOf_append _ [32]
          rw [e1]
          unfold numD
          rw [strOf_append, List.append_assoc]
          rfl
        rw [hR] at z3 ⊢
        obtain ⟨D, hDD⟩ : ∃ D, numD n = D := ⟨_, rfl⟩
        rw [hDD] at hD HE z1
        have s1 : R.size + 1 ≤ 9223372036854775807 := by omega
        have s2 : (R ++ ⟨#[32]⟩).size + D.size ≤ 9223372036854775807 := by
          rw [ByteArray.size_append]
          have : (⟨#[32]⟩ : ByteArray).size = 1 := rfl
          omega
        have s3 : R.size + 1 + D.size ≤ 9223372036854775807 := by omega
        obtain ⟨a6, a7⟩ := wr64s (n := i) (by omega)
        have Hms : Hid (l.length - (i + 1) < l.length - i) := by show l.length - (i + 1) < l.length - i; omega
        have HK := hide K
        clear K hT z1 z2 z3 hR hDD hn f1 f2 Hfit
        go_wp2_with fail
        (with_reducible refine (hD _).mono ?_)
        rintro e w1 ⟨rfl, k1⟩
        clear hD
        go_wp2_with fail
        go_roundw
        case rel => exact ⟨i + 1, by go_num, hlt, by rw [← HE.out], HK.out.trans k1 (fun _ _ e => e)⟩
        case measure => simp [intOf]; exact Hms.out
      · obtain rfl : i = l.length := by omega
        have hlt' : ¬ (l.length : Int) < (l.length : Int) := by omega
        rw [List.take_of_length_le (Nat.le_refl _)]
        have HK := hide K
        clear K
        go_wp2_with fail
        go_ret
        exact ⟨rfl, HK.out⟩
theorem Tryd.infoS4 : (Tryd.prog.info? 9).map (fun i => (i.zero, i.size, i.bytes)) = some (some (.string ⟨#[]⟩), 1, 16) := by kernel_rfl
/-- The texts of a list of numbers. -/
def TextsR (w : World) (l : List Int) (e : Ending) (w' : World) : Prop := ∃ r, e = .returned r ∧ w'.ownsRow w.heap.size 9 1 r l.length (l.map fun n => Value.string (numD n)) ∧ (l.length = 0 → r = .slice none 0 0) ∧ Keeps w w' (fun _ => False)
set_option maxRecDepth 100000 in
set_option maxHeartbeats 2000000 in
theorem ntexts_any (v : Value) (l : List Int) (hl : l.length ≤ 8388608) (w : World) (h : IntsIn w v l) (ht : TabW w) : Calls Tryd.prog 28 #[v] w fun e w' => TextsR w l e w' := by
  have hfit := h.fits
  rcases h.form with ⟨rfl, rfl⟩ | ⟨a, c, rfl, hcell⟩
  · go_enter Tryd.func28, Tryd.ntmps28
    go_wp2_with fail
    go_loopw [3, 8] (fun v3 v8 wr => v3 = .slice none 0 0 ∧ v8 = .int .i64 0 ∧ wr = w) (fun _ _ _ => 0)
    case atStart => exact ⟨rfl, rfl, rfl⟩
    case round =>
      obtain ⟨rfl, rfl, rfl⟩ := hrel
      go_wp2_with fail
      go_ret
      exact ⟨_, rfl, ⟨rfl, Or.inl ⟨rfl, rfl⟩⟩, fun _ => rfl, Keeps.refl _ _⟩
  · have Hcell := hide hcell
    have Hfit := hide hfit
    have HT := hide ht
    clear h hcell hfit ht
    go_enter Tryd.func28, Tryd.ntmps28
    go_wp2_with fail
    go_loopw [3, 8] (fun v3 v8 wr => ∃ i : Nat, v8 = .int .i64 (i : Int) ∧ i ≤ l.length ∧ wr.ownsRow w.heap.size 9 1 v3 i ((l.take i).map fun n => Value.string (numD n)) ∧ (i = 0 → v3 = .slice none 0 0) ∧ Keeps w wr (fun _ => False)) (fun _ v8 _ => l.length - (intOf v8).toNat)
    case atStart => exact ⟨0, rfl, Nat.zero_le _, ⟨rfl, Or.inl ⟨rfl, rfl⟩⟩, fun _ => rfl, Keeps.refl _ _⟩
    case round =>
      obtain ⟨i, rfl, hi, hrow, hz0, K⟩ := hrel
      have HZ0 := hide hz0
      clear hz0
      by_cases hlt : i < l.length
      · have hlt' : (i : Int) < (l.length : Int) := by omega
        have hc := keeps_cell K (Hcell.out i hlt)
        obtain ⟨f1, f2⟩ := Hfit.out l[i] (List.getElem_mem _)
        obtain ⟨n, hn⟩ : ∃ n, l[i] = n := ⟨_, rfl⟩
        rw [hn] at hc f1 f2
        have hT : (l.take (i + 1)).map (fun n => Value.string (numD n)) = (l.take i).map (fun n => Value.string (numD n)) ++ [Value.string (numD n)] := by
          rw [List.take_succ_eq_append_getElem hlt, List.map_append, hn]
          rfl
        have hD := ntext_any n f1 f2 wr (HT.out.keeps K)
        obtain ⟨D, hDD⟩ : ∃ D, numD n = D := ⟨_, rfl⟩
        rw [hDD] at hD hT
        obtain ⟨a6, a7⟩ := wr64s (n := i) (by omega)
        have Hms : Hid (l.length - (i + 1) < l.length - i) := by show l.length - (i + 1) < l.length - i; omega
        have HK := hide K
        have HRow := hide hrow
        have HTk := hide hT
        clear K hrow hT hDD hn f1 f2 Hfit HT
        go_wp2_with fail
        (with_reducible refine hD.mono ?_)
        rintro e w1 ⟨rfl, k1⟩
        clear hD
        have hrow1 := ownsRow_keeps HRow.out k1 (fun _ _ e => e)
        have hz1 := (HK.out.trans k1 (fun _ _ e => e)).size
        obtain ⟨g1, c1, w2, hr1, hown1, kk1, -⟩ := append_one (P := Tryd.prog) 57 9 (.string ⟨#[]⟩) 16 Tryd.underlying57 Tryd.infoS4 rfl (hrow1.alloc (.cells #[.string D] 9)) (heap_alloc_new w1 (.cells #[.string D] 9)) rfl (by omega) (by simp only [maxLen]; omega) (by rw [World.size_alloc]; omega)
        have HN : Hid (w2.ownsRow w.heap.size 9 1 (.slice (some ⟨g1, 0, none⟩) (i + 1) c1) (i + 1) ((l.take (i + 1)).map fun n => Value.string (numD n)) ∧ Keeps w w2 (fun _ => False)) := by
          refine ⟨by rw [HTk.out]; exact hown1, ((HK.out.trans k1 (fun _ _ e => e)).alloc _).trans kk1 (fun q hq e => ?_)⟩
          have := (ownsRow_block hrow1 e).1
          omega
        clear hrow1 hown1 kk1 k1 hz1 HK HRow HTk
        go_wp2_with (first | (at_builtin; have _t := hr1; refine app_run _ rfl (.tmp 12) (.tmp 15) 57 rfl rfl rfl hr1 ?_; clear hr1))
        go_roundw
        case rel => exact ⟨i + 1, by go_num, hlt, HN.out.1, fun e => by omega, HN.out.2⟩
        case measure => simp [intOf]; exact Hms.out
      · obtain rfl : i = l.length := by omega
        have hlt' : ¬ (l.length : Int) < (l.length : Int) := by omega
        rw [List.take_of_length_le (Nat.le_refl _)] at hrow
        have HRow := hide hrow
        have HK := hide K
        clear K hrow
        go_wp2_with fail
        go_ret
        exact ⟨_, rfl, HRow.out, HZ0.out, HK.out⟩
end Go.Proofs.YtpkbjjbbdhehdaaDoor
