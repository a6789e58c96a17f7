import Derived.Test.YtbpgjlengpgnnaaC2
namespace Go.Proofs.Ytbpgjlengpgnnaa
open Go.RowKit
namespace ctrlSets

def Post (w : World) (e : Ending) (w' : World) : Prop := e = .returned (.bool true) ∧ Below w.heap.size w w'

section
variable {w W W1 : World} {a b : Nat} {u v x y : Value}
abbrev S4 (w : World) (a b : Nat) (u v x y : Value) (W : World) : Prop := W.cell? ⟨a, 1, none⟩ = some u ∧ W.cell? ⟨a, 2, none⟩ = some v ∧ W.cell? ⟨b, 1, none⟩ = some x ∧ W.cell? ⟨b, 2, none⟩ = some y ∧ Kp w W
theorem S4.call (h : W.cell? ⟨a, 1, none⟩ = some u ∧ W.cell? ⟨a, 2, none⟩ = some v ∧ W.cell? ⟨b, 1, none⟩ = some x ∧ W.cell? ⟨b, 2, none⟩ = some y ∧ Kp w W) (k : Kp W W1) : W1.cell? ⟨a, 1, none⟩ = some u ∧ W1.cell? ⟨a, 2, none⟩ = some v ∧ W1.cell? ⟨b, 1, none⟩ = some x ∧ W1.cell? ⟨b, 2, none⟩ = some y ∧ Kp w W1 :=
  ⟨k.cell h.1, k.cell h.2.1, k.cell h.2.2.1, k.cell h.2.2.2.1, h.2.2.2.2.trans k⟩
theorem S4.drew (h : W.cell? ⟨a, 1, none⟩ = some u ∧ W.cell? ⟨a, 2, none⟩ = some v ∧ W.cell? ⟨b, 1, none⟩ = some x ∧ W.cell? ⟨b, 2, none⟩ = some y ∧ Kp w W) : W.drew.cell? ⟨a, 1, none⟩ = some u ∧ W.drew.cell? ⟨a, 2, none⟩ = some v ∧ W.drew.cell? ⟨b, 1, none⟩ = some x ∧ W.drew.cell? ⟨b, 2, none⟩ = some y ∧ Kp w W.drew :=
  ⟨h.1, h.2.1, h.2.2.1, h.2.2.2.1, h.2.2.2.2.drew⟩
end
theorem four_cells {w : World} {b : Nat} {v0 v1 v2 v3 : Value} {t : TypeId} (h : w.heap[b]? = some (.cells #[v0, v1, v2, v3] t)) : w.cell? ⟨b, 1, none⟩ = some v1 ∧ w.cell? ⟨b, 2, none⟩ = some v2 := by
  simp [World.cell?, h]
theorem start (w : World) (x i c t y j d u : Value) (n : TypeId) : S4 w w.heap.size (w.heap.size + 1) i c j d ((w.alloc (.cells #[x, i, c, t] n)).alloc (.cells #[y, j, d, u] n)) := by
  obtain ⟨h1, h2⟩ := four_cells (heap_old (heap_new w (.cells #[x, i, c, t] n)) (.cells #[y, j, d, u] n))
  have h0 := heap_new (w.alloc (.cells #[x, i, c, t] n)) (.cells #[y, j, d, u] n)
  have e : (w.alloc (.cells #[x, i, c, t] n)).heap.size = w.heap.size + 1 := by simp
  rw [e] at h0
  obtain ⟨h3, h4⟩ := four_cells h0
  exact ⟨h1, h2, h3, h4, ((Kp.refl w).alloc _).alloc _⟩

theorem put_in {W : Nat} {i c : Int} (h : 0 ≤ i ∧ i < 8 ∧ 0 ≤ c ∧ c ≤ 255) : putN W i c = setN W i.toNat c.toNat := if_pos h
theorem put_out {W : Nat} {i c : Int} (h : ¬ (0 ≤ i ∧ i < 8 ∧ 0 ≤ c ∧ c ≤ 255)) : putN W i c = W := if_neg h
theorem put_back {W : Nat} (hw : W < 18446744073709551616) (i c : Int) : putN (putN W i c) i (getN W i) = W := by
  by_cases h : 0 ≤ i ∧ i < 8 ∧ 0 ≤ c ∧ c ≤ 255
  · have e : getN W i = ((byN W i.toNat : Nat) : Int) := if_pos ⟨h.1, h.2.1⟩
    have hb := byN_lt W i.toNat
    rw [e, put_in h, put_in ⟨h.1, h.2.1, by omega, by omega⟩, Int.toNat_natCast, setN_back hw (by omega)]
  · rw [put_out h]
    by_cases h2 : 0 ≤ i ∧ i < 8
    · have e : getN W i = ((byN W i.toNat : Nat) : Int) := if_pos h2
      have hb := byN_lt W i.toNat
      rw [e, put_in ⟨h2.1, h2.2, by omega, by omega⟩, Int.toNat_natCast]
      have e2 := setN_back (w := W) (i := i.toNat) (c := byN W i.toNat) hw hb
      refine ext8 (setN_lt _ _ _ hb) hw fun k hk => ?_
      rw [byN_setN _ _ _ hb hk]
      by_cases h3 : k = i.toNat
      · rw [if_pos h3, h3]
      · rw [if_neg h3]
    · exact put_out (fun q => h2 ⟨q.1, q.2.1⟩)
theorem put_two {W : Nat} (i c j d : Int) (hij : i ≠ j) : putN (putN W i c) j d = putN (putN W j d) i c := by
  by_cases h : 0 ≤ i ∧ i < 8 ∧ 0 ≤ c ∧ c ≤ 255
  · by_cases h2 : 0 ≤ j ∧ j < 8 ∧ 0 ≤ d ∧ d ≤ 255
    · rw [put_in h, put_in h2, put_in h2, put_in h, setN_twice (by omega) (by omega) (by omega)]
    · rw [put_out h2, put_out h2]
  · rw [put_out h, put_out h]
theorem byN_put (W : Nat) {i c : Int} (h : 0 ≤ i ∧ i < 8 ∧ 0 ≤ c ∧ c ≤ 255) {k : Nat} (hk : k < 8) : byN (putN W i c) k = if (k : Int) = i then c.toNat else byN W k := by
  rw [put_in h, byN_setN _ _ _ (by omega) hk]
  by_cases h1 : (k : Int) = i
  · rw [if_pos h1, if_pos (by omega)]
  · rw [if_neg h1, if_neg (by omega)]

set_option maxRecDepth 100000 in
set_option maxHeartbeats 4000000 in
theorem core_in (W : Nat) (x i c t y j d u : Int) (w : World) (hw : W < 18446744073709551616) (h1 : 0 ≤ i) (h2 : i < 8) (h3 : 0 ≤ c) (h4 : c ≤ 255) :
    Calls Try.prog 3 #[.int .u64 (W : Int), .agg #[.int .u64 x, .int .i64 i, .int .i64 c, .int .i64 t], .agg #[.int .u64 y, .int .i64 j, .int .i64 d, .int .i64 u]] w (Post w) := by
  have q1 : SetIs (W : Int) i c ((putN W i c : Nat) : Int) := ⟨W, hw, rfl, rfl⟩
  have hX := putN_lt hw i c
  have q2 : GetIs (W : Int) i (getN W i) := ⟨W, hw, rfl, rfl⟩
  have q3 : SetIs ((putN W i c : Nat) : Int) i (getN W i) (W : Int) := ⟨_, hX, rfl, by rw [put_back hw]⟩
  have q4 : SetIs ((putN W i c : Nat) : Int) j d ((putN (putN W i c) j d : Nat) : Int) := ⟨_, hX, rfl, rfl⟩
  have q5 : SetIs (W : Int) j d ((putN W j d : Nat) : Int) := ⟨W, hw, rfl, rfl⟩
  have q6 : i ≠ j → SetIs ((putN W j d : Nat) : Int) i c ((putN (putN W i c) j d : Nat) : Int) := fun h => ⟨_, putN_lt hw j d, rfl, by rw [put_two i c j d h]⟩
  have hG : ∀ k : Nat, k < 8 → GetIs ((putN W i c : Nat) : Int) (k : Int) ((byN (putN W i c) k : Nat) : Int) := fun k hk => ⟨_, hX, rfl, by rw [getN, if_pos ⟨by omega, by omega⟩, Int.toNat_natCast]⟩
  have hA := fun k => and_val (putN W i c) k hX
  have hP := fun k (hk : k < 8) => byN_put W ⟨h1, h2, h3, h4⟩ hk
  generalize putN (putN W i c) j d = Z at *
  generalize putN W j d = Y at *
  generalize putN W i c = X at *
  generalize getN W i = G at *
  go_enter Try.func3, Try.ntmps3
  go_wp2_with fail
  refine (set_is q1 _).mono ?_
  rintro e w1 ⟨rfl, k1⟩
  have hS := S4.call (start w (.int .u64 x) (.int .i64 i) (.int .i64 c) (.int .i64 t) (.int .u64 y) (.int .i64 j) (.int .i64 d) (.int .i64 u) 24) k1
  generalize w.heap.size + 1 = B2 at *
  generalize w.heap.size = B1 at *
  clear k1 q1
  obtain ⟨c1, c2, c3, c4, kk⟩ := hS
  go_wp2_with fail
  go_loopw [9] (fun vk wr => ∃ k : Nat, vk = .int .i64 (k : Int) ∧ k ≤ 8 ∧ S4 w B1 B2 (.int .i64 i) (.int .i64 c) (.int .i64 j) (.int .i64 d) wr) (fun vk _ => 8 - (intOf vk).toNat)
  case atStart => exact ⟨0, rfl, by decide, c1, c2, c3, c4, kk⟩
  case round =>
    clear c1 c2 c3 c4 kk
    obtain ⟨k, rfl, hk, c1, c2, c3, c4, kk⟩ := hrel
    by_cases hk8 : k < 8
    · have hk8' : (k : Int) < 8 := by omega
      replace hG := hG k hk8
      replace hA := hA k
      have hB := and_val W k hw
      have hBl := byN_lt W k
      clear q2 q3 q4 q5 q6
      replace hP := hP k hk8
      rw [hP] at hG hA
      clear hP
      generalize byN W k = B at *
      by_cases he : (k : Int) = i
      · rw [if_pos he] at hG hA
        have e2 : ((c.toNat : Nat) : Int) = c := by omega
        rw [e2] at hG hA
        have he' : ((k : Int) == i) = true := beq_iff_eq.2 he
        clear he e2 hk8 hk hX hw
        go_wp2_with fail
        refine (get_is hG _).mono ?_
        rintro e w7 ⟨rfl, rfl⟩
        go_wp2_with fail
        exact ⟨⟨k + 1, by simp, by omega, c1, c2, c3, c4, kk⟩, by simp [intOf]; omega⟩
      · rw [if_neg he] at hG hA
        have he' : ((k : Int) == i) = false := beq_eq_false_iff_ne.2 he
        clear he hk8 hk hX hw
        go_wp2_with fail
        refine (get_is hG _).mono ?_
        rintro e w7 ⟨rfl, rfl⟩
        go_wp2_with fail
        exact ⟨⟨k + 1, by simp, by omega, c1, c2, c3, c4, kk⟩, by simp [intOf]; omega⟩
    · have hk8' : ¬ (k : Int) < 8 := by omega
      have hS : S4 w B1 B2 (.int .i64 i) (.int .i64 c) (.int .i64 j) (.int .i64 d) wr := ⟨c1, c2, c3, c4, kk⟩
      clear hG hA hP hX hw
      go_wp2_with fail
      go_region_held3 (fun w' => w'.cell? ⟨B1, 1, none⟩ = some (.int .i64 i) ∧ w'.cell? ⟨B1, 2, none⟩ = some (.int .i64 c) ∧ w'.cell? ⟨B2, 1, none⟩ = some (.int .i64 j) ∧ w'.cell? ⟨B2, 2, none⟩ = some (.int .i64 d) ∧ Kp w w') (first | exact hS | assumption | (with_reducible (refine S4.drew ?_; assumption)) | (with_reducible (refine S4.call ?_ k5; assumption))) (first | (go_at_call 9; refine (get_is (by assumption) _).mono ?_; rintro r w5 ⟨rfl, rfl⟩) | (go_at_call 8; refine (set_is (by assumption) _).mono ?_; rintro r w5 ⟨rfl, k5⟩))
      have hS2 : S4 w B1 B2 (.int .i64 i) (.int .i64 c) (.int .i64 j) (.int .i64 d) w5 := by assumption
      obtain ⟨d1, d2, d3, d4, dk⟩ := hS2
      clear hS c1 c2 c3 c4 kk q2 q3
      have hS : S4 w B1 B2 (.int .i64 i) (.int .i64 c) (.int .i64 j) (.int .i64 d) w5 := ⟨d1, d2, d3, d4, dk⟩
      by_cases hij : i = j
      · have hij' : (i == j) = true := beq_iff_eq.2 hij
        clear hij q4 q5 q6
        go_wp2_with fail
        go_quiet (fail)
        go_wp2_with fail
        go_ret
        exact ⟨rfl, dk.drewN _⟩
      · have hij' : (i == j) = false := beq_eq_false_iff_ne.2 hij
        replace q6 := q6 hij
        clear hij
        go_wp2_with fail
        go_region_held3 (fun w' => w'.cell? ⟨B1, 1, none⟩ = some (.int .i64 i) ∧ w'.cell? ⟨B1, 2, none⟩ = some (.int .i64 c) ∧ w'.cell? ⟨B2, 1, none⟩ = some (.int .i64 j) ∧ w'.cell? ⟨B2, 2, none⟩ = some (.int .i64 d) ∧ Kp w w') (first | exact hS | assumption | (with_reducible (refine S4.drew ?_; assumption)) | (with_reducible (refine S4.call ?_ k5; assumption))) (first | (go_at_call 9; refine (get_is (by assumption) _).mono ?_; rintro r w5 ⟨rfl, rfl⟩) | (go_at_call 8; refine (set_is (by assumption) _).mono ?_; rintro r w5 ⟨rfl, k5⟩))
        have hS2 : S4 w B1 B2 (.int .i64 i) (.int .i64 c) (.int .i64 j) (.int .i64 d) w5 := by assumption
        go_wp2_with fail
        go_ret
        exact ⟨rfl, hS2.2.2.2.2⟩

set_option maxRecDepth 100000 in
set_option maxHeartbeats 4000000 in
theorem core_i0 (W : Nat) (x i c t y j d u : Int) (w : World) (hw : W < 18446744073709551616) (h1 : i < 0) :
    Calls Try.prog 3 #[.int .u64 (W : Int), .agg #[.int .u64 x, .int .i64 i, .int .i64 c, .int .i64 t], .agg #[.int .u64 y, .int .i64 j, .int .i64 d, .int .i64 u]] w (Post w) := by
  have q1 : SetIs (W : Int) i c ((putN W i c : Nat) : Int) := ⟨W, hw, rfl, rfl⟩
  have hX := putN_lt hw i c
  have q2 : GetIs (W : Int) i (getN W i) := ⟨W, hw, rfl, rfl⟩
  have q3 : SetIs ((putN W i c : Nat) : Int) i (getN W i) (W : Int) := ⟨_, hX, rfl, by rw [put_back hw]⟩
  have q4 : SetIs ((putN W i c : Nat) : Int) j d ((putN (putN W i c) j d : Nat) : Int) := ⟨_, hX, rfl, rfl⟩
  have q5 : SetIs (W : Int) j d ((putN W j d : Nat) : Int) := ⟨W, hw, rfl, rfl⟩
  have q6 : i ≠ j → SetIs ((putN W j d : Nat) : Int) i c ((putN (putN W i c) j d : Nat) : Int) := fun h => ⟨_, putN_lt hw j d, rfl, by rw [put_two i c j d h]⟩
  have hG : ∀ k : Nat, k < 8 → GetIs ((putN W i c : Nat) : Int) (k : Int) ((byN (putN W i c) k : Nat) : Int) := fun k hk => ⟨_, hX, rfl, by rw [getN, if_pos ⟨by omega, by omega⟩, Int.toNat_natCast]⟩
  have hA := fun k => and_val (putN W i c) k hX
  have hP : putN W i c = W := put_out (by omega)
  rw [hP] at q1 q3 q4 q6 hG hA
  clear hP hX
  generalize putN W j d = Y at *
  generalize getN W i = G at *
  go_enter Try.func3, Try.ntmps3
  go_wp2_with fail
  refine (set_is q1 _).mono ?_
  rintro e w1 ⟨rfl, k1⟩
  have hS := S4.call (start w (.int .u64 x) (.int .i64 i) (.int .i64 c) (.int .i64 t) (.int .u64 y) (.int .i64 j) (.int .i64 d) (.int .i64 u) 24) k1
  generalize w.heap.size + 1 = B2 at *
  generalize w.heap.size = B1 at *
  clear k1 q1
  obtain ⟨c1, c2, c3, c4, kk⟩ := hS
  go_wp2_with fail
  go_loopw [9] (fun vk wr => ∃ k : Nat, vk = .int .i64 (k : Int) ∧ k ≤ 8 ∧ S4 w B1 B2 (.int .i64 i) (.int .i64 c) (.int .i64 j) (.int .i64 d) wr) (fun vk _ => 8 - (intOf vk).toNat)
  case atStart => exact ⟨0, rfl, by decide, c1, c2, c3, c4, kk⟩
  case round =>
    clear c1 c2 c3 c4 kk
    obtain ⟨k, rfl, hk, c1, c2, c3, c4, kk⟩ := hrel
    by_cases hk8 : k < 8
    · have hk8' : (k : Int) < 8 := by omega
      replace hG := hG k hk8
      replace hA := hA k
      have hB := and_val W k hw
      have hBl := byN_lt W k
      clear q2 q3 q4 q5 q6
      generalize byN W k = B at *
      clear hk8 hk hw
      go_wp2_with fail
      refine (get_is hG _).mono ?_
      rintro e w7 ⟨rfl, rfl⟩
      go_wp2_with fail
      exact ⟨⟨k + 1, by simp, by omega, c1, c2, c3, c4, kk⟩, by simp [intOf]; omega⟩
    · have hk8' : ¬ (k : Int) < 8 := by omega
      have hS : S4 w B1 B2 (.int .i64 i) (.int .i64 c) (.int .i64 j) (.int .i64 d) wr := ⟨c1, c2, c3, c4, kk⟩
      clear hG hA hw
      go_wp2_with fail
      go_region_held3 (fun w' => w'.cell? ⟨B1, 1, none⟩ = some (.int .i64 i) ∧ w'.cell? ⟨B1, 2, none⟩ = some (.int .i64 c) ∧ w'.cell? ⟨B2, 1, none⟩ = some (.int .i64 j) ∧ w'.cell? ⟨B2, 2, none⟩ = some (.int .i64 d) ∧ Kp w w') (first | exact hS | assumption | (with_reducible (refine S4.drew ?_; assumption)) | (with_reducible (refine S4.call ?_ k5; assumption))) (first | (go_at_call 9; refine (get_is (by assumption) _).mono ?_; rintro r w5 ⟨rfl, rfl⟩) | (go_at_call 8; refine (set_is (by assumption) _).mono ?_; rintro r w5 ⟨rfl, k5⟩))
      have hS2 : S4 w B1 B2 (.int .i64 i) (.int .i64 c) (.int .i64 j) (.int .i64 d) w5 := by assumption
      obtain ⟨d1, d2, d3, d4, dk⟩ := hS2
      clear hS c1 c2 c3 c4 kk q2 q3
      have hS : S4 w B1 B2 (.int .i64 i) (.int .i64 c) (.int .i64 j) (.int .i64 d) w5 := ⟨d1, d2, d3, d4, dk⟩
      by_cases hij : i = j
      · have hij' : (i == j) = true := beq_iff_eq.2 hij
        clear hij q4 q5 q6
        go_wp2_with fail
        go_quiet (fail)
        go_wp2_with fail
        go_ret
        exact ⟨rfl, dk.drewN _⟩
      · have hij' : (i == j) = false := beq_eq_false_iff_ne.2 hij
        replace q6 := q6 hij
        clear hij
        go_wp2_with fail
        go_region_held3 (fun w' => w'.cell? ⟨B1, 1, none⟩ = some (.int .i64 i) ∧ w'.cell? ⟨B1, 2, none⟩ = some (.int .i64 c) ∧ w'.cell? ⟨B2, 1, none⟩ = some (.int .i64 j) ∧ w'.cell? ⟨B2, 2, none⟩ = some (.int .i64 d) ∧ Kp w w') (first | exact hS | assumption | (with_reducible (refine S4.drew ?_; assumption)) | (with_reducible (refine S4.call ?_ k5; assumption))) (first | (go_at_call 9; refine (get_is (by assumption) _).mono ?_; rintro r w5 ⟨rfl, rfl⟩) | (go_at_call 8; refine (set_is (by assumption) _).mono ?_; rintro r w5 ⟨rfl, k5⟩))
        have hS2 : S4 w B1 B2 (.int .i64 i) (.int .i64 c) (.int .i64 j) (.int .i64 d) w5 := by assumption
        go_wp2_with fail
        go_ret
        exact ⟨rfl, hS2.2.2.2.2⟩

set_option maxRecDepth 100000 in
set_option maxHeartbeats 4000000 in
theorem core_i8 (W : Nat) (x i c t y j d u : Int) (w : World) (hw : W < 18446744073709551616) (h1 : 0 ≤ i) (h2 : 7 < i) :
    Calls Try.prog 3 #[.int .u64 (W : Int), .agg #[.int .u64 x, .int .i64 i, .int .i64 c, .int .i64 t], .agg #[.int .u64 y, .int .i64 j, .int .i64 d, .int .i64 u]] w (Post w) := by
  have q1 : SetIs (W : Int) i c ((putN W i c : Nat) : Int) := ⟨W, hw, rfl, rfl⟩
  have hX := putN_lt hw i c
  have q2 : GetIs (W : Int) i (getN W i) := ⟨W, hw, rfl, rfl⟩
  have q3 : SetIs ((putN W i c : Nat) : Int) i (getN W i) (W : Int) := ⟨_, hX, rfl, by rw [put_back hw]⟩
  have q4 : SetIs ((putN W i c : Nat) : Int) j d ((putN (putN W i c) j d : Nat) : Int) := ⟨_, hX, rfl, rfl⟩
  have q5 : SetIs (W : Int) j d ((putN W j d : Nat) : Int) := ⟨W, hw, rfl, rfl⟩
  have q6 : i ≠ j → SetIs ((putN W j d : Nat) : Int) i c ((putN (putN W i c) j d : Nat) : Int) := fun h => ⟨_, putN_lt hw j d, rfl, by rw [put_two i c j d h]⟩
  have hG : ∀ k : Nat, k < 8 → GetIs ((putN W i c : Nat) : Int) (k : Int) ((byN (putN W i c) k : Nat) : Int) := fun k hk => ⟨_, hX, rfl, by rw [getN, if_pos ⟨by omega, by omega⟩, Int.toNat_natCast]⟩
  have hA := fun k => and_val (putN W i c) k hX
  have hP : putN W i c = W := put_out (by omega)
  rw [hP] at q1 q3 q4 q6 hG hA
  clear hP hX
  generalize putN W j d = Y at *
  generalize getN W i = G at *
  go_enter Try.func3, Try.ntmps3
  go_wp2_with fail
  refine (set_is q1 _).mono ?_
  rintro e w1 ⟨rfl, k1⟩
  have hS := S4.call (start w (.int .u64 x) (.int .i64 i) (.int .i64 c) (.int .i64 t) (.int .u64 y) (.int .i64 j) (.int .i64 d) (.int .i64 u) 24) k1
  generalize w.heap.size + 1 = B2 at *
  generalize w.heap.size = B1 at *
  clear k1 q1
  obtain ⟨c1, c2, c3, c4, kk⟩ := hS
  go_wp2_with fail
  go_loopw [9] (fun vk wr => ∃ k : Nat, vk = .int .i64 (k : Int) ∧ k ≤ 8 ∧ S4 w B1 B2 (.int .i64 i) (.int .i64 c) (.int .i64 j) (.int .i64 d) wr) (fun vk _ => 8 - (intOf vk).toNat)
  case atStart => exact ⟨0, rfl, by decide, c1, c2, c3, c4, kk⟩
  case round =>
    clear c1 c2 c3 c4 kk
    obtain ⟨k, rfl, hk, c1, c2, c3, c4, kk⟩ := hrel
    by_cases hk8 : k < 8
    · have hk8' : (k : Int) < 8 := by omega
      replace hG := hG k hk8
      replace hA := hA k
      have hB := and_val W k hw
      have hBl := byN_lt W k
      clear q2 q3 q4 q5 q6
      generalize byN W k = B at *
      clear hk8 hk hw
      go_wp2_with fail
      refine (get_is hG _).mono ?_
      rintro e w7 ⟨rfl, rfl⟩
      go_wp2_with fail
      exact ⟨⟨k + 1, by simp, by omega, c1, c2, c3, c4, kk⟩, by simp [intOf]; omega⟩
    · have hk8' : ¬ (k : Int) < 8 := by omega
      have hS : S4 w B1 B2 (.int .i64 i) (.int .i64 c) (.int .i64 j) (.int .i64 d) wr := ⟨c1, c2, c3, c4, kk⟩
      clear hG hA hw
      go_wp2_with fail
      go_region_held3 (fun w' => w'.cell? ⟨B1, 1, none⟩ = some (.int .i64 i) ∧ w'.cell? ⟨B1, 2, none⟩ = some (.int .i64 c) ∧ w'.cell? ⟨B2, 1, none⟩ = some (.int .i64 j) ∧ w'.cell? ⟨B2, 2, none⟩ = some (.int .i64 d) ∧ Kp w w') (first | exact hS | assumption | (with_reducible (refine S4.drew ?_; assumption)) | (with_reducible (refine S4.call ?_ k5; assumption))) (first | (go_at_call 9; refine (get_is (by assumption) _).mono ?_; rintro r w5 ⟨rfl, rfl⟩) | (go_at_call 8; refine (set_is (by assumption) _).mono ?_; rintro r w5 ⟨rfl, k5⟩))
      have hS2 : S4 w B1 B2 (.int .i64 i) (.int .i64 c) (.int .i64 j) (.int .i64 d) w5 := by assumption
      obtain ⟨d1, d2, d3, d4, dk⟩ := hS2
      clear hS c1 c2 c3 c4 kk q2 q3
      have hS : S4 w B1 B2 (.int .i64 i) (.int .i64 c) (.int .i64 j) (.int .i64 d) w5 := ⟨d1, d2, d3, d4, dk⟩
      by_cases hij : i = j
      · have hij' : (i == j) = true := beq_iff_eq.2 hij
        clear hij q4 q5 q6
        go_wp2_with fail
        go_quiet (fail)
        go_wp2_with fail
        go_ret
        exact ⟨rfl, dk.drewN _⟩
      · have hij' : (i == j) = false := beq_eq_false_iff_ne.2 hij
        replace q6 := q6 hij
        clear hij
        go_wp2_with fail
        go_region_held3 (fun w' => w'.cell? ⟨B1, 1, none⟩ = some (.int .i64 i) ∧ w'.cell? ⟨B1, 2, none⟩ = some (.int .i64 c) ∧ w'.cell? ⟨B2, 1, none⟩ = some (.int .i64 j) ∧ w'.cell? ⟨B2, 2, none⟩ = some (.int .i64 d) ∧ Kp w w') (first | exact hS | assumption | (with_reducible (refine S4.drew ?_; assumption)) | (with_reducible (refine S4.call ?_ k5; assumption))) (first | (go_at_call 9; refine (get_is (by assumption) _).mono ?_; rintro r w5 ⟨rfl, rfl⟩) | (go_at_call 8; refine (set_is (by assumption) _).mono ?_; rintro r w5 ⟨rfl, k5⟩))
        have hS2 : S4 w B1 B2 (.int .i64 i) (.int .i64 c) (.int .i64 j) (.int .i64 d) w5 := by assumption
        go_wp2_with fail
        go_ret
        exact ⟨rfl, hS2.2.2.2.2⟩

set_option maxRecDepth 100000 in
set_option maxHeartbeats 4000000 in
theorem core_c0 (W : Nat) (x i c t y j d u : Int) (w : World) (hw : W < 18446744073709551616) (h1 : 0 ≤ i) (h2 : i ≤ 7) (h3 : c < 0) :
    Calls Try.prog 3 #[.int .u64 (W : Int), .agg #[.int .u64 x, .int .i64 i, .int .i64 c, .int .i64 t], .agg #[.int .u64 y, .int .i64 j, .int .i64 d, .int .i64 u]] w (Post w) := by
  have q1 : SetIs (W : Int) i c ((putN W i c : Nat) : Int) := ⟨W, hw, rfl, rfl⟩
  have hX := putN_lt hw i c
  have q2 : GetIs (W : Int) i (getN W i) := ⟨W, hw, rfl, rfl⟩
  have q3 : SetIs ((putN W i c : Nat) : Int) i (getN W i) (W : Int) := ⟨_, hX, rfl, by rw [put_back hw]⟩
  have q4 : SetIs ((putN W i c : Nat) : Int) j d ((putN (putN W i c) j d : Nat) : Int) := ⟨_, hX, rfl, rfl⟩
  have q5 : SetIs (W : Int) j d ((putN W j d : Nat) : Int) := ⟨W, hw, rfl, rfl⟩
  have q6 : i ≠ j → SetIs ((putN W j d : Nat) : Int) i c ((putN (putN W i c) j d : Nat) : Int) := fun h => ⟨_, putN_lt hw j d, rfl, by rw [put_two i c j d h]⟩
  have hG : ∀ k : Nat, k < 8 → GetIs ((putN W i c : Nat) : Int) (k : Int) ((byN (putN W i c) k : Nat) : Int) := fun k hk => ⟨_, hX, rfl, by rw [getN, if_pos ⟨by omega, by omega⟩, Int.toNat_natCast]⟩
  have hA := fun k => and_val (putN W i c) k hX
  have hP : putN W i c = W := put_out (by omega)
  rw [hP] at q1 q3 q4 q6 hG hA
  clear hP hX
  generalize putN W j d = Y at *
  generalize getN W i = G at *
  go_enter Try.func3, Try.ntmps3
  go_wp2_with fail
  refine (set_is q1 _).mono ?_
  rintro e w1 ⟨rfl, k1⟩
  have hS := S4.call (start w (.int .u64 x) (.int .i64 i) (.int .i64 c) (.int .i64 t) (.int .u64 y) (.int .i64 j) (.int .i64 d) (.int .i64 u) 24) k1
  generalize w.heap.size + 1 = B2 at *
  generalize w.heap.size = B1 at *
  clear k1 q1
  obtain ⟨c1, c2, c3, c4, kk⟩ := hS
  go_wp2_with fail
  go_loopw [9] (fun vk wr => ∃ k : Nat, vk = .int .i64 (k : Int) ∧ k ≤ 8 ∧ S4 w B1 B2 (.int .i64 i) (.int .i64 c) (.int .i64 j) (.int .i64 d) wr) (fun vk _ => 8 - (intOf vk).toNat)
  case atStart => exact ⟨0, rfl, by decide, c1, c2, c3, c4, kk⟩
  case round =>
    clear c1 c2 c3 c4 kk
    obtain ⟨k, rfl, hk, c1, c2, c3, c4, kk⟩ := hrel
    by_cases hk8 : k < 8
    · have hk8' : (k : Int) < 8 := by omega
      replace hG := hG k hk8
      replace hA := hA k
      have hB := and_val W k hw
      have hBl := byN_lt W k
      clear q2 q3 q4 q5 q6
      generalize byN W k = B at *
      clear hk8 hk hw
      go_wp2_with fail
      refine (get_is hG _).mono ?_
      rintro e w7 ⟨rfl, rfl⟩
      go_wp2_with fail
      exact ⟨⟨k + 1, by simp, by omega, c1, c2, c3, c4, kk⟩, by simp [intOf]; omega⟩
    · have hk8' : ¬ (k : Int) < 8 := by omega
      have hS : S4 w B1 B2 (.int .i64 i) (.int .i64 c) (.int .i64 j) (.int .i64 d) wr := ⟨c1, c2, c3, c4, kk⟩
      clear hG hA hw
      go_wp2_with fail
      go_region_held3 (fun w' => w'.cell? ⟨B1, 1, none⟩ = some (.int .i64 i) ∧ w'.cell? ⟨B1, 2, none⟩ = some (.int .i64 c) ∧ w'.cell? ⟨B2, 1, none⟩ = some (.int .i64 j) ∧ w'.cell? ⟨B2, 2, none⟩ = some (.int .i64 d) ∧ Kp w w') (first | exact hS | assumption | (with_reducible (refine S4.drew ?_; assumption)) | (with_reducible (refine S4.call ?_ k5; assumption))) (first | (go_at_call 9; refine (get_is (by assumption) _).mono ?_; rintro r w5 ⟨rfl, rfl⟩) | (go_at_call 8; refine (set_is (by assumption) _).mono ?_; rintro r w5 ⟨rfl, k5⟩))
      have hS2 : S4 w B1 B2 (.int .i64 i) (.int .i64 c) (.int .i64 j) (.int .i64 d) w5 := by assumption
      obtain ⟨d1, d2, d3, d4, dk⟩ := hS2
      clear hS c1 c2 c3 c4 kk q2 q3
      have hS : S4 w B1 B2 (.int .i64 i) (.int .i64 c) (.int .i64 j) (.int .i64 d) w5 := ⟨d1, d2, d3, d4, dk⟩
      by_cases hij : i = j
      · have hij' : (i == j) = true := beq_iff_eq.2 hij
        clear hij q4 q5 q6
        go_wp2_with fail
        go_quiet (fail)
        go_wp2_with fail
        go_ret
        exact ⟨rfl, dk.drewN _⟩
      · have hij' : (i == j) = false := beq_eq_false_iff_ne.2 hij
        replace q6 := q6 hij
        clear hij
        go_wp2_with fail
        go_region_held3 (fun w' => w'.cell? ⟨B1, 1, none⟩ = some (.int .i64 i) ∧ w'.cell? ⟨B1, 2, none⟩ = some (.int .i64 c) ∧ w'.cell? ⟨B2, 1, none⟩ = some (.int .i64 j) ∧ w'.cell? ⟨B2, 2, none⟩ = some (.int .i64 d) ∧ Kp w w') (first | exact hS | assumption | (with_reducible (refine S4.drew ?_; assumption)) | (with_reducible (refine S4.call ?_ k5; assumption))) (first | (go_at_call 9; refine (get_is (by assumption) _).mono ?_; rintro r w5 ⟨rfl, rfl⟩) | (go_at_call 8; refine (set_is (by assumption) _).mono ?_; rintro r w5 ⟨rfl, k5⟩))
        have hS2 : S4 w B1 B2 (.int .i64 i) (.int .i64 c) (.int .i64 j) (.int .i64 d) w5 := by assumption
        go_wp2_with fail
        go_ret
        exact ⟨rfl, hS2.2.2.2.2⟩

set_option maxRecDepth 100000 in
set_option maxHeartbeats 4000000 in
theorem core_c9 (W : Nat) (x i c t y j d u : Int) (w : World) (hw : W < 18446744073709551616) (h1 : 0 ≤ i) (h2 : i ≤ 7) (h3 : 0 ≤ c) (h4 : 255 < c) (h5 : decide (c ≤ 255) = false) :
    Calls Try.prog 3 #[.int .u64 (W : Int), .agg #[.int .u64 x, .int .i64 i, .int .i64 c, .int .i64 t], .agg #[.int .u64 y, .int .i64 j, .int .i64 d, .int .i64 u]] w (Post w) := by
  have q1 : SetIs (W : Int) i c ((putN W i c : Nat) : Int) := ⟨W, hw, rfl, rfl⟩
  have hX := putN_lt hw i c
  have q2 : GetIs (W : Int) i (getN W i) := ⟨W, hw, rfl, rfl⟩
  have q3 : SetIs ((putN W i c : Nat) : Int) i (getN W i) (W : Int) := ⟨_, hX, rfl, by rw [put_back hw]⟩
  have q4 : SetIs ((putN W i c : Nat) : Int) j d ((putN (putN W i c) j d : Nat) : Int) := ⟨_, hX, rfl, rfl⟩
  have q5 : SetIs (W : Int) j d ((putN W j d : Nat) : Int) := ⟨W, hw, rfl, rfl⟩
  have q6 : i ≠ j → SetIs ((putN W j d : Nat) : Int) i c ((putN (putN W i c) j d : Nat) : Int) := fun h => ⟨_, putN_lt hw j d, rfl, by rw [put_two i c j d h]⟩
  have hG : ∀ k : Nat, k < 8 → GetIs ((putN W i c : Nat) : Int) (k : Int) ((byN (putN W i c) k : Nat) : Int) := fun k hk => ⟨_, hX, rfl, by rw [getN, if_pos ⟨by omega, by omega⟩, Int.toNat_natCast]⟩
  have hA := fun k => and_val (putN W i c) k hX
  have hP : putN W i c = W := put_out (by omega)
  rw [hP] at q1 q3 q4 q6 hG hA
  clear hP hX
  generalize putN W j d = Y at *
  generalize getN W i = G at *
  go_enter Try.func3, Try.ntmps3
  go_wp2_with fail
  refine (set_is q1 _).mono ?_
  rintro e w1 ⟨rfl, k1⟩
  have hS := S4.call (start w (.int .u64 x) (.int .i64 i) (.int .i64 c) (.int .i64 t) (.int .u64 y) (.int .i64 j) (.int .i64 d) (.int .i64 u) 24) k1
  generalize w.heap.size + 1 = B2 at *
  generalize w.heap.size = B1 at *
  clear k1 q1
  obtain ⟨c1, c2, c3, c4, kk⟩ := hS
  go_wp2_with fail
  go_loopw [9] (fun vk wr => ∃ k : Nat, vk = .int .i64 (k : Int) ∧ k ≤ 8 ∧ S4 w B1 B2 (.int .i64 i) (.int .i64 c) (.int .i64 j) (.int .i64 d) wr) (fun vk _ => 8 - (intOf vk).toNat)
  case atStart => exact ⟨0, rfl, by decide, c1, c2, c3, c4, kk⟩
  case round =>
    clear c1 c2 c3 c4 kk
    obtain ⟨k, rfl, hk, c1, c2, c3, c4, kk⟩ := hrel
    by_cases hk8 : k < 8
    · have hk8' : (k : Int) < 8 := by omega
      replace hG := hG k hk8
      replace hA := hA k
      have hB := and_val W k hw
      have hBl := byN_lt W k
      clear q2 q3 q4 q5 q6
      generalize byN W k = B at *
      clear hk8 hk hw
      go_wp2_with fail
      refine (get_is hG _).mono ?_
      rintro e w7 ⟨rfl, rfl⟩
      go_wp2_with fail
      exact ⟨⟨k + 1, by simp, by omega, c1, c2, c3, c4, kk⟩, by simp [intOf]; omega⟩
    · have hk8' : ¬ (k : Int) < 8 := by omega
      have hS : S4 w B1 B2 (.int .i64 i) (.int .i64 c) (.int .i64 j) (.int .i64 d) wr := ⟨c1, c2, c3, c4, kk⟩
      clear hG hA hw
      go_wp2_with fail
      go_region_held3 (fun w' => w'.cell? ⟨B1, 1, none⟩ = some (.int .i64 i) ∧ w'.cell? ⟨B1, 2, none⟩ = some (.int .i64 c) ∧ w'.cell? ⟨B2, 1, none⟩ = some (.int .i64 j) ∧ w'.cell? ⟨B2, 2, none⟩ = some (.int .i64 d) ∧ Kp w w') (first | exact hS | assumption | (with_reducible (refine S4.drew ?_; assumption)) | (with_reducible (refine S4.call ?_ k5; assumption))) (first | (go_at_call 9; refine (get_is (by assumption) _).mono ?_; rintro r w5 ⟨rfl, rfl⟩) | (go_at_call 8; refine (set_is (by assumption) _).mono ?_; rintro r w5 ⟨rfl, k5⟩))
      have hS2 : S4 w B1 B2 (.int .i64 i) (.int .i64 c) (.int .i64 j) (.int .i64 d) w5 := by assumption
      obtain ⟨d1, d2, d3, d4, dk⟩ := hS2
      clear hS c1 c2 c3 c4 kk q2 q3
      have hS : S4 w B1 B2 (.int .i64 i) (.int .i64 c) (.int .i64 j) (.int .i64 d) w5 := ⟨d1, d2, d3, d4, dk⟩
      by_cases hij : i = j
      · have hij' : (i == j) = true := beq_iff_eq.2 hij
        clear hij q4 q5 q6
        go_wp2_with fail
        go_quiet (fail)
        go_wp2_with fail
        go_ret
        exact ⟨rfl, dk.drewN _⟩
      · have hij' : (i == j) = false := beq_eq_false_iff_ne.2 hij
        replace q6 := q6 hij
        clear hij
        go_wp2_with fail
        go_region_held3 (fun w' => w'.cell? ⟨B1, 1, none⟩ = some (.int .i64 i) ∧ w'.cell? ⟨B1, 2, none⟩ = some (.int .i64 c) ∧ w'.cell? ⟨B2, 1, none⟩ = some (.int .i64 j) ∧ w'.cell? ⟨B2, 2, none⟩ = some (.int .i64 d) ∧ Kp w w') (first | exact hS | assumption | (with_reducible (refine S4.drew ?_; assumption)) | (with_reducible (refine S4.call ?_ k5; assumption))) (first | (go_at_call 9; refine (get_is (by assumption) _).mono ?_; rintro r w5 ⟨rfl, rfl⟩) | (go_at_call 8; refine (set_is (by assumption) _).mono ?_; rintro r w5 ⟨rfl, k5⟩))
        have hS2 : S4 w B1 B2 (.int .i64 i) (.int .i64 c) (.int .i64 j) (.int .i64 d) w5 := by assumption
        go_wp2_with fail
        go_ret
        exact ⟨rfl, hS2.2.2.2.2⟩

theorem walk (a0 b1 i1 c1 t1 b2 i2 c2 t2 : Int) (w0 : (Lit.int .u64 a0).wf = true) (_ : (Lit.int .u64 b1).wf = true) (_ : (Lit.int .i64 i1).wf = true) (_ : (Lit.int .i64 c1).wf = true) (_ : (Lit.int .i64 t1).wf = true) (_ : (Lit.int .u64 b2).wf = true) (_ : (Lit.int .i64 i2).wf = true) (_ : (Lit.int .i64 c2).wf = true) (_ : (Lit.int .i64 t2).wf = true) (W : World) :
    Calls Try.prog 3 #[.int .u64 a0, .agg #[.int .u64 b1, .int .i64 i1, .int .i64 c1, .int .i64 t1], .agg #[.int .u64 b2, .int .i64 i2, .int .i64 c2, .int .i64 t2]] W fun e w' => e = .returned (.bool true) ∧ Below W.heap.size W w' := by
  obtain ⟨h, rfl, hh⟩ := u64_nat w0
  by_cases h1 : 0 ≤ i1
  · by_cases h2 : i1 ≤ 7
    · by_cases h3 : 0 ≤ c1
      · by_cases h4 : c1 ≤ 255
        · exact core_in h b1 i1 c1 t1 b2 i2 c2 t2 W hh h1 (by omega) h3 h4
        · exact core_c9 h b1 i1 c1 t1 b2 i2 c2 t2 W hh h1 h2 h3 (by omega) (decide_eq_false h4)
      · exact core_c0 h b1 i1 c1 t1 b2 i2 c2 t2 W hh h1 h2 (by omega)
    · exact core_i8 h b1 i1 c1 t1 b2 i2 c2 t2 W hh h1 (by omega)
  · exact core_i0 h b1 i1 c1 t1 b2 i2 c2 t2 W hh (by omega)
end ctrlSets
end Go.Proofs.Ytbpgjlengpgnnaa
