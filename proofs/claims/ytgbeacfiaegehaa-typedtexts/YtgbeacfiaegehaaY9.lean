/-
  typed: TypedTexts' own both. (genY9.py)
-/
import Derived.Test.YtgbeacfiaegehaaY8
namespace Go.Proofs.Ytgbeacfiaegehaa
open Go.RowKit
set_option linter.unusedVariables false
/-- An Ask beside a Both. -/
def BoS (w w' : World) (a : AskD) : Prop := w'.cell? ⟨w.heap.size, 1, none⟩ = some (.int .u64 (a.u : Int)) ∧ w'.cell? ⟨w.heap.size, 4, none⟩ = some (.int .i64 a.m) ∧ w'.cell? ⟨w.heap.size, 5, none⟩ = some (.string a.s) ∧ w'.cell? ⟨w.heap.size, 6, none⟩ = some (.string a.r) ∧ w'.cell? ⟨w.heap.size + 1, 0, none⟩ = some (.iface 50 (.agg #[.int .i64 a.m])) ∧ w'.cell? ⟨w.heap.size + 1, 1, none⟩ = some (.iface 30 (.agg #[])) ∧ Keeps w w' (fun _ => False)
theorem BoS.keep {w w1 w2 : World} {a : AskD} (h : BoS w w1 a) (k : Keeps w1 w2 (fun _ => False)) : BoS w w2 a := ⟨kcell k h.1, kcell k h.2.1, kcell k h.2.2.1, kcell k h.2.2.2.1, kcell k h.2.2.2.2.1, kcell k h.2.2.2.2.2.1, h.2.2.2.2.2.2.trans k (fun _ _ x => x)⟩
theorem boS_new (w : World) (a : AskD) : BoS w ((w.alloc (.cells #[.int .i64 a.i, .int .u64 (a.u : Int), .float .f64 a.f, .bool a.b, .int .i64 a.m, .string a.s, .string a.r] 43)).alloc (.cells #[.iface 50 (.agg #[.int .i64 a.m]), .iface 30 (.agg #[])] 98)) a :=
  ⟨old_cell _ (new_cell _ _ _ _ _ rfl), old_cell _ (new_cell _ _ _ _ _ rfl), old_cell _ (new_cell _ _ _ _ _ rfl), old_cell _ (new_cell _ _ _ _ _ rfl), next_cell _ _ _ _ _ _ rfl, next_cell _ _ _ _ _ _ rfl, ((Keeps.refl _ _).alloc _).alloc _⟩
theorem bpack (a : AskD) (hu : a.u < 18446744073709551616) : ∃ (X D : ByteArray) (y : Bool), (y = true → X ++ strOf (be 8 a.u) = D ∧ X.size ≤ 128) ∧ (y = false → X = D) ∧ (∀ w, Calls Try.prog 57 #[.agg #[.iface 50 (.agg #[.int .i64 a.m]), .iface 30 (.agg #[])], .agg #[.string a.s, .int .u64 (a.u : Int)]] w fun e w' => e = .returned (.tuple #[.string D, .bool y]) ∧ Keeps w w' (fun _ => False)) ∧ (∀ w, Calls Try.prog 49 #[.int .i64 a.m, .string a.s] w fun e w' => e = .returned (.tuple #[.string X, .bool y]) ∧ Keeps w w' (fun _ => False)) := by
  obtain ⟨X, y, h1, h2, h3, -, h5⟩ := pack_both a.m a.s
  cases y
  · obtain ⟨g1, rfl⟩ := h3 rfl
    exact ⟨_, _, false, (fun e => by cases e), fun _ => rfl, fun w => bsu_Pack_no a.m a.s a.u g1 w, h5⟩
  · obtain ⟨M, e1, e2, e3, rfl⟩ := h2 rfl
    refine ⟨_, _, true, fun _ => ⟨strOf_append _ _, h1⟩, (fun e => by cases e), fun w => ?_, h5⟩
    rw [e1]
    exact bsu_Pack_yes M a.s a.u e2 e3 hu w
/-- What Unpack answers. -/
theorem bunpack (a : AskD) (hm : I64 a.m) (hr : a.r.size ≤ 9223372036854775807) : ∃ (n : Nat) (R1 : ByteArray) (R2 : Nat), txW a.m = (n : Int) ∧ n ≤ 128 ∧ (∀ w, Calls Try.prog 60 #[.agg #[.iface 50 (.agg #[.int .i64 a.m]), .iface 30 (.agg #[])], .string a.r] w fun e w' => e = .returned (.agg #[.string R1, .int .u64 (R2 : Int)]) ∧ Keeps w w' (fun _ => False)) ∧ ((¬ a.r.size = n + 8 ∧ R1 = ⟨#[]⟩ ∧ R2 = 0) ∨ (a.r.size = n + 8 ∧ (∀ w, Calls Try.prog 52 #[.int .i64 a.m, .string (a.r.extract 0 n)] w fun e w' => e = .returned (.string R1) ∧ w' = w) ∧ (∀ w, Calls Try.prog 40 #[.string (a.r.extract n a.r.size)] w fun e w' => e = .returned (.int .u64 (R2 : Int)) ∧ w' = w))) := by
  obtain ⟨n, hn, hn2⟩ := txW_nat a.m
  by_cases h : a.r.size = n + 8
  · refine ⟨n, _, _, hn, hn2, fun w => bsu_Unpack_yes a.m hm a.r n hn hn2 h w, Or.inr ⟨h, fun w => ?_, fun w => ?_⟩⟩
    · rw [take_strOf]
      have := rUnpackText a.m (strOf (a.r.data.toList.take n)) w
      rwa [strOf_data] at this
    · rw [drop_strOf]
      have := rNumber_any (strOf (a.r.data.toList.drop n)) w
      rwa [strOf_data] at this
  · exact ⟨n, ⟨#[]⟩, 0, hn, hn2, fun w => bsu_Unpack_no a.m a.r hr (by rw [hn]; omega) w, Or.inl ⟨h, rfl, rfl⟩⟩
set_option maxRecDepth 100000 in
set_option maxHeartbeats 8000000 in
theorem both_any (a : AskD) (ha : a.Ok) (w : World) : Calls Try.prog 29 #[.agg a.cells] w fun e w' => e = .returned (.bool true) ∧ Keeps w w' (fun _ => False) := by
  obtain ⟨hi, hu, hf, hm, hs, hr⟩ := ha
  have hA : a.cells = #[.int .i64 a.i, .int .u64 (a.u : Int), .float .f64 a.f, .bool a.b, .int .i64 a.m, .string a.s, .string a.r] := rfl
  rw [hA]
  clear hA
  have Z0 := boS_new w a
  obtain ⟨X, D, y, hy, hny, hP1, hP2⟩ := bpack a hu
  obtain ⟨n, R1, R2, hn, hn2, hU, hcase⟩ := bunpack a hm hr
  have hN := rTextWidth a.m
  have hW := bsu_Width a.m
  have hL := bsu_Align (.iface 50 (.agg #[.int .i64 a.m])) (.iface 30 (.agg #[]))
  rw [hn] at hN hW
  have hB := rBytes_any a.u hu
  have hBs : (strOf (be 8 a.u)).size = 8 := by rw [strOf_size, be_length]
  generalize strOf (be 8 a.u) = T at *
  clear hn hi hf hm hs hu
  have e8 : wrap64 ((n : Int) + 8) = (n : Int) + 8 := by unfold wrap64; omega
  go_enter Try.func29, Try.ntmps29
  go_wp2_with fail
  (with_reducible refine (hP1 _).mono ?_)
  rintro e w1 ⟨rfl, k1⟩
  have Z1 := Z0.keep k1
  clear Z0 k1 hP1
  obtain ⟨c1, c4, c5, c6, d0, d1, -⟩ := id Z1
  go_wp2_with fail
  (with_reducible refine (hP2 _).mono ?_)
  rintro e w2 ⟨rfl, k2⟩
  have Z2 := hide (Z1.keep k2)
  clear Z1 k2 hP2 c1 c4 c5 c6 d0 d1
  obtain ⟨c1, c4, c5, c6, d0, d1, -⟩ := Z2.out
  cases y
  · obtain rfl := hny rfl
    clear hy hny hB hBs
    have Z3 := Z2
    clear Z2
    go_wp2_with fail
    (with_reducible refine (hN _).mono ?_)
    rintro e w4 ⟨rfl, rfl⟩
    go_wp2_with fail
    (with_reducible refine (hW _).mono ?_)
    rintro e w5 ⟨rfl, k5⟩
    have Z5 := hide (Z3.out.keep k5)
    clear Z3 k5 hW hN c1 c4 c5 c6 d0 d1
    obtain ⟨c1, c4, c5, c6, d0, d1, -⟩ := Z5.out
    go_wp2_with fail
    (with_reducible refine (hL _).mono ?_)
    rintro e w6 ⟨rfl, k6⟩
    have Z6 := hide (Z5.out.keep k6)
    clear Z5 k6 hL c1 c4 c5 c6 d0 d1
    obtain ⟨c1, c4, c5, c6, d0, d1, -⟩ := Z6.out
    go_wp2_with fail
    (with_reducible refine (hU _).mono ?_)
    rintro e w7 ⟨rfl, k7⟩
    have Z7 := hide ((Z6.out.keep k7).keep ((Keeps.refl _ (fun _ => False)).alloc (.cells #[.string R1, .int .u64 (R2 : Int)] 101)))
    clear Z6 k7 hU c1 c4 c5 c6 d0 d1
    obtain ⟨-, c4, -, c6, -, -, K7⟩ := Z7.out
    have v0 := new_cell w7 #[.string R1, .int .u64 (R2 : Int)] 101 0 _ rfl
    have v1 := new_cell w7 #[.string R1, .int .u64 (R2 : Int)] 101 1 _ rfl
    rcases hcase with ⟨hne, rfl, hR2⟩ | ⟨heq, hT1, hT2⟩
    · have hb : ((a.r.size : Int) != (n : Int) + 8) = true := by rw [bne_iff_ne]; omega
      have hb2 : ((R2 : Int) == 0) = true := by rw [hR2]; rfl
      clear hR2
      go_wp2_with fail
      go_ret
      exact ⟨rfl, K7⟩
    · have hb : ((a.r.size : Int) != (n : Int) + 8) = false := by rw [heq]; simp
      have hle : (n : Int) ≤ (a.r.size : Int) := by omega
      have h0 : (0 : Int) ≤ (n : Int) := by omega
      clear heq
      have Y' : (w7.alloc (.cells #[.string R1, .int .u64 (R2 : Int)] 101)).drew.cell? ⟨w.heap.size, 4, none⟩ = some (.int .i64 a.m) ∧ (w7.alloc (.cells #[.string R1, .int .u64 (R2 : Int)] 101)).drew.cell? ⟨w.heap.size, 6, none⟩ = some (.string a.r) ∧ (w7.alloc (.cells #[.string R1, .int .u64 (R2 : Int)] 101)).drew.cell? ⟨w7.heap.size, 0, none⟩ = some (.string R1) ∧ (w7.alloc (.cells #[.string R1, .int .u64 (R2 : Int)] 101)).drew.cell? ⟨w7.heap.size, 1, none⟩ = some (.int .u64 (R2 : Int)) := ⟨c4, c6, v0, v1⟩
      have KK := hide K7.drew
      clear K7 Z7
      go_wp2_with fail
      go_region_held3 (fun w' => w'.cell? ⟨w.heap.size, 4, none⟩ = some (.int .i64 a.m) ∧ w'.cell? ⟨w.heap.size, 6, none⟩ = some (.string a.r) ∧ w'.cell? ⟨w7.heap.size, 0, none⟩ = some (.string R1) ∧ w'.cell? ⟨w7.heap.size, 1, none⟩ = some (.int .u64 (R2 : Int))) (first | with_reducible exact Y' | with_reducible assumption) (first | (go_at_call 52; (with_reducible refine (hT1 _).mono ?_); rintro e y1 ⟨rfl, rfl⟩) | (go_at_call 40; (with_reducible refine (hT2 _).mono ?_); rintro e y2 ⟨rfl, rfl⟩))
      go_wp2_with fail
      go_ret
      exact ⟨rfl, KK.out⟩
  · obtain ⟨hD, hX⟩ := hy rfl
    clear hy hny
    have HD := hide hD
    clear hD
    go_wp2_with fail
    (with_reducible refine (hB _).mono ?_)
    rintro e w3 ⟨rfl, k3⟩
    have Z3 := hide (Z2.out.keep k3)
    clear Z2 k3 hB c1 c4 c5 c6 d0 d1
    obtain ⟨c1, c4, c5, c6, d0, d1, -⟩ := Z3.out
    have hD := HD.out
    go_wp2_with fail
    (with_reducible refine (hN _).mono ?_)
    rintro e w4 ⟨rfl, rfl⟩
    go_wp2_with fail
    (with_reducible refine (hW _).mono ?_)
    rintro e w5 ⟨rfl, k5⟩
    have Z5 := hide (Z3.out.keep k5)
    clear Z3 k5 hW hN c1 c4 c5 c6 d0 d1
    obtain ⟨c1, c4, c5, c6, d0, d1, -⟩ := Z5.out
    go_wp2_with fail
    (with_reducible refine (hL _).mono ?_)
    rintro e w6 ⟨rfl, k6⟩
    have Z6 := hide (Z5.out.keep k6)
    clear Z5 k6 hL c1 c4 c5 c6 d0 d1
    obtain ⟨c1, c4, c5, c6, d0, d1, -⟩ := Z6.out
    go_wp2_with fail
    (with_reducible refine (hU _).mono ?_)
    rintro e w7 ⟨rfl, k7⟩
    have Z7 := hide ((Z6.out.keep k7).keep ((Keeps.refl _ (fun _ => False)).alloc (.cells #[.string R1, .int .u64 (R2 : Int)] 101)))
    clear Z6 k7 hU c1 c4 c5 c6 d0 d1
    obtain ⟨-, c4, -, c6, -, -, K7⟩ := Z7.out
    have v0 := new_cell w7 #[.string R1, .int .u64 (R2 : Int)] 101 0 _ rfl
    have v1 := new_cell w7 #[.string R1, .int .u64 (R2 : Int)] 101 1 _ rfl
    rcases hcase with ⟨hne, rfl, hR2⟩ | ⟨heq, hT1, hT2⟩
    · have hb : ((a.r.size : Int) != (n : Int) + 8) = true := by rw [bne_iff_ne]; omega
      have hb2 : ((R2 : Int) == 0) = true := by rw [hR2]; rfl
      clear hR2
      go_wp2_with fail
      go_ret
      exact ⟨rfl, K7⟩
    · have hb : ((a.r.size : Int) != (n : Int) + 8) = false := by rw [heq]; simp
      have hle : (n : Int) ≤ (a.r.size : Int) := by omega
      have h0 : (0 : Int) ≤ (n : Int) := by omega
      clear heq
      have Y' : (w7.alloc (.cells #[.string R1, .int .u64 (R2 : Int)] 101)).drew.cell? ⟨w.heap.size, 4, none⟩ = some (.int .i64 a.m) ∧ (w7.alloc (.cells #[.string R1, .int .u64 (R2 : Int)] 101)).drew.cell? ⟨w.heap.size, 6, none⟩ = some (.string a.r) ∧ (w7.alloc (.cells #[.string R1, .int .u64 (R2 : Int)] 101)).drew.cell? ⟨w7.heap.size, 0, none⟩ = some (.string R1) ∧ (w7.alloc (.cells #[.string R1, .int .u64 (R2 : Int)] 101)).drew.cell? ⟨w7.heap.size, 1, none⟩ = some (.int .u64 (R2 : Int)) := ⟨c4, c6, v0, v1⟩
      have KK := hide K7.drew
      clear K7 Z7
      go_wp2_with fail
      go_region_held3 (fun w' => w'.cell? ⟨w.heap.size, 4, none⟩ = some (.int .i64 a.m) ∧ w'.cell? ⟨w.heap.size, 6, none⟩ = some (.string a.r) ∧ w'.cell? ⟨w7.heap.size, 0, none⟩ = some (.string R1) ∧ w'.cell? ⟨w7.heap.size, 1, none⟩ = some (.int .u64 (R2 : Int))) (first | with_reducible exact Y' | with_reducible assumption) (first | (go_at_call 52; (with_reducible refine (hT1 _).mono ?_); rintro e y1 ⟨rfl, rfl⟩) | (go_at_call 40; (with_reducible refine (hT2 _).mono ?_); rintro e y2 ⟨rfl, rfl⟩))
      go_wp2_with fail
      go_ret
      exact ⟨rfl, KK.out⟩
end Go.Proofs.Ytgbeacfiaegehaa
