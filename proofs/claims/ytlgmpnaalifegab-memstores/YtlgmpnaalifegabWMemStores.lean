import Derived.Test.YtlgmpnaalifegabWMemStoresB
import Derived.Test.YtlgmpnaalifegabWMemStores1
import Derived.Test.YtlgmpnaalifegabWMemStores2
import Derived.Test.YtlgmpnaalifegabWMemStores4
import Derived.Test.YtlgmpnaalifegabWMemStores8
namespace Go.Proofs.Ytlgmpnaalifegab
namespace memStores
open Go.RowKit

theorem walk (a0 : ByteArray) (a1 : Int) (a2 : Int) (a3 : Int) (a4 : Int) (w0 : a0.size ≤ maxLen) (_ : (Lit.int .i64 a1).wf = true) (_ : (Lit.int .i64 a2).wf = true) (w3 : (Lit.int .u64 a3).wf = true) (_ : (Lit.int .i64 a4).wf = true) (w : World) :
    Calls Try.prog 4 #[.string a0, .int .i64 a1, .int .i64 a2, .int .u64 a3, .int .i64 a4] w fun e w' => e = .returned (.bool true) ∧ Below w.heap.size w w' := by
  by_cases h : 134217728 < a0.size
  · exact walk_big a0 a1 a2 a3 a4 w w0 h
  replace h : a0.size ≤ 134217728 := by omega
  have hp : a4 < 0 ∨ (a0.size : Int) ≤ a4 ∨ ∃ q : Nat, a4 = q ∧ q < a0.size := by
    by_cases h0 : a4 < 0
    · exact Or.inl h0
    · by_cases h1 : (a0.size : Int) ≤ a4
      · exact Or.inr (Or.inl h1)
      · exact Or.inr (Or.inr ⟨a4.toNat, by omega, by omega⟩)
  have hx : 0 ≤ a3 ∧ a3 ≤ 18446744073709551615 := by simpa [Lit.wf, IntKind.min, IntKind.max, IntKind.signed, IntKind.bits] using w3
  cases hn : widthB a2
  · rcases hp with hp | hp | ⟨q, rfl, hq⟩
    · exact bad_neg a0 a1 a2 a3 a4 w h hn hp
    · exact bad_big a0 a1 a2 a3 a4 w h hn hp
    · exact bad_in a0 a1 a2 a3 q w h hn hq
  obtain ⟨v, rfl⟩ := Int.eq_ofNat_of_zero_le hx.1
  have hv : v < 18446744073709551616 := by omega
  rcases widthB_true hn with rfl | rfl | rfl | rfl
  · cases hi : insideB a0.size a1 1
    · rcases hp with hp | hp | ⟨q, rfl, hq⟩
      · exact out1_neg a0 a1 _ a4 w h hi hp
      · exact out1_big a0 a1 _ a4 w h hi hp
      · exact out1_in a0 a1 _ q w h hi hq
    · obtain ⟨o, n, rfl, hn1, ho⟩ := insideB_nat hi
      have ho' : o + 1 ≤ a0.size := by omega
      rcases hp with hp | hp | ⟨q, rfl, hq⟩
      · exact y1.neg a0 o v a4 w h hv ho' hp
      · exact y1.big a0 o v a4 w h hv ho' hp
      · by_cases h3 : q < o
        · exact y1.lo a0 o v q w h hv ho' hq h3
        · by_cases h4 : o + 1 ≤ q
          · exact y1.hi a0 o v q w h hv ho' hq h4
          · obtain ⟨i, rfl⟩ : ∃ i, q = o + i := ⟨q - o, by omega⟩
            rw [Int.natCast_add]
            exact y1.span a0 o v i w h hv ho' (by omega)
  · cases hi : insideB a0.size a1 2
    · rcases hp with hp | hp | ⟨q, rfl, hq⟩
      · exact out2_neg a0 a1 _ a4 w h hi hp
      · exact out2_big a0 a1 _ a4 w h hi hp
      · exact out2_in a0 a1 _ q w h hi hq
    · obtain ⟨o, n, rfl, hn1, ho⟩ := insideB_nat hi
      have ho' : o + 2 ≤ a0.size := by omega
      rcases hp with hp | hp | ⟨q, rfl, hq⟩
      · exact y2.neg a0 o v a4 w h hv ho' hp
      · exact y2.big a0 o v a4 w h hv ho' hp
      · by_cases h3 : q < o
        · exact y2.lo a0 o v q w h hv ho' hq h3
        · by_cases h4 : o + 2 ≤ q
          · exact y2.hi a0 o v q w h hv ho' hq h4
          · obtain ⟨i, rfl⟩ : ∃ i, q = o + i := ⟨q - o, by omega⟩
            rw [Int.natCast_add]
            exact y2.span a0 o v i w h hv ho' (by omega)
  · cases hi : insideB a0.size a1 4
    · rcases hp with hp | hp | ⟨q, rfl, hq⟩
      · exact out4_neg a0 a1 _ a4 w h hi hp
      · exact out4_big a0 a1 _ a4 w h hi hp
      · exact out4_in a0 a1 _ q w h hi hq
    · obtain ⟨o, n, rfl, hn1, ho⟩ := insideB_nat hi
      have ho' : o + 4 ≤ a0.size := by omega
      rcases hp with hp | hp | ⟨q, rfl, hq⟩
      · exact y4.neg a0 o v a4 w h hv ho' hp
      · exact y4.big a0 o v a4 w h hv ho' hp
      · by_cases h3 : q < o
        · exact y4.lo a0 o v q w h hv ho' hq h3
        · by_cases h4 : o + 4 ≤ q
          · exact y4.hi a0 o v q w h hv ho' hq h4
          · obtain ⟨i, rfl⟩ : ∃ i, q = o + i := ⟨q - o, by omega⟩
            rw [Int.natCast_add]
            exact y4.span a0 o v i w h hv ho' (by omega)
  · cases hi : insideB a0.size a1 8
    · rcases hp with hp | hp | ⟨q, rfl, hq⟩
      · exact out8_neg a0 a1 _ a4 w h hi hp
      · exact out8_big a0 a1 _ a4 w h hi hp
      · exact out8_in a0 a1 _ q w h hi hq
    · obtain ⟨o, n, rfl, hn1, ho⟩ := insideB_nat hi
      have ho' : o + 8 ≤ a0.size := by omega
      rcases hp with hp | hp | ⟨q, rfl, hq⟩
      · exact y8.neg a0 o v a4 w h hv ho' hp
      · exact y8.big a0 o v a4 w h hv ho' hp
      · by_cases h3 : q < o
        · exact y8.lo a0 o v q w h hv ho' hq h3
        · by_cases h4 : o + 8 ≤ q
          · exact y8.hi a0 o v q w h hv ho' hq h4
          · obtain ⟨i, rfl⟩ : ∃ i, q = o + i := ⟨q - o, by omega⟩
            rw [Int.natCast_add]
            exact y8.span a0 o v i w h hv ho' (by omega)
end memStores
end Go.Proofs.Ytlgmpnaalifegab
