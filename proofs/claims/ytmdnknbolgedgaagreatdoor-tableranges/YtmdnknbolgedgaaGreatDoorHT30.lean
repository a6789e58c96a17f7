/-
  TableRanges: the cells that its two regions within a round read.
-/
import Derived.Test.YtmdnknbolgedgaaGreatDoorHT29
import Derived.Test.YtmdnknbolgedgaaGreatDoorHTT7
namespace Go.Proofs.YtmdnknbolgedgaaGreatDoor
open Go.RowKit Go.Shelf Ly Ct
set_option linter.unusedVariables false

def S1T (b p : Nat) (l : Lay) (w' : World) : Prop := w'.cell? ⟨b, 10, none⟩ = some (.pointer (some ⟨p, 0, none⟩)) ∧ w'.cell? ⟨b, 11, none⟩ = some (.int .i64 l.k) ∧ w'.cell? ⟨b, 12, none⟩ = some (.int .i64 l.e) ∧ w'.cell? ⟨b, 13, none⟩ = some (.int .i64 l.a) ∧ w'.cell? ⟨b, 14, none⟩ = some (.int .i64 l.b) ∧ w'.cell? ⟨b, 15, none⟩ = some (.int .i64 l.c) ∧ w'.cell? ⟨b, 16, none⟩ = some (.int .i64 l.eo) ∧ w'.cell? ⟨b, 17, none⟩ = some (.int .i64 l.bo) ∧ w'.cell? ⟨b, 18, none⟩ = some (.int .i64 l.s) ∧ w'.cell? ⟨b, 19, none⟩ = some (.int .i64 l.g) ∧ w'.cell? ⟨b, 20, none⟩ = some (.int .i64 (16 : Int))
/-- Of the region that deletes. -/
def S35 (b B5 p Bv : Nat) (l : Lay) (K : ByteArray) (H : Nat) (w' : World) : Prop := w'.cell? ⟨B5, 0, none⟩ = some (.pointer (some ⟨b, 0, none⟩)) ∧ S1T b p l w' ∧ w'.cell? ⟨Bv, 2, none⟩ = some (.int .u64 (H : Int)) ∧ w'.cell? ⟨Bv, 0, none⟩ = some (.string K)
/-- Of the region that puts. -/
def S37 (b B5 p Bs g o nh hc : Nat) (l : Lay) (H : Nat) (sv : Int) (w' : World) : Prop := w'.cell? ⟨B5, 0, none⟩ = some (.pointer (some ⟨b, 0, none⟩)) ∧ S1T b p l w' ∧ w'.cell? ⟨b, 23, none⟩ = some (.slice (some ⟨g, o, none⟩) nh hc) ∧ w'.cell? ⟨g, o, none⟩ = some (.int .u64 (H : Int)) ∧ w'.cell? ⟨Bs, 0, none⟩ = some (.int .i64 sv) ∧ w'.cell? ⟨b, 1, none⟩ = some (.int .i64 l.k) ∧ w'.cell? ⟨b, 2, none⟩ = some (.int .i64 l.e)
theorem ben_23 {W : World} {b p : Nat} {l : Lay} {off : Int} {fs hs ts lv : Value} {S ad : Int} {t : TypeId} (hb : W.heap[b]? = some (.cells (benC p l off fs S hs ts lv ad) t)) : W.cell? ⟨b, 23, none⟩ = some hs := by
  simp only [World.cell?, hb]
  rfl
theorem s35_of {W : World} {b B5 p Bv : Nat} {l : Lay} {fs hs ts lv : Value} {S ad : Int} {t t5 tv : TypeId} {K E : ByteArray} {H : Nat} {bi sl : Int} (h5 : W.heap[B5]? = some (.cells #[.pointer (some ⟨b, 0, none⟩)] t5)) (hb : W.heap[b]? = some (.cells (benC p l 16 fs S hs ts lv ad) t)) (hv : W.heap[Bv]? = some (.cells #[.string K, .string E, .int .u64 (H : Int), .int .i64 bi, .int .i64 sl] tv)) : S35 b B5 p Bv l K H W :=
  ⟨(Ct.one_cell h5).1, ben_T hb, by simp only [World.cell?, hv]; rfl, by simp only [World.cell?, hv]; rfl⟩
theorem s37_of {W : World} {b B5 p Bs g o nh hc : Nat} {l : Lay} {fs ts lv : Value} {S ad : Int} {t t5 : TypeId} {H : Nat} {sv : Int} (h5 : W.heap[B5]? = some (.cells #[.pointer (some ⟨b, 0, none⟩)] t5)) (hb : W.heap[b]? = some (.cells (benC p l 16 fs S (.slice (some ⟨g, o, none⟩) nh hc) ts lv ad) t)) (hg : W.cell? ⟨g, o, none⟩ = some (.int .u64 (H : Int))) (hs : W.heap[Bs]? = some (.cells #[.int .i64 sv] 3)) : S37 b B5 p Bs g o nh hc l H sv W :=
  ⟨(Ct.one_cell h5).1, ben_T hb, ben_23 hb, hg, (Ct.one_cell hs).1, (ben_22 hb).2.2, (ben_22 hb).2.1⟩
theorem wr_succ {n : Nat} (h : n ≤ 100000) : wrap64 ((n : Int) + 1) = (n : Int) + 1 ∧ IntKind.i64.wrap ((n : Int) + 1) = (n : Int) + 1 := by
  constructor
  · unfold wrap64; omega
  · rw [IntKind.wrap_i64]; omega
theorem wr_2000 {n : Nat} (h : n ≤ 100000) : wrap64 (2000 + ((n : Int) + 1)) = 2000 + ((n : Int) + 1) ∧ IntKind.i64.wrap (2000 + ((n : Int) + 1)) = 2000 + ((n : Int) + 1) := by
  constructor
  · unfold wrap64; omega
  · rw [IntKind.wrap_i64]; omega
theorem txk_2000 {l : Lay} (hv : validB l = true) {n : Nat} (h : n ≤ 100000) (W : World) : Calls Tryz.prog 14 #[.int .i64 (2000 + ((n : Int) + 1)), .int .i64 l.k] W fun e w' => e = .returned (.string (strOf (txL (2000 + ((n : Int) + 1)) l.k.toNat))) ∧ Keeps W w' (fun _ => False) := by
  have hvm := valid_more hv
  have := text_any (2000 + ((n : Int) + 1)) l.k.toNat W (fitsI_mk (by omega) (by omega)) (by omega)
  rw [Int.toNat_of_nonneg (by omega)] at this
  exact this
theorem txe_succ {l : Lay} (hv : validB l = true) {n : Nat} (h : n ≤ 100000) (W : World) : Calls Tryz.prog 14 #[.int .i64 ((n : Int) + 1), .int .i64 l.e] W fun e w' => e = .returned (.string (elemT l ((n : Int) + 1))) ∧ Keeps W w' (fun _ => False) := bm_elem hv ((n : Int) + 1) (fitsI_mk (by omega) (by omega)) W
theorem txk_size {l : Lay} (hv : validB l = true) (n : Int) : ((strOf (txL n l.k.toNat)).size : Int) = l.k := by
  have hvm := valid_more hv
  rw [tx_size]
  omega
/-- A put of the range's own. -/
theorem sw_put5 {w W : World} {p : Nat} {Y : Nat → Prop} {l : Lay} {G j : Nat} {d : AD} {f : Nat → Int} {c : Nat → GC} (h : SW w W p Y l G d f c) (t : WT c G f) (hj : j ≤ 7) (hG : G = 2 ^ j) (hT : TabAt w) (hv : validB l = true) {H : Nat} (hH : H < 18446744073709551616) (n m : Int) :
    Calls Tryz.prog 15 #[.agg #[.pointer (some ⟨p, 0, none⟩), .int .i64 l.k, .int .i64 l.e, .int .i64 l.a, .int .i64 l.b, .int .i64 l.c, .int .i64 l.eo, .int .i64 l.bo, .int .i64 l.s, .int .i64 l.g, .int .i64 (16 : Int)], .int .u64 (H : Int), .string (strOf (txL n l.k.toNat)), .string (elemT l m), .int .i64 5] W fun e w' => (∃ r : Int, e = .returned (.tuple #[.int .i64 r, .int .i64 0])) ∧ (∃ d' f' c', SW w w' p Y l G d' f' c' ∧ WT c' G f') ∧ ∀ q, Y q → w'.heap[q]? = W.heap[q]? :=
  sw_put h t hj hG hT hH (txk_size hv n) (elemT_size hv m) (by omega) (by omega)
end Go.Proofs.YtmdnknbolgedgaaGreatDoor
