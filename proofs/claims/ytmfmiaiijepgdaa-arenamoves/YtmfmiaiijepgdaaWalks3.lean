import Derived.Test.YtmfmiaiijepgdaaWalks2
import Derived.Test.YtmfmiaiijepgdaaBase2
namespace Go.Proofs.Ytmfmiaiijepgdaa
open Go.RowKit

set_option maxHeartbeats 1000000 in
theorem fits_out (w : World) (b g : Nat) (bs sp : List UInt8) (m : MemAt 98 5 w b g bs sp) (off : Int) (pv : Value) (h : insideB bs.length off 0 = false) :
    Calls Try.prog 58 #[.pointer (some ⟨b, 0, none⟩), .int .i64 off, pv] w fun e w' => e = .returned (.bool false) ∧ w' = w := by
  go_enter Try.func58, Try.ntmps58
  go_wp2_with fail
  refine (inside_no _ b g bs sp m _ _ h).mono ?_
  rintro e w' ⟨rfl, rfl⟩
  go_wp2_with fail
  go_ret
  exact ⟨rfl, rfl⟩

def FitsPost (w : World) (v : Bool) (e : Ending) (w' : World) : Prop := e = .returned (.bool v) ∧ w' = w

set_option maxHeartbeats 1000000 in
theorem fits_in (w : World) (b g pb pc : Nat) (bs sp : List UInt8) (xs : List (List UInt8)) (m : MemAt 98 5 w b g bs sp) (o : Nat) (ho : o ≤ bs.length) (hx : xs.length ≤ 140737488355328) (ps : PartsAt w g pb xs) :
    Calls Try.prog 58 #[.pointer (some ⟨b, 0, none⟩), .int .i64 (o : Int), .slice (some ⟨pb, 0, none⟩) xs.length pc] w fun e w' => FitsPost w (fitsB bs.length o (catAll xs).length) e w' := by
  have hl : bs.length + sp.length ≤ 134217728 := m.hmax
  have hc := m.cell
  have hin : insideB bs.length (o : Int) 0 = true := insideB_mk (k := 0) (by omega)
  go_enter Try.func58, Try.ntmps58
  go_wp2_with fail
  refine (inside_yes _ b g bs sp m _ _ hin).mono ?_
  rintro e w' ⟨rfl, rfl⟩
  clear m hin
  go_wp2_with fail
  go_loop [7, 23] (fun r i => ∃ k : Nat, k ≤ xs.length ∧ i = .int .i64 (k : Int) ∧ o + (catTo xs k).length ≤ bs.length ∧ r = .int .i64 ((bs.length : Int) - o - (catTo xs k).length)) (fun _ i => xs.length - (intOf i).toNat)
  case atStart => exact ⟨0, Nat.zero_le _, rfl, by simp [catTo_zero]; omega, by simp [catTo_zero]⟩
  case round =>
    obtain ⟨k, hk, rfl, hr, rfl⟩ := hrel
    by_cases hlt : k < xs.length
    · obtain ⟨v, hv, hb, oo, c, rfl, h1, h2, h3, h4⟩ := ps.part k hlt
      have hle := catTo_le' xs (k + 1)
      have hs := catTo_succ xs k hlt
      have hsl : (catTo xs (k + 1)).length = (catTo xs k).length + xs[k].length := by rw [hs]; simp
      clear hs ps h4
      by_cases hfit : o + (catTo xs k).length + xs[k].length ≤ bs.length
      · have HS : Hid ((catTo xs (k + 1)).length = (catTo xs k).length + xs[k].length) := hsl
        clear hsl
        go_wp2
        go_round
        case rel => exact ⟨k + 1, by omega, by go_num, by rw [HS.out]; omega, by rw [HS.out]; go_num⟩
        case measure => simp [intOf]; omega
      · have hd : fitsB bs.length o (catAll xs).length = false := fitsB_false (by omega)
        have HD : Hid (fitsB bs.length o (catAll xs).length = false) := hd
        clear hsl hd hle
        go_wp2
        go_ret
        exact ⟨by rw [HD.out]; rfl, rfl⟩
    · have hall : k = xs.length := by omega
      have hd : fitsB bs.length o (catAll xs).length = true := fitsB_true (by rw [← catTo_all', ← hall]; exact hr)
      have HD : Hid (fitsB bs.length o (catAll xs).length = true) := hd
      clear hall hd
      go_wp2
      go_ret
      exact ⟨by rw [HD.out]; rfl, rfl⟩

def WritePost (w : World) (b g : Nat) (bs sp : List UInt8) (e : Ending) (w' : World) : Prop :=
  e = .returned (.int .i64 0) ∧ MemAt 98 5 w' b g bs sp ∧ Keeps w w' (fun i => i = g)

set_option maxHeartbeats 1000000 in
theorem write_out (w : World) (b g : Nat) (bs sp : List UInt8) (m : MemAt 98 5 w b g bs sp) (off : Int) (pv : Value) (h : insideB bs.length off 0 = false) :
    Calls Try.prog 38 #[.pointer (some ⟨b, 0, none⟩), .int .i64 off, pv] w fun e w' => e = .returned (.int .i64 11) ∧ w' = w := by
  go_enter Try.func38, Try.ntmps38
  go_wp2_with fail
  refine (fits_out _ b g bs sp m _ _ h).mono ?_
  rintro e w' ⟨rfl, rfl⟩
  go_wp2_with fail
  go_ret
  exact ⟨rfl, rfl⟩

set_option maxHeartbeats 1000000 in
theorem write_no (w : World) (b g pb pc : Nat) (bs sp : List UInt8) (xs : List (List UInt8)) (m : MemAt 98 5 w b g bs sp) (o : Nat) (ho : o ≤ bs.length) (hx : xs.length ≤ 140737488355328) (ps : PartsAt w g pb xs) (hno : bs.length < o + (catAll xs).length) :
    Calls Try.prog 38 #[.pointer (some ⟨b, 0, none⟩), .int .i64 (o : Int), .slice (some ⟨pb, 0, none⟩) xs.length pc] w fun e w' => e = .returned (.int .i64 11) ∧ w' = w := by
  have hf := fits_in w b g pb pc bs sp xs m o ho hx ps
  rw [fitsB_false hno] at hf
  go_enter Try.func38, Try.ntmps38
  go_wp2_with fail
  refine hf.mono ?_
  rintro e w' ⟨rfl, rfl⟩
  go_wp2_with fail
  go_ret
  exact ⟨rfl, rfl⟩

set_option maxHeartbeats 1000000 in
theorem write_yes (w : World) (b g pb pc : Nat) (bs sp : List UInt8) (xs : List (List UInt8)) (m : MemAt 98 5 w b g bs sp) (o : Nat) (hx : xs.length ≤ 140737488355328) (ps : PartsAt w g pb xs) (hyes : o + (catAll xs).length ≤ bs.length) :
    Calls Try.prog 38 #[.pointer (some ⟨b, 0, none⟩), .int .i64 (o : Int), .slice (some ⟨pb, 0, none⟩) xs.length pc] w fun e w' => WritePost w b g (splice bs o (catAll xs)) sp e w' := by
  have hf := fits_in w b g pb pc bs sp xs m o (by omega) hx ps
  rw [fitsB_true hyes] at hf
  have hl : bs.length + sp.length ≤ 134217728 := m.hmax
  go_enter Try.func38, Try.ntmps38
  go_wp2_with fail
  refine hf.mono ?_
  rintro e w' ⟨rfl, rfl⟩
  clear hf
  go_wp2_with fail
  go_loopw [1, 16] (fun r i wr => ∃ k : Nat, k ≤ xs.length ∧ i = .int .i64 (k : Int) ∧ r = .int .i64 ((o : Int) + (catTo xs k).length) ∧ MemAt 98 5 wr b g (splice bs o (catTo xs k)) sp ∧ Keeps w' wr (fun i => i = g)) (fun _ i _ => xs.length - (intOf i).toNat)
  case atStart => exact ⟨0, Nat.zero_le _, rfl, by simp [catTo_zero], by rw [catTo_zero, splice_nil]; exact m, Keeps.refl _ _⟩
  case round =>
    obtain ⟨k, hk, rfl, rfl, mk, kk⟩ := hrel
    have hle := catTo_le' xs k
    by_cases hlt : k < xs.length
    · obtain ⟨v, hv, hp⟩ := (ps.keeps kk).part k hlt
      obtain ⟨hb, oo, c, rfl, h1, h2, h3, h4⟩ := hp
      have hle1 := catTo_le' xs (k + 1)
      have hs := catTo_succ xs k hlt
      have hsl : (catTo xs (k + 1)).length = (catTo xs k).length + xs[k].length := by rw [hs]; simp
      have hlen : (splice bs o (catTo xs k)).length = bs.length := splice_length (by omega)
      have hc := mk.cell
      rw [hlen] at hc
      have ht := run_slice_tail (P := Try.prog) wr 91 5 Try.underlying91 Try.infoE g bs.length (bs.length + sp.length) (o + (catTo xs k).length) (by omega)
      obtain ⟨q, hq, hv2⟩ := tailVal_eq g bs.length (bs.length + sp.length) (o + (catTo xs k).length)
      rw [hv2, Int.natCast_add] at ht
      obtain ⟨w2, hcp, m2, k2⟩ := mem_copy (P := Try.prog) 91 91 5 Try.underlying91 Try.infoE mk (l := o + (catTo xs k).length) (q := q) (dLen := bs.length - (o + (catTo xs k).length)) (dCap := bs.length + sp.length - (o + (catTo xs k).length)) (sLen := xs[k].length) (sCap := c) (a := ⟨hb, oo, none⟩) xs[k]
        (by rw [hlen]; omega) (by rw [hlen]; exact hq) (Nat.min_eq_left (by omega)).symm (fun j hj => by rw [addr_add]; exact h4 j hj)
      rw [splice_splice (by omega), ← hs] at m2
      have K2 := kk.trans k2 (fun _ _ x => x)
      have HS : Hid ((catTo xs (k + 1)).length = (catTo xs k).length + xs[k].length) := hsl
      clear hs hsl ps h4 hv2 hq mk kk k2 hlen
      go_wp2
      go_roundw
      case rel => exact ⟨k + 1, by omega, by go_num, by rw [HS.out]; go_num, m2, K2⟩
      case measure => simp [intOf]; omega
    · have hall : k = xs.length := by omega
      subst hall
      rw [catTo_all'] at mk
      go_wp2
      go_ret
      exact ⟨rfl, mk, kk⟩
end Go.Proofs.Ytmfmiaiijepgdaa
