import Derived.Test.YtmfmiaiijepgdaaWalks6
import Derived.Test.YtmfmiaiijepgdaaBase3
namespace Go.Proofs.Ytmfmiaiijepgdaa
open Go.RowKit

def same (n : Nat) (u : UInt8) : List UInt8 := List.replicate n u
theorem same_length (n : Nat) (u : UInt8) : (same n u).length = n := by simp [same]
theorem same_zero (n : Nat) : same n 0 = zeros n := rfl
theorem same_succ (n : Nat) (u : UInt8) : same n u ++ [u] = same (n + 1) u := by
  simp [same, List.replicate_succ']

set_option maxHeartbeats 400000 in
theorem fill_no (w : World) (b g : Nat) (bs sp : List UInt8) (m : MemAt 98 5 w b g bs sp) (o n x : Int) (h : insideB bs.length o n = false) :
    Calls Try.prog 43 #[.pointer (some ⟨b, 0, none⟩), .int .i64 o, .int .i64 n, .int .u8 x] w fun e w' => e = .returned (.int .i64 11) ∧ w' = w := by
  have hc := inside_no w b g bs sp m o n h
  clear h
  go_enter Try.func43, Try.ntmps43
  go_wp2_with fail
  refine hc.mono ?_
  rintro e w' ⟨rfl, rfl⟩
  go_wp2_with fail
  go_ret
  exact ⟨rfl, rfl⟩

set_option maxHeartbeats 400000 in
theorem fill_zero (w : World) (b g : Nat) (bs sp : List UInt8) (m : MemAt 98 5 w b g bs sp) (o n : Nat) (h : o + n ≤ bs.length) :
    Calls Try.prog 43 #[.pointer (some ⟨b, 0, none⟩), .int .i64 (o : Int), .int .i64 (n : Int), .int .u8 0] w fun e w' => WritePost w b g (splice bs o (zeros n)) sp e w' := by
  have hc := inside_yes w b g bs sp m o n (insideB_mk h)
  have hs1 := span_any w b g bs sp m o n h
  obtain ⟨q, hq, hv⟩ := spanVal_eq g (bs.length + sp.length) o n
  rw [hv] at hs1
  obtain ⟨w2, hcl, m2, k2⟩ := mem_clear (P := Try.prog) 91 5 Try.underlying91 Try.infoE m (l := o) (q := q) (n := n) (c := bs.length + sp.length - o) h hq
  clear m hv hq
  go_enter Try.func43, Try.ntmps43
  go_wp2_with fail
  refine hc.mono ?_
  rintro e w' ⟨rfl, rfl⟩
  clear hc
  go_wp2_with fail
  refine hs1.mono ?_
  rintro e w' ⟨rfl, rfl⟩
  clear hs1
  go_wp2_with fail
  go_ret
  exact ⟨rfl, m2, k2⟩

set_option maxHeartbeats 1000000 in
theorem fill_other (w : World) (b g : Nat) (bs sp : List UInt8) (m : MemAt 98 5 w b g bs sp) (o n : Nat) (h : o + n ≤ bs.length) (u : UInt8) (hu : ((u.toNat : Int) == 0) = false) :
    Calls Try.prog 43 #[.pointer (some ⟨b, 0, none⟩), .int .i64 (o : Int), .int .i64 (n : Int), .int .u8 (u.toNat : Int)] w fun e w' => WritePost w b g (splice bs o (same n u)) sp e w' := by
  have hl : bs.length + sp.length ≤ 134217728 := m.hmax
  have hc := inside_yes w b g bs sp m o n (insideB_mk h)
  have hs1 := span_any w b g bs sp m o n h
  obtain ⟨q, hq, hv⟩ := spanVal_eq g (bs.length + sp.length) o n
  rw [hv] at hs1
  clear hv
  go_enter Try.func43, Try.ntmps43
  go_wp2_with fail
  refine hc.mono ?_
  rintro e w' ⟨rfl, rfl⟩
  clear hc
  go_wp2_with fail
  refine hs1.mono ?_
  rintro e w' ⟨rfl, rfl⟩
  clear hs1
  go_wp2_with fail
  go_loopw [25] (fun i wr => ∃ k : Nat, k ≤ n ∧ i = .int .i64 (k : Int) ∧ MemAt 98 5 wr b g (splice bs o (same k u)) sp ∧ Keeps w' wr (fun i => i = g)) (fun i _ => n - (intOf i).toNat)
  case atStart => exact ⟨0, Nat.zero_le _, rfl, by rw [show same 0 u = [] from rfl, splice_nil]; exact m, Keeps.refl _ _⟩
  case round =>
    obtain ⟨k, hk, rfl, mk, kk⟩ := hrel
    have hsl := same_length k u
    by_cases hlt : k < n
    · have hqo : q = o := by
        rcases hq with hq | ⟨_, hz⟩
        · exact hq
        · omega
      have hlen : (splice bs o (same k u)).length = bs.length := splice_length (by omega)
      obtain ⟨v0, hv0⟩ := mk.gcell_any (q + k) (by rw [hlen]; omega)
      have hfz := mk.gfrozen (q + k)
      have hst := mk.store (q + k) (by rw [hlen]; omega) u
      rw [show q + k = o + k from by omega, splice_set hsl (by omega), same_succ, ← show q + k = o + k from by omega] at hst
      have K2 := kk.trans hst.2 (fun _ _ x => x)
      have M2 := hst.1
      clear hst mk kk hsl hlen hqo hq
      go_wp2
      go_roundw
      case rel => exact ⟨k + 1, by omega, by go_num, M2, K2⟩
      case measure => simp [intOf]; omega
    · have hall : k = n := by omega
      subst hall
      go_wp2
      go_ret
      exact ⟨rfl, mk, kk⟩

theorem fill_yes (w : World) (b g : Nat) (bs sp : List UInt8) (m : MemAt 98 5 w b g bs sp) (o n : Nat) (h : o + n ≤ bs.length) (u : UInt8) :
    Calls Try.prog 43 #[.pointer (some ⟨b, 0, none⟩), .int .i64 (o : Int), .int .i64 (n : Int), .int .u8 (u.toNat : Int)] w fun e w' => WritePost w b g (splice bs o (same n u)) sp e w' := by
  by_cases hu : u = 0
  · subst hu
    exact fill_zero w b g bs sp m o n h
  · refine fill_other w b g bs sp m o n h u (beq_eq_false_iff_ne.2 ?_)
    intro h0
    apply hu
    apply UInt8.toNat_inj.1
    have : (0 : UInt8).toNat = 0 := rfl
    omega
end Go.Proofs.Ytmfmiaiijepgdaa
