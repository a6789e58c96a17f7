import Derived.Test.YtmfmiaiijepgdaaWalks5
namespace Go.Proofs.Ytmfmiaiijepgdaa
open Go.RowKit

theorem inside_any (w : World) (b g : Nat) (bs sp : List UInt8) (m : MemAt 98 5 w b g bs sp) (off n : Int) :
    Calls Try.prog 62 #[.pointer (some ⟨b, 0, none⟩), .int .i64 off, .int .i64 n] w fun e w' => e = .returned (.bool (insideB bs.length off n)) ∧ w' = w := by
  cases h : insideB bs.length off n
  · exact inside_no w b g bs sp m off n h
  · exact inside_yes w b g bs sp m off n h

set_option maxHeartbeats 400000 in
theorem copy_no (w : World) (b g : Nat) (bs sp : List UInt8) (m : MemAt 98 5 w b g bs sp) (d s n : Int) (h : (insideB bs.length d n && insideB bs.length s n) = false) :
    Calls Try.prog 41 #[.pointer (some ⟨b, 0, none⟩), .int .i64 d, .int .i64 s, .int .i64 n] w fun e w' => e = .returned (.int .i64 11) ∧ w' = w := by
  cases h1 : insideB bs.length d n
  · have hc := inside_no w b g bs sp m d n h1
    clear h h1
    go_enter Try.func41, Try.ntmps41
    go_wp2_with fail
    refine hc.mono ?_
    rintro e w' ⟨rfl, rfl⟩
    go_wp2_with fail
    go_ret
    exact ⟨rfl, rfl⟩
  · rw [h1, Bool.true_and] at h
    have hc := inside_yes w b g bs sp m d n h1
    have hc2 := inside_no w b g bs sp m s n h
    clear h h1
    go_enter Try.func41, Try.ntmps41
    go_wp2_with fail
    refine hc.mono ?_
    rintro e w' ⟨rfl, rfl⟩
    go_wp2_with fail
    refine hc2.mono ?_
    rintro e w' ⟨rfl, rfl⟩
    go_wp2_with fail
    go_ret
    exact ⟨rfl, rfl⟩

set_option maxHeartbeats 400000 in
theorem copy_yes (w : World) (b g : Nat) (bs sp : List UInt8) (m : MemAt 98 5 w b g bs sp) (d s n : Nat) (h1 : d + n ≤ bs.length) (h2 : s + n ≤ bs.length) :
    Calls Try.prog 41 #[.pointer (some ⟨b, 0, none⟩), .int .i64 (d : Int), .int .i64 (s : Int), .int .i64 (n : Int)] w fun e w' => WritePost w b g (splice bs d ((bs.drop s).take n)) sp e w' := by
  have hc := inside_yes w b g bs sp m d n (insideB_mk h1)
  have hc2 := inside_yes w b g bs sp m s n (insideB_mk h2)
  have hs1 := span_any w b g bs sp m d n h1
  have hs2 := span_any w b g bs sp m s n h2
  obtain ⟨q, hq, hv⟩ := spanVal_eq g (bs.length + sp.length) d n
  obtain ⟨q2, hq2, hv2⟩ := spanVal_eq g (bs.length + sp.length) s n
  rw [hv] at hs1
  rw [hv2] at hs2
  have hlen : ((bs.drop s).take n).length = n := by simp; omega
  obtain ⟨w2, hcp, m2, k2⟩ := mem_copy (P := Try.prog) 91 91 5 Try.underlying91 Try.infoE m (l := d) (q := q) (dLen := n) (dCap := bs.length + sp.length - d) (sLen := n) (sCap := bs.length + sp.length - s) (a := ⟨g, q2, none⟩) ((bs.drop s).take n)
    (by rw [hlen]; exact h1) hq (by rw [hlen]; exact (Nat.min_self n).symm) (m.span h2 hq2)
  rw [hlen] at hcp
  clear m hv hv2 hq hq2 hlen
  go_enter Try.func41, Try.ntmps41
  go_wp2_with fail
  refine hc.mono ?_
  rintro e w' ⟨rfl, rfl⟩
  go_wp2_with fail
  refine hc2.mono ?_
  rintro e w' ⟨rfl, rfl⟩
  clear hc hc2
  go_wp2_with fail
  refine hs1.mono ?_
  rintro e w' ⟨rfl, rfl⟩
  go_wp2_with fail
  refine hs2.mono ?_
  rintro e w' ⟨rfl, rfl⟩
  clear hs1 hs2
  go_wp2_with fail
  go_ret
  exact ⟨rfl, m2, k2⟩
end Go.Proofs.Ytmfmiaiijepgdaa
