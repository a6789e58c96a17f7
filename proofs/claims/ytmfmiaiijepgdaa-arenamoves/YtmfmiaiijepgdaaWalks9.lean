import Derived.Test.YtmfmiaiijepgdaaWalks6
import Derived.Laws.IdiomStrings
import Derived.Lib.Strings
import Derived.Deep.QuietTactic
import Derived.BigQuiet
namespace Go.Proofs.Ytmfmiaiijepgdaa
open Go.RowKit

theorem Keeps.drewN {w w1 : World} {S : Nat → Prop} (h : Keeps w w1 S) (n : Nat) : Keeps w (w1.drewN n) S :=
  ⟨h.os, h.tape, h.output, h.size, h.block⟩
def strOf (x : List UInt8) : ByteArray := ⟨x.toArray⟩
def eqS (t1 t2 : ByteArray) : Bool := t1.toList == t2.toList

theorem run_text (w : World) (a : Addr) (c n : Nat) (x : List UInt8) (hn : x.length = n) (h : ∀ j (hj : j < x.length), w.cell? (a.add j) = some (.int .u8 (x[j].toNat : Int))) :
    (convert 91 9 (.slice (some a) n c)).run Try.prog w = .ok (.string (strOf x)) w := by
  subst hn
  exact run_convert_bytes_back (P := Try.prog) w 91 9 5 a c x Try.underlying91 Try.underlying5 Try.underlying9 h

theorem run_cut (w : World) (s : ByteArray) (a n : Nat) (h : a + n ≤ s.size) :
    (Instr.slice 9 (.string s) (some (.int .i64 (a : Int))) (some (.int .i64 ((a : Int) + (n : Int)))) none).run Try.prog w = .ok (.string (s.extract a (a + n))) w := by
  have e1 : ((a : Int) + (n : Int)).toNat = a + n := by omega
  simp [Instr.slice, run_underlying Try.underlying9, Instr.sliceBounds, run_sliceBound, e1, (by omega : (0 : Int) ≤ (a : Int) + (n : Int)), (by omega : (a : Int) + (n : Int) ≤ (s.size : Int)), (by omega : (a : Int) ≤ (a : Int) + (n : Int))]

theorem extract_eq (s : ByteArray) (a n : Nat) : strOf ((s.data.toList.drop a).take n) = s.extract a (a + n) := by
  apply ByteArray.ext
  apply Array.toList_inj.1
  rw [Lib.extract_data]
  simp [strOf]

set_option maxHeartbeats 400000 in
theorem bytesEqual_any (w : World) (a1 a2 : Addr) (c1 c2 n : Nat) (x1 x2 : List UInt8) (hn1 : x1.length = n) (hn2 : x2.length = n)
    (h1 : ∀ j (hj : j < x1.length), w.cell? (a1.add j) = some (.int .u8 (x1[j].toNat : Int))) (h2 : ∀ j (hj : j < x2.length), w.cell? (a2.add j) = some (.int .u8 (x2[j].toNat : Int))) :
    Calls Try.prog 63 #[.slice (some a1) n c1, .slice (some a2) n c2] w fun e w' => e = .returned (.bool (eqS (strOf x1) (strOf x2))) ∧ w' = w := by
  have e1 := run_text w a1 c1 n x1 hn1 h1
  have e2 := run_text w a2 c2 n x2 hn2 h2
  generalize strOf x1 = t1 at *
  generalize strOf x2 = t2 at *
  clear h1 h2 hn1 hn2
  go_enter Try.func63, Try.ntmps63
  go_wp2
  go_ret
  exact ⟨rfl, rfl⟩

set_option maxHeartbeats 400000 in
theorem equal_no (w : World) (b g : Nat) (bs sp : List UInt8) (m : MemAt 98 5 w b g bs sp) (d s n : Int) (h : (insideB bs.length d n && insideB bs.length s n) = false) :
    Calls Try.prog 40 #[.pointer (some ⟨b, 0, none⟩), .int .i64 d, .int .i64 s, .int .i64 n] w fun e w' => e = .returned (.tuple #[.bool false, .int .i64 11]) ∧ w' = w := by
  cases h1 : insideB bs.length d n
  · have hc := inside_no w b g bs sp m d n h1
    clear h h1
    go_enter Try.func40, Try.ntmps40
    go_wp2_with fail
    refine hc.mono ?_
    rintro e w' ⟨rfl, rfl⟩
    go_wp2_with fail
    go_ret2
    exact ⟨rfl, rfl⟩
  · rw [h1, Bool.true_and] at h
    have hc := inside_yes w b g bs sp m d n h1
    have hc2 := inside_no w b g bs sp m s n h
    clear h h1
    go_enter Try.func40, Try.ntmps40
    go_wp2_with fail
    refine hc.mono ?_
    rintro e w' ⟨rfl, rfl⟩
    go_wp2_with fail
    refine hc2.mono ?_
    rintro e w' ⟨rfl, rfl⟩
    go_wp2_with fail
    go_ret2
    exact ⟨rfl, rfl⟩

set_option maxHeartbeats 400000 in
theorem equal_yes (w : World) (b g : Nat) (bs sp : List UInt8) (m : MemAt 98 5 w b g bs sp) (d s n : Nat) (h1 : d + n ≤ bs.length) (h2 : s + n ≤ bs.length) :
    Calls Try.prog 40 #[.pointer (some ⟨b, 0, none⟩), .int .i64 (d : Int), .int .i64 (s : Int), .int .i64 (n : Int)] w
      fun e w' => e = .returned (.tuple #[.bool (eqS (strOf ((bs.drop d).take n)) (strOf ((bs.drop s).take n))), .int .i64 0]) ∧ w' = w := by
  have hc := inside_yes w b g bs sp m d n (insideB_mk h1)
  have hc2 := inside_yes w b g bs sp m s n (insideB_mk h2)
  have hs1 := span_any w b g bs sp m d n h1
  have hs2 := span_any w b g bs sp m s n h2
  obtain ⟨q, hq, hv⟩ := spanVal_eq g (bs.length + sp.length) d n
  obtain ⟨q2, hq2, hv2⟩ := spanVal_eq g (bs.length + sp.length) s n
  rw [hv] at hs1
  rw [hv2] at hs2
  have hbe := bytesEqual_any w ⟨g, q, none⟩ ⟨g, q2, none⟩ (bs.length + sp.length - d) (bs.length + sp.length - s) n ((bs.drop d).take n) ((bs.drop s).take n) (by simp; omega) (by simp; omega) (m.span h1 hq) (m.span h2 hq2)
  generalize eqS (strOf ((bs.drop d).take n)) (strOf ((bs.drop s).take n)) = B at *
  clear m hv hv2 hq hq2
  go_enter Try.func40, Try.ntmps40
  go_wp2_with fail
  refine hc.mono ?_
  rintro e w' ⟨rfl, rfl⟩
  go_wp2_with fail
  refine hc2.mono ?_
  rintro e w' ⟨rfl, rfl⟩
  clear hc hc2
  go_wp2_with fail
  refine hs1.mono ?_
  rintro e w' ⟨rfl, rfl⟩
  go_wp2_with fail
  refine hs2.mono ?_
  rintro e w' ⟨rfl, rfl⟩
  clear hs1 hs2
  go_wp2_with fail
  refine hbe.mono ?_
  rintro e w' ⟨rfl, rfl⟩
  clear hbe
  go_wp2_with fail
  go_ret2
  exact ⟨rfl, rfl⟩
end Go.Proofs.Ytmfmiaiijepgdaa
