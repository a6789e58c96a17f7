import Derived.Test.YtmfmiaiijepgdaaWalks1
namespace Go.Proofs.Ytmfmiaiijepgdaa
open Go.RowKit

set_option maxHeartbeats 400000 in
theorem read_no (w : World) (b g : Nat) (bs sp : List UInt8) (m : MemAt 98 5 w b g bs sp) (off n : Int) (h : insideB bs.length off n = false) :
    Calls Try.prog 42 #[.pointer (some ⟨b, 0, none⟩), .int .i64 off, .int .i64 n] w fun e w' => e = .returned (.tuple #[.slice none 0 0, .int .i64 11]) ∧ w' = w := by
  go_enter Try.func42, Try.ntmps42
  go_wp2_with (go_at_call 62; refine (inside_no _ b g bs sp m _ _ h).mono ?_; rintro e w' ⟨rfl, rfl⟩)
  go_ret2
  exact ⟨rfl, rfl⟩

set_option maxHeartbeats 400000 in
theorem read_yes (w : World) (b g : Nat) (bs sp : List UInt8) (m : MemAt 98 5 w b g bs sp) (o n : Nat) (h : o + n ≤ bs.length) :
    Calls Try.prog 42 #[.pointer (some ⟨b, 0, none⟩), .int .i64 (o : Int), .int .i64 (n : Int)] w fun e w' => ReadPost 5 w bs o n e w' := by
  have hl : bs.length + sp.length ≤ 134217728 := m.hmax
  have hin := insideB_mk h
  obtain ⟨q, hq, hv⟩ := spanVal_eq g (bs.length + sp.length) o n
  have hmk := run_make_bytes (P := Try.prog) w 91 5 Try.underlying91 Try.infoE n (by omega)
  have m1 : MemAt 98 5 (w.alloc (.cells (rowOf (zeros n)) 5)) b g bs sp := m.keeps ((Keeps.refl _ (fun _ => False)).alloc _) id id
  obtain ⟨w2, hcp, hpost⟩ := read_copy (P := Try.prog) 91 91 5 Try.underlying91 Try.infoE m h hq
  go_enter Try.func42, Try.ntmps42
  go_wp2_with (first | (go_at_call 62; refine (inside_yes _ b g bs sp m _ _ hin).mono ?_; rintro e w' ⟨rfl, rfl⟩) | (go_at_call 64; refine (span_any _ b g bs sp m1 o n h).mono ?_; rintro e w' ⟨rfl, rfl⟩))
  go_ret2
  exact hpost
end Go.Proofs.Ytmfmiaiijepgdaa
