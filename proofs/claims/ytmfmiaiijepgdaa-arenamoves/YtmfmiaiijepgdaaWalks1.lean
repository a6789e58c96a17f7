import Derived.Test.YtmfmiaiijepgdaaRows
import Derived.Test.YtmfmiaiijepgdaaBase
import Derived.WalkKit
import Derived.Outline
import Derived.Below
namespace Go.Proofs.Ytmfmiaiijepgdaa
open Go.RowKit

theorem Try.infoE : (Try.prog.info? 5).map (fun i => (i.zero, i.size, i.bytes)) = some (some (.int .u8 0), 1, 1) := by kernel_rfl

set_option maxHeartbeats 400000 in
theorem new_no (n : Int) (w : World) (h : n < 0 ∨ 134217728 < n) :
    Calls Try.prog 29 #[.int .i64 n] w fun e w' => e = .returned (.tuple #[.pointer none, .int .i64 12]) ∧ w' = w := by
  rcases h with h | h
  · go_enter Try.func29, Try.ntmps29
    go_wp2
    go_ret2
    exact ⟨rfl, rfl⟩
  · have h0 : ¬ n < 0 := by omega
    go_enter Try.func29, Try.ntmps29
    go_wp2
    go_ret2
    exact ⟨rfl, rfl⟩

set_option maxHeartbeats 400000 in
theorem new_yes (n : Nat) (w : World) (h : n ≤ 134217728) :
    Calls Try.prog 29 #[.int .i64 (n : Int)] w fun e w' => NewPost 98 5 w n e w' := by
  have h0 : ¬ (n : Int) < 0 := by omega
  have h1 : ¬ (134217728 : Int) < (n : Int) := by omega
  have hmk := run_make_bytes (P := Try.prog) w 91 5 Try.underlying91 Try.infoE n h
  go_enter Try.func29, Try.ntmps29
  go_wp2
  go_ret2
  exact newPost_mk 98 5 w n h

theorem len_any (w : World) (b g : Nat) (bs sp : List UInt8) (m : MemAt 98 5 w b g bs sp) :
    Calls Try.prog 33 #[.pointer (some ⟨b, 0, none⟩)] w fun e w' => e = .returned (.int .i64 (bs.length : Int)) ∧ w' = w := by
  have hc := m.cell
  have hl : bs.length ≤ 134217728 := by have := m.hmax; omega
  clear m
  go_enter Try.func33, Try.ntmps33
  go_wp2
  go_ret
  exact ⟨rfl, rfl⟩

set_option maxHeartbeats 400000 in
theorem inside_yes (w : World) (b g : Nat) (bs sp : List UInt8) (m : MemAt 98 5 w b g bs sp) (off n : Int) (h : insideB bs.length off n = true) :
    Calls Try.prog 62 #[.pointer (some ⟨b, 0, none⟩), .int .i64 off, .int .i64 n] w fun e w' => e = .returned (.bool true) ∧ w' = w := by
  have hc := m.cell
  have hl : bs.length ≤ 134217728 := by have := m.hmax; omega
  obtain ⟨h1, h2, h3, h4⟩ := insideB_true h
  clear m h
  go_enter Try.func62, Try.ntmps62
  go_wp2
  go_ret
  exact ⟨rfl, rfl⟩

set_option maxHeartbeats 400000 in
theorem inside_no (w : World) (b g : Nat) (bs sp : List UInt8) (m : MemAt 98 5 w b g bs sp) (off n : Int) (h : insideB bs.length off n = false) :
    Calls Try.prog 62 #[.pointer (some ⟨b, 0, none⟩), .int .i64 off, .int .i64 n] w fun e w' => e = .returned (.bool false) ∧ w' = w := by
  have hc := m.cell
  have hl : bs.length ≤ 134217728 := by have := m.hmax; omega
  have hn := insideB_false h
  clear m h
  by_cases h1 : 0 ≤ off
  · by_cases h2 : 0 ≤ n
    · by_cases h3 : n ≤ bs.length
      · have h4 : ¬ off ≤ bs.length - n := fun h4 => hn ⟨h1, h2, h3, h4⟩
        clear hn
        go_enter Try.func62, Try.ntmps62
        go_wp2
        go_ret
        exact ⟨rfl, rfl⟩
      · clear hn
        go_enter Try.func62, Try.ntmps62
        go_wp2
        go_ret
        exact ⟨rfl, rfl⟩
    · clear hn
      go_enter Try.func62, Try.ntmps62
      go_wp2
      go_ret
      exact ⟨rfl, rfl⟩
  · clear hn
    go_enter Try.func62, Try.ntmps62
    go_wp2
    go_ret
    exact ⟨rfl, rfl⟩

set_option maxHeartbeats 400000 in
theorem span_any (w : World) (b g : Nat) (bs sp : List UInt8) (m : MemAt 98 5 w b g bs sp) (o n : Nat) (h : o + n ≤ bs.length) :
    Calls Try.prog 64 #[.pointer (some ⟨b, 0, none⟩), .int .i64 (o : Int), .int .i64 (n : Int)] w fun e w' => e = .returned (spanVal g (bs.length + sp.length) o n) ∧ w' = w := by
  have hc := m.cell
  have hl : bs.length + sp.length ≤ 134217728 := m.hmax
  have hs := run_slice_span (P := Try.prog) w 91 5 Try.underlying91 Try.infoE g bs.length (bs.length + sp.length) o n (by omega)
  clear m
  go_enter Try.func64, Try.ntmps64
  go_wp2
  go_ret
  exact ⟨rfl, rfl⟩
end Go.Proofs.Ytmfmiaiijepgdaa
