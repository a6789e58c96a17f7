import Derived.Test.YtlgmpnaalifegabWalks3
import Derived.Great.BuildSlice
namespace Go.Proofs.Ytlgmpnaalifegab
open Go.RowKit

/-- One part alone. -/
theorem parts_one {w : World} {g pb h n c : Nat} {x y : List UInt8} {e t : TypeId} {fz : Nat × Nat} (hr : w.heap[h]? = some (.cells (rowOf (x ++ y)) e fz)) (hg : h ≠ g) (hn : n = x.length) (hx : x.length ≤ 140737488355328) (hpb : pb = w.heap.size) (hpg : pb ≠ g) :
    PartsAt (w.alloc (.cells #[.slice (some ⟨h, 0, none⟩) n c] t)) g pb [x] := by
  subst hpb
  subst hn
  refine ⟨by simp, hpg, fun j hj => ?_⟩
  have h0 : j = 0 := by simpa using hj
  subst h0
  refine ⟨.slice (some ⟨h, 0, none⟩) x.length c, ?_, part_of_row (y := y) (e := e) (fz := fz) ?_ hg hx⟩
  · simp only [World.cell?, heap_alloc_new]
    simp
  · rw [Below.heap_alloc _ _ _ (heap_lt hr)]
    exact hr
theorem write_one_yes {w : World} {b g pb h n c o : Nat} {bs sp x y : List UInt8} {fz : Nat × Nat} (m : MemAt 60 5 w b g bs sp) (hr : w.heap[h]? = some (.cells (rowOf (x ++ y)) 5 fz)) (hg : h ≠ g) (hn : n = x.length) (hx : x.length ≤ 140737488355328) (hpb : pb = w.heap.size) (hfit : o + x.length ≤ bs.length) :
    Calls Try.prog 8 #[.pointer (some ⟨b, 0, none⟩), .int .i64 (o : Int), .slice (some ⟨pb, 0, none⟩) 1 1] (w.alloc (.cells #[.slice (some ⟨h, 0, none⟩) n c] 30))
      fun e w' => WritePost (w.alloc (.cells #[.slice (some ⟨h, 0, none⟩) n c] 30)) b g (splice bs o x) sp e w' := by
  have hlt := heap_lt m.hg
  have := write_yes (w.alloc (.cells #[.slice (some ⟨h, 0, none⟩) n c] 30)) b g pb 1 bs sp [x] (m.keeps ((Keeps.refl _ (fun _ => False)).alloc _) id id) o (by simp) (parts_one hr hg hn hx hpb (by omega)) (by rw [catAll_one]; exact hfit)
  rw [catAll_one] at this
  exact this

def MadePost (w : World) (bs : List UInt8) (e : Ending) (w' : World) : Prop :=
  ∃ b g, w.heap.size ≤ b ∧ w.heap.size ≤ g ∧ e = .returned (.pointer (some ⟨b, 0, none⟩)) ∧ MemAt 60 5 w' b g bs [] ∧ Keeps w w' (fun _ => False)

set_option maxHeartbeats 1000000 in
theorem made_no (s : ByteArray) (w : World) (hs : s.size ≤ maxLen) (h : 134217728 < s.size) :
    Calls Try.prog 7 #[.int .i64 0, .string s] w fun e w' => e = .returned (.pointer none) ∧ w' = w := by
  unfold maxLen at hs
  go_enter Try.func7, Try.ntmps7
  go_wp2
  go_ret
  exact ⟨rfl, rfl⟩

set_option maxHeartbeats 1000000 in
theorem made_yes (s : ByteArray) (w : World) (h : s.size ≤ 134217728) :
    Calls Try.prog 7 #[.int .i64 0, .string s] w fun e w' => MadePost w s.data.toList e w' := by
  have hnew := new_yes s.size w h
  have hz := zeros_length s.size
  go_enter Try.func7, Try.ntmps7
  go_wp2_with fail
  refine hnew.mono ?_
  rintro e w1 ⟨b, g, hb, hg, rfl, m, k⟩
  clear hnew
  go_wp2_with fail
  refine (len_any _ b g _ _ m).mono ?_
  rintro e w2 ⟨rfl, rfl⟩
  obtain ⟨w3, c, fz, hconv, k3, hs3, hr3⟩ := bytes_of (P := Try.prog) w2 9 30 5 s Try.underlying9 Try.underlying30 Try.underlying5
  have m3 := m.keeps k3 id id
  have hne : w2.heap.size ≠ g := by have := heap_lt m.hg; omega
  have hsx : s.size = s.data.toList.length := by simp
  have hw := write_one_yes (pb := w3.heap.size) (c := c) (o := 0) m3 hr3 hne hsx (by rw [← hsx]; omega) rfl (by rw [← hsx, hz]; omega)
  rw [splice_zeros, ← hsx, Nat.sub_self, show zeros 0 = [] from rfl, List.append_nil, show ((0 : Nat) : Int) = 0 from rfl] at hw
  have K : Keeps w (w3.alloc (.cells #[.slice (some ⟨w2.heap.size, 0, none⟩) s.size c] 30)) (fun _ => False) := (k.trans k3 (fun _ _ x => x)).alloc _
  clear hr3 hs3 m m3 k k3 hne hsx
  go_wp2_with fail
  refine hw.mono ?_
  rintro e w4 ⟨rfl, m4, k4⟩
  clear hw
  go_wp2_with fail
  go_ret
  exact ⟨b, g, hb, hg, rfl, m4, K.trans k4 (fun i hi e => by omega)⟩
end Go.Proofs.Ytlgmpnaalifegab
