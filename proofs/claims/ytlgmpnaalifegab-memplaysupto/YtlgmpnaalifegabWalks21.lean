import Derived.Test.YtlgmpnaalifegabWalks20
namespace Go.Proofs.Ytlgmpnaalifegab
open Go.RowKit

theorem once_any (w : World) (B b g : Nat) (bs sp : List UInt8) (bv : Value) (ps : List Pg) (m : MemAt 60 5 w b g bs sp) (K : Bk B w g bv ps) (hB : B ≤ w.heap.size) (hb : B ≤ b) (hg : B ≤ g) (hpl : ps.length ≤ 16777216) (kd mm A C N : Int) (V : Nat) (ao : Option Addr) (ts : List ByteArray) (cap : Nat)
    (hts : StrsAt w B ao ts) (hn : ts.length ≤ 1048576) (hz : ∀ t ∈ ts, t.size ≤ 1048576) :
    Calls Try.prog 16 #[.pointer (some ⟨b, 0, none⟩), .agg (opCells kd mm A C N V ao ts.length cap), bv] w fun e w' => OncePost B w b ps e w' := by
  by_cases h2 : kd = 2
  · subst h2; exact once_grow w B b g bs sp bv ps m K hB hb hg mm A C N V ao _ cap
  by_cases h4 : kd = 4
  · subst h4; exact once_store w B b g bs sp bv ps m K hB hb hg mm A C N V ao _ cap
  by_cases h5 : kd = 5
  · subst h5; exact once_fill w B b g bs sp bv ps m K hB hb hg mm A C N V ao _ cap
  by_cases h6 : kd = 6
  · subst h6; exact once_copy w B b g bs sp bv ps m K hB hb hg mm A C N V ao _ cap
  by_cases h9 : kd = 9
  · subst h9; exact once_write w B b g bs sp bv ps m K hB hb hg mm A C N V ao ts cap hts hn hz
  by_cases h8 : kd = 8
  · subst h8
    cases hi : insideB bs.length A N
    · exact once_out w B b g bs sp bv ps m K hg mm A C N V ao _ cap hi
    · obtain ⟨o, n, rfl, rfl, ho⟩ := insideB_nat hi
      exact (once_in w B b g bs sp bv ps m K hB hg hpl mm C o n V ao _ cap ho).mono fun e w' => OnceIn.post
  · exact once_other w B b g bs sp bv ps m K hB hb hg kd h2 h4 h5 h6 h8 h9 mm A C N V ao _ cap

set_option maxHeartbeats 1000000 in
theorem made1_no (s : ByteArray) (w : World) (hs : s.size ≤ maxLen) (h : 134217728 < s.size) :
    Calls Try.prog 7 #[.int .i64 1, .string s] w fun e w' => e = .returned (.pointer none) ∧ w' = w := by
  unfold maxLen at hs
  have h1 : ¬ (s.size : Int) < 1 := by omega
  go_enter Try.func7, Try.ntmps7
  go_wp2
  go_ret
  exact ⟨rfl, rfl⟩

set_option maxHeartbeats 1000000 in
theorem made1_yes (s : ByteArray) (w : World) (h : s.size ≤ 134217728) (h1 : 1 ≤ s.size) :
    Calls Try.prog 7 #[.int .i64 1, .string s] w fun e w' => MadePost w s.data.toList e w' := by
  have hnew := new_yes s.size w h
  have hz := zeros_length s.size
  have hi1 : ¬ (s.size : Int) < 1 := by omega
  go_enter Try.func7, Try.ntmps7
  go_wp2_with fail
  refine hnew.mono ?_
  rintro e w1 ⟨b, g, hb, hg, rfl, m, k⟩
  clear hnew
  go_wp2_with fail
  refine (len_any _ b g _ _ m).mono ?_
  rintro e w2 ⟨rfl, rfl⟩
  obtain ⟨w3, c, fz, hconv, k3, hs3, hr3⟩ := bytes_of (P := Try.prog) w2 9 30 5 s Try.underlying9 Try.underlying30 Try.underlying5
  have m3 := m.keeps k3 id id
  have hne : w2.heap.size ≠ g := by have := heap_lt m.hg; omega
  have hsx : s.size = s.data.toList.length := by simp
  have hw := write_one_yes (pb := w3.heap.size) (c := c) (o := 0) m3 hr3 hne hsx (by rw [← hsx]; omega) rfl (by rw [← hsx, hz]; omega)
  rw [splice_zeros, ← hsx, Nat.sub_self, show zeros 0 = [] from rfl, List.append_nil, show ((0 : Nat) : Int) = 0 from rfl] at hw
  have K : Keeps w (w3.alloc (.cells #[.slice (some ⟨w2.heap.size, 0, none⟩) s.size c] 30)) (fun _ => False) := (k.trans k3 (fun _ _ x => x)).alloc _
  clear hr3 hs3 m m3 k k3 hne hsx
  go_wp2_with fail
  refine hw.mono ?_
  rintro e w4 ⟨rfl, m4, k4⟩
  clear hw
  go_wp2_with fail
  go_ret
  exact ⟨b, g, hb, hg, rfl, m4, K.trans k4 (fun i hi e => by omega)⟩

set_option maxHeartbeats 1000000 in
theorem made1_none (s : ByteArray) (w : World) (h : s.size = 0) :
    Calls Try.prog 7 #[.int .i64 1, .string s] w fun e w' => MadePost w (zeros 1) e w' := by
  have hnew := new_yes 1 w (by omega)
  rw [show ((1 : Nat) : Int) = 1 from rfl] at hnew
  have hz := zeros_length 1
  have hi1 : (s.size : Int) < 1 := by omega
  have HS : Hid (s.size = 0) := h
  clear h
  go_enter Try.func7, Try.ntmps7
  go_wp2_with fail
  refine hnew.mono ?_
  rintro e w1 ⟨b, g, hb, hg, rfl, m, k⟩
  clear hnew
  go_wp2_with fail
  refine (len_any _ b g _ _ m).mono ?_
  rintro e w2 ⟨rfl, rfl⟩
  rw [hz, show ((1 : Nat) : Int) = 1 from rfl]
  obtain ⟨w3, c, fz, hconv, k3, hs3, hr3⟩ := bytes_of (P := Try.prog) w2 9 30 5 s Try.underlying9 Try.underlying30 Try.underlying5
  have m3 := m.keeps k3 id id
  have hne : w2.heap.size ≠ g := by have := heap_lt m.hg; omega
  have hsx : s.size = s.data.toList.length := by simp
  have hnil : s.data.toList = [] := List.eq_nil_of_length_eq_zero (by rw [← hsx]; exact HS.out)
  have hw := write_one_yes (pb := w3.heap.size) (c := c) (o := 0) m3 hr3 hne hsx (by rw [← hsx, HS.out]; omega) rfl (by rw [← hsx, hz, HS.out]; omega)
  rw [hnil, splice_nil, show ((0 : Nat) : Int) = 0 from rfl] at hw
  have K : Keeps w (w3.alloc (.cells #[.slice (some ⟨w2.heap.size, 0, none⟩) s.size c] 30)) (fun _ => False) := (k.trans k3 (fun _ _ x => x)).alloc _
  clear hr3 hs3 m m3 k k3 hne hsx hnil hz
  go_wp2_with fail
  refine hw.mono ?_
  rintro e w4 ⟨rfl, m4, k4⟩
  clear hw
  go_wp2_with fail
  go_ret
  exact ⟨b, g, hb, hg, rfl, m4, K.trans k4 (fun i hi e => by omega)⟩
theorem made1_any (s : ByteArray) (w : World) (h : s.size ≤ 134217728) :
    Calls Try.prog 7 #[.int .i64 1, .string s] w fun e w' => ∃ bs, 1 ≤ bs.length ∧ MadePost w bs e w' := by
  by_cases h1 : s.size = 0
  · exact (made1_none s w h1).mono fun e w' hp => ⟨zeros 1, by simp [zeros], hp⟩
  · exact (made1_yes s w h (by omega)).mono fun e w' hp => ⟨s.data.toList, by simp; omega, hp⟩
end Go.Proofs.Ytlgmpnaalifegab
