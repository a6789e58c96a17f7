import Derived.Test.YtlgmpnaalifegaaWalks9
import Derived.Deep.QuietTactic
import Derived.BigQuiet
namespace Go.Proofs.Ytlgmpnaalifegaa
namespace memEquals
open Go.RowKit

def Post (w : World) (e : Ending) (w' : World) : Prop := e = .returned (.bool true) ∧ Below w.heap.size w w'

set_option maxHeartbeats 1000000 in
theorem yes (s : ByteArray) (a b n : Nat) (w : World) (h : s.size ≤ 134217728) (h1 : a + n ≤ s.size) (h2 : b + n ≤ s.size) :
    Calls Try.prog 5 #[.string s, .int .i64 (a : Int), .int .i64 (b : Int), .int .i64 (n : Int)] w fun e w' => Post w e w' := by
  have hm := made_yes s w h
  have hl : s.data.toList.length = s.size := by simp
  have hin := fun W => lawin_yes W s.size (by omega) a n (insideB_mk h1)
  have hin2 := fun W => lawin_yes W s.size (by omega) b n (insideB_mk h2)
  have hx1 := extract_eq s a n
  have hx2 := extract_eq s b n
  have hc1 := fun W => run_cut W s a n h1
  have hc2 := fun W => run_cut W s b n h2
  have hwa : IntKind.i64.wrap ((a : Int) + (n : Int)) = (a : Int) + (n : Int) := by rw [IntKind.wrap_i64]; omega
  have hwb : IntKind.i64.wrap ((b : Int) + (n : Int)) = (b : Int) + (n : Int) := by rw [IntKind.wrap_i64]; omega
  go_enter Try.func5, Try.ntmps5
  go_wp2_with fail
  refine hm.mono ?_
  rintro e w1 ⟨bb, g, hb, hg, rfl, m, k⟩
  clear hm
  have heq := equal_yes _ bb g _ _ m a b n (by rw [hl]; exact h1) (by rw [hl]; exact h2)
  rw [hx1, hx2] at heq
  go_wp2_with fail
  refine heq.mono ?_
  rintro e w2 ⟨rfl, rfl⟩
  clear heq
  go_wp2_with fail
  refine (read_yes _ bb g _ _ m a n (by rw [hl]; exact h1)).mono ?_
  rintro e w3 ⟨l1, hl1, rfl, hr1, k1⟩
  replace k := k.trans k1 (fun _ _ x => x)
  replace m := m.keeps k1 id id
  go_wp2_with fail
  refine (read_yes _ bb g _ _ m b n (by rw [hl]; exact h2)).mono ?_
  rintro e w4 ⟨l2, hl2, rfl, hr2, k2⟩
  replace k := k.trans k2 (fun _ _ x => x)
  replace hr1 := (k2.block l1 (heap_lt hr1) id).trans hr1
  clear k1 k2 m
  have t1 : ∀ nq, (convert 27 9 (.slice (some ⟨l1, 0, none⟩) n n)).run Try.prog (w4.drewN nq) = .ok (.string (s.extract a (a + n))) (w4.drewN nq) := fun nq => by
    rw [← hx1]
    refine run_text _ _ _ _ _ (by simp; omega) (fun j hj => ?_)
    rw [addr_add, Nat.zero_add]
    have := rowOf_get _ j hj
    simpa [World.cell?, hr1] using this
  have t2 : ∀ nq, (convert 27 9 (.slice (some ⟨l2, 0, none⟩) n n)).run Try.prog (w4.drewN nq) = .ok (.string (s.extract b (b + n))) (w4.drewN nq) := fun nq => by
    rw [← hx2]
    refine run_text _ _ _ _ _ (by simp; omega) (fun j hj => ?_)
    rw [addr_add, Nat.zero_add]
    have := rowOf_get _ j hj
    simpa [World.cell?, hr2] using this
  clear hr1 hr2 hx1 hx2
  go_wp2_with fail
  refine (hin _).mono ?_
  rintro e w5 ⟨rfl, rfl⟩
  clear hin
  go_wp2_with fail
  refine (hin2 _).mono ?_
  rintro e w5 ⟨rfl, rfl⟩
  clear hin2
  go_wp2_with fail
  go_quiet (fail)
  go_wp2_with fail
  go_quiet (fail)
  go_wp2_with fail
  go_ret
  refine ⟨?_, ((k.drewN _).drewN _).below (Nat.le_refl _) (fun _ _ => id)⟩
  simp [eqS]

set_option maxHeartbeats 1000000 in
theorem no_no (s : ByteArray) (a b n : Int) (w : World) (h : s.size ≤ 134217728) (h1 : insideB s.size a n = false) (h2 : insideB s.size b n = false) :
    Calls Try.prog 5 #[.string s, .int .i64 a, .int .i64 b, .int .i64 n] w fun e w' => Post w e w' := by
  have hm := made_yes s w h
  have hl : s.data.toList.length = s.size := by simp
  have hin := fun W => lawin_no W s.size (by omega) a n h1
  have HO : Hid ((insideB s.size a n && insideB s.size b n) = false) := by show _ = _; rw [h1]; rfl
  have H1 : Hid (insideB s.size a n = false) := h1
  have H2 : Hid (insideB s.size b n = false) := h2
  clear h1 h2
  go_enter Try.func5, Try.ntmps5
  go_wp2_with fail
  refine hm.mono ?_
  rintro e w1 ⟨bb, g, hb, hg, rfl, m, k⟩
  clear hm
  go_wp2_with fail
  refine (equal_no _ bb g _ _ m _ _ _ (by rw [hl]; exact HO.out)).mono ?_
  rintro e w2 ⟨rfl, rfl⟩
  go_wp2_with fail
  refine (read_no _ bb g _ _ m _ _ (by rw [hl]; exact H1.out)).mono ?_
  rintro e w3 ⟨rfl, rfl⟩
  go_wp2_with fail
  refine (read_no _ bb g _ _ m _ _ (by rw [hl]; exact H2.out)).mono ?_
  rintro e w3 ⟨rfl, rfl⟩
  go_wp2_with fail
  refine (hin _).mono ?_
  rintro e w5 ⟨rfl, rfl⟩
  clear hin
  go_wp2_with fail
  go_ret
  exact ⟨rfl, k.below (Nat.le_refl _) (fun _ _ => id)⟩

set_option maxHeartbeats 1000000 in
theorem no_yes (s : ByteArray) (a : Int) (b n : Nat) (w : World) (h : s.size ≤ 134217728) (h1 : insideB s.size a (n : Int) = false) (h2 : b + n ≤ s.size) :
    Calls Try.prog 5 #[.string s, .int .i64 a, .int .i64 (b : Int), .int .i64 (n : Int)] w fun e w' => Post w e w' := by
  have hm := made_yes s w h
  have hl : s.data.toList.length = s.size := by simp
  have hin := fun W => lawin_no W s.size (by omega) a n h1
  have HO : Hid ((insideB s.size a (n : Int) && insideB s.size (b : Int) (n : Int)) = false) := by show _ = _; rw [h1]; rfl
  have H1 : Hid (insideB s.size a (n : Int) = false) := h1
  clear h1
  go_enter Try.func5, Try.ntmps5
  go_wp2_with fail
  refine hm.mono ?_
  rintro e w1 ⟨bb, g, hb, hg, rfl, m, k⟩
  clear hm
  go_wp2_with fail
  refine (equal_no _ bb g _ _ m _ _ _ (by rw [hl]; exact HO.out)).mono ?_
  rintro e w2 ⟨rfl, rfl⟩
  go_wp2_with fail
  refine (read_no _ bb g _ _ m _ _ (by rw [hl]; exact H1.out)).mono ?_
  rintro e w3 ⟨rfl, rfl⟩
  go_wp2_with fail
  refine (read_yes _ bb g _ _ m _ _ (by rw [hl]; exact h2)).mono ?_
  rintro e w3 ⟨l1, hl1, rfl, hr1, k1⟩
  replace k := k.trans k1 (fun _ _ x => x)
  replace m := m.keeps k1 id id
  clear hr1 k1
  go_wp2_with fail
  refine (hin _).mono ?_
  rintro e w5 ⟨rfl, rfl⟩
  clear hin
  go_wp2_with fail
  go_ret
  exact ⟨rfl, k.below (Nat.le_refl _) (fun _ _ => id)⟩

set_option maxHeartbeats 1000000 in
theorem yes_no (s : ByteArray) (a n : Nat) (b : Int) (w : World) (h : s.size ≤ 134217728) (h1 : a + n ≤ s.size) (h2 : insideB s.size b (n : Int) = false) :
    Calls Try.prog 5 #[.string s, .int .i64 (a : Int), .int .i64 b, .int .i64 (n : Int)] w fun e w' => Post w e w' := by
  have hm := made_yes s w h
  have hl : s.data.toList.length = s.size := by simp
  have hin := fun W => lawin_yes W s.size (by omega) a n (insideB_mk h1)
  have hin2 := fun W => lawin_no W s.size (by omega) b n h2
  have HO : Hid ((insideB s.size (a : Int) (n : Int) && insideB s.size b (n : Int)) = false) := by show _ = _; rw [h2, Bool.and_false]
  have H2 : Hid (insideB s.size b (n : Int) = false) := h2
  clear h2
  go_enter Try.func5, Try.ntmps5
  go_wp2_with fail
  refine hm.mono ?_
  rintro e w1 ⟨bb, g, hb, hg, rfl, m, k⟩
  clear hm
  go_wp2_with fail
  refine (equal_no _ bb g _ _ m _ _ _ (by rw [hl]; exact HO.out)).mono ?_
  rintro e w2 ⟨rfl, rfl⟩
  go_wp2_with fail
  refine (read_yes _ bb g _ _ m _ _ (by rw [hl]; exact h1)).mono ?_
  rintro e w3 ⟨l1, hl1, rfl, hr1, k1⟩
  replace k := k.trans k1 (fun _ _ x => x)
  replace m := m.keeps k1 id id
  clear hr1 k1
  go_wp2_with fail
  refine (read_no _ bb g _ _ m _ _ (by rw [hl]; exact H2.out)).mono ?_
  rintro e w3 ⟨rfl, rfl⟩
  go_wp2_with fail
  refine (hin _).mono ?_
  rintro e w5 ⟨rfl, rfl⟩
  clear hin
  go_wp2_with fail
  refine (hin2 _).mono ?_
  rintro e w5 ⟨rfl, rfl⟩
  clear hin2
  go_wp2_with fail
  go_ret
  exact ⟨rfl, k.below (Nat.le_refl _) (fun _ _ => id)⟩

set_option maxHeartbeats 400000 in
theorem walk_big (s : ByteArray) (a b n : Int) (w : World) (hs : s.size ≤ maxLen) (h : 134217728 < s.size) :
    Calls Try.prog 5 #[.string s, .int .i64 a, .int .i64 b, .int .i64 n] w fun e w' => Post w e w' := by
  have hm := made_no s w hs h
  have hd : (134217728 : Int) < (s.size : Int) := by omega
  unfold maxLen at hs
  go_enter Try.func5, Try.ntmps5
  go_wp2_with fail
  refine hm.mono ?_
  rintro e w' ⟨rfl, rfl⟩
  clear hm
  go_wp2_with fail
  go_ret
  exact ⟨rfl, Below.refl _ _⟩

theorem walk (a0 : ByteArray) (a1 : Int) (a2 : Int) (a3 : Int) (w0 : a0.size ≤ maxLen) (_ : (Lit.int .i64 a1).wf = true) (_ : (Lit.int .i64 a2).wf = true) (_ : (Lit.int .i64 a3).wf = true) (w : World) :
    Calls Try.prog 5 #[.string a0, .int .i64 a1, .int .i64 a2, .int .i64 a3] w fun e w' => e = .returned (.bool true) ∧ Below w.heap.size w w' := by
  by_cases h : 134217728 < a0.size
  · exact walk_big a0 a1 a2 a3 w w0 h
  replace h : a0.size ≤ 134217728 := by omega
  cases h1 : insideB a0.size a1 a3
  · cases h2 : insideB a0.size a2 a3
    · exact no_no a0 a1 a2 a3 w h h1 h2
    · obtain ⟨b, n, rfl, rfl, hb⟩ := insideB_nat h2
      exact no_yes a0 a1 b n w h h1 hb
  · obtain ⟨a, n, rfl, rfl, ha⟩ := insideB_nat h1
    cases h2 : insideB a0.size a2 (n : Int)
    · exact yes_no a0 a n a2 w h ha h2
    · obtain ⟨b, n', rfl, hn, hb⟩ := insideB_nat h2
      have hn' : n' = n := by omega
      subst hn'
      exact yes a0 a b n' w h ha hb
end memEquals
end Go.Proofs.Ytlgmpnaalifegaa
