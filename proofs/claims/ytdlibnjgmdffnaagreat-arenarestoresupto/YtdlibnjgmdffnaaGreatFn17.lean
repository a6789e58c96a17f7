import Derived.Test.YtdlibnjgmdffnaaGreatFn16
/-
  The document's Restore, where it is refused; the statement's room.
-/
namespace Go.Proofs.YtdlibnjgmdffnaaGreat
open Go.RowKit Go.Shelf
set_option linter.unusedVariables false

set_option maxRecDepth 100000 in
theorem ref_restore_limit (n : Int) (h : n < 0 ∨ 2097152 < n) (v S : Value) (w : World) :
    Calls Tryz.prog 12 #[.int .i64 n, v, S] w fun e w' => NoPost w 20 e w' := by
  rcases h with h | h
  · go_enter Tryz.func12, Tryz.ntmps12
    go_wp2_with fail
    go_ret2
    exact ⟨rfl, Keeps.refl _ _⟩
  · have h0 : ¬ n < 0 := by omega
    go_enter Tryz.func12, Tryz.ntmps12
    go_wp2_with fail
    go_ret2
    exact ⟨rfl, Keeps.refl _ _⟩

set_option maxRecDepth 100000 in
set_option maxHeartbeats 2000000 in
theorem ref_restore_parts (limit : Nat) (hlim : limit ≤ 2097152) (a : Option Addr) (ca : Nat) (ps : List (Int × Int × Bool)) (w : World) (hl : ps.length ≤ 134217728) (hca : ps.length ≤ ca) (h1 : PartsIn w a ps) (hok : ¬ ∀ k, okP limit ps k) (S : ByteArray) :
    Calls Tryz.prog 12 #[.int .i64 (limit : Int), .slice a ps.length ca, .string S] w fun e w' => NoPost w 25 e w' := by
  have hR := rowed_any limit hlim a ca ps w hl hca h1
  have hl0 : ¬ (limit : Int) < 0 := by omega
  have hl1 : ¬ (2097152 : Int) < (limit : Int) := by omega
  have HOK := hide hok
  clear hok h1
  go_enter Tryz.func12, Tryz.ntmps12
  go_wp2_with fail
  (with_reducible refine hR.mono ?_)
  rintro e w1 ⟨t, rfl, ht, k1⟩
  have ht0 : t = false := by
    cases t
    · rfl
    · exact absurd (ht.1 rfl) HOK.out
  subst ht0
  have K1 := hide k1
  clear hR ht k1 HOK
  go_wp2_with fail
  go_ret2
  exact ⟨rfl, K1.out⟩

theorem head_parts0 (w : World) (b o len cap k : Nat) (hh : k ≤ cap) :
    (Instr.slice 40 (.slice (some ⟨b, o, none⟩) len cap) none (some (.int .i64 (k : Int))) none).run Tryz.prog w = .ok (.slice (some ⟨b, o, none⟩) k cap) w := by
  have ht' : Tryz.prog.underlying 40 = some (.slice (Tryz.prog.elem 40)) := by simp [Program.elem, Tryz.underlying40]
  have he : Tryz.prog.elem 40 = 44 := by simp [Program.elem, Tryz.underlying40]
  obtain ⟨i, h1, h2, h3, h4⟩ := info_parts Tryz.infoPart
  have hsz : (Go.sizeOf 44).run Tryz.prog w = .ok 3 w := by simp [Go.sizeOf, typeInfo, h1, h3]
  rw [run_slice_h w _ _ _ _ ht' .i64 _ (by omega) (by omega), he, hsz]
  simp [Result.andThen, sliced, Addr.add]

/-- The statement's room: the list's copy and two parts more. -/
structure RoomP (w W : World) (g cap : Nat) (ps : List (Int × Int × Bool)) : Prop where
  new : w.heap.size ≤ g
  blk : ∃ cs, W.heap[g]? = some (.cells cs 44) ∧ cs.size = cap * 3 ∧ cs.toList.take ((ps.length + 2) * 3) = p3s ps ++ [.int .i64 (-7), .int .i64 0, .bool false, .int .i64 (-8), .int .i64 0, .bool false]
  room : ps.length + 2 ≤ cap
  top : cap ≤ maxLen
theorem RoomP.stay {w W W2 : World} {g cap : Nat} {ps : List (Int × Int × Bool)} (h : RoomP w W g cap ps) (k : Keeps W W2 (fun _ => False)) : RoomP w W2 g cap ps := by
  obtain ⟨cs, h1, h2⟩ := h.blk
  exact ⟨h.new, ⟨cs, (k.block _ (heap_lt h1) id).trans h1, h2⟩, h.room, h.top⟩
theorem RoomP.cell {w W : World} {g cap : Nat} {ps : List (Int × Int × Bool)} (h : RoomP w W g cap ps) {j : Nat} {u : Value} (hj : j < (ps.length + 2) * 3) (hu : (p3s ps ++ [.int .i64 (-7), .int .i64 0, .bool false, .int .i64 (-8), .int .i64 0, .bool false])[j]? = some u) : W.cell? ⟨g, j, none⟩ = some u := by
  obtain ⟨cs, h1, h2, h3⟩ := h.blk
  rw [← h3, List.getElem?_take, if_pos hj] at hu
  simp only [World.cell?, h1]
  simpa using hu
theorem RoomP.ends {w W : World} {g cap : Nat} {ps : List (Int × Int × Bool)} (h : RoomP w W g cap ps) : W.cell? ⟨g, ps.length * 3, none⟩ = some (.int .i64 (-7)) ∧ W.cell? ⟨g, (ps.length + 1) * 3, none⟩ = some (.int .i64 (-8)) := by
  constructor
  · refine h.cell (by omega) ?_
    rw [List.getElem?_append_right (by rw [p3s_length]; omega), p3s_length, Nat.sub_self]
    rfl
  · refine h.cell (by omega) ?_
    rw [List.getElem?_append_right (by rw [p3s_length]; omega), p3s_length, show (ps.length + 1) * 3 - ps.length * 3 = 3 by omega]
    rfl
theorem RoomP.at3 {w W : World} {g cap : Nat} {ps : List (Int × Int × Bool)} (h : RoomP w W g cap ps) (j : Nat) (hj : j < ps.length) : W.cell? ⟨g, j * 3, none⟩ = some (.int .i64 ps[j].1) ∧ W.cell? ⟨g, j * 3 + 1, none⟩ = some (.int .i64 ps[j].2.1) ∧ W.cell? ⟨g, j * 3 + 2, none⟩ = some (.bool ps[j].2.2) := by
  have hh : ∀ m u, m < 3 → (p3 ps[j])[m]? = some u → W.cell? ⟨g, j * 3 + m, none⟩ = some u := fun m u hm hu => by
    refine h.cell (by omega) ?_
    rw [List.getElem?_append_left (by rw [p3s_length]; omega), p3s_at ps j m hj hm]
    exact hu
  exact ⟨hh 0 _ (by omega) rfl, hh 1 _ (by omega) rfl, hh 2 _ (by omega) rfl⟩
theorem RoomP.parts {w W : World} {g cap : Nat} {ps : List (Int × Int × Bool)} (h : RoomP w W g cap ps) : PartsIn W (some ⟨g, 0, none⟩) ps :=
  Or.inr ⟨g, 0, rfl, fun i hi => by
    rw [Nat.zero_add]
    exact h.at3 i hi⟩
theorem RoomP.left {w W : World} {g cap : Nat} {ps : List (Int × Int × Bool)} (h : RoomP w W g cap ps) : ∃ cs, P3Left W W g 0 cap ps cs := by
  obtain ⟨cs, h1, h2, _⟩ := h.blk
  have := h.room
  exact ⟨cs, h1, by omega, h.top, h2, fun j hj _ => h.at3 j hj, Keeps.refl _ _⟩
/-- Both appends. -/
theorem room_made {w : World} (a : Option Addr) (ca : Nat) (ps : List (Int × Int × Bool)) (h : PartsIn w a ps) (hn : ps.length ≤ 134217728) (ha : a = none → ca = 0) :
    ∃ so c1 w1 g cap w2, (∀ ty, (Builtin.append_ #[40, 40] ty #[.slice none 0 0, .slice a ps.length ca]).run Tryz.prog w = .ok (.slice so ps.length c1) w1) ∧
      (∀ ty, (Builtin.append_ #[40, 40] ty #[.slice so ps.length c1, .slice (some ⟨w1.heap.size, 0, none⟩) 2 2]).run Tryz.prog (w1.alloc (.cells #[.int .i64 (-7), .int .i64 0, .bool false, .int .i64 (-8), .int .i64 0, .bool false] 44)) = .ok (.slice (some ⟨g, 0, none⟩) (ps.length + 2) cap) w2) ∧ RoomP w w2 g cap ps ∧ Keeps w w2 (fun _ => False) := by
  obtain ⟨so, c1, w1, r1, o1, k1⟩ := parts_copy a ca ps h hn ha
  have hs := k1.size
  obtain ⟨g, cap, w2, r2, o2, k2, hg⟩ := parts_two o1 (.int .i64 (-7)) (.int .i64 0) (.bool false) (.int .i64 (-8)) (.int .i64 0) (.bool false) ⟨rfl, rfl, rfl, rfl, rfl, rfl⟩ hn hs
  have K : Keeps w w2 (fun _ => False) := k1.trans (k2.mono (S1 := fun k => w.heap.size ≤ k) (fun i hi e => by
    have := ownsRow_block o1 e
    exact this.1)) (fun i hi e => by have e' : w.heap.size ≤ i := e; omega)
  refine ⟨so, c1, w1, g, cap, w2, r1, r2, ?_, K⟩
  rcases o2.2 with ⟨hh, _⟩ | ⟨g', cap', cur, hv, hb, hg', q1, q2, q3, q4⟩
  · cases hh
  · injection hv with e1 _ e3
    injection e1 with e1
    injection e1 with e1
    subst e1 e3
    exact ⟨hb, ⟨cur, hg', q3, q4⟩, q1, q2⟩
end Go.Proofs.YtdlibnjgmdffnaaGreat
