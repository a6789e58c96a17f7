import Derived.Test.YtlgmpnaalifegabWalks23
namespace Go.Proofs.Ytlgmpnaalifegab
open Go.RowKit

theorem Try.infoAct : (Try.prog.info? 82).map (fun i => (i.zero, i.size, i.bytes)) = some (some (.agg #[.int .i64 0, .int .i64 0, .int .i64 0, .int .i64 0, .int .u8 0, .string ByteArray.empty]), 6, 56) := by kernel_rfl

/-- An act is appended. -/
theorem act_append {B : Nat} {w : World} {rb sz : Nat} {av : Value} {xs : List ActD} (r : RefAt B w rb sz av xs) (a : ActD) (ha : a.ok sz) (hn : xs.length < 1048576) (hB : B ≤ w.heap.size) :
    ∃ w' g2 c2, (∀ ty, (Builtin.append_ #[73, 73] ty #[av, .slice (some ⟨w.heap.size, 0, none⟩) 1 1]).run Try.prog (w.alloc (.cells (actVal a.k a.off a.n a.src a.u a.s) 82)) = .ok (.slice (some ⟨g2, 0, none⟩) (xs.length + 1) c2) w') ∧
      w'.cell? ⟨rb, 0, none⟩ = some (.int .i64 (sz : Int)) ∧ w'.cell? ⟨rb, 1, none⟩ = some av ∧ w'.frozen? ⟨rb, 1, none⟩ = false ∧
      Hid (RefAt B (w'.setCell ⟨rb, 1, none⟩ (.slice (some ⟨g2, 0, none⟩) (xs.length + 1) c2)) rb sz (.slice (some ⟨g2, 0, none⟩) (xs.length + 1) c2) (xs ++ [a]) ∧ Keeps w (w'.setCell ⟨rb, 1, none⟩ (.slice (some ⟨g2, 0, none⟩) (xs.length + 1) c2)) (fun k => k = rb ∨ av.ownBlock = some k) ∧ (av.ownBlock = some g2 ∨ w.heap.size ≤ g2)) := by
  obtain ⟨i, hi1, hi2, hi3, hi4⟩ := info_parts Try.infoAct
  have k0 : Keeps w (w.alloc (.cells (actVal a.k a.off a.n a.src a.u a.s) 82)) (fun _ => False) := (Keeps.refl _ _).alloc _
  have hnew := heap_alloc_new w (.cells (actVal a.k a.off a.n a.src a.u a.s) 82)
  obtain ⟨g2, c2, w', hr, h2, h3, h4, _⟩ := run_append_lies (P := Try.prog) (w.alloc (.cells (actVal a.k a.off a.n a.src a.u a.s) 82)) 73 0 B 82 i (.agg #[.int .i64 0, .int .i64 0, .int .i64 0, .int .i64 0, .int .u8 0, .string ByteArray.empty]) 6 56 Try.underlying73 hi1 hi2 hi3 hi4 rfl (by omega)
    av xs.length (actCells xs) (ownsRow_keeps r.own k0 (fun _ _ => id)) ⟨w.heap.size, 0, none⟩ 1 1 a.cells (ActD.cells_length a)
    (fun j x hj => by
      rw [addr_add, Nat.zero_add]
      simp only [World.cell?, hnew]
      simpa [ActD.cells] using hj)
    (fun x hx => by
      simp only [ActD.cells, actVal, List.mem_cons, List.not_mem_nil, or_false] at hx
      rcases hx with rfl | rfl | rfl | rfl | rfl | rfl <;> rfl) (by omega) (by unfold maxLen; omega) (by omega) (by have := k0.size; omega) _ rfl
  have k1 := Keeps.ofGrown h3
  have k2 : Keeps w w' (fun k => av.ownBlock = some k) := (k0.mono (fun _ _ x => x.elim)).trans k1 (fun _ _ x => x)
  have hne : ¬ av.ownBlock = some rb := fun e => absurd (r.own_ne e r.hb) (by decide)
  have hb : w'.heap[rb]? = some (.cells #[.int .i64 (sz : Int), av] 75) := (k2.block rb (heap_lt r.hb) hne).trans r.hb
  have k3 : Keeps w' (w'.setCell ⟨rb, 1, none⟩ (.slice (some ⟨g2, 0, none⟩) (xs.length + 1) c2)) (fun k => k = rb) := Keeps.setCell (S := fun k => k = rb) (Keeps.refl _ _) ⟨rb, 1, none⟩ (fun _ => rfl) _
  refine ⟨w', g2, c2, fun ty => hr, by simp [World.cell?, hb], by simp [World.cell?, hb], by simp [World.frozen?, hb], ?_⟩
  refine (show _ ∧ _ ∧ _ from ⟨⟨(heap_setCell_two hb).2, ?_, r.hsz, by rw [List.length_append, List.length_singleton]; omega, fun q hq => ?_⟩, (k2.mono (fun _ _ x => Or.inr x)).trans k3 (fun _ _ x => Or.inl x), h4.imp id (fun e => by rw [e]; exact k0.size)⟩)
  · have e : actCells (xs ++ [a]) = actCells xs ++ a.cells := by simp [actCells]
    rw [e]
    have h5 : w'.ownsRow B 82 6 (.slice (some ⟨g2, 0, none⟩) (xs.length + 1) c2) (xs ++ [a]).length (actCells xs ++ a.cells) := by simpa using h2
    refine ownsRow_keeps h5 k3 (fun g hg e => ?_)
    subst e
    obtain ⟨_, cur, hc⟩ := ownsRow_block h5 hg
    rw [hb] at hc
    injection hc with hc
    injection hc with _ hc
    exact absurd hc (by decide)
  · rcases List.mem_append.1 hq with hq | hq
    · exact r.hok q hq
    · have : q = a := by simpa using hq
      subst this
      exact ha

/-- What an act leaves. -/
def ActPost (B : Nat) (w : World) (rb sz : Nat) (av : Value) (xs : List ActD) (e : Ending) (w' : World) : Prop :=
  e = .returned (.int .i64 0) ∧ ∃ av', RefAt B w' rb sz av' xs ∧ Keeps w w' (fun k => k = rb ∨ av.ownBlock = some k) ∧ ∀ k, av'.ownBlock = some k → av.ownBlock = some k ∨ w.heap.size ≤ k

set_option maxHeartbeats 400000 in
theorem rfill_no {B : Nat} {w : World} {rb sz : Nat} {av : Value} {xs : List ActD} (r : RefAt B w rb sz av xs) (o n x : Int) (h : insideB sz o n = false) :
    Calls Try.prog 36 #[.pointer (some ⟨rb, 0, none⟩), .int .i64 o, .int .i64 n, .int .u8 x] w fun e w' => e = .returned (.int .i64 11) ∧ w' = w := by
  have hin := rin_no w rb sz r.cell0 r.hsz o n h
  clear r
  go_enter Try.func36, Try.ntmps36
  go_wp2_with fail
  refine hin.mono ?_
  rintro e w' ⟨rfl, rfl⟩
  clear hin
  go_wp2_with fail
  go_ret
  exact ⟨rfl, rfl⟩

set_option maxRecDepth 100000 in
set_option maxHeartbeats 1000000 in
theorem rfill_yes {B : Nat} {w : World} {rb sz : Nat} {av : Value} {xs : List ActD} (r : RefAt B w rb sz av xs) (hn : xs.length < 1048576) (hB : B ≤ w.heap.size) (o n : Nat) (u : UInt8) (h : o + n ≤ sz) :
    Calls Try.prog 36 #[.pointer (some ⟨rb, 0, none⟩), .int .i64 (o : Int), .int .i64 (n : Int), .int .u8 (u.toNat : Int)] w fun e w' => ActPost B w rb sz av (xs ++ [⟨1, o, n, 0, u, ⟨#[]⟩⟩]) e w' := by
  have hin := rin_yes w rb sz r.cell0 r.hsz o n (insideB_mk h)
  obtain ⟨w2, g2, c2, hap, hc0, hc1, hfz, hpost⟩ := act_append r ⟨1, o, n, 0, u, ⟨#[]⟩⟩ ⟨h, by show 0 + n ≤ sz; omega, (fun e => by cases e), by show 1 ≤ 3; omega⟩ hn hB
  have hcell1 := r.cell1
  simp only [actVal] at hap
  rw [show ((1 : Nat) : Int) = 1 from rfl, show ((0 : Nat) : Int) = 0 from rfl] at hap
  clear r
  go_enter Try.func36, Try.ntmps36
  go_wp2_with fail
  refine hin.mono ?_
  rintro e w' ⟨rfl, rfl⟩
  clear hin
  go_wp2_with (first | (at_builtin; have _t := hap; refine wpList_append_run _ rfl (.tmp 18) (.tmp 23) 73 rfl rfl rfl hap ?_; clear hap))
  go_ret
  exact ⟨rfl, _, hpost.out.1, hpost.out.2.1, fun k hk => by cases hk; exact hpost.out.2.2⟩

set_option maxHeartbeats 400000 in
theorem rcopy_no {B : Nat} {w : World} {rb sz : Nat} {av : Value} {xs : List ActD} (r : RefAt B w rb sz av xs) (d s n : Int) (h : (insideB sz d n && insideB sz s n) = false) :
    Calls Try.prog 37 #[.pointer (some ⟨rb, 0, none⟩), .int .i64 d, .int .i64 s, .int .i64 n] w fun e w' => e = .returned (.int .i64 11) ∧ w' = w := by
  have hin1 := rin_any w rb sz r.cell0 r.hsz d n
  have hin2 := rin_any w rb sz r.cell0 r.hsz s n
  clear r
  cases h1 : insideB sz d n
  · rw [h1] at hin1
    clear hin2 h
    go_enter Try.func37, Try.ntmps37
    go_wp2_with fail
    refine hin1.mono ?_
    rintro e w' ⟨rfl, rfl⟩
    clear hin1
    go_wp2_with fail
    go_ret
    exact ⟨rfl, rfl⟩
  · have h2 : insideB sz s n = false := by simpa [h1] using h
    rw [h1] at hin1
    rw [h2] at hin2
    clear h
    go_enter Try.func37, Try.ntmps37
    go_wp2_with fail
    refine hin1.mono ?_
    rintro e w' ⟨rfl, rfl⟩
    clear hin1
    go_wp2_with fail
    refine hin2.mono ?_
    rintro e w' ⟨rfl, rfl⟩
    clear hin2
    go_wp2_with fail
    go_ret
    exact ⟨rfl, rfl⟩

set_option maxRecDepth 100000 in
set_option maxHeartbeats 1000000 in
theorem rcopy_yes {B : Nat} {w : World} {rb sz : Nat} {av : Value} {xs : List ActD} (r : RefAt B w rb sz av xs) (hn : xs.length < 1048576) (hB : B ≤ w.heap.size) (d s n : Nat) (h1 : d + n ≤ sz) (h2 : s + n ≤ sz) :
    Calls Try.prog 37 #[.pointer (some ⟨rb, 0, none⟩), .int .i64 (d : Int), .int .i64 (s : Int), .int .i64 (n : Int)] w fun e w' => ActPost B w rb sz av (xs ++ [⟨3, d, n, s, 0, ⟨#[]⟩⟩]) e w' := by
  have hin1 := rin_yes w rb sz r.cell0 r.hsz d n (insideB_mk h1)
  have hin2 := rin_yes w rb sz r.cell0 r.hsz s n (insideB_mk h2)
  obtain ⟨w2, g2, c2, hap, hc0, hc1, hfz, hpost⟩ := act_append r ⟨3, d, n, s, 0, ⟨#[]⟩⟩ ⟨h1, h2, (fun e => by cases e), by show 3 ≤ 3; omega⟩ hn hB
  have hcell1 := r.cell1
  simp only [actVal] at hap
  rw [show ((3 : Nat) : Int) = 3 from rfl, show ((UInt8.toNat 0 : Nat) : Int) = 0 from rfl] at hap
  clear r
  go_enter Try.func37, Try.ntmps37
  go_wp2_with fail
  refine hin1.mono ?_
  rintro e w' ⟨rfl, rfl⟩
  clear hin1
  go_wp2_with fail
  refine hin2.mono ?_
  rintro e w' ⟨rfl, rfl⟩
  clear hin2
  go_wp2_with (first | (at_builtin; have _t := hap; refine wpList_append_run _ rfl (.tmp 25) (.tmp 30) 73 rfl rfl rfl hap ?_; clear hap))
  go_ret
  exact ⟨rfl, _, hpost.out.1, hpost.out.2.1, fun k hk => by cases hk; exact hpost.out.2.2⟩
end Go.Proofs.Ytlgmpnaalifegab
