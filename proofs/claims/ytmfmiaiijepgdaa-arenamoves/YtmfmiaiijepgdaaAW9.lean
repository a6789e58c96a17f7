import Derived.Test.YtmfmiaiijepgdaaAW8
namespace Go.Proofs.Ytmfmiaiijepgdaa
open Go.RowKit Go.Shelf

set_option maxHeartbeats 400000 in
theorem anew_no (n : Int) (w : World) (h : n < 0 ∨ 2097152 < n) :
    Calls Try.prog 10 #[.int .i64 n] w fun e w' => e = .returned (.tuple #[.pointer none, .int .i64 20]) ∧ w' = w := by
  rcases h with h | h
  · go_enter Try.func10, Try.ntmps10
    go_wp2
    go_ret2
    exact ⟨rfl, rfl⟩
  · have h0 : ¬ n < 0 := by omega
    go_enter Try.func10, Try.ntmps10
    go_wp2
    go_ret2
    exact ⟨rfl, rfl⟩

/-- An arena without blocks. -/
def AD.fresh (limit : Nat) : AD := { limit := limit, used := 0, bs := zeros 16, L := [], lv := fun _ => none, fm := fun _ => none }
theorem AD.fresh_fine {limit : Nat} (h : limit ≤ 2097152) : (AD.fresh limit).Fine :=
  { tiles := by simp [AD.fresh, Tiles, zeros_length]
    live := fun x s hs => by simp [AD.fresh] at hs
    most := by simp [AD.fresh, zeros_length]
    lim := h
    use := Nat.zero_le _ }
def ANewPost (w : World) (limit : Nat) (e : Ending) (w' : World) : Prop :=
  ∃ p, e = .returned (.tuple #[.pointer (some ⟨p, 0, none⟩), .int .i64 0]) ∧ Arena w' p (fun k => w.heap.size ≤ k) (AD.fresh limit) ∧ Keeps w w' (fun _ => False)

set_option maxHeartbeats 1000000 in
theorem anew_yes (n : Nat) (w : World) (h : n ≤ 2097152) :
    Calls Try.prog 10 #[.int .i64 (n : Int)] w fun e w' => ANewPost w n e w' := by
  have h0 : ¬ (n : Int) < 0 := by omega
  have h1 : ¬ (2097152 : Int) < (n : Int) := by omega
  have hnew := new_yes 16 w (by omega)
  have hmm := @run_makeMap Try.prog
  go_enter Try.func10, Try.ntmps10
  go_wp2_with fail
  refine hnew.mono ?_
  rintro e w1 ⟨b, g, hb, hg, rfl, m, k⟩
  clear hnew
  have hfin : ANewPost w n (.returned (.tuple #[.pointer (some ⟨w1.heap.size + 1 + 1, 0, none⟩), .int .i64 0])) (((w1.alloc (.map #[] 0)).alloc (.map #[] 0)).alloc (.cells #[.int .i64 (n : Int), .int .i64 0, .pointer (some ⟨b, 0, none⟩), .slice none 0 0, .map (some w1.heap.size), .map (some (w1.heap.size + 1))] 80)) := by
    have k1 : Keeps w1 (w1.alloc (.map #[] 0)) (fun _ => False) := (Keeps.refl _ _).alloc _
    have k2 : Keeps (w1.alloc (.map #[] 0)) ((w1.alloc (.map #[] 0)).alloc (.map #[] 0)) (fun _ => False) := (Keeps.refl _ _).alloc _
    have k3 : Keeps ((w1.alloc (.map #[] 0)).alloc (.map #[] 0)) (((w1.alloc (.map #[] 0)).alloc (.map #[] 0)).alloc (.cells #[.int .i64 (n : Int), .int .i64 0, .pointer (some ⟨b, 0, none⟩), .slice none 0 0, .map (some w1.heap.size), .map (some (w1.heap.size + 1))] 80)) (fun _ => False) := (Keeps.refl _ _).alloc _
    have e1 : (w1.alloc (.map #[] 0)).heap.size = w1.heap.size + 1 := by simp
    have e2 : ((w1.alloc (.map #[] 0)).alloc (.map #[] 0)).heap.size = w1.heap.size + 1 + 1 := by simp
    have K := ((k.trans k1 (fun _ _ e => e)).trans k2 (fun _ _ e => e)).trans k3 (fun _ _ e => e)
    have hs := k.size
    have m1 := MapTo.made (c := cInt) Try.prog w1
    have m2 := MapTo.made (c := cPtr) Try.prog (w1.alloc (.map #[] 0))
    rw [e1] at m2
    refine ⟨w1.heap.size + 1 + 1, rfl, ⟨{ b := b, g := g, bl := w1.heap.size, bf := w1.heap.size + 1, v := .slice none 0 0, sp := [], nl := 0, nf := 0 }, ⟨?_, ?_, ?_, ?_, ?_, by simp, by simp [AD.fresh]⟩, ?_⟩, K⟩
    · have := heap_alloc_new ((w1.alloc (.map #[] 0)).alloc (.map #[] 0)) (.cells #[.int .i64 (n : Int), .int .i64 0, .pointer (some ⟨b, 0, none⟩), .slice none 0 0, .map (some w1.heap.size), .map (some (w1.heap.size + 1))] 80)
      rw [e2] at this
      exact this
    · exact ((m.keeps k1 id id).keeps k2 id id).keeps k3 id id
    · exact World.ownsRow_nil _ _ _ _
    · exact (m1.keeps k2 id).keeps k3 id
    · exact m2.keeps k3 id
    · intro x hx
      rcases hx with rfl | rfl | rfl | rfl | rfl | e
      · omega
      · exact hb
      · exact hg
      · exact hs
      · show w.heap.size ≤ w1.heap.size + 1
        omega
      · cases e
  clear k m hb hg
  go_wp2_with fail
  go_ret2
  exact hfin
end Go.Proofs.Ytmfmiaiijepgdaa
