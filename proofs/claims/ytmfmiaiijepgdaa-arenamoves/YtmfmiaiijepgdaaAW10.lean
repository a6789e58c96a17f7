import Derived.Test.YtmfmiaiijepgdaaAW9
import Derived.Great.BuildSlice
namespace Go.Proofs.Ytmfmiaiijepgdaa
open Go.RowKit Go.Shelf

/-- While nothing was freed. -/
def newT (d : AD) (c : Nat) : Nat × AD := (d.bs.length, d.took c)
def newG (d : AD) : Prop := (∀ x, d.fm x = none) ∧ d.bs.length = 16 + d.used
theorem newG_fresh (limit : Nat) : newG (AD.fresh limit) := ⟨fun _ => rfl, by simp [AD.fresh, zeros_length]⟩
theorem newOK : TakeOK newT newG where
  call := fun {w p F d} c hG hF h _ _ h3 => by
    have := hF.lim
    have := hG.2
    exact take_new h hF c (by omega) (hG.1 _)
  fine := fun {d} c hG hF h1 _ h3 => by
    have := hF.lim
    have h4 := hG.2
    refine ⟨hF.took (by omega) (by omega) h3, ⟨hG.1, ?_⟩, rfl, rfl, by simp [newT]; omega⟩
    show (d.bs ++ zeros c).length = 16 + (d.used + c)
    rw [List.length_append, zeros_length]
    omega

def AllocPost (w : World) (p : Nat) (F : Nat → Prop) (o : Nat) (d' : AD) (e : Ending) (w' : World) : Prop := e = .returned (.tuple #[.int .i64 (o : Int), .int .i64 0]) ∧ Turned w w' p F d'

set_option maxHeartbeats 1000000 in
theorem alloc_yes {T : AD → Nat → Nat × AD} {G : AD → Prop} (hT : TakeOK T G) {w : World} {p : Nat} {F : Nat → Prop} {d : AD} (h : Arena w p F d) (hFl : ∀ k, F k → k < w.heap.size) (hG : G d) (hF : d.Fine) (n : Nat) (h1 : 1 ≤ n) (h2 : n ≤ 1048576) (h3 : d.used + classN n ≤ d.limit) :
    Calls Try.prog 13 #[.pointer (some ⟨p, 0, none⟩), .int .i64 (n : Int)] w fun e w' => AllocPost w p F (T d (classN n)).1 (T d (classN n)).2 e w' := by
  have hcn : classI (n : Int) = (classN n : Int) := by unfold classI; rw [if_pos (by omega)]; simp
  have hcl := class_le n h1 h2
  have hA : Calls Try.prog 17 #[.pointer (some ⟨p, 0, none⟩), .slice (some ⟨w.heap.size, 0, none⟩) 1 1] (w.alloc (.cells #[.int .i64 (n : Int)] 3)) fun e w' => AllPost (w.alloc (.cells #[.int .i64 (n : Int)] 3)) p F [((T d (classN n)).1 : Int)] (T d (classN n)).2 e w' := by
    have k0 : Keeps w (w.alloc (.cells #[.int .i64 (n : Int)] 3)) (fun _ => False) := (Keeps.refl _ _).alloc _
    have := allocAll_some hT (h.keeps k0 (fun _ _ _ e => e)) hG hF w.heap.size 0 1 [(n : Int)] (fun j hj => by
      have hj0 : j = 0 := by simpa using hj
      subst hj0
      simp only [World.cell?, heap_alloc_new]
      simp) (fun e => by have := hFl _ e; omega) (by simp) (by simp) (fun z hz => by simp at hz; omega) (by
      simp only [fitsIn]
      rw [if_neg (by rw [hcn]; omega)]
      rfl)
    simpa [takeAll, hcn] using this
  have hoff := (hT.fine (classN n) hG hF hcl.2.1 hcl.2.2.1 h3).2.2.2.2
  have hs0 : ∀ W' p' F' x d' e, AllPost (w.alloc (.cells #[.int .i64 (n : Int)] 3)) p' F' [x] d' e W' → ∃ hh, w.heap.size ≤ hh ∧ e = .returned (.tuple #[.slice (some ⟨hh, 0, none⟩) 1 1, .int .i64 0]) ∧ W'.cell? ⟨hh, 0, none⟩ = some (.int .i64 x) ∧ Turned w W' p' F' d' := by
    rintro W' p' F' x d' e ⟨hh, a1, a2, a3, a4, a5⟩
    have k0 : Keeps w (w.alloc (.cells #[.int .i64 (n : Int)] 3)) F' := (Keeps.refl _ _).alloc _
    refine ⟨hh, by simp at a1; omega, a2, ?_, a4.mono (fun i _ hi => ?_), k0.trans a5 (fun _ _ e => e)⟩
    · simp [World.cell?, a3, cellI]
    · rcases hi.1 with hi | hi
      · exact Or.inl hi
      · exact Or.inr (by simp at hi; omega)
  generalize (T d (classN n)).1 = off at *
  generalize (T d (classN n)).2 = d2 at *
  clear h hG hF hcl h3 hcn
  go_enter Try.func13, Try.ntmps13
  go_wp2_with fail
  refine hA.mono ?_
  intro e w2 hp2
  obtain ⟨hh, _, rfl, hc, ht⟩ := hs0 _ _ _ _ _ _ hp2
  clear hA hs0 hp2
  go_wp2_with fail
  go_ret2
  exact ⟨rfl, ht⟩
end Go.Proofs.Ytmfmiaiijepgdaa
