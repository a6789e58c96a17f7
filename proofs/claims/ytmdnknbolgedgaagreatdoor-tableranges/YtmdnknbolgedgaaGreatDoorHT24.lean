/-
  A table of which only the counts are known: Put and Delete keep them.
-/
import Derived.Test.YtmdnknbolgedgaaGreatDoorUn20
import Derived.Test.YtmdnknbolgedgaaGreatDoorHTM7
namespace Go.Proofs.YtmdnknbolgedgaaGreatDoor
open Go.RowKit Go.Shelf Ly Ct
set_option linter.unusedVariables false

/-- The header's counts are those of the cells. -/
structure WT (c : Nat → GC) (G : Nat) (f : Nat → Int) : Prop where
  used : f 3 = ((cntC isF c (8 * G) : Nat) : Int)
  left : f 5 = 7 * (G : Int) - ((cntC notEmp c (8 * G) : Nat) : Int)
  pos : 0 ≤ f 5
theorem LTie.wt {c : Nat → GC} {G : Nat} {f : Nat → Int} {hs : ByteArray → Nat} {L : List LifeD} {ad : Nat} (h : LTie c G f hs L ad) : WT c G f := ⟨by rw [h.used, h.fulls], h.left, h.pos⟩
section
variable {w W : World} {p : Nat} {Y : Nat → Prop} {l : Lay} {G j : Nat} {d : AD} {f : Nat → Int} {c : Nat → GC}
theorem sw_put (h : SW w W p Y l G d f c) (t : WT c G f) (hj : j ≤ 7) (hG : G = 2 ^ j) (hT : TabAt w) {H : Nat} (hH : H < 18446744073709551616) {K E : ByteArray} (hK : (K.size : Int) = l.k) (hE : (E.size : Int) = l.e) {birth : Int} (hb : 0 ≤ birth) (hb9 : birth ≤ 9223372036854775807) :
    Calls Tryz.prog 15 #[.agg #[.pointer (some ⟨p, 0, none⟩), .int .i64 l.k, .int .i64 l.e, .int .i64 l.a, .int .i64 l.b, .int .i64 l.c, .int .i64 l.eo, .int .i64 l.bo, .int .i64 l.s, .int .i64 l.g, .int .i64 (16 : Int)], .int .u64 (H : Int), .string K, .string E, .int .i64 birth] W fun e w' => (∃ r : Int, e = .returned (.tuple #[.int .i64 r, .int .i64 0])) ∧ (∃ d' f' c', SW w w' p Y l G d' f' c' ∧ WT c' G f') ∧ ∀ q, Y q → w'.heap[q]? = W.heap[q]? := by
  have g0 : 0 < G := by rw [hG]; exact Nat.two_pow_pos j
  have g1 : G ≤ 128 := by rw [hG]; exact Nat.pow_le_pow_right (by decide) hj
  have hTW : TabAt W := hT.kp (h.keep.below (Nat.le_refl _) (fun _ _ e => e))
  have hu := t.used
  have hl := t.left
  have hp := t.pos
  have hcF := cntC_le isF c (8 * G)
  have hcN := cntC_le notEmp c (8 * G)
  cases hs : (srchT c ((H : Int) % 128) K (Pb.metN (H / 128) G) G).slot with
  | some v =>
    obtain ⟨hv8, hv2, -⟩ := srch_slot (fun i hi => Pb.metN_lt g0) hs
    have := tput_old h.own.here h.fine h.small (fun _ q => q.2) h.tab h.f4 h.f7 j (by omega) hG hTW H hH K hK E hE birth hb v hs
    refine this.mono ?_
    rintro e w' ⟨rfl, hTT⟩
    obtain ⟨⟨d', hS⟩, hr⟩ := h.turn hTT h.f4 h.f7
    refine ⟨⟨1, rfl⟩, ⟨d', _, _, hS, ?_, ?_, hp⟩, hr⟩
    · rw [hu]
      have := cntC_upd isF c v { c v with elem := E } (8 * G) hv8
      rw [show isF { c v with elem := E } = isF (c v) from rfl] at this
      omega
    · rw [hl]
      have := cntC_upd notEmp c v { c v with elem := E } (8 * G) hv8
      rw [show notEmp { c v with elem := E } = notEmp (c v) from rfl] at this
      omega
  | none =>
    cases hvac : (srchT c ((H : Int) % 128) K (Pb.metN (H / 128) G) G).vac with
    | none =>
      exfalso
      have hf := srch_full hG hs hvac
      have hc : cntC notEmp c (8 * G) = 8 * G := cntC_all _ (fun s hs8 => decide_eq_true (by rw [hf s hs8]; decide))
      omega
    | some v =>
      obtain ⟨hv8, hv2⟩ := srch_vac (fun i hi => Pb.metN_lt g0) hvac
      by_cases h0 : (c v).kind = 0 ∧ f 5 ≤ 0
      · have := tput_full h.own.here h.fine h.tab h.f4 h.f7 j (by omega) hG hTW H hH K hK E hE birth hb hs v hvac h0.1 h0.2
        refine this.mono ?_
        rintro e w' ⟨rfl, k⟩
        exact ⟨⟨3, rfl⟩, ⟨d, f, c, h.stay k, t⟩, fun q hq => k.block q (h.lt q hq) id⟩
      · obtain ⟨em, hem⟩ : ∃ em, decide ((c v).kind = 0) = em := ⟨_, rfl⟩
        have hl5 : em = true → 0 < f 5 := fun q => by
          rw [q] at hem
          have := of_decide_eq_true hem
          rcases Int.lt_or_le 0 (f 5) with z | z
          · exact z
          · exact absurd ⟨this, z⟩ h0
        have := tput_new h.own.here h.fine h.small (fun _ q => q.2) h.tab h.f4 h.f7 j (by omega) hG hTW H hH K hK E hE birth hb hs v hvac em hem hl5 (by omega) (by omega) (by omega) (by omega) hb9
        refine this.mono ?_
        rintro e w' ⟨rfl, hTT⟩
        have hf : ∀ q, q ≠ 3 → q ≠ 5 → updI (if em then updI f 5 (f 5 - 1) else f) 3 (f 3 + 1) q = f q := fun q q3 q5 => by
          unfold updI
          rw [if_neg q3]
          split
          · exact if_neg q5
          · rfl
        obtain ⟨⟨d', hS⟩, hr⟩ := h.turn hTT ((hf 4 (by decide) (by decide)).trans h.f4) ((hf 7 (by decide) (by decide)).trans h.f7)
        have e3 : updI (if em then updI f 5 (f 5 - 1) else f) 3 (f 3 + 1) 3 = f 3 + 1 := by
          unfold updI
          rw [if_pos rfl]
        have e5 : updI (if em then updI f 5 (f 5 - 1) else f) 3 (f 3 + 1) 5 = if em then f 5 - 1 else f 5 := by
          unfold updI
          rw [if_neg (by decide)]
          split
          · exact if_pos rfl
          · rfl
        have cF := cntC_upd isF c v (GC.full ((H : Int) % 128) K E birth) (8 * G) hv8
        have cN := cntC_upd notEmp c v (GC.full ((H : Int) % 128) K E birth) (8 * G) hv8
        rw [show isF (GC.full ((H : Int) % 128) K E birth) = true from rfl, show isF (c v) = false from decide_eq_false hv2] at cF
        rw [show notEmp (GC.full ((H : Int) % 128) K E birth) = true from rfl, show notEmp (c v) = !em from by rw [← hem]; simp [notEmp]] at cN
        refine ⟨⟨2, rfl⟩, ⟨d', _, _, hS, ?_, ?_, ?_⟩, hr⟩
        · rw [e3, hu]
          simp at cF
          omega
        · rw [e5]
          cases em <;> simp at cN ⊢ <;> omega
        · rw [e5]
          cases em
          · simpa using hp
          · have := hl5 rfl
            simp
            omega
theorem sw_del (h : SW w W p Y l G d f c) (t : WT c G f) (hj : j ≤ 7) (hG : G = 2 ^ j) (hT : TabAt w) {H : Nat} (hH : H < 18446744073709551616) {K : ByteArray} (hK : (K.size : Int) = l.k) :
    Calls Tryz.prog 29 #[.agg #[.pointer (some ⟨p, 0, none⟩), .int .i64 l.k, .int .i64 l.e, .int .i64 l.a, .int .i64 l.b, .int .i64 l.c, .int .i64 l.eo, .int .i64 l.bo, .int .i64 l.s, .int .i64 l.g, .int .i64 (16 : Int)], .int .u64 (H : Int), .string K] W fun e w' => (∃ r : Bool, e = .returned (.tuple #[.bool r, .int .i64 0])) ∧ (∃ d' f' c', SW w w' p Y l G d' f' c' ∧ WT c' G f') ∧ ∀ q, Y q → w'.heap[q]? = W.heap[q]? := by
  have g0 : 0 < G := by rw [hG]; exact Nat.two_pow_pos j
  have g1 : G ≤ 128 := by rw [hG]; exact Nat.pow_le_pow_right (by decide) hj
  have hTW : TabAt W := hT.kp (h.keep.below (Nat.le_refl _) (fun _ _ e => e))
  have hu := t.used
  have hl := t.left
  have hp := t.pos
  have hcF := cntC_le isF c (8 * G)
  have hcN := cntC_le notEmp c (8 * G)
  cases hs : (srchT c ((H : Int) % 128) K (Pb.metN (H / 128) G) G).slot with
  | none =>
    have := tdelete_no h.own.here h.fine h.tab h.f4 h.f7 j (by omega) hG hTW H hH K hK hs
    refine this.mono ?_
    rintro e w' ⟨rfl, k⟩
    exact ⟨⟨false, rfl⟩, ⟨d, f, c, h.stay k, t⟩, fun q hq => k.block q (h.lt q hq) id⟩
  | some v =>
    obtain ⟨hv8, hv2, -⟩ := srch_slot (fun i hi => Pb.metN_lt g0) hs
    obtain ⟨em, hem⟩ : ∃ em, empG c (v / 8) = em := ⟨_, rfl⟩
    have := tdelete_yes h.own.here h.fine (fun _ q => q.2) h.tab h.f4 h.f7 j (by omega) hG hTW H hH K hK v hs em hem (by omega) (by omega) (by omega) (by omega)
    refine this.mono ?_
    rintro e w' ⟨rfl, hTT⟩
    have hf : ∀ q, q ≠ 3 → q ≠ 5 → updI (if em then updI f 5 (f 5 + 1) else f) 3 (f 3 - 1) q = f q := fun q q3 q5 => by
      unfold updI
      rw [if_neg q3]
      split
      · exact if_neg q5
      · rfl
    obtain ⟨⟨d', hS⟩, hr⟩ := h.turn hTT ((hf 4 (by decide) (by decide)).trans h.f4) ((hf 7 (by decide) (by decide)).trans h.f7)
    have e3 : updI (if em then updI f 5 (f 5 + 1) else f) 3 (f 3 - 1) 3 = f 3 - 1 := by
      unfold updI
      rw [if_pos rfl]
    have e5 : updI (if em then updI f 5 (f 5 + 1) else f) 3 (f 3 - 1) 5 = if em then f 5 + 1 else f 5 := by
      unfold updI
      rw [if_neg (by decide)]
      split
      · exact if_pos rfl
      · rfl
    have cF := cntC_upd isF c v (if em then GC.zero else GC.gone) (8 * G) hv8
    have cN := cntC_upd notEmp c v (if em then GC.zero else GC.gone) (8 * G) hv8
    rw [show isF (if em then GC.zero else GC.gone) = false from by cases em <;> rfl, show isF (c v) = true from decide_eq_true hv2] at cF
    rw [show notEmp (if em then GC.zero else GC.gone) = !em from by cases em <;> rfl, show notEmp (c v) = true from by simp [notEmp, hv2]] at cN
    refine ⟨⟨true, rfl⟩, ⟨d', _, _, hS, ?_, ?_, ?_⟩, hr⟩
    · rw [e3, hu]
      simp at cF
      omega
    · rw [e5]
      cases em <;> simp at cN ⊢ <;> omega
    · rw [e5]
      cases em
      · simpa using hp
      · simp
        omega
end
end Go.Proofs.YtmdnknbolgedgaaGreatDoor
