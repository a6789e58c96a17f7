/-
  Pins, Retire, SetNext, the header's kind, beside blocks of the statement's own.
-/
import Derived.Test.YtmdnknbolgedgaaGreatDoorUn20
namespace Go.Proofs.YtmdnknbolgedgaaGreatDoor
open Go.RowKit Go.Shelf Ly Ct
set_option linter.unusedVariables false

theorem toff_any (p : Nat) (l : Lay) (off : Int) (w : World) : Calls Tryz.prog 25 #[.agg #[.pointer (some ⟨p, 0, none⟩), .int .i64 l.k, .int .i64 l.e, .int .i64 l.a, .int .i64 l.b, .int .i64 l.c, .int .i64 l.eo, .int .i64 l.bo, .int .i64 l.s, .int .i64 l.g, .int .i64 off]] w fun e w' => e = .returned (.int .i64 off) ∧ Keeps w w' (fun _ => False) := by
  go_enter Tryz.func25, Tryz.ntmps25
  go_wp2_with fail
  go_ret
  exact ⟨rfl, by first | exact Keeps.refl _ _ | exact (Keeps.refl _ _).alloc _⟩
theorem LTie.head {c : Nat → GC} {G : Nat} {f f' : Nat → Int} {hs : ByteArray → Nat} {L : List LifeD} {ad : Nat} (h : LTie c G f hs L ad) (h3 : f' 3 = f 3) (h5 : f' 5 = f 5) : LTie c G f' hs L ad := ⟨h.inv, h.life, h.all, h.once, h3.trans h.used, h5.trans h.left, by rw [h5]; exact h.pos, h.add⟩
section
variable {w wr W' : World} {p : Nat} {X : Nat → Prop} {l : Lay} {G : Nat} {d d' : AD} {f f' : Nat → Int} {c c' : Nat → GC}
theorem HeadPost.tab {F : Nat → Prop} (h : HeadPost wr p F d l 16 80 G f' c W') : TabT wr W' p F d l 16 80 G f' c := by
  obtain ⟨d', h1, h2, h3, h4⟩ := h
  exact ⟨d', h1, Alt.head h4, h3⟩
/-- The Bench behind a call on the table, beside one block more. -/
theorem BM.ofSW {b B : Nat} {fs ts hs lv : Value} {L : List LifeD} {ad : Nat} (h : BM w wr b p l G fs ts hs lv L ad d f c) (hs' : SW w W' p (fun q => (q = b ∨ lv.ownBlock = some q) ∨ q = B) l G d' f' c') (hq : ∀ q, ((q = b ∨ lv.ownBlock = some q) ∨ q = B) → W'.heap[q]? = wr.heap[q]?) : BM w W' b p l G fs ts hs lv L ad d' f' c' :=
  ⟨(hq b (Or.inl (Or.inl rfl))).trans h.blk, row_kept8 h.row (fun q e => hq q (Or.inl (Or.inr e))), h.base, (hs'.less (fun q e => Or.inl e)).own, hs'.fine, hs'.small, hs'.tab, hs'.f4, hs'.f7⟩
theorem sw_pin_no (h : SW w wr p X l G d f c) (n : Int) (hn : fitsI n) (h0 : 0 ≤ f 1) (h62 : f 1 ≤ 4611686018427387904) (hno : n < -(f 1) ∨ 4611686018427387904 - f 1 < n) : Calls Tryz.prog 19 #[.agg #[.pointer (some ⟨p, 0, none⟩), .int .i64 l.k, .int .i64 l.e, .int .i64 l.a, .int .i64 l.b, .int .i64 l.c, .int .i64 l.eo, .int .i64 l.bo, .int .i64 l.s, .int .i64 l.g, .int .i64 (16 : Int)], .int .i64 n] wr fun e w' => e = .returned (.tuple #[.int .i64 0, .int .i64 83]) ∧ Keeps wr w' (fun _ => False) :=
  tpin_no h.own.here h.fine h.tab n hn h0 h62 hno
theorem sw_pin_yes (h : SW w wr p X l G d f c) (n : Int) (h0 : 0 ≤ f 1) (h62 : f 1 ≤ 4611686018427387904) (hlo : -(f 1) ≤ n) (hhi : n ≤ 4611686018427387904 - f 1) : Calls Tryz.prog 19 #[.agg #[.pointer (some ⟨p, 0, none⟩), .int .i64 l.k, .int .i64 l.e, .int .i64 l.a, .int .i64 l.b, .int .i64 l.c, .int .i64 l.eo, .int .i64 l.bo, .int .i64 l.s, .int .i64 l.g, .int .i64 (16 : Int)], .int .i64 n] wr fun e w' => e = .returned (.tuple #[.int .i64 (f 1 + n), .int .i64 0]) ∧ (∃ d', SW w w' p X l G d' (updI f 1 (f 1 + n)) c) ∧ ∀ q, X q → w'.heap[q]? = wr.heap[q]? := by
  refine (tpin_yes h.own.here h.fine (fun _ q => q.2) h.tab n h0 h62 hlo hhi).mono ?_
  rintro e w' ⟨rfl, hP⟩
  exact ⟨rfl, h.turn hP.tab h.f4 h.f7⟩
theorem sw_next (h : SW w wr p X l G d f c) (n : Int) (hn : fitsI n) : Calls Tryz.prog 21 #[.agg #[.pointer (some ⟨p, 0, none⟩), .int .i64 l.k, .int .i64 l.e, .int .i64 l.a, .int .i64 l.b, .int .i64 l.c, .int .i64 l.eo, .int .i64 l.bo, .int .i64 l.s, .int .i64 l.g, .int .i64 (16 : Int)], .int .i64 n] wr fun e w' => e = .returned (.int .i64 0) ∧ (∃ d', SW w w' p X l G d' (updI f 2 n) c) ∧ ∀ q, X q → w'.heap[q]? = wr.heap[q]? := by
  refine (tnext_any h.own.here h.fine (fun _ q => q.2) h.tab n hn).mono ?_
  rintro e w' ⟨rfl, hP⟩
  exact ⟨rfl, h.turn hP.tab h.f4 h.f7⟩
theorem sw_retire (h : SW w wr p X l G d f c) (n : Int) (hn : fitsI n) : Calls Tryz.prog 20 #[.agg #[.pointer (some ⟨p, 0, none⟩), .int .i64 l.k, .int .i64 l.e, .int .i64 l.a, .int .i64 l.b, .int .i64 l.c, .int .i64 l.eo, .int .i64 l.bo, .int .i64 l.s, .int .i64 l.g, .int .i64 (16 : Int)], .int .i64 n] wr fun e w' => e = .returned (.int .i64 0) ∧ (∃ d', SW w w' p X l G d' (updI (updI f 2 n) 0 4) c) ∧ ∀ q, X q → w'.heap[q]? = wr.heap[q]? := by
  refine (tretire_any h.own.here h.fine (fun _ q => q.2) h.tab n hn).mono ?_
  rintro e w' ⟨rfl, hP⟩
  exact ⟨rfl, h.turn hP.tab h.f4 h.f7⟩
/-- The header's first word. -/
theorem sw_kind (h : SW w wr p X l G d f c) (kn : Nat) (hk : f 0 = (kn : Int)) (hkn : kn = 2 ∨ kn = 4) : Calls Tryz.prog 24 #[.pointer (some ⟨p, 0, none⟩), .int .i64 (16 : Int), .int .i64 8] wr fun e w' => e = .returned (.tuple #[.int .u64 (kn : Int), .int .i64 0]) ∧ Keeps wr w' (fun _ => False) := by
  obtain ⟨cc, hA, -⟩ := h.own.arena
  have hL := aload_any hA h.fine 16 8 (fitsI_mk (by omega) (by omega)) (fitsI_mk (by omega) (by omega))
  have hg8 := good_sub h.tab.good (x := 0) (m := 8) (by omega) (by omega) (by omega)
  have hh := h.tab.head 0 (by omega)
  have e1 : loadV d 16 8 = ((kn : Int), 0) := by
    unfold loadV
    have hg : d.goodB 16 8 = true := by simpa using hg8
    rw [show widthB 8 = true from rfl, hg]
    simp only [if_true]
    unfold hdr AD.span at hh
    rw [hk] at hh
    have hlt : numOf ((d.bs.drop 16).take 8) < 18446744073709551616 := by
      have h1 := numOf_lt ((d.bs.drop 16).take 8)
      have h2 : ((d.bs.drop 16).take 8).length ≤ 8 := by rw [List.length_take]; omega
      have h3 : 256 ^ ((d.bs.drop 16).take 8).length ≤ 256 ^ 8 := Nat.pow_le_pow_right (by decide) h2
      omega
    have hh' : wrap64 ((numOf ((d.bs.drop 16).take 8) : Nat) : Int) = (kn : Int) := hh
    have e2 : numOf ((d.bs.drop 16).take 8) = kn := by
      unfold wrap64 at hh'
      omega
    show ((((numOf ((d.bs.drop 16).take 8) : Nat) : Int), (0 : Int))) = _
    rw [e2]
  rw [e1] at hL
  exact hL
end
end Go.Proofs.YtmdnknbolgedgaaGreatDoor
