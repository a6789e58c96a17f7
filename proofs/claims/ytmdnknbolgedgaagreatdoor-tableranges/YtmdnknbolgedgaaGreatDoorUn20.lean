import Derived.Test.YtmdnknbolgedgaaGreatDoorUn19
/-
  A table in an arena beside blocks of the statement's own.
-/
namespace Go.Proofs.YtmdnknbolgedgaaGreatDoor
open Go.RowKit Go.Shelf Ly Ct
set_option linter.unusedVariables false

structure SW (w wr : World) (p : Nat) (X : Nat → Prop) (l : Lay) (G : Nat) (d : AD) (f : Nat → Int) (c : Nat → GC) : Prop where
  own : Own w wr p X d
  fine : d.Fine
  small : d.small
  tab : TabD d l 16 80 G f c
  f4 : f 4 = ((8 * G : Nat) : Int)
  f7 : f 7 = ((80 : Nat) : Int)
  lt : ∀ q, X q → q < wr.heap.size
section
variable {w wr wr' : World} {p : Nat} {X : Nat → Prop} {l : Lay} {G : Nat} {d : AD} {f : Nat → Int} {c : Nat → GC}
theorem SW.stay (h : SW w wr p X l G d f c) (k : Keeps wr wr' (fun _ => False)) : SW w wr' p X l G d f c := ⟨h.own.stay k, h.fine, h.small, h.tab, h.f4, h.f7, fun q hq => Nat.lt_of_lt_of_le (h.lt q hq) k.size⟩
theorem SW.keep (h : SW w wr p X l G d f c) : Keeps w wr (fun _ => False) := h.own.keeps
/-- One block more is the statement's own. -/
theorem SW.box (h : SW w wr p X l G d f c) {B : Nat} (hB : wr.heap.size ≤ B) (k : Keeps wr wr' (fun _ => False)) (hl : B < wr'.heap.size) : SW w wr' p (fun q => X q ∨ q = B) l G d f c :=
  ⟨(⟨h.own.arena.mono (fun i hi e => ⟨e.1, fun x => x.elim e.2 (fun e' => by omega)⟩), h.own.keeps⟩ : Own w wr p (fun q => X q ∨ q = B) d).stay k, h.fine, h.small, h.tab, h.f4, h.f7, fun q hq => hq.elim (fun e => Nat.lt_of_lt_of_le (h.lt q e) k.size) (fun e => by omega)⟩
theorem SW.less (h : SW w wr p X l G d f c) {Y : Nat → Prop} (hY : ∀ q, Y q → X q) : SW w wr p Y l G d f c := ⟨h.own.less (fun k _ _ e => hY k e), h.fine, h.small, h.tab, h.f4, h.f7, fun q hq => h.lt q (hY q hq)⟩
/-- Behind a call on the table. -/
theorem SW.turn (h : SW w wr p X l G d f c) {f' : Nat → Int} {c' : Nat → GC} (ht : TabT wr wr' p (fun k => (w.heap.size ≤ k ∧ ¬ X k) ∧ k < wr.heap.size) d l 16 80 G f' c') (h4 : f' 4 = ((8 * G : Nat) : Int)) (h7 : f' 7 = ((80 : Nat) : Int)) : (∃ d', SW w wr' p X l G d' f' c') ∧ ∀ q, X q → wr'.heap[q]? = wr.heap[q]? := by
  obtain ⟨d', hTu, hAl, hD'⟩ := ht
  exact ⟨⟨d', h.own.turn hTu h.lt, hAl.fine h.fine, hAl.small h.small, hD', h4, h7, fun q hq => Nat.lt_of_lt_of_le (h.lt q hq) hTu.2.size⟩, fun q hq => Own.rest hTu (h.lt q hq) (Or.inl hq)⟩
theorem BM.sw {b : Nat} {fs ts hs lv : Value} {L : List LifeD} {ad : Nat} (h : BM w wr b p l G fs ts hs lv L ad d f c) : SW w wr p (fun q => q = b ∨ lv.ownBlock = some q) l G d f c := ⟨h.own, h.fine, h.small, h.tab, h.f4, h.f7, h.lt⟩
theorem sw_stat (h : SW w wr p X l G d f c) : Calls Tryz.prog 23 #[.agg #[.pointer (some ⟨p, 0, none⟩), .int .i64 l.k, .int .i64 l.e, .int .i64 l.a, .int .i64 l.b, .int .i64 l.c, .int .i64 l.eo, .int .i64 l.bo, .int .i64 l.s, .int .i64 l.g, .int .i64 (16 : Int)]] wr fun e w' => e = .returned (.tuple #[.agg #[.int .i64 (f 3), .int .i64 (f 4), .int .i64 (f 5), .int .i64 (f 6), .int .i64 (f 1), .int .i64 (f 2), .bool (f 0 == 4), .int .i64 (f 7)], .int .i64 0]) ∧ Keeps wr w' (fun _ => False) := tstat_tab h.own.here h.fine h.tab
/-- A key that is there is deleted, a new one of its hash is put. -/
theorem sw_swap (h : SW w wr p X l G d f c) {hs : ByteArray → Nat} {L : List LifeD} {ad j : Nat} (tie : LTie c G f hs L ad) (hj : j ≤ 7) (hG : G = 2 ^ j) (hT : TabAt w) {i : Nat} (hi : i < L.length) (hH : L[i].hash < 18446744073709551616) (hk : (L[i].key.size : Int) = l.k) {K E : ByteArray} (hK : ∀ x, x ∈ L → x.key ≠ K) (hKs : (K.size : Int) = l.k) (hEs : (E.size : Int) = l.e) :
    ∃ (n : Nat) (f1 f2 : Nat → Int) (c1 c2 : Nat → GC) (n2 : Nat),
      (∀ W, Keeps wr W (fun _ => False) → Calls Tryz.prog 13 #[.agg #[.pointer (some ⟨p, 0, none⟩), .int .i64 l.k, .int .i64 l.e, .int .i64 l.a, .int .i64 l.b, .int .i64 l.c, .int .i64 l.eo, .int .i64 l.bo, .int .i64 l.s, .int .i64 l.g, .int .i64 (16 : Int)], .int .u64 (L[i].hash : Int), .string L[i].key] W fun e w' => e = .returned (.tuple #[.int .i64 (n : Int), .int .i64 0]) ∧ Keeps W w' (fun _ => False)) ∧
      (∀ W Y, SW w W p Y l G d f c → Calls Tryz.prog 29 #[.agg #[.pointer (some ⟨p, 0, none⟩), .int .i64 l.k, .int .i64 l.e, .int .i64 l.a, .int .i64 l.b, .int .i64 l.c, .int .i64 l.eo, .int .i64 l.bo, .int .i64 l.s, .int .i64 l.g, .int .i64 (16 : Int)], .int .u64 (L[i].hash : Int), .string L[i].key] W fun e w' => e = .returned (.tuple #[.bool true, .int .i64 0]) ∧ (∃ d', SW w w' p Y l G d' f1 c1) ∧ ∀ q, Y q → w'.heap[q]? = W.heap[q]?) ∧
      (∀ W Y d', SW w W p Y l G d' f1 c1 → Calls Tryz.prog 15 #[.agg #[.pointer (some ⟨p, 0, none⟩), .int .i64 l.k, .int .i64 l.e, .int .i64 l.a, .int .i64 l.b, .int .i64 l.c, .int .i64 l.eo, .int .i64 l.bo, .int .i64 l.s, .int .i64 l.g, .int .i64 (16 : Int)], .int .u64 (L[i].hash : Int), .string K, .string E, .int .i64 7] W fun e w' => e = .returned (.tuple #[.int .i64 2, .int .i64 0]) ∧ (∃ d', SW w w' p Y l G d' f2 c2) ∧ ∀ q, Y q → w'.heap[q]? = W.heap[q]?) ∧
      (∀ W Y d', SW w W p Y l G d' f2 c2 → Calls Tryz.prog 13 #[.agg #[.pointer (some ⟨p, 0, none⟩), .int .i64 l.k, .int .i64 l.e, .int .i64 l.a, .int .i64 l.b, .int .i64 l.c, .int .i64 l.eo, .int .i64 l.bo, .int .i64 l.s, .int .i64 l.g, .int .i64 (16 : Int)], .int .u64 (L[i].hash : Int), .string K] W fun e w' => e = .returned (.tuple #[.int .i64 (n2 : Int), .int .i64 0]) ∧ Keeps W w' (fun _ => False)) ∧
      n2 ≤ n ∧ f2 3 = f 3 ∧ (f2 5 = f 5 ∨ f2 5 = f 5 + 1) ∧ -100000 ≤ f 5 ∧ f 5 ≤ 100000 := by
  have hG128 : 0 < G ∧ G ≤ 128 := by
    rw [hG]
    exact ⟨Nat.two_pow_pos j, Nat.pow_le_pow_right (by decide) hj⟩
  obtain ⟨g0, g1⟩ := hG128
  have hfew := tie.few
  have hu := tie.used
  have hl := tie.left
  have hps := tie.pos
  have hcn := cntC_le notEmp c (8 * G)
  have hmore := cntC_le notEmp c (8 * G)
  obtain ⟨n, v0, hs1, v, hs2, hv2, hv8, hem, hpr⟩ := tie.swap hG hi hK
  have hnK : ∀ (W : World) (q : Keeps w W (fun _ => False)), TabAt W := fun W q => hT.kp (q.below (Nat.le_refl _) (fun _ _ e => e))
  have hfd : ∀ q, q ≠ 3 → q ≠ 5 → updI (if empG c (L[i].slot.toNat / 8) then updI f 5 (f 5 + 1) else f) 3 (f 3 - 1) q = f q := fun q q3 q5 => by
    unfold updI
    rw [if_neg q3]
    split
    · exact if_neg q5
    · rfl
  have hf13 : updI (if empG c (L[i].slot.toNat / 8) then updI f 5 (f 5 + 1) else f) 3 (f 3 - 1) 3 = f 3 - 1 := by
    unfold updI
    rw [if_pos rfl]
  have hf15 : updI (if empG c (L[i].slot.toNat / 8) then updI f 5 (f 5 + 1) else f) 3 (f 3 - 1) 5 = if empG c (L[i].slot.toNat / 8) then f 5 + 1 else f 5 := by
    unfold updI
    rw [if_neg (by decide)]
    split
    · exact if_pos rfl
    · rfl
  obtain ⟨f1, hf1⟩ : ∃ f1, f1 = updI (if empG c (L[i].slot.toNat / 8) then updI f 5 (f 5 + 1) else f) 3 (f 3 - 1) := ⟨_, rfl⟩
  rw [← hf1] at hfd hf13 hf15
  obtain ⟨c1, hc1⟩ : ∃ c1, c1 = updN c L[i].slot.toNat (if empG c (L[i].slot.toNat / 8) then GC.zero else GC.gone) := ⟨_, rfl⟩
  rw [← hc1] at hs2 hv2 hem hpr
  obtain ⟨em, hemd⟩ : ∃ em, decide ((c1 v).kind = 0) = em := ⟨_, rfl⟩
  have hl5 : em = true → 0 < f1 5 := fun q => by
    rw [q] at hemd
    rw [hf15, if_pos (hem (of_decide_eq_true hemd))]
    omega
  have hb5 : -1 ≤ f1 5 ∧ f1 5 ≤ 1000 := by
    rw [hf15]
    split <;> omega
  have hfp : ∀ q, q ≠ 3 → q ≠ 5 → updI (if em then updI f1 5 (f1 5 - 1) else f1) 3 (f1 3 + 1) q = f1 q := fun q q3 q5 => by
    unfold updI
    rw [if_neg q3]
    split
    · exact if_neg q5
    · rfl
  refine ⟨n, f1, updI (if em then updI f1 5 (f1 5 - 1) else f1) 3 (f1 3 + 1), c1, updN c1 v (GC.full ((L[i].hash : Int) % 128) K E 7), _, fun W q => ?_, fun W Y hW => ?_, fun W Y d' hW => ?_, fun W Y d' hW => ?_, hpr E 7, ?_, ?_, by omega, by omega⟩
  · have hS := h.stay q
    have := tprobes_yes hS.own.here hS.fine hS.tab hS.f4 hS.f7 j (by omega) hG (hnK W hS.keep) L[i].hash hH L[i].key hk
    rw [hs1] at this
    exact this
  · have := tdelete_yes hW.own.here hW.fine (fun _ q => q.2) hW.tab hW.f4 hW.f7 j (by omega) hG (hnK W hW.keep) L[i].hash hH L[i].key hk L[i].slot.toNat (by rw [hs1]) (empG c (L[i].slot.toNat / 8)) rfl (by omega) (by omega) (by omega) (by omega)
    rw [← hf1, ← hc1] at this
    refine this.mono ?_
    rintro e w' ⟨rfl, hTT⟩
    exact ⟨rfl, hW.turn hTT ((hfd 4 (by decide) (by decide)).trans h.f4) ((hfd 7 (by decide) (by decide)).trans h.f7)⟩
  · have := tput_new hW.own.here hW.fine hW.small (fun _ q => q.2) hW.tab hW.f4 hW.f7 j (by omega) hG (hnK W hW.keep) L[i].hash hH K hKs E hEs 7 (by omega) hs2 v hv2 em hemd hl5 (by omega) (by omega) (by omega) (by omega) (by omega)
    refine this.mono ?_
    rintro e w' ⟨rfl, hTT⟩
    exact ⟨rfl, hW.turn hTT ((hfp 4 (by decide) (by decide)).trans hW.f4) ((hfp 7 (by decide) (by decide)).trans hW.f7)⟩
  · exact tprobes_yes hW.own.here hW.fine hW.tab hW.f4 hW.f7 j (by omega) hG (hnK W hW.keep) L[i].hash hH K hKs
  · unfold updI
    rw [if_pos rfl, hf13]
    omega
  · have e5 : updI (if em then updI f1 5 (f1 5 - 1) else f1) 3 (f1 3 + 1) 5 = if em then f1 5 - 1 else f1 5 := by
      unfold updI
      rw [if_neg (by decide)]
      split
      · exact if_pos rfl
      · rfl
    rw [e5]
    cases em
    · rw [if_neg (by decide), hf15]
      split
      · right; rfl
      · left; rfl
    · have := hem (of_decide_eq_true hemd)
      rw [if_pos rfl, hf15, if_pos this]
      left
      omega
end
end Go.Proofs.YtmdnknbolgedgaaGreatDoor
