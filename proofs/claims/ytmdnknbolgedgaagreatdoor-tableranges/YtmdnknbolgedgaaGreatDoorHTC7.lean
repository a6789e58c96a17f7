/-
  TB7 beside the pointer's box. (made by gentc.py)
-/
import Derived.Test.YtmdnknbolgedgaaGreatDoorHTC8
namespace Go.Proofs.YtmdnknbolgedgaaGreatDoor
open Go.RowKit Go.Shelf Ly Ct
set_option linter.unusedVariables false
set_option linter.unusedSectionVars false
namespace Bx
variable [BoxNo]
section
variable {w wr : World} {b p : Nat} {l : Lay} {G j g o nh hc : Nat} {hv : Nat → Nat} {fs ts lv : Value} {L : List LifeD} {ad : Nat} {d : AD} {f : Nat → Int} {c : Nat → GC}
theorem BM.tabs (h : BM w wr b p l G fs ts (.slice (some ⟨g, o, none⟩) nh hc) lv L ad d f c) (P : PlanAt w l G j g o nh hv) : TabAt wr := P.tabs.kp (h.own.keeps.below (Nat.le_refl _) (fun _ _ e => e))
theorem bm_key (h : BM w wr b p l G fs ts (.slice (some ⟨g, o, none⟩) nh hc) lv L ad d f c) (P : PlanAt w l G j g o nh hv) (n : Int) (hn : fitsI n) :
    Calls Tryz.prog 49 #[.pointer (some ⟨b, 0, none⟩), .int .i64 n] wr fun e w' => e = .returned (.tuple #[.string (keyT l n), .int .u64 ((hsT hv nh (keyT l n) : Nat) : Int)]) ∧ Keeps wr w' (fun _ => False) := by
  have hvm := valid_more h.tab.valid
  have h1 : wr.cell? ⟨b, 1, none⟩ = some (.int .i64 l.k) := by simp only [World.cell?, h.blk]; rfl
  have h23 : wr.cell? ⟨b, 23, none⟩ = some (.slice (some ⟨g, o, none⟩) nh hc) := by simp only [World.cell?, h.blk]; rfl
  have := bkey_any b g o nh hc l.k (fun i => ((hv i : Nat) : Int)) n wr hn (by omega) (by omega) h1 h23 P.pos P.few (fun i hi => keeps_cell h.own.keeps id (P.hash i hi))
  refine this.mono ?_
  rintro e w' ⟨rfl, k⟩
  refine ⟨?_, k⟩
  have e1 : hsT hv nh (keyT l n) = hv (hasN n l.k nh) := hsT_key (by omega)
  rw [e1]
  rfl
theorem bm_place (h : BM w wr b p l G fs ts (.slice (some ⟨g, o, none⟩) nh hc) lv L ad d f c) (hfew : L.length ≤ 1024) (K : ByteArray) :
    Calls Tryz.prog 50 #[.pointer (some ⟨b, 0, none⟩), .string K] wr fun e w' => e = .returned (.int .i64 (placeL K L 0)) ∧ Keeps wr w' (fun _ => False) := by
  obtain ⟨a, ca, e, h1, -⟩ := h.lives
  have h25 : wr.cell? ⟨b, 25, none⟩ = some lv := by simp only [World.cell?, h.blk]; rfl
  rw [e] at h25
  exact place_law b a ca L K wr (by omega) h25 h1
variable (h : BM w wr b p l G fs ts (.slice (some ⟨g, o, none⟩) nh hc) lv L ad d f c) (P : PlanAt w l G j g o nh hv) {M : List LifeD} {am : Nat} (tie : LTie c G f (hsT hv nh) M am) {K : ByteArray} (hK : (K.size : Int) = l.k)
include h P tie hK
theorem bm_get_no (hno : ∀ x, x ∈ M → x.key ≠ K) : Calls Tryz.prog 56 #[.agg #[.pointer (some ⟨p, 0, none⟩), .int .i64 l.k, .int .i64 l.e, .int .i64 l.a, .int .i64 l.b, .int .i64 l.c, .int .i64 l.eo, .int .i64 l.bo, .int .i64 l.s, .int .i64 l.g, .int .i64 (16 : Int)], .int .u64 ((hsT hv nh K : Nat) : Int), .string K] wr fun e w' => e = .returned (.tuple #[.agg #[.int .i64 0, .int .i64 0, .string ByteArray.empty, .string ByteArray.empty, .int .i64 0], .int .i64 0]) ∧ Keeps wr w' (fun _ => False) := by
  obtain ⟨g0, g1⟩ := P.le
  have hj := P.hj
  have := tget_yes h.own.here h.fine h.tab h.f4 h.f7 j (by omega) P.hG (h.tabs P) (hsT hv nh K) (P.word _) K hK
  rw [absent (fun i hi => Pb.metN_lt g0) (tie.absent hno)] at this
  exact this
theorem bm_find_no (hno : ∀ x, x ∈ M → x.key ≠ K) : Calls Tryz.prog 16 #[.agg #[.pointer (some ⟨p, 0, none⟩), .int .i64 l.k, .int .i64 l.e, .int .i64 l.a, .int .i64 l.b, .int .i64 l.c, .int .i64 l.eo, .int .i64 l.bo, .int .i64 l.s, .int .i64 l.g, .int .i64 (16 : Int)], .int .u64 ((hsT hv nh K : Nat) : Int), .string K] wr fun e w' => e = .returned (.tuple #[.int .i64 (-1), .int .i64 0]) ∧ Keeps wr w' (fun _ => False) := by
  obtain ⟨g0, g1⟩ := P.le
  have hj := P.hj
  have := tfind_yes h.own.here h.fine h.tab h.f4 h.f7 j (by omega) P.hG (h.tabs P) (hsT hv nh K) (P.word _) K hK
  rw [absent (fun i hi => Pb.metN_lt g0) (tie.absent hno)] at this
  exact this
theorem bm_delete_no (hno : ∀ x, x ∈ M → x.key ≠ K) : Calls Tryz.prog 29 #[.agg #[.pointer (some ⟨p, 0, none⟩), .int .i64 l.k, .int .i64 l.e, .int .i64 l.a, .int .i64 l.b, .int .i64 l.c, .int .i64 l.eo, .int .i64 l.bo, .int .i64 l.s, .int .i64 l.g, .int .i64 (16 : Int)], .int .u64 ((hsT hv nh K : Nat) : Int), .string K] wr fun e w' => e = .returned (.tuple #[.bool false, .int .i64 0]) ∧ Keeps wr w' (fun _ => False) := by
  obtain ⟨g0, g1⟩ := P.le
  have hj := P.hj
  exact tdelete_no h.own.here h.fine h.tab h.f4 h.f7 j (by omega) P.hG (h.tabs P) (hsT hv nh K) (P.word _) K hK (absent (fun i hi => Pb.metN_lt g0) (tie.absent hno))
theorem bm_get_yes {i : Nat} (hi : i < M.length) (hk : M[i].key = K) : Calls Tryz.prog 56 #[.agg #[.pointer (some ⟨p, 0, none⟩), .int .i64 l.k, .int .i64 l.e, .int .i64 l.a, .int .i64 l.b, .int .i64 l.c, .int .i64 l.eo, .int .i64 l.bo, .int .i64 l.s, .int .i64 l.g, .int .i64 (16 : Int)], .int .u64 ((hsT hv nh K : Nat) : Int), .string K] wr fun e w' => e = .returned (.tuple #[.agg #[.int .i64 2, .int .i64 (((hsT hv nh K : Nat) : Int) % 128), .string K, .string M[i].elem, .int .i64 M[i].birth], .int .i64 0]) ∧ Keeps wr w' (fun _ => False) := by
  obtain ⟨g0, g1⟩ := P.le
  have hj := P.hj
  have := tget_yes h.own.here h.fine h.tab h.f4 h.f7 j (by omega) P.hG (h.tabs P) (hsT hv nh K) (P.word _) K hK
  obtain ⟨n, v, hs⟩ := tie.there P.hG (List.getElem_mem hi)
  obtain ⟨p1, p2, p3, p4⟩ := tie.life _ (List.getElem_mem hi)
  rw [hk] at hs p3 p4
  rw [hs] at this
  have e : slotC c (some M[i].slot.toNat) = GC.full (((hsT hv nh K : Nat) : Int) % 128) K M[i].elem M[i].birth := by
    show c _ = _
    rw [p3, p4]
  dsimp only at this
  rw [e] at this
  exact this
theorem bm_find_yes {i : Nat} (hi : i < M.length) (hk : M[i].key = K) : Calls Tryz.prog 16 #[.agg #[.pointer (some ⟨p, 0, none⟩), .int .i64 l.k, .int .i64 l.e, .int .i64 l.a, .int .i64 l.b, .int .i64 l.c, .int .i64 l.eo, .int .i64 l.bo, .int .i64 l.s, .int .i64 l.g, .int .i64 (16 : Int)], .int .u64 ((hsT hv nh K : Nat) : Int), .string K] wr fun e w' => e = .returned (.tuple #[.int .i64 M[i].slot, .int .i64 0]) ∧ Keeps wr w' (fun _ => False) := by
  obtain ⟨g0, g1⟩ := P.le
  have hj := P.hj
  have := tfind_yes h.own.here h.fine h.tab h.f4 h.f7 j (by omega) P.hG (h.tabs P) (hsT hv nh K) (P.word _) K hK
  obtain ⟨n, v, hs⟩ := tie.there P.hG (List.getElem_mem hi)
  obtain ⟨p1, p2, p3, p4⟩ := tie.life _ (List.getElem_mem hi)
  rw [hk] at hs
  rw [hs] at this
  have e : optI (some M[i].slot.toNat) = M[i].slot := by
    show ((M[i].slot.toNat : Nat) : Int) = _
    omega
  dsimp only at this
  rw [e] at this
  exact this
/-- A key that is there is deleted. -/
theorem bm_delete_yes {i : Nat} (hi : i < M.length) (hk : M[i].key = K) : Calls Tryz.prog 29 #[.agg #[.pointer (some ⟨p, 0, none⟩), .int .i64 l.k, .int .i64 l.e, .int .i64 l.a, .int .i64 l.b, .int .i64 l.c, .int .i64 l.eo, .int .i64 l.bo, .int .i64 l.s, .int .i64 l.g, .int .i64 (16 : Int)], .int .u64 ((hsT hv nh K : Nat) : Int), .string K] wr fun e w' => e = .returned (.tuple #[.bool true, .int .i64 0]) ∧ ∃ d' f' c', BM w w' b p l G fs ts (.slice (some ⟨g, o, none⟩) nh hc) lv L ad d' f' c' ∧ LTie c' G f' (hsT hv nh) (M.take i ++ M.drop (i + 1)) am ∧ ∀ q, q ≠ 3 → q ≠ 5 → f' q = f q := by
  obtain ⟨g0, g1⟩ := P.le
  have hj := P.hj
  have hfew := tie.few
  have hu := tie.used
  have hl := tie.left
  have hps := tie.pos
  have hcn := cntC_le notEmp c (8 * G)
  obtain ⟨n, v, hs⟩ := tie.there P.hG (List.getElem_mem hi)
  obtain ⟨p1, p2, p3, p4⟩ := tie.life _ (List.getElem_mem hi)
  rw [hk] at hs
  have := tdelete_yes h.own.here h.fine (fun _ q => q.2) h.tab h.f4 h.f7 j (by omega) P.hG (h.tabs P) (hsT hv nh K) (P.word _) K hK M[i].slot.toNat (by rw [hs]) (empG c (M[i].slot.toNat / 8)) rfl (by omega) (by omega) (by omega) (by omega)
  refine this.mono ?_
  rintro e w' ⟨rfl, hT⟩
  refine ⟨rfl, ?_⟩
  have hf : ∀ q, q ≠ 3 → q ≠ 5 → updI (if empG c (M[i].slot.toNat / 8) then updI f 5 (f 5 + 1) else f) 3 (f 3 - 1) q = f q := fun q q3 q5 => by
    unfold updI
    rw [if_neg q3]
    split
    · exact if_neg q5
    · rfl
  obtain ⟨d', hB⟩ := h.turn hT ((hf 4 (by decide) (by decide)).trans h.f4) ((hf 7 (by decide) (by decide)).trans h.f7)
  refine ⟨d', _, _, hB, tie.gone hi ?_ ?_, hf⟩
  · unfold updI
    rw [if_pos rfl]
  · unfold updI
    rw [if_neg (by decide)]
    split
    · exact if_pos rfl
    · rfl
variable {E : ByteArray} (hE : (E.size : Int) = l.e) (birth : Nat) (hbi : birth ≤ 9223372036854775807)
include hE hbi
/-- A key that is there: its elem is replaced. -/
theorem bm_put_old {i : Nat} (hi : i < M.length) (hk : M[i].key = K) : Calls Tryz.prog 15 #[.agg #[.pointer (some ⟨p, 0, none⟩), .int .i64 l.k, .int .i64 l.e, .int .i64 l.a, .int .i64 l.b, .int .i64 l.c, .int .i64 l.eo, .int .i64 l.bo, .int .i64 l.s, .int .i64 l.g, .int .i64 (16 : Int)], .int .u64 ((hsT hv nh K : Nat) : Int), .string K, .string E, .int .i64 (birth : Int)] wr fun e w' => e = .returned (.tuple #[.int .i64 1, .int .i64 0]) ∧ ∃ d' c', BM w w' b p l G fs ts (.slice (some ⟨g, o, none⟩) nh hc) lv L ad d' f c' ∧ LTie c' G f (hsT hv nh) (M.set i { M[i] with elem := E }) am := by
  obtain ⟨g0, g1⟩ := P.le
  have hj := P.hj
  obtain ⟨n, v, hs⟩ := tie.there P.hG (List.getElem_mem hi)
  rw [hk] at hs
  have := tput_old h.own.here h.fine h.small (fun _ q => q.2) h.tab h.f4 h.f7 j (by omega) P.hG (h.tabs P) (hsT hv nh K) (P.word _) K hK E hE (birth : Int) (by omega) M[i].slot.toNat (by rw [hs])
  refine this.mono ?_
  rintro e w' ⟨rfl, hT⟩
  obtain ⟨d', hB⟩ := h.turn hT h.f4 h.f7
  exact ⟨rfl, d', _, hB, tie.old hi E⟩
/-- A new key: it is laid into a slot, or there is no room, where so many were added as the table may hold. -/
theorem bm_put_no (hno : ∀ x, x ∈ M → x.key ≠ K) : Calls Tryz.prog 15 #[.agg #[.pointer (some ⟨p, 0, none⟩), .int .i64 l.k, .int .i64 l.e, .int .i64 l.a, .int .i64 l.b, .int .i64 l.c, .int .i64 l.eo, .int .i64 l.bo, .int .i64 l.s, .int .i64 l.g, .int .i64 (16 : Int)], .int .u64 ((hsT hv nh K : Nat) : Int), .string K, .string E, .int .i64 (birth : Int)] wr fun e w' => (e = .returned (.tuple #[.int .i64 3, .int .i64 0]) ∧ 7 * G ≤ am ∧ Keeps wr w' (fun _ => False)) ∨ (e = .returned (.tuple #[.int .i64 2, .int .i64 0]) ∧ ∃ d' f' c' v, BM w w' b p l G fs ts (.slice (some ⟨g, o, none⟩) nh hc) lv L ad d' f' c' ∧ LTie c' G f' (hsT hv nh) (M ++ [⟨K, E, hsT hv nh K, (birth : Int), ((v : Nat) : Int)⟩]) (am + 1) ∧ v < 8 * G ∧ ∀ q, q ≠ 3 → q ≠ 5 → f' q = f q) := by
  obtain ⟨g0, g1⟩ := P.le
  have hj := P.hj
  have hfew := tie.few
  have hu := tie.used
  have hl := tie.left
  have hps := tie.pos
  have hcn := cntC_le notEmp c (8 * G)
  have hs := absent (c := c) (G := G) (tag := ((hsT hv nh K : Nat) : Int) % 128) (key := K) (m := Pb.metN (hsT hv nh K / 128) G) (fun i hi => Pb.metN_lt g0) (tie.absent hno)
  cases hvac : (srchT c (((hsT hv nh K : Nat) : Int) % 128) K (Pb.metN (hsT hv nh K / 128) G) G).vac with
  | none => exact (tie.noroom P.hG hs hvac).elim
  | some v =>
    have hw := srch_way hvac
    obtain ⟨hv8, hv2⟩ := srch_vac (fun i hi => Pb.metN_lt g0) hvac
    by_cases h0 : (c v).kind = 0 ∧ f 5 ≤ 0
    · have := tput_full h.own.here h.fine h.tab h.f4 h.f7 j (by omega) P.hG (h.tabs P) (hsT hv nh K) (P.word _) K hK E hE (birth : Int) (by omega) hs v hvac h0.1 h0.2
      refine this.mono ?_
      rintro e w' ⟨rfl, k⟩
      exact Or.inl ⟨rfl, tie.most h0.2, k⟩
    · obtain ⟨em, hem⟩ : ∃ em, decide ((c v).kind = 0) = em := ⟨_, rfl⟩
      have hl5 : em = true → 0 < f 5 := fun q => by
        rw [q] at hem
        have := of_decide_eq_true hem
        rcases Int.lt_or_le 0 (f 5) with z | z
        · exact z
        · exact absurd ⟨this, z⟩ h0
      have := tput_new h.own.here h.fine h.small (fun _ q => q.2) h.tab h.f4 h.f7 j (by omega) P.hG (h.tabs P) (hsT hv nh K) (P.word _) K hK E hE (birth : Int) (by omega) hs v hvac em hem hl5 (by omega) (by omega) (by omega) (by omega) (by omega)
      refine this.mono ?_
      rintro e w' ⟨rfl, hT⟩
      refine Or.inr ⟨rfl, ?_⟩
      have hf : ∀ q, q ≠ 3 → q ≠ 5 → updI (if em then updI f 5 (f 5 - 1) else f) 3 (f 3 + 1) q = f q := fun q q3 q5 => by
        unfold updI
        rw [if_neg q3]
        split
        · exact if_neg q5
        · rfl
      obtain ⟨d', hB⟩ := h.turn hT ((hf 4 (by decide) (by decide)).trans h.f4) ((hf 7 (by decide) (by decide)).trans h.f7)
      refine ⟨d', _, _, v, hB, tie.more hv8 hv2 hw hno em hem hl5 ?_ ?_, hv8, hf⟩
      · unfold updI
        rw [if_pos rfl]
      · unfold updI
        rw [if_neg (by decide)]
        split
        · exact if_pos rfl
        · rfl
end
end Bx
end Go.Proofs.YtmdnknbolgedgaaGreatDoor
