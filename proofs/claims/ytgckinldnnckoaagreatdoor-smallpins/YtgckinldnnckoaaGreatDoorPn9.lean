import Derived.Test.YtgckinldnnckoaaGreatDoorPn8
/-
  SetElem.
-/
namespace Go.Proofs.YtgckinldnnckoaaGreatDoor
open Go.RowKit Go.Shelf Ly Ct
set_option linter.unusedVariables false

theorem joined_one (e : ByteArray) : joined [e] = e.data.toList := by rw [joined_eq]; simp
theorem lens_one (e : ByteArray) : lens [e] = e.size := by simp [lens]
theorem texts_one {W : World} {b : Nat} {e : ByteArray} {t : TypeId} (h : W.heap[b]? = some (.cells #[.string e] t)) : TextsAt W (some ⟨b, 0, none⟩) [e] := by
  intro j hj
  have hj0 : j = 0 := by simp at hj; omega
  subst hj0
  exact ⟨b, 0, rfl, heap_lt h, by simp [World.cell?, h]⟩

set_option maxHeartbeats 4000000 in
theorem gsetElem_any {w : World} {p : Nat} {F : Nat → Prop} {d : AD} (hA : Arena w p F d) (hF : d.Fine) (hSm : d.small) (hFl : ∀ k, F k → k < w.heap.size) (l : Lay) (off i : Int) (el : ByteArray) (hel : el.size ≤ 140737488355328) (ho : fitsI off) (hn : fitsI l.g) :
    Calls Tryz.prog 61 #[.agg #[.pointer (some ⟨p, 0, none⟩), .int .i64 l.k, .int .i64 l.e, .int .i64 l.a, .int .i64 l.b, .int .i64 l.c, .int .i64 l.eo, .int .i64 l.bo, .int .i64 l.s, .int .i64 l.g, .int .i64 off], .int .i64 i, .string el] w fun e w' => ErrPost w p F (setElemG d l off i el).1 (setElemG d l off i el).2 e w' := by
  have hI := fun W => gslot_any i W
  have hnB : ¬ F w.heap.size := fun q => Nat.lt_irrefl _ (hFl _ q)
  have T1 := fun W (k : Keeps w W (fun _ => False)) => hide (hA.same k)
  by_cases hi : 0 ≤ i ∧ i < 8
  · rw [decide_eq_true hi] at hI
    by_cases he : (el.size : Int) = l.e
    · have hW := fun V (k : Keeps w V (fun _ => False)) => word_any (hA.keeps k (fun _ _ _ e => e)) hF l off ho hn
      unfold wordV at hW
      cases ht : thereB d l off
      · have hr : setElemG d l off i el = (24, d) := by unfold setElemG; rw [if_pos hi, if_pos he, ht]; rfl
        rw [hr]
        simp only [ht, Bool.false_eq_true, if_false] at hW
        go_enter Tryz.func61, Tryz.ntmps61
        go_wp2_with fail
        refine (hI _).mono ?_
        rintro r w1 ⟨rfl, rfl⟩
        go_wp2_with fail
        refine (hW _ ((Keeps.refl w (fun _ => False)).alloc _)).mono ?_
        rintro r w1 ⟨rfl, k1⟩
        have K1 : Keeps w w1 (fun _ => False) := ((Keeps.refl w (fun _ => False)).alloc _).trans k1 (fun _ _ e => e)
        have T1 := T1 _ K1
        clear hI hW k1 hA
        go_wp2_with fail
        go_ret
        exact ⟨rfl, T1.out⟩
      · simp only [ht, if_true] at hW
        obtain ⟨hv, hg, ho1, ho2, ho3⟩ := there_more hF ht
        have hvm := valid_more hv
        obtain ⟨n, rfl⟩ := Int.eq_ofNat_of_zero_le hi.1
        have hn8 : n < 8 := by omega
        have hm := mul_bound hi.1 hi.2 (s := l.s) (by omega) (by omega)
        have hMf := fun V => Ct.full_any (wordN d off) wordN_lt V
        have hHs := fun V => has_in (mk (fun x => decide (x < 128)) (wordN d off)) n hn8 V
        rw [hasM_mk _ _ hn8] at hHs
        have hE := fun W => elemAt_any l (n : Int) W
        rw [place_in hv hi.1 hi.2] at hE
        by_cases hb1 : byN (wordN d off) n < 128
        · rw [decide_eq_true hb1] at hHs
          have hge := good_sub hg (x := 8 + (n : Int) * l.s + l.eo) (m := l.e) (by omega) (by omega) (by omega)
          have hres : setElemG d l off n el = (0, d.bytes (splice d.bs (off + (8 + (n : Int) * l.s + l.eo)).toNat el.data.toList)) := by
            unfold setElemG
            rw [if_pos hi, if_pos he, if_pos ht, Int.toNat_natCast, if_pos hb1]
          rw [hres]
          have hwr : ∀ V b c (k : Keeps w V (fun _ => False)) (hc : 1 ≤ c) (t : TypeId), V.heap[b]? = some (.cells #[.string el] t) → Calls Tryz.prog 95 #[.pointer (some ⟨p, 0, none⟩), .int .i64 (off + (8 + (n : Int) * l.s + l.eo)), .slice (some ⟨b, 0, none⟩) 1 c] V fun e w' => ErrPost V p F 0 (d.bytes (splice d.bs (off + (8 + (n : Int) * l.s + l.eo)).toNat el.data.toList)) e w' := fun V b c k hc t hb => by
            have := awrite_any joinOK (hA.keeps k (fun _ _ _ e => e)) hF hSm (off + (8 + (n : Int) * l.s + l.eo)) (some ⟨b, 0, none⟩) c [el] (fitsI_mk (by omega) (by omega)) (by simp) (by simpa using hc) (by simpa using hel) (texts_one hb)
            have hW : writeR d (off + (8 + (n : Int) * l.s + l.eo)) [el] = (0, d.bytes (splice d.bs (off + (8 + (n : Int) * l.s + l.eo)).toNat el.data.toList)) := by
              unfold writeR
              rw [lens_one, joined_one, he, hge, decide_eq_true (show el.size ≤ 1048576 by omega)]
              rfl
            rw [hW] at this
            exact this
          generalize d.bytes (splice d.bs (off + (8 + (n : Int) * l.s + l.eo)).toNat el.data.toList) = d1 at *
          obtain ⟨ye, hye⟩ : ∃ y, 8 + (n : Int) * l.s + l.eo = y := ⟨_, rfl⟩
          have b1 : 0 ≤ ye := by omega
          have b2 : ye ≤ 5000 := by omega
          rw [hye] at hE hwr
          have v1 : IntKind.i64.wrap (off + ye) = off + ye := by rw [IntKind.wrap_i64]; omega
          unfold setV at hMf hHs
          generalize spread (mk (fun x => decide (x < 128)) (wordN d off)) = Z at *
          generalize wordN d off = WW at *
          clear hres hvm hge hye hm hg hv T1
          go_enter Tryz.func61, Tryz.ntmps61
          go_wp2_with fail
          refine (hI _).mono ?_
          rintro r w1 ⟨rfl, rfl⟩
          go_wp2_with fail
          refine alloc1 (P := fun W => Calls _ _ _ W _) fun W0 hb hz K0 => ?_
          refine (hW _ K0).mono ?_
          rintro r w1 ⟨rfl, k1⟩
          have K1 : Keeps w w1 (fun _ => False) := K0.trans k1 (fun _ _ e => e)
          have C1 := c11_of (k1.blk hb)
          have hz2 : w.heap.size < w1.heap.size := by have := k1.size; omega
          clear hI hW
          go_wp2_with fail
          refine (hMf _).mono ?_
          rintro r w2 ⟨rfl, k2⟩
          go_wp2_with fail
          refine (hHs _).mono ?_
          rintro r w3 ⟨rfl, k3⟩
          have K3 : Keeps w1 w3 (fun _ => False) := (Keeps.ofKp k2).trans (Keeps.ofKp k3) (fun _ _ e => e)
          have C3 := c11_keeps K3 id C1
          have K4 : Keeps w w3 (fun _ => False) := K1.trans K3 (fun _ _ e => e)
          clear hMf hHs
          go_wp2_with fail
          go_region_held3 (fun w' => w'.cell? ⟨w.heap.size, 0, none⟩ = some (.pointer (some ⟨p, 0, none⟩)) ∧ w'.cell? ⟨w.heap.size, 1, none⟩ = some (.int .i64 l.k) ∧ w'.cell? ⟨w.heap.size, 2, none⟩ = some (.int .i64 l.e) ∧ w'.cell? ⟨w.heap.size, 3, none⟩ = some (.int .i64 l.a) ∧ w'.cell? ⟨w.heap.size, 4, none⟩ = some (.int .i64 l.b) ∧ w'.cell? ⟨w.heap.size, 5, none⟩ = some (.int .i64 l.c) ∧ w'.cell? ⟨w.heap.size, 6, none⟩ = some (.int .i64 l.eo) ∧ w'.cell? ⟨w.heap.size, 7, none⟩ = some (.int .i64 l.bo) ∧ w'.cell? ⟨w.heap.size, 8, none⟩ = some (.int .i64 l.s) ∧ w'.cell? ⟨w.heap.size, 9, none⟩ = some (.int .i64 l.g) ∧ w'.cell? ⟨w.heap.size, 10, none⟩ = some (.int .i64 off)) (first | exact c11_drew C3 | exact c11_keeps T3.2 hnB (by assumption) | exact c11_keeps (Keeps.ofKp kE) id (by assumption) | exact c11_keeps ((Keeps.refl _ (fun _ => False)).alloc _) id (by assumption) | assumption)
            (first | (go_at_call 96; refine (hE _).mono ?_; rintro r wE ⟨rfl, kE⟩) | (go_at_call 95; refine (hwr _ _ _ ((K4.drew.trans (Keeps.ofKp kE) (fun _ _ e => e)).alloc _) (Nat.le_refl _) _ (heap_alloc_new _ _)).mono ?_; rintro r w5 ⟨rfl, T3⟩; have T9 : Hid (Turned w w5 p F d1) := hide (Turned.pre ((K4.drew.trans (Keeps.ofKp kE) (fun _ _ e => e)).alloc _) T3)) | (go_at_call 95; refine (hwr _ _ _ ((K4.drew.alloc _).trans (Keeps.ofKp kE) (fun _ _ e => e)) (Nat.le_refl _) _ ((Keeps.ofKp kE).blk (heap_alloc_new _ _))).mono ?_; rintro r w5 ⟨rfl, T3⟩; have T9 : Hid (Turned w w5 p F d1) := hide (Turned.pre ((K4.drew.alloc _).trans (Keeps.ofKp kE) (fun _ _ e => e)) T3)))
          all_goals clear T3 hwr
          all_goals go_wp2_with fail
          all_goals go_ret
          all_goals exact ⟨rfl, T9.out⟩
        · rw [decide_eq_false hb1] at hHs
          have hres : setElemG d l off n el = (65, d) := by
            unfold setElemG
            rw [if_pos hi, if_pos he, if_pos ht, Int.toNat_natCast, if_neg hb1]
          rw [hres]
          unfold setV at hMf hHs
          generalize spread (mk (fun x => decide (x < 128)) (wordN d off)) = Z at *
          generalize wordN d off = WW at *
          clear hres hvm hm hg hv hE
          go_enter Tryz.func61, Tryz.ntmps61
          go_wp2_with fail
          refine (hI _).mono ?_
          rintro r w1 ⟨rfl, rfl⟩
          go_wp2_with fail
          refine alloc1 (P := fun W => Calls _ _ _ W _) fun W0 hb hz K0 => ?_
          refine (hW _ K0).mono ?_
          rintro r w1 ⟨rfl, k1⟩
          have K1 : Keeps w w1 (fun _ => False) := K0.trans k1 (fun _ _ e => e)
          clear hI hW
          go_wp2_with fail
          refine (hMf _).mono ?_
          rintro r w2 ⟨rfl, k2⟩
          go_wp2_with fail
          refine (hHs _).mono ?_
          rintro r w3 ⟨rfl, k3⟩
          have K3 : Keeps w1 w3 (fun _ => False) := (Keeps.ofKp k2).trans (Keeps.ofKp k3) (fun _ _ e => e)
          have K4 : Keeps w w3 (fun _ => False) := K1.trans K3 (fun _ _ e => e)
          have T1 := T1 _ K4
          clear hMf hHs hA
          go_wp2_with fail
          go_ret
          exact ⟨rfl, T1.out⟩
    · have hr : setElemG d l off i el = (62, d) := by unfold setElemG; rw [if_pos hi, if_neg he]
      rw [hr]
      have he' : (((el.size : Nat) : Int) != l.e) = true := by simpa using he
      clear hA
      go_enter Tryz.func61, Tryz.ntmps61
      go_wp2_with fail
      refine (hI _).mono ?_
      rintro r w1 ⟨rfl, rfl⟩
      go_wp2_with fail
      go_ret
      exact ⟨rfl, (T1 _ ((Keeps.refl w (fun _ => False)).alloc _)).out⟩
  · rw [decide_eq_false hi] at hI
    have hr : setElemG d l off i el = (60, d) := if_neg hi
    rw [hr]
    clear hA
    go_enter Tryz.func61, Tryz.ntmps61
    go_wp2_with fail
    refine (hI _).mono ?_
    rintro r w1 ⟨rfl, rfl⟩
    go_wp2_with fail
    go_ret
    exact ⟨rfl, (T1 _ ((Keeps.refl w (fun _ => False)).alloc _)).out⟩
end Go.Proofs.YtgckinldnnckoaaGreatDoor
/-
  Fill.
-/
namespace Go.Proofs.YtgckinldnnckoaaGreatDoor
open Go.RowKit Go.Shelf Ly Ct
set_option linter.unusedVariables false

theorem texts_five {W : World} {b : Nat} {e1 e2 e3 e4 e5 : ByteArray} {t : TypeId} (h : W.heap[b]? = some (.cells #[.string e1, .string e2, .string e3, .string e4, .string e5] t)) : TextsAt W (some ⟨b, 0, none⟩) [e1, e2, e3, e4, e5] := by
  intro j hj
  refine ⟨b, 0, rfl, heap_lt h, ?_⟩
  have hj5 : j < 5 := hj
  have : j = 0 ∨ j = 1 ∨ j = 2 ∨ j = 3 ∨ j = 4 := by omega
  rcases this with rfl | rfl | rfl | rfl | rfl <;> simp [World.cell?, h]
theorem str_size (x : List UInt8) : (strOf x).size = x.length := by simp [strOf, ByteArray.size]
theorem str_list (x : List UInt8) : (strOf x).data.toList = x := by simp [strOf]
theorem joined_slot (l : Lay) (key elem : ByteArray) (b : Nat) : joined [key, strOf (zeros (l.eo - l.k).toNat), elem, strOf (zeros (l.bo - l.eo - l.e).toNat), strOf (leBytes b 8)] = slotB l key.data.toList elem.data.toList b := by
  rw [joined_eq]
  simp only [List.map_cons, List.map_nil, str_list, List.flatten_cons, List.flatten_nil, List.append_nil]
  unfold slotB
  simp
theorem lens_slot {l : Lay} (hv : validB l = true) {key elem : ByteArray} (hk : (key.size : Int) = l.k) (he : (elem.size : Int) = l.e) (b : Nat) : lens [key, strOf (zeros (l.eo - l.k).toNat), elem, strOf (zeros (l.bo - l.eo - l.e).toNat), strOf (leBytes b 8)] = l.s.toNat := by
  have h1 := joined_length [key, strOf (zeros (l.eo - l.k).toNat), elem, strOf (zeros (l.bo - l.eo - l.e).toNat), strOf (leBytes b 8)]
  rw [joined_slot, slotB_len hv b (by rw [data_len]; exact hk) (by rw [data_len]; exact he)] at h1
  exact h1.symm

set_option maxHeartbeats 4000000 in
theorem gfill_no {w : World} {p : Nat} (l : Lay) (off i tag : Int) (key elem : ByteArray) (birth : Int) (h : fillErr l i tag key.size elem.size birth ≠ 0) :
    Calls Tryz.prog 63 #[.agg #[.pointer (some ⟨p, 0, none⟩), .int .i64 l.k, .int .i64 l.e, .int .i64 l.a, .int .i64 l.b, .int .i64 l.c, .int .i64 l.eo, .int .i64 l.bo, .int .i64 l.s, .int .i64 l.g, .int .i64 off], .int .i64 i, .int .i64 tag, .string key, .string elem, .int .i64 birth] w fun e w' => e = .returned (.int .i64 (fillErr l i tag key.size elem.size birth)) ∧ Keeps w w' (fun _ => False) := by
  have hI := fun W => gslot_any i W
  have hT := fun W => gtag_any tag W
  unfold fillErr at h ⊢
  by_cases hi : 0 ≤ i ∧ i < 8
  · rw [decide_eq_true hi] at hI
    rw [if_neg (not_not_intro hi)] at h ⊢
    by_cases ht : 0 ≤ tag ∧ tag ≤ 127
    · rw [decide_eq_true ht] at hT
      rw [if_neg (not_not_intro ht)] at h ⊢
      by_cases hk : (key.size : Int) = l.k
      · rw [if_neg (not_not_intro hk)] at h ⊢
        by_cases he : (elem.size : Int) = l.e
        · rw [if_neg (not_not_intro he)] at h ⊢
          by_cases hb : birth < 0
          · rw [if_pos hb]
            clear h
            go_enter Tryz.func63, Tryz.ntmps63
            go_wp2_with fail
            refine (hI _).mono ?_
            rintro r w1 ⟨rfl, rfl⟩
            go_wp2_with fail
            refine (hT _).mono ?_
            rintro r w1 ⟨rfl, rfl⟩
            go_wp2_with fail
            go_ret
            exact ⟨rfl, (Keeps.refl w (fun _ => False)).alloc _⟩
          · rw [if_neg hb] at h
            exact absurd rfl h
        · rw [if_pos he]
          have he' : (((elem.size : Nat) : Int) != l.e) = true := by simpa using he
          clear h
          go_enter Tryz.func63, Tryz.ntmps63
          go_wp2_with fail
          refine (hI _).mono ?_
          rintro r w1 ⟨rfl, rfl⟩
          go_wp2_with fail
          refine (hT _).mono ?_
          rintro r w1 ⟨rfl, rfl⟩
          go_wp2_with fail
          go_ret
          exact ⟨rfl, (Keeps.refl w (fun _ => False)).alloc _⟩
      · rw [if_pos hk]
        have hk' : (((key.size : Nat) : Int) != l.k) = true := by simpa using hk
        clear h
        go_enter Tryz.func63, Tryz.ntmps63
        go_wp2_with fail
        refine (hI _).mono ?_
        rintro r w1 ⟨rfl, rfl⟩
        go_wp2_with fail
        refine (hT _).mono ?_
        rintro r w1 ⟨rfl, rfl⟩
        go_wp2_with fail
        go_ret
        exact ⟨rfl, (Keeps.refl w (fun _ => False)).alloc _⟩
    · rw [decide_eq_false ht] at hT
      rw [if_pos ht]
      clear h
      go_enter Tryz.func63, Tryz.ntmps63
      go_wp2_with fail
      refine (hI _).mono ?_
      rintro r w1 ⟨rfl, rfl⟩
      go_wp2_with fail
      refine (hT _).mono ?_
      rintro r w1 ⟨rfl, rfl⟩
      go_wp2_with fail
      go_ret
      exact ⟨rfl, (Keeps.refl w (fun _ => False)).alloc _⟩
  · rw [decide_eq_false hi] at hI
    rw [if_pos hi]
    clear h
    go_enter Tryz.func63, Tryz.ntmps63
    go_wp2_with fail
    refine (hI _).mono ?_
    rintro r w1 ⟨rfl, rfl⟩
    go_wp2_with fail
    go_ret
    exact ⟨rfl, (Keeps.refl w (fun _ => False)).alloc _⟩

theorem fillErr_zero {l : Lay} {i tag ks es birth : Int} (h : fillErr l i tag ks es birth = 0) : (0 ≤ i ∧ i < 8) ∧ (0 ≤ tag ∧ tag ≤ 127) ∧ ks = l.k ∧ es = l.e ∧ 0 ≤ birth := by
  unfold fillErr at h
  split at h
  · omega
  split at h
  · omega
  split at h
  · omega
  split at h
  · omega
  split at h
  · omega
  rename_i h1 h2 h3 h4 h5
  exact ⟨Decidable.not_not.1 h1, Decidable.not_not.1 h2, Decidable.not_not.1 h3, Decidable.not_not.1 h4, by omega⟩

set_option maxHeartbeats 8000000 in
set_option maxRecDepth 100000 in
theorem gfill_any {w : World} {p : Nat} {F : Nat → Prop} {d : AD} (hA : Arena w p F d) (hF : d.Fine) (hSm : d.small) (hFl : ∀ k, F k → k < w.heap.size) (l : Lay) (off i tag : Int) (key elem : ByteArray) (birth : Int) (hb9 : birth ≤ 9223372036854775807) (ho : fitsI off) (hn : fitsI l.g) :
    Calls Tryz.prog 63 #[.agg #[.pointer (some ⟨p, 0, none⟩), .int .i64 l.k, .int .i64 l.e, .int .i64 l.a, .int .i64 l.b, .int .i64 l.c, .int .i64 l.eo, .int .i64 l.bo, .int .i64 l.s, .int .i64 l.g, .int .i64 off], .int .i64 i, .int .i64 tag, .string key, .string elem, .int .i64 birth] w fun e w' => ErrPost w p F (fillG d l off i tag key elem birth).1 (fillG d l off i tag key elem birth).2 e w' := by
  by_cases hE : fillErr l i tag key.size elem.size birth = 0
  · obtain ⟨hi, htg, hk, he, hb0⟩ := fillErr_zero hE
    have hI := fun W => gslot_any i W
    have hT := fun W => gtag_any tag W
    rw [decide_eq_true hi] at hI
    rw [decide_eq_true htg] at hT
    have hk' : (((key.size : Nat) : Int) != l.k) = false := by simpa using hk
    have he' : (((elem.size : Nat) : Int) != l.e) = false := by simpa using he
    have hb' : ¬ birth < 0 := by omega
    have hW := fun V (k : Keeps w V (fun _ => False)) => word_any (hA.keeps k (fun _ _ _ e => e)) hF l off ho hn
    have hnB : ¬ F w.heap.size := fun q => Nat.lt_irrefl _ (hFl _ q)
    unfold wordV at hW
    unfold fillG
    rw [if_pos hE]
    clear hE
    cases ht : thereB d l off
    · simp only [ht, Bool.false_eq_true, if_false] at hW
      simp only [Bool.false_eq_true, if_false]
      go_enter Tryz.func63, Tryz.ntmps63
      go_wp2_with fail
      refine (hI _).mono ?_
      rintro r w1 ⟨rfl, rfl⟩
      go_wp2_with fail
      refine (hT _).mono ?_
      rintro r w1 ⟨rfl, rfl⟩
      go_wp2_with fail
      refine (hW _ ((Keeps.refl w (fun _ => False)).alloc _)).mono ?_
      rintro r w1 ⟨rfl, k1⟩
      have K1 : Keeps w w1 (fun _ => False) := ((Keeps.refl w (fun _ => False)).alloc _).trans k1 (fun _ _ e => e)
      have T1 := hide (hA.same K1)
      clear hI hW k1 hA
      go_wp2_with fail
      go_ret
      exact ⟨rfl, T1.out⟩
    · simp only [ht, if_true] at hW
      simp only [if_true]
      obtain ⟨hv, hg, ho1, ho2, ho3⟩ := there_more hF ht
      have hvm := valid_more hv
      obtain ⟨n, rfl⟩ := Int.eq_ofNat_of_zero_le hi.1
      obtain ⟨tg, rfl⟩ := Int.eq_ofNat_of_zero_le htg.1
      obtain ⟨bi, rfl⟩ := Int.eq_ofNat_of_zero_le hb0
      have hn8 : n < 8 := by omega
      have hm := mul_bound hi.1 hi.2 (s := l.s) (by omega) (by omega)
      have hS := fun W => slotAt_any p l off (n : Int) W hv hi.1 hi.2 (by omega) (by omega)
      have hgs := good_sub hg (x := 8 + (n : Int) * l.s + 0) (m := l.s) (by omega) (by omega) (by omega)
      obtain ⟨g1, hg1⟩ := Int.eq_ofNat_of_zero_le (show 0 ≤ l.eo - l.k by omega)
      obtain ⟨g2, hg2⟩ := Int.eq_ofNat_of_zero_le (show 0 ≤ l.bo - l.eo - l.e by omega)
      have hz1 := fun W => gzeros_any g1 W (by omega)
      have hz2 := fun W => gzeros_any g2 W (by omega)
      have hbb := fun W => birthBytes_any bi W (by omega)
      rw [Int.toNat_natCast, Int.toNat_natCast, Int.toNat_natCast]
      have hjs := joined_slot l key elem bi
      have hls := lens_slot hv hk he bi
      rw [hg1, hg2, Int.toNat_natCast, Int.toNat_natCast] at hjs hls
      have hwr : ∀ V b c (k : Keeps w V (fun _ => False)) (hc : 5 ≤ c) (t : TypeId), V.heap[b]? = some (.cells #[.string key, .string (strOf (zeros g1)), .string elem, .string (strOf (zeros g2)), .string (strOf (leBytes bi 8))] t) → Calls Tryz.prog 95 #[.pointer (some ⟨p, 0, none⟩), .int .i64 (off + (8 + (n : Int) * l.s + 0)), .slice (some ⟨b, 0, none⟩) 5 c] V fun e w' => ErrPost V p F 0 (d.bytes (splice d.bs (off + (8 + (n : Int) * l.s + 0)).toNat (slotB l key.data.toList elem.data.toList bi))) e w' := fun V b c k hc t hb => by
        have := awrite_any joinOK (hA.keeps k (fun _ _ _ e => e)) hF hSm (off + (8 + (n : Int) * l.s + 0)) (some ⟨b, 0, none⟩) c [key, strOf (zeros g1), elem, strOf (zeros g2), strOf (leBytes bi 8)] (fitsI_mk (by omega) (by omega)) (by simp) (by simpa using hc) (by
          intro t ht
          simp only [List.mem_cons, List.not_mem_nil, or_false] at ht
          rcases ht with rfl | rfl | rfl | rfl | rfl
          · omega
          · rw [str_size, zeros_length]; omega
          · omega
          · rw [str_size, zeros_length]; omega
          · rw [str_size, leBytes_length]; omega) (texts_five hb)
        have hWr : writeR d (off + (8 + (n : Int) * l.s + 0)) [key, strOf (zeros g1), elem, strOf (zeros g2), strOf (leBytes bi 8)] = (0, d.bytes (splice d.bs (off + (8 + (n : Int) * l.s + 0)).toNat (slotB l key.data.toList elem.data.toList bi))) := by
          unfold writeR
          rw [hls, hjs, show ((l.s.toNat : Nat) : Int) = l.s by omega, hgs, decide_eq_true (show l.s.toNat ≤ 1048576 by omega)]
          rfl
        rw [hWr] at this
        exact this
      have hsl := slotB_len hv bi (show ((key.data.toList.length : Nat) : Int) = l.k by rw [data_len]; exact hk) (show ((elem.data.toList.length : Nat) : Int) = l.e by rw [data_len]; exact he)
      have hF1 : (d.bytes (splice d.bs (off + (8 + (n : Int) * l.s + 0)).toNat (slotB l key.data.toList elem.data.toList bi))).Fine := hF.bytes (splice_length (by rw [hsl]; omega))
      have hres : laidG d l off n (slotB l key.data.toList elem.data.toList bi) (setN (wordN d off) n tg) = wordG (d.bytes (splice d.bs (off + (8 + (n : Int) * l.s + 0)).toNat (slotB l key.data.toList elem.data.toList bi))) off (setN (wordN d off) n tg) := rfl
      rw [hres]
      have hSt := fun V => set_in (wordN d off) n tg wordN_lt hn8 (by omega) V
      generalize wordN d off = WW at *
      generalize hd1 : d.bytes (splice d.bs (off + (8 + (n : Int) * l.s + 0)).toNat (slotB l key.data.toList elem.data.toList bi)) = d1 at *
      have hsw : ∀ V {G : Nat → Prop} (hA1 : Arena V p G d1), Calls Tryz.prog 90 #[.agg #[.pointer (some ⟨p, 0, none⟩), .int .i64 l.k, .int .i64 l.e, .int .i64 l.a, .int .i64 l.b, .int .i64 l.c, .int .i64 l.eo, .int .i64 l.bo, .int .i64 l.s, .int .i64 l.g, .int .i64 off], .int .u64 ((setN WW n tg : Nat) : Int)] V fun e w' => ErrPost V p G 0 (wordG d1 off (setN WW n tg)) e w' := fun V G hA1 => by
        have := setWord_any hA1 hF1 l off ho (setN WW n tg)
        rw [store_word hg hv (fun a n => by rw [← hd1]; rfl)] at this
        exact this
      generalize off + (8 + (n : Int) * l.s + 0) = Y at *
      generalize setN WW n tg = W2 at *
      generalize strOf (zeros g1) = Z1 at *
      generalize strOf (zeros g2) = Z2 at *
      generalize strOf (leBytes bi 8) = BB at *
      have v1 : IntKind.i64.wrap (l.eo - l.k) = (g1 : Int) := by rw [IntKind.wrap_i64]; omega
      have v2 : IntKind.i64.wrap (l.bo - l.eo) = l.bo - l.eo := by rw [IntKind.wrap_i64]; omega
      have v3 : IntKind.i64.wrap (l.bo - l.eo - l.e) = (g2 : Int) := by rw [IntKind.wrap_i64]; omega
      clear hd1 hres hm hgs hjs hls hsl hvm hg hv hg1 hg2 ho3 ho2 hb0
      go_enter Tryz.func63, Tryz.ntmps63
      go_wp2_with fail
      refine (hI _).mono ?_
      rintro r w1 ⟨rfl, rfl⟩
      go_wp2_with fail
      refine (hT _).mono ?_
      rintro r w1 ⟨rfl, rfl⟩
      go_wp2_with fail
      refine alloc1 (P := fun W => Calls _ _ _ W _) fun W0 hb hz K0 => ?_
      refine (hW _ K0).mono ?_
      rintro r w1 ⟨rfl, k1⟩
      have K1 : Keeps w w1 (fun _ => False) := K0.trans k1 (fun _ _ e => e)
      have C1 := c11_of (k1.blk hb)
      have hzz : w.heap.size < w1.heap.size := by have := k1.size; omega
      clear hI hW hT
      have C1' := C1
      obtain ⟨c0, c1, c2, c3, c4, c5, c6, c7, c8, c9, c10⟩ := C1'
      go_wp2_with fail
      clear c0 c1 c2 c3 c4 c5 c6 c7 c8 c9 c10
      go_region_held3 (fun w' => w'.cell? ⟨w.heap.size, 0, none⟩ = some (.pointer (some ⟨p, 0, none⟩)) ∧ w'.cell? ⟨w.heap.size, 1, none⟩ = some (.int .i64 l.k) ∧ w'.cell? ⟨w.heap.size, 2, none⟩ = some (.int .i64 l.e) ∧ w'.cell? ⟨w.heap.size, 3, none⟩ = some (.int .i64 l.a) ∧ w'.cell? ⟨w.heap.size, 4, none⟩ = some (.int .i64 l.b) ∧ w'.cell? ⟨w.heap.size, 5, none⟩ = some (.int .i64 l.c) ∧ w'.cell? ⟨w.heap.size, 6, none⟩ = some (.int .i64 l.eo) ∧ w'.cell? ⟨w.heap.size, 7, none⟩ = some (.int .i64 l.bo) ∧ w'.cell? ⟨w.heap.size, 8, none⟩ = some (.int .i64 l.s) ∧ w'.cell? ⟨w.heap.size, 9, none⟩ = some (.int .i64 l.g) ∧ w'.cell? ⟨w.heap.size, 10, none⟩ = some (.int .i64 off)) (first | exact c11_drew C1 | exact c11_keeps T2.2 hnB (by assumption) | exact c11_keeps kb id (by assumption) | exact c11_keeps kz2 id (by assumption) | exact c11_keeps kz1 id (by assumption) | exact c11_keeps kS id (by assumption) | exact c11_keeps ((Keeps.refl _ (fun _ => False)).alloc _) id (by assumption) | assumption) (first | (go_at_call 97; refine (hS _).mono ?_; rintro r wS ⟨rfl, kS⟩) | (go_at_call 98; refine (hz1 _).mono ?_; rintro r wz1 ⟨rfl, kz1⟩) | (go_at_call 98; refine (hz2 _).mono ?_; rintro r wz2 ⟨rfl, kz2⟩) | (go_at_call 99; refine (hbb _).mono ?_; rintro r wb ⟨rfl, kb⟩; have K2 : Keeps w wb (fun _ => False) := (((K1.drew.trans kS (fun _ _ e => e)).trans kz1 (fun _ _ e => e)).trans kz2 (fun _ _ e => e)).trans kb (fun _ _ e => e)) | (go_at_call 95; refine (hwr _ _ _ (K2.alloc _) (Nat.le_refl _) _ (heap_alloc_new _ _)).mono ?_; rintro r w2 ⟨rfl, T2⟩))
      have C2 : C11 w.heap.size p l off w2 := by assumption
      have A2 := T2.arena
      have hzs : w.heap.size < wb.heap.size := by
        have a1 := kS.size
        have a2 := kz1.size
        have a3 := kz2.size
        have a4 := kb.size
        simp at a1
        omega
      have hnB2 : ¬ ((F w.heap.size ∨ (wb.alloc (.cells #[.string key, .string Z1, .string elem, .string Z2, .string BB] 9)).heap.size ≤ w.heap.size) ∧ w.heap.size < w2.heap.size) := fun q => q.1.elim hnB (fun q => by simp at q; omega)
      clear hS hz1 hz2 hbb hwr
      go_wp2_with fail
      go_region_held3 (fun w' => w'.cell? ⟨w.heap.size, 0, none⟩ = some (.pointer (some ⟨p, 0, none⟩)) ∧ w'.cell? ⟨w.heap.size, 1, none⟩ = some (.int .i64 l.k) ∧ w'.cell? ⟨w.heap.size, 2, none⟩ = some (.int .i64 l.e) ∧ w'.cell? ⟨w.heap.size, 3, none⟩ = some (.int .i64 l.a) ∧ w'.cell? ⟨w.heap.size, 4, none⟩ = some (.int .i64 l.b) ∧ w'.cell? ⟨w.heap.size, 5, none⟩ = some (.int .i64 l.c) ∧ w'.cell? ⟨w.heap.size, 6, none⟩ = some (.int .i64 l.eo) ∧ w'.cell? ⟨w.heap.size, 7, none⟩ = some (.int .i64 l.bo) ∧ w'.cell? ⟨w.heap.size, 8, none⟩ = some (.int .i64 l.s) ∧ w'.cell? ⟨w.heap.size, 9, none⟩ = some (.int .i64 l.g) ∧ w'.cell? ⟨w.heap.size, 10, none⟩ = some (.int .i64 off)) (first | exact c11_drew C2 | exact c11_keeps T3.2 hnB2 (by assumption) | exact c11_keeps (Keeps.ofKp kE) id (by assumption) | assumption) (first | (go_at_call 100; refine (hSt _).mono ?_; rintro r wE ⟨rfl, kE⟩) | (go_at_call 90; have K3 : Keeps w2 wE (fun _ => False) := (Keeps.refl _ (fun _ => False)).drew.trans (Keeps.ofKp kE) (fun _ _ e => e); refine (hsw _ (A2.keeps K3 (fun _ _ _ e => e))).mono ?_; rintro r w3 ⟨rfl, T3⟩))
      have T9 : Hid (Turned w w3 p F _) := hide (Turned.pre (K2.alloc _) (T2.then (Turned.pre K3 T3)))
      clear T2 T3 A2
      go_wp2_with fail
      go_ret
      exact ⟨rfl, T9.out⟩
  · have hr : fillG d l off i tag key elem birth = (fillErr l i tag key.size elem.size birth, d) := if_neg hE
    rw [hr]
    refine (gfill_no l off i tag key elem birth hE).mono ?_
    rintro r w1 ⟨rfl, k1⟩
    exact ⟨rfl, hA.same k1⟩
end Go.Proofs.YtgckinldnnckoaaGreatDoor
/-
  The small calls of table.
-/
namespace Go.Proofs.YtgckinldnnckoaaGreatDoor
open Go.RowKit Go.Shelf Ly Ct
set_option linter.unusedVariables false

theorem eleven_cells {w : World} {b : Nat} {v0 v1 v2 v3 v4 v5 v6 v7 v8 v9 v10 : Value} {t : TypeId} (h : w.heap[b]? = some (.cells #[v0, v1, v2, v3, v4, v5, v6, v7, v8, v9, v10] t)) :
    (w.cell? ⟨b, 0, none⟩ = some v0 ∧ w.cell? ⟨b, 1, none⟩ = some v1 ∧ w.cell? ⟨b, 2, none⟩ = some v2 ∧ w.cell? ⟨b, 3, none⟩ = some v3 ∧ w.cell? ⟨b, 4, none⟩ = some v4 ∧ w.cell? ⟨b, 5, none⟩ = some v5 ∧ w.cell? ⟨b, 6, none⟩ = some v6 ∧ w.cell? ⟨b, 7, none⟩ = some v7 ∧ w.cell? ⟨b, 8, none⟩ = some v8 ∧ w.cell? ⟨b, 9, none⟩ = some v9 ∧ w.cell? ⟨b, 10, none⟩ = some v10) ∧ w.frozen? ⟨b, 0, none⟩ = false ∧ w.frozen? ⟨b, 1, none⟩ = false ∧ w.frozen? ⟨b, 2, none⟩ = false ∧ w.frozen? ⟨b, 3, none⟩ = false ∧ w.frozen? ⟨b, 4, none⟩ = false ∧ w.frozen? ⟨b, 5, none⟩ = false ∧ w.frozen? ⟨b, 6, none⟩ = false ∧ w.frozen? ⟨b, 7, none⟩ = false ∧ w.frozen? ⟨b, 8, none⟩ = false ∧ w.frozen? ⟨b, 9, none⟩ = false ∧ w.frozen? ⟨b, 10, none⟩ = false := by
  simp [World.cell?, World.frozen?, h]
theorem eleven_set {w0 w : World} {b : Nat} {u0 u1 u2 u3 u4 u5 u6 u7 u8 u9 u10 : Value} {t : TypeId} {S : Nat → Prop} (h : w.heap[b]? = some (.cells #[u0, u1, u2, u3, u4, u5, u6, u7, u8, u9, u10] t)) (k : Keeps w0 w S) (hb : b < w0.heap.size → S b)
    {v0 v1 v2 v3 v4 v5 v6 v7 v8 v9 v10 : Value} {P : World → Prop} (hP : ∀ w9, w9.heap[b]? = some (.cells #[v0, v1, v2, v3, v4, v5, v6, v7, v8, v9, v10] t) → Keeps w0 w9 S → Keeps w w9 (fun i => i = b) → P w9) :
    P (((((((((((w.setCell ⟨b, 0, none⟩ v0).setCell ⟨b, 1, none⟩ v1).setCell ⟨b, 2, none⟩ v2).setCell ⟨b, 3, none⟩ v3).setCell ⟨b, 4, none⟩ v4).setCell ⟨b, 5, none⟩ v5).setCell ⟨b, 6, none⟩ v6).setCell ⟨b, 7, none⟩ v7).setCell ⟨b, 8, none⟩ v8).setCell ⟨b, 9, none⟩ v9).setCell ⟨b, 10, none⟩ v10) := by
  refine hP _ ?_ ?_ ?_
  · have h0 := set_one' h 0 v0 (by simp)
    have h1 := set_one' h0 1 v1 (by simp)
    have h2 := set_one' h1 2 v2 (by simp)
    have h3 := set_one' h2 3 v3 (by simp)
    have h4 := set_one' h3 4 v4 (by simp)
    have h5 := set_one' h4 5 v5 (by simp)
    have h6 := set_one' h5 6 v6 (by simp)
    have h7 := set_one' h6 7 v7 (by simp)
    have h8 := set_one' h7 8 v8 (by simp)
    have h9 := set_one' h8 9 v9 (by simp)
    have h10 := set_one' h9 10 v10 (by simp)
    exact h10
  · exact (((((((((((k.setCell _ hb _).setCell _ hb _).setCell _ hb _).setCell _ hb _).setCell _ hb _).setCell _ hb _).setCell _ hb _).setCell _ hb _).setCell _ hb _).setCell _ hb _).setCell _ hb _)
  · exact ((((((((((((Keeps.refl w (fun i => i = b)).setCell _ (fun _ => rfl) _).setCell _ (fun _ => rfl) _).setCell _ (fun _ => rfl) _).setCell _ (fun _ => rfl) _).setCell _ (fun _ => rfl) _).setCell _ (fun _ => rfl) _).setCell _ (fun _ => rfl) _).setCell _ (fun _ => rfl) _).setCell _ (fun _ => rfl) _).setCell _ (fun _ => rfl) _).setCell _ (fun _ => rfl) _)

set_option maxHeartbeats 1000000 in
theorem tat_any (p : Nat) (l : Lay) (off i : Int) (w : World) (h0 : 0 ≤ off) (h1 : off ≤ 134217728) (hi0 : 0 ≤ i) (hi : i ≤ 8) :
    Calls Tryz.prog 76 #[.agg #[.pointer (some ⟨p, 0, none⟩), .int .i64 l.k, .int .i64 l.e, .int .i64 l.a, .int .i64 l.b, .int .i64 l.c, .int .i64 l.eo, .int .i64 l.bo, .int .i64 l.s, .int .i64 l.g, .int .i64 off], .int .i64 i] w fun e w' => e = .returned (.int .i64 (off + i * 8)) ∧ Keeps w w' (fun _ => False) := by
  go_enter Tryz.func76, Tryz.ntmps76
  go_wp2_with fail
  go_ret
  exact ⟨rfl, (Keeps.refl _ _).alloc _⟩

set_option maxHeartbeats 1000000 in
theorem tgroup_any (p : Nat) (l : Lay) (off gr i : Int) (w : World) (h0 : 0 ≤ gr) (h1 : gr ≤ 134217728) (hi0 : 0 ≤ i) (hi : i ≤ 8192) (hg0 : 0 ≤ l.g) (hg : l.g ≤ 3000) :
    Calls Tryz.prog 108 #[.agg #[.pointer (some ⟨p, 0, none⟩), .int .i64 l.k, .int .i64 l.e, .int .i64 l.a, .int .i64 l.b, .int .i64 l.c, .int .i64 l.eo, .int .i64 l.bo, .int .i64 l.s, .int .i64 l.g, .int .i64 off], .int .i64 gr, .int .i64 i] w fun e w' => e = .returned (.agg #[.pointer (some ⟨p, 0, none⟩), .int .i64 l.k, .int .i64 l.e, .int .i64 l.a, .int .i64 l.b, .int .i64 l.c, .int .i64 l.eo, .int .i64 l.bo, .int .i64 l.s, .int .i64 l.g, .int .i64 (gr + i * l.g)]) ∧ Keeps w w' (fun _ => False) := by
  have hm : 0 ≤ i * l.g := Int.mul_nonneg hi0 hg0
  have hm2 : i * l.g ≤ 8192 * 3000 := Int.mul_le_mul hi hg hg0 (by omega)
  have hA := fun W => at_any p l (gr + i * l.g) W
  have hw1 : IntKind.i64.wrap (i * l.g) = i * l.g := by rw [IntKind.wrap_i64]; omega
  have hw2 : IntKind.i64.wrap (gr + i * l.g) = gr + i * l.g := by rw [IntKind.wrap_i64]; omega
  have hw3 : wrap64 (i * l.g) = i * l.g := by unfold wrap64; omega
  have hw4 : wrap64 (gr + i * l.g) = gr + i * l.g := by unfold wrap64; omega
  go_enter Tryz.func108, Tryz.ntmps108
  go_wp2_with fail
  refine alloc2 (P := fun W => Calls _ _ _ W _) fun W0 hb hr hz K0 => ?_
  refine (hA _).mono ?_
  rintro r w1 ⟨rfl, k1⟩
  clear hA hw1 hw2 hw3 hw4 hm hm2
  have hr1 := k1.blk hr
  have K1 : Keeps w w1 (fun _ => False) := K0.trans k1 (fun _ _ e => e)
  obtain ⟨⟨d0, d1, d2, d3, d4, d5, d6, d7, d8, d9, d10⟩, f0, f1, f2, f3, f4, f5, f6, f7, f8, f9, f10⟩ := eleven_cells hr1
  go_wp2_with fail
  refine eleven_set hr1 K1 (fun h => by omega) (P := fun w9 => bodyPost _ _ _ _ _ w9) fun w9 h9 k9 _ => ?_
  obtain ⟨⟨e0, e1, e2, e3, e4, e5, e6, e7, e8, e9, e10⟩, -⟩ := eleven_cells h9
  exact bodyPost_ret (v := .agg #[.pointer (some ⟨p, 0, none⟩), .int .i64 l.k, .int .i64 l.e, .int .i64 l.a, .int .i64 l.b, .int .i64 l.c, .int .i64 l.eo, .int .i64 l.bo, .int .i64 l.s, .int .i64 l.g, .int .i64 (gr + i * l.g)]) (by simp [results, Tryz.results108, go_sem, e0, e1, e2, e3, e4, e5, e6, e7, e8, e9, e10]) rfl ⟨rfl, k9⟩

def u64of (v : Int) : Nat := (v % 18446744073709551616).toNat
theorem u64of_eq (v : Int) : ((u64of v : Nat) : Int) = v % 18446744073709551616 := by
  unfold u64of
  omega
theorem u64of_lt (v : Int) : u64of v < 18446744073709551616 := by
  unfold u64of
  omega
theorem wrap_u64of {v : Int} (h : fitsI v) : wrap64 ((u64of v : Nat) : Int) = v := by
  have := fitsI_bounds h
  rw [u64of_eq]
  unfold wrap64
  omega

set_option maxHeartbeats 2000000 in
theorem tset_any {w : World} {p : Nat} {F : Nat → Prop} {d : AD} (hA : Arena w p F d) (hF : d.Fine) (hFl : ∀ k, F k → k < w.heap.size) (l : Lay) (off i v : Int) (h0 : 0 ≤ off) (h1 : off ≤ 134217728) (hi0 : 0 ≤ i) (hi : i ≤ 8) :
    Calls Tryz.prog 74 #[.agg #[.pointer (some ⟨p, 0, none⟩), .int .i64 l.k, .int .i64 l.e, .int .i64 l.a, .int .i64 l.b, .int .i64 l.c, .int .i64 l.eo, .int .i64 l.bo, .int .i64 l.s, .int .i64 l.g, .int .i64 off], .int .i64 i, .int .i64 v] w fun e w' => ErrPost w p F (storeR d (off + i * 8) 8 (u64of v)).1 (storeR d (off + i * 8) 8 (u64of v)).2 e w' := by
  have hT := fun W => tat_any p l off i W h0 h1 hi0 hi
  have hS := fun V (k : Keeps w V (fun _ => False)) => astore_any (hA.keeps k (fun _ _ _ e => e)) hF (off + i * 8) 8 (u64of v) (fitsI_mk (by omega) (by omega)) (fitsI_mk (by omega) (by omega))
  generalize storeR d (off + i * 8) 8 (u64of v) = R at *
  obtain ⟨x, d'⟩ := R
  have hu : IntKind.u64.wrap v = ((u64of v : Nat) : Int) := by
    rw [u64of_eq, IntKind.wrap_u64]
  generalize off + i * 8 = y at *
  generalize u64of v = u at *
  go_enter Tryz.func74, Tryz.ntmps74
  go_wp2_with fail
  refine alloc1 (P := fun W => Code.wp _ _ _ _ W) fun W0 hb hz K0 => ?_
  have C1 := c11_of hb
  have hnB : ¬ F w.heap.size := fun q => Nat.lt_irrefl _ (hFl _ q)
  go_region_held3 (fun w' => w'.cell? ⟨w.heap.size, 0, none⟩ = some (.pointer (some ⟨p, 0, none⟩)) ∧ w'.cell? ⟨w.heap.size, 1, none⟩ = some (.int .i64 l.k) ∧ w'.cell? ⟨w.heap.size, 2, none⟩ = some (.int .i64 l.e) ∧ w'.cell? ⟨w.heap.size, 3, none⟩ = some (.int .i64 l.a) ∧ w'.cell? ⟨w.heap.size, 4, none⟩ = some (.int .i64 l.b) ∧ w'.cell? ⟨w.heap.size, 5, none⟩ = some (.int .i64 l.c) ∧ w'.cell? ⟨w.heap.size, 6, none⟩ = some (.int .i64 l.eo) ∧ w'.cell? ⟨w.heap.size, 7, none⟩ = some (.int .i64 l.bo) ∧ w'.cell? ⟨w.heap.size, 8, none⟩ = some (.int .i64 l.s) ∧ w'.cell? ⟨w.heap.size, 9, none⟩ = some (.int .i64 l.g) ∧ w'.cell? ⟨w.heap.size, 10, none⟩ = some (.int .i64 off)) (first | exact c11_drew C1 | exact c11_keeps T2.2 hnB (by assumption) | exact c11_keeps kS id (by assumption) | assumption)
    (first | (go_at_call 76; refine (hT _).mono ?_; rintro r wS ⟨rfl, kS⟩) | (go_at_call 77; have K2 : Keeps w wS (fun _ => False) := (K0.drew).trans kS (fun _ _ e => e); refine (hS _ K2).mono ?_; rintro r w2 ⟨rfl, T2⟩))
  have T9 : Hid (Turned w w2 p F d') := hide (Turned.pre K2 T2)
  clear T2 hS hT
  go_wp2_with fail
  go_ret
  exact ⟨rfl, T9.out⟩
end Go.Proofs.YtgckinldnnckoaaGreatDoor
/-
  Stat.
-/
namespace Go.Proofs.YtgckinldnnckoaaGreatDoor
open Go.RowKit Go.Shelf Ly Ct
set_option linter.unusedVariables false

/-- A word of the header, as it is read. -/
def hdr (d : AD) (off i : Nat) : Int := wrap64 ((numOf (d.span ((off : Int) + (i : Int) * 8) 8) : Nat) : Int)
def statV (f : Nat → Int) : Value := .agg #[.int .i64 (f 3), .int .i64 (f 4), .int .i64 (f 5), .int .i64 (f 6), .int .i64 (f 1), .int .i64 (f 2), .bool (f 0 == 4), .int .i64 (f 7)]
def stat0 : Value := .agg #[.int .i64 0, .int .i64 0, .int .i64 0, .int .i64 0, .int .i64 0, .int .i64 0, .bool false, .int .i64 0]

theorem st8_cells {w : World} {b : Nat} {v0 v1 v2 v3 v4 v5 v6 v7 : Value} {t : TypeId} (h : w.heap[b]? = some (.cells #[v0, v1, v2, v3, v4, v5, v6, v7] t)) :
    (w.cell? ⟨b, 0, none⟩ = some v0 ∧ w.cell? ⟨b, 1, none⟩ = some v1 ∧ w.cell? ⟨b, 2, none⟩ = some v2 ∧ w.cell? ⟨b, 3, none⟩ = some v3 ∧ w.cell? ⟨b, 4, none⟩ = some v4 ∧ w.cell? ⟨b, 5, none⟩ = some v5 ∧ w.cell? ⟨b, 6, none⟩ = some v6 ∧ w.cell? ⟨b, 7, none⟩ = some v7) ∧ w.frozen? ⟨b, 0, none⟩ = false ∧ w.frozen? ⟨b, 1, none⟩ = false ∧ w.frozen? ⟨b, 2, none⟩ = false ∧ w.frozen? ⟨b, 3, none⟩ = false ∧ w.frozen? ⟨b, 4, none⟩ = false ∧ w.frozen? ⟨b, 5, none⟩ = false ∧ w.frozen? ⟨b, 6, none⟩ = false ∧ w.frozen? ⟨b, 7, none⟩ = false := by
  simp [World.cell?, World.frozen?, h]
theorem st8_set {w0 w : World} {b : Nat} {u0 u1 u2 u3 u4 u5 u6 u7 : Value} {t : TypeId} {S : Nat → Prop} (h : w.heap[b]? = some (.cells #[u0, u1, u2, u3, u4, u5, u6, u7] t)) (k : Keeps w0 w S) (hb : b < w0.heap.size → S b)
    {v0 v1 v2 v3 v4 v5 v6 v7 : Value} {P : World → Prop} (hP : ∀ w9, w9.heap[b]? = some (.cells #[v0, v1, v2, v3, v4, v5, v6, v7] t) → Keeps w0 w9 S → Keeps w w9 (fun i => i = b) → P w9) :
    P ((((((((w.setCell ⟨b, 0, none⟩ v0).setCell ⟨b, 1, none⟩ v1).setCell ⟨b, 2, none⟩ v2).setCell ⟨b, 3, none⟩ v3).setCell ⟨b, 4, none⟩ v4).setCell ⟨b, 5, none⟩ v5).setCell ⟨b, 6, none⟩ v6).setCell ⟨b, 7, none⟩ v7) := by
  refine hP _ ?_ ?_ ?_
  · have h0 := set_one' h 0 v0 (by simp)
    have h1 := set_one' h0 1 v1 (by simp)
    have h2 := set_one' h1 2 v2 (by simp)
    have h3 := set_one' h2 3 v3 (by simp)
    have h4 := set_one' h3 4 v4 (by simp)
    have h5 := set_one' h4 5 v5 (by simp)
    have h6 := set_one' h5 6 v6 (by simp)
    have h7 := set_one' h6 7 v7 (by simp)
    exact h7
  · exact ((((((((k.setCell _ hb _).setCell _ hb _).setCell _ hb _).setCell _ hb _).setCell _ hb _).setCell _ hb _).setCell _ hb _).setCell _ hb _)
  · exact (((((((((Keeps.refl w (fun i => i = b)).setCell _ (fun _ => rfl) _).setCell _ (fun _ => rfl) _).setCell _ (fun _ => rfl) _).setCell _ (fun _ => rfl) _).setCell _ (fun _ => rfl) _).setCell _ (fun _ => rfl) _).setCell _ (fun _ => rfl) _).setCell _ (fun _ => rfl) _)
theorem alloc3 {w : World} {o1 o2 o3 : Obj} {P : World → Prop} (h : ∀ W0, W0.heap[w.heap.size]? = some o1 → W0.heap[w.heap.size + 1]? = some o2 → W0.heap[w.heap.size + 1 + 1]? = some o3 → W0.heap.size = w.heap.size + 3 → Keeps w W0 (fun _ => False) → P W0) : P (((w.alloc o1).alloc o2).alloc o3) := by
  have e1 : ((w.alloc o1).alloc o2).heap[w.heap.size]? = some o1 := (Below.heap_alloc _ _ _ (by simp)).trans (heap_alloc_new _ _)
  have e2 : ((w.alloc o1).alloc o2).heap[w.heap.size + 1]? = some o2 := by have := heap_alloc_new (w.alloc o1) o2; simpa using this
  have e3 := heap_alloc_new ((w.alloc o1).alloc o2) o3
  refine h _ ((Below.heap_alloc _ _ _ (heap_lt e1)).trans e1) ((Below.heap_alloc _ _ _ (heap_lt e2)).trans e2) (by simpa using e3) (by simp) ((((Keeps.refl _ _).alloc _).alloc _).alloc _)
/-- The first i words of eight are read. -/
def Got (W : World) (b : Nat) (t : TypeId) (f : Nat → Int) (i : Nat) : Prop := ∃ cs : Array Value, W.heap[b]? = some (.cells cs t) ∧ cs.size = 8 ∧ ∀ j, j < i → cs[j]? = some (.int .i64 (f j))
section
variable {W W' : World} {b : Nat} {t : TypeId} {f : Nat → Int} {i : Nat}
theorem Got.cell (h : Got W b t f i) {j : Nat} (hj : j < 8) : (∃ v, W.cell? ⟨b, j, none⟩ = some v) ∧ W.frozen? ⟨b, j, none⟩ = false := by
  obtain ⟨cs, h1, h2, _⟩ := h
  exact ⟨⟨cs[j]'(by omega), by simp [World.cell?, h1, h2, hj]⟩, by simp [World.frozen?, h1]⟩
theorem Got.step (h : Got W b t f i) (hi : i < 8) : Got (W.setCell ⟨b, i, none⟩ (.int .i64 (f i))) b t f (i + 1) := by
  obtain ⟨cs, h1, h2, h3⟩ := h
  refine ⟨cs.set i (.int .i64 (f i)) (by omega), set_one' h1 i _ (by omega), by simp [h2], fun j hj => ?_⟩
  by_cases e : j = i
  · subst e
    simp
  · rw [Array.getElem?_set_ne (by omega) (by omega)]
    exact h3 j (by omega)
theorem Got.kept (h : Got W b t f i) (k : W'.heap[b]? = W.heap[b]?) : Got W' b t f i := by
  obtain ⟨cs, h1, h2⟩ := h
  exact ⟨cs, k.trans h1, h2⟩
theorem Got.all (h : Got W b t f 8) {j : Nat} (hj : j < 8) : W.cell? ⟨b, j, none⟩ = some (.int .i64 (f j)) := by
  obtain ⟨cs, h1, h2, h3⟩ := h
  have := h3 j hj
  simp [World.cell?, h1, this]
end

set_option maxRecDepth 100000 in
set_option maxHeartbeats 4000000 in
theorem stat_yes {w : World} {p : Nat} {F : Nat → Prop} {d : AD} (hA : Arena w p F d) (hF : d.Fine) (l : Lay) (off : Nat) (hg : d.goodB (off : Int) 64 = true) (h1 : off ≤ 134217728) :
    Calls Tryz.prog 47 #[.agg #[.pointer (some ⟨p, 0, none⟩), .int .i64 l.k, .int .i64 l.e, .int .i64 l.a, .int .i64 l.b, .int .i64 l.c, .int .i64 l.eo, .int .i64 l.bo, .int .i64 l.s, .int .i64 l.g, .int .i64 (off : Int)]] w fun e w' => e = .returned (.tuple #[statV (hdr d off), .int .i64 0]) ∧ Keeps w w' (fun _ => False) := by
  obtain ⟨c, hc, hfo⟩ := hA.at
  have hT := fun (i : Nat) (hi : i < 8) W => tat_any p l (off : Int) (i : Int) W (by omega) (by omega) (by omega) (by omega)
  have hL := fun (i : Nat) (hi : i < 8) W (k : Keeps w W (fun _ => False)) => aload_any (hc.keeps k (fun _ _ e => e)) hF ((off : Int) + (i : Int) * 8) 8 (fitsI_mk (by omega) (by omega)) (fitsI_mk (by omega) (by omega))
  have hx : ∀ i : Nat, i < 8 → loadV d ((off : Int) + (i : Int) * 8) 8 = (((numOf (d.span ((off : Int) + (i : Int) * 8) 8) : Nat) : Int), 0) := fun i hi => by
    have hg8 := good_sub hg (x := (i : Int) * 8) (m := 8) (by omega) (by omega) (by omega)
    unfold loadV
    rw [hg8]
    rfl
  have hf : ∀ i, hdr d off i = wrap64 ((numOf (d.span ((off : Int) + (i : Int) * 8) 8) : Nat) : Int) := fun i => rfl
  unfold statV
  generalize hdr d off = f at *
  have hLf : Hid (∀ (i : Nat), i < 8 → ∀ W, Keeps w W (fun _ => False) → ∃ n : Nat, f i = wrap64 (n : Int) ∧ Calls Tryz.prog 22 #[.pointer (some ⟨p, 0, none⟩), .int .i64 ((off : Int) + (i : Int) * 8), .int .i64 8] W fun e w' => e = .returned (.tuple #[.int .u64 (n : Int), .int .i64 0]) ∧ Keeps W w' (fun _ => False)) := fun i hi W k => by
    refine ⟨_, hf i, ?_⟩
    have := hL i hi W k
    rw [hx i hi] at this
    exact this
  clear hL hx hf hc hfo hA hg hF
  go_enter Tryz.func47, Tryz.ntmps47
  go_wp2_with fail
  refine alloc3 (P := fun W => Code.wp _ _ _ _ W) fun W0 hb hr ha hz K0 => ?_
  go_loopg [8] 8 (fun g v8 wr => ∃ i : Nat, g = 8 - i ∧ i ≤ 8 ∧ v8 = .int .i64 (i : Int) ∧ Got wr (w.heap.size + 1 + 1) 153 f i ∧ Keeps W0 wr (fun k => k = w.heap.size + 1 + 1))
  case atStart => exact ⟨0, rfl, Nat.zero_le _, rfl, ⟨_, ha, rfl, fun j hj => by omega⟩, Keeps.refl _ _⟩
  case round =>
    obtain ⟨i, rfl, hi, rfl, hG, kr⟩ := hrel
    by_cases hlt : i < 8
    · have hlt' : (i : Int) < 8 := by omega
      have hbr := (kr.block w.heap.size (by omega) (by omega)).trans hb
      have Kw : Keeps w wr (fun _ => False) := ⟨kr.os.trans K0.os, kr.tape.trans K0.tape, kr.output.trans K0.output, Nat.le_trans K0.size kr.size, fun k hk _ => (kr.block k (by omega) (by omega)).trans (K0.block k hk id)⟩
      have S0 : S11 wr w.heap.size p l (off : Int) wr := s11_of hbr (Keeps.refl _ _)
      have hTi := hT i hlt
      have hLi := hLf.out i hlt
      clear hT hLf hb hr ha K0
      go_wp2_with fail
      go_region_held3 (fun w' => w'.cell? ⟨w.heap.size, 0, none⟩ = some (.pointer (some ⟨p, 0, none⟩)) ∧ w'.cell? ⟨w.heap.size, 1, none⟩ = some (.int .i64 l.k) ∧ w'.cell? ⟨w.heap.size, 2, none⟩ = some (.int .i64 l.e) ∧ w'.cell? ⟨w.heap.size, 3, none⟩ = some (.int .i64 l.a) ∧ w'.cell? ⟨w.heap.size, 4, none⟩ = some (.int .i64 l.b) ∧ w'.cell? ⟨w.heap.size, 5, none⟩ = some (.int .i64 l.c) ∧ w'.cell? ⟨w.heap.size, 6, none⟩ = some (.int .i64 l.eo) ∧ w'.cell? ⟨w.heap.size, 7, none⟩ = some (.int .i64 l.bo) ∧ w'.cell? ⟨w.heap.size, 8, none⟩ = some (.int .i64 l.s) ∧ w'.cell? ⟨w.heap.size, 9, none⟩ = some (.int .i64 l.g) ∧ w'.cell? ⟨w.heap.size, 10, none⟩ = some (.int .i64 off) ∧ Keeps wr w' (fun _ => False)) (first | exact s11_drew S0 | exact s11_drew (s11_alloc S0 _) | exact s11_drew (s11_alloc (s11_alloc S0 _) _) | exact s11_call (by assumption) (by assumption) | exact s11_alloc (by assumption) _)
        (first | (go_at_call 76; refine (hTi _).mono ?_; rintro r w1 ⟨rfl, k1⟩) | (go_at_call 22; obtain ⟨nn, hfn, hLn⟩ := hLi _ (Kw.trans (s11_k (by assumption)) (fun _ _ e => e)); refine hLn.mono ?_; rintro r w2 ⟨rfl, k2⟩))
      have S2 : S11 wr w.heap.size p l (off : Int) w2 := by assumption
      have kw2 := s11_k S2
      have hG2 : Got w2 (w.heap.size + 1 + 1) 153 f i := hG.kept (kw2.block _ (by obtain ⟨cs, h1, _⟩ := hG; exact heap_lt h1) id)
      obtain ⟨⟨v9, hv9⟩, hfz⟩ := hG2.cell hlt
      have hw : wrap64 (nn : Int) = f i := hfn.symm
      have HF : Hid (Got (w2.setCell ⟨w.heap.size + 1 + 1, i, none⟩ (.int .i64 (f i))) (w.heap.size + 1 + 1) 153 f (i + 1) ∧ Keeps W0 (w2.setCell ⟨w.heap.size + 1 + 1, i, none⟩ (.int .i64 (f i))) (fun k => k = w.heap.size + 1 + 1)) :=
        ⟨hG2.step hlt, (kr.trans (kw2.mono (fun _ _ e => e.elim)) (fun _ _ e => e)).setCell _ (fun _ => rfl) _⟩
      clear hG hG2 S2 kw2 hfn hLi hLn k1 k2
      go_wp2_with fail
      go_roundg (8 - (i + 1))
      case measure => omega
      case rel => exact ⟨i + 1, rfl, by omega, by simp, HF.out.1, HF.out.2⟩
    · obtain rfl : i = 8 := by omega
      have q0 := hG.all (j := 0) (by omega)
      have q1 := hG.all (j := 1) (by omega)
      have q2 := hG.all (j := 2) (by omega)
      have q3 := hG.all (j := 3) (by omega)
      have q4 := hG.all (j := 4) (by omega)
      have q5 := hG.all (j := 5) (by omega)
      have q6 := hG.all (j := 6) (by omega)
      have q7 := hG.all (j := 7) (by omega)
      have hrr := (kr.block (w.heap.size + 1) (by omega) (by omega)).trans hr
      have Kw : Keeps w wr (fun _ => False) := ⟨kr.os.trans K0.os, kr.tape.trans K0.tape, kr.output.trans K0.output, Nat.le_trans K0.size kr.size, fun k hk _ => (kr.block k (by omega) (by omega)).trans (K0.block k hk id)⟩
      obtain ⟨⟨d0, d1, d2, d3, d4, d5, d6, d7⟩, f0, f1, f2, f3, f4, f5, f6, f7⟩ := st8_cells hrr
      clear hG hT hLf hb hr ha K0 kr
      go_wp2_with fail
      refine st8_set hrr Kw (fun h => by omega) (P := fun w9 => bodyPost _ _ _ _ _ w9) fun w9 h9 k9 _ => ?_
      obtain ⟨⟨e0, e1, e2, e3, e4, e5, e6, e7⟩, -⟩ := st8_cells h9
      exact bodyPost_ret (v := .tuple #[.agg #[.int .i64 (f 3), .int .i64 (f 4), .int .i64 (f 5), .int .i64 (f 6), .int .i64 (f 1), .int .i64 (f 2), .bool (f 0 == 4), .int .i64 (f 7)], .int .i64 0]) (by simp [results, Tryz.results47, go_sem, e0, e1, e2, e3, e4, e5, e6, e7]) rfl ⟨rfl, k9⟩

set_option maxRecDepth 100000 in
set_option maxHeartbeats 4000000 in
theorem stat_no {w : World} {p : Nat} {F : Nat → Prop} {d : AD} (hA : Arena w p F d) (hF : d.Fine) (l : Lay) (off : Nat) (hg : d.goodB (off : Int) 8 = false) (h1 : off ≤ 134217728) :
    Calls Tryz.prog 47 #[.agg #[.pointer (some ⟨p, 0, none⟩), .int .i64 l.k, .int .i64 l.e, .int .i64 l.a, .int .i64 l.b, .int .i64 l.c, .int .i64 l.eo, .int .i64 l.bo, .int .i64 l.s, .int .i64 l.g, .int .i64 (off : Int)]] w fun e w' => e = .returned (.tuple #[stat0, .int .i64 24]) ∧ Keeps w w' (fun _ => False) := by
  obtain ⟨c, hc, hfo⟩ := hA.at
  have hTi := fun W => tat_any p l (off : Int) 0 W (by omega) (by omega) (by omega) (by omega)
  have hLi := fun W (k : Keeps w W (fun _ => False)) => aload_any (hc.keeps k (fun _ _ e => e)) hF (off : Int) 8 (fitsI_mk (by omega) (by omega)) (fitsI_mk (by omega) (by omega))
  have hx : loadV d (off : Int) 8 = (0, 24) := by
    unfold loadV
    rw [hg]
    rfl
  simp only [hx] at hLi
  simp only [Int.zero_mul, Int.add_zero] at hTi
  unfold stat0
  clear hx hc hfo hA hg hF
  go_enter Tryz.func47, Tryz.ntmps47
  go_wp2_with fail
  refine alloc3 (P := fun W => Code.wp _ _ _ _ W) fun W0 hb hr ha hz K0 => ?_
  go_loopg [8] 8 (fun g v8 wr => g = 8 ∧ v8 = .int .i64 0 ∧ wr = W0)
  case atStart => exact ⟨rfl, rfl, rfl⟩
  case round =>
    obtain ⟨rfl, rfl, rfl⟩ := hrel
    have S0 : S11 wr w.heap.size p l (off : Int) wr := s11_of hb (Keeps.refl _ _)
    go_wp2_with fail
    go_region_held3 (fun w' => w'.cell? ⟨w.heap.size, 0, none⟩ = some (.pointer (some ⟨p, 0, none⟩)) ∧ w'.cell? ⟨w.heap.size, 1, none⟩ = some (.int .i64 l.k) ∧ w'.cell? ⟨w.heap.size, 2, none⟩ = some (.int .i64 l.e) ∧ w'.cell? ⟨w.heap.size, 3, none⟩ = some (.int .i64 l.a) ∧ w'.cell? ⟨w.heap.size, 4, none⟩ = some (.int .i64 l.b) ∧ w'.cell? ⟨w.heap.size, 5, none⟩ = some (.int .i64 l.c) ∧ w'.cell? ⟨w.heap.size, 6, none⟩ = some (.int .i64 l.eo) ∧ w'.cell? ⟨w.heap.size, 7, none⟩ = some (.int .i64 l.bo) ∧ w'.cell? ⟨w.heap.size, 8, none⟩ = some (.int .i64 l.s) ∧ w'.cell? ⟨w.heap.size, 9, none⟩ = some (.int .i64 l.g) ∧ w'.cell? ⟨w.heap.size, 10, none⟩ = some (.int .i64 off) ∧ Keeps wr w' (fun _ => False)) (first | exact s11_drew S0 | exact s11_drew (s11_alloc S0 _) | exact s11_drew (s11_alloc (s11_alloc S0 _) _) | exact s11_call (by assumption) (by assumption) | exact s11_alloc (by assumption) _)
      (first | (go_at_call 76; refine (hTi _).mono ?_; rintro r w1 ⟨rfl, k1⟩) | (go_at_call 22; refine (hLi _ (K0.trans (s11_k (by assumption)) (fun _ _ e => e))).mono ?_; rintro r w2 ⟨rfl, k2⟩))
    have S2 : S11 wr w.heap.size p l (off : Int) w2 := by assumption
    have kw2 := s11_k S2
    have hrr := kw2.blk hr
    have Kw : Keeps w w2 (fun _ => False) := K0.trans kw2 (fun _ _ e => e)
    obtain ⟨⟨d0, d1, d2, d3, d4, d5, d6, d7⟩, f0, f1, f2, f3, f4, f5, f6, f7⟩ := st8_cells hrr
    clear hTi hLi S2 S0 hb hr ha k1 k2
    go_wp2_with fail
    refine st8_set hrr Kw (fun h => by omega) (P := fun w9 => bodyPost _ _ _ _ _ w9) fun w9 h9 k9 _ => ?_
    obtain ⟨⟨e0, e1, e2, e3, e4, e5, e6, e7⟩, -⟩ := st8_cells h9
    exact bodyPost_ret (v := .tuple #[.agg #[.int .i64 0, .int .i64 0, .int .i64 0, .int .i64 0, .int .i64 0, .int .i64 0, .bool false, .int .i64 0], .int .i64 24]) (by simp [results, Tryz.results47, go_sem, e0, e1, e2, e3, e4, e5, e6, e7]) rfl ⟨rfl, k9⟩
end Go.Proofs.YtgckinldnnckoaaGreatDoor
/-
  small: at, group, set (made by gensm.py)
-/
namespace Go.Proofs.YtgckinldnnckoaaGreatDoor
open Go.RowKit Go.Shelf Ly Ct
set_option linter.unusedVariables false

set_option maxRecDepth 100000 in
set_option maxHeartbeats 1000000 in
theorem sat_any (p : Nat) (l : Lay) (off i : Int) (w : World) (h0 : 0 ≤ off) (h1 : off ≤ 134217728) (hi0 : 0 ≤ i) (hi : i ≤ 8) :
    Calls Tryz.prog 38 #[.agg #[.pointer (some ⟨p, 0, none⟩), .int .i64 l.k, .int .i64 l.e, .int .i64 l.a, .int .i64 l.b, .int .i64 l.c, .int .i64 l.eo, .int .i64 l.bo, .int .i64 l.s, .int .i64 l.g, .int .i64 off], .int .i64 i] w fun e w' => e = .returned (.int .i64 (off + i * 8)) ∧ Keeps w w' (fun _ => False) := by
  go_enter Tryz.func38, Tryz.ntmps38
  go_wp2_with fail
  go_ret
  exact ⟨rfl, (Keeps.refl _ _).alloc _⟩


set_option maxRecDepth 100000 in
set_option maxHeartbeats 1000000 in
theorem sgroup_any (p : Nat) (l : Lay) (off : Int) (w : World) (h0 : 0 ≤ off) (h1 : off ≤ 134217728) :
    Calls Tryz.prog 49 #[.agg #[.pointer (some ⟨p, 0, none⟩), .int .i64 l.k, .int .i64 l.e, .int .i64 l.a, .int .i64 l.b, .int .i64 l.c, .int .i64 l.eo, .int .i64 l.bo, .int .i64 l.s, .int .i64 l.g, .int .i64 off]] w fun e w' => e = .returned (.agg #[.pointer (some ⟨p, 0, none⟩), .int .i64 l.k, .int .i64 l.e, .int .i64 l.a, .int .i64 l.b, .int .i64 l.c, .int .i64 l.eo, .int .i64 l.bo, .int .i64 l.s, .int .i64 l.g, .int .i64 (off + 32)]) ∧ Keeps w w' (fun _ => False) := by
  have hA := fun W => at_any p l (off + 32) W
  have hw2 : IntKind.i64.wrap (off + 32) = off + 32 := by rw [IntKind.wrap_i64]; omega
  have hw4 : wrap64 (off + 32) = off + 32 := by unfold wrap64; omega
  go_enter Tryz.func49, Tryz.ntmps49
  go_wp2_with fail
  refine alloc2 (P := fun W => Calls _ _ _ W _) fun W0 hb hr hz K0 => ?_
  refine (hA _).mono ?_
  rintro r w1 ⟨rfl, k1⟩
  clear hA hw2 hw4
  have hr1 := k1.blk hr
  have K1 : Keeps w w1 (fun _ => False) := K0.trans k1 (fun _ _ e => e)
  obtain ⟨⟨d0, d1, d2, d3, d4, d5, d6, d7, d8, d9, d10⟩, f0, f1, f2, f3, f4, f5, f6, f7, f8, f9, f10⟩ := eleven_cells hr1
  go_wp2_with fail
  refine eleven_set hr1 K1 (fun h => by omega) (P := fun w9 => bodyPost _ _ _ _ _ w9) fun w9 h9 k9 _ => ?_
  obtain ⟨⟨e0, e1, e2, e3, e4, e5, e6, e7, e8, e9, e10⟩, -⟩ := eleven_cells h9
  exact bodyPost_ret (v := .agg #[.pointer (some ⟨p, 0, none⟩), .int .i64 l.k, .int .i64 l.e, .int .i64 l.a, .int .i64 l.b, .int .i64 l.c, .int .i64 l.eo, .int .i64 l.bo, .int .i64 l.s, .int .i64 l.g, .int .i64 (off + 32)]) (by simp [results, Tryz.results49, go_sem, e0, e1, e2, e3, e4, e5, e6, e7, e8, e9, e10]) rfl ⟨rfl, k9⟩


set_option maxRecDepth 100000 in
set_option maxHeartbeats 2000000 in
theorem sset_any {w : World} {p : Nat} {F : Nat → Prop} {d : AD} (hA : Arena w p F d) (hF : d.Fine) (hFl : ∀ k, F k → k < w.heap.size) (l : Lay) (off i v : Int) (h0 : 0 ≤ off) (h1 : off ≤ 134217728) (hi0 : 0 ≤ i) (hi : i ≤ 8) :
    Calls Tryz.prog 48 #[.agg #[.pointer (some ⟨p, 0, none⟩), .int .i64 l.k, .int .i64 l.e, .int .i64 l.a, .int .i64 l.b, .int .i64 l.c, .int .i64 l.eo, .int .i64 l.bo, .int .i64 l.s, .int .i64 l.g, .int .i64 off], .int .i64 i, .int .i64 v] w fun e w' => ErrPost w p F (storeR d (off + i * 8) 8 (u64of v)).1 (storeR d (off + i * 8) 8 (u64of v)).2 e w' := by
  have hT := fun W => sat_any p l off i W h0 h1 hi0 hi
  have hS := fun V (k : Keeps w V (fun _ => False)) => astore_any (hA.keeps k (fun _ _ _ e => e)) hF (off + i * 8) 8 (u64of v) (fitsI_mk (by omega) (by omega)) (fitsI_mk (by omega) (by omega))
  generalize storeR d (off + i * 8) 8 (u64of v) = R at *
  obtain ⟨x, d'⟩ := R
  have hu : IntKind.u64.wrap v = ((u64of v : Nat) : Int) := by
    rw [u64of_eq, IntKind.wrap_u64]
  generalize off + i * 8 = y at *
  generalize u64of v = u at *
  go_enter Tryz.func48, Tryz.ntmps48
  go_wp2_with fail
  refine alloc1 (P := fun W => Code.wp _ _ _ _ W) fun W0 hb hz K0 => ?_
  have C1 := c11_of hb
  have hnB : ¬ F w.heap.size := fun q => Nat.lt_irrefl _ (hFl _ q)
  go_region_held3 (fun w' => w'.cell? ⟨w.heap.size, 0, none⟩ = some (.pointer (some ⟨p, 0, none⟩)) ∧ w'.cell? ⟨w.heap.size, 1, none⟩ = some (.int .i64 l.k) ∧ w'.cell? ⟨w.heap.size, 2, none⟩ = some (.int .i64 l.e) ∧ w'.cell? ⟨w.heap.size, 3, none⟩ = some (.int .i64 l.a) ∧ w'.cell? ⟨w.heap.size, 4, none⟩ = some (.int .i64 l.b) ∧ w'.cell? ⟨w.heap.size, 5, none⟩ = some (.int .i64 l.c) ∧ w'.cell? ⟨w.heap.size, 6, none⟩ = some (.int .i64 l.eo) ∧ w'.cell? ⟨w.heap.size, 7, none⟩ = some (.int .i64 l.bo) ∧ w'.cell? ⟨w.heap.size, 8, none⟩ = some (.int .i64 l.s) ∧ w'.cell? ⟨w.heap.size, 9, none⟩ = some (.int .i64 l.g) ∧ w'.cell? ⟨w.heap.size, 10, none⟩ = some (.int .i64 off)) (first | exact c11_drew C1 | exact c11_keeps T2.2 hnB (by assumption) | exact c11_keeps kS id (by assumption) | assumption)
    (first | (go_at_call 38; refine (hT _).mono ?_; rintro r wS ⟨rfl, kS⟩) | (go_at_call 77; have K2 : Keeps w wS (fun _ => False) := (K0.drew).trans kS (fun _ _ e => e); refine (hS _ K2).mono ?_; rintro r w2 ⟨rfl, T2⟩))
  have T9 : Hid (Turned w w2 p F d') := hide (Turned.pre K2 T2)
  clear T2 hS hT
  go_wp2_with fail
  go_ret
  exact ⟨rfl, T9.out⟩
end Go.Proofs.YtgckinldnnckoaaGreatDoor
