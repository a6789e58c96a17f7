import Derived.Test.YtdnkjbbpfhegdaaGreatMg10
/-
  Fill.
-/
namespace Go.Proofs.YtdnkjbbpfhegdaaGreat
open Go.RowKit Go.Shelf Ly Ct
set_option linter.unusedVariables false

theorem texts_five {W : World} {b : Nat} {e1 e2 e3 e4 e5 : ByteArray} {t : TypeId} (h : W.heap[b]? = some (.cells #[.string e1, .string e2, .string e3, .string e4, .string e5] t)) : TextsAt W (some ⟨b, 0, none⟩) [e1, e2, e3, e4, e5] := by
  intro j hj
  refine ⟨b, 0, rfl, heap_lt h, ?_⟩
  have hj5 : j < 5 := hj
  have : j = 0 ∨ j = 1 ∨ j = 2 ∨ j = 3 ∨ j = 4 := by omega
  rcases this with rfl | rfl | rfl | rfl | rfl <;> simp [World.cell?, h]
theorem str_size (x : List UInt8) : (strOf x).size = x.length := by simp [strOf, ByteArray.size]
theorem str_list (x : List UInt8) : (strOf x).data.toList = x := by simp [strOf]
theorem joined_slot (l : Lay) (key elem : ByteArray) (b : Nat) : joined [key, strOf (zeros (l.eo - l.k).toNat), elem, strOf (zeros (l.bo - l.eo - l.e).toNat), strOf (leBytes b 8)] = slotB l key.data.toList elem.data.toList b := by
  rw [joined_eq]
  simp only [List.map_cons, List.map_nil, str_list, List.flatten_cons, List.flatten_nil, List.append_nil]
  unfold slotB
  simp
theorem lens_slot {l : Lay} (hv : validB l = true) {key elem : ByteArray} (hk : (key.size : Int) = l.k) (he : (elem.size : Int) = l.e) (b : Nat) : lens [key, strOf (zeros (l.eo - l.k).toNat), elem, strOf (zeros (l.bo - l.eo - l.e).toNat), strOf (leBytes b 8)] = l.s.toNat := by
  have h1 := joined_length [key, strOf (zeros (l.eo - l.k).toNat), elem, strOf (zeros (l.bo - l.eo - l.e).toNat), strOf (leBytes b 8)]
  rw [joined_slot, slotB_len hv b (by rw [data_len]; exact hk) (by rw [data_len]; exact he)] at h1
  exact h1.symm

set_option maxHeartbeats 4000000 in
theorem gfill_no {w : World} {p : Nat} (l : Lay) (off i tag : Int) (key elem : ByteArray) (birth : Int) (h : fillErr l i tag key.size elem.size birth ≠ 0) :
    Calls Tryz.prog 12 #[.agg #[.pointer (some ⟨p, 0, none⟩), .int .i64 l.k, .int .i64 l.e, .int .i64 l.a, .int .i64 l.b, .int .i64 l.c, .int .i64 l.eo, .int .i64 l.bo, .int .i64 l.s, .int .i64 l.g, .int .i64 off], .int .i64 i, .int .i64 tag, .string key, .string elem, .int .i64 birth] w fun e w' => e = .returned (.int .i64 (fillErr l i tag key.size elem.size birth)) ∧ Keeps w w' (fun _ => False) := by
  have hI := fun W => gslot_any i W
  have hT := fun W => gtag_any tag W
  unfold fillErr at h ⊢
  by_cases hi : 0 ≤ i ∧ i < 8
  · rw [decide_eq_true hi] at hI
    rw [if_neg (not_not_intro hi)] at h ⊢
    by_cases ht : 0 ≤ tag ∧ tag ≤ 127
    · rw [decide_eq_true ht] at hT
      rw [if_neg (not_not_intro ht)] at h ⊢
      by_cases hk : (key.size : Int) = l.k
      · rw [if_neg (not_not_intro hk)] at h ⊢
        by_cases he : (elem.size : Int) = l.e
        · rw [if_neg (not_not_intro he)] at h ⊢
          by_cases hb : birth < 0
          · rw [if_pos hb]
            clear h
            go_enter Tryz.func12, Tryz.ntmps12
            go_wp2_with fail
            refine (hI _).mono ?_
            rintro r w1 ⟨rfl, rfl⟩
            go_wp2_with fail
            refine (hT _).mono ?_
            rintro r w1 ⟨rfl, rfl⟩
            go_wp2_with fail
            go_ret
            exact ⟨rfl, (Keeps.refl w (fun _ => False)).alloc _⟩
          · rw [if_neg hb] at h
            exact absurd rfl h
        · rw [if_pos he]
          have he' : (((elem.size : Nat) : Int) != l.e) = true := by simpa using he
          clear h
          go_enter Tryz.func12, Tryz.ntmps12
          go_wp2_with fail
          refine (hI _).mono ?_
          rintro r w1 ⟨rfl, rfl⟩
          go_wp2_with fail
          refine (hT _).mono ?_
          rintro r w1 ⟨rfl, rfl⟩
          go_wp2_with fail
          go_ret
          exact ⟨rfl, (Keeps.refl w (fun _ => False)).alloc _⟩
      · rw [if_pos hk]
        have hk' : (((key.size : Nat) : Int) != l.k) = true := by simpa using hk
        clear h
        go_enter Tryz.func12, Tryz.ntmps12
        go_wp2_with fail
        refine (hI _).mono ?_
        rintro r w1 ⟨rfl, rfl⟩
        go_wp2_with fail
        refine (hT _).mono ?_
        rintro r w1 ⟨rfl, rfl⟩
        go_wp2_with fail
        go_ret
        exact ⟨rfl, (Keeps.refl w (fun _ => False)).alloc _⟩
    · rw [decide_eq_false ht] at hT
      rw [if_pos ht]
      clear h
      go_enter Tryz.func12, Tryz.ntmps12
      go_wp2_with fail
      refine (hI _).mono ?_
      rintro r w1 ⟨rfl, rfl⟩
      go_wp2_with fail
      refine (hT _).mono ?_
      rintro r w1 ⟨rfl, rfl⟩
      go_wp2_with fail
      go_ret
      exact ⟨rfl, (Keeps.refl w (fun _ => False)).alloc _⟩
  · rw [decide_eq_false hi] at hI
    rw [if_pos hi]
    clear h
    go_enter Tryz.func12, Tryz.ntmps12
    go_wp2_with fail
    refine (hI _).mono ?_
    rintro r w1 ⟨rfl, rfl⟩
    go_wp2_with fail
    go_ret
    exact ⟨rfl, (Keeps.refl w (fun _ => False)).alloc _⟩

theorem fillErr_zero {l : Lay} {i tag ks es birth : Int} (h : fillErr l i tag ks es birth = 0) : (0 ≤ i ∧ i < 8) ∧ (0 ≤ tag ∧ tag ≤ 127) ∧ ks = l.k ∧ es = l.e ∧ 0 ≤ birth := by
  unfold fillErr at h
  split at h
  · omega
  split at h
  · omega
  split at h
  · omega
  split at h
  · omega
  split at h
  · omega
  rename_i h1 h2 h3 h4 h5
  exact ⟨Decidable.not_not.1 h1, Decidable.not_not.1 h2, Decidable.not_not.1 h3, Decidable.not_not.1 h4, by omega⟩

set_option maxHeartbeats 8000000 in
set_option maxRecDepth 100000 in
theorem gfill_any {w : World} {p : Nat} {F : Nat → Prop} {d : AD} (hA : Arena w p F d) (hF : d.Fine) (hSm : d.small) (hFl : ∀ k, F k → k < w.heap.size) (l : Lay) (off i tag : Int) (key elem : ByteArray) (birth : Int) (hb9 : birth ≤ 9223372036854775807) (ho : fitsI off) (hn : fitsI l.g) :
    Calls Tryz.prog 12 #[.agg #[.pointer (some ⟨p, 0, none⟩), .int .i64 l.k, .int .i64 l.e, .int .i64 l.a, .int .i64 l.b, .int .i64 l.c, .int .i64 l.eo, .int .i64 l.bo, .int .i64 l.s, .int .i64 l.g, .int .i64 off], .int .i64 i, .int .i64 tag, .string key, .string elem, .int .i64 birth] w fun e w' => ErrPost w p F (fillG d l off i tag key elem birth).1 (fillG d l off i tag key elem birth).2 e w' := by
  by_cases hE : fillErr l i tag key.size elem.size birth = 0
  · obtain ⟨hi, htg, hk, he, hb0⟩ := fillErr_zero hE
    have hI := fun W => gslot_any i W
    have hT := fun W => gtag_any tag W
    rw [decide_eq_true hi] at hI
    rw [decide_eq_true htg] at hT
    have hk' : (((key.size : Nat) : Int) != l.k) = false := by simpa using hk
    have he' : (((elem.size : Nat) : Int) != l.e) = false := by simpa using he
    have hb' : ¬ birth < 0 := by omega
    have hW := fun V (k : Keeps w V (fun _ => False)) => word_any (hA.keeps k (fun _ _ _ e => e)) hF l off ho hn
    have hnB : ¬ F w.heap.size := fun q => Nat.lt_irrefl _ (hFl _ q)
    unfold wordV at hW
    unfold fillG
    rw [if_pos hE]
    clear hE
    cases ht : thereB d l off
    · simp only [ht, Bool.false_eq_true, if_false] at hW
      simp only [Bool.false_eq_true, if_false]
      go_enter Tryz.func12, Tryz.ntmps12
      go_wp2_with fail
      refine (hI _).mono ?_
      rintro r w1 ⟨rfl, rfl⟩
      go_wp2_with fail
      refine (hT _).mono ?_
      rintro r w1 ⟨rfl, rfl⟩
      go_wp2_with fail
      refine (hW _ ((Keeps.refl w (fun _ => False)).alloc _)).mono ?_
      rintro r w1 ⟨rfl, k1⟩
      have K1 : Keeps w w1 (fun _ => False) := ((Keeps.refl w (fun _ => False)).alloc _).trans k1 (fun _ _ e => e)
      have T1 := hide (hA.same K1)
      clear hI hW k1 hA
      go_wp2_with fail
      go_ret
      exact ⟨rfl, T1.out⟩
    · simp only [ht, if_true] at hW
      simp only [if_true]
      obtain ⟨hv, hg, ho1, ho2, ho3⟩ := there_more hF ht
      have hvm := valid_more hv
      obtain ⟨n, rfl⟩ := Int.eq_ofNat_of_zero_le hi.1
      obtain ⟨tg, rfl⟩ := Int.eq_ofNat_of_zero_le htg.1
      obtain ⟨bi, rfl⟩ := Int.eq_ofNat_of_zero_le hb0
      have hn8 : n < 8 := by omega
      have hm := mul_bound hi.1 hi.2 (s := l.s) (by omega) (by omega)
      have hS := fun W => slotAt_any p l off (n : Int) W hv hi.1 hi.2 (by omega) (by omega)
      have hgs := good_sub hg (x := 8 + (n : Int) * l.s + 0) (m := l.s) (by omega) (by omega) (by omega)
      obtain ⟨g1, hg1⟩ := Int.eq_ofNat_of_zero_le (show 0 ≤ l.eo - l.k by omega)
      obtain ⟨g2, hg2⟩ := Int.eq_ofNat_of_zero_le (show 0 ≤ l.bo - l.eo - l.e by omega)
      have hz1 := fun W => gzeros_any g1 W (by omega)
      have hz2 := fun W => gzeros_any g2 W (by omega)
      have hbb := fun W => birthBytes_any bi W (by omega)
      rw [Int.toNat_natCast, Int.toNat_natCast, Int.toNat_natCast]
      have hjs := joined_slot l key elem bi
      have hls := lens_slot hv hk he bi
      rw [hg1, hg2, Int.toNat_natCast, Int.toNat_natCast] at hjs hls
      have hwr : ∀ V b c (k : Keeps w V (fun _ => False)) (hc : 5 ≤ c) (t : TypeId), V.heap[b]? = some (.cells #[.string key, .string (strOf (zeros g1)), .string elem, .string (strOf (zeros g2)), .string (strOf (leBytes bi 8))] t) → Calls Tryz.prog 32 #[.pointer (some ⟨p, 0, none⟩), .int .i64 (off + (8 + (n : Int) * l.s + 0)), .slice (some ⟨b, 0, none⟩) 5 c] V fun e w' => ErrPost V p F 0 (d.bytes (splice d.bs (off + (8 + (n : Int) * l.s + 0)).toNat (slotB l key.data.toList elem.data.toList bi))) e w' := fun V b c k hc t hb => by
        have := awrite_any joinOK (hA.keeps k (fun _ _ _ e => e)) hF hSm (off + (8 + (n : Int) * l.s + 0)) (some ⟨b, 0, none⟩) c [key, strOf (zeros g1), elem, strOf (zeros g2), strOf (leBytes bi 8)] (fitsI_mk (by omega) (by omega)) (by simp) (by simpa using hc) (by
          intro t ht
          simp only [List.mem_cons, List.not_mem_nil, or_false] at ht
          rcases ht with rfl | rfl | rfl | rfl | rfl
          · omega
          · rw [str_size, zeros_length]; omega
          · omega
          · rw [str_size, zeros_length]; omega
          · rw [str_size, leBytes_length]; omega) (texts_five hb)
        have hWr : writeR d (off + (8 + (n : Int) * l.s + 0)) [key, strOf (zeros g1), elem, strOf (zeros g2), strOf (leBytes bi 8)] = (0, d.bytes (splice d.bs (off + (8 + (n : Int) * l.s + 0)).toNat (slotB l key.data.toList elem.data.toList bi))) := by
          unfold writeR
          rw [hls, hjs, show ((l.s.toNat : Nat) : Int) = l.s by omega, hgs, decide_eq_true (show l.s.toNat ≤ 1048576 by omega)]
          rfl
        rw [hWr] at this
        exact this
      have hsl := slotB_len hv bi (show ((key.data.toList.length : Nat) : Int) = l.k by rw [data_len]; exact hk) (show ((elem.data.toList.length : Nat) : Int) = l.e by rw [data_len]; exact he)
      have hF1 : (d.bytes (splice d.bs (off + (8 + (n : Int) * l.s + 0)).toNat (slotB l key.data.toList elem.data.toList bi))).Fine := hF.bytes (splice_length (by rw [hsl]; omega))
      have hres : laidG d l off n (slotB l key.data.toList elem.data.toList bi) (setN (wordN d off) n tg) = wordG (d.bytes (splice d.bs (off + (8 + (n : Int) * l.s + 0)).toNat (slotB l key.data.toList elem.data.toList bi))) off (setN (wordN d off) n tg) := rfl
      rw [hres]
      have hSt := fun V => set_in (wordN d off) n tg wordN_lt hn8 (by omega) V
      generalize wordN d off = WW at *
      generalize hd1 : d.bytes (splice d.bs (off + (8 + (n : Int) * l.s + 0)).toNat (slotB l key.data.toList elem.data.toList bi)) = d1 at *
      have hsw : ∀ V {G : Nat → Prop} (hA1 : Arena V p G d1), Calls Tryz.prog 36 #[.agg #[.pointer (some ⟨p, 0, none⟩), .int .i64 l.k, .int .i64 l.e, .int .i64 l.a, .int .i64 l.b, .int .i64 l.c, .int .i64 l.eo, .int .i64 l.bo, .int .i64 l.s, .int .i64 l.g, .int .i64 off], .int .u64 ((setN WW n tg : Nat) : Int)] V fun e w' => ErrPost V p G 0 (wordG d1 off (setN WW n tg)) e w' := fun V G hA1 => by
        have := setWord_any hA1 hF1 l off ho (setN WW n tg)
        rw [store_word hg hv (fun a n => by rw [← hd1]; rfl)] at this
        exact this
      generalize off + (8 + (n : Int) * l.s + 0) = Y at *
      generalize setN WW n tg = W2 at *
      generalize strOf (zeros g1) = Z1 at *
      generalize strOf (zeros g2) = Z2 at *
      generalize strOf (leBytes bi 8) = BB at *
      have v1 : IntKind.i64.wrap (l.eo - l.k) = (g1 : Int) := by rw [IntKind.wrap_i64]; omega
      have v2 : IntKind.i64.wrap (l.bo - l.eo) = l.bo - l.eo := by rw [IntKind.wrap_i64]; omega
      have v3 : IntKind.i64.wrap (l.bo - l.eo - l.e) = (g2 : Int) := by rw [IntKind.wrap_i64]; omega
      clear hd1 hres hm hgs hjs hls hsl hvm hg hv hg1 hg2 ho3 ho2 hb0
      go_enter Tryz.func12, Tryz.ntmps12
      go_wp2_with fail
      refine (hI _).mono ?_
      rintro r w1 ⟨rfl, rfl⟩
      go_wp2_with fail
      refine (hT _).mono ?_
      rintro r w1 ⟨rfl, rfl⟩
      go_wp2_with fail
      refine alloc1 (P := fun W => Calls _ _ _ W _) fun W0 hb hz K0 => ?_
      refine (hW _ K0).mono ?_
      rintro r w1 ⟨rfl, k1⟩
      have K1 : Keeps w w1 (fun _ => False) := K0.trans k1 (fun _ _ e => e)
      have C1 := c11_of (k1.blk hb)
      have hzz : w.heap.size < w1.heap.size := by have := k1.size; omega
      clear hI hW hT
      have C1' := C1
      obtain ⟨c0, c1, c2, c3, c4, c5, c6, c7, c8, c9, c10⟩ := C1'
      go_wp2_with fail
      clear c0 c1 c2 c3 c4 c5 c6 c7 c8 c9 c10
      go_region_held3 (fun w' => w'.cell? ⟨w.heap.size, 0, none⟩ = some (.pointer (some ⟨p, 0, none⟩)) ∧ w'.cell? ⟨w.heap.size, 1, none⟩ = some (.int .i64 l.k) ∧ w'.cell? ⟨w.heap.size, 2, none⟩ = some (.int .i64 l.e) ∧ w'.cell? ⟨w.heap.size, 3, none⟩ = some (.int .i64 l.a) ∧ w'.cell? ⟨w.heap.size, 4, none⟩ = some (.int .i64 l.b) ∧ w'.cell? ⟨w.heap.size, 5, none⟩ = some (.int .i64 l.c) ∧ w'.cell? ⟨w.heap.size, 6, none⟩ = some (.int .i64 l.eo) ∧ w'.cell? ⟨w.heap.size, 7, none⟩ = some (.int .i64 l.bo) ∧ w'.cell? ⟨w.heap.size, 8, none⟩ = some (.int .i64 l.s) ∧ w'.cell? ⟨w.heap.size, 9, none⟩ = some (.int .i64 l.g) ∧ w'.cell? ⟨w.heap.size, 10, none⟩ = some (.int .i64 off)) (first | exact c11_drew C1 | exact c11_keeps T2.2 hnB (by assumption) | exact c11_keeps kb id (by assumption) | exact c11_keeps kz2 id (by assumption) | exact c11_keeps kz1 id (by assumption) | exact c11_keeps kS id (by assumption) | exact c11_keeps ((Keeps.refl _ (fun _ => False)).alloc _) id (by assumption) | assumption) (first | (go_at_call 33; refine (hS _).mono ?_; rintro r wS ⟨rfl, kS⟩) | (go_at_call 34; refine (hz1 _).mono ?_; rintro r wz1 ⟨rfl, kz1⟩) | (go_at_call 34; refine (hz2 _).mono ?_; rintro r wz2 ⟨rfl, kz2⟩) | (go_at_call 35; refine (hbb _).mono ?_; rintro r wb ⟨rfl, kb⟩; have K2 : Keeps w wb (fun _ => False) := (((K1.drew.trans kS (fun _ _ e => e)).trans kz1 (fun _ _ e => e)).trans kz2 (fun _ _ e => e)).trans kb (fun _ _ e => e)) | (go_at_call 32; refine (hwr _ _ _ (K2.alloc _) (Nat.le_refl _) _ (heap_alloc_new _ _)).mono ?_; rintro r w2 ⟨rfl, T2⟩))
      have C2 : C11 w.heap.size p l off w2 := by assumption
      have A2 := T2.arena
      have hzs : w.heap.size < wb.heap.size := by
        have a1 := kS.size
        have a2 := kz1.size
        have a3 := kz2.size
        have a4 := kb.size
        simp at a1
        omega
      have hnB2 : ¬ ((F w.heap.size ∨ (wb.alloc (.cells #[.string key, .string Z1, .string elem, .string Z2, .string BB] 9)).heap.size ≤ w.heap.size) ∧ w.heap.size < w2.heap.size) := fun q => q.1.elim hnB (fun q => by simp at q; omega)
      clear hS hz1 hz2 hbb hwr
      go_wp2_with fail
      go_region_held3 (fun w' => w'.cell? ⟨w.heap.size, 0, none⟩ = some (.pointer (some ⟨p, 0, none⟩)) ∧ w'.cell? ⟨w.heap.size, 1, none⟩ = some (.int .i64 l.k) ∧ w'.cell? ⟨w.heap.size, 2, none⟩ = some (.int .i64 l.e) ∧ w'.cell? ⟨w.heap.size, 3, none⟩ = some (.int .i64 l.a) ∧ w'.cell? ⟨w.heap.size, 4, none⟩ = some (.int .i64 l.b) ∧ w'.cell? ⟨w.heap.size, 5, none⟩ = some (.int .i64 l.c) ∧ w'.cell? ⟨w.heap.size, 6, none⟩ = some (.int .i64 l.eo) ∧ w'.cell? ⟨w.heap.size, 7, none⟩ = some (.int .i64 l.bo) ∧ w'.cell? ⟨w.heap.size, 8, none⟩ = some (.int .i64 l.s) ∧ w'.cell? ⟨w.heap.size, 9, none⟩ = some (.int .i64 l.g) ∧ w'.cell? ⟨w.heap.size, 10, none⟩ = some (.int .i64 off)) (first | exact c11_drew C2 | exact c11_keeps T3.2 hnB2 (by assumption) | exact c11_keeps (Keeps.ofKp kE) id (by assumption) | assumption) (first | (go_at_call 37; refine (hSt _).mono ?_; rintro r wE ⟨rfl, kE⟩) | (go_at_call 36; have K3 : Keeps w2 wE (fun _ => False) := (Keeps.refl _ (fun _ => False)).drew.trans (Keeps.ofKp kE) (fun _ _ e => e); refine (hsw _ (A2.keeps K3 (fun _ _ _ e => e))).mono ?_; rintro r w3 ⟨rfl, T3⟩))
      have T9 : Hid (Turned w w3 p F _) := hide (Turned.pre (K2.alloc _) (T2.then (Turned.pre K3 T3)))
      clear T2 T3 A2
      go_wp2_with fail
      go_ret
      exact ⟨rfl, T9.out⟩
  · have hr : fillG d l off i tag key elem birth = (fillErr l i tag key.size elem.size birth, d) := if_neg hE
    rw [hr]
    refine (gfill_no l off i tag key elem birth hE).mono ?_
    rintro r w1 ⟨rfl, k1⟩
    exact ⟨rfl, hA.same k1⟩
end Go.Proofs.YtdnkjbbpfhegdaaGreat
/-
  The law's own small functions.
-/
namespace Go.Proofs.YtdnkjbbpfhegdaaGreat
open Go.RowKit Go.Shelf Ly Ct
set_option linter.unusedVariables false

theorem mod6_any (n m : Int) (w : World) (h0 : 1 ≤ m) (h1 : m ≤ 1000) (hn : (Lit.int .i64 n).wf = true) :
    Calls Tryz.prog 9 #[.int .i64 n, .int .i64 m] w fun r w' => r = .returned (.int .i64 (n % m)) ∧ w' = w := by
  have hne : ¬ m = 0 := by omega
  have hnb : -9223372036854775808 ≤ n ∧ n ≤ 9223372036854775807 := by
    simp [Lit.wf, IntKind.min, IntKind.max, IntKind.signed, IntKind.bits] at hn
    omega
  by_cases hs : 0 ≤ n
  · have t1 : n.tmod m = n % m := Int.tmod_eq_emod_of_nonneg hs
    have h2 : 0 ≤ n % m := Int.emod_nonneg n hne
    have h3 : n % m < m := Int.emod_lt_of_pos n (by omega)
    generalize n % m = R at *
    have h4 : ¬ R < 0 := by omega
    go_enter Tryz.func9, Tryz.ntmps9
    go_wp2_with fail
    go_ret
    exact ⟨rfl, rfl⟩
  · have t0 : n.tmod m = - ((-n) % m) := by
      have := Int.neg_tmod (-n) m
      rw [Int.neg_neg] at this
      rw [this, Int.tmod_eq_emod_of_nonneg (by omega)]
    have t2 : n % m = if m ∣ -n then 0 else (m.natAbs : Int) - (-n) % m := by
      have := Int.neg_emod (a := -n) (b := m)
      rw [Int.neg_neg] at this
      exact this
    have h2 : 0 ≤ (-n) % m := Int.emod_nonneg (-n) hne
    have h3 : (-n) % m < m := Int.emod_lt_of_pos (-n) (by omega)
    by_cases hd : m ∣ -n
    · have hz : (-n) % m = 0 := Int.emod_eq_zero_of_dvd hd
      rw [if_pos hd] at t2
      rw [hz] at t0
      rw [t2]
      have t1 : n.tmod m = 0 := t0
      clear t0 t2 h2 h3 hz
      go_enter Tryz.func9, Tryz.ntmps9
      go_wp2_with fail
      go_ret
      exact ⟨rfl, rfl⟩
    · have hz : ¬ (-n) % m = 0 := fun h => hd (Int.dvd_of_emod_eq_zero h)
      rw [if_neg hd] at t2
      generalize (-n) % m = R at *
      generalize n % m = V at *
      have hV : V = -R + m := by omega
      have h4 : -R < 0 := by omega
      have h5 : 0 < R := by omega
      subst hV
      clear t2 hz hd
      go_enter Tryz.func9, Tryz.ntmps9
      go_wp2_with fail
      go_ret
      exact ⟨rfl, rfl⟩

theorem wf_of {n : Int} (h : -9223372036854775808 ≤ n ∧ n ≤ 9223372036854775807) : (Lit.int .i64 n).wf = true := by
  simp [Lit.wf, IntKind.min, IntKind.max, IntKind.signed, IntKind.bits]
  omega

def Mod6 (n m N : Int) : Prop := (Lit.int .i64 n).wf = true ∧ 1 ≤ m ∧ m ≤ 1000 ∧ n % m = N
theorem mod6_is {n m N : Int} (h : Mod6 n m N) (w : World) : Calls Tryz.prog 9 #[.int .i64 n, .int .i64 m] w fun r w' => r = .returned (.int .i64 N) ∧ w' = w := by
  obtain ⟨h1, h2, h3, rfl⟩ := h
  exact mod6_any n m w h2 h3 h1

def birthD (n : Int) : Int := if n < 0 then -(n + 1) else n
theorem birthD_in {n : Int} (h : -9223372036854775808 ≤ n ∧ n ≤ 9223372036854775807) : 0 ≤ birthD n ∧ birthD n ≤ 9223372036854775807 := by
  unfold birthD
  split <;> omega
theorem birth6_any (n : Int) (w : World) (h : -9223372036854775808 ≤ n ∧ n ≤ 9223372036854775807) : Calls Tryz.prog 23 #[.int .i64 n] w fun e w' => e = .returned (.int .i64 (birthD n)) ∧ w' = w := by
  unfold birthD
  obtain ⟨h1, h2⟩ := h
  by_cases hn : n < 0
  · rw [if_pos hn]
    have v1 : IntKind.i64.wrap (n + 1) = n + 1 := by rw [IntKind.wrap_i64]; omega
    have v2 : IntKind.i64.wrap (-(n + 1)) = -(n + 1) := by rw [IntKind.wrap_i64]; omega
    go_enter Tryz.func23, Tryz.ntmps23
    go_wp2_with fail
    go_ret
    exact ⟨rfl, rfl⟩
  · rw [if_neg hn]
    go_enter Tryz.func23, Tryz.ntmps23
    go_wp2_with fail
    go_ret
    exact ⟨rfl, rfl⟩

/-- A text j times. -/
def rep (s : ByteArray) : Nat → ByteArray
  | 0 => ByteArray.empty
  | j + 1 => rep s j ++ s
theorem rep_size (s : ByteArray) : ∀ j, (rep s j).size = j * s.size
  | 0 => by simp [rep]
  | j + 1 => by
    show (rep s j ++ s).size = _
    rw [ByteArray.size_append, rep_size s j, Nat.add_mul, Nat.one_mul]
def wideS (s : ByteArray) : ByteArray := if s.size = 0 then ⟨#[46]⟩ else s
theorem wideS_pos (s : ByteArray) : 1 ≤ (wideS s).size := by
  unfold wideS
  split
  · decide
  · omega
def wideD (s : ByteArray) (n : Nat) : ByteArray := (rep (wideS s) ((n + (wideS s).size - 1) / (wideS s).size)).extract 0 n
theorem wide_rounds {n z j : Nat} (hz : 1 ≤ z) (h1 : n ≤ j * z) (h2 : ∀ i, i < j → i * z < n) : (n + z - 1) / z = j := by
  rw [Nat.div_eq_iff (by omega)]
  cases j with
  | zero => omega
  | succ j =>
    have := h2 j (by omega)
    rw [Nat.add_mul, Nat.one_mul] at h1 ⊢
    omega
theorem wideD_size (s : ByteArray) (n : Nat) : (wideD s n).size = n := by
  unfold wideD
  rw [ByteArray.size_extract, rep_size]
  have hz := wideS_pos s
  generalize (wideS s).size = z at *
  have h1 : n ≤ (n + z - 1) / z * z := by
    have := Nat.div_add_mod (n + z - 1) z
    have h2 := Nat.mod_lt (n + z - 1) (show 0 < z by omega)
    rw [Nat.mul_comm] at this
    omega
  omega

def lenV : Value → Nat
  | .string b => b.size
  | _ => 0
set_option maxHeartbeats 1000000 in
theorem wide_any (s : ByteArray) (n : Nat) (w : World) (hs : s.size ≤ 1125899906842624) (hn : n ≤ 1000000) : Calls Tryz.prog 16 #[.string s, .int .i64 (n : Int)] w fun e w' => e = .returned (.string (wideD s n)) ∧ w' = w := by
  have hz := wideS_pos s
  have hwd : ∀ j, n ≤ j * (wideS s).size → (∀ i, i < j → i * (wideS s).size < n) → (rep (wideS s) j).extract 0 n = wideD s n := fun j h1 h2 => by
    unfold wideD
    rw [wide_rounds hz h1 h2]
  have hzs : (wideS s).size ≤ 1125899906842624 := by
    unfold wideS
    split
    · decide
    · exact hs
  generalize wideD s n = R at *
  by_cases h0 : s.size = 0
  · have hw : wideS s = ⟨#[46]⟩ := if_pos h0
    obtain rfl : s = ⟨#[]⟩ := by
      cases s with
      | mk a =>
        have : a.size = 0 := h0
        rw [Array.eq_empty_of_size_eq_zero this]
    rw [hw] at hz hwd hzs
    go_enter Tryz.func16, Tryz.ntmps16
    go_wp2_with fail
    go_loop [5] (fun t => ∃ j, t = .string (rep ⟨#[46]⟩ j) ∧ (∀ i, i < j → i * 1 < n)) (fun t => n - lenV t)
    case atStart => exact ⟨0, rfl, fun i hi => absurd hi (Nat.not_lt_zero _)⟩
    case round =>
      obtain ⟨j, rfl, hj⟩ := hrel
      have hsz := rep_size ⟨#[46]⟩ j
      have hs1 : ByteArray.size ⟨#[46]⟩ = 1 := rfl
      rw [hs1] at hsz hwd
      by_cases hlt : j * 1 < n
      · have hlt' : ((rep ⟨#[46]⟩ j).size : Int) < (n : Int) := by omega
        have hadd := run_string_add_sum (P := Tryz.prog) (w := w) (rep ⟨#[46]⟩ j) ⟨#[46]⟩ (by rw [hs1]; omega)
        have hst : rep ⟨#[46]⟩ (j + 1) = rep ⟨#[46]⟩ j ++ ⟨#[46]⟩ := rfl
        have hsz2 := rep_size ⟨#[46]⟩ (j + 1)
        rw [← hst] at hadd
        rw [hs1] at hsz2
        generalize rep ⟨#[46]⟩ j = T at *
        generalize hT2 : rep ⟨#[46]⟩ (j + 1) = T2 at *
        clear hst
        go_wp2_with fail
        go_round
        case rel => exact ⟨j + 1, by rw [hT2], fun i hi => by omega⟩
        case measure => simp [lenV]; omega
      · have hlt' : ¬ ((rep ⟨#[46]⟩ j).size : Int) < (n : Int) := by omega
        have hR := hwd j (by omega) hj
        generalize rep ⟨#[46]⟩ j = T at *
        have hle : n ≤ T.size := by omega
        go_wp2_with fail
        go_ret
        exact ⟨rfl, rfl⟩
  · have hw : wideS s = s := if_neg h0
    rw [hw] at hz hwd hzs
    have hne : ¬ s = ⟨#[]⟩ := fun e => h0 (by rw [e]; rfl)
    have hne2 : s.toList.isEmpty = false := by
      rw [ByteArray.toList_eq]
      cases hq : s.data.toList with
      | nil => exact absurd (show s.size = 0 by rw [← data_len, hq]; rfl) h0
      | cons a r => rfl
    go_enter Tryz.func16, Tryz.ntmps16
    go_wp2_with fail
    go_loop [5] (fun t => ∃ j, t = .string (rep s j) ∧ (∀ i, i < j → i * s.size < n)) (fun t => n - lenV t)
    case atStart => exact ⟨0, rfl, fun i hi => absurd hi (Nat.not_lt_zero _)⟩
    case round =>
      obtain ⟨j, rfl, hj⟩ := hrel
      have hsz := rep_size s j
      obtain ⟨A, hA⟩ : ∃ A, j * s.size = A := ⟨_, rfl⟩
      have hA2 : (j + 1) * s.size = A + s.size := by rw [Nat.add_mul, Nat.one_mul, hA]
      by_cases hlt : A < n
      · have hj2 : Hid (∀ i, i < j + 1 → i * s.size < n) := fun i hi => by
          by_cases hij : i < j
          · exact hj i hij
          · have : i = j := by omega
            rw [this, hA]
            exact hlt
        have hlt' : ((rep s j).size : Int) < (n : Int) := by rw [hsz, hA]; omega
        have hadd := run_string_add_sum (P := Tryz.prog) (w := w) (rep s j) s (by rw [hsz, hA]; omega)
        have hst : rep s (j + 1) = rep s j ++ s := rfl
        have hsz2 := rep_size s (j + 1)
        rw [← hst] at hadd
        rw [hA2] at hsz2
        rw [hA] at hsz
        generalize rep s j = T at *
        generalize hT2 : rep s (j + 1) = T2 at *
        clear hst hwd hj hA hA2
        go_wp2_with fail
        go_round
        case rel => exact ⟨j + 1, by rw [hT2], hj2.out⟩
        case measure => simp [lenV]; omega
      · have hlt' : ¬ ((rep s j).size : Int) < (n : Int) := by rw [hsz, hA]; omega
        have hR := hwd j (by omega) hj
        rw [hA] at hsz
        clear hwd hj hA hA2
        generalize rep s j = T at *
        have hle : n ≤ T.size := by omega
        go_wp2_with fail
        go_ret
        exact ⟨rfl, rfl⟩
end Go.Proofs.YtdnkjbbpfhegdaaGreat
/-
  A group between two others, as data.
-/
namespace Go.Proofs.YtdnkjbbpfhegdaaGreat
open Go.RowKit Go.Shelf Ly Ct
set_option linter.unusedVariables false

/-- A group with strange bytes on either side. -/
structure DeskD (d : AD) (l : Lay) (off : Nat) (c : Nat → GC) : Prop where
  grp : GroupAt d l off c
  fine : d.Fine
  small : d.small
  ge : l.g.toNat ≤ off
  good3 : d.goodB ((off - l.g.toNat : Nat) : Int) (3 * l.g) = true
  before : d.span ((off - l.g.toNat : Nat) : Int) ((l.g.toNat : Nat) : Int) = same l.g.toNat 165
  behind : d.span ((off + l.g.toNat : Nat) : Int) ((l.g.toNat : Nat) : Int) = same l.g.toNat 165
theorem DeskD.turn {d d' : AD} {l : Lay} {off : Nat} {c c' : Nat → GC} (h : DeskD d l off c) (g : GroupAt d' l off c') (t : Touch d d' off l.g.toNat) : DeskD d' l off c' :=
  ⟨g, t.fine h.fine, t.small h.small, h.ge, (t.goodB _ _).trans h.good3, (t.span (Or.inl (by have := h.ge; omega))).trans h.before, (t.span (Or.inr (Nat.le_refl _))).trans h.behind⟩

/-- One block of c bytes in an arena of 32768. -/
def dk (c : Nat) : AD := (AD.fresh 32768).took c
theorem dk_L (c : Nat) : (dk c).L = [(16, c)] := by
  simp [dk, AD.took, AD.entered, AD.added, AD.fresh, zeros_length]
theorem dk_bs (c : Nat) : (dk c).bs = zeros (16 + c) := by
  show zeros 16 ++ zeros c = _
  simp only [zeros, List.replicate_append_replicate]
theorem dk_fine {c : Nat} (h0 : 0 < c) (h : c ≤ 32768) : (dk c).Fine :=
  (AD.fresh_fine (show 32768 ≤ 2097152 by omega)).took h0 (by simp [AD.fresh, zeros_length]; omega) (by simp [AD.fresh]; omega)
theorem dk_small {c : Nat} (h : c ≤ 32768) : (dk c).small := by
  intro x hx
  rw [dk_L] at hx
  simp at hx
  rw [hx]
  show c ≤ 1048576
  omega
theorem dk_lv (c : Nat) : (dk c).lv 16 = some (c : Int) := by
  simp [dk, AD.took, AD.entered, AD.added, AD.fresh, zeros_length, upd]
theorem dk_good {c : Nat} {off n : Int} (h1 : 0 ≤ n) (h2 : 16 ≤ off) (h3 : off + n ≤ 16 + c) : (dk c).goodB off n = true :=
  AD.goodB_mk (x := (16, c)) (by rw [dk_L]; simp) (dk_lv c) h1 (by simpa using h2) (by simp; omega)
theorem same_part (m j k : Nat) (u : UInt8) (h : j + k ≤ m) : ((same m u).drop j).take k = same k u := by
  unfold same
  rw [List.drop_replicate, List.take_replicate]
  congr 1
  omega
/-- The bytes that the law lays, and the group in their midst. -/
def dkF (c g : Nat) : AD := (dk c).bytes (splice (dk c).bs 16 (same (3 * g) 165))
theorem desk_data {c g : Nat} {l : Lay} (hv : validB l = true) (hg : l.g = (g : Int)) (hc : 3 * g ≤ c) (hc2 : c ≤ 32768) (hc0 : 0 < c) :
    (resetG (dkF c g) l ((16 + g : Nat) : Int)).1 = 0 ∧ DeskD (resetG (dkF c g) l ((16 + g : Nat) : Int)).2 l (16 + g) (fun _ => GC.zero) := by
  have hgn : l.g.toNat = g := by omega
  have hl : (dk c).bs.length = 16 + c := by rw [dk_bs, zeros_length]
  have hsl : (same (3 * g) 165).length = 3 * g := same_length _ _
  have hF : (dkF c g).Fine := (dk_fine hc0 hc2).bytes (splice_length (by rw [hsl, hl]; omega))
  have hgood : ∀ off n : Int, 0 ≤ n → 16 ≤ off → off + n ≤ 16 + c → (dkF c g).goodB off n = true := fun off n h1 h2 h3 => dk_good h1 h2 h3
  have ht : thereB (dkF c g) l ((16 + g : Nat) : Int) = true := by
    unfold thereB
    rw [hv, hgood _ _ (by omega) (by omega) (by omega)]
    rfl
  obtain ⟨r1, r2, r3⟩ := reset_group hF ht
  have hsp : ∀ j, j + g ≤ 3 * g → (dkF c g).span ((16 + j : Nat) : Int) ((g : Nat) : Int) = same g 165 := fun j hj => by
    rw [span_nat]
    show ((splice (dk c).bs 16 (same (3 * g) 165)).drop (16 + j)).take g = _
    rw [span_part (n := 3 * g) hj, span_in (by rw [hsl, hl]; omega) hsl.symm, same_part _ _ _ _ hj]
  rw [hgn] at r3
  refine ⟨r1, r2, r3.fine hF, r3.small (dk_small hc2), by omega, ?_, ?_, ?_⟩
  · rw [r3.goodB, hgn, hgood _ _ (by omega) (by omega) (by omega)]
  · rw [hgn, r3.span (Or.inl (by omega))]
    have := hsp 0 (by omega)
    rw [show 16 + g - g = 16 + 0 by omega]
    exact this
  · rw [hgn, r3.span (Or.inr (by omega))]
    have := hsp (2 * g) (by omega)
    rw [show 16 + g + g = 16 + 2 * g by omega]
    exact this
end Go.Proofs.YtdnkjbbpfhegdaaGreat
/-
  The law's desk.
-/
namespace Go.Proofs.YtdnkjbbpfhegdaaGreat
open Go.RowKit Go.Shelf Ly Ct
set_option linter.unusedVariables false

set_option maxHeartbeats 1000000 in
set_option maxRecDepth 100000 in
theorem elem_any (K E B : Int) (v : Value) (w : World) (hE : (Lit.int .i64 E).wf = true) (hB : (Lit.int .i64 B).wf = true) : Calls Tryz.prog 18 #[.agg #[.int .i64 K, .int .i64 E, .int .i64 B, v]] w fun e w' => e = .returned (.int .i64 (2 ^ (B % 4).toNat * (E % 4))) ∧ Keeps w w' (fun _ => False) := by
  have hm1 : Mod6 B 4 (B % 4) := ⟨hB, by omega, by omega, rfl⟩
  have hm2 : Mod6 E 4 (E % 4) := ⟨hE, by omega, by omega, rfl⟩
  have b1 : 0 ≤ B % 4 ∧ B % 4 < 4 := by omega
  have b2 : 0 ≤ E % 4 ∧ E % 4 < 4 := by omega
  generalize B % 4 = m at *
  generalize E % 4 = q at *
  obtain ⟨q0, q3⟩ := b2
  have hm : m = 0 ∨ m = 1 ∨ m = 2 ∨ m = 3 := by omega
  rcases hm with rfl | rfl | rfl | rfl
  all_goals (
    go_enter Tryz.func18, Tryz.ntmps18
    go_wp2_with fail
    go_region_held3 (fun w' => w'.cell? ⟨w.heap.size, 1, none⟩ = some (.int .i64 E) ∧ w'.cell? ⟨w.heap.size, 2, none⟩ = some (.int .i64 B)) (go_keep) (first | (go_at_call 9; refine (mod6_is (by assumption) _).mono ?_; rintro r w5 ⟨rfl, rfl⟩))
    go_wp2_with fail
    go_ret
    refine ⟨?_, ((Keeps.refl w (fun _ => False)).alloc _).drew⟩
    simp
    rw [IntKind.wrap_i64, IntKind.wrap_i64]
    omega)

/-- The layout of a desk. -/
def deskK (K : Int) : Int := 1 + K % 24
def deskB (B : Int) : Int := 2 ^ (B % 4).toNat
def deskE (E B : Int) : Int := 2 ^ (B % 4).toNat * (E % 4)
def deskL (K E B : Int) : Lay := laidD (deskK K) (deskE E B) 1 (deskB B) 16
theorem deskB_one (B : Int) : deskB B = 1 ∨ deskB B = 2 ∨ deskB B = 4 ∨ deskB B = 8 := by
  unfold deskB
  have : B % 4 = 0 ∨ B % 4 = 1 ∨ B % 4 = 2 ∨ B % 4 = 3 := by omega
  rcases this with h | h | h | h <;> rw [h] <;> decide
theorem desk_err (K E B : Int) : errN (deskK K) (deskE E B) 1 (deskB B) 16 = 0 := by
  have hb := deskB_one B
  have hE : deskE E B = deskB B * (E % 4) := rfl
  have hk : 1 ≤ deskK K ∧ deskK K ≤ 24 := by unfold deskK; omega
  have he : 0 ≤ deskE E B ∧ deskE E B ≤ 24 := by
    rw [hE]
    rcases hb with h | h | h | h <;> rw [h] <;> omega
  have ha : al (deskK K) 1 = true := by
    unfold al
    rw [show pw 1 1 8 = true by decide]
    simp
  have hb2 : al (deskE E B) (deskB B) = true := by
    unfold al
    rw [pw8.2 hb, hE]
    simp
  unfold errN
  rw [if_neg (by omega), if_neg (by omega), if_neg (by rw [ha, hb2]; simp), if_neg (by decide)]
theorem desk_valid (K E B : Int) : validB (deskL K E B) = true := decide_eq_true ⟨desk_err K E B, rfl⟩
theorem desk_g (K E B : Int) : 136 ≤ (deskL K E B).g ∧ (deskL K E B).g ≤ 520 := by
  have hv := valid_more (desk_valid K E B)
  have hb := deskB_one B
  have hE : deskE E B = deskB B * (E % 4) := rfl
  have hk : 1 ≤ deskK K ∧ deskK K ≤ 24 := by unfold deskK; omega
  have he : 0 ≤ deskE E B ∧ deskE E B ≤ 24 := by
    rw [hE]
    rcases hb with h | h | h | h <;> rw [h] <;> omega
  have u1 := up_bound (x := deskK K) hb
  have u2 := up_bound (x := up (deskK K) (deskB B) + deskE E B) (a := 8) (by omega)
  have f2 : (deskL K E B).bo = up (up (deskK K) (deskB B) + deskE E B) 8 := rfl
  omega
theorem class_small : ∀ n : Fin 1561, classN n.val ≤ 2048 := by decide +kernel

theorem cells5 {V : World} {b : Nat} {v0 v1 v2 v3 v4 : Value} {t : TypeId} (h : V.heap[b]? = some (.cells #[v0, v1, v2, v3, v4] t)) : V.cell? ⟨b, 0, none⟩ = some v0 ∧ V.cell? ⟨b, 0 + 1, none⟩ = some v1 ∧ V.cell? ⟨b, 0 + 2, none⟩ = some v2 ∧ V.cell? ⟨b, 0 + 3, none⟩ = some v3 ∧ V.cell? ⟨b, 0 + 4, none⟩ = some v4 := by
  simp [World.cell?, h]
abbrev R4 (b : Nat) (v0 v1 v2 v3 : Value) (W : World) : Prop := W.cell? ⟨b, 0, none⟩ = some v0 ∧ W.cell? ⟨b, 1, none⟩ = some v1 ∧ W.cell? ⟨b, 2, none⟩ = some v2 ∧ W.cell? ⟨b, 3, none⟩ = some v3
theorem r4_of {W : World} {b : Nat} {v0 v1 v2 v3 : Value} {t : TypeId} (h : W.heap[b]? = some (.cells #[v0, v1, v2, v3] t)) : R4 b v0 v1 v2 v3 W := by
  unfold R4
  simp [World.cell?, h]
theorem cell_keeps {W W1 : World} {S : Nat → Prop} (k : Keeps W W1 S) {a : Addr} {v : Value} (h : W.cell? a = some v) (hS : ¬ S a.block) : W1.cell? a = some v := by
  have : a.block < W.heap.size := by
    refine Nat.lt_of_not_le fun hn => ?_
    rw [World.cell?, Array.getElem?_eq_none hn] at h
    cases h
  exact (World.cell?_of_block (w := W) (a := a) (k.block _ this hS)).trans h
theorem r4_keeps {W W1 : World} {b : Nat} {v0 v1 v2 v3 : Value} {S : Nat → Prop} (k : Keeps W W1 S) (hS : ¬ S b) (h : R4 b v0 v1 v2 v3 W) : R4 b v0 v1 v2 v3 W1 :=
  ⟨cell_keeps k h.1 hS, cell_keeps k h.2.1 hS, cell_keeps k h.2.2.1 hS, cell_keeps k h.2.2.2 hS⟩
theorem r4_drew {W : World} {b : Nat} {v0 v1 v2 v3 : Value} (h : R4 b v0 v1 v2 v3 W) : R4 b v0 v1 v2 v3 W.drew := r4_keeps (Keeps.refl W (fun _ => False)).drew id h

theorem r4_call {W W1 : World} {b : Nat} {v0 v1 v2 v3 : Value} (k : Keeps W W1 (fun _ => False)) (h : R4 b v0 v1 v2 v3 W) : R4 b v0 v1 v2 v3 W1 := r4_keeps k id h
theorem r4_alloc {W : World} {b : Nat} {v0 v1 v2 v3 : Value} (h : R4 b v0 v1 v2 v3 W) (o : Obj) : R4 b v0 v1 v2 v3 (W.alloc o) := r4_keeps ((Keeps.refl W (fun _ => False)).alloc o) id h
/-- Nine stores into one block. -/
abbrev set9 (w : World) (b : Nat) (v0 v1 v2 v3 v4 v5 v6 v7 v8 : Value) : World := ((((((((w.setCell ⟨b, 0, none⟩ v0).setCell ⟨b, 1, none⟩ v1).setCell ⟨b, 2, none⟩ v2).setCell ⟨b, 3, none⟩ v3).setCell ⟨b, 4, none⟩ v4).setCell ⟨b, 5, none⟩ v5).setCell ⟨b, 6, none⟩ v6).setCell ⟨b, 7, none⟩ v7).setCell ⟨b, 8, none⟩ v8
theorem set9_keeps (w : World) (b : Nat) (v0 v1 v2 v3 v4 v5 v6 v7 v8 : Value) : Keeps w (set9 w b v0 v1 v2 v3 v4 v5 v6 v7 v8) (fun i => i = b) :=
  (((((((((Keeps.refl w (fun i => i = b)).setCell _ (fun _ => rfl) _).setCell _ (fun _ => rfl) _).setCell _ (fun _ => rfl) _).setCell _ (fun _ => rfl) _).setCell _ (fun _ => rfl) _).setCell _ (fun _ => rfl) _).setCell _ (fun _ => rfl) _).setCell _ (fun _ => rfl) _).setCell _ (fun _ => rfl) _
theorem r4_set9 {W : World} {b bl : Nat} {v0 v1 v2 v3 : Value} {x0 x1 x2 x3 x4 x5 x6 x7 x8 : Value} (hne : ¬ b = bl) (h : R4 b v0 v1 v2 v3 W) : R4 b v0 v1 v2 v3 (set9 W bl x0 x1 x2 x3 x4 x5 x6 x7 x8) := r4_keeps (set9_keeps W bl x0 x1 x2 x3 x4 x5 x6 x7 x8) hne h
theorem set9_blk {w : World} {b : Nat} {u0 u1 u2 u3 u4 u5 u6 u7 u8 v0 v1 v2 v3 v4 v5 v6 v7 v8 : Value} {t : TypeId} (h : w.heap[b]? = some (.cells #[u0, u1, u2, u3, u4, u5, u6, u7, u8] t)) : (set9 w b v0 v1 v2 v3 v4 v5 v6 v7 v8).heap[b]? = some (.cells #[v0, v1, v2, v3, v4, v5, v6, v7, v8] t) := by
  have h0 := set_one' h 0 v0 (by simp)
  have h1 := set_one' h0 1 v1 (by simp)
  have h2 := set_one' h1 2 v2 (by simp)
  have h3 := set_one' h2 3 v3 (by simp)
  have h4 := set_one' h3 4 v4 (by simp)
  have h5 := set_one' h4 5 v5 (by simp)
  have h6 := set_one' h5 6 v6 (by simp)
  have h7 := set_one' h6 7 v7 (by simp)
  have h8 := set_one' h7 8 v8 (by simp)
  exact h8
theorem set9_any {w0 w : World} {b : Nat} {u0 u1 u2 u3 u4 u5 u6 u7 u8 v0 v1 v2 v3 v4 v5 v6 v7 v8 : Value} {t : TypeId} (h : w.heap[b]? = some (.cells #[u0, u1, u2, u3, u4, u5, u6, u7, u8] t)) (k : Keeps w0 w (fun _ => False)) (hb : w0.heap.size ≤ b)
    {P : World → Prop} (hP : ∀ W, W.heap[b]? = some (.cells #[v0, v1, v2, v3, v4, v5, v6, v7, v8] t) → Keeps w0 W (fun _ => False) → P W) : P (set9 w b v0 v1 v2 v3 v4 v5 v6 v7 v8) :=
  hP _ (set9_blk h) (k.trans (set9_keeps w b v0 v1 v2 v3 v4 v5 v6 v7 v8) (fun i hi e => by omega))
theorem nine_cells {w : World} {b : Nat} {v0 v1 v2 v3 v4 v5 v6 v7 v8 : Value} {t : TypeId} (h : w.heap[b]? = some (.cells #[v0, v1, v2, v3, v4, v5, v6, v7, v8] t)) :
    w.cell? ⟨b, 0, none⟩ = some v0 ∧ w.cell? ⟨b, 1, none⟩ = some v1 ∧ w.cell? ⟨b, 2, none⟩ = some v2 ∧ w.cell? ⟨b, 3, none⟩ = some v3 ∧ w.cell? ⟨b, 4, none⟩ = some v4 ∧ w.cell? ⟨b, 5, none⟩ = some v5 ∧ w.cell? ⟨b, 6, none⟩ = some v6 ∧ w.cell? ⟨b, 7, none⟩ = some v7 ∧ w.cell? ⟨b, 8, none⟩ = some v8 ∧
    w.frozen? ⟨b, 0, none⟩ = false ∧ w.frozen? ⟨b, 1, none⟩ = false ∧ w.frozen? ⟨b, 2, none⟩ = false ∧ w.frozen? ⟨b, 3, none⟩ = false ∧ w.frozen? ⟨b, 4, none⟩ = false ∧ w.frozen? ⟨b, 5, none⟩ = false ∧ w.frozen? ⟨b, 6, none⟩ = false ∧ w.frozen? ⟨b, 7, none⟩ = false ∧ w.frozen? ⟨b, 8, none⟩ = false := by
  simp [World.cell?, World.frozen?, h]
theorem heap_new_drew (w : World) (o : Obj) : ((w.alloc o).drew).heap[w.heap.size]? = some o := heap_alloc_new w o
theorem heap_alloc_old {w : World} {b : Nat} {x : Obj} (h : w.heap[b]? = some x) (o : Obj) : (w.alloc o).heap[b]? = some x := (Below.heap_alloc w o b (heap_lt h)).trans h

/-- Twelve stores into one block. -/
abbrev set12 (w : World) (b : Nat) (v0 v1 v2 v3 v4 v5 v6 v7 v8 v9 v10 v11 : Value) : World := (((((((((((w.setCell ⟨b, 0, none⟩ v0).setCell ⟨b, 1, none⟩ v1).setCell ⟨b, 2, none⟩ v2).setCell ⟨b, 3, none⟩ v3).setCell ⟨b, 4, none⟩ v4).setCell ⟨b, 5, none⟩ v5).setCell ⟨b, 6, none⟩ v6).setCell ⟨b, 7, none⟩ v7).setCell ⟨b, 8, none⟩ v8).setCell ⟨b, 9, none⟩ v9).setCell ⟨b, 10, none⟩ v10).setCell ⟨b, 11, none⟩ v11
theorem set12_keeps (w : World) (b : Nat) (v0 v1 v2 v3 v4 v5 v6 v7 v8 v9 v10 v11 : Value) : Keeps w (set12 w b v0 v1 v2 v3 v4 v5 v6 v7 v8 v9 v10 v11) (fun i => i = b) :=
  ((((((((((((Keeps.refl w (fun i => i = b)).setCell _ (fun _ => rfl) _).setCell _ (fun _ => rfl) _).setCell _ (fun _ => rfl) _).setCell _ (fun _ => rfl) _).setCell _ (fun _ => rfl) _).setCell _ (fun _ => rfl) _).setCell _ (fun _ => rfl) _).setCell _ (fun _ => rfl) _).setCell _ (fun _ => rfl) _).setCell _ (fun _ => rfl) _).setCell _ (fun _ => rfl) _).setCell _ (fun _ => rfl) _
theorem set12_blk {w : World} {b : Nat} {u0 u1 u2 u3 u4 u5 u6 u7 u8 u9 u10 u11 v0 v1 v2 v3 v4 v5 v6 v7 v8 v9 v10 v11 : Value} {t : TypeId} (h : w.heap[b]? = some (.cells #[u0, u1, u2, u3, u4, u5, u6, u7, u8, u9, u10, u11] t)) : (set12 w b v0 v1 v2 v3 v4 v5 v6 v7 v8 v9 v10 v11).heap[b]? = some (.cells #[v0, v1, v2, v3, v4, v5, v6, v7, v8, v9, v10, v11] t) := by
  have h0 := set_one' h 0 v0 (by simp)
  have h1 := set_one' h0 1 v1 (by simp)
  have h2 := set_one' h1 2 v2 (by simp)
  have h3 := set_one' h2 3 v3 (by simp)
  have h4 := set_one' h3 4 v4 (by simp)
  have h5 := set_one' h4 5 v5 (by simp)
  have h6 := set_one' h5 6 v6 (by simp)
  have h7 := set_one' h6 7 v7 (by simp)
  have h8 := set_one' h7 8 v8 (by simp)
  have h9 := set_one' h8 9 v9 (by simp)
  have h10 := set_one' h9 10 v10 (by simp)
  have h11 := set_one' h10 11 v11 (by simp)
  exact h11
theorem set12_any {w : World} {b : Nat} {u0 u1 u2 u3 u4 u5 u6 u7 u8 u9 u10 u11 v0 v1 v2 v3 v4 v5 v6 v7 v8 v9 v10 v11 : Value} {t : TypeId} (h : w.heap[b]? = some (.cells #[u0, u1, u2, u3, u4, u5, u6, u7, u8, u9, u10, u11] t)) {P : World → Prop} (hP : ∀ W, W.heap[b]? = some (.cells #[v0, v1, v2, v3, v4, v5, v6, v7, v8, v9, v10, v11] t) → Keeps w W (fun i => i = b) → P W) : P (set12 w b v0 v1 v2 v3 v4 v5 v6 v7 v8 v9 v10 v11) := hP _ (set12_blk h) (set12_keeps w b v0 v1 v2 v3 v4 v5 v6 v7 v8 v9 v10 v11)
theorem twelve_cells {w : World} {b : Nat} {v0 v1 v2 v3 v4 v5 v6 v7 v8 v9 v10 v11 : Value} {t : TypeId} (h : w.heap[b]? = some (.cells #[v0, v1, v2, v3, v4, v5, v6, v7, v8, v9, v10, v11] t)) : w.cell? ⟨b, 0, none⟩ = some v0 ∧ w.cell? ⟨b, 1, none⟩ = some v1 ∧ w.cell? ⟨b, 2, none⟩ = some v2 ∧ w.cell? ⟨b, 3, none⟩ = some v3 ∧ w.cell? ⟨b, 4, none⟩ = some v4 ∧ w.cell? ⟨b, 5, none⟩ = some v5 ∧ w.cell? ⟨b, 6, none⟩ = some v6 ∧ w.cell? ⟨b, 7, none⟩ = some v7 ∧ w.cell? ⟨b, 8, none⟩ = some v8 ∧ w.cell? ⟨b, 9, none⟩ = some v9 ∧ w.cell? ⟨b, 10, none⟩ = some v10 ∧ w.cell? ⟨b, 11, none⟩ = some v11 ∧ w.frozen? ⟨b, 0, none⟩ = false ∧ w.frozen? ⟨b, 1, none⟩ = false ∧ w.frozen? ⟨b, 2, none⟩ = false ∧ w.frozen? ⟨b, 3, none⟩ = false ∧ w.frozen? ⟨b, 4, none⟩ = false ∧ w.frozen? ⟨b, 5, none⟩ = false ∧ w.frozen? ⟨b, 6, none⟩ = false ∧ w.frozen? ⟨b, 7, none⟩ = false ∧ w.frozen? ⟨b, 8, none⟩ = false ∧ w.frozen? ⟨b, 9, none⟩ = false ∧ w.frozen? ⟨b, 10, none⟩ = false ∧ w.frozen? ⟨b, 11, none⟩ = false := by
  simp [World.cell?, World.frozen?, h]
abbrev N9 (b : Nat) (v0 v1 v2 v3 v4 v5 v6 v7 v8 : Value) (w : World) : Prop := w.cell? ⟨b, 0, none⟩ = some v0 ∧ w.cell? ⟨b, 1, none⟩ = some v1 ∧ w.cell? ⟨b, 2, none⟩ = some v2 ∧ w.cell? ⟨b, 3, none⟩ = some v3 ∧ w.cell? ⟨b, 4, none⟩ = some v4 ∧ w.cell? ⟨b, 5, none⟩ = some v5 ∧ w.cell? ⟨b, 6, none⟩ = some v6 ∧ w.cell? ⟨b, 7, none⟩ = some v7 ∧ w.cell? ⟨b, 8, none⟩ = some v8
abbrev N12 (b : Nat) (v0 v1 v2 v3 v4 v5 v6 v7 v8 v9 v10 v11 : Value) (w : World) : Prop := w.cell? ⟨b, 0, none⟩ = some v0 ∧ w.cell? ⟨b, 1, none⟩ = some v1 ∧ w.cell? ⟨b, 2, none⟩ = some v2 ∧ w.cell? ⟨b, 3, none⟩ = some v3 ∧ w.cell? ⟨b, 4, none⟩ = some v4 ∧ w.cell? ⟨b, 5, none⟩ = some v5 ∧ w.cell? ⟨b, 6, none⟩ = some v6 ∧ w.cell? ⟨b, 7, none⟩ = some v7 ∧ w.cell? ⟨b, 8, none⟩ = some v8 ∧ w.cell? ⟨b, 9, none⟩ = some v9 ∧ w.cell? ⟨b, 10, none⟩ = some v10 ∧ w.cell? ⟨b, 11, none⟩ = some v11
theorem n9_keeps {w w1 : World} {b : Nat} {v0 v1 v2 v3 v4 v5 v6 v7 v8 : Value} {S : Nat → Prop} (k : Keeps w w1 S) (hS : ¬ S b) (h : N9 b v0 v1 v2 v3 v4 v5 v6 v7 v8 w) : N9 b v0 v1 v2 v3 v4 v5 v6 v7 v8 w1 := by
  obtain ⟨h0, h1, h2, h3, h4, h5, h6, h7, h8⟩ := h
  exact ⟨cell_keeps k h0 hS, cell_keeps k h1 hS, cell_keeps k h2 hS, cell_keeps k h3 hS, cell_keeps k h4 hS, cell_keeps k h5 hS, cell_keeps k h6 hS, cell_keeps k h7 hS, cell_keeps k h8 hS⟩
theorem n12_keeps {w w1 : World} {b : Nat} {v0 v1 v2 v3 v4 v5 v6 v7 v8 v9 v10 v11 : Value} {S : Nat → Prop} (k : Keeps w w1 S) (hS : ¬ S b) (h : N12 b v0 v1 v2 v3 v4 v5 v6 v7 v8 v9 v10 v11 w) : N12 b v0 v1 v2 v3 v4 v5 v6 v7 v8 v9 v10 v11 w1 := by
  obtain ⟨h0, h1, h2, h3, h4, h5, h6, h7, h8, h9, h10, h11⟩ := h
  exact ⟨cell_keeps k h0 hS, cell_keeps k h1 hS, cell_keeps k h2 hS, cell_keeps k h3 hS, cell_keeps k h4 hS, cell_keeps k h5 hS, cell_keeps k h6 hS, cell_keeps k h7 hS, cell_keeps k h8 hS, cell_keeps k h9 hS, cell_keeps k h10 hS, cell_keeps k h11 hS⟩
theorem n21_keeps {w w1 : World} {b c : Nat} {v0 v1 v2 v3 v4 v5 v6 v7 v8 u0 u1 u2 u3 u4 u5 u6 u7 u8 u9 u10 u11 : Value} {S : Nat → Prop} (k : Keeps w w1 S) (hb : ¬ S b) (hc : ¬ S c) (h : N9 b v0 v1 v2 v3 v4 v5 v6 v7 v8 w ∧ N12 c u0 u1 u2 u3 u4 u5 u6 u7 u8 u9 u10 u11 w) : N9 b v0 v1 v2 v3 v4 v5 v6 v7 v8 w1 ∧ N12 c u0 u1 u2 u3 u4 u5 u6 u7 u8 u9 u10 u11 w1 := ⟨n9_keeps k hb h.1, n12_keeps k hc h.2⟩
theorem n9_of {w : World} {b : Nat} {v0 v1 v2 v3 v4 v5 v6 v7 v8 : Value} {t : TypeId} (h : w.heap[b]? = some (.cells #[v0, v1, v2, v3, v4, v5, v6, v7, v8] t)) : N9 b v0 v1 v2 v3 v4 v5 v6 v7 v8 w := by
  unfold N9
  simp [World.cell?, h]
theorem n12_of {w : World} {b : Nat} {v0 v1 v2 v3 v4 v5 v6 v7 v8 v9 v10 v11 : Value} {t : TypeId} (h : w.heap[b]? = some (.cells #[v0, v1, v2, v3, v4, v5, v6, v7, v8, v9, v10, v11] t)) : N12 b v0 v1 v2 v3 v4 v5 v6 v7 v8 v9 v10 v11 w := by
  unfold N12
  simp [World.cell?, h]

end Go.Proofs.YtdnkjbbpfhegdaaGreat
