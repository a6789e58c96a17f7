import Derived.Test.YtmdnknbolgedgaaGreatDoorUn8
/-
  Reset.
-/
namespace Go.Proofs.YtmdnknbolgedgaaGreatDoor
open Go.RowKit Go.Shelf Ly Ct
set_option linter.unusedVariables false

theorem store_word {d : AD} {l : Lay} {off : Int} {d0 : AD} (hg : d0.goodB off l.g = true) (hv : validB l = true) (hd : ∀ a n, d.goodB a n = d0.goodB a n) (W : Nat) : storeR d off 8 W = (0, wordG d off W) := by
  have hvm := valid_more hv
  have hg8 : d.goodB off 8 = true := by
    have := good_sub hg (x := 0) (m := 8) (by omega) (by omega) (by omega)
    rw [Int.add_zero] at this
    rw [hd]
    exact this
  unfold storeR
  rw [hg8]
  rfl

set_option maxHeartbeats 4000000 in
theorem greset_any {w : World} {p : Nat} {F : Nat → Prop} {d : AD} (hA : Arena w p F d) (hF : d.Fine) (hFl : ∀ k, F k → k < w.heap.size) (l : Lay) (off : Int) (ho : fitsI off) (hn : fitsI l.g) :
    Calls Tryz.prog 70 #[.agg #[.pointer (some ⟨p, 0, none⟩), .int .i64 l.k, .int .i64 l.e, .int .i64 l.a, .int .i64 l.b, .int .i64 l.c, .int .i64 l.eo, .int .i64 l.bo, .int .i64 l.s, .int .i64 l.g, .int .i64 off]] w fun e w' => ErrPost w p F (resetG d l off).1 (resetG d l off).2 e w' := by
  have hT := fun V (k : Keeps w V (fun _ => False)) => there_any (hA.keeps k (fun _ _ _ e => e)) hF l off ho hn
  have hnB : ¬ F w.heap.size := fun q => Nat.lt_irrefl _ (hFl _ q)
  cases ht : thereB d l off
  · have hr : resetG d l off = (24, d) := by unfold resetG; rw [ht]; rfl
    rw [hr]
    simp only [ht] at hT
    go_enter Tryz.func70, Tryz.ntmps70
    go_wp2_with fail
    refine (hT _ ((Keeps.refl w (fun _ => False)).alloc _)).mono ?_
    rintro r w1 ⟨rfl, k1⟩
    have K1 : Keeps w w1 (fun _ => False) := ((Keeps.refl w (fun _ => False)).alloc _).trans k1 (fun _ _ e => e)
    have T1 := hide (hA.same K1)
    clear hT k1 hA
    go_wp2_with fail
    go_ret
    exact ⟨rfl, T1.out⟩
  · obtain ⟨hv, hg, ho1, ho2, ho3⟩ := there_more hF ht
    simp only [ht] at hT
    have hvm := valid_more hv
    have hfl : ∀ V (k : Keeps w V (fun _ => False)), Calls Tryz.prog 95 #[.pointer (some ⟨p, 0, none⟩), .int .i64 off, .int .i64 l.g, .int .u8 0] V fun e w' => ErrPost V p F 0 (d.bytes (splice d.bs off.toNat (zeros l.g.toNat))) e w' := fun V k => by
      have := afill_any (hA.keeps k (fun _ _ _ e => e)) hF off l.g 0 ho hn
      rw [show fillR d off l.g 0 = (0, d.bytes (splice d.bs off.toNat (zeros l.g.toNat))) from if_pos hg] at this
      exact this
    have hF1 : (d.bytes (splice d.bs off.toNat (zeros l.g.toNat))).Fine := hF.bytes (splice_length (by rw [zeros_length]; omega))
    have hres : resetG d l off = (0, wordG (d.bytes (splice d.bs off.toNat (zeros l.g.toNat))) off 9259542123273814144) := if_pos ht
    rw [hres]
    generalize hd1 : d.bytes (splice d.bs off.toNat (zeros l.g.toNat)) = d1 at *
    have hsw : ∀ V {G : Nat → Prop} (hA1 : Arena V p G d1), Calls Tryz.prog 85 #[.agg #[.pointer (some ⟨p, 0, none⟩), .int .i64 l.k, .int .i64 l.e, .int .i64 l.a, .int .i64 l.b, .int .i64 l.c, .int .i64 l.eo, .int .i64 l.bo, .int .i64 l.s, .int .i64 l.g, .int .i64 off], .int .u64 9259542123273814144] V fun e w' => ErrPost V p G 0 (wordG d1 off 9259542123273814144) e w' := fun V G hA1 => by
      have := setWord_any hA1 hF1 l off ho 9259542123273814144
      rw [store_word hg hv (fun a n => by rw [← hd1]; rfl)] at this
      exact this
    clear hd1 hres hvm
    go_enter Tryz.func70, Tryz.ntmps70
    go_wp2_with fail
    refine alloc1 (P := fun W => Calls _ _ _ W _) fun W0 hb hz K0 => ?_
    refine (hT _ K0).mono ?_
    rintro r w1 ⟨rfl, k1⟩
    have K1 : Keeps w w1 (fun _ => False) := K0.trans k1 (fun _ _ e => e)
    have C1 := c11_of (k1.blk hb)
    have C1' := C1
    obtain ⟨c0, c1, c2, c3, c4, c5, c6, c7, c8, c9, c10⟩ := C1'
    clear hT
    go_wp2_with fail
    refine (hfl _ K1).mono ?_
    rintro r w2 ⟨rfl, T2⟩
    have C2 := c11_keeps T2.2 hnB C1
    have hz2 : w.heap.size < w1.heap.size := by have := k1.size; omega
    clear c0 c1 c2 c3 c4 c5 c6 c7 c8 c9 c10
    have A2 := T2.arena
    have hnB2 : ¬ ((F w.heap.size ∨ w1.heap.size ≤ w.heap.size) ∧ w.heap.size < w2.heap.size) := fun q => q.1.elim hnB (fun q => by omega)
    go_wp2_with fail
    go_region_held3 (fun w' => w'.cell? ⟨w.heap.size, 0, none⟩ = some (.pointer (some ⟨p, 0, none⟩)) ∧ w'.cell? ⟨w.heap.size, 1, none⟩ = some (.int .i64 l.k) ∧ w'.cell? ⟨w.heap.size, 2, none⟩ = some (.int .i64 l.e) ∧ w'.cell? ⟨w.heap.size, 3, none⟩ = some (.int .i64 l.a) ∧ w'.cell? ⟨w.heap.size, 4, none⟩ = some (.int .i64 l.b) ∧ w'.cell? ⟨w.heap.size, 5, none⟩ = some (.int .i64 l.c) ∧ w'.cell? ⟨w.heap.size, 6, none⟩ = some (.int .i64 l.eo) ∧ w'.cell? ⟨w.heap.size, 7, none⟩ = some (.int .i64 l.bo) ∧ w'.cell? ⟨w.heap.size, 8, none⟩ = some (.int .i64 l.s) ∧ w'.cell? ⟨w.heap.size, 9, none⟩ = some (.int .i64 l.g) ∧ w'.cell? ⟨w.heap.size, 10, none⟩ = some (.int .i64 off)) (first | exact c11_drew C2 | exact c11_keeps T3.2 hnB2 (by assumption) | assumption)
      (first | (go_at_call 107; refine (empty_any _).mono ?_; rintro r wE ⟨rfl, rfl⟩) | (go_at_call 85; refine (hsw _ (A2.keeps (Keeps.refl _ (fun _ => False)).drew (fun _ _ _ e => e))).mono ?_; rintro r w3 ⟨rfl, T3⟩))
    have T9 : Hid (Turned w w3 p F _) := hide (Turned.pre K1 (T2.then (Turned.pre (Keeps.refl _ (fun _ => False)).drew T3)))
    clear T2 T3 A2
    go_wp2_with fail
    go_ret
    exact ⟨rfl, T9.out⟩
end Go.Proofs.YtmdnknbolgedgaaGreatDoor
/-
  Erase.
-/
namespace Go.Proofs.YtmdnknbolgedgaaGreatDoor
open Go.RowKit Go.Shelf Ly Ct
set_option linter.unusedVariables false

set_option maxHeartbeats 4000000 in
theorem gerase_any {w : World} {p : Nat} {F : Nat → Prop} {d : AD} (hA : Arena w p F d) (hF : d.Fine) (hFl : ∀ k, F k → k < w.heap.size) (l : Lay) (off i : Int) (t : Bool) (ho : fitsI off) (hn : fitsI l.g) :
    Calls Tryz.prog 59 #[.agg #[.pointer (some ⟨p, 0, none⟩), .int .i64 l.k, .int .i64 l.e, .int .i64 l.a, .int .i64 l.b, .int .i64 l.c, .int .i64 l.eo, .int .i64 l.bo, .int .i64 l.s, .int .i64 l.g, .int .i64 off], .int .i64 i, .bool t] w fun e w' => ErrPost w p F (eraseG d l off i t).1 (eraseG d l off i t).2 e w' := by
  have hI := fun W => gslot_any i W
  have hnB : ¬ F w.heap.size := fun q => Nat.lt_irrefl _ (hFl _ q)
  by_cases hi : 0 ≤ i ∧ i < 8
  · rw [decide_eq_true hi] at hI
    have hW := fun V (k : Keeps w V (fun _ => False)) => word_any (hA.keeps k (fun _ _ _ e => e)) hF l off ho hn
    unfold wordV at hW
    cases ht : thereB d l off
    · have hr : eraseG d l off i t = (24, d) := by unfold eraseG; rw [if_pos hi, ht]; rfl
      rw [hr]
      simp only [ht, Bool.false_eq_true, if_false] at hW
      go_enter Tryz.func59, Tryz.ntmps59
      go_wp2_with fail
      refine (hI _).mono ?_
      rintro r w1 ⟨rfl, rfl⟩
      go_wp2_with fail
      refine (hW _ ((Keeps.refl w (fun _ => False)).alloc _)).mono ?_
      rintro r w1 ⟨rfl, k1⟩
      have K1 : Keeps w w1 (fun _ => False) := ((Keeps.refl w (fun _ => False)).alloc _).trans k1 (fun _ _ e => e)
      have T1 := hide (hA.same K1)
      clear hI hW k1 hA
      go_wp2_with fail
      go_ret
      exact ⟨rfl, T1.out⟩
    · simp only [ht, if_true] at hW
      obtain ⟨hv, hg, ho1, ho2, ho3⟩ := there_more hF ht
      have hvm := valid_more hv
      obtain ⟨n, rfl⟩ := Int.eq_ofNat_of_zero_le hi.1
      have hn8 : n < 8 := by omega
      have hm := mul_bound hi.1 hi.2 (s := l.s) (by omega) (by omega)
      have hS := fun W => slotAt_any p l off (n : Int) W hv hi.1 hi.2 (by omega) (by omega)
      have hgs := good_sub hg (x := 8 + (n : Int) * l.s + 0) (m := l.s) (by omega) (by omega) (by omega)
      have hfl : ∀ V (k : Keeps w V (fun _ => False)), Calls Tryz.prog 95 #[.pointer (some ⟨p, 0, none⟩), .int .i64 (off + (8 + (n : Int) * l.s + 0)), .int .i64 l.s, .int .u8 0] V fun e w' => ErrPost V p F 0 (d.bytes (splice d.bs (off + (8 + (n : Int) * l.s + 0)).toNat (zeros l.s.toNat))) e w' := fun V k => by
        have := afill_any (hA.keeps k (fun _ _ _ e => e)) hF (off + (8 + (n : Int) * l.s + 0)) l.s 0 (fitsI_mk (by omega) (by omega)) (fitsI_mk (by omega) (by omega))
        rw [show fillR d (off + (8 + (n : Int) * l.s + 0)) l.s 0 = (0, d.bytes (splice d.bs (off + (8 + (n : Int) * l.s + 0)).toNat (zeros l.s.toNat))) from if_pos hgs] at this
        exact this
      have hF1 : (d.bytes (splice d.bs (off + (8 + (n : Int) * l.s + 0)).toNat (zeros l.s.toNat))).Fine := hF.bytes (splice_length (by rw [zeros_length]; omega))
      have hres : eraseG d l off n t = (0, wordG (d.bytes (splice d.bs (off + (8 + (n : Int) * l.s + 0)).toNat (zeros l.s.toNat))) off (setN (wordN d off) n (if t then 254 else 128))) := by
        unfold eraseG
        rw [if_pos hi, if_pos ht, Int.toNat_natCast]
        rfl
      rw [hres]
      have hct : (if t then 254 else 128) < 256 := by cases t <;> decide
      have hSt := fun V => set_in (wordN d off) n (if t then 254 else 128) wordN_lt hn8 hct V
      generalize wordN d off = WW at *
      generalize hd1 : d.bytes (splice d.bs (off + (8 + (n : Int) * l.s + 0)).toNat (zeros l.s.toNat)) = d1 at *
      have hsw : ∀ V {G : Nat → Prop} (hA1 : Arena V p G d1), Calls Tryz.prog 85 #[.agg #[.pointer (some ⟨p, 0, none⟩), .int .i64 l.k, .int .i64 l.e, .int .i64 l.a, .int .i64 l.b, .int .i64 l.c, .int .i64 l.eo, .int .i64 l.bo, .int .i64 l.s, .int .i64 l.g, .int .i64 off], .int .u64 ((setN WW n (if t then 254 else 128) : Nat) : Int)] V fun e w' => ErrPost V p G 0 (wordG d1 off (setN WW n (if t then 254 else 128))) e w' := fun V G hA1 => by
        have := setWord_any hA1 hF1 l off ho (setN WW n (if t then 254 else 128))
        rw [store_word hg hv (fun a n => by rw [← hd1]; rfl)] at this
        exact this
      generalize off + (8 + (n : Int) * l.s + 0) = Y at *
      generalize setN WW n (if t then 254 else 128) = W2 at *
      clear hd1 hres hvm hct hm hgs
      cases t
      all_goals (
        simp only [Bool.false_eq_true, if_false, if_true] at hSt
        go_enter Tryz.func59, Tryz.ntmps59
        go_wp2_with fail
        refine (hI _).mono ?_
        rintro r w1 ⟨rfl, rfl⟩
        go_wp2_with fail
        refine alloc1 (P := fun W => Calls _ _ _ W _) fun W0 hb hz K0 => ?_
        refine (hW _ K0).mono ?_
        rintro r w1 ⟨rfl, k1⟩
        have K1 : Keeps w w1 (fun _ => False) := K0.trans k1 (fun _ _ e => e)
        have C1 := c11_of (k1.blk hb)
        have hz2 : w.heap.size < w1.heap.size := by have := k1.size; omega
        clear hI hW
        go_wp2_with fail
        go_region_held3 (fun w' => w'.cell? ⟨w.heap.size, 0, none⟩ = some (.pointer (some ⟨p, 0, none⟩)) ∧ w'.cell? ⟨w.heap.size, 1, none⟩ = some (.int .i64 l.k) ∧ w'.cell? ⟨w.heap.size, 2, none⟩ = some (.int .i64 l.e) ∧ w'.cell? ⟨w.heap.size, 3, none⟩ = some (.int .i64 l.a) ∧ w'.cell? ⟨w.heap.size, 4, none⟩ = some (.int .i64 l.b) ∧ w'.cell? ⟨w.heap.size, 5, none⟩ = some (.int .i64 l.c) ∧ w'.cell? ⟨w.heap.size, 6, none⟩ = some (.int .i64 l.eo) ∧ w'.cell? ⟨w.heap.size, 7, none⟩ = some (.int .i64 l.bo) ∧ w'.cell? ⟨w.heap.size, 8, none⟩ = some (.int .i64 l.s) ∧ w'.cell? ⟨w.heap.size, 9, none⟩ = some (.int .i64 l.g) ∧ w'.cell? ⟨w.heap.size, 10, none⟩ = some (.int .i64 off)) (first | exact c11_drew C1 | exact c11_keeps T2.2 hnB (by assumption) | exact c11_keeps kS id (by assumption) | assumption)
          (first | (go_at_call 82; refine (hS _).mono ?_; rintro r wS ⟨rfl, kS⟩) | (go_at_call 95; have K2 : Keeps w wS (fun _ => False) := (K1.drew).trans kS (fun _ _ e => e); refine (hfl _ K2).mono ?_; rintro r w2 ⟨rfl, T2⟩))
        have C2 : C11 w.heap.size p l off w2 := by assumption
        have A2 := T2.arena
        have hzs : w.heap.size < wS.heap.size := by have := kS.size; simp at this; omega
        have hnB2 : ¬ ((F w.heap.size ∨ wS.heap.size ≤ w.heap.size) ∧ w.heap.size < w2.heap.size) := fun q => q.1.elim hnB (fun q => by omega)
        clear hS hfl
        go_wp2_with fail
        go_region_held3 (fun w' => w'.cell? ⟨w.heap.size, 0, none⟩ = some (.pointer (some ⟨p, 0, none⟩)) ∧ w'.cell? ⟨w.heap.size, 1, none⟩ = some (.int .i64 l.k) ∧ w'.cell? ⟨w.heap.size, 2, none⟩ = some (.int .i64 l.e) ∧ w'.cell? ⟨w.heap.size, 3, none⟩ = some (.int .i64 l.a) ∧ w'.cell? ⟨w.heap.size, 4, none⟩ = some (.int .i64 l.b) ∧ w'.cell? ⟨w.heap.size, 5, none⟩ = some (.int .i64 l.c) ∧ w'.cell? ⟨w.heap.size, 6, none⟩ = some (.int .i64 l.eo) ∧ w'.cell? ⟨w.heap.size, 7, none⟩ = some (.int .i64 l.bo) ∧ w'.cell? ⟨w.heap.size, 8, none⟩ = some (.int .i64 l.s) ∧ w'.cell? ⟨w.heap.size, 9, none⟩ = some (.int .i64 l.g) ∧ w'.cell? ⟨w.heap.size, 10, none⟩ = some (.int .i64 off)) (first | exact c11_drew C2 | exact c11_keeps T3.2 hnB2 (by assumption) | exact c11_keeps (Keeps.ofKp kE) id (by assumption) | assumption)
          (first | (go_at_call 86; refine (hSt _).mono ?_; rintro r wE ⟨rfl, kE⟩) | (go_at_call 85; have K3 : Keeps w2 wE (fun _ => False) := (Keeps.refl _ (fun _ => False)).drew.trans (Keeps.ofKp kE) (fun _ _ e => e); refine (hsw _ (A2.keeps K3 (fun _ _ _ e => e))).mono ?_; rintro r w3 ⟨rfl, T3⟩))
        have T9 : Hid (Turned w w3 p F _) := hide (Turned.pre K2 (T2.then (Turned.pre K3 T3)))
        clear T2 T3 A2
        go_wp2_with fail
        go_ret
        exact ⟨rfl, T9.out⟩)
  · rw [decide_eq_false hi] at hI
    have hr : eraseG d l off i t = (60, d) := if_neg hi
    rw [hr]
    have T1 := fun W (k : Keeps w W (fun _ => False)) => hide (hA.same k)
    clear hA
    go_enter Tryz.func59, Tryz.ntmps59
    go_wp2_with fail
    refine (hI _).mono ?_
    rintro r w1 ⟨rfl, rfl⟩
    go_wp2_with fail
    go_ret
    exact ⟨rfl, (T1 _ ((Keeps.refl w (fun _ => False)).alloc _)).out⟩
end Go.Proofs.YtmdnknbolgedgaaGreatDoor
/-
  Prune.
-/
namespace Go.Proofs.YtmdnknbolgedgaaGreatDoor
open Go.RowKit Go.Shelf Ly Ct
set_option linter.unusedVariables false

theorem count8 (f : Nat → Bool) : (List.range 8).countP f = (f 0).toNat + (f 1).toNat + (f 2).toNat + (f 3).toNat + (f 4).toNat + (f 5).toNat + (f 6).toNat + (f 7).toNat := by
  have h : ∀ b : Bool, (if b = true then 1 else 0) = b.toNat := by decide
  rw [show List.range 8 = [0, 1, 2, 3, 4, 5, 6, 7] from rfl]
  simp only [List.countP_cons, List.countP_nil, h]
  omega
theorem gone_cnt (W : Nat) : cntM (mk (fun x => x == 128 || x == 254) W) = cntM (mk (· == 128) W) + goneN W := by
  have h : ∀ x : Nat, (x == 128 || x == 254).toNat = (x == 128).toNat + (x == 254).toNat := fun x => by
    by_cases h1 : x = 128
    · subst h1
      rfl
    · by_cases h2 : x = 254
      · subst h2
        rfl
      · have e1 : (x == 128) = false := by simpa using h1
        have e2 : (x == 254) = false := by simpa using h2
        rw [e1, e2]
        rfl
  unfold goneN
  rw [cntM_mk, cntM_mk, count8]
  unfold sum8
  simp only [h]
  omega
end Go.Proofs.YtmdnknbolgedgaaGreatDoor
/-
  SetElem.
-/
namespace Go.Proofs.YtmdnknbolgedgaaGreatDoor
open Go.RowKit Go.Shelf Ly Ct
set_option linter.unusedVariables false

theorem joined_one (e : ByteArray) : joined [e] = e.data.toList := by rw [joined_eq]; simp
theorem lens_one (e : ByteArray) : lens [e] = e.size := by simp [lens]
theorem texts_one {W : World} {b : Nat} {e : ByteArray} {t : TypeId} (h : W.heap[b]? = some (.cells #[.string e] t)) : TextsAt W (some ⟨b, 0, none⟩) [e] := by
  intro j hj
  have hj0 : j = 0 := by simp at hj; omega
  subst hj0
  exact ⟨b, 0, rfl, heap_lt h, by simp [World.cell?, h]⟩

set_option maxHeartbeats 4000000 in
theorem gsetElem_any {w : World} {p : Nat} {F : Nat → Prop} {d : AD} (hA : Arena w p F d) (hF : d.Fine) (hSm : d.small) (hFl : ∀ k, F k → k < w.heap.size) (l : Lay) (off i : Int) (el : ByteArray) (hel : el.size ≤ 140737488355328) (ho : fitsI off) (hn : fitsI l.g) :
    Calls Tryz.prog 43 #[.agg #[.pointer (some ⟨p, 0, none⟩), .int .i64 l.k, .int .i64 l.e, .int .i64 l.a, .int .i64 l.b, .int .i64 l.c, .int .i64 l.eo, .int .i64 l.bo, .int .i64 l.s, .int .i64 l.g, .int .i64 off], .int .i64 i, .string el] w fun e w' => ErrPost w p F (setElemG d l off i el).1 (setElemG d l off i el).2 e w' := by
  have hI := fun W => gslot_any i W
  have hnB : ¬ F w.heap.size := fun q => Nat.lt_irrefl _ (hFl _ q)
  have T1 := fun W (k : Keeps w W (fun _ => False)) => hide (hA.same k)
  by_cases hi : 0 ≤ i ∧ i < 8
  · rw [decide_eq_true hi] at hI
    by_cases he : (el.size : Int) = l.e
    · have hW := fun V (k : Keeps w V (fun _ => False)) => word_any (hA.keeps k (fun _ _ _ e => e)) hF l off ho hn
      unfold wordV at hW
      cases ht : thereB d l off
      · have hr : setElemG d l off i el = (24, d) := by unfold setElemG; rw [if_pos hi, if_pos he, ht]; rfl
        rw [hr]
        simp only [ht, Bool.false_eq_true, if_false] at hW
        go_enter Tryz.func43, Tryz.ntmps43
        go_wp2_with fail
        refine (hI _).mono ?_
        rintro r w1 ⟨rfl, rfl⟩
        go_wp2_with fail
        refine (hW _ ((Keeps.refl w (fun _ => False)).alloc _)).mono ?_
        rintro r w1 ⟨rfl, k1⟩
        have K1 : Keeps w w1 (fun _ => False) := ((Keeps.refl w (fun _ => False)).alloc _).trans k1 (fun _ _ e => e)
        have T1 := T1 _ K1
        clear hI hW k1 hA
        go_wp2_with fail
        go_ret
        exact ⟨rfl, T1.out⟩
      · simp only [ht, if_true] at hW
        obtain ⟨hv, hg, ho1, ho2, ho3⟩ := there_more hF ht
        have hvm := valid_more hv
        obtain ⟨n, rfl⟩ := Int.eq_ofNat_of_zero_le hi.1
        have hn8 : n < 8 := by omega
        have hm := mul_bound hi.1 hi.2 (s := l.s) (by omega) (by omega)
        have hMf := fun V => Ct.full_any (wordN d off) wordN_lt V
        have hHs := fun V => has_in (mk (fun x => decide (x < 128)) (wordN d off)) n hn8 V
        rw [hasM_mk _ _ hn8] at hHs
        have hE := fun W => elemAt_any l (n : Int) W
        rw [place_in hv hi.1 hi.2] at hE
        by_cases hb1 : byN (wordN d off) n < 128
        · rw [decide_eq_true hb1] at hHs
          have hge := good_sub hg (x := 8 + (n : Int) * l.s + l.eo) (m := l.e) (by omega) (by omega) (by omega)
          have hres : setElemG d l off n el = (0, d.bytes (splice d.bs (off + (8 + (n : Int) * l.s + l.eo)).toNat el.data.toList)) := by
            unfold setElemG
            rw [if_pos hi, if_pos he, if_pos ht, Int.toNat_natCast, if_pos hb1]
          rw [hres]
          have hwr : ∀ V b c (k : Keeps w V (fun _ => False)) (hc : 1 ≤ c) (t : TypeId), V.heap[b]? = some (.cells #[.string el] t) → Calls Tryz.prog 79 #[.pointer (some ⟨p, 0, none⟩), .int .i64 (off + (8 + (n : Int) * l.s + l.eo)), .slice (some ⟨b, 0, none⟩) 1 c] V fun e w' => ErrPost V p F 0 (d.bytes (splice d.bs (off + (8 + (n : Int) * l.s + l.eo)).toNat el.data.toList)) e w' := fun V b c k hc t hb => by
            have := awrite_any joinOK (hA.keeps k (fun _ _ _ e => e)) hF hSm (off + (8 + (n : Int) * l.s + l.eo)) (some ⟨b, 0, none⟩) c [el] (fitsI_mk (by omega) (by omega)) (by simp) (by simpa using hc) (by simpa using hel) (texts_one hb)
            have hW : writeR d (off + (8 + (n : Int) * l.s + l.eo)) [el] = (0, d.bytes (splice d.bs (off + (8 + (n : Int) * l.s + l.eo)).toNat el.data.toList)) := by
              unfold writeR
              rw [lens_one, joined_one, he, hge, decide_eq_true (show el.size ≤ 1048576 by omega)]
              rfl
            rw [hW] at this
            exact this
          generalize d.bytes (splice d.bs (off + (8 + (n : Int) * l.s + l.eo)).toNat el.data.toList) = d1 at *
          obtain ⟨ye, hye⟩ : ∃ y, 8 + (n : Int) * l.s + l.eo = y := ⟨_, rfl⟩
          have b1 : 0 ≤ ye := by omega
          have b2 : ye ≤ 5000 := by omega
          rw [hye] at hE hwr
          have v1 : IntKind.i64.wrap (off + ye) = off + ye := by rw [IntKind.wrap_i64]; omega
          unfold setV at hMf hHs
          generalize spread (mk (fun x => decide (x < 128)) (wordN d off)) = Z at *
          generalize wordN d off = WW at *
          clear hres hvm hge hye hm hg hv T1
          go_enter Tryz.func43, Tryz.ntmps43
          go_wp2_with fail
          refine (hI _).mono ?_
          rintro r w1 ⟨rfl, rfl⟩
          go_wp2_with fail
          refine alloc1 (P := fun W => Calls _ _ _ W _) fun W0 hb hz K0 => ?_
          refine (hW _ K0).mono ?_
          rintro r w1 ⟨rfl, k1⟩
          have K1 : Keeps w w1 (fun _ => False) := K0.trans k1 (fun _ _ e => e)
          have C1 := c11_of (k1.blk hb)
          have hz2 : w.heap.size < w1.heap.size := by have := k1.size; omega
          clear hI hW
          go_wp2_with fail
          refine (hMf _).mono ?_
          rintro r w2 ⟨rfl, k2⟩
          go_wp2_with fail
          refine (hHs _).mono ?_
          rintro r w3 ⟨rfl, k3⟩
          have K3 : Keeps w1 w3 (fun _ => False) := (Keeps.ofKp k2).trans (Keeps.ofKp k3) (fun _ _ e => e)
          have C3 := c11_keeps K3 id C1
          have K4 : Keeps w w3 (fun _ => False) := K1.trans K3 (fun _ _ e => e)
          clear hMf hHs
          go_wp2_with fail
          go_region_held3 (fun w' => w'.cell? ⟨w.heap.size, 0, none⟩ = some (.pointer (some ⟨p, 0, none⟩)) ∧ w'.cell? ⟨w.heap.size, 1, none⟩ = some (.int .i64 l.k) ∧ w'.cell? ⟨w.heap.size, 2, none⟩ = some (.int .i64 l.e) ∧ w'.cell? ⟨w.heap.size, 3, none⟩ = some (.int .i64 l.a) ∧ w'.cell? ⟨w.heap.size, 4, none⟩ = some (.int .i64 l.b) ∧ w'.cell? ⟨w.heap.size, 5, none⟩ = some (.int .i64 l.c) ∧ w'.cell? ⟨w.heap.size, 6, none⟩ = some (.int .i64 l.eo) ∧ w'.cell? ⟨w.heap.size, 7, none⟩ = some (.int .i64 l.bo) ∧ w'.cell? ⟨w.heap.size, 8, none⟩ = some (.int .i64 l.s) ∧ w'.cell? ⟨w.heap.size, 9, none⟩ = some (.int .i64 l.g) ∧ w'.cell? ⟨w.heap.size, 10, none⟩ = some (.int .i64 off)) (first | exact c11_drew C3 | exact c11_keeps T3.2 hnB (by assumption) | exact c11_keeps (Keeps.ofKp kE) id (by assumption) | exact c11_keeps ((Keeps.refl _ (fun _ => False)).alloc _) id (by assumption) | assumption)
            (first | (go_at_call 80; refine (hE _).mono ?_; rintro r wE ⟨rfl, kE⟩) | (go_at_call 79; refine (hwr _ _ _ ((K4.drew.trans (Keeps.ofKp kE) (fun _ _ e => e)).alloc _) (Nat.le_refl _) _ (heap_alloc_new _ _)).mono ?_; rintro r w5 ⟨rfl, T3⟩; have T9 : Hid (Turned w w5 p F d1) := hide (Turned.pre ((K4.drew.trans (Keeps.ofKp kE) (fun _ _ e => e)).alloc _) T3)) | (go_at_call 79; refine (hwr _ _ _ ((K4.drew.alloc _).trans (Keeps.ofKp kE) (fun _ _ e => e)) (Nat.le_refl _) _ ((Keeps.ofKp kE).blk (heap_alloc_new _ _))).mono ?_; rintro r w5 ⟨rfl, T3⟩; have T9 : Hid (Turned w w5 p F d1) := hide (Turned.pre ((K4.drew.alloc _).trans (Keeps.ofKp kE) (fun _ _ e => e)) T3)))
          all_goals clear T3 hwr
          all_goals go_wp2_with fail
          all_goals go_ret
          all_goals exact ⟨rfl, T9.out⟩
        · rw [decide_eq_false hb1] at hHs
          have hres : setElemG d l off n el = (65, d) := by
            unfold setElemG
            rw [if_pos hi, if_pos he, if_pos ht, Int.toNat_natCast, if_neg hb1]
          rw [hres]
          unfold setV at hMf hHs
          generalize spread (mk (fun x => decide (x < 128)) (wordN d off)) = Z at *
          generalize wordN d off = WW at *
          clear hres hvm hm hg hv hE
          go_enter Tryz.func43, Tryz.ntmps43
          go_wp2_with fail
          refine (hI _).mono ?_
          rintro r w1 ⟨rfl, rfl⟩
          go_wp2_with fail
          refine alloc1 (P := fun W => Calls _ _ _ W _) fun W0 hb hz K0 => ?_
          refine (hW _ K0).mono ?_
          rintro r w1 ⟨rfl, k1⟩
          have K1 : Keeps w w1 (fun _ => False) := K0.trans k1 (fun _ _ e => e)
          clear hI hW
          go_wp2_with fail
          refine (hMf _).mono ?_
          rintro r w2 ⟨rfl, k2⟩
          go_wp2_with fail
          refine (hHs _).mono ?_
          rintro r w3 ⟨rfl, k3⟩
          have K3 : Keeps w1 w3 (fun _ => False) := (Keeps.ofKp k2).trans (Keeps.ofKp k3) (fun _ _ e => e)
          have K4 : Keeps w w3 (fun _ => False) := K1.trans K3 (fun _ _ e => e)
          have T1 := T1 _ K4
          clear hMf hHs hA
          go_wp2_with fail
          go_ret
          exact ⟨rfl, T1.out⟩
    · have hr : setElemG d l off i el = (62, d) := by unfold setElemG; rw [if_pos hi, if_neg he]
      rw [hr]
      have he' : (((el.size : Nat) : Int) != l.e) = true := by simpa using he
      clear hA
      go_enter Tryz.func43, Tryz.ntmps43
      go_wp2_with fail
      refine (hI _).mono ?_
      rintro r w1 ⟨rfl, rfl⟩
      go_wp2_with fail
      go_ret
      exact ⟨rfl, (T1 _ ((Keeps.refl w (fun _ => False)).alloc _)).out⟩
  · rw [decide_eq_false hi] at hI
    have hr : setElemG d l off i el = (60, d) := if_neg hi
    rw [hr]
    clear hA
    go_enter Tryz.func43, Tryz.ntmps43
    go_wp2_with fail
    refine (hI _).mono ?_
    rintro r w1 ⟨rfl, rfl⟩
    go_wp2_with fail
    go_ret
    exact ⟨rfl, (T1 _ ((Keeps.refl w (fun _ => False)).alloc _)).out⟩
end Go.Proofs.YtmdnknbolgedgaaGreatDoor
/-
  Fill.
-/
namespace Go.Proofs.YtmdnknbolgedgaaGreatDoor
open Go.RowKit Go.Shelf Ly Ct
set_option linter.unusedVariables false

theorem texts_five {W : World} {b : Nat} {e1 e2 e3 e4 e5 : ByteArray} {t : TypeId} (h : W.heap[b]? = some (.cells #[.string e1, .string e2, .string e3, .string e4, .string e5] t)) : TextsAt W (some ⟨b, 0, none⟩) [e1, e2, e3, e4, e5] := by
  intro j hj
  refine ⟨b, 0, rfl, heap_lt h, ?_⟩
  have hj5 : j < 5 := hj
  have : j = 0 ∨ j = 1 ∨ j = 2 ∨ j = 3 ∨ j = 4 := by omega
  rcases this with rfl | rfl | rfl | rfl | rfl <;> simp [World.cell?, h]
theorem str_size (x : List UInt8) : (strOf x).size = x.length := by simp [strOf, ByteArray.size]
theorem str_list (x : List UInt8) : (strOf x).data.toList = x := by simp [strOf]
theorem joined_slot (l : Lay) (key elem : ByteArray) (b : Nat) : joined [key, strOf (zeros (l.eo - l.k).toNat), elem, strOf (zeros (l.bo - l.eo - l.e).toNat), strOf (leBytes b 8)] = slotB l key.data.toList elem.data.toList b := by
  rw [joined_eq]
  simp only [List.map_cons, List.map_nil, str_list, List.flatten_cons, List.flatten_nil, List.append_nil]
  unfold slotB
  simp
theorem lens_slot {l : Lay} (hv : validB l = true) {key elem : ByteArray} (hk : (key.size : Int) = l.k) (he : (elem.size : Int) = l.e) (b : Nat) : lens [key, strOf (zeros (l.eo - l.k).toNat), elem, strOf (zeros (l.bo - l.eo - l.e).toNat), strOf (leBytes b 8)] = l.s.toNat := by
  have h1 := joined_length [key, strOf (zeros (l.eo - l.k).toNat), elem, strOf (zeros (l.bo - l.eo - l.e).toNat), strOf (leBytes b 8)]
  rw [joined_slot, slotB_len hv b (by rw [data_len]; exact hk) (by rw [data_len]; exact he)] at h1
  exact h1.symm

set_option maxHeartbeats 4000000 in
theorem gfill_no {w : World} {p : Nat} (l : Lay) (off i tag : Int) (key elem : ByteArray) (birth : Int) (h : fillErr l i tag key.size elem.size birth ≠ 0) :
    Calls Tryz.prog 44 #[.agg #[.pointer (some ⟨p, 0, none⟩), .int .i64 l.k, .int .i64 l.e, .int .i64 l.a, .int .i64 l.b, .int .i64 l.c, .int .i64 l.eo, .int .i64 l.bo, .int .i64 l.s, .int .i64 l.g, .int .i64 off], .int .i64 i, .int .i64 tag, .string key, .string elem, .int .i64 birth] w fun e w' => e = .returned (.int .i64 (fillErr l i tag key.size elem.size birth)) ∧ Keeps w w' (fun _ => False) := by
  have hI := fun W => gslot_any i W
  have hT := fun W => gtag_any tag W
  unfold fillErr at h ⊢
  by_cases hi : 0 ≤ i ∧ i < 8
  · rw [decide_eq_true hi] at hI
    rw [if_neg (not_not_intro hi)] at h ⊢
    by_cases ht : 0 ≤ tag ∧ tag ≤ 127
    · rw [decide_eq_true ht] at hT
      rw [if_neg (not_not_intro ht)] at h ⊢
      by_cases hk : (key.size : Int) = l.k
      · rw [if_neg (not_not_intro hk)] at h ⊢
        by_cases he : (elem.size : Int) = l.e
        · rw [if_neg (not_not_intro he)] at h ⊢
          by_cases hb : birth < 0
          · rw [if_pos hb]
            clear h
            go_enter Tryz.func44, Tryz.ntmps44
            go_wp2_with fail
            refine (hI _).mono ?_
            rintro r w1 ⟨rfl, rfl⟩
            go_wp2_with fail
            refine (hT _).mono ?_
            rintro r w1 ⟨rfl, rfl⟩
            go_wp2_with fail
            go_ret
            exact ⟨rfl, (Keeps.refl w (fun _ => False)).alloc _⟩
          · rw [if_neg hb] at h
            exact absurd rfl h
        · rw [if_pos he]
          have he' : (((elem.size : Nat) : Int) != l.e) = true := by simpa using he
          clear h
          go_enter Tryz.func44, Tryz.ntmps44
          go_wp2_with fail
          refine (hI _).mono ?_
          rintro r w1 ⟨rfl, rfl⟩
          go_wp2_with fail
          refine (hT _).mono ?_
          rintro r w1 ⟨rfl, rfl⟩
          go_wp2_with fail
          go_ret
          exact ⟨rfl, (Keeps.refl w (fun _ => False)).alloc _⟩
      · rw [if_pos hk]
        have hk' : (((key.size : Nat) : Int) != l.k) = true := by simpa using hk
        clear h
        go_enter Tryz.func44, Tryz.ntmps44
        go_wp2_with fail
        refine (hI _).mono ?_
        rintro r w1 ⟨rfl, rfl⟩
        go_wp2_with fail
        refine (hT _).mono ?_
        rintro r w1 ⟨rfl, rfl⟩
        go_wp2_with fail
        go_ret
        exact ⟨rfl, (Keeps.refl w (fun _ => False)).alloc _⟩
    · rw [decide_eq_false ht] at hT
      rw [if_pos ht]
      clear h
      go_enter Tryz.func44, Tryz.ntmps44
      go_wp2_with fail
      refine (hI _).mono ?_
      rintro r w1 ⟨rfl, rfl⟩
      go_wp2_with fail
      refine (hT _).mono ?_
      rintro r w1 ⟨rfl, rfl⟩
      go_wp2_with fail
      go_ret
      exact ⟨rfl, (Keeps.refl w (fun _ => False)).alloc _⟩
  · rw [decide_eq_false hi] at hI
    rw [if_pos hi]
    clear h
    go_enter Tryz.func44, Tryz.ntmps44
    go_wp2_with fail
    refine (hI _).mono ?_
    rintro r w1 ⟨rfl, rfl⟩
    go_wp2_with fail
    go_ret
    exact ⟨rfl, (Keeps.refl w (fun _ => False)).alloc _⟩

theorem fillErr_zero {l : Lay} {i tag ks es birth : Int} (h : fillErr l i tag ks es birth = 0) : (0 ≤ i ∧ i < 8) ∧ (0 ≤ tag ∧ tag ≤ 127) ∧ ks = l.k ∧ es = l.e ∧ 0 ≤ birth := by
  unfold fillErr at h
  split at h
  · omega
  split at h
  · omega
  split at h
  · omega
  split at h
  · omega
  split at h
  · omega
  rename_i h1 h2 h3 h4 h5
  exact ⟨Decidable.not_not.1 h1, Decidable.not_not.1 h2, Decidable.not_not.1 h3, Decidable.not_not.1 h4, by omega⟩

set_option maxHeartbeats 8000000 in
set_option maxRecDepth 100000 in
theorem gfill_any {w : World} {p : Nat} {F : Nat → Prop} {d : AD} (hA : Arena w p F d) (hF : d.Fine) (hSm : d.small) (hFl : ∀ k, F k → k < w.heap.size) (l : Lay) (off i tag : Int) (key elem : ByteArray) (birth : Int) (hb9 : birth ≤ 9223372036854775807) (ho : fitsI off) (hn : fitsI l.g) :
    Calls Tryz.prog 44 #[.agg #[.pointer (some ⟨p, 0, none⟩), .int .i64 l.k, .int .i64 l.e, .int .i64 l.a, .int .i64 l.b, .int .i64 l.c, .int .i64 l.eo, .int .i64 l.bo, .int .i64 l.s, .int .i64 l.g, .int .i64 off], .int .i64 i, .int .i64 tag, .string key, .string elem, .int .i64 birth] w fun e w' => ErrPost w p F (fillG d l off i tag key elem birth).1 (fillG d l off i tag key elem birth).2 e w' := by
  by_cases hE : fillErr l i tag key.size elem.size birth = 0
  · obtain ⟨hi, htg, hk, he, hb0⟩ := fillErr_zero hE
    have hI := fun W => gslot_any i W
    have hT := fun W => gtag_any tag W
    rw [decide_eq_true hi] at hI
    rw [decide_eq_true htg] at hT
    have hk' : (((key.size : Nat) : Int) != l.k) = false := by simpa using hk
    have he' : (((elem.size : Nat) : Int) != l.e) = false := by simpa using he
    have hb' : ¬ birth < 0 := by omega
    have hW := fun V (k : Keeps w V (fun _ => False)) => word_any (hA.keeps k (fun _ _ _ e => e)) hF l off ho hn
    have hnB : ¬ F w.heap.size := fun q => Nat.lt_irrefl _ (hFl _ q)
    unfold wordV at hW
    unfold fillG
    rw [if_pos hE]
    clear hE
    cases ht : thereB d l off
    · simp only [ht, Bool.false_eq_true, if_false] at hW
      simp only [Bool.false_eq_true, if_false]
      go_enter Tryz.func44, Tryz.ntmps44
      go_wp2_with fail
      refine (hI _).mono ?_
      rintro r w1 ⟨rfl, rfl⟩
      go_wp2_with fail
      refine (hT _).mono ?_
      rintro r w1 ⟨rfl, rfl⟩
      go_wp2_with fail
      refine (hW _ ((Keeps.refl w (fun _ => False)).alloc _)).mono ?_
      rintro r w1 ⟨rfl, k1⟩
      have K1 : Keeps w w1 (fun _ => False) := ((Keeps.refl w (fun _ => False)).alloc _).trans k1 (fun _ _ e => e)
      have T1 := hide (hA.same K1)
      clear hI hW k1 hA
      go_wp2_with fail
      go_ret
      exact ⟨rfl, T1.out⟩
    · simp only [ht, if_true] at hW
      simp only [if_true]
      obtain ⟨hv, hg, ho1, ho2, ho3⟩ := there_more hF ht
      have hvm := valid_more hv
      obtain ⟨n, rfl⟩ := Int.eq_ofNat_of_zero_le hi.1
      obtain ⟨tg, rfl⟩ := Int.eq_ofNat_of_zero_le htg.1
      obtain ⟨bi, rfl⟩ := Int.eq_ofNat_of_zero_le hb0
      have hn8 : n < 8 := by omega
      have hm := mul_bound hi.1 hi.2 (s := l.s) (by omega) (by omega)
      have hS := fun W => slotAt_any p l off (n : Int) W hv hi.1 hi.2 (by omega) (by omega)
      have hgs := good_sub hg (x := 8 + (n : Int) * l.s + 0) (m := l.s) (by omega) (by omega) (by omega)
      obtain ⟨g1, hg1⟩ := Int.eq_ofNat_of_zero_le (show 0 ≤ l.eo - l.k by omega)
      obtain ⟨g2, hg2⟩ := Int.eq_ofNat_of_zero_le (show 0 ≤ l.bo - l.eo - l.e by omega)
      have hz1 := fun W => gzeros_any g1 W (by omega)
      have hz2 := fun W => gzeros_any g2 W (by omega)
      have hbb := fun W => birthBytes_any bi W (by omega)
      rw [Int.toNat_natCast, Int.toNat_natCast, Int.toNat_natCast]
      have hjs := joined_slot l key elem bi
      have hls := lens_slot hv hk he bi
      rw [hg1, hg2, Int.toNat_natCast, Int.toNat_natCast] at hjs hls
      have hwr : ∀ V b c (k : Keeps w V (fun _ => False)) (hc : 5 ≤ c) (t : TypeId), V.heap[b]? = some (.cells #[.string key, .string (strOf (zeros g1)), .string elem, .string (strOf (zeros g2)), .string (strOf (leBytes bi 8))] t) → Calls Tryz.prog 79 #[.pointer (some ⟨p, 0, none⟩), .int .i64 (off + (8 + (n : Int) * l.s + 0)), .slice (some ⟨b, 0, none⟩) 5 c] V fun e w' => ErrPost V p F 0 (d.bytes (splice d.bs (off + (8 + (n : Int) * l.s + 0)).toNat (slotB l key.data.toList elem.data.toList bi))) e w' := fun V b c k hc t hb => by
        have := awrite_any joinOK (hA.keeps k (fun _ _ _ e => e)) hF hSm (off + (8 + (n : Int) * l.s + 0)) (some ⟨b, 0, none⟩) c [key, strOf (zeros g1), elem, strOf (zeros g2), strOf (leBytes bi 8)] (fitsI_mk (by omega) (by omega)) (by simp) (by simpa using hc) (by
          intro t ht
          simp only [List.mem_cons, List.not_mem_nil, or_false] at ht
          rcases ht with rfl | rfl | rfl | rfl | rfl
          · omega
          · rw [str_size, zeros_length]; omega
          · omega
          · rw [str_size, zeros_length]; omega
          · rw [str_size, leBytes_length]; omega) (texts_five hb)
        have hWr : writeR d (off + (8 + (n : Int) * l.s + 0)) [key, strOf (zeros g1), elem, strOf (zeros g2), strOf (leBytes bi 8)] = (0, d.bytes (splice d.bs (off + (8 + (n : Int) * l.s + 0)).toNat (slotB l key.data.toList elem.data.toList bi))) := by
          unfold writeR
          rw [hls, hjs, show ((l.s.toNat : Nat) : Int) = l.s by omega, hgs, decide_eq_true (show l.s.toNat ≤ 1048576 by omega)]
          rfl
        rw [hWr] at this
        exact this
      have hsl := slotB_len hv bi (show ((key.data.toList.length : Nat) : Int) = l.k by rw [data_len]; exact hk) (show ((elem.data.toList.length : Nat) : Int) = l.e by rw [data_len]; exact he)
      have hF1 : (d.bytes (splice d.bs (off + (8 + (n : Int) * l.s + 0)).toNat (slotB l key.data.toList elem.data.toList bi))).Fine := hF.bytes (splice_length (by rw [hsl]; omega))
      have hres : laidG d l off n (slotB l key.data.toList elem.data.toList bi) (setN (wordN d off) n tg) = wordG (d.bytes (splice d.bs (off + (8 + (n : Int) * l.s + 0)).toNat (slotB l key.data.toList elem.data.toList bi))) off (setN (wordN d off) n tg) := rfl
      rw [hres]
      have hSt := fun V => set_in (wordN d off) n tg wordN_lt hn8 (by omega) V
      generalize wordN d off = WW at *
      generalize hd1 : d.bytes (splice d.bs (off + (8 + (n : Int) * l.s + 0)).toNat (slotB l key.data.toList elem.data.toList bi)) = d1 at *
      have hsw : ∀ V {G : Nat → Prop} (hA1 : Arena V p G d1), Calls Tryz.prog 85 #[.agg #[.pointer (some ⟨p, 0, none⟩), .int .i64 l.k, .int .i64 l.e, .int .i64 l.a, .int .i64 l.b, .int .i64 l.c, .int .i64 l.eo, .int .i64 l.bo, .int .i64 l.s, .int .i64 l.g, .int .i64 off], .int .u64 ((setN WW n tg : Nat) : Int)] V fun e w' => ErrPost V p G 0 (wordG d1 off (setN WW n tg)) e w' := fun V G hA1 => by
        have := setWord_any hA1 hF1 l off ho (setN WW n tg)
        rw [store_word hg hv (fun a n => by rw [← hd1]; rfl)] at this
        exact this
      generalize off + (8 + (n : Int) * l.s + 0) = Y at *
      generalize setN WW n tg = W2 at *
      generalize strOf (zeros g1) = Z1 at *
      generalize strOf (zeros g2) = Z2 at *
      generalize strOf (leBytes bi 8) = BB at *
      have v1 : IntKind.i64.wrap (l.eo - l.k) = (g1 : Int) := by rw [IntKind.wrap_i64]; omega
      have v2 : IntKind.i64.wrap (l.bo - l.eo) = l.bo - l.eo := by rw [IntKind.wrap_i64]; omega
      have v3 : IntKind.i64.wrap (l.bo - l.eo - l.e) = (g2 : Int) := by rw [IntKind.wrap_i64]; omega
      clear hd1 hres hm hgs hjs hls hsl hvm hg hv hg1 hg2 ho3 ho2 hb0
      go_enter Tryz.func44, Tryz.ntmps44
      go_wp2_with fail
      refine (hI _).mono ?_
      rintro r w1 ⟨rfl, rfl⟩
      go_wp2_with fail
      refine (hT _).mono ?_
      rintro r w1 ⟨rfl, rfl⟩
      go_wp2_with fail
      refine alloc1 (P := fun W => Calls _ _ _ W _) fun W0 hb hz K0 => ?_
      refine (hW _ K0).mono ?_
      rintro r w1 ⟨rfl, k1⟩
      have K1 : Keeps w w1 (fun _ => False) := K0.trans k1 (fun _ _ e => e)
      have C1 := c11_of (k1.blk hb)
      have hzz : w.heap.size < w1.heap.size := by have := k1.size; omega
      clear hI hW hT
      have C1' := C1
      obtain ⟨c0, c1, c2, c3, c4, c5, c6, c7, c8, c9, c10⟩ := C1'
      go_wp2_with fail
      clear c0 c1 c2 c3 c4 c5 c6 c7 c8 c9 c10
      go_region_held3 (fun w' => w'.cell? ⟨w.heap.size, 0, none⟩ = some (.pointer (some ⟨p, 0, none⟩)) ∧ w'.cell? ⟨w.heap.size, 1, none⟩ = some (.int .i64 l.k) ∧ w'.cell? ⟨w.heap.size, 2, none⟩ = some (.int .i64 l.e) ∧ w'.cell? ⟨w.heap.size, 3, none⟩ = some (.int .i64 l.a) ∧ w'.cell? ⟨w.heap.size, 4, none⟩ = some (.int .i64 l.b) ∧ w'.cell? ⟨w.heap.size, 5, none⟩ = some (.int .i64 l.c) ∧ w'.cell? ⟨w.heap.size, 6, none⟩ = some (.int .i64 l.eo) ∧ w'.cell? ⟨w.heap.size, 7, none⟩ = some (.int .i64 l.bo) ∧ w'.cell? ⟨w.heap.size, 8, none⟩ = some (.int .i64 l.s) ∧ w'.cell? ⟨w.heap.size, 9, none⟩ = some (.int .i64 l.g) ∧ w'.cell? ⟨w.heap.size, 10, none⟩ = some (.int .i64 off)) (first | exact c11_drew C1 | exact c11_keeps T2.2 hnB (by assumption) | exact c11_keeps kb id (by assumption) | exact c11_keeps kz2 id (by assumption) | exact c11_keeps kz1 id (by assumption) | exact c11_keeps kS id (by assumption) | exact c11_keeps ((Keeps.refl _ (fun _ => False)).alloc _) id (by assumption) | assumption) (first | (go_at_call 82; refine (hS _).mono ?_; rintro r wS ⟨rfl, kS⟩) | (go_at_call 83; refine (hz1 _).mono ?_; rintro r wz1 ⟨rfl, kz1⟩) | (go_at_call 83; refine (hz2 _).mono ?_; rintro r wz2 ⟨rfl, kz2⟩) | (go_at_call 84; refine (hbb _).mono ?_; rintro r wb ⟨rfl, kb⟩; have K2 : Keeps w wb (fun _ => False) := (((K1.drew.trans kS (fun _ _ e => e)).trans kz1 (fun _ _ e => e)).trans kz2 (fun _ _ e => e)).trans kb (fun _ _ e => e)) | (go_at_call 79; refine (hwr _ _ _ (K2.alloc _) (Nat.le_refl _) _ (heap_alloc_new _ _)).mono ?_; rintro r w2 ⟨rfl, T2⟩))
      have C2 : C11 w.heap.size p l off w2 := by assumption
      have A2 := T2.arena
      have hzs : w.heap.size < wb.heap.size := by
        have a1 := kS.size
        have a2 := kz1.size
        have a3 := kz2.size
        have a4 := kb.size
        simp at a1
        omega
      have hnB2 : ¬ ((F w.heap.size ∨ (wb.alloc (.cells #[.string key, .string Z1, .string elem, .string Z2, .string BB] 9)).heap.size ≤ w.heap.size) ∧ w.heap.size < w2.heap.size) := fun q => q.1.elim hnB (fun q => by simp at q; omega)
      clear hS hz1 hz2 hbb hwr
      go_wp2_with fail
      go_region_held3 (fun w' => w'.cell? ⟨w.heap.size, 0, none⟩ = some (.pointer (some ⟨p, 0, none⟩)) ∧ w'.cell? ⟨w.heap.size, 1, none⟩ = some (.int .i64 l.k) ∧ w'.cell? ⟨w.heap.size, 2, none⟩ = some (.int .i64 l.e) ∧ w'.cell? ⟨w.heap.size, 3, none⟩ = some (.int .i64 l.a) ∧ w'.cell? ⟨w.heap.size, 4, none⟩ = some (.int .i64 l.b) ∧ w'.cell? ⟨w.heap.size, 5, none⟩ = some (.int .i64 l.c) ∧ w'.cell? ⟨w.heap.size, 6, none⟩ = some (.int .i64 l.eo) ∧ w'.cell? ⟨w.heap.size, 7, none⟩ = some (.int .i64 l.bo) ∧ w'.cell? ⟨w.heap.size, 8, none⟩ = some (.int .i64 l.s) ∧ w'.cell? ⟨w.heap.size, 9, none⟩ = some (.int .i64 l.g) ∧ w'.cell? ⟨w.heap.size, 10, none⟩ = some (.int .i64 off)) (first | exact c11_drew C2 | exact c11_keeps T3.2 hnB2 (by assumption) | exact c11_keeps (Keeps.ofKp kE) id (by assumption) | assumption) (first | (go_at_call 86; refine (hSt _).mono ?_; rintro r wE ⟨rfl, kE⟩) | (go_at_call 85; have K3 : Keeps w2 wE (fun _ => False) := (Keeps.refl _ (fun _ => False)).drew.trans (Keeps.ofKp kE) (fun _ _ e => e); refine (hsw _ (A2.keeps K3 (fun _ _ _ e => e))).mono ?_; rintro r w3 ⟨rfl, T3⟩))
      have T9 : Hid (Turned w w3 p F _) := hide (Turned.pre (K2.alloc _) (T2.then (Turned.pre K3 T3)))
      clear T2 T3 A2
      go_wp2_with fail
      go_ret
      exact ⟨rfl, T9.out⟩
  · have hr : fillG d l off i tag key elem birth = (fillErr l i tag key.size elem.size birth, d) := if_neg hE
    rw [hr]
    refine (gfill_no l off i tag key elem birth hE).mono ?_
    rintro r w1 ⟨rfl, k1⟩
    exact ⟨rfl, hA.same k1⟩
end Go.Proofs.YtmdnknbolgedgaaGreatDoor
/-
  The small calls of table.
-/
namespace Go.Proofs.YtmdnknbolgedgaaGreatDoor
open Go.RowKit Go.Shelf Ly Ct
set_option linter.unusedVariables false

theorem eleven_cells {w : World} {b : Nat} {v0 v1 v2 v3 v4 v5 v6 v7 v8 v9 v10 : Value} {t : TypeId} (h : w.heap[b]? = some (.cells #[v0, v1, v2, v3, v4, v5, v6, v7, v8, v9, v10] t)) :
    (w.cell? ⟨b, 0, none⟩ = some v0 ∧ w.cell? ⟨b, 1, none⟩ = some v1 ∧ w.cell? ⟨b, 2, none⟩ = some v2 ∧ w.cell? ⟨b, 3, none⟩ = some v3 ∧ w.cell? ⟨b, 4, none⟩ = some v4 ∧ w.cell? ⟨b, 5, none⟩ = some v5 ∧ w.cell? ⟨b, 6, none⟩ = some v6 ∧ w.cell? ⟨b, 7, none⟩ = some v7 ∧ w.cell? ⟨b, 8, none⟩ = some v8 ∧ w.cell? ⟨b, 9, none⟩ = some v9 ∧ w.cell? ⟨b, 10, none⟩ = some v10) ∧ w.frozen? ⟨b, 0, none⟩ = false ∧ w.frozen? ⟨b, 1, none⟩ = false ∧ w.frozen? ⟨b, 2, none⟩ = false ∧ w.frozen? ⟨b, 3, none⟩ = false ∧ w.frozen? ⟨b, 4, none⟩ = false ∧ w.frozen? ⟨b, 5, none⟩ = false ∧ w.frozen? ⟨b, 6, none⟩ = false ∧ w.frozen? ⟨b, 7, none⟩ = false ∧ w.frozen? ⟨b, 8, none⟩ = false ∧ w.frozen? ⟨b, 9, none⟩ = false ∧ w.frozen? ⟨b, 10, none⟩ = false := by
  simp [World.cell?, World.frozen?, h]
theorem eleven_set {w0 w : World} {b : Nat} {u0 u1 u2 u3 u4 u5 u6 u7 u8 u9 u10 : Value} {t : TypeId} {S : Nat → Prop} (h : w.heap[b]? = some (.cells #[u0, u1, u2, u3, u4, u5, u6, u7, u8, u9, u10] t)) (k : Keeps w0 w S) (hb : b < w0.heap.size → S b)
    {v0 v1 v2 v3 v4 v5 v6 v7 v8 v9 v10 : Value} {P : World → Prop} (hP : ∀ w9, w9.heap[b]? = some (.cells #[v0, v1, v2, v3, v4, v5, v6, v7, v8, v9, v10] t) → Keeps w0 w9 S → Keeps w w9 (fun i => i = b) → P w9) :
    P (((((((((((w.setCell ⟨b, 0, none⟩ v0).setCell ⟨b, 1, none⟩ v1).setCell ⟨b, 2, none⟩ v2).setCell ⟨b, 3, none⟩ v3).setCell ⟨b, 4, none⟩ v4).setCell ⟨b, 5, none⟩ v5).setCell ⟨b, 6, none⟩ v6).setCell ⟨b, 7, none⟩ v7).setCell ⟨b, 8, none⟩ v8).setCell ⟨b, 9, none⟩ v9).setCell ⟨b, 10, none⟩ v10) := by
  refine hP _ ?_ ?_ ?_
  · have h0 := set_one' h 0 v0 (by simp)
    have h1 := set_one' h0 1 v1 (by simp)
    have h2 := set_one' h1 2 v2 (by simp)
    have h3 := set_one' h2 3 v3 (by simp)
    have h4 := set_one' h3 4 v4 (by simp)
    have h5 := set_one' h4 5 v5 (by simp)
    have h6 := set_one' h5 6 v6 (by simp)
    have h7 := set_one' h6 7 v7 (by simp)
    have h8 := set_one' h7 8 v8 (by simp)
    have h9 := set_one' h8 9 v9 (by simp)
    have h10 := set_one' h9 10 v10 (by simp)
    exact h10
  · exact (((((((((((k.setCell _ hb _).setCell _ hb _).setCell _ hb _).setCell _ hb _).setCell _ hb _).setCell _ hb _).setCell _ hb _).setCell _ hb _).setCell _ hb _).setCell _ hb _).setCell _ hb _)
  · exact ((((((((((((Keeps.refl w (fun i => i = b)).setCell _ (fun _ => rfl) _).setCell _ (fun _ => rfl) _).setCell _ (fun _ => rfl) _).setCell _ (fun _ => rfl) _).setCell _ (fun _ => rfl) _).setCell _ (fun _ => rfl) _).setCell _ (fun _ => rfl) _).setCell _ (fun _ => rfl) _).setCell _ (fun _ => rfl) _).setCell _ (fun _ => rfl) _).setCell _ (fun _ => rfl) _)

set_option maxHeartbeats 1000000 in
theorem tat_any (p : Nat) (l : Lay) (off i : Int) (w : World) (h0 : 0 ≤ off) (h1 : off ≤ 134217728) (hi0 : 0 ≤ i) (hi : i ≤ 8) :
    Calls Tryz.prog 51 #[.agg #[.pointer (some ⟨p, 0, none⟩), .int .i64 l.k, .int .i64 l.e, .int .i64 l.a, .int .i64 l.b, .int .i64 l.c, .int .i64 l.eo, .int .i64 l.bo, .int .i64 l.s, .int .i64 l.g, .int .i64 off], .int .i64 i] w fun e w' => e = .returned (.int .i64 (off + i * 8)) ∧ Keeps w w' (fun _ => False) := by
  go_enter Tryz.func51, Tryz.ntmps51
  go_wp2_with fail
  go_ret
  exact ⟨rfl, (Keeps.refl _ _).alloc _⟩

set_option maxHeartbeats 1000000 in
theorem tgroup_any (p : Nat) (l : Lay) (off gr i : Int) (w : World) (h0 : 0 ≤ gr) (h1 : gr ≤ 134217728) (hi0 : 0 ≤ i) (hi : i ≤ 8192) (hg0 : 0 ≤ l.g) (hg : l.g ≤ 3000) :
    Calls Tryz.prog 69 #[.agg #[.pointer (some ⟨p, 0, none⟩), .int .i64 l.k, .int .i64 l.e, .int .i64 l.a, .int .i64 l.b, .int .i64 l.c, .int .i64 l.eo, .int .i64 l.bo, .int .i64 l.s, .int .i64 l.g, .int .i64 off], .int .i64 gr, .int .i64 i] w fun e w' => e = .returned (.agg #[.pointer (some ⟨p, 0, none⟩), .int .i64 l.k, .int .i64 l.e, .int .i64 l.a, .int .i64 l.b, .int .i64 l.c, .int .i64 l.eo, .int .i64 l.bo, .int .i64 l.s, .int .i64 l.g, .int .i64 (gr + i * l.g)]) ∧ Keeps w w' (fun _ => False) := by
  have hm : 0 ≤ i * l.g := Int.mul_nonneg hi0 hg0
  have hm2 : i * l.g ≤ 8192 * 3000 := Int.mul_le_mul hi hg hg0 (by omega)
  have hA := fun W => at_any p l (gr + i * l.g) W
  have hw1 : IntKind.i64.wrap (i * l.g) = i * l.g := by rw [IntKind.wrap_i64]; omega
  have hw2 : IntKind.i64.wrap (gr + i * l.g) = gr + i * l.g := by rw [IntKind.wrap_i64]; omega
  have hw3 : wrap64 (i * l.g) = i * l.g := by unfold wrap64; omega
  have hw4 : wrap64 (gr + i * l.g) = gr + i * l.g := by unfold wrap64; omega
  go_enter Tryz.func69, Tryz.ntmps69
  go_wp2_with fail
  refine alloc2 (P := fun W => Calls _ _ _ W _) fun W0 hb hr hz K0 => ?_
  refine (hA _).mono ?_
  rintro r w1 ⟨rfl, k1⟩
  clear hA hw1 hw2 hw3 hw4 hm hm2
  have hr1 := k1.blk hr
  have K1 : Keeps w w1 (fun _ => False) := K0.trans k1 (fun _ _ e => e)
  obtain ⟨⟨d0, d1, d2, d3, d4, d5, d6, d7, d8, d9, d10⟩, f0, f1, f2, f3, f4, f5, f6, f7, f8, f9, f10⟩ := eleven_cells hr1
  go_wp2_with fail
  refine eleven_set hr1 K1 (fun h => by omega) (P := fun w9 => bodyPost _ _ _ _ _ w9) fun w9 h9 k9 _ => ?_
  obtain ⟨⟨e0, e1, e2, e3, e4, e5, e6, e7, e8, e9, e10⟩, -⟩ := eleven_cells h9
  exact bodyPost_ret (v := .agg #[.pointer (some ⟨p, 0, none⟩), .int .i64 l.k, .int .i64 l.e, .int .i64 l.a, .int .i64 l.b, .int .i64 l.c, .int .i64 l.eo, .int .i64 l.bo, .int .i64 l.s, .int .i64 l.g, .int .i64 (gr + i * l.g)]) (by simp [results, Tryz.results69, go_sem, e0, e1, e2, e3, e4, e5, e6, e7, e8, e9, e10]) rfl ⟨rfl, k9⟩

def u64of (v : Int) : Nat := (v % 18446744073709551616).toNat
theorem u64of_eq (v : Int) : ((u64of v : Nat) : Int) = v % 18446744073709551616 := by
  unfold u64of
  omega
theorem u64of_lt (v : Int) : u64of v < 18446744073709551616 := by
  unfold u64of
  omega
theorem wrap_u64of {v : Int} (h : fitsI v) : wrap64 ((u64of v : Nat) : Int) = v := by
  have := fitsI_bounds h
  rw [u64of_eq]
  unfold wrap64
  omega

set_option maxHeartbeats 2000000 in
theorem tset_any {w : World} {p : Nat} {F : Nat → Prop} {d : AD} (hA : Arena w p F d) (hF : d.Fine) (hFl : ∀ k, F k → k < w.heap.size) (l : Lay) (off i v : Int) (h0 : 0 ≤ off) (h1 : off ≤ 134217728) (hi0 : 0 ≤ i) (hi : i ≤ 8) :
    Calls Tryz.prog 46 #[.agg #[.pointer (some ⟨p, 0, none⟩), .int .i64 l.k, .int .i64 l.e, .int .i64 l.a, .int .i64 l.b, .int .i64 l.c, .int .i64 l.eo, .int .i64 l.bo, .int .i64 l.s, .int .i64 l.g, .int .i64 off], .int .i64 i, .int .i64 v] w fun e w' => ErrPost w p F (storeR d (off + i * 8) 8 (u64of v)).1 (storeR d (off + i * 8) 8 (u64of v)).2 e w' := by
  have hT := fun W => tat_any p l off i W h0 h1 hi0 hi
  have hS := fun V (k : Keeps w V (fun _ => False)) => astore_any (hA.keeps k (fun _ _ _ e => e)) hF (off + i * 8) 8 (u64of v) (fitsI_mk (by omega) (by omega)) (fitsI_mk (by omega) (by omega))
  generalize storeR d (off + i * 8) 8 (u64of v) = R at *
  obtain ⟨x, d'⟩ := R
  have hu : IntKind.u64.wrap v = ((u64of v : Nat) : Int) := by
    rw [u64of_eq, IntKind.wrap_u64]
  generalize off + i * 8 = y at *
  generalize u64of v = u at *
  go_enter Tryz.func46, Tryz.ntmps46
  go_wp2_with fail
  refine alloc1 (P := fun W => Code.wp _ _ _ _ W) fun W0 hb hz K0 => ?_
  have C1 := c11_of hb
  have hnB : ¬ F w.heap.size := fun q => Nat.lt_irrefl _ (hFl _ q)
  go_region_held3 (fun w' => w'.cell? ⟨w.heap.size, 0, none⟩ = some (.pointer (some ⟨p, 0, none⟩)) ∧ w'.cell? ⟨w.heap.size, 1, none⟩ = some (.int .i64 l.k) ∧ w'.cell? ⟨w.heap.size, 2, none⟩ = some (.int .i64 l.e) ∧ w'.cell? ⟨w.heap.size, 3, none⟩ = some (.int .i64 l.a) ∧ w'.cell? ⟨w.heap.size, 4, none⟩ = some (.int .i64 l.b) ∧ w'.cell? ⟨w.heap.size, 5, none⟩ = some (.int .i64 l.c) ∧ w'.cell? ⟨w.heap.size, 6, none⟩ = some (.int .i64 l.eo) ∧ w'.cell? ⟨w.heap.size, 7, none⟩ = some (.int .i64 l.bo) ∧ w'.cell? ⟨w.heap.size, 8, none⟩ = some (.int .i64 l.s) ∧ w'.cell? ⟨w.heap.size, 9, none⟩ = some (.int .i64 l.g) ∧ w'.cell? ⟨w.heap.size, 10, none⟩ = some (.int .i64 off)) (first | exact c11_drew C1 | exact c11_keeps T2.2 hnB (by assumption) | exact c11_keeps kS id (by assumption) | assumption)
    (first | (go_at_call 51; refine (hT _).mono ?_; rintro r wS ⟨rfl, kS⟩) | (go_at_call 87; have K2 : Keeps w wS (fun _ => False) := (K0.drew).trans kS (fun _ _ e => e); refine (hS _ K2).mono ?_; rintro r w2 ⟨rfl, T2⟩))
  have T9 : Hid (Turned w w2 p F d') := hide (Turned.pre K2 T2)
  clear T2 hS hT
  go_wp2_with fail
  go_ret
  exact ⟨rfl, T9.out⟩
end Go.Proofs.YtmdnknbolgedgaaGreatDoor
