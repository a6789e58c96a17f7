import Derived.Test.YtdnkjbbpfhegdaaGreatMg9
/-
  The calls of group that write: zeros, birthBytes, Reset, Erase.
-/
namespace Go.Proofs.YtdnkjbbpfhegdaaGreat
open Go.RowKit Go.Shelf Ly Ct
set_option linter.unusedVariables false

abbrev C11 (b p : Nat) (l : Lay) (off : Int) (W : World) : Prop := W.cell? ⟨b, 0, none⟩ = some (.pointer (some ⟨p, 0, none⟩)) ∧ W.cell? ⟨b, 1, none⟩ = some (.int .i64 l.k) ∧ W.cell? ⟨b, 2, none⟩ = some (.int .i64 l.e) ∧ W.cell? ⟨b, 3, none⟩ = some (.int .i64 l.a) ∧ W.cell? ⟨b, 4, none⟩ = some (.int .i64 l.b) ∧ W.cell? ⟨b, 5, none⟩ = some (.int .i64 l.c) ∧ W.cell? ⟨b, 6, none⟩ = some (.int .i64 l.eo) ∧ W.cell? ⟨b, 7, none⟩ = some (.int .i64 l.bo) ∧ W.cell? ⟨b, 8, none⟩ = some (.int .i64 l.s) ∧ W.cell? ⟨b, 9, none⟩ = some (.int .i64 l.g) ∧ W.cell? ⟨b, 10, none⟩ = some (.int .i64 off)
theorem c11_of {W : World} {b p : Nat} {l : Lay} {off : Int} {t : TypeId} (h : W.heap[b]? = some (.cells #[.pointer (some ⟨p, 0, none⟩), .int .i64 l.k, .int .i64 l.e, .int .i64 l.a, .int .i64 l.b, .int .i64 l.c, .int .i64 l.eo, .int .i64 l.bo, .int .i64 l.s, .int .i64 l.g, .int .i64 off] t)) : C11 b p l off W := grp_cells h
theorem c11_keeps {W W1 : World} {b p : Nat} {l : Lay} {off : Int} {S : Nat → Prop} (k : Keeps W W1 S) (hS : ¬ S b) (h : C11 b p l off W) : C11 b p l off W1 := by
  obtain ⟨c0, c1, c2, c3, c4, c5, c6, c7, c8, c9, c10⟩ := h
  have hc : ∀ j v, W.cell? ⟨b, j, none⟩ = some v → W1.cell? ⟨b, j, none⟩ = some v := fun j v q => by
    have : b < W.heap.size := by
      refine Nat.lt_of_not_le fun hn => ?_
      rw [World.cell?, Array.getElem?_eq_none hn] at q
      cases q
    exact (World.cell?_of_block (w := W) (a := ⟨b, j, none⟩) (k.block b this hS)).trans q
  exact ⟨hc _ _ c0, hc _ _ c1, hc _ _ c2, hc _ _ c3, hc _ _ c4, hc _ _ c5, hc _ _ c6, hc _ _ c7, hc _ _ c8, hc _ _ c9, hc _ _ c10⟩
theorem c11_drew {W : World} {b p : Nat} {l : Lay} {off : Int} (h : C11 b p l off W) : C11 b p l off W.drew := c11_keeps (Keeps.refl W (fun _ => False)).drew id h

theorem repeat_zero (n : Nat) : (Lib.repeatL [0] n) = zeros n := by
  induction n with
  | zero => rfl
  | succ n ih =>
    show [0] ++ Lib.repeatL [0] n = zeros (n + 1)
    rw [ih]
    rfl
theorem le_mix (b k : Nat) (h : k < 8) : (rowOf (leBytes b k ++ zeros (8 - k))).setIfInBounds k (.int .u8 ((lowB b k).toNat : Int)) = rowOf (leBytes b (k + 1) ++ zeros (8 - (k + 1))) := by
  apply Array.ext'
  obtain ⟨m, hm⟩ : ∃ m, 8 - k = m + 1 := ⟨8 - k - 1, by omega⟩
  have hm' : 8 - (k + 1) = m := by omega
  rw [Array.toList_setIfInBounds, rowOf_toList, rowOf_toList, hm, hm']
  have e1 : cellsOf (leBytes b k ++ zeros (m + 1)) = cellsOf (leBytes b k) ++ (.int .u8 0 :: cellsOf (zeros m)) := by
    rw [cellsOf_append]
    rfl
  have e2 : cellsOf (leBytes b (k + 1) ++ zeros m) = cellsOf (leBytes b k) ++ (.int .u8 ((lowB b k).toNat : Int) :: cellsOf (zeros m)) := by
    rw [← leBytes_succ, List.append_assoc, cellsOf_append]
    rfl
  have hl : (cellsOf (leBytes b k)).length = k := by rw [cellsOf_length, leBytes_length]
  rw [e1, e2, List.set_append_right _ _ (by omega), hl, Nat.sub_self]
  rfl
set_option maxHeartbeats 1000000 in
theorem gzeros_any (n : Nat) (w : World) (hn : n ≤ 100000) : Calls Tryz.prog 34 #[.int .i64 (n : Int)] w fun e w' => e = .returned (.string (strOf (zeros n))) ∧ Keeps w w' (fun _ => False) := by
  have hR := fun W => Tryz.strings_Repeat ⟨#[0]⟩ n W (by omega) (by show 1 * n ≤ _; omega)
  have e1 : (⟨(Lib.repeatL (ByteArray.mk #[0]).data.toList n).toArray⟩ : ByteArray) = strOf (zeros n) := by
    show ByteArray.mk (Lib.repeatL [0] n).toArray = _
    rw [repeat_zero]
    rfl
  rw [e1] at hR
  go_enter Tryz.func34, Tryz.ntmps34
  go_wp2_with fail
  refine (hR _).mono ?_
  rintro r w1 ⟨rfl, k1⟩
  go_wp2_with fail
  go_ret
  exact ⟨rfl, Keeps.ofKp k1⟩

set_option maxHeartbeats 1000000 in
theorem birthBytes_any (b : Nat) (w : World) (hb : b ≤ 9223372036854775807) : Calls Tryz.prog 35 #[.int .i64 (b : Int)] w fun e w' => e = .returned (.string (strOf (leBytes b 8))) ∧ Keeps w w' (fun _ => False) := by
  obtain ⟨S, hS⟩ : ∃ S, strOf (leBytes b 8) = S := ⟨_, rfl⟩
  rw [hS]
  go_enter Tryz.func35, Tryz.ntmps35
  go_wp2_with fail
  go_loopw [5] (fun i wr => ∃ k : Nat, i = .int .i64 (k : Int) ∧ k ≤ 8 ∧ wr.heap[w.heap.size]? = some (.cells (rowOf (leBytes b k ++ zeros (8 - k))) 113) ∧ Keeps w wr (fun _ => False)) (fun i _ => 8 - (intOf i).toNat)
  case atStart => exact ⟨0, rfl, Nat.zero_le _, heap_alloc_new _ _, (Keeps.refl _ _).alloc _⟩
  case round =>
    obtain ⟨k, rfl, hk, hr, K⟩ := hrel
    by_cases hlt : k < 8
    · have hlt' : (k : Int) < 8 := by omega
      have hc : wr.cell? ⟨w.heap.size, k, none⟩ = some (.int .u8 ((((leBytes b k ++ zeros (8 - k))[k]'(by simp [leBytes_length, zeros_length]; omega)).toNat : Int))) := by
        simp only [World.cell?, hr]
        exact rowOf_get _ k (by simp [leBytes_length, zeros_length]; omega)
      have hf : wr.frozen? ⟨w.heap.size, k, none⟩ = false := by simp [World.frozen?, hr]
      have hr2 : (wr.setCell ⟨w.heap.size, k, none⟩ (.int .u8 ((lowB b k).toNat : Int))).heap[w.heap.size]? = some (.cells (rowOf (leBytes b (k + 1) ++ zeros (8 - (k + 1)))) 113) := by
        rw [setCell_eq_setRow wr w.heap.size k _ 113 (0, 0) _ hr, heap_setRow_same hr, le_mix b k hlt]
      have K2 : Keeps w (wr.setCell ⟨w.heap.size, k, none⟩ (.int .u8 ((lowB b k).toNat : Int))) (fun _ => False) := K.setCell ⟨w.heap.size, k, none⟩ (fun h => absurd h (Nat.lt_irrefl _)) _
      generalize ((leBytes b k ++ zeros (8 - k))[k]'(by simp [leBytes_length, zeros_length]; omega)).toNat = old at *
      clear hr K
      rw [← lowB_int] at hr2 K2
      go_wp2_with fail
      go_roundw
      case rel => exact ⟨k + 1, by go_num, by omega, hr2, K2⟩
      case measure => simp [intOf]; omega
    · have hkn : k = 8 := by omega
      subst hkn
      have htx := run_text wr ⟨w.heap.size, 0, none⟩ 8 8 (leBytes b 8) (leBytes_length b 8) (fun j hj => by
        rw [addr_add, Nat.zero_add]
        have := rowOf_get (leBytes b 8 ++ zeros (8 - 8)) j (by simp; omega)
        simp only [World.cell?, hr]
        simpa [List.getElem_append_left hj] using this)
      rw [hS] at htx
      have K2 := hide K
      clear hr K hS
      go_wp2_with fail
      go_ret
      exact ⟨rfl, K2.out⟩
end Go.Proofs.YtdnkjbbpfhegdaaGreat
/-
  Reset.
-/
namespace Go.Proofs.YtdnkjbbpfhegdaaGreat
open Go.RowKit Go.Shelf Ly Ct
set_option linter.unusedVariables false

theorem store_word {d : AD} {l : Lay} {off : Int} {d0 : AD} (hg : d0.goodB off l.g = true) (hv : validB l = true) (hd : ∀ a n, d.goodB a n = d0.goodB a n) (W : Nat) : storeR d off 8 W = (0, wordG d off W) := by
  have hvm := valid_more hv
  have hg8 : d.goodB off 8 = true := by
    have := good_sub hg (x := 0) (m := 8) (by omega) (by omega) (by omega)
    rw [Int.add_zero] at this
    rw [hd]
    exact this
  unfold storeR
  rw [hg8]
  rfl

set_option maxHeartbeats 4000000 in
theorem greset_any {w : World} {p : Nat} {F : Nat → Prop} {d : AD} (hA : Arena w p F d) (hF : d.Fine) (hFl : ∀ k, F k → k < w.heap.size) (l : Lay) (off : Int) (ho : fitsI off) (hn : fitsI l.g) :
    Calls Tryz.prog 22 #[.agg #[.pointer (some ⟨p, 0, none⟩), .int .i64 l.k, .int .i64 l.e, .int .i64 l.a, .int .i64 l.b, .int .i64 l.c, .int .i64 l.eo, .int .i64 l.bo, .int .i64 l.s, .int .i64 l.g, .int .i64 off]] w fun e w' => ErrPost w p F (resetG d l off).1 (resetG d l off).2 e w' := by
  have hT := fun V (k : Keeps w V (fun _ => False)) => there_any (hA.keeps k (fun _ _ _ e => e)) hF l off ho hn
  have hnB : ¬ F w.heap.size := fun q => Nat.lt_irrefl _ (hFl _ q)
  cases ht : thereB d l off
  · have hr : resetG d l off = (24, d) := by unfold resetG; rw [ht]; rfl
    rw [hr]
    simp only [ht] at hT
    go_enter Tryz.func22, Tryz.ntmps22
    go_wp2_with fail
    refine (hT _ ((Keeps.refl w (fun _ => False)).alloc _)).mono ?_
    rintro r w1 ⟨rfl, k1⟩
    have K1 : Keeps w w1 (fun _ => False) := ((Keeps.refl w (fun _ => False)).alloc _).trans k1 (fun _ _ e => e)
    have T1 := hide (hA.same K1)
    clear hT k1 hA
    go_wp2_with fail
    go_ret
    exact ⟨rfl, T1.out⟩
  · obtain ⟨hv, hg, ho1, ho2, ho3⟩ := there_more hF ht
    simp only [ht] at hT
    have hvm := valid_more hv
    have hfl : ∀ V (k : Keeps w V (fun _ => False)), Calls Tryz.prog 21 #[.pointer (some ⟨p, 0, none⟩), .int .i64 off, .int .i64 l.g, .int .u8 0] V fun e w' => ErrPost V p F 0 (d.bytes (splice d.bs off.toNat (zeros l.g.toNat))) e w' := fun V k => by
      have := afill_any (hA.keeps k (fun _ _ _ e => e)) hF off l.g 0 ho hn
      rw [show fillR d off l.g 0 = (0, d.bytes (splice d.bs off.toNat (zeros l.g.toNat))) from if_pos hg] at this
      exact this
    have hF1 : (d.bytes (splice d.bs off.toNat (zeros l.g.toNat))).Fine := hF.bytes (splice_length (by rw [zeros_length]; omega))
    have hres : resetG d l off = (0, wordG (d.bytes (splice d.bs off.toNat (zeros l.g.toNat))) off 9259542123273814144) := if_pos ht
    rw [hres]
    generalize hd1 : d.bytes (splice d.bs off.toNat (zeros l.g.toNat)) = d1 at *
    have hsw : ∀ V {G : Nat → Prop} (hA1 : Arena V p G d1), Calls Tryz.prog 36 #[.agg #[.pointer (some ⟨p, 0, none⟩), .int .i64 l.k, .int .i64 l.e, .int .i64 l.a, .int .i64 l.b, .int .i64 l.c, .int .i64 l.eo, .int .i64 l.bo, .int .i64 l.s, .int .i64 l.g, .int .i64 off], .int .u64 9259542123273814144] V fun e w' => ErrPost V p G 0 (wordG d1 off 9259542123273814144) e w' := fun V G hA1 => by
      have := setWord_any hA1 hF1 l off ho 9259542123273814144
      rw [store_word hg hv (fun a n => by rw [← hd1]; rfl)] at this
      exact this
    clear hd1 hres hvm
    go_enter Tryz.func22, Tryz.ntmps22
    go_wp2_with fail
    refine alloc1 (P := fun W => Calls _ _ _ W _) fun W0 hb hz K0 => ?_
    refine (hT _ K0).mono ?_
    rintro r w1 ⟨rfl, k1⟩
    have K1 : Keeps w w1 (fun _ => False) := K0.trans k1 (fun _ _ e => e)
    have C1 := c11_of (k1.blk hb)
    have C1' := C1
    obtain ⟨c0, c1, c2, c3, c4, c5, c6, c7, c8, c9, c10⟩ := C1'
    clear hT
    go_wp2_with fail
    refine (hfl _ K1).mono ?_
    rintro r w2 ⟨rfl, T2⟩
    have C2 := c11_keeps T2.2 hnB C1
    have hz2 : w.heap.size < w1.heap.size := by have := k1.size; omega
    clear c0 c1 c2 c3 c4 c5 c6 c7 c8 c9 c10
    have A2 := T2.arena
    have hnB2 : ¬ ((F w.heap.size ∨ w1.heap.size ≤ w.heap.size) ∧ w.heap.size < w2.heap.size) := fun q => q.1.elim hnB (fun q => by omega)
    go_wp2_with fail
    go_region_held3 (fun w' => w'.cell? ⟨w.heap.size, 0, none⟩ = some (.pointer (some ⟨p, 0, none⟩)) ∧ w'.cell? ⟨w.heap.size, 1, none⟩ = some (.int .i64 l.k) ∧ w'.cell? ⟨w.heap.size, 2, none⟩ = some (.int .i64 l.e) ∧ w'.cell? ⟨w.heap.size, 3, none⟩ = some (.int .i64 l.a) ∧ w'.cell? ⟨w.heap.size, 4, none⟩ = some (.int .i64 l.b) ∧ w'.cell? ⟨w.heap.size, 5, none⟩ = some (.int .i64 l.c) ∧ w'.cell? ⟨w.heap.size, 6, none⟩ = some (.int .i64 l.eo) ∧ w'.cell? ⟨w.heap.size, 7, none⟩ = some (.int .i64 l.bo) ∧ w'.cell? ⟨w.heap.size, 8, none⟩ = some (.int .i64 l.s) ∧ w'.cell? ⟨w.heap.size, 9, none⟩ = some (.int .i64 l.g) ∧ w'.cell? ⟨w.heap.size, 10, none⟩ = some (.int .i64 off)) (first | exact c11_drew C2 | exact c11_keeps T3.2 hnB2 (by assumption) | assumption)
      (first | (go_at_call 51; refine (empty_any _).mono ?_; rintro r wE ⟨rfl, rfl⟩) | (go_at_call 36; refine (hsw _ (A2.keeps (Keeps.refl _ (fun _ => False)).drew (fun _ _ _ e => e))).mono ?_; rintro r w3 ⟨rfl, T3⟩))
    have T9 : Hid (Turned w w3 p F _) := hide (Turned.pre K1 (T2.then (Turned.pre (Keeps.refl _ (fun _ => False)).drew T3)))
    clear T2 T3 A2
    go_wp2_with fail
    go_ret
    exact ⟨rfl, T9.out⟩
end Go.Proofs.YtdnkjbbpfhegdaaGreat
/-
  Erase.
-/
namespace Go.Proofs.YtdnkjbbpfhegdaaGreat
open Go.RowKit Go.Shelf Ly Ct
set_option linter.unusedVariables false

set_option maxHeartbeats 4000000 in
theorem gerase_any {w : World} {p : Nat} {F : Nat → Prop} {d : AD} (hA : Arena w p F d) (hF : d.Fine) (hFl : ∀ k, F k → k < w.heap.size) (l : Lay) (off i : Int) (t : Bool) (ho : fitsI off) (hn : fitsI l.g) :
    Calls Tryz.prog 25 #[.agg #[.pointer (some ⟨p, 0, none⟩), .int .i64 l.k, .int .i64 l.e, .int .i64 l.a, .int .i64 l.b, .int .i64 l.c, .int .i64 l.eo, .int .i64 l.bo, .int .i64 l.s, .int .i64 l.g, .int .i64 off], .int .i64 i, .bool t] w fun e w' => ErrPost w p F (eraseG d l off i t).1 (eraseG d l off i t).2 e w' := by
  have hI := fun W => gslot_any i W
  have hnB : ¬ F w.heap.size := fun q => Nat.lt_irrefl _ (hFl _ q)
  by_cases hi : 0 ≤ i ∧ i < 8
  · rw [decide_eq_true hi] at hI
    have hW := fun V (k : Keeps w V (fun _ => False)) => word_any (hA.keeps k (fun _ _ _ e => e)) hF l off ho hn
    unfold wordV at hW
    cases ht : thereB d l off
    · have hr : eraseG d l off i t = (24, d) := by unfold eraseG; rw [if_pos hi, ht]; rfl
      rw [hr]
      simp only [ht, Bool.false_eq_true, if_false] at hW
      go_enter Tryz.func25, Tryz.ntmps25
      go_wp2_with fail
      refine (hI _).mono ?_
      rintro r w1 ⟨rfl, rfl⟩
      go_wp2_with fail
      refine (hW _ ((Keeps.refl w (fun _ => False)).alloc _)).mono ?_
      rintro r w1 ⟨rfl, k1⟩
      have K1 : Keeps w w1 (fun _ => False) := ((Keeps.refl w (fun _ => False)).alloc _).trans k1 (fun _ _ e => e)
      have T1 := hide (hA.same K1)
      clear hI hW k1 hA
      go_wp2_with fail
      go_ret
      exact ⟨rfl, T1.out⟩
    · simp only [ht, if_true] at hW
      obtain ⟨hv, hg, ho1, ho2, ho3⟩ := there_more hF ht
      have hvm := valid_more hv
      obtain ⟨n, rfl⟩ := Int.eq_ofNat_of_zero_le hi.1
      have hn8 : n < 8 := by omega
      have hm := mul_bound hi.1 hi.2 (s := l.s) (by omega) (by omega)
      have hS := fun W => slotAt_any p l off (n : Int) W hv hi.1 hi.2 (by omega) (by omega)
      have hgs := good_sub hg (x := 8 + (n : Int) * l.s + 0) (m := l.s) (by omega) (by omega) (by omega)
      have hfl : ∀ V (k : Keeps w V (fun _ => False)), Calls Tryz.prog 21 #[.pointer (some ⟨p, 0, none⟩), .int .i64 (off + (8 + (n : Int) * l.s + 0)), .int .i64 l.s, .int .u8 0] V fun e w' => ErrPost V p F 0 (d.bytes (splice d.bs (off + (8 + (n : Int) * l.s + 0)).toNat (zeros l.s.toNat))) e w' := fun V k => by
        have := afill_any (hA.keeps k (fun _ _ _ e => e)) hF (off + (8 + (n : Int) * l.s + 0)) l.s 0 (fitsI_mk (by omega) (by omega)) (fitsI_mk (by omega) (by omega))
        rw [show fillR d (off + (8 + (n : Int) * l.s + 0)) l.s 0 = (0, d.bytes (splice d.bs (off + (8 + (n : Int) * l.s + 0)).toNat (zeros l.s.toNat))) from if_pos hgs] at this
        exact this
      have hF1 : (d.bytes (splice d.bs (off + (8 + (n : Int) * l.s + 0)).toNat (zeros l.s.toNat))).Fine := hF.bytes (splice_length (by rw [zeros_length]; omega))
      have hres : eraseG d l off n t = (0, wordG (d.bytes (splice d.bs (off + (8 + (n : Int) * l.s + 0)).toNat (zeros l.s.toNat))) off (setN (wordN d off) n (if t then 254 else 128))) := by
        unfold eraseG
        rw [if_pos hi, if_pos ht, Int.toNat_natCast]
        rfl
      rw [hres]
      have hct : (if t then 254 else 128) < 256 := by cases t <;> decide
      have hSt := fun V => set_in (wordN d off) n (if t then 254 else 128) wordN_lt hn8 hct V
      generalize wordN d off = WW at *
      generalize hd1 : d.bytes (splice d.bs (off + (8 + (n : Int) * l.s + 0)).toNat (zeros l.s.toNat)) = d1 at *
      have hsw : ∀ V {G : Nat → Prop} (hA1 : Arena V p G d1), Calls Tryz.prog 36 #[.agg #[.pointer (some ⟨p, 0, none⟩), .int .i64 l.k, .int .i64 l.e, .int .i64 l.a, .int .i64 l.b, .int .i64 l.c, .int .i64 l.eo, .int .i64 l.bo, .int .i64 l.s, .int .i64 l.g, .int .i64 off], .int .u64 ((setN WW n (if t then 254 else 128) : Nat) : Int)] V fun e w' => ErrPost V p G 0 (wordG d1 off (setN WW n (if t then 254 else 128))) e w' := fun V G hA1 => by
        have := setWord_any hA1 hF1 l off ho (setN WW n (if t then 254 else 128))
        rw [store_word hg hv (fun a n => by rw [← hd1]; rfl)] at this
        exact this
      generalize off + (8 + (n : Int) * l.s + 0) = Y at *
      generalize setN WW n (if t then 254 else 128) = W2 at *
      clear hd1 hres hvm hct hm hgs
      cases t
      all_goals (
        simp only [Bool.false_eq_true, if_false, if_true] at hSt
        go_enter Tryz.func25, Tryz.ntmps25
        go_wp2_with fail
        refine (hI _).mono ?_
        rintro r w1 ⟨rfl, rfl⟩
        go_wp2_with fail
        refine alloc1 (P := fun W => Calls _ _ _ W _) fun W0 hb hz K0 => ?_
        refine (hW _ K0).mono ?_
        rintro r w1 ⟨rfl, k1⟩
        have K1 : Keeps w w1 (fun _ => False) := K0.trans k1 (fun _ _ e => e)
        have C1 := c11_of (k1.blk hb)
        have hz2 : w.heap.size < w1.heap.size := by have := k1.size; omega
        clear hI hW
        go_wp2_with fail
        go_region_held3 (fun w' => w'.cell? ⟨w.heap.size, 0, none⟩ = some (.pointer (some ⟨p, 0, none⟩)) ∧ w'.cell? ⟨w.heap.size, 1, none⟩ = some (.int .i64 l.k) ∧ w'.cell? ⟨w.heap.size, 2, none⟩ = some (.int .i64 l.e) ∧ w'.cell? ⟨w.heap.size, 3, none⟩ = some (.int .i64 l.a) ∧ w'.cell? ⟨w.heap.size, 4, none⟩ = some (.int .i64 l.b) ∧ w'.cell? ⟨w.heap.size, 5, none⟩ = some (.int .i64 l.c) ∧ w'.cell? ⟨w.heap.size, 6, none⟩ = some (.int .i64 l.eo) ∧ w'.cell? ⟨w.heap.size, 7, none⟩ = some (.int .i64 l.bo) ∧ w'.cell? ⟨w.heap.size, 8, none⟩ = some (.int .i64 l.s) ∧ w'.cell? ⟨w.heap.size, 9, none⟩ = some (.int .i64 l.g) ∧ w'.cell? ⟨w.heap.size, 10, none⟩ = some (.int .i64 off)) (first | exact c11_drew C1 | exact c11_keeps T2.2 hnB (by assumption) | exact c11_keeps kS id (by assumption) | assumption)
          (first | (go_at_call 33; refine (hS _).mono ?_; rintro r wS ⟨rfl, kS⟩) | (go_at_call 21; have K2 : Keeps w wS (fun _ => False) := (K1.drew).trans kS (fun _ _ e => e); refine (hfl _ K2).mono ?_; rintro r w2 ⟨rfl, T2⟩))
        have C2 : C11 w.heap.size p l off w2 := by assumption
        have A2 := T2.arena
        have hzs : w.heap.size < wS.heap.size := by have := kS.size; simp at this; omega
        have hnB2 : ¬ ((F w.heap.size ∨ wS.heap.size ≤ w.heap.size) ∧ w.heap.size < w2.heap.size) := fun q => q.1.elim hnB (fun q => by omega)
        clear hS hfl
        go_wp2_with fail
        go_region_held3 (fun w' => w'.cell? ⟨w.heap.size, 0, none⟩ = some (.pointer (some ⟨p, 0, none⟩)) ∧ w'.cell? ⟨w.heap.size, 1, none⟩ = some (.int .i64 l.k) ∧ w'.cell? ⟨w.heap.size, 2, none⟩ = some (.int .i64 l.e) ∧ w'.cell? ⟨w.heap.size, 3, none⟩ = some (.int .i64 l.a) ∧ w'.cell? ⟨w.heap.size, 4, none⟩ = some (.int .i64 l.b) ∧ w'.cell? ⟨w.heap.size, 5, none⟩ = some (.int .i64 l.c) ∧ w'.cell? ⟨w.heap.size, 6, none⟩ = some (.int .i64 l.eo) ∧ w'.cell? ⟨w.heap.size, 7, none⟩ = some (.int .i64 l.bo) ∧ w'.cell? ⟨w.heap.size, 8, none⟩ = some (.int .i64 l.s) ∧ w'.cell? ⟨w.heap.size, 9, none⟩ = some (.int .i64 l.g) ∧ w'.cell? ⟨w.heap.size, 10, none⟩ = some (.int .i64 off)) (first | exact c11_drew C2 | exact c11_keeps T3.2 hnB2 (by assumption) | exact c11_keeps (Keeps.ofKp kE) id (by assumption) | assumption)
          (first | (go_at_call 37; refine (hSt _).mono ?_; rintro r wE ⟨rfl, kE⟩) | (go_at_call 36; have K3 : Keeps w2 wE (fun _ => False) := (Keeps.refl _ (fun _ => False)).drew.trans (Keeps.ofKp kE) (fun _ _ e => e); refine (hsw _ (A2.keeps K3 (fun _ _ _ e => e))).mono ?_; rintro r w3 ⟨rfl, T3⟩))
        have T9 : Hid (Turned w w3 p F _) := hide (Turned.pre K2 (T2.then (Turned.pre K3 T3)))
        clear T2 T3 A2
        go_wp2_with fail
        go_ret
        exact ⟨rfl, T9.out⟩)
  · rw [decide_eq_false hi] at hI
    have hr : eraseG d l off i t = (60, d) := if_neg hi
    rw [hr]
    have T1 := fun W (k : Keeps w W (fun _ => False)) => hide (hA.same k)
    clear hA
    go_enter Tryz.func25, Tryz.ntmps25
    go_wp2_with fail
    refine (hI _).mono ?_
    rintro r w1 ⟨rfl, rfl⟩
    go_wp2_with fail
    go_ret
    exact ⟨rfl, (T1 _ ((Keeps.refl w (fun _ => False)).alloc _)).out⟩
end Go.Proofs.YtdnkjbbpfhegdaaGreat
/-
  Prune.
-/
namespace Go.Proofs.YtdnkjbbpfhegdaaGreat
open Go.RowKit Go.Shelf Ly Ct
set_option linter.unusedVariables false

theorem count8 (f : Nat → Bool) : (List.range 8).countP f = (f 0).toNat + (f 1).toNat + (f 2).toNat + (f 3).toNat + (f 4).toNat + (f 5).toNat + (f 6).toNat + (f 7).toNat := by
  have h : ∀ b : Bool, (if b = true then 1 else 0) = b.toNat := by decide
  rw [show List.range 8 = [0, 1, 2, 3, 4, 5, 6, 7] from rfl]
  simp only [List.countP_cons, List.countP_nil, h]
  omega
theorem gone_cnt (W : Nat) : cntM (mk (fun x => x == 128 || x == 254) W) = cntM (mk (· == 128) W) + goneN W := by
  have h : ∀ x : Nat, (x == 128 || x == 254).toNat = (x == 128).toNat + (x == 254).toNat := fun x => by
    by_cases h1 : x = 128
    · subst h1
      rfl
    · by_cases h2 : x = 254
      · subst h2
        rfl
      · have e1 : (x == 128) = false := by simpa using h1
        have e2 : (x == 254) = false := by simpa using h2
        rw [e1, e2]
        rfl
  unfold goneN
  rw [cntM_mk, cntM_mk, count8]
  unfold sum8
  simp only [h]
  omega

def PrunePost (w : World) (p : Nat) (F : Nat → Prop) (n x : Int) (d' : AD) (e : Ending) (w' : World) : Prop := e = .returned (.tuple #[.int .i64 n, .int .i64 x]) ∧ Turned w w' p F d'
set_option maxHeartbeats 4000000 in
theorem gprune_any {w : World} {p : Nat} {F : Nat → Prop} {d : AD} (hA : Arena w p F d) (hF : d.Fine) (hFl : ∀ k, F k → k < w.heap.size) (l : Lay) (off : Int) (ho : fitsI off) (hn : fitsI l.g) :
    Calls Tryz.prog 55 #[.agg #[.pointer (some ⟨p, 0, none⟩), .int .i64 l.k, .int .i64 l.e, .int .i64 l.a, .int .i64 l.b, .int .i64 l.c, .int .i64 l.eo, .int .i64 l.bo, .int .i64 l.s, .int .i64 l.g, .int .i64 off]] w fun e w' => PrunePost w p F (pruneG d l off).1.1 (pruneG d l off).1.2 (pruneG d l off).2 e w' := by
  have hnB : ¬ F w.heap.size := fun q => Nat.lt_irrefl _ (hFl _ q)
  have hW := fun V (k : Keeps w V (fun _ => False)) => word_any (hA.keeps k (fun _ _ _ e => e)) hF l off ho hn
  unfold wordV at hW
  cases ht : thereB d l off
  · have hr : pruneG d l off = ((0, 24), d) := by unfold pruneG; rw [ht]; rfl
    rw [hr]
    simp only [ht, Bool.false_eq_true, if_false] at hW
    go_enter Tryz.func55, Tryz.ntmps55
    go_wp2_with fail
    refine (hW _ ((Keeps.refl w (fun _ => False)).alloc _)).mono ?_
    rintro r w1 ⟨rfl, k1⟩
    have K1 : Keeps w w1 (fun _ => False) := ((Keeps.refl w (fun _ => False)).alloc _).trans k1 (fun _ _ e => e)
    have T1 := hide (hA.same K1)
    clear hW k1 hA
    go_wp2_with fail
    exact bodyPost_ret (v := .tuple #[.int .i64 0, .int .i64 24]) (by simp [results, Tryz.results55, go_sem]) rfl ⟨rfl, T1.out⟩
  · simp only [ht, if_true] at hW
    obtain ⟨hv, hg, ho1, ho2, ho3⟩ := there_more hF ht
    have hres : pruneG d l off = ((((goneN (wordN d off) : Nat) : Int), 0), wordG d off (clN (wordN d off))) := if_pos ht
    rw [hres]
    have hcn := gone_cnt (wordN d off)
    have hV := fun V => vacant_any (wordN d off) wordN_lt V
    have hE := fun V => mempty_any (wordN d off) wordN_lt V
    have hC1 := fun V => count_any (mk (fun x => x == 128 || x == 254) (wordN d off)) (mk_lt _ _) V
    have hC2 := fun V => count_any (mk (· == 128) (wordN d off)) (mk_lt _ _) V
    have hCl := fun V => clear_any (wordN d off) wordN_lt V
    have hcl : clN (wordN d off) < 18446744073709551616 := clN_lt _
    have hsw : ∀ V {G : Nat → Prop} (hA1 : Arena V p G d), Calls Tryz.prog 36 #[.agg #[.pointer (some ⟨p, 0, none⟩), .int .i64 l.k, .int .i64 l.e, .int .i64 l.a, .int .i64 l.b, .int .i64 l.c, .int .i64 l.eo, .int .i64 l.bo, .int .i64 l.s, .int .i64 l.g, .int .i64 off], .int .u64 ((clN (wordN d off) : Nat) : Int)] V fun e w' => ErrPost V p G 0 (wordG d off (clN (wordN d off))) e w' := fun V G hA1 => by
      have := setWord_any hA1 hF l off ho (clN (wordN d off))
      rw [store_word hg hv (fun a n => rfl)] at this
      exact this
    have hc8 : cntM (mk (fun x => x == 128 || x == 254) (wordN d off)) ≤ 8 := by have := cnt_full_vacant (wordN d off); omega
    unfold setV at hV hE hC1 hC2
    generalize goneN (wordN d off) = GN at *
    generalize cntM (mk (fun x => x == 128 || x == 254) (wordN d off)) = CV at *
    generalize cntM (mk (· == 128) (wordN d off)) = CE at *
    generalize spread (mk (fun x => x == 128 || x == 254) (wordN d off)) = ZV at *
    generalize spread (mk (· == 128) (wordN d off)) = ZE at *
    generalize clN (wordN d off) = CL at *
    generalize wordN d off = WW at *
    have hsub : (CV : Int) - (CE : Int) = (GN : Int) := by omega
    have hwr : IntKind.i64.wrap ((CV : Int) - (CE : Int)) = (GN : Int) := by rw [IntKind.wrap_i64]; omega
    clear hres ho3 ho2 hg hv
    go_enter Tryz.func55, Tryz.ntmps55
    go_wp2_with fail
    refine alloc1 (P := fun W => Calls _ _ _ W _) fun W0 hb hz K0 => ?_
    refine (hW _ K0).mono ?_
    rintro r w1 ⟨rfl, k1⟩
    have K1 : Keeps w w1 (fun _ => False) := K0.trans k1 (fun _ _ e => e)
    have C1 := c11_of (k1.blk hb)
    have hz2 : w.heap.size < w1.heap.size := by have := k1.size; omega
    clear hW
    go_wp2_with fail
    refine (hV _).mono ?_
    rintro r w2 ⟨rfl, k2⟩
    have K2 := (Keeps.refl w1 (fun _ => False)).trans (Keeps.ofKp k2) (fun _ _ e => e)
    go_wp2_with fail
    refine (hC1 _).mono ?_
    rintro r w3 ⟨rfl, k3⟩
    have K3 := K2.trans (Keeps.ofKp k3) (fun _ _ e => e)
    go_wp2_with fail
    refine (hE _).mono ?_
    rintro r w4 ⟨rfl, k4⟩
    have K4 := K3.trans (Keeps.ofKp k4) (fun _ _ e => e)
    go_wp2_with fail
    refine (hC2 _).mono ?_
    rintro r w5 ⟨rfl, k5⟩
    have K5 := K4.trans (Keeps.ofKp k5) (fun _ _ e => e)
    have C5 := c11_keeps K5 id C1
    have K6 : Keeps w w5 (fun _ => False) := K1.trans K5 (fun _ _ e => e)
    have A5 := hA.keeps K6 (fun _ _ _ e => e)
    clear k2 k3 k4 k5 K2 K3 K4 hV hE hC1 hC2
    go_wp2_with fail
    go_region_held3 (fun w' => w'.cell? ⟨w.heap.size, 0, none⟩ = some (.pointer (some ⟨p, 0, none⟩)) ∧ w'.cell? ⟨w.heap.size, 1, none⟩ = some (.int .i64 l.k) ∧ w'.cell? ⟨w.heap.size, 2, none⟩ = some (.int .i64 l.e) ∧ w'.cell? ⟨w.heap.size, 3, none⟩ = some (.int .i64 l.a) ∧ w'.cell? ⟨w.heap.size, 4, none⟩ = some (.int .i64 l.b) ∧ w'.cell? ⟨w.heap.size, 5, none⟩ = some (.int .i64 l.c) ∧ w'.cell? ⟨w.heap.size, 6, none⟩ = some (.int .i64 l.eo) ∧ w'.cell? ⟨w.heap.size, 7, none⟩ = some (.int .i64 l.bo) ∧ w'.cell? ⟨w.heap.size, 8, none⟩ = some (.int .i64 l.s) ∧ w'.cell? ⟨w.heap.size, 9, none⟩ = some (.int .i64 l.g) ∧ w'.cell? ⟨w.heap.size, 10, none⟩ = some (.int .i64 off)) (first | exact c11_drew C5 | exact c11_keeps T3.2 hnB (by assumption) | exact c11_keeps (Keeps.ofKp kE) id (by assumption) | assumption)
      (first | (go_at_call 82; refine (hCl _).mono ?_; rintro r wE ⟨rfl, kE⟩) | (go_at_call 36; have K7 : Keeps w5 wE (fun _ => False) := (Keeps.refl _ (fun _ => False)).drew.trans (Keeps.ofKp kE) (fun _ _ e => e); refine (hsw _ (A5.keeps K7 (fun _ _ _ e => e))).mono ?_; rintro r w6 ⟨rfl, T3⟩))
    have T9 : Hid (Turned w w6 p F _) := hide (Turned.pre K6 (Turned.pre K7 T3))
    clear T3 A5
    go_wp2_with fail
    exact bodyPost_ret (v := .tuple #[.int .i64 (GN : Int), .int .i64 0]) (by simp [results, Tryz.results55, go_sem] <;> omega) rfl ⟨rfl, T9.out⟩
end Go.Proofs.YtdnkjbbpfhegdaaGreat
/-
  SetElem.
-/
namespace Go.Proofs.YtdnkjbbpfhegdaaGreat
open Go.RowKit Go.Shelf Ly Ct
set_option linter.unusedVariables false

theorem joined_one (e : ByteArray) : joined [e] = e.data.toList := by rw [joined_eq]; simp
theorem lens_one (e : ByteArray) : lens [e] = e.size := by simp [lens]
theorem texts_one {W : World} {b : Nat} {e : ByteArray} {t : TypeId} (h : W.heap[b]? = some (.cells #[.string e] t)) : TextsAt W (some ⟨b, 0, none⟩) [e] := by
  intro j hj
  have hj0 : j = 0 := by simp at hj; omega
  subst hj0
  exact ⟨b, 0, rfl, heap_lt h, by simp [World.cell?, h]⟩

set_option maxHeartbeats 4000000 in
theorem gsetElem_any {w : World} {p : Nat} {F : Nat → Prop} {d : AD} (hA : Arena w p F d) (hF : d.Fine) (hSm : d.small) (hFl : ∀ k, F k → k < w.heap.size) (l : Lay) (off i : Int) (el : ByteArray) (hel : el.size ≤ 140737488355328) (ho : fitsI off) (hn : fitsI l.g) :
    Calls Tryz.prog 24 #[.agg #[.pointer (some ⟨p, 0, none⟩), .int .i64 l.k, .int .i64 l.e, .int .i64 l.a, .int .i64 l.b, .int .i64 l.c, .int .i64 l.eo, .int .i64 l.bo, .int .i64 l.s, .int .i64 l.g, .int .i64 off], .int .i64 i, .string el] w fun e w' => ErrPost w p F (setElemG d l off i el).1 (setElemG d l off i el).2 e w' := by
  have hI := fun W => gslot_any i W
  have hnB : ¬ F w.heap.size := fun q => Nat.lt_irrefl _ (hFl _ q)
  have T1 := fun W (k : Keeps w W (fun _ => False)) => hide (hA.same k)
  by_cases hi : 0 ≤ i ∧ i < 8
  · rw [decide_eq_true hi] at hI
    by_cases he : (el.size : Int) = l.e
    · have hW := fun V (k : Keeps w V (fun _ => False)) => word_any (hA.keeps k (fun _ _ _ e => e)) hF l off ho hn
      unfold wordV at hW
      cases ht : thereB d l off
      · have hr : setElemG d l off i el = (24, d) := by unfold setElemG; rw [if_pos hi, if_pos he, ht]; rfl
        rw [hr]
        simp only [ht, Bool.false_eq_true, if_false] at hW
        go_enter Tryz.func24, Tryz.ntmps24
        go_wp2_with fail
        refine (hI _).mono ?_
        rintro r w1 ⟨rfl, rfl⟩
        go_wp2_with fail
        refine (hW _ ((Keeps.refl w (fun _ => False)).alloc _)).mono ?_
        rintro r w1 ⟨rfl, k1⟩
        have K1 : Keeps w w1 (fun _ => False) := ((Keeps.refl w (fun _ => False)).alloc _).trans k1 (fun _ _ e => e)
        have T1 := T1 _ K1
        clear hI hW k1 hA
        go_wp2_with fail
        go_ret
        exact ⟨rfl, T1.out⟩
      · simp only [ht, if_true] at hW
        obtain ⟨hv, hg, ho1, ho2, ho3⟩ := there_more hF ht
        have hvm := valid_more hv
        obtain ⟨n, rfl⟩ := Int.eq_ofNat_of_zero_le hi.1
        have hn8 : n < 8 := by omega
        have hm := mul_bound hi.1 hi.2 (s := l.s) (by omega) (by omega)
        have hMf := fun V => Ct.full_any (wordN d off) wordN_lt V
        have hHs := fun V => has_in (mk (fun x => decide (x < 128)) (wordN d off)) n hn8 V
        rw [hasM_mk _ _ hn8] at hHs
        have hE := fun W => elemAt_any l (n : Int) W
        rw [place_in hv hi.1 hi.2] at hE
        by_cases hb1 : byN (wordN d off) n < 128
        · rw [decide_eq_true hb1] at hHs
          have hge := good_sub hg (x := 8 + (n : Int) * l.s + l.eo) (m := l.e) (by omega) (by omega) (by omega)
          have hres : setElemG d l off n el = (0, d.bytes (splice d.bs (off + (8 + (n : Int) * l.s + l.eo)).toNat el.data.toList)) := by
            unfold setElemG
            rw [if_pos hi, if_pos he, if_pos ht, Int.toNat_natCast, if_pos hb1]
          rw [hres]
          have hwr : ∀ V b c (k : Keeps w V (fun _ => False)) (hc : 1 ≤ c) (t : TypeId), V.heap[b]? = some (.cells #[.string el] t) → Calls Tryz.prog 32 #[.pointer (some ⟨p, 0, none⟩), .int .i64 (off + (8 + (n : Int) * l.s + l.eo)), .slice (some ⟨b, 0, none⟩) 1 c] V fun e w' => ErrPost V p F 0 (d.bytes (splice d.bs (off + (8 + (n : Int) * l.s + l.eo)).toNat el.data.toList)) e w' := fun V b c k hc t hb => by
            have := awrite_any joinOK (hA.keeps k (fun _ _ _ e => e)) hF hSm (off + (8 + (n : Int) * l.s + l.eo)) (some ⟨b, 0, none⟩) c [el] (fitsI_mk (by omega) (by omega)) (by simp) (by simpa using hc) (by simpa using hel) (texts_one hb)
            have hW : writeR d (off + (8 + (n : Int) * l.s + l.eo)) [el] = (0, d.bytes (splice d.bs (off + (8 + (n : Int) * l.s + l.eo)).toNat el.data.toList)) := by
              unfold writeR
              rw [lens_one, joined_one, he, hge, decide_eq_true (show el.size ≤ 1048576 by omega)]
              rfl
            rw [hW] at this
            exact this
          generalize d.bytes (splice d.bs (off + (8 + (n : Int) * l.s + l.eo)).toNat el.data.toList) = d1 at *
          obtain ⟨ye, hye⟩ : ∃ y, 8 + (n : Int) * l.s + l.eo = y := ⟨_, rfl⟩
          have b1 : 0 ≤ ye := by omega
          have b2 : ye ≤ 5000 := by omega
          rw [hye] at hE hwr
          have v1 : IntKind.i64.wrap (off + ye) = off + ye := by rw [IntKind.wrap_i64]; omega
          unfold setV at hMf hHs
          generalize spread (mk (fun x => decide (x < 128)) (wordN d off)) = Z at *
          generalize wordN d off = WW at *
          clear hres hvm hge hye hm hg hv T1
          go_enter Tryz.func24, Tryz.ntmps24
          go_wp2_with fail
          refine (hI _).mono ?_
          rintro r w1 ⟨rfl, rfl⟩
          go_wp2_with fail
          refine alloc1 (P := fun W => Calls _ _ _ W _) fun W0 hb hz K0 => ?_
          refine (hW _ K0).mono ?_
          rintro r w1 ⟨rfl, k1⟩
          have K1 : Keeps w w1 (fun _ => False) := K0.trans k1 (fun _ _ e => e)
          have C1 := c11_of (k1.blk hb)
          have hz2 : w.heap.size < w1.heap.size := by have := k1.size; omega
          clear hI hW
          go_wp2_with fail
          refine (hMf _).mono ?_
          rintro r w2 ⟨rfl, k2⟩
          go_wp2_with fail
          refine (hHs _).mono ?_
          rintro r w3 ⟨rfl, k3⟩
          have K3 : Keeps w1 w3 (fun _ => False) := (Keeps.ofKp k2).trans (Keeps.ofKp k3) (fun _ _ e => e)
          have C3 := c11_keeps K3 id C1
          have K4 : Keeps w w3 (fun _ => False) := K1.trans K3 (fun _ _ e => e)
          clear hMf hHs
          go_wp2_with fail
          go_region_held3 (fun w' => w'.cell? ⟨w.heap.size, 0, none⟩ = some (.pointer (some ⟨p, 0, none⟩)) ∧ w'.cell? ⟨w.heap.size, 1, none⟩ = some (.int .i64 l.k) ∧ w'.cell? ⟨w.heap.size, 2, none⟩ = some (.int .i64 l.e) ∧ w'.cell? ⟨w.heap.size, 3, none⟩ = some (.int .i64 l.a) ∧ w'.cell? ⟨w.heap.size, 4, none⟩ = some (.int .i64 l.b) ∧ w'.cell? ⟨w.heap.size, 5, none⟩ = some (.int .i64 l.c) ∧ w'.cell? ⟨w.heap.size, 6, none⟩ = some (.int .i64 l.eo) ∧ w'.cell? ⟨w.heap.size, 7, none⟩ = some (.int .i64 l.bo) ∧ w'.cell? ⟨w.heap.size, 8, none⟩ = some (.int .i64 l.s) ∧ w'.cell? ⟨w.heap.size, 9, none⟩ = some (.int .i64 l.g) ∧ w'.cell? ⟨w.heap.size, 10, none⟩ = some (.int .i64 off)) (first | exact c11_drew C3 | exact c11_keeps T3.2 hnB (by assumption) | exact c11_keeps (Keeps.ofKp kE) id (by assumption) | exact c11_keeps ((Keeps.refl _ (fun _ => False)).alloc _) id (by assumption) | assumption)
            (first | (go_at_call 54; refine (hE _).mono ?_; rintro r wE ⟨rfl, kE⟩) | (go_at_call 32; refine (hwr _ _ _ ((K4.drew.trans (Keeps.ofKp kE) (fun _ _ e => e)).alloc _) (Nat.le_refl _) _ (heap_alloc_new _ _)).mono ?_; rintro r w5 ⟨rfl, T3⟩; have T9 : Hid (Turned w w5 p F d1) := hide (Turned.pre ((K4.drew.trans (Keeps.ofKp kE) (fun _ _ e => e)).alloc _) T3)) | (go_at_call 32; refine (hwr _ _ _ ((K4.drew.alloc _).trans (Keeps.ofKp kE) (fun _ _ e => e)) (Nat.le_refl _) _ ((Keeps.ofKp kE).blk (heap_alloc_new _ _))).mono ?_; rintro r w5 ⟨rfl, T3⟩; have T9 : Hid (Turned w w5 p F d1) := hide (Turned.pre ((K4.drew.alloc _).trans (Keeps.ofKp kE) (fun _ _ e => e)) T3)))
          all_goals clear T3 hwr
          all_goals go_wp2_with fail
          all_goals go_ret
          all_goals exact ⟨rfl, T9.out⟩
        · rw [decide_eq_false hb1] at hHs
          have hres : setElemG d l off n el = (65, d) := by
            unfold setElemG
            rw [if_pos hi, if_pos he, if_pos ht, Int.toNat_natCast, if_neg hb1]
          rw [hres]
          unfold setV at hMf hHs
          generalize spread (mk (fun x => decide (x < 128)) (wordN d off)) = Z at *
          generalize wordN d off = WW at *
          clear hres hvm hm hg hv hE
          go_enter Tryz.func24, Tryz.ntmps24
          go_wp2_with fail
          refine (hI _).mono ?_
          rintro r w1 ⟨rfl, rfl⟩
          go_wp2_with fail
          refine alloc1 (P := fun W => Calls _ _ _ W _) fun W0 hb hz K0 => ?_
          refine (hW _ K0).mono ?_
          rintro r w1 ⟨rfl, k1⟩
          have K1 : Keeps w w1 (fun _ => False) := K0.trans k1 (fun _ _ e => e)
          clear hI hW
          go_wp2_with fail
          refine (hMf _).mono ?_
          rintro r w2 ⟨rfl, k2⟩
          go_wp2_with fail
          refine (hHs _).mono ?_
          rintro r w3 ⟨rfl, k3⟩
          have K3 : Keeps w1 w3 (fun _ => False) := (Keeps.ofKp k2).trans (Keeps.ofKp k3) (fun _ _ e => e)
          have K4 : Keeps w w3 (fun _ => False) := K1.trans K3 (fun _ _ e => e)
          have T1 := T1 _ K4
          clear hMf hHs hA
          go_wp2_with fail
          go_ret
          exact ⟨rfl, T1.out⟩
    · have hr : setElemG d l off i el = (62, d) := by unfold setElemG; rw [if_pos hi, if_neg he]
      rw [hr]
      have he' : (((el.size : Nat) : Int) != l.e) = true := by simpa using he
      clear hA
      go_enter Tryz.func24, Tryz.ntmps24
      go_wp2_with fail
      refine (hI _).mono ?_
      rintro r w1 ⟨rfl, rfl⟩
      go_wp2_with fail
      go_ret
      exact ⟨rfl, (T1 _ ((Keeps.refl w (fun _ => False)).alloc _)).out⟩
  · rw [decide_eq_false hi] at hI
    have hr : setElemG d l off i el = (60, d) := if_neg hi
    rw [hr]
    clear hA
    go_enter Tryz.func24, Tryz.ntmps24
    go_wp2_with fail
    refine (hI _).mono ?_
    rintro r w1 ⟨rfl, rfl⟩
    go_wp2_with fail
    go_ret
    exact ⟨rfl, (T1 _ ((Keeps.refl w (fun _ => False)).alloc _)).out⟩
end Go.Proofs.YtdnkjbbpfhegdaaGreat
