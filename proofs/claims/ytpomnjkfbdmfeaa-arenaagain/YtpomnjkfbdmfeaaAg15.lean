import Derived.Test.YtpomnjkfbdmfeaaAg14
/-
  Restore, where it is let in.
-/
namespace Go.Proofs.Ytpomnjkfbdmfeaa
open Go.RowKit Go.Shelf
set_option linter.unusedVariables false

theorem sumL_take {ps : List (Int × Int × Bool)} (h : ∀ x ∈ ps, 0 ≤ x.2.1 ∧ x.2.1 ≤ 1048576) (i : Nat) : 0 ≤ sumL (ps.take i) ∧ sumL (ps.take i) ≤ sumL ps := by
  have e : sumL ps = sumL (ps.take i) + sumL (ps.drop i) := by
    have app : ∀ a b, sumL (a ++ b) = sumL a + sumL b := fun a b => by
      induction a with
      | nil => simp [sumL]
      | cons y r ih => simp only [List.cons_append, sumL, ih]; omega
    rw [← app, List.take_append_drop]
  have h1 := (sumL_bound (m := 1048576) (by omega) (ps.take i) (fun x hx => h x (List.mem_of_mem_take hx))).1
  have h2 := (sumL_bound (m := 1048576) (by omega) (ps.drop i) (fun x hx => h x (List.mem_of_mem_drop hx))).1
  omega
theorem tail_bytes (T : ByteArray) (n : Nat) (h : n ≤ T.size) : (T.extract n T.size).data.toList = T.data.toList.drop n := by
  rw [Lib.extract_data, List.take_of_length_le]
  rw [List.length_drop, Array.length_toList]
  exact Nat.le_refl _
theorem Turned.back {w W W' : World} {p : Nat} {d : AD} (h : Turned W W' p (fun k => w.heap.size ≤ k) d) (k : Keeps w W (fun _ => False)) : Arena W' p (fun k => w.heap.size ≤ k) d ∧ Keeps w W' (fun _ => False) := by
  have hs := k.size
  refine ⟨h.1.mono (fun i _ x => ?_), k.trans h.2 (fun i hi x => by have x' : w.heap.size ≤ i := x; omega)⟩
  rcases x with x | x
  · exact x
  · show w.heap.size ≤ i
    omega
/-- Behind so many parts. -/
structure RestK (limit : Nat) (ps : List (Int × Int × Bool)) (b : List UInt8) (i : Nat) (d : AD) : Prop where
  eq : d = restD (AD.fresh limit) (ps.take i) b
  fine : d.Fine
  limit : d.limit = limit
  used : (d.used : Int) = sumL (ps.take i)
  len : (d.bs.length : Int) = 16 + sumP (ps.take i)
theorem RestK.zero {limit : Nat} (hlim : limit ≤ 2097152) (ps : List (Int × Int × Bool)) (b : List UInt8) : RestK limit ps b 0 (AD.fresh limit) :=
  ⟨by simp [restD], AD.fresh_fine hlim, rfl, rfl, by simp [AD.fresh, zeros_length, sumP]⟩
theorem okP.pos {limit : Int} {ps : List (Int × Int × Bool)} {k : Nat} (h : okP limit ps k) (hk : k < ps.length) : 1 ≤ ps[k].2.1 := by
  obtain ⟨_, h1, h2, _⟩ := h hk
  refine Classical.byContradiction fun hn => h1 ?_
  unfold classI
  rw [if_neg (by omega)]
theorem RestK.next {limit : Nat} (hlim : limit ≤ 2097152) {ps : List (Int × Int × Bool)} {b : List UInt8} {i : Nat} {d : AD} (h : RestK limit ps b i d) (hok : ∀ k, okP limit ps k) (hb : (b.length : Int) = sumL ps) (hle : sumL ps ≤ limit) (hi : i < ps.length) :
    d.bs.length + ps[i].2.1.toNat ≤ 134217728 ∧ (ps[i].2.2 = true → ps[i].2.1.toNat ≤ b.length - d.used ∧ RestK limit ps b (i + 1) (d.putL ps[i].2.1.toNat ((b.drop d.used).take ps[i].2.1.toNat))) ∧ (ps[i].2.2 = false → RestK limit ps b (i + 1) (d.putF ps[i].2.1.toNat)) := by
  have hall : ∀ x ∈ ps, 0 ≤ x.2.1 ∧ x.2.1 ≤ 1048576 := fun x hx => by
    obtain ⟨j, hj, rfl⟩ := List.getElem_of_mem hx
    exact (hok j).size hj
  have hsn : ps.take (i + 1) = ps.take i ++ [ps[i]] := (List.take_append_getElem hi).symm
  have hT := okP.total (i := i + 1) (by omega) (fun k _ => hok k)
  have hp := (hok i).pos hi
  have hsz := (hok i).size hi
  have e1 := sumP_snoc (ps.take i) ps[i]
  have e2 := sumL_snoc (ps.take i) ps[i]
  rw [← hsn] at e1 e2
  have hL := sumL_take hall (i + 1)
  have h0 := h.len
  have hu := h.used
  have hroom : d.bs.length + ps[i].2.1.toNat ≤ 134217728 := by omega
  have hru : (sumL (ps.take i)).toNat = d.used := by omega
  have hrs := restD_snoc (ps.take i) ps[i] (AD.fresh limit) b (fun y hy => (hall y (List.mem_of_mem_take hy)).1)
  rw [← hsn, hru, ← h.eq] at hrs
  refine ⟨hroom, fun hlv => ?_, fun hlv => ?_⟩
  · rw [if_pos hlv] at e2 hrs
    have hbl : ps[i].2.1.toNat ≤ b.length - d.used := by omega
    have hx : ((b.drop d.used).take ps[i].2.1.toNat).length = ps[i].2.1.toNat := by rw [List.length_take, List.length_drop]; omega
    refine ⟨hbl, hrs.symm, h.fine.putL (by omega) hroom (by have := h.limit; omega) hx, h.limit, ?_, ?_⟩
    · show ((d.used + ps[i].2.1.toNat : Nat) : Int) = _
      omega
    · rw [putL_bs hx]
      omega
  · rw [if_neg (by rw [hlv]; simp)] at e2 hrs
    refine ⟨hrs.symm, h.fine.putF (by omega) hroom, h.limit, ?_, ?_⟩
    · show (d.used : Int) = _
      omega
    · show (((d.bs ++ zeros ps[i].2.1.toNat).length : Nat) : Int) = _
      rw [List.length_append, zeros_length]
      omega

def RestPost (w : World) (d : AD) (e : Ending) (w' : World) : Prop := ∃ p, e = .returned (.tuple #[.pointer (some ⟨p, 0, none⟩), .int .i64 0]) ∧ Arena w' p (fun k => w.heap.size ≤ k) d ∧ Keeps w w' (fun _ => False)

set_option maxRecDepth 100000 in
set_option maxHeartbeats 4000000 in
theorem restoreAll_yes (limit : Nat) (hlim : limit ≤ 2097152) (a : Option Addr) (ca : Nat) (ps : List (Int × Int × Bool)) (w : World) (hl : ps.length ≤ 134217728) (h1 : PartsIn w a ps) (hok : ∀ k, okP limit ps k) (S : ByteArray) (hS : (S.size : Int) = sumL ps) (hle : sumL ps ≤ limit) :
    Calls Try.prog 24 #[.int .i64 (limit : Int), .slice a ps.length ca, .string S] w fun e w' => RestPost w (restD (AD.fresh limit) ps S.data.toList) e w' := by
  have hall : ∀ x ∈ ps, 0 ≤ x.2.1 ∧ x.2.1 ≤ 1048576 := fun x hx => by
    obtain ⟨j, hj, rfl⟩ := List.getElem_of_mem hx
    exact (hok j).size hj
  have hN := anew_yes limit w hlim
  have hP := fun W k => possible_any limit hlim a ca ps W hl (h1.keeps (w' := W) k)
  have hB := fun W k => liveBytes_any a ca ps W hl hall (h1.keeps (w' := W) k)
  have hb : ((S.data.toList.length : Nat) : Int) = sumL ps := by rw [← hS, Array.length_toList]; rfl
  have hz := RestK.zero hlim ps S.data.toList
  have hnx := fun {i : Nat} {d : AD} (h : RestK limit ps S.data.toList i d) (hi : i < ps.length) => h.next hlim hok hb hle hi
  have hlast : Hid (∀ d, RestK limit ps S.data.toList ps.length d → d = restD (AD.fresh limit) ps S.data.toList) := fun d h => by
    have := h.eq
    rwa [List.take_length] at this
  have hzero : 0 ≤ sumL ps := by have := (sumL_take hall 0).2; simpa [sumL] using this
  have hle' : ¬ (limit : Int) < sumL ps := by omega
  have HS := hide hS
  go_enter Try.func24, Try.ntmps24
  go_wp2_with fail
  refine hN.mono ?_
  rintro e w1 ⟨p, rfl, hA, k1⟩
  clear hN
  go_wp2_with fail
  refine (hP _ k1).mono ?_
  rintro e w2 ⟨t, rfl, ht, k2⟩
  obtain rfl : t = true := ht.2 hok
  have k2' := k1.trans k2 (fun _ _ e => e)
  have hA2 := hA.keeps k2 (fun _ _ _ e => e)
  clear hP ht
  go_wp2_with fail
  refine (hB _ k2').mono ?_
  rintro e w3 ⟨rfl, k3⟩
  have k3' := k2'.trans k3 (fun _ _ e => e)
  have hA3 := hA2.keeps k3 (fun _ _ _ e => e)
  clear hB hA hA2 k1 k2 k3 k2'
  rw [← hS] at hle' ⊢
  go_wp2_with fail
  go_loopw [2, 36] (fun vb vi wr => ∃ (i : Nat) (d : AD) (T : ByteArray), vb = .string T ∧ vi = .int .i64 (i : Int) ∧ i ≤ ps.length ∧ RestK limit ps S.data.toList i d ∧ T.data.toList = S.data.toList.drop d.used ∧ Arena wr p (fun k => w.heap.size ≤ k) d ∧ Keeps w wr (fun _ => False)) (fun _ vi _ => ps.length - (intOf vi).toNat)
  case atStart => exact ⟨0, AD.fresh limit, S, rfl, rfl, Nat.zero_le _, hz, rfl, hA3, k3'⟩
  case round =>
    clear hz hA3 k3'
    obtain ⟨i, d, T, rfl, rfl, hi, hR, hT, hA, kr⟩ := hrel
    by_cases hlt : i < ps.length
    · rcases h1 with rfl | ⟨b1, o1, rfl, hc⟩
      · simp at hlt
      obtain ⟨x1, x2, x3⟩ := hc i hlt
      replace x1 := kr.cellK x1
      replace x2 := kr.cellK x2
      replace x3 := kr.cellK x3
      have hlt' : (i : Int) < (ps.length : Int) := by omega
      obtain ⟨n1, n2, n3⟩ := hnx hR hlt
      have hsz := hall _ (List.getElem_mem hlt)
      have hF := hR.fine
      have hTs : T.size = S.data.toList.length - d.used := by
        have : T.data.toList.length = T.size := by rw [Array.length_toList]; rfl
        rw [← this, hT, List.length_drop]
      clear hc hnx hok hall hR
      generalize ps[i].1 = y1 at *
      generalize ps[i].2.1 = y2 at *
      generalize ps[i].2.2 = y3 at *
      obtain ⟨n, rfl⟩ := Int.eq_ofNat_of_zero_le hsz.1
      rw [Int.toNat_natCast] at n1 n2 n3
      have kA : Keeps w (wr.alloc (.cells #[.int .i64 y1, .int .i64 (n : Int), .bool y3] 38)) (fun _ => False) := kr.alloc _
      have hA1 : Arena (wr.alloc (.cells #[.int .i64 y1, .int .i64 (n : Int), .bool y3] 38)) p (fun k => w.heap.size ≤ k) d := hA.keeps ((Keeps.refl wr (fun _ => False)).alloc _) (fun _ _ _ e => e)
      cases y3 with
      | true =>
        obtain ⟨n4, n5⟩ := n2 rfl
        rw [← hT] at n5
        have hn : n ≤ T.size := by omega
        have hr := restore_live hA1 hF y1 n n1 T hn
        have hT' : (T.extract n T.size).data.toList = S.data.toList.drop (d.putL n (T.data.toList.take n)).used := by
          rw [tail_bytes T n hn, hT, List.drop_drop]
          rfl
        have HT := hide hT'
        have N5 := hide n5
        clear n2 n3 n4 n5 hT hT' hA hA1 hTs
        go_wp2_with fail
        refine hr.mono ?_
        rintro e w5 ⟨rfl, ht⟩
        obtain ⟨a5, k5⟩ := ht.back kA
        clear hr ht
        go_wp2_with fail
        go_roundw
        case rel => exact ⟨i + 1, _, _, rfl, by go_num, by omega, N5.out, HT.out, a5, k5⟩
        case measure => simp [intOf]; omega
      | false =>
        have n5 := n3 rfl
        have hr := restore_free hA1 hF y1 n n1 T
        have HT : Hid (T.data.toList = S.data.toList.drop (d.putF n).used) := hT
        have N5 := hide n5
        clear n2 n3 n5 hT hA hA1
        go_wp2_with fail
        refine hr.mono ?_
        rintro e w5 ⟨rfl, ht⟩
        obtain ⟨a5, k5⟩ := ht.back kA
        clear hr ht
        go_wp2_with fail
        go_roundw
        case rel => exact ⟨i + 1, _, _, rfl, by go_num, by omega, N5.out, HT.out, a5, k5⟩
        case measure => simp [intOf]; omega
    · have hlt' : ¬ (i : Int) < (ps.length : Int) := by omega
      obtain rfl : i = ps.length := by omega
      have hd := hlast.out d hR
      subst hd
      clear hnx hlast hR h1 hall hok
      go_wp2_with fail
      go_ret2
      exact ⟨p, rfl, hA, kr⟩
end Go.Proofs.Ytpomnjkfbdmfeaa
/-
  The law's image: the live blocks' bytes.
-/
namespace Go.Proofs.Ytpomnjkfbdmfeaa
open Go.RowKit Go.Shelf
set_option linter.unusedVariables false

theorem lives_lv {d : AD} (hF : d.Fine) {x : Nat × Nat} (hx : x ∈ livesOf d.L d.lv) : x ∈ d.L ∧ d.lv (x.1 : Int) = some (x.2 : Int) := by
  obtain ⟨h1, h2⟩ := List.mem_filter.1 hx
  obtain ⟨s, hs⟩ := Option.isSome_iff_exists.1 h2
  obtain ⟨o, n, ho, rfl, hm⟩ := hF.live _ _ hs
  have ho' : x.1 = o := by omega
  have : (o, n) = x := tiles_unique hF.tiles hm h1 (by simp; omega)
  subst this
  exact ⟨h1, hs⟩
theorem lives_good {d : AD} (hF : d.Fine) {x : Nat × Nat} (hx : x ∈ livesOf d.L d.lv) : d.goodB (x.1 : Int) (x.2 : Int) = true :=
  AD.goodB_mk (lives_lv hF hx).1 (lives_lv hF hx).2 (by omega) (by simp) (by simp)
def imgL (d : AD) (l : List (Nat × Nat)) : List UInt8 := (l.map (fun x => d.span (x.1 : Int) (x.2 : Int))).flatten
theorem imgL_snoc (d : AD) (l : List (Nat × Nat)) (x : Nat × Nat) : imgL d (l ++ [x]) = imgL d l ++ d.span (x.1 : Int) (x.2 : Int) := by simp [imgL]
theorem strOf_app (x y : List UInt8) : strOf x ++ strOf y = strOf (x ++ y) := by
  apply ByteArray.ext
  apply Array.toList_inj.1
  rw [ByteArray.data_append, Array.toList_append]
  simp [strOf]
theorem strOf_size (x : List UInt8) : (strOf x).size = x.length := by simp [strOf, ByteArray.size]
theorem span_len {d : AD} (hF : d.Fine) {x : Nat × Nat} (hx : x ∈ d.L) : (d.span (x.1 : Int) (x.2 : Int)).length = x.2 := by
  have := tiles_mem hF.tiles hx
  simp [AD.span]
  omega
theorem imgL_len {d : AD} (hF : d.Fine) : ∀ (l : List (Nat × Nat)), (∀ x ∈ l, x ∈ d.L) → (imgL d l).length = (l.map (·.2)).sum
  | [], _ => rfl
  | x :: r, h => by
    have ih := imgL_len hF r (fun y hy => h y (List.mem_cons_of_mem _ hy))
    have e : imgL d (x :: r) = d.span (x.1 : Int) (x.2 : Int) ++ imgL d r := rfl
    rw [e, List.length_append, ih, span_len hF (h x (List.mem_cons_self ..))]
    rfl
theorem lives_sum : ∀ (L : List (Nat × Nat)) (lv : Int → Option Int), ((livesOf L lv).map (·.2)).sum = liveSum L lv
  | [], _ => rfl
  | y :: r, lv => by
    have ih := lives_sum r lv
    rw [liveSum_cons]
    unfold livesOf at ih ⊢
    by_cases e : (lv (y.1 : Int)).isSome = true
    · rw [List.filter_cons, if_pos e, if_pos e, List.map_cons, List.sum_cons, ih]
    · rw [List.filter_cons, if_neg e, if_neg e, ih]
      omega
theorem img_used {d : AD} (hF : d.Fine) : (imgL d (livesOf d.L d.lv)).length = d.used := by
  have h := imgL_len hF (livesOf d.L d.lv) (fun x hx => (List.mem_filter.1 hx).1)
  rw [h, lives_sum, ← hF.sum]

set_option maxRecDepth 100000 in
set_option maxHeartbeats 4000000 in
theorem image_any (p : Nat) {X : Nat → Prop} {d : AD} (most : Nat) (w : World) (hA : Arena w p X d) (hF : d.Fine) (hlen : d.L.length ≤ 134217728) (hm : (livesOf d.L d.lv).length ≤ most) (hm2 : most ≤ 134217728) :
    Calls Try.prog 23 #[.pointer (some ⟨p, 0, none⟩), .int .i64 (most : Int)] w fun e w' => e = .returned (.tuple #[.string (strOf (imgL d (livesOf d.L d.lv))), .bool true]) ∧ Keeps w w' (fun _ => False) := by
  have hbl := list_any p most w hA hF hlen hm hm2
  have hnum := fun x W => num_any x W
  have hrd : ∀ x ∈ livesOf d.L d.lv, ∀ W, Keeps w W (fun _ => False) → Calls Try.prog 39 #[.pointer (some ⟨p, 0, none⟩), .int .i64 (x.1 : Int), .int .i64 (x.2 : Int)] W fun e w' => e = .returned (.tuple #[.string (strOf (d.span (x.1 : Int) (x.2 : Int))), .int .i64 0]) ∧ Keeps W w' (fun _ => False) := fun x hx W k => by
    obtain ⟨c, hc, _⟩ := hA.keeps k (fun _ _ _ e => e)
    have hb := tiles_mem hF.tiles (lives_lv hF hx).1
    have hmo := hF.most
    have := aread_any hc hF (x.1 : Int) (x.2 : Int) (fitsI_mk (by omega) (by omega)) (fitsI_mk (by omega) (by omega))
    have e : readV d (x.1 : Int) (x.2 : Int) = (strOf (d.span (x.1 : Int) (x.2 : Int)), 0) := by
      unfold readV
      rw [if_pos (lives_good hF hx)]
    rw [e] at this
    exact this
  have hfl : (flatOf (livesOf d.L d.lv)).length = 2 * (livesOf d.L d.lv).length := flatOf_length _
  have hbig : ∀ i, (imgL d ((livesOf d.L d.lv).take i)).length ≤ 2097152 := fun i => by
    have e : imgL d (livesOf d.L d.lv) = imgL d ((livesOf d.L d.lv).take i) ++ imgL d ((livesOf d.L d.lv).drop i) := by
      unfold imgL
      rw [← List.flatten_append, ← List.map_append, List.take_append_drop]
    have h1 := img_used hF
    rw [e, List.length_append] at h1
    have := hF.use
    have := hF.lim
    omega
  have hsl : ∀ x ∈ livesOf d.L d.lv, (d.span (x.1 : Int) (x.2 : Int)).length ≤ 134217728 := fun x hx => by
    rw [span_len hF (lives_lv hF hx).1]
    have := tiles_mem hF.tiles (lives_lv hF hx).1
    have := hF.most
    omega
  have hfa := fun i (h : i < (livesOf d.L d.lv).length) => flat_at (livesOf d.L d.lv) i h
  clear hA
  generalize livesOf d.L d.lv = l at *
  go_enter Try.func23, Try.ntmps23
  go_wp2_with fail
  refine hbl.mono ?_
  rintro e W1 ⟨v, rfl, hrow, hb⟩
  have kb : Keeps w W1 (fun _ => False) := Keeps.ofBelow' hb
  obtain ⟨ga, cap, rfl, hz⟩ := row_ints hrow
  rw [hfl]
  clear hrow hb hbl
  go_wp2_with fail
  go_loopw [6, 8] (fun vs vi wr => ∃ j : Nat, vs = .string (strOf (imgL d (l.take j))) ∧ vi = .int .i64 ((2 * j : Nat) : Int) ∧ j ≤ l.length ∧ Keeps W1 wr (fun _ => False)) (fun _ vi _ => 2 * l.length - (intOf vi).toNat)
  case atStart => exact ⟨0, rfl, rfl, Nat.zero_le _, Keeps.refl _ _⟩
  case round =>
    obtain ⟨j, rfl, rfl, hj, kr⟩ := hrel
    have kw : Keeps w wr (fun _ => False) := kb.trans kr (fun _ _ e => e)
    by_cases hlt : j < l.length
    · obtain ⟨f1, f2⟩ := hfa j hlt
      obtain ⟨g, hg, cc1⟩ := hz (2 * j) (by rw [hfl]; omega)
      obtain ⟨g', hg', cc2⟩ := hz (2 * j + 1) (by rw [hfl]; omega)
      rw [hg] at hg'
      cases hg'
      subst hg
      rw [List.getElem?_eq_getElem (by rw [hfl]; omega)] at f1 f2
      rw [Option.some.inj f1] at cc1
      rw [Option.some.inj f2] at cc2
      have hin : l[j] ∈ l := List.getElem_mem hlt
      have hR := hrd l[j] hin
      have hS1 := hbig j
      have hS2 := hsl l[j] hin
      have hap : strOf (imgL d (l.take j)) ++ strOf (d.span (l[j].1 : Int) (l[j].2 : Int)) = strOf (imgL d (l.take (j + 1))) := by
        rw [strOf_app, ← imgL_snoc, List.take_append_getElem hlt]
      have z1 := strOf_size (imgL d (l.take j))
      have z2 := strOf_size (d.span (l[j].1 : Int) (l[j].2 : Int))
      obtain ⟨m, hm0⟩ : ∃ m, 2 * j = m := ⟨_, rfl⟩
      rw [hm0] at cc1 cc2 ⊢
      have hcell : ∀ W, Keeps W1 W (fun _ => False) → W.cell? ⟨g, m, none⟩ = some (.int .i64 (l[j].1 : Int)) ∧ W.cell? ⟨g, m + 1, none⟩ = some (.int .i64 (l[j].2 : Int)) := fun W k => ⟨k.cellK cc1, k.cellK cc2⟩
      have hlt' : (m : Int) + 1 < 2 * (l.length : Int) := by omega
      have hwr : IntKind.i64.wrap ((m : Int) + 1) = (m : Int) + 1 := by rw [IntKind.wrap_i64]; omega
      have hmb : m ≤ 268435456 := by omega
      have hml : m + 2 ≤ 2 * l.length := by omega
      have HA := hide hap
      clear f1 f2 hz hfa hrd hbig hsl hin hap
      generalize l[j].1 = y1 at *
      generalize l[j].2 = y2 at *
      generalize strOf (d.span (y1 : Int) (y2 : Int)) = T at *
      generalize strOf (imgL d (l.take j)) = S0 at *
      have krd : Keeps W1 wr.drew (fun _ => False) := kr.drew
      have kwd : Keeps w wr.drew (fun _ => False) := kw.drew
      have cA := (hcell wr kr).1
      have cB := (hcell wr kr).2
      clear hfl
      go_wp2_with fail
      go_region_held (fun w' => w'.cell? ⟨g, m, none⟩ = some (.int .i64 (y1 : Int)) ∧ w'.cell? ⟨g, m + 1, none⟩ = some (.int .i64 (y2 : Int))) (first | exact hcell _ krd | exact hcell _ k5)
        (first
          | (go_at_call 39; refine (hR _ kwd).mono ?_; rintro e w5 ⟨rfl, k5'⟩; have k5 : Keeps W1 w5 (fun _ => False) := krd.trans k5' (fun _ _ e => e)))
      all_goals go_wp2_with fail
      all_goals refine (hnum _ _).mono ?_
      all_goals rintro e w6 ⟨rfl, rfl⟩
      all_goals go_wp2_with fail
      all_goals go_roundw
      all_goals first | exact ⟨j + 1, by rw [HA.out], by congr 1; omega, by omega, k5⟩ | (simp [intOf]; omega)
    · have hlt' : ¬ (((2 * j : Nat) : Int) + 1 < 2 * (l.length : Int)) := by omega
      obtain rfl : j = l.length := by omega
      rw [List.take_length]
      have hwr : IntKind.i64.wrap (((2 * l.length : Nat) : Int) + 1) = ((2 * l.length : Nat) : Int) + 1 := by rw [IntKind.wrap_i64]; omega
      clear hz hfa hrd hbig hsl
      obtain ⟨m, hm0⟩ : ∃ m, 2 * l.length = m := ⟨_, rfl⟩
      rw [hm0] at hwr ⊢
      have hlt2 : ¬ ((m : Int) + 1 < (m : Int)) := by omega
      have hmb : m ≤ 268435456 := by omega
      go_wp2_with fail
      go_ret2
      exact ⟨rfl, kw⟩
end Go.Proofs.Ytpomnjkfbdmfeaa
/-
  Two arenas that go on alike, as data.
-/
namespace Go.Proofs.Ytpomnjkfbdmfeaa
open Go.RowKit Go.Shelf
set_option linter.unusedVariables false

structure Eqv (d r : AD) : Prop where
  limit : r.limit = d.limit
  used : r.used = d.used
  L : r.L = d.L
  lv : r.lv = d.lv
  fm : ∀ c, (r.fm c).getD [] = (d.fm c).getD []
  bytes : ∀ x ∈ livesOf d.L d.lv, ∀ j, j < x.2 → r.bs[x.1 + j]? = d.bs[x.1 + j]?
theorem len_of {d r : AD} (hd : d.Fine) (hr : r.Fine) (h : r.L = d.L) : r.bs.length = d.bs.length := by
  have h1 := tiles_end hd.tiles
  have h2 := tiles_end hr.tiles
  rw [h1, h2, h]
theorem Eqv.well {d r : AD} (h : Eqv d r) (hW : d.Well) : r.Well := by
  refine ⟨fun x xs hx => ?_, by rw [h.L]; exact hW.sizes, by rw [h.L, h.limit]; exact hW.most⟩
  have e := h.fm x
  rw [hx, Option.getD_some] at e
  cases hq : d.fm x with
  | none => rw [hq] at e; simp at e; rw [e]; exact List.Pairwise.nil
  | some ys => rw [hq, Option.getD_some] at e; rw [e]; exact hW.rises x ys hq
theorem Eqv.refE {d r : AD} (h : Eqv d r) (zs : List Int) : refE r zs = refE d zs := by
  unfold Go.Proofs.Ytpomnjkfbdmfeaa.refE
  rw [h.limit, h.used]
theorem Eqv.img {d r : AD} (h : Eqv d r) (hd : d.Fine) (hr : r.Fine) : imgL r (livesOf r.L r.lv) = imgL d (livesOf d.L d.lv) := by
  rw [h.L, h.lv]
  unfold imgL
  congr 1
  refine List.map_congr_left fun x hx => ?_
  have hm := (lives_lv hd hx).1
  have hb := tiles_mem hd.tiles hm
  have hl := len_of hd hr h.L
  unfold AD.span
  apply List.ext_getElem?
  intro j
  simp only [Int.toNat_natCast]
  rw [List.getElem?_take, List.getElem?_take, List.getElem?_drop, List.getElem?_drop]
  by_cases hj : j < x.2
  · rw [if_pos hj, if_pos hj]
    exact h.bytes x hx j hj
  · rw [if_neg hj, if_neg hj]

theorem upd_getD {f g : Int → Option (List Int)} (h : ∀ c, (f c).getD [] = (g c).getD []) (x : Int) (a : List Int) : ∀ c, ((upd f x (some a)) c).getD [] = ((upd g x (some a)) c).getD [] := fun c => by
  unfold upd
  by_cases e : c = x
  · rw [if_pos e, if_pos e]
  · rw [if_neg e, if_neg e]
    exact h c
theorem Eqv.gone {d r d' r' : AD} {z : Int} (h : Eqv d r) (g1 : Gone d z d') (g2 : Gone r z r') : Eqv d' r' := by
  obtain ⟨s, hs, rfl⟩ := g1
  obtain ⟨t, ht, rfl⟩ := g2
  rw [h.lv, hs] at ht
  injection ht with e
  have e : s = t := by omega
  subst e
  refine ⟨h.limit, ?_, h.L, ?_, ?_, fun x hx j hj => ?_⟩
  · show r.used - s = d.used - s
    rw [h.used]
  · show upd r.lv z none = upd d.lv z none
    rw [h.lv]
  · show ∀ c, ((upd r.fm (s : Int) (some (rising ((r.fm (s : Int)).getD [] ++ [z])))) c).getD [] = ((upd d.fm (s : Int) (some (rising ((d.fm (s : Int)).getD [] ++ [z])))) c).getD []
    rw [h.fm]
    exact upd_getD h.fm _ _
  · refine h.bytes x ?_ j hj
    have hx' : x ∈ livesOf d.L (upd d.lv z none) := hx
    obtain ⟨h1, h2⟩ := List.mem_filter.1 hx'
    refine List.mem_filter.2 ⟨h1, ?_⟩
    unfold upd at h2
    split at h2
    · cases h2
    · exact h2
/-- A block is taken in both: the same. -/
theorem Eqv.list {d r : AD} (h : Eqv d r) (hd : d.Fine) (hr : r.Fine) (c : Nat) : (listT r c).1 = (listT d c).1 ∧ (listT r c).2.limit = (listT d c).2.limit ∧ (listT r c).2.used = (listT d c).2.used ∧ (listT r c).2.L = (listT d c).2.L ∧ (listT r c).2.lv = (listT d c).2.lv ∧ ∀ x, ((listT r c).2.fm x).getD [] = ((listT d c).2.fm x).getD [] := by
  have hl := len_of hd hr h.L
  have e := h.fm (c : Int)
  have none_case : (d.fm (c : Int)).getD [] = [] → listT d c = (d.bs.length, d.took c) := fun hq => by
    unfold listT
    cases hx : d.fm (c : Int) with
    | none => rfl
    | some xs =>
      rw [hx, Option.getD_some] at hq
      rw [hq]
  have none_r : (r.fm (c : Int)).getD [] = [] → listT r c = (r.bs.length, r.took c) := fun hq => by
    unfold listT
    cases hx : r.fm (c : Int) with
    | none => rfl
    | some xs =>
      rw [hx, Option.getD_some] at hq
      rw [hq]
  cases hx : (d.fm (c : Int)).getD [] with
  | nil =>
    rw [hx] at e
    rw [none_case hx, none_r e]
    refine ⟨hl, h.limit, ?_, ?_, ?_, h.fm⟩
    · show r.used + c = d.used + c
      rw [h.used]
    · show r.L ++ [(r.bs.length, c)] = d.L ++ [(d.bs.length, c)]
      rw [h.L, hl]
    · show upd r.lv (r.bs.length : Nat) (some (c : Int)) = upd d.lv (d.bs.length : Nat) (some (c : Int))
      rw [h.lv, hl]
  | cons z t =>
    rw [hx] at e
    have h1 : d.fm (c : Int) = some (z :: t) := by
      cases hq : d.fm (c : Int) with
      | none => rw [hq] at hx; cases hx
      | some xs => rw [hq, Option.getD_some] at hx; rw [hx]
    have h2 : r.fm (c : Int) = some (z :: t) := by
      cases hq : r.fm (c : Int) with
      | none => rw [hq] at e; cases e
      | some xs => rw [hq, Option.getD_some] at e; rw [e]
    have l1 : listT d c = (z.toNat, d.retook c z.toNat t) := by unfold listT; rw [h1]
    have l2 : listT r c = (z.toNat, r.retook c z.toNat t) := by unfold listT; rw [h2]
    rw [l1, l2]
    refine ⟨rfl, h.limit, ?_, h.L, ?_, ?_⟩
    · show r.used + c = d.used + c
      rw [h.used]
    · rw [AD.retook_lv, AD.retook_lv, h.lv]
    · exact upd_getD h.fm _ _
theorem Eqv.act {d r d' r' : AD} {N Fr z z' : Int} {u : UInt8} {ys : List Int} (h : Eqv d r) (hd : d.Fine) (hr : r.Fine) (hw : d.Well) (a1 : ActD d N Fr u ys d' z) (a2 : ActD r N Fr u ys r' z') : z' = z ∧ Eqv d' r' := by
  have hwr := h.well hw
  unfold ActD at a1 a2
  by_cases hf : Fr = 0
  · rw [if_pos hf] at a1 a2
    rw [h.refE] at a2
    rcases a1 with ⟨q1, rfl, rfl⟩ | ⟨q1, rfl, rfl⟩
    · rcases a2 with ⟨_, rfl, rfl⟩ | ⟨q2, _⟩
      · exact ⟨rfl, h⟩
      · exact absurd q2 q1
    · rcases a2 with ⟨q2, _⟩ | ⟨q2, rfl, rfl⟩
      · exact absurd q1 q2
      · obtain ⟨b1, b2, b3⟩ := refE_yes q1
        obtain ⟨m, rfl⟩ := Int.eq_ofNat_of_zero_le (show 0 ≤ N by omega)
        rw [Int.toNat_natCast]
        have hcn : classI (m : Int) = (classN m : Int) := by unfold classI; rw [if_pos (by omega)]; simp
        have hc := class_in m (by omega) (by omega)
        generalize classN m = c at *
        have hB := list_B hd hw hc (by omega)
        have hR := list_B hr hwr hc (by rw [h.used, h.limit]; omega)
        obtain ⟨e1, e2, e3, e4, e5, e6⟩ := h.list hd hr c
        rw [e1] at hR ⊢
        refine ⟨rfl, ?_⟩
        have g1 : fillR (listT d c).2 ((listT d c).1 : Int) (c : Int) u = (0, (listT d c).2.bytes (splice (listT d c).2.bs (listT d c).1 (same c u))) := by
          unfold fillR
          rw [if_pos hB.good]
          simp
        have g2 : fillR (listT r c).2 ((listT d c).1 : Int) (c : Int) u = (0, (listT r c).2.bytes (splice (listT r c).2.bs (listT d c).1 (same c u))) := by
          unfold fillR
          rw [if_pos hR.good]
          simp
        rw [g1, g2]
        have hl1 := hB.low
        have hl2 := hR.low
        have hsl : (same c u).length = c := by unfold same; rw [List.length_replicate]
        refine ⟨e2, e3, e4, e5, e6, fun x hx j hj => ?_⟩
        have hx' : x ∈ livesOf (listT d c).2.L (listT d c).2.lv := hx
        show (splice (listT r c).2.bs (listT d c).1 (same c u))[x.1 + j]? = (splice (listT d c).2.bs (listT d c).1 (same c u))[x.1 + j]?
        rcases List.mem_cons.1 (hB.perm.mem_iff.1 hx') with e | hold
        · subst e
          rw [splice_get (by omega), splice_get (by omega)]
          simp only at hj ⊢
          rw [if_pos (by omega), if_pos (by omega)]
        · have hoff : ((listT d c).1, c) ∈ livesOf (listT d c).2.L (listT d c).2.lv := hB.perm.mem_iff.2 (List.mem_cons_self ..)
          have hnd := (hB.perm.map (·.1)).nodup_iff.1 (lives_nodup hB.fine)
          rw [List.map_cons, List.nodup_cons] at hnd
          have hne : x.1 ≠ (listT d c).1 := fun e => hnd.1 (List.mem_map.2 ⟨x, hold, e⟩)
          have hap := lives_apart hB.fine hx' hoff hne
          simp only at hap
          have hout : x.1 + j < (listT d c).1 ∨ (listT d c).1 + c ≤ x.1 + j := by omega
          rw [splice_off (by omega) (by rw [hsl]; exact hout), splice_off (by omega) (by rw [hsl]; exact hout), hR.rest _ hout, hB.rest _ hout]
          exact h.bytes x hold j hj
  · rw [if_neg hf] at a1 a2
    rw [h.lv] at a2
    rcases a1 with ⟨q1, rfl, rfl⟩ | ⟨s, q1, rfl, g1⟩
    · rcases a2 with ⟨_, rfl, rfl⟩ | ⟨t, q2, _⟩
      · exact ⟨rfl, h⟩
      · rw [q1] at q2; cases q2
    · rcases a2 with ⟨q2, _⟩ | ⟨t, q2, rfl, g2⟩
      · rw [q1] at q2; cases q2
      · exact ⟨rfl, h.gone g1 g2⟩
end Go.Proofs.Ytpomnjkfbdmfeaa
/-
  What Parts, Blocks and Read tell makes an arena that goes on alike.
-/
namespace Go.Proofs.Ytpomnjkfbdmfeaa
open Go.RowKit Go.Shelf
set_option linter.unusedVariables false

def psOf (lv : Int → Option Int) (L : List (Nat × Nat)) : List (Int × Int × Bool) := L.map (fun x => ((x.1 : Int), (x.2 : Int), (lv (x.1 : Int)).isSome))
theorem psOf_len (lv : Int → Option Int) (L : List (Nat × Nat)) : (psOf lv L).length = L.length := by simp [psOf]
theorem psOf_take (lv : Int → Option Int) (L : List (Nat × Nat)) (k : Nat) : (psOf lv L).take k = psOf lv (L.take k) := by simp [psOf, List.map_take]
theorem psOf_sumP (lv : Int → Option Int) : ∀ (L : List (Nat × Nat)), sumP (psOf lv L) = ((L.map Prod.snd).sum : Nat)
  | [] => rfl
  | y :: r => by
    have := psOf_sumP lv r
    have e : psOf lv (y :: r) = ((y.1 : Int), (y.2 : Int), (lv (y.1 : Int)).isSome) :: psOf lv r := rfl
    rw [e]
    simp only [sumP, List.map_cons, List.sum_cons]
    omega
theorem psOf_sumL (lv : Int → Option Int) : ∀ (L : List (Nat × Nat)), sumL (psOf lv L) = (liveSum L lv : Nat)
  | [] => rfl
  | y :: r => by
    have := psOf_sumL lv r
    have e : psOf lv (y :: r) = ((y.1 : Int), (y.2 : Int), (lv (y.1 : Int)).isSome) :: psOf lv r := rfl
    rw [e, liveSum_cons]
    simp only [sumL]
    by_cases h : (lv (y.1 : Int)).isSome = true
    · rw [if_pos h, if_pos h]
      omega
    · rw [if_neg h, if_neg h]
      omega
theorem psOf_cls (lv : Int → Option Int) (c : Nat) : ∀ (L : List (Nat × Nat)), clsP (c : Int) (psOf lv L) = (classSum L c : Nat)
  | [] => rfl
  | y :: r => by
    have := psOf_cls lv c r
    have e : psOf lv (y :: r) = ((y.1 : Int), (y.2 : Int), (lv (y.1 : Int)).isSome) :: psOf lv r := rfl
    rw [e, classSum_cons]
    simp only [clsP]
    by_cases h : y.2 = c
    · rw [if_pos (by omega), if_pos h]
      omega
    · rw [if_neg (by omega), if_neg h]
      omega
theorem tiles_at : ∀ {s : Nat} {L : List (Nat × Nat)} {e : Nat}, Tiles s L e → ∀ k (hk : k < L.length), L[k].1 = s + ((L.take k).map Prod.snd).sum
  | _, [], _, _, k, hk => by simp at hk
  | s, y :: r, e, h, 0, hk => by
    obtain ⟨h1, h2, h3⟩ := h
    simp
    omega
  | s, y :: r, e, h, k + 1, hk => by
    obtain ⟨h1, h2, h3⟩ := h
    have := tiles_at h3 k (by simpa using hk)
    simp only [List.getElem_cons_succ, List.take_succ_cons, List.map_cons, List.sum_cons]
    omega
theorem class_self : ∀ c ∈ classList, classI (c : Int) = (c : Int) := by decide +kernel
theorem classSum_take (L : List (Nat × Nat)) (c k : Nat) : classSum (L.take k) c ≤ classSum L c := by
  have := classSum_append (L.take k) (L.drop k) c
  rw [List.take_append_drop] at this
  omega
theorem psOf_ok {d : AD} (hF : d.Fine) (hW : d.Well) (k : Nat) : okP d.limit (psOf d.lv d.L) k := by
  intro hk
  have hk' : k < d.L.length := by rw [psOf_len] at hk; exact hk
  have e : (psOf d.lv d.L)[k] = ((d.L[k].1 : Int), (d.L[k].2 : Int), (d.lv (d.L[k].1 : Int)).isSome) := by simp [psOf]
  rw [e]
  have hc := hW.sizes _ (List.getElem_mem hk')
  have hcl := class_self _ hc
  have h16 := (show ∀ c ∈ classList, 16 ≤ c by decide) _ hc
  refine ⟨?_, ?_, hcl.symm, ?_⟩
  · rw [psOf_take, psOf_sumP]
    have := tiles_at hF.tiles k hk'
    simp only
    omega
  · simp only
    rw [hcl]
    omega
  · simp only
    rw [psOf_take, psOf_cls]
    have h1 := classSum_take d.L d.L[k].2 (k + 1)
    have h2 := hW.most d.L[k].2
    omega

/-- The free blocks of a class. -/
def freeOf (lv : Int → Option Int) (L : List (Nat × Nat)) (c : Int) : List Int := (L.filter (fun x => decide ((x.2 : Int) = c) && (lv (x.1 : Int)).isNone)).map (fun x => (x.1 : Int))
theorem free_eq {d : AD} (hF : d.Fine) (hW : d.Well) (c : Int) : (d.fm c).getD [] = freeOf d.lv d.L c := by
  have hs1 : ((d.fm c).getD []).Pairwise (· < ·) := by
    cases h : d.fm c with
    | none => exact List.Pairwise.nil
    | some xs => exact hW.rises c xs h
  have hs2 : (freeOf d.lv d.L c).Pairwise (· < ·) := by
    unfold freeOf
    refine List.pairwise_map.2 (List.Pairwise.sublist List.filter_sublist ?_)
    have := List.pairwise_map.1 (tiles_sorted hF.tiles)
    exact this.imp (fun h => by omega)
  have hmem : ∀ z, z ∈ (d.fm c).getD [] ↔ z ∈ freeOf d.lv d.L c := fun z => by
    constructor
    · intro hz
      cases h : d.fm c with
      | none => rw [h] at hz; cases hz
      | some xs =>
        rw [h, Option.getD_some] at hz
        obtain ⟨h1, y, hy, rfl, h3⟩ := hF.free.mem c xs h z hz
        refine List.mem_map.2 ⟨y, List.mem_filter.2 ⟨hy, ?_⟩, rfl⟩
        simp [h1, h3]
    · intro hz
      obtain ⟨y, hy, rfl⟩ := List.mem_map.1 hz
      obtain ⟨h1, h2⟩ := List.mem_filter.1 hy
      simp at h2
      obtain ⟨xs, h3, h4⟩ := hF.free.all y h1 h2.2
      rw [h2.1] at h3
      rw [h3]
      exact h4
  have hp : ((d.fm c).getD []).Perm (freeOf d.lv d.L c) := by
    have n1 := hs1.imp (fun {a b} (h : a < b) => (by omega : a ≠ b))
    have n2 := hs2.imp (fun {a b} (h : a < b) => (by omega : a ≠ b))
    exact (List.perm_ext_iff_of_nodup n1 n2).2 hmem
  exact hp.eq_of_pairwise (le := (· < ·)) (fun a b _ _ h1 h2 => by omega) hs1 hs2
theorem freeOf_snoc (lv : Int → Option Int) (L : List (Nat × Nat)) (x : Nat × Nat) (c : Int) : freeOf lv (L ++ [x]) c = freeOf lv L c ++ (if (x.2 : Int) = c ∧ lv (x.1 : Int) = none then [(x.1 : Int)] else []) := by
  unfold freeOf
  rw [List.filter_append, List.map_append]
  congr 1
  by_cases h : (x.2 : Int) = c ∧ lv (x.1 : Int) = none
  · rw [if_pos h]
    simp [h.1, h.2]
  · rw [if_neg h]
    have : (decide ((x.2 : Int) = c) && (lv (x.1 : Int)).isNone) = false := by
      rw [Bool.and_eq_false_iff]
      by_cases h1 : (x.2 : Int) = c
      · right
        cases hq : lv (x.1 : Int) with
        | none => exact absurd ⟨h1, hq⟩ h
        | some s => rfl
      · left
        simp [h1]
    simp [this]

/-- Behind k parts. -/
structure EqK (d : AD) (k : Nat) (r : AD) : Prop where
  limit : r.limit = d.limit
  used : r.used = liveSum (d.L.take k) d.lv
  L : r.L = d.L.take k
  lv : ∀ x, r.lv x = if x ∈ (d.L.take k).map (fun y => (y.1 : Int)) then d.lv x else none
  fm : ∀ c, (r.fm c).getD [] = freeOf d.lv (d.L.take k) c
  len : r.bs.length = 16 + ((d.L.take k).map Prod.snd).sum
  bytes : ∀ x ∈ livesOf (d.L.take k) d.lv, ∀ j, j < x.2 → r.bs[x.1 + j]? = d.bs[x.1 + j]?
theorem EqK.zero (d : AD) : EqK d 0 (AD.fresh d.limit) := ⟨rfl, rfl, rfl, fun x => by simp [AD.fresh], fun c => rfl, by simp [AD.fresh, zeros_length], fun x hx => by simp [livesOf] at hx⟩
theorem take_lt {d : AD} (hF : d.Fine) {k : Nat} (hk : k < d.L.length) {x : Nat × Nat} (hx : x ∈ d.L.take k) : x.1 + x.2 ≤ d.L[k].1 := by
  obtain ⟨j, hj, rfl⟩ := List.getElem_of_mem hx
  rw [List.length_take] at hj
  rw [List.getElem_take]
  have h1 := tiles_at hF.tiles j (by omega)
  have h2 := tiles_at hF.tiles k hk
  have h3 : ((d.L.take (j + 1)).map Prod.snd).sum ≤ ((d.L.take k).map Prod.snd).sum := by
    have e : d.L.take k = d.L.take (j + 1) ++ (d.L.take k).drop (j + 1) := by
      have := List.take_append_drop (j + 1) (d.L.take k)
      rw [List.take_take, Nat.min_eq_left (by omega)] at this
      exact this.symm
    rw [e, List.map_append, List.sum_append]
    omega
  rw [← List.take_append_getElem (by omega : j < d.L.length), List.map_append, List.sum_append] at h3
  simp only [List.map_cons, List.map_nil, List.sum_cons, List.sum_nil, Nat.add_zero] at h3
  omega
theorem EqK.next {d r : AD} (hF : d.Fine) {k : Nat} (h : EqK d k r) (hk : k < d.L.length) :
    ((d.lv (d.L[k].1 : Int)).isSome = true → EqK d (k + 1) (r.putL d.L[k].2 (d.span (d.L[k].1 : Int) (d.L[k].2 : Int)))) ∧ ((d.lv (d.L[k].1 : Int)).isSome = false → EqK d (k + 1) (r.putF d.L[k].2)) := by
  have hsn : d.L.take (k + 1) = d.L.take k ++ [d.L[k]] := (List.take_append_getElem hk).symm
  have hmem := List.getElem_mem hk
  have hat := tiles_at hF.tiles k hk
  have hlt := fun {x : Nat × Nat} (hx : x ∈ d.L.take k) => take_lt hF hk hx
  have hpos : ∀ x ∈ d.L, 0 < x.2 := fun x hx => hF.tiles.pos x hx
  have hsp := span_len hF hmem
  have htl := tiles_mem hF.tiles hmem
  obtain ⟨o, hx⟩ : ∃ o, d.L[k] = o := ⟨_, rfl⟩
  rw [hx] at hsn hmem hat hlt hsp htl ⊢
  have hro : r.bs.length = o.1 := by rw [h.len, hat]
  constructor
  · intro hl
    have hlv : d.lv (o.1 : Int) = some (o.2 : Int) := (lives_lv hF (List.mem_filter.2 ⟨hmem, hl⟩)).2
    have hb : ∀ j, (r.putL o.2 (d.span (o.1 : Int) (o.2 : Int))).bs[j]? = if o.1 ≤ j ∧ j < o.1 + o.2 then (d.span (o.1 : Int) (o.2 : Int))[j - o.1]? else (r.bs ++ zeros o.2)[j]? := fun j => by
      show (splice (r.bs ++ zeros o.2) r.bs.length (d.span (o.1 : Int) (o.2 : Int)))[j]? = _
      rw [splice_get (by rw [List.length_append, zeros_length, hsp]; omega), hsp, hro]
    refine ⟨h.limit, ?_, ?_, fun x => ?_, fun c => ?_, ?_, fun x hx j hj => ?_⟩
    · show r.used + o.2 = _
      rw [hsn, liveSum_append, h.used, liveSum_cons, if_pos hl]
      simp [liveSum]
    · show r.L ++ [(r.bs.length, o.2)] = _
      rw [hsn, h.L, hro]
    · show upd r.lv (r.bs.length : Nat) (some (o.2 : Int)) x = _
      rw [hro, hsn, List.map_append]
      unfold upd
      by_cases e : x = (o.1 : Int)
      · rw [if_pos e, if_pos (by rw [e]; simp), e, hlv]
      · rw [if_neg e, h.lv]
        congr 1
        simp [e]
    · show (r.fm c).getD [] = _
      rw [hsn, freeOf_snoc, if_neg (fun e => by rw [e.2] at hl; cases hl), List.append_nil]
      exact h.fm c
    · rw [putL_bs hsp, h.len, hsn, List.map_append, List.sum_append]
      simp
      omega
    · rw [hb]
      rw [hsn] at hx
      unfold livesOf at hx
      rw [List.filter_append] at hx
      rcases List.mem_append.1 hx with hx | hx
      · have hm := (List.mem_filter.1 hx).1
        have := hlt hm
        rw [if_neg (by omega), List.getElem?_append_left (by omega)]
        exact h.bytes x hx j hj
      · have hxo : x = o := by
          have := (List.mem_filter.1 hx).1
          simpa using this
        subst hxo
        rw [if_pos (by omega), Nat.add_sub_cancel_left]
        unfold AD.span
        simp only [Int.toNat_natCast]
        rw [List.getElem?_take, if_pos hj, List.getElem?_drop]
  · intro hl
    have hlv : d.lv (o.1 : Int) = none := by
      cases hq : d.lv (o.1 : Int) with
      | none => rfl
      | some s => rw [hq] at hl; cases hl
    refine ⟨h.limit, ?_, ?_, fun x => ?_, fun c => ?_, ?_, fun x hx j hj => ?_⟩
    · show r.used = _
      rw [hsn, liveSum_append, h.used, liveSum_cons, if_neg (by rw [hl]; simp)]
      simp [liveSum]
    · show r.L ++ [(r.bs.length, o.2)] = _
      rw [hsn, h.L, hro]
    · show r.lv x = _
      rw [hsn, List.map_append, h.lv]
      by_cases e : x = (o.1 : Int)
      · subst e
        rw [hlv]
        split <;> split <;> rfl
      · congr 1
        simp [e]
    · show ((upd r.fm (o.2 : Int) (some (rising ((r.fm (o.2 : Int)).getD [] ++ [(r.bs.length : Int)])))) c).getD [] = _
      rw [hsn, freeOf_snoc, hro]
      unfold upd
      by_cases e : c = (o.2 : Int)
      · rw [if_pos e, if_pos ⟨e.symm, hlv⟩, Option.getD_some, h.fm, e]
        have hsort : (freeOf d.lv (d.L.take k) (o.2 : Int) ++ [(o.1 : Int)]).Pairwise (· < ·) := by
          rw [List.pairwise_append]
          refine ⟨?_, List.pairwise_singleton _ _, fun a ha b hb => ?_⟩
          · unfold freeOf
            refine List.pairwise_map.2 (List.Pairwise.sublist (List.filter_sublist.trans (List.take_sublist k d.L)) ?_)
            have := List.pairwise_map.1 (tiles_sorted hF.tiles)
            exact this.imp (fun h => by omega)
          · simp at hb
            subst hb
            obtain ⟨y, hy, rfl⟩ := List.mem_map.1 ha
            have hm := (List.mem_filter.1 hy).1
            have := hlt hm
            have := hpos y (List.mem_of_mem_take hm)
            omega
        exact (rising_perm _).eq_of_pairwise (le := (· ≤ ·)) (fun a b _ _ h1 h2 => by omega) (rising_sorted _) (hsort.imp (fun h => by omega))
      · rw [if_neg e, if_neg (fun q => e q.1.symm), List.append_nil]
        exact h.fm c
    · show (r.bs ++ zeros o.2).length = _
      rw [List.length_append, zeros_length, h.len, hsn, List.map_append, List.sum_append]
      simp
      omega
    · show (r.bs ++ zeros o.2)[x.1 + j]? = _
      rw [hsn] at hx
      unfold livesOf at hx
      rw [List.filter_append] at hx
      rcases List.mem_append.1 hx with hx | hx
      · have hm := (List.mem_filter.1 hx).1
        have := hlt hm
        rw [List.getElem?_append_left (by omega)]
        exact h.bytes x hx j hj
      · have hx2 := List.mem_filter.1 hx
        have hxo : x = o := by simpa using hx2.1
        subst hxo
        rw [hl] at hx2
        exact absurd hx2.2 (by simp)
end Go.Proofs.Ytpomnjkfbdmfeaa
/-
  .. behind all parts; the parts as they lie in the memory.
-/
namespace Go.Proofs.Ytpomnjkfbdmfeaa
open Go.RowKit Go.Shelf
set_option linter.unusedVariables false

theorem imgL_append (d : AD) (a b : List (Nat × Nat)) : imgL d (a ++ b) = imgL d a ++ imgL d b := by simp [imgL]
theorem img_part {d : AD} (hF : d.Fine) {k : Nat} (hk : k < d.L.length) (hl : (d.lv (d.L[k].1 : Int)).isSome = true) : ((imgL d (livesOf d.L d.lv)).drop (liveSum (d.L.take k) d.lv)).take d.L[k].2 = d.span (d.L[k].1 : Int) (d.L[k].2 : Int) := by
  have e : livesOf d.L d.lv = livesOf (d.L.take k) d.lv ++ d.L[k] :: livesOf (d.L.drop (k + 1)) d.lv := by
    have h1 : d.L = d.L.take k ++ d.L[k] :: d.L.drop (k + 1) := by rw [← List.drop_eq_getElem_cons hk, List.take_append_drop]
    unfold livesOf
    have h2 : (d.L.take k ++ d.L[k] :: d.L.drop (k + 1)).filter (fun x => (d.lv (x.1 : Int)).isSome) = (d.L.take k).filter (fun x => (d.lv (x.1 : Int)).isSome) ++ d.L[k] :: (d.L.drop (k + 1)).filter (fun x => (d.lv (x.1 : Int)).isSome) := by
      rw [List.filter_append, List.filter_cons, if_pos hl]
    rw [← h1] at h2
    exact h2
  have h3 : (imgL d (livesOf (d.L.take k) d.lv)).length = liveSum (d.L.take k) d.lv := by
    have h := imgL_len hF (livesOf (d.L.take k) d.lv) (fun x hx => List.mem_of_mem_take (List.mem_filter.1 hx).1)
    rw [h, lives_sum]
  have h4 : imgL d (d.L[k] :: livesOf (d.L.drop (k + 1)) d.lv) = d.span (d.L[k].1 : Int) (d.L[k].2 : Int) ++ imgL d (livesOf (d.L.drop (k + 1)) d.lv) := rfl
  rw [e, imgL_append, h4, ← h3, List.drop_left, List.take_append_of_le_length (by rw [span_len hF (List.getElem_mem hk)]; exact Nat.le_refl _), List.take_of_length_le (by rw [span_len hF (List.getElem_mem hk)]; exact Nat.le_refl _)]
theorem rest_k {d : AD} (hF : d.Fine) : ∀ k, k ≤ d.L.length → EqK d k (restD (AD.fresh d.limit) ((psOf d.lv d.L).take k) (imgL d (livesOf d.L d.lv)))
  | 0, _ => by
    rw [List.take_zero]
    exact EqK.zero d
  | k + 1, hk => by
    have hk' : k < d.L.length := by omega
    have ih := rest_k hF k (by omega)
    have hkp : k < (psOf d.lv d.L).length := by rw [psOf_len]; exact hk'
    have e : (psOf d.lv d.L)[k] = ((d.L[k].1 : Int), (d.L[k].2 : Int), (d.lv (d.L[k].1 : Int)).isSome) := by simp [psOf]
    have hs := restD_snoc ((psOf d.lv d.L).take k) (psOf d.lv d.L)[k] (AD.fresh d.limit) (imgL d (livesOf d.L d.lv)) (fun y hy => by
      obtain ⟨x, hx, rfl⟩ := List.mem_map.1 (List.mem_of_mem_take hy)
      simp)
    rw [List.take_append_getElem hkp, e] at hs
    simp only [Int.toNat_natCast] at hs
    have e2 : sumL ((psOf d.lv d.L).take k) = (liveSum (d.L.take k) d.lv : Nat) := by rw [psOf_take, psOf_sumL]
    rw [e2, Int.toNat_natCast] at hs
    obtain ⟨n1, n2⟩ := ih.next hF hk'
    rw [hs]
    by_cases hl : (d.lv (d.L[k].1 : Int)).isSome = true
    · rw [if_pos hl, img_part hF hk' hl]
      exact n1 hl
    · rw [if_neg hl]
      exact n2 (by simpa using hl)
theorem rest_eqv {d : AD} (hF : d.Fine) (hW : d.Well) : Eqv d (restD (AD.fresh d.limit) (psOf d.lv d.L) (imgL d (livesOf d.L d.lv))) := by
  have h := rest_k hF d.L.length (Nat.le_refl _)
  rw [List.take_of_length_le (by rw [psOf_len]; exact Nat.le_refl _)] at h
  obtain ⟨a1, a2, a3, a4, a5, a6, a7⟩ := h
  rw [List.take_length] at a2 a3 a4 a5 a7
  refine ⟨a1, a2.trans hF.sum.symm, a3, ?_, fun c => (a5 c).trans (free_eq hF hW c).symm, a7⟩
  funext x
  rw [a4]
  split
  · rfl
  · rename_i hn
    cases hq : d.lv x with
    | none => rfl
    | some s =>
      obtain ⟨o, n, rfl, _, hm⟩ := hF.live x s hq
      exact absurd (List.mem_map.2 ⟨_, hm, rfl⟩) hn
theorem parts_in {w : World} {q : Nat} {L : List (Nat × Nat)} {lv : Int → Option Int} (h : w.heap[q]? = some (.cells (partC L lv).toArray 38)) : PartsIn w (some ⟨q, 0, none⟩) (psOf lv L) := by
  refine Or.inr ⟨q, 0, rfl, fun i hi => ?_⟩
  rw [psOf_len] at hi
  have e : (psOf lv L)[i]'(by rw [psOf_len]; exact hi) = ((L[i].1 : Int), (L[i].2 : Int), (lv (L[i].1 : Int)).isSome) := by simp [psOf]
  rw [e]
  obtain ⟨p0, p1, p2⟩ := partC_get L lv i hi
  refine ⟨?_, ?_, ?_⟩
  · simpa [World.cell?, h] using p0
  · simpa [World.cell?, h] using p1
  · simpa [World.cell?, h] using p2

/-- Restore of what an arena tells. -/
theorem restore_told {d : AD} (hF : d.Fine) (hW : d.Well) {w : World} {q : Nat} (h : w.heap[q]? = some (.cells (partC d.L d.lv).toArray 38)) :
    Calls Try.prog 24 #[.int .i64 (d.limit : Int), .slice (some ⟨q, 0, none⟩) d.L.length d.L.length, .string (strOf (imgL d (livesOf d.L d.lv)))] w fun e w' => ∃ r, Eqv d r ∧ r.Fine ∧ RestPost w r e w' := by
  have hu := img_used hF
  have hs : sumL (psOf d.lv d.L) = (d.used : Int) := by rw [psOf_sumL, ← hF.sum]
  have hln : d.L.length ≤ 134217728 := lives_len hF
  have hy := restoreAll_yes d.limit hF.lim (some ⟨q, 0, none⟩) d.L.length (psOf d.lv d.L) w (by rw [psOf_len]; exact hln) (parts_in h) (psOf_ok hF hW) (strOf (imgL d (livesOf d.L d.lv))) (by rw [strOf_size, hu, hs]) (by rw [hs]; have := hF.use; omega)
  rw [psOf_len] at hy
  have hd : (strOf (imgL d (livesOf d.L d.lv))).data.toList = imgL d (livesOf d.L d.lv) := by simp [strOf]
  rw [hd] at hy
  refine hy.mono fun e w' hp => ⟨_, rest_eqv hF hW, ?_, hp⟩
  have hk : ∀ i, i ≤ (psOf d.lv d.L).length → ∃ x, RestK d.limit (psOf d.lv d.L) (imgL d (livesOf d.L d.lv)) i x := fun i => by
    induction i with
    | zero => exact fun _ => ⟨_, RestK.zero hF.lim _ _⟩
    | succ i ih =>
      intro hi
      obtain ⟨x, hx⟩ := ih (by omega)
      obtain ⟨_, n2, n3⟩ := hx.next hF.lim (psOf_ok hF hW) (by rw [hu, hs]) (by rw [hs]; have := hF.use; omega) (by omega : i < (psOf d.lv d.L).length)
      cases hb : ((psOf d.lv d.L)[i]'(by omega)).2.2 with
      | true => exact ⟨_, (n2 hb).2⟩
      | false => exact ⟨_, n3 hb⟩
  obtain ⟨x, hx⟩ := hk _ (Nat.le_refl _)
  have := hx.eq
  rw [List.take_length] at this
  rw [← this]
  exact hx.fine
end Go.Proofs.Ytpomnjkfbdmfeaa
