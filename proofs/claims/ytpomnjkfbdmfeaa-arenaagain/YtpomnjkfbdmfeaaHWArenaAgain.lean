/-
  ArenaAgain's walk.
-/
import Derived.Test.YtpomnjkfbdmfeaaAg16
namespace Go.Proofs.Ytpomnjkfbdmfeaa
open Go.RowKit Go.Shelf
set_option linter.unusedVariables false
namespace arenaAgain

def Post (w : World) (e : Ending) (w' : World) : Prop := e = .returned (.bool true) ∧ Below w.heap.size w w'

set_option maxRecDepth 100000 in
set_option maxHeartbeats 4000000 in
theorem walk_no (n : Int) (v1 v2 : Value) (w : World) (h : n < 0 ∨ 2097152 < n) : Calls Try.prog 6 #[.int .i64 n, v1, v2] w fun e w' => Post w e w' := by
  have hN := anew_no n w h
  have hnum := num_any
  rcases (show n < 0 ∨ (¬ n < 0 ∧ 2097152 < n) by omega) with h0 | ⟨h0, h1⟩
  all_goals
    go_enter Try.func6, Try.ntmps6
    go_wp2_with fail
    refine hN.mono ?_
    rintro e w1 ⟨rfl, rfl⟩
    go_wp2_with fail
    refine (hnum _ _).mono ?_
    rintro e w2 ⟨rfl, rfl⟩
    go_wp2_with fail
    go_ret
    exact ⟨rfl, Below.refl _ _⟩

theorem u8_1 (i : Nat) : ∃ u : UInt8, (u.toNat : Int) = ((i : Int) + 1) % 256 := ⟨UInt8.ofNat (i + 1), by simp⟩
theorem u8_101 (i : Nat) : ∃ u : UInt8, (u.toNat : Int) = ((i : Int) + 101) % 256 := ⟨UInt8.ofNat (i + 101), by simp⟩

set_option maxRecDepth 100000 in
set_option maxHeartbeats 4000000 in
theorem walk_yes (n : Nat) (a1 a2 : Option Addr) (cap1 cap2 : Nat) (ss tt : List (Int × Int)) (w : World) (h : n ≤ 2097152) (hl1 : ss.length ≤ 8796093022000) (hl2 : tt.length ≤ 8796093022000) (hs : StepsIn w a1 ss) (ht : StepsIn w a2 tt) (hfs : ∀ x ∈ ss, fitsI x.1 ∧ fitsI x.2) (hft : ∀ x ∈ tt, fitsI x.1 ∧ fitsI x.2) :
    Calls Try.prog 6 #[.int .i64 (n : Int), .slice a1 ss.length cap1, .slice a2 tt.length cap2] w fun e w' => Post w e w' := by
  have hN := own_new (w := w) n h
  have hnum := num_any
  have g1 : ¬ (n : Int) < 0 := by omega
  have g2 : ¬ (2097152 : Int) < (n : Int) := by omega
  go_enter Try.func6, Try.ntmps6
  go_wp2_with fail
  refine hN.mono ?_
  rintro e w1 ⟨p, rfl, ho⟩
  clear hN
  go_wp2_with fail
  refine (hnum _ _).mono ?_
  rintro e w2 ⟨rfl, rfl⟩
  go_wp2_with fail
  have hK0 : OwnZ w w2 p (fun _ => False) (.slice none 0 0) [] (AD.fresh n) := ⟨ho.less (fun k _ _ e => by rcases e with e | e <;> cases e), ⟨rfl, Or.inl ⟨rfl, rfl⟩⟩, fun k e => e.elim⟩
  clear ho
  go_loopg [9, 49] ss.length (fun g v9 v49 wr => ∃ (i : Nat) (ys : List Int) (d : AD), g = ss.length - i ∧ i ≤ ss.length ∧ v49 = .int .i64 (i : Int) ∧ OwnZ w wr p (fun _ => False) v9 ys d ∧ Hid (d.Fine ∧ d.Well ∧ d.limit = n) ∧ ys.length ≤ i ∧ (∀ z ∈ ys, fitsI z) ∧ Hid (∀ j (hj : j < ss.length), j < i → stepC n ss[j] → 16 < d.bs.length))
  case atStart => exact ⟨0, [], AD.fresh n, rfl, Nat.zero_le _, rfl, hK0, ⟨AD.fresh_fine h, AD.fresh_well n, rfl⟩, Nat.le_refl _, fun z hz => (by cases hz), fun j hj h0 => absurd h0 (by omega)⟩
  case round =>
    clear hK0
    obtain ⟨i, ys, d, rfl, hi, rfl, hK, HG, hyl, hyf, hbg⟩ := hrel
    by_cases hlt : i < ss.length
    · rcases hs with rfl | ⟨b1, o1, rfl, hb1, hc⟩
      · simp at hlt
      obtain ⟨x1, x2⟩ := hc i hlt
      replace x1 := hK.own.keeps.cellK x1
      replace x2 := hK.own.keeps.cellK x2
      obtain ⟨f1, f2⟩ := hfs _ (List.getElem_mem hlt)
      have hlt' : (i : Int) < (ss.length : Int) := by omega
      have hil : (i : Int) ≤ 8796093022000 := by omega
      have hbn : Hid (∀ d' : AD, (∀ z u, ActD d ss[i].1 ss[i].2 u ys d' z → (d'.Fine ∧ d'.Well ∧ d'.limit = n) ∧ fitsI z ∧ ∀ j (hj : j < ss.length), j < i + 1 → stepC n ss[j] → 16 < d'.bs.length)) := fun d' z u hA => by
        obtain ⟨hF, hW, hlim⟩ := HG.out
        obtain ⟨hg, hz⟩ := hA.grow hF hW
        refine ⟨⟨hg.fine, hg.well, (act_limit hA hF hW).trans hlim⟩, hz, fun j hj hji hst => ?_⟩
        by_cases e : j = i
        · subst e
          exact act_big hA hF hW (by rw [hlim]; exact hst)
        · exact Nat.lt_of_lt_of_le (hbg.out j hj (by omega) hst) (grow_len hF hg)
      generalize ss[i].1 = Nn at *
      generalize ss[i].2 = Fr at *
      clear hc hfs hbg
      have hK1 := hK.stay ((Keeps.refl _ _).alloc (.cells #[.int .i64 Nn, .int .i64 Fr] 30))
      obtain ⟨u, hu⟩ := u8_1 i
      have hA := actQ_any hK1 HG.out.1 HG.out.2.1 Nn Fr u f2 hyf (by omega)
      rw [hu] at hA
      clear hK hK1
      go_wp2_with fail
      (with_reducible refine hA.mono ?_)
      rintro e w8 ⟨g, cp, d', z, rfl, K8, hAD, kq⟩
      clear hA
      obtain ⟨q1, q2, q3⟩ := hbn.out d' z u hAD
      have hyf8 : ∀ x ∈ ys ++ [z], fitsI x := fun x hx => by
        rcases List.mem_append.1 hx with hx | hx
        · exact hyf x hx
        · rw [List.mem_singleton.1 hx]
          exact q2
      have Q1 := hide q1
      have Q3 := hide q3
      clear hbn q1 q2 q3 hAD kq HG
      go_wp2_with fail
      go_roundg (ss.length - (i + 1))
      case measure => omega
      case rel => exact ⟨i + 1, ys ++ [z], d', rfl, by omega, by go_num, K8, Q1, by simp; omega, hyf8, Q3⟩
    · obtain rfl : i = ss.length := by omega
      have hlt' : ¬ (ss.length : Int) < (ss.length : Int) := by omega
      obtain ⟨hF, hW, hlim⟩ := HG.out
      subst hlim
      have hfew := lives_few hF hW
      have hI := image_any p 1048576 wr hK.own.arena hF (lives_len hF) (by omega) (by omega)
      clear HG
      go_wp2_with fail
      rw [show ((1048576 : Nat) : Int) = 1048576 from rfl] at hI
      (with_reducible refine hI.mono ?_)
      rintro e W2 ⟨rfl, k2⟩
      clear hI
      have hK2 := hK.stay k2
      have hLi : Calls Try.prog 25 #[.pointer (some ⟨p, 0, none⟩)] W2 fun e w' => e = .returned (.int .i64 (d.limit : Int)) ∧ w' = W2 := by
        obtain ⟨c, hc, _⟩ := hK2.own.arena
        exact limit_any hc
      have hPt := own_parts hK2.own hF
      clear hK k2
      go_wp2_with fail
      (with_reducible refine hLi.mono ?_)
      rintro e W2' ⟨rfl, rfl⟩
      clear hLi
      go_wp2_with fail
      (with_reducible refine hPt.mono ?_)
      rintro e W3 ⟨q, rfl, hq, hblk, k3⟩
      clear hPt
      have hRe := restore_told hF hW hblk
      have hK3 := hK2.stay k3
      clear hK2
      go_wp2_with fail
      (with_reducible refine hRe.mono ?_)
      rintro e W4 ⟨r, hEq, hFr, p2, rfl, hA2, k4⟩
      clear hRe hblk
      have hlen := len_of hF hFr hEq.L
      have hK4 := hK3.stay k4
      have hLb : Calls Try.prog 19 #[.pointer (some ⟨p2, 0, none⟩)] W4 fun e w' => e = .returned (.int .i64 (d.used : Int)) ∧ w' = W4 := by
        obtain ⟨c, hc, _⟩ := hA2
        rw [← hEq.used]
        exact live_any hc
      have hLa : Calls Try.prog 19 #[.pointer (some ⟨p, 0, none⟩)] W4 fun e w' => e = .returned (.int .i64 (d.used : Int)) ∧ w' = W4 := by
        obtain ⟨c, hc, _⟩ := hK4.own.arena
        exact live_any hc
      have hEb : Calls Try.prog 20 #[.pointer (some ⟨p2, 0, none⟩)] W4 fun e w' => e = .returned (.int .i64 (d.bs.length : Int)) ∧ w' = W4 := by
        obtain ⟨c, hc, _⟩ := hA2
        rw [← hlen]
        exact end_any hc
      have hEa : Calls Try.prog 20 #[.pointer (some ⟨p, 0, none⟩)] W4 fun e w' => e = .returned (.int .i64 (d.bs.length : Int)) ∧ w' = W4 := by
        obtain ⟨c, hc, _⟩ := hK4.own.arena
        exact end_any hc
      have hLm : Calls Try.prog 25 #[.pointer (some ⟨p2, 0, none⟩)] W4 fun e w' => e = .returned (.int .i64 (d.limit : Int)) ∧ w' = W4 := by
        obtain ⟨c, hc, _⟩ := hA2
        rw [← hEq.limit]
        exact limit_any hc
      obtain ⟨m1, mc, W5, hap, rowM, hm1, k5⟩ := copy_big hK4.row (by omega)
      have hP0 : Pair w W5 p p2 (fun _ => False) u9 (.slice (some ⟨m1, 0, none⟩) ys.length mc) ys ys d r := by
        have hs3 := hK3.own.keeps.size
        have hs4 := k4.size
        have hvl : ∀ k, u9.ownBlock = some k → k < W3.heap.size := fun k e => (hK3.row.lt k e).2
        refine ⟨⟨fun k => W3.heap.size ≤ k ∧ k < W4.heap.size, ?_, ?_, fun k y => Nat.lt_of_lt_of_le y.2 k5.size, fun k x => ?_⟩, k5.rowK hK4.row, ?_, fun k e e' => ?_, fun _ e => e.elim⟩
        · have h1 : Own w W3 p (fun k => (W3.heap.size ≤ k ∧ k < W4.heap.size) ∨ ((u9.ownBlock = some k ∨ Value.ownBlock (.slice (some ⟨m1, 0, none⟩) ys.length mc) = some k) ∨ False)) d := hK3.own.less (fun k hk _ x => by
            rcases x with x | (x | x) | x
            · omega
            · exact Or.inr x
            · have : m1 = k := by simpa [Value.ownBlock] using x
              omega
            · exact x.elim)
          exact (h1.stay k4).stay k5
        · refine ⟨(hA2.mono (G := fun k => w.heap.size ≤ k ∧ ¬ (¬ (W3.heap.size ≤ k ∧ k < W4.heap.size) ∨ ((u9.ownBlock = some k ∨ Value.ownBlock (.slice (some ⟨m1, 0, none⟩) ys.length mc) = some k) ∨ False))) (fun k hk x => ⟨by omega, fun y => ?_⟩)).keeps k5 (fun _ _ _ e => e), (hK4.own.stay k5).keeps⟩
          rcases y with y | (y | y) | y
          · exact y ⟨x, hk⟩
          · have := hvl k y
            omega
          · have : m1 = k := by simpa [Value.ownBlock] using y
            omega
          · exact y
        · rcases x with (x | x) | x
          · exact ⟨(hK4.row.lt k x).1, Nat.lt_of_lt_of_le (hK4.row.lt k x).2 k5.size⟩
          · exact ⟨by have := (rowM.lt k x).1; omega, (rowM.lt k x).2⟩
          · exact x.elim
        · exact ownsRow_less rowM (by omega)
        · have := hvl k e
          have e2 : m1 = k := by simpa [Value.ownBlock] using e'
          omega
      clear hK3 hK4 hA2 k3 k4 k5 rowM hm1
      have hWr := hEq.well hW
      go_wp2_with fail
      refine (hnum _ _).mono ?_
      rintro e w5 ⟨rfl, rfl⟩
      go_wp2_with fail
      (with_reducible refine hLb.mono ?_)
      rintro e w6 ⟨rfl, rfl⟩
      go_wp2_with fail
      (with_reducible refine hLa.mono ?_)
      rintro e w7 ⟨rfl, rfl⟩
      go_wp2_with fail
      (with_reducible refine hEb.mono ?_)
      rintro e w8 ⟨rfl, rfl⟩
      go_wp2_with fail
      (with_reducible refine hEa.mono ?_)
      rintro e w9 ⟨rfl, rfl⟩
      go_wp2_with fail
      (with_reducible refine hLm.mono ?_)
      rintro e w10 ⟨rfl, rfl⟩
      clear hLb hLa hEb hEa hLm
      go_wp2_with (first | (at_builtin; have _t := hap; refine app_run _ rfl (.tmp 105) (.tmp 106) 28 rfl rfl rfl hap ?_; clear hap))
      go_loopg [9, 16, 110] tt.length (fun g v9 v16 v110 wq => ∃ (i : Nat) (xs : List Int) (d2 r2 : AD), g = tt.length - i ∧ i ≤ tt.length ∧ v110 = .int .i64 (i : Int) ∧ Pair w wq p p2 (fun _ => False) v9 v16 xs xs d2 r2 ∧ Hid (Eqv d2 r2 ∧ d2.Fine ∧ d2.Well ∧ r2.Fine) ∧ xs.length ≤ ss.length + i ∧ (∀ z ∈ xs, fitsI z) ∧ Hid (∀ j (hj : j < ss.length), stepC d.limit ss[j] → 16 < d2.bs.length))
      case atStart => exact ⟨0, ys, d, r, rfl, Nat.zero_le _, rfl, hP0, ⟨hEq, hF, hW, hFr⟩, by omega, hyf, fun j hj hst => hbg.out j hj hj hst⟩
      case round =>
        clear hP0 hEq hFr hWr hlen hbg hyf hyl hW hfew
        obtain ⟨i, xs, d2, r2, rfl, hi, rfl, hP, HE, hxl, hxf, hbg⟩ := hrel
        obtain ⟨hEq, hF2, hW2, hFr2⟩ := HE.out
        have hWr2 := hEq.well hW2
        by_cases hlt : i < tt.length
        · rcases ht with rfl | ⟨b1, o1, rfl, hb1, hc⟩
          · simp at hlt
          obtain ⟨x1, x2⟩ := hc i hlt
          replace x1 := hP.keeps.cellK x1
          replace x2 := hP.keeps.cellK x2
          obtain ⟨f1, f2⟩ := hft _ (List.getElem_mem hlt)
          have hlt' : (i : Int) < (tt.length : Int) := by omega
          have hil : (i : Int) ≤ 8796093022000 := by omega
          generalize tt[i].1 = Nn at *
          generalize tt[i].2 = Fr at *
          clear hc hft hs hfs
          have hPb := hP.box (.cells #[.int .i64 Nn, .int .i64 Fr] 30)
          obtain ⟨u, hu⟩ := u8_101 i
          have hA := pair_act hPb hFr2 hWr2 Nn Fr u f2 hxf (by omega)
          rw [hu] at hA
          have hbx : (wr.alloc (.cells #[.int .i64 Nn, .int .i64 Fr] 30)).heap[wr.heap.size]? = some (.cells #[.int .i64 Nn, .int .i64 Fr] 30) := heap_alloc_new _ _
          clear hP hPb
          go_wp2_with fail
          (with_reducible refine hA.mono ?_)
          rintro e W6 ⟨g', cp', r', z', rfl, hADr, hP6, hst6⟩
          clear hA
          have hb6 := (hst6 _ rfl).trans hbx
          obtain ⟨d0, d1⟩ := two_cells hb6
          have hA := pair_act hP6.swap hF2 hW2 Nn Fr u f2 hxf (by omega)
          rw [hu] at hA
          clear hP6 hst6 hbx hb6
          go_wp2_with fail
          (with_reducible refine hA.mono ?_)
          rintro e W7 ⟨g3, cp3, d', z, rfl, hADd, hP7, _⟩
          clear hA d0 d1
          obtain ⟨rfl, hEq'⟩ := hEq.act hF2 hFr2 hW2 hADd hADr
          obtain ⟨hg7, hzf⟩ := hADd.grow hF2 hW2
          have hFr' : r'.Fine := (hADr.grow hFr2 hWr2).1.fine
          have hP8 := hP7.swap.drop
          have hbig : Hid (∀ j (hj : j < ss.length), stepC d.limit ss[j] → 16 < d'.bs.length) := fun j hj hst => Nat.lt_of_lt_of_le (hbg.out j hj hst) (grow_len hF2 hg7)
          have hxf8 : ∀ x ∈ xs ++ [z'], fitsI x := fun x hx => by
            rcases List.mem_append.1 hx with hx | hx
            · exact hxf x hx
            · rw [List.mem_singleton.1 hx]
              exact hzf
          have hE8 : Hid (Eqv d' r' ∧ d'.Fine ∧ d'.Well ∧ r'.Fine) := ⟨hEq', hg7.fine, hg7.well, hFr'⟩
          have hlen := len_of hg7.fine hFr' hEq'.L
          have hsl : (xs ++ [z']).length = xs.length + 1 := by simp
          have hr1 := hP8.row
          have hr2 := hP8.row'
          rw [hsl] at hr1 hr2
          have hsm := same_true (some ⟨g', 0, none⟩) (some ⟨g3, 0, none⟩) cp' cp3 (xs ++ [z']) W7 (by rw [hsl]; omega) (fun j hj => by
            refine ⟨g', 0, rfl, ?_⟩
            have := row_cells (os := xs ++ [z']) (cap := cp') (B := w.heap.size) (g := g') (by rw [hsl]; exact hr2) j hj
            exact this) (fun j hj => by
            refine ⟨g3, 0, rfl, ?_⟩
            have := row_cells (os := xs ++ [z']) (cap := cp3) (B := w.heap.size) (g := g3) (by rw [hsl]; exact hr1) j hj
            exact this)
          rw [hsl] at hsm
          clear hr1 hr2 hP7 hADr hADd hg7 hEq hF2 hW2 hFr2 hWr2 HE hbg
          go_wp2_with fail
          (with_reducible refine hsm.mono ?_)
          rintro e W8 ⟨rfl, k8⟩
          clear hsm
          have hP9 := hP8.stay k8
          clear hP8 k8
          have hLb : Calls Try.prog 19 #[.pointer (some ⟨p2, 0, none⟩)] W8 fun e w' => e = .returned (.int .i64 (d'.used : Int)) ∧ w' = W8 := by
            obtain ⟨X, c, hc, _⟩ := hP9.swap.arena
            rw [← hEq'.used]
            exact live_any hc
          have hLa : Calls Try.prog 19 #[.pointer (some ⟨p, 0, none⟩)] W8 fun e w' => e = .returned (.int .i64 (d'.used : Int)) ∧ w' = W8 := by
            obtain ⟨X, c, hc, _⟩ := hP9.arena
            exact live_any hc
          have hEb : Calls Try.prog 20 #[.pointer (some ⟨p2, 0, none⟩)] W8 fun e w' => e = .returned (.int .i64 (d'.bs.length : Int)) ∧ w' = W8 := by
            obtain ⟨X, c, hc, _⟩ := hP9.swap.arena
            rw [← hlen]
            exact end_any hc
          have hEa : Calls Try.prog 20 #[.pointer (some ⟨p, 0, none⟩)] W8 fun e w' => e = .returned (.int .i64 (d'.bs.length : Int)) ∧ w' = W8 := by
            obtain ⟨X, c, hc, _⟩ := hP9.arena
            exact end_any hc
          clear hlen hEq' hFr'
          go_wp2_with fail
          (with_reducible refine hLb.mono ?_)
          rintro e w11 ⟨rfl, rfl⟩
          go_wp2_with fail
          (with_reducible refine hLa.mono ?_)
          rintro e w12 ⟨rfl, rfl⟩
          go_wp2_with fail
          (with_reducible refine hEb.mono ?_)
          rintro e w13 ⟨rfl, rfl⟩
          go_wp2_with fail
          (with_reducible refine hEa.mono ?_)
          rintro e w14 ⟨rfl, rfl⟩
          go_wp2_with fail
          go_roundg (tt.length - (i + 1))
          case measure => omega
          case rel => exact ⟨i + 1, xs ++ [z'], d', r', rfl, by omega, by go_num, hP9, hE8, by rw [hsl]; omega, hxf8, hbig⟩
        · obtain rfl : i = tt.length := by omega
          have hlt' : ¬ (tt.length : Int) < (tt.length : Int) := by omega
          have hfew := lives_few hF2 hW2
          have hI1 : Calls Try.prog 23 #[.pointer (some ⟨p, 0, none⟩), .int .i64 1048576] wr fun e w' => e = .returned (.tuple #[.string (strOf (imgL d2 (livesOf d2.L d2.lv))), .bool true]) ∧ Keeps wr w' (fun _ => False) := by
            obtain ⟨X, hA⟩ := hP.arena
            exact image_any p 1048576 wr hA hF2 (lives_len hF2) (by omega) (by omega)
          have hI2 : ∀ W, Pair w W p p2 (fun _ => False) u9 u16 xs xs d2 r2 → Calls Try.prog 23 #[.pointer (some ⟨p2, 0, none⟩), .int .i64 1048576] W fun e w' => e = .returned (.tuple #[.string (strOf (imgL d2 (livesOf d2.L d2.lv))), .bool true]) ∧ Keeps W w' (fun _ => False) := fun W hPW => by
            obtain ⟨X, hA⟩ := hPW.swap.arena
            rw [← hEq.img hF2 hFr2]
            exact image_any p2 1048576 W hA hFr2 (lives_len hFr2) (by rw [hEq.L, hEq.lv]; omega) (by omega)
          have hB1 : ∀ W, Pair w W p p2 (fun _ => False) u9 u16 xs xs d2 r2 → Calls Try.prog 22 #[.pointer (some ⟨p, 0, none⟩), .int .i64 1048576] W fun e W' => ∃ v, e = .returned v ∧ W'.ownsRow W.heap.size 3 1 v (flatOf (livesOf d2.L d2.lv)).length ((flatOf (livesOf d2.L d2.lv)).map (Value.int .i64)) ∧ Below W.heap.size W W' := fun W hPW => by
            obtain ⟨X, hA⟩ := hPW.arena
            exact list_any p 1048576 W hA hF2 (lives_len hF2) (by omega) (by omega)
          have hB2 : ∀ W, Pair w W p p2 (fun _ => False) u9 u16 xs xs d2 r2 → Calls Try.prog 22 #[.pointer (some ⟨p2, 0, none⟩), .int .i64 1048576] W fun e W' => ∃ v, e = .returned v ∧ W'.ownsRow W.heap.size 3 1 v (flatOf (livesOf d2.L d2.lv)).length ((flatOf (livesOf d2.L d2.lv)).map (Value.int .i64)) ∧ Below W.heap.size W W' := fun W hPW => by
            obtain ⟨X, hA⟩ := hPW.swap.arena
            have := list_any p2 1048576 W hA hFr2 (lives_len hFr2) (by rw [hEq.L, hEq.lv]; omega) (by omega)
            rw [hEq.L, hEq.lv] at this
            exact this
          have hEn : ∀ W, Pair w W p p2 (fun _ => False) u9 u16 xs xs d2 r2 → Calls Try.prog 20 #[.pointer (some ⟨p, 0, none⟩)] W fun e w' => e = .returned (.int .i64 (d2.bs.length : Int)) ∧ w' = W := fun W hPW => by
            obtain ⟨X, c, hc, _⟩ := hPW.arena
            exact end_any hc
          have hfl : (flatOf (livesOf d2.L d2.lv)).length ≤ 140737488355328 := by rw [flatOf_length]; omega
          generalize strOf (imgL d2 (livesOf d2.L d2.lv)) = SI at *
          generalize flatOf (livesOf d2.L d2.lv) = fs at *
          clear HE hEq hF2 hW2 hFr2 hWr2 hft ht
          go_wp2_with fail
          (with_reducible refine hI1.mono ?_)
          rintro e W6 ⟨rfl, k6⟩
          have hP6 := hP.stay k6
          clear hI1 hP k6
          go_wp2_with fail
          (with_reducible refine (hI2 _ hP6).mono ?_)
          rintro e W7 ⟨rfl, k7⟩
          have hP7 := hP6.stay k7
          clear hI2 hP6 k7
          go_wp2_with fail
          go_loopg [23, 160] ss.length (fun g v23 v160 wq => ∃ i : Nat, g = ss.length - i ∧ i ≤ ss.length ∧ v160 = .int .i64 (i : Int) ∧ (v23 = .int .i64 0 ∨ (v23 = .int .i64 1 ∧ 16 < d2.bs.length)) ∧ Pair w wq p p2 (fun _ => False) u9 u16 xs xs d2 r2)
          case atStart => exact ⟨0, rfl, Nat.zero_le _, rfl, Or.inl rfl, hP7⟩
          case round =>
            clear hP7
            obtain ⟨i, rfl, hi, rfl, hv, hP⟩ := hrel
            by_cases hlt : i < ss.length
            · rcases hs with rfl | ⟨b1, o1, rfl, hb1, hc⟩
              · simp at hlt
              obtain ⟨x1, x2⟩ := hc i hlt
              replace x1 := hP.keeps.cellK x1
              replace x2 := hP.keeps.cellK x2
              have hlt2 : (i : Int) < (ss.length : Int) := by omega
              have hst : Hid (ss[i].2 = 0 → 1 ≤ ss[i].1 → ss[i].1 ≤ 1048576 → classI ss[i].1 ≤ (d.limit : Int) → 16 < d2.bs.length) := fun e1 e2 e3 e4 => hbg.out i hlt ⟨e1, e2, e3, e4⟩
              generalize ss[i].1 = Nn at *
              generalize ss[i].2 = Fr at *
              have hP1 := hP.stay ((Keeps.refl _ _).alloc (.cells #[.int .i64 Nn, .int .i64 Fr] 30))
              clear hc hbg hfs hP hB1 hB2 hEn
              have HV := hide hv
              clear hv
              by_cases q1 : Fr = 0
              · by_cases q2 : 1 ≤ Nn
                · by_cases q3 : Nn ≤ 1048576
                  · obtain ⟨m, rfl⟩ := Int.eq_ofNat_of_zero_le (show 0 ≤ Nn by omega)
                    have hC := fun W => classOf_any m W (by omega) (by omega)
                    have hcn : classI (m : Int) = (classN m : Int) := by unfold classI; rw [if_pos (by omega)]; simp
                    have hst2 : Hid ((classN m : Int) ≤ (d.limit : Int) → 16 < d2.bs.length) := fun e4 => hst.out q1 q2 q3 (by rw [hcn]; exact e4)
                    have hcl := class_le m (by omega) (by omega)
                    subst q1
                    clear hst hcn
                    generalize classN m = cm at *
                    by_cases q4 : (cm : Int) ≤ (d.limit : Int)
                    · have hb := hst2.out q4
                      go_wp2_with fail
                      (with_reducible refine (hC _).mono ?_)
                      rintro e w11 ⟨rfl, rfl⟩
                      go_wp2_with fail
                      go_roundg (ss.length - (i + 1))
                      case measure => omega
                      case rel => exact ⟨i + 1, rfl, by omega, by go_num, Or.inr ⟨rfl, hb⟩, hP1⟩
                    · go_wp2_with fail
                      (with_reducible refine (hC _).mono ?_)
                      rintro e w11 ⟨rfl, rfl⟩
                      go_wp2_with fail
                      go_roundg (ss.length - (i + 1))
                      case measure => omega
                      case rel => exact ⟨i + 1, rfl, by omega, by go_num, HV.out, hP1⟩
                  · subst q1
                    go_wp2_with fail
                    go_roundg (ss.length - (i + 1))
                    case measure => omega
                    case rel => exact ⟨i + 1, rfl, by omega, by go_num, HV.out, hP1⟩
                · subst q1
                  go_wp2_with fail
                  go_roundg (ss.length - (i + 1))
                  case measure => omega
                  case rel => exact ⟨i + 1, rfl, by omega, by go_num, HV.out, hP1⟩
              · have q1' : (Fr == 0) = false := beq_eq_false_iff_ne.2 q1
                go_wp2_with fail
                go_roundg (ss.length - (i + 1))
                case measure => omega
                case rel => exact ⟨i + 1, rfl, by omega, by go_num, HV.out, hP1⟩
            · obtain rfl : i = ss.length := by omega
              have hlt2 : ¬ (ss.length : Int) < (ss.length : Int) := by omega
              rcases hv with rfl | ⟨rfl, hbb⟩
              all_goals
                go_wp2_with fail
                (with_reducible refine (hB1 _ hP).mono ?_)
                rintro e W9 ⟨v1, rfl, row1, bl1⟩
                have k9 : Keeps wr W9 (fun _ => False) := Keeps.ofBelow' bl1
                have hP9 := hP.stay k9
                clear bl1
                go_wp2_with fail
                (with_reducible refine (hB2 _ hP9).mono ?_)
                rintro e W10 ⟨v2, rfl, row2, bl2⟩
                have k10 : Keeps W9 W10 (fun _ => False) := Keeps.ofBelow' bl2
                have hP10 := hP9.stay k10
                have row1' := k10.rowK row1
                obtain ⟨ga, ca, rfl, hza⟩ := row_ints row1'
                obtain ⟨gb, cb, rfl, hzb⟩ := row_ints row2
                have hsm := same_true ga gb ca cb fs W10 hfl (fun j hj => by
                  obtain ⟨g, e, hc⟩ := hza j hj
                  exact ⟨g, 0, e, by rw [Nat.zero_add]; exact hc⟩) (fun j hj => by
                  obtain ⟨g, e, hc⟩ := hzb j hj
                  exact ⟨g, 0, e, by rw [Nat.zero_add]; exact hc⟩)
                clear bl2 row1 row2 row1' hza hzb k9 k10 hP hP9
                go_wp2_with fail
                (with_reducible refine hsm.mono ?_)
                rintro e W11 ⟨rfl, k11⟩
                have hP11 := hP10.stay k11
                have hEn1 := hEn _ hP11
                have hbel : Below w.heap.size w W11 := hP11.keeps.below (Nat.le_refl _) (fun _ _ e => e)
                clear hsm hP10 hP11 hB1 hB2 hEn k11
              · go_wp2_with fail
                go_ret
                exact ⟨rfl, hbel⟩
              · have hbb' : (16 : Int) < (d2.bs.length : Int) := by omega
                go_wp2_with fail
                (with_reducible refine hEn1.mono ?_)
                rintro e w12 ⟨rfl, rfl⟩
                go_wp2_with fail
                go_ret
                exact ⟨rfl, hbel⟩
end arenaAgain
end Go.Proofs.Ytpomnjkfbdmfeaa
