import Derived.Deep.QuietTactic
import Derived.BigQuiet
import Derived.Test.YtgmcpjklgacdpaaIn13
namespace Go.Proofs.Ytgmcpjklgacdpaa
open Go.RowKit Go.Shelf
namespace arenaInside

def Post (w : World) (e : Ending) (w' : World) : Prop := e = .returned (.bool true) ∧ Below w.heap.size w w'

/-- The blocks that the sizes give. -/
def Sized (ss : List Int) (bl : List (Nat × Nat)) : Prop := bl.length ≤ ss.length ∧ bl.length ≤ 64 ∧ ∀ (k : Nat) (x : Nat × Nat), bl[k]? = some x → ∃ s : Nat, ss[k]? = some (s : Int) ∧ 1 ≤ s ∧ s ≤ 4096 ∧ x.2 = classN s
theorem Sized.snoc {ss : List Int} {bl : List (Nat × Nat)} (h : Sized ss bl) {s o : Nat} (hs : ss[bl.length]? = some (s : Int)) (h1 : 1 ≤ s) (h2 : s ≤ 4096) (hl : bl.length < 64) : Sized ss (bl ++ [(o, classN s)]) := by
  have hlt := (List.getElem?_eq_some_iff.1 hs).1
  refine ⟨by simp; omega, by simp; omega, fun k x hx => ?_⟩
  by_cases hk : k < bl.length
  · rw [List.getElem?_append_left hk] at hx
    exact h.2.2 k x hx
  · rw [List.getElem?_append_right (by omega)] at hx
    have hk0 : k - bl.length = 0 := by
      have := (List.getElem?_eq_some_iff.1 hx).1
      simp at this
      omega
    rw [hk0] at hx
    simp at hx
    subst hx
    have : k = bl.length := by omega
    subst this
    exact ⟨s, hs, h1, h2, rfl⟩

def offsOf (bl : List (Nat × Nat)) : List Int := bl.map (fun x => (x.1 : Int))

set_option maxRecDepth 100000 in
set_option maxHeartbeats 8000000 in
theorem walk (a : Option Addr) (cap : Nat) (ss : List Int) (dead off n : Int) (w : World) (hlen : ss.length ≤ 9223372036854775807) (hin : IntsAt w a ss) (hb : 0 < ss.length → ∀ b o, a = some ⟨b, o, none⟩ → b < w.heap.size) (hoff : fitsI off) (hn : fitsI n) :
    Calls Try.prog 5 #[.agg #[.slice a ss.length cap, .int .u64 dead, .int .i64 off, .int .i64 n]] w fun e w' => Post w e w' := by
  have hN := fun W => own_new (w := W) 2097152 (by omega)
  have hnum := num_any
  go_enter Try.func5, Try.ntmps5
  go_wp2_with fail
  go_quiet (fail)
  go_wp2_with fail
  refine (hN _).mono ?_
  rintro e w1 ⟨p, rfl, ho⟩
  clear hN
  have hW : Keeps w ((w.alloc (.cells #[.slice a ss.length cap, .int .u64 dead, .int .i64 off, .int .i64 n] 50)).drewN nq) (fun _ => False) := by
    have k := (Keeps.refl w (fun _ => False)).alloc (.cells #[.slice a ss.length cap, .int .u64 dead, .int .i64 off, .int .i64 n] 50)
    exact ⟨k.os, k.tape, k.output, k.size, k.block⟩
  generalize ((w.alloc (.cells #[.slice a ss.length cap, .int .u64 dead, .int .i64 off, .int .i64 n] 50)).drewN nq) = W0 at *
  have hR0 : OwnR W0 w1 p (.slice none 0 0) (offsOf []) (AD.fresh 2097152) := ⟨ho.less (fun _ _ _ e => by simp [Value.ownBlock] at e), World.ownsRow_nil _ _ _ _⟩
  clear ho
  go_wp2_with fail
  refine (hnum _ _).mono ?_
  rintro e w2 ⟨rfl, rfl⟩
  go_wp2_with fail
  go_loopw [9, 47] (fun v vi wr => ∃ (bl : List (Nat × Nat)) (d : AD), vi = .int .i64 (bl.length : Int) ∧ Hid (Sized ss bl) ∧ bl.length ≤ 64 ∧ bl.length ≤ ss.length ∧ Al d bl ∧ OwnR W0 wr p v (offsOf bl) d) (fun _ vi _ => ss.length - (intOf vi).toNat)
  case atStart => exact ⟨[], AD.fresh 2097152, rfl, ⟨by simp, by simp, fun k x hx => by simp at hx⟩, by simp, by simp, Al.fresh, hR0⟩
  case round =>
    clear hR0
    obtain ⟨bl, d, rfl, hsz, hb64, hbl, hA, hR⟩ := hrel
    have hbel := hR.own.below hW
    have kw : Keeps w wr (fun _ => False) := hW.trans hR.own.keeps (fun _ _ e => e)
    by_cases hlt : bl.length < ss.length
    · have hlt' : (bl.length : Int) < (ss.length : Int) := by omega
      obtain ⟨b, o, rfl, hc⟩ := hin.keeps kw (fun _ _ _ e => e) (hb (by omega)) bl.length hlt
      have hs? : ss[bl.length]? = some ss[bl.length] := List.getElem?_eq_getElem hlt
      generalize ss[bl.length] = z at *
      by_cases g64 : 64 ≤ bl.length
      · have g64' : (64 : Int) ≤ (bl.length : Int) := by omega
        clear hA hR
        go_wp2_with fail
        go_ret
        exact ⟨rfl, hbel⟩
      have g64' : ¬ (64 : Int) ≤ (bl.length : Int) := by omega
      by_cases z1 : z < 1
      · clear hA hR
        go_wp2_with fail
        go_ret
        exact ⟨rfl, hbel⟩
      by_cases z2 : 4096 < z
      · clear hA hR
        go_wp2_with fail
        go_ret
        exact ⟨rfl, hbel⟩
      obtain ⟨s, rfl⟩ := Int.eq_ofNat_of_zero_le (show 0 ≤ z by omega)
      have hC := in_alloc hR.own hR.lt hA s (by omega) (by omega) (by omega)
      have hsn := fun o => Hid.out (p := Sized ss (bl ++ [(o, classN s)])) (hsz.out.snoc (o := o) hs? (by omega) (by omega) (by omega))
      have hrow := hR.row
      clear hA hbel kw hR hs?
      go_wp2_with fail
      refine hC.mono ?_
      rintro e w3 ⟨q, rfl, d', hA', ho', hkeep⟩
      clear hC
      have hR' : OwnR W0 w3 p _ (offsOf bl) d' := ⟨ho', row_kept hrow hkeep⟩
      have hl64 : (offsOf bl).length ≤ 64 := by simp [offsOf]; omega
      have hol : (offsOf bl).length = bl.length := by simp [offsOf]
      obtain ⟨g, cp, w4, hap, hR2⟩ := hR'.push (q : Int) hl64
      have hsn' : Hid (Sized ss (bl ++ [(q, classN s)])) := hsn q
      have hoe : offsOf bl ++ [(q : Int)] = offsOf (bl ++ [(q, classN s)]) := by simp [offsOf]
      rw [hoe, hol] at hR2
      rw [hol] at hap
      clear hrow hkeep ho' hR' hsn hsz
      go_wp2_with fail
      refine (hnum _ _).mono ?_
      rintro e w5 ⟨rfl, rfl⟩
      go_wp2_with (first | (at_builtin; have _t := hap; refine app_run _ rfl (.tmp 71) (.tmp 73) 33 rfl rfl rfl hap ?_; clear hap))
      go_roundw
      case rel => exact ⟨bl ++ [(q, classN s)], d', by simp, hsn', by simp; omega, by simp; omega, hA', hR2⟩
      case measure => simp [intOf]; omega
    · have hlt' : ¬ (bl.length : Int) < (ss.length : Int) := by omega
      have hble : bl.length ≤ 64 := hb64
      obtain ⟨so, cp, rfl, hrow, hX⟩ := row_of_own hR.row
      have hol : (offsOf bl).length = bl.length := by simp [offsOf]
      have hB0 : OwnB W0 wr p so (offsOf bl) (.slice none 0 0) [] d := by
        refine ⟨hR.own.less (fun k _ _ e => ?_), hrow, fun k e => hX k e, fun k _ e => by simp [Value.ownBlock] at e, World.ownsRow_nil _ _ _ _⟩
        rcases e with e | e
        · have e : so = some ⟨k, 0, none⟩ := e
          subst e
          rfl
        · simp [Value.ownBlock] at e
      have hF0 := hA.fr
      clear hR hA hrow hX hbel kw hlt hbl hb64
      go_wp2_with fail
      go_loopw [14, 78] (fun v vi wq => ∃ (j : Nat) (bk : List (Nat × Nat)) (d' : AD), vi = .int .i64 (j : Int) ∧ j ≤ bl.length ∧ bk.length ≤ j ∧ Fr d' bl j bk ∧ OwnB W0 wq p so (offsOf bl) v bk d') (fun _ vi _ => bl.length - (intOf vi).toNat)
      case atStart => exact ⟨0, [], d, rfl, by omega, by simp, hF0, hB0⟩
      case round =>
        clear hF0 hB0
        obtain ⟨j, bk, d', rfl, hj, hbj, hF, hB⟩ := hrel
        by_cases hlt : j < bl.length
        · have hlt' : (j : Int) < (bl.length : Int) := by omega
          have kw : Keeps w wr (fun _ => False) := hW.trans hB.own.keeps (fun _ _ e => e)
          have hx : bl[j]? = some bl[j] := List.getElem?_eq_getElem hlt
          obtain ⟨s, hs, s1, s2, hxs⟩ := hsz.out.2.2 j _ hx
          obtain ⟨hsl, hse⟩ := List.getElem?_eq_some_iff.1 hs
          obtain ⟨b, o, rfl, hc⟩ := hin.keeps kw (fun _ _ _ e => e) (hb (by omega)) j hsl
          rw [hse] at hc
          obtain ⟨b2, rfl, hc2⟩ := hB.all j (by rw [hol]; exact hlt)
          have hoj : (offsOf bl)[j]'(by rw [hol]; exact hlt) = ((bl[j]).1 : Int) := by simp [offsOf]
          rw [hoj] at hc2
          have hsl' : (j : Int) < (ss.length : Int) := by omega
          have hcls := fun W => classOf_any s W s1 (by omega)
          rw [← hxs] at hcls
          generalize bl[j] = x at *
          by_cases hbit : (bits .and .u64 (dead / 2 ^ j) 1 == 0) = true
          · obtain ⟨g, cp2, w4, hap, hB'⟩ := hB.push x (by omega)
            have hF' := hF.keep hx
            clear hF hB hs hx hxs hse kw hoj
            go_wp2_with fail
            refine (hcls _).mono ?_
            rintro e w5 ⟨rfl, rfl⟩
            clear hcls
            go_wp2_with (first | (at_builtin; have _t := hap; refine app_run _ rfl (.tmp 88) (.tmp 96) 51 rfl rfl rfl hap ?_; clear hap))
            go_roundw
            case rel => exact ⟨j + 1, bk ++ [x], d', rfl, by omega, by simp; omega, hF', hB'⟩
            case measure => simp [intOf]; omega
          · have hbit' : (bits .and .u64 (dead / 2 ^ j) 1 == 0) = false := by simpa using hbit
            have hC := in_free hB.own hB.lt hF hx
            clear hF hs hx hxs hse kw hoj hbit hcls
            go_wp2_with fail
            refine hC.mono ?_
            rintro e w4 ⟨rfl, d2, hF2, ho2, hkeep⟩
            clear hC
            have hB2 := hB.turn ho2 hkeep
            clear hB ho2 hkeep
            go_wp2_with fail
            refine (hnum _ _).mono ?_
            rintro e w5 ⟨rfl, rfl⟩
            go_wp2_with fail
            go_roundw
            case rel => exact ⟨j + 1, bk, d2, rfl, by omega, by omega, hF2, hB2⟩
            case measure => simp [intOf]; omega
        · have hlt' : ¬ (j : Int) < (bl.length : Int) := by omega
          have hjl : j = bl.length := by omega
          rw [hjl] at hF
          have hgood := hF.good off n
          have hfine := hF.fine
          have hsm : d'.small := fun x hx => by
            rw [hF.L] at hx
            obtain ⟨k, hk, e⟩ := List.getElem_of_mem hx
            obtain ⟨s, _, s1, s2, hxs⟩ := hsz.out.2.2 k x (by rw [List.getElem?_eq_getElem hk, e])
            have := class_4096 s1 s2
            omega
          have hx16 : ∀ x ∈ bk, x.1 ≤ 134217728 ∧ x.2 ≤ 134217728 := fun x hx => by
            obtain ⟨_, k, _, e2⟩ := hF.kept x hx
            have ht := tiles_mem hfine.tiles (by rw [hF.L]; exact List.mem_of_getElem? e2)
            have := hfine.most
            omega
          obtain ⟨sb, cp2, rfl, hheld⟩ := held_of_own hB.row
          have ho : Own W0 wr p (fun _ => False) d' := hB.own.less (fun _ _ _ e => e.elim)
          have hbk64 : bk.length ≤ 64 := by omega
          clear hB hF hlt hj hjl hbj hsz hin hb
          obtain ⟨w3, hw3⟩ : ∃ w3, w3 = wr := ⟨wr, rfl⟩
          have k30 : Keeps w3 wr (fun _ => False) := by rw [hw3]; exact Keeps.refl _ _
          rw [← hw3] at hheld ho
          clear hw3
          go_wp2_with fail
          go_loopw [17, 107] (fun vw vi wq => ∃ i : Nat, vi = .int .i64 (i : Int) ∧ vw = .int .i64 (wantOf (spanIn (bk.take i) off n)) ∧ i ≤ bk.length ∧ Keeps w3 wq (fun _ => False)) (fun _ vi _ => bk.length - (intOf vi).toNat)
          case atStart => exact ⟨0, rfl, rfl, by omega, k30⟩
          case round =>
            clear k30
            obtain ⟨i, rfl, rfl, hi, kq⟩ := hrel
            by_cases hlt : i < bk.length
            · have hlt' : (i : Int) < (bk.length : Int) := by omega
              have hx : bk[i]? = some bk[i] := List.getElem?_eq_getElem hlt
              have hsp := spanIn_succ hx off n
              have hxb := hx16 bk[i] (List.getElem_mem hlt)
              obtain ⟨g, rfl, hgl, c1, c2, c3⟩ := hheld.keeps kq i _ hx
              generalize bk[i] = x at *
              clear hx
              have hn' : -9223372036854775808 ≤ n ∧ n ≤ 9223372036854775807 := fitsI_bounds hn
              have ho' : -9223372036854775808 ≤ off ∧ off ≤ 9223372036854775807 := fitsI_bounds hoff
              generalize spanIn (bk.take i) off n = T at *
              generalize hT2 : spanIn (bk.take (i + 1)) off n = T2 at *
              by_cases q1 : 0 ≤ n
              · by_cases q2 : n ≤ (x.2 : Int)
                · by_cases q3 : (x.1 : Int) ≤ off
                  · by_cases q4 : off - (x.1 : Int) ≤ (x.2 : Int) - n
                    · have e2 : T2 = true := by rw [hsp]; simp [q1, q2, q3, q4]
                      subst e2
                      clear hsp
                      go_wp2_with fail
                      go_roundw
                      case rel => exact ⟨i + 1, rfl, (by rw [hT2]; try rfl), by omega, kq.alloc _⟩
                      case measure => simp [intOf]; omega
                    · have e2 : T2 = T := by rw [hsp]; simp [q4]
                      subst e2
                      clear hsp
                      go_wp2_with fail
                      go_roundw
                      case rel => exact ⟨i + 1, rfl, (by rw [hT2]; try rfl), by omega, kq.alloc _⟩
                      case measure => simp [intOf]; omega
                  · have e2 : T2 = T := by rw [hsp]; simp [q3]
                    subst e2
                    clear hsp
                    go_wp2_with fail
                    go_roundw
                    case rel => exact ⟨i + 1, rfl, (by rw [hT2]; try rfl), by omega, kq.alloc _⟩
                    case measure => simp [intOf]; omega
                · have e2 : T2 = T := by rw [hsp]; simp [q2]
                  subst e2
                  clear hsp
                  go_wp2_with fail
                  go_roundw
                  case rel => exact ⟨i + 1, rfl, (by rw [hT2]; try rfl), by omega, kq.alloc _⟩
                  case measure => simp [intOf]; omega
              · have e2 : T2 = T := by rw [hsp]; simp [q1]
                subst e2
                clear hsp
                go_wp2_with fail
                go_roundw
                case rel => exact ⟨i + 1, rfl, (by rw [hT2]; try rfl), by omega, kq.alloc _⟩
                case measure => simp [intOf]; omega
            · have hlt' : ¬ (i : Int) < (bk.length : Int) := by omega
              have hil : i = bk.length := by omega
              have hG : GoodIs d' off n (spanIn (bk.take i) off n) := ⟨hfine, hsm, by rw [hgood, List.take_of_length_le (by omega)]⟩
              have ho4 := ho.stay kq
              clear hgood hfine hsm hheld ho kq hil hlt hx16 hi
              generalize spanIn (bk.take i) off n = G at *
              have hrd := io_read ho4 hG hoff hn
              cases G
              · have hw0 : wantOf false = 24 := rfl
                simp only [hw0] at hrd
                go_wp2_with fail
                refine hrd.mono ?_
                rintro e w4 ⟨s, rfl, -, hs, ho5⟩
                obtain rfl := hs trivial
                clear hs
                clear hrd ho4
                have heq := io_equal ho5 hG hoff hn
                simp only [hw0] at heq
                go_wp2_with fail
                refine (hnum _ _).mono ?_
                rintro e w4a ⟨rfl, rfl⟩
                go_wp2_with fail
                refine heq.mono ?_
                rintro e w5 ⟨rfl, ho5b⟩
                clear heq ho5
                have hfl : Calls Try.prog 22 #[.pointer (some ⟨p, 0, none⟩), .int .i64 off, .int .i64 n, .int .u8 7] w5 fun e w' => e = .returned (.int .i64 (wantOf false)) ∧ ∃ d', GoodIs d' off n false ∧ Own W0 w' p (fun _ => False) d' := io_fill ho5b hG hoff hn 7
                simp only [hw0] at hfl
                go_wp2_with fail
                refine (hnum _ _).mono ?_
                rintro e w5a ⟨rfl, rfl⟩
                go_wp2_with fail
                refine hfl.mono ?_
                rintro e w6 ⟨rfl, d5, hG5, ho5c⟩
                clear hfl ho5b hG
                have hcp := io_copy ho5c hG5 hoff hn
                simp only [hw0] at hcp
                go_wp2_with fail
                refine (hnum _ _).mono ?_
                rintro e w6a ⟨rfl, rfl⟩
                go_wp2_with fail
                refine hcp.mono ?_
                rintro e w6b ⟨rfl, d6, hG6, ho6⟩
                clear hcp ho5c hG5
                go_wp2_with fail
                refine (hnum _ _).mono ?_
                rintro e w6c ⟨rfl, rfl⟩
                by_cases hnn : 0 ≤ n ∧ n ≤ 4096
                · obtain ⟨n0, n1⟩ := hnn
                  obtain ⟨k, rfl⟩ := Int.eq_ofNat_of_zero_le n0
                  have hrp : ∀ Z, Calls Try.prog 25 #[.int .u8 1, .int .i64 (k : Int)] Z fun e w' => RepPost Z k 1 e w' := fun Z => repeat_any 1 k Z (by omega)
                  go_wp2_with fail
                  refine (hrp _).mono ?_
                  rintro e w6d ⟨rfl, kr⟩
                  clear hrp
                  have ho6d := ho6.stay kr
                  have hwr := io_write ho6d hG6 hoff (strOf (same k 1)) (by simp [strOf, same, ByteArray.size]) n1
                  simp only [hw0] at hwr
                  generalize strOf (same k 1) = tt at *
                  clear ho6 kr
                  go_wp2_with fail
                  refine hwr.mono ?_
                  rintro e w6e ⟨rfl, d7, hG7, ho7e⟩
                  clear hwr ho6d hG6
                  have hG6 := hG7
                  have ho6 := ho7e
                  clear hG7 ho7e
                  go_wp2_with fail
                  refine (hnum _ _).mono ?_
                  rintro e w6f ⟨rfl, rfl⟩
                  cases hwd : widthB (k : Int)
                  · obtain ⟨x1, x2, x4, x8⟩ := widthB_false hwd
                    have y1 : ((k : Int) != 1) = true := by simpa using x1
                    have y2 : ((k : Int) != 2) = true := by simpa using x2
                    have y4 : ((k : Int) != 4) = true := by simpa using x4
                    have y8 : ((k : Int) != 8) = true := by simpa using x8
                    have hld := io_load ho6 hG6 hoff hn
                    rw [hwd] at hld
                    simp only [Bool.false_eq_true, if_false] at hld
                    go_wp2_with fail
                    refine hld.mono ?_
                    rintro e w7 ⟨v, rfl, ho7⟩
                    clear hld
                    have hst : Calls Try.prog 27 #[.pointer (some ⟨p, 0, none⟩), .int .i64 off, .int .i64 (k : Int), .int .u64 5] w7 fun e w' => e = .returned (.int .i64 (if widthB (k : Int) then wantOf false else 10)) ∧ ∃ d', Own W0 w' p (fun _ => False) d' := io_store ho7 hG6 hoff hn 5
                    rw [hwd] at hst
                    simp only [Bool.false_eq_true, if_false] at hst
                    go_wp2_with fail
                    refine (hnum _ _).mono ?_
                    rintro e w8 ⟨rfl, rfl⟩
                    go_wp2_with fail
                    refine hst.mono ?_
                    rintro e w9 ⟨rfl, d9, ho9⟩
                    clear hst
                    have hbel := ho9.below hW
                    go_wp2_with fail
                    refine (hnum _ _).mono ?_
                    rintro e w10 ⟨rfl, rfl⟩
                    go_wp2_with fail
                    go_ret
                    exact ⟨rfl, hbel⟩
                  · have hk8 : k = 1 ∨ k = 2 ∨ k = 4 ∨ k = 8 := by have := widthB_true hwd; omega
                    have hld := io_load ho6 hG6 hoff hn
                    rw [hwd] at hld
                    simp only [if_true, hw0] at hld
                    rcases hk8 with rfl | rfl | rfl | rfl
                    · go_wp2_with fail
                      refine hld.mono ?_
                      rintro e w7 ⟨v, rfl, ho7⟩
                      clear hld
                      have hst : Calls Try.prog 27 #[.pointer (some ⟨p, 0, none⟩), .int .i64 off, .int .i64 ((1 : Nat) : Int), .int .u64 5] w7 fun e w' => e = .returned (.int .i64 (if widthB ((1 : Nat) : Int) then wantOf false else 10)) ∧ ∃ d', Own W0 w' p (fun _ => False) d' := io_store ho7 hG6 hoff hn 5
                      rw [hwd] at hst
                      simp only [if_true, hw0] at hst
                      go_wp2_with fail
                      refine (hnum _ _).mono ?_
                      rintro e w8 ⟨rfl, rfl⟩
                      go_wp2_with fail
                      refine hst.mono ?_
                      rintro e w9 ⟨rfl, d9, ho9⟩
                      clear hst
                      have hbel := ho9.below hW
                      go_wp2_with fail
                      refine (hnum _ _).mono ?_
                      rintro e w10 ⟨rfl, rfl⟩
                      go_wp2_with fail
                      go_ret
                      exact ⟨rfl, hbel⟩
                    · go_wp2_with fail
                      refine hld.mono ?_
                      rintro e w7 ⟨v, rfl, ho7⟩
                      clear hld
                      have hst : Calls Try.prog 27 #[.pointer (some ⟨p, 0, none⟩), .int .i64 off, .int .i64 ((2 : Nat) : Int), .int .u64 5] w7 fun e w' => e = .returned (.int .i64 (if widthB ((2 : Nat) : Int) then wantOf false else 10)) ∧ ∃ d', Own W0 w' p (fun _ => False) d' := io_store ho7 hG6 hoff hn 5
                      rw [hwd] at hst
                      simp only [if_true, hw0] at hst
                      go_wp2_with fail
                      refine (hnum _ _).mono ?_
                      rintro e w8 ⟨rfl, rfl⟩
                      go_wp2_with fail
                      refine hst.mono ?_
                      rintro e w9 ⟨rfl, d9, ho9⟩
                      clear hst
                      have hbel := ho9.below hW
                      go_wp2_with fail
                      refine (hnum _ _).mono ?_
                      rintro e w10 ⟨rfl, rfl⟩
                      go_wp2_with fail
                      go_ret
                      exact ⟨rfl, hbel⟩
                    · go_wp2_with fail
                      refine hld.mono ?_
                      rintro e w7 ⟨v, rfl, ho7⟩
                      clear hld
                      have hst : Calls Try.prog 27 #[.pointer (some ⟨p, 0, none⟩), .int .i64 off, .int .i64 ((4 : Nat) : Int), .int .u64 5] w7 fun e w' => e = .returned (.int .i64 (if widthB ((4 : Nat) : Int) then wantOf false else 10)) ∧ ∃ d', Own W0 w' p (fun _ => False) d' := io_store ho7 hG6 hoff hn 5
                      rw [hwd] at hst
                      simp only [if_true, hw0] at hst
                      go_wp2_with fail
                      refine (hnum _ _).mono ?_
                      rintro e w8 ⟨rfl, rfl⟩
                      go_wp2_with fail
                      refine hst.mono ?_
                      rintro e w9 ⟨rfl, d9, ho9⟩
                      clear hst
                      have hbel := ho9.below hW
                      go_wp2_with fail
                      refine (hnum _ _).mono ?_
                      rintro e w10 ⟨rfl, rfl⟩
                      go_wp2_with fail
                      go_ret
                      exact ⟨rfl, hbel⟩
                    · go_wp2_with fail
                      refine hld.mono ?_
                      rintro e w7 ⟨v, rfl, ho7⟩
                      clear hld
                      have hst : Calls Try.prog 27 #[.pointer (some ⟨p, 0, none⟩), .int .i64 off, .int .i64 ((8 : Nat) : Int), .int .u64 5] w7 fun e w' => e = .returned (.int .i64 (if widthB ((8 : Nat) : Int) then wantOf false else 10)) ∧ ∃ d', Own W0 w' p (fun _ => False) d' := io_store ho7 hG6 hoff hn 5
                      rw [hwd] at hst
                      simp only [if_true, hw0] at hst
                      go_wp2_with fail
                      refine (hnum _ _).mono ?_
                      rintro e w8 ⟨rfl, rfl⟩
                      go_wp2_with fail
                      refine hst.mono ?_
                      rintro e w9 ⟨rfl, d9, ho9⟩
                      clear hst
                      have hbel := ho9.below hW
                      go_wp2_with fail
                      refine (hnum _ _).mono ?_
                      rintro e w10 ⟨rfl, rfl⟩
                      go_wp2_with fail
                      go_ret
                      exact ⟨rfl, hbel⟩
                · have hwd : widthB n = false := by
                    cases h : widthB n
                    · rfl
                    · have := widthB_true h
                      exact absurd ⟨by omega, by omega⟩ hnn
                  by_cases n0 : 0 ≤ n
                  · have n1 : ¬ n ≤ 4096 := fun h => hnn ⟨n0, h⟩
                    obtain ⟨x1, x2, x4, x8⟩ := widthB_false hwd
                    have y1 : (n != 1) = true := by simpa using x1
                    have y2 : (n != 2) = true := by simpa using x2
                    have y4 : (n != 4) = true := by simpa using x4
                    have y8 : (n != 8) = true := by simpa using x8
                    have hld := io_load ho6 hG6 hoff hn
                    rw [hwd] at hld
                    simp only [Bool.false_eq_true, if_false] at hld
                    go_wp2_with fail
                    refine hld.mono ?_
                    rintro e w7 ⟨v, rfl, ho7⟩
                    clear hld
                    have hst : Calls Try.prog 27 #[.pointer (some ⟨p, 0, none⟩), .int .i64 off, .int .i64 n, .int .u64 5] w7 fun e w' => e = .returned (.int .i64 (if widthB n then wantOf false else 10)) ∧ ∃ d', Own W0 w' p (fun _ => False) d' := io_store ho7 hG6 hoff hn 5
                    rw [hwd] at hst
                    simp only [Bool.false_eq_true, if_false] at hst
                    go_wp2_with fail
                    refine (hnum _ _).mono ?_
                    rintro e w8 ⟨rfl, rfl⟩
                    go_wp2_with fail
                    refine hst.mono ?_
                    rintro e w9 ⟨rfl, d9, ho9⟩
                    clear hst
                    have hbel := ho9.below hW
                    go_wp2_with fail
                    refine (hnum _ _).mono ?_
                    rintro e w10 ⟨rfl, rfl⟩
                    go_wp2_with fail
                    go_ret
                    exact ⟨rfl, hbel⟩
                  · obtain ⟨x1, x2, x4, x8⟩ := widthB_false hwd
                    have y1 : (n != 1) = true := by simpa using x1
                    have y2 : (n != 2) = true := by simpa using x2
                    have y4 : (n != 4) = true := by simpa using x4
                    have y8 : (n != 8) = true := by simpa using x8
                    have hld := io_load ho6 hG6 hoff hn
                    rw [hwd] at hld
                    simp only [Bool.false_eq_true, if_false] at hld
                    go_wp2_with fail
                    refine hld.mono ?_
                    rintro e w7 ⟨v, rfl, ho7⟩
                    clear hld
                    have hst : Calls Try.prog 27 #[.pointer (some ⟨p, 0, none⟩), .int .i64 off, .int .i64 n, .int .u64 5] w7 fun e w' => e = .returned (.int .i64 (if widthB n then wantOf false else 10)) ∧ ∃ d', Own W0 w' p (fun _ => False) d' := io_store ho7 hG6 hoff hn 5
                    rw [hwd] at hst
                    simp only [Bool.false_eq_true, if_false] at hst
                    go_wp2_with fail
                    refine (hnum _ _).mono ?_
                    rintro e w8 ⟨rfl, rfl⟩
                    go_wp2_with fail
                    refine hst.mono ?_
                    rintro e w9 ⟨rfl, d9, ho9⟩
                    clear hst
                    have hbel := ho9.below hW
                    go_wp2_with fail
                    refine (hnum _ _).mono ?_
                    rintro e w10 ⟨rfl, rfl⟩
                    go_wp2_with fail
                    go_ret
                    exact ⟨rfl, hbel⟩
              · have hw0 : wantOf true = 0 := rfl
                simp only [hw0] at hrd
                go_wp2_with fail
                refine hrd.mono ?_
                rintro e w4 ⟨s, rfl, hs, -, ho5⟩
                have hsl : (s.size : Int) = n := hs trivial
                have hsl' : ((s.size : Int) != n) = false := by simp [hsl]
                clear hs
                clear hrd ho4
                have heq := io_equal ho5 hG hoff hn
                simp only [hw0] at heq
                go_wp2_with fail
                refine (hnum _ _).mono ?_
                rintro e w4a ⟨rfl, rfl⟩
                go_wp2_with fail
                refine heq.mono ?_
                rintro e w5 ⟨rfl, ho5b⟩
                clear heq ho5
                have hfl : Calls Try.prog 22 #[.pointer (some ⟨p, 0, none⟩), .int .i64 off, .int .i64 n, .int .u8 7] w5 fun e w' => e = .returned (.int .i64 (wantOf true)) ∧ ∃ d', GoodIs d' off n true ∧ Own W0 w' p (fun _ => False) d' := io_fill ho5b hG hoff hn 7
                simp only [hw0] at hfl
                go_wp2_with fail
                refine (hnum _ _).mono ?_
                rintro e w5a ⟨rfl, rfl⟩
                go_wp2_with fail
                refine hfl.mono ?_
                rintro e w6 ⟨rfl, d5, hG5, ho5c⟩
                clear hfl ho5b hG
                have hcp := io_copy ho5c hG5 hoff hn
                simp only [hw0] at hcp
                go_wp2_with fail
                refine (hnum _ _).mono ?_
                rintro e w6a ⟨rfl, rfl⟩
                go_wp2_with fail
                refine hcp.mono ?_
                rintro e w6b ⟨rfl, d6, hG6, ho6⟩
                clear hcp ho5c hG5
                go_wp2_with fail
                refine (hnum _ _).mono ?_
                rintro e w6c ⟨rfl, rfl⟩
                by_cases hnn : 0 ≤ n ∧ n ≤ 4096
                · obtain ⟨n0, n1⟩ := hnn
                  obtain ⟨k, rfl⟩ := Int.eq_ofNat_of_zero_le n0
                  have hrp : ∀ Z, Calls Try.prog 25 #[.int .u8 1, .int .i64 (k : Int)] Z fun e w' => RepPost Z k 1 e w' := fun Z => repeat_any 1 k Z (by omega)
                  go_wp2_with fail
                  refine (hrp _).mono ?_
                  rintro e w6d ⟨rfl, kr⟩
                  clear hrp
                  have ho6d := ho6.stay kr
                  have hwr := io_write ho6d hG6 hoff (strOf (same k 1)) (by simp [strOf, same, ByteArray.size]) n1
                  simp only [hw0] at hwr
                  generalize strOf (same k 1) = tt at *
                  clear ho6 kr
                  go_wp2_with fail
                  refine hwr.mono ?_
                  rintro e w6e ⟨rfl, d7, hG7, ho7e⟩
                  clear hwr ho6d hG6
                  have hG6 := hG7
                  have ho6 := ho7e
                  clear hG7 ho7e
                  go_wp2_with fail
                  refine (hnum _ _).mono ?_
                  rintro e w6f ⟨rfl, rfl⟩
                  cases hwd : widthB (k : Int)
                  · obtain ⟨x1, x2, x4, x8⟩ := widthB_false hwd
                    have y1 : ((k : Int) != 1) = true := by simpa using x1
                    have y2 : ((k : Int) != 2) = true := by simpa using x2
                    have y4 : ((k : Int) != 4) = true := by simpa using x4
                    have y8 : ((k : Int) != 8) = true := by simpa using x8
                    have hld := io_load ho6 hG6 hoff hn
                    rw [hwd] at hld
                    simp only [Bool.false_eq_true, if_false] at hld
                    go_wp2_with fail
                    refine hld.mono ?_
                    rintro e w7 ⟨v, rfl, ho7⟩
                    clear hld
                    have hst : Calls Try.prog 27 #[.pointer (some ⟨p, 0, none⟩), .int .i64 off, .int .i64 (k : Int), .int .u64 5] w7 fun e w' => e = .returned (.int .i64 (if widthB (k : Int) then wantOf true else 10)) ∧ ∃ d', Own W0 w' p (fun _ => False) d' := io_store ho7 hG6 hoff hn 5
                    rw [hwd] at hst
                    simp only [Bool.false_eq_true, if_false] at hst
                    go_wp2_with fail
                    refine (hnum _ _).mono ?_
                    rintro e w8 ⟨rfl, rfl⟩
                    go_wp2_with fail
                    refine hst.mono ?_
                    rintro e w9 ⟨rfl, d9, ho9⟩
                    clear hst
                    have hbel := ho9.below hW
                    go_wp2_with fail
                    refine (hnum _ _).mono ?_
                    rintro e w10 ⟨rfl, rfl⟩
                    go_wp2_with fail
                    go_ret
                    exact ⟨rfl, hbel⟩
                  · have hk8 : k = 1 ∨ k = 2 ∨ k = 4 ∨ k = 8 := by have := widthB_true hwd; omega
                    have hld := io_load ho6 hG6 hoff hn
                    rw [hwd] at hld
                    simp only [if_true, hw0] at hld
                    rcases hk8 with rfl | rfl | rfl | rfl
                    · go_wp2_with fail
                      refine hld.mono ?_
                      rintro e w7 ⟨v, rfl, ho7⟩
                      clear hld
                      have hst : Calls Try.prog 27 #[.pointer (some ⟨p, 0, none⟩), .int .i64 off, .int .i64 ((1 : Nat) : Int), .int .u64 5] w7 fun e w' => e = .returned (.int .i64 (if widthB ((1 : Nat) : Int) then wantOf true else 10)) ∧ ∃ d', Own W0 w' p (fun _ => False) d' := io_store ho7 hG6 hoff hn 5
                      rw [hwd] at hst
                      simp only [if_true, hw0] at hst
                      go_wp2_with fail
                      refine (hnum _ _).mono ?_
                      rintro e w8 ⟨rfl, rfl⟩
                      go_wp2_with fail
                      refine hst.mono ?_
                      rintro e w9 ⟨rfl, d9, ho9⟩
                      clear hst
                      have hbel := ho9.below hW
                      go_wp2_with fail
                      refine (hnum _ _).mono ?_
                      rintro e w10 ⟨rfl, rfl⟩
                      go_wp2_with fail
                      go_ret
                      exact ⟨rfl, hbel⟩
                    · go_wp2_with fail
                      refine hld.mono ?_
                      rintro e w7 ⟨v, rfl, ho7⟩
                      clear hld
                      have hst : Calls Try.prog 27 #[.pointer (some ⟨p, 0, none⟩), .int .i64 off, .int .i64 ((2 : Nat) : Int), .int .u64 5] w7 fun e w' => e = .returned (.int .i64 (if widthB ((2 : Nat) : Int) then wantOf true else 10)) ∧ ∃ d', Own W0 w' p (fun _ => False) d' := io_store ho7 hG6 hoff hn 5
                      rw [hwd] at hst
                      simp only [if_true, hw0] at hst
                      go_wp2_with fail
                      refine (hnum _ _).mono ?_
                      rintro e w8 ⟨rfl, rfl⟩
                      go_wp2_with fail
                      refine hst.mono ?_
                      rintro e w9 ⟨rfl, d9, ho9⟩
                      clear hst
                      have hbel := ho9.below hW
                      go_wp2_with fail
                      refine (hnum _ _).mono ?_
                      rintro e w10 ⟨rfl, rfl⟩
                      go_wp2_with fail
                      go_ret
                      exact ⟨rfl, hbel⟩
                    · go_wp2_with fail
                      refine hld.mono ?_
                      rintro e w7 ⟨v, rfl, ho7⟩
                      clear hld
                      have hst : Calls Try.prog 27 #[.pointer (some ⟨p, 0, none⟩), .int .i64 off, .int .i64 ((4 : Nat) : Int), .int .u64 5] w7 fun e w' => e = .returned (.int .i64 (if widthB ((4 : Nat) : Int) then wantOf true else 10)) ∧ ∃ d', Own W0 w' p (fun _ => False) d' := io_store ho7 hG6 hoff hn 5
                      rw [hwd] at hst
                      simp only [if_true, hw0] at hst
                      go_wp2_with fail
                      refine (hnum _ _).mono ?_
                      rintro e w8 ⟨rfl, rfl⟩
                      go_wp2_with fail
                      refine hst.mono ?_
                      rintro e w9 ⟨rfl, d9, ho9⟩
                      clear hst
                      have hbel := ho9.below hW
                      go_wp2_with fail
                      refine (hnum _ _).mono ?_
                      rintro e w10 ⟨rfl, rfl⟩
                      go_wp2_with fail
                      go_ret
                      exact ⟨rfl, hbel⟩
                    · go_wp2_with fail
                      refine hld.mono ?_
                      rintro e w7 ⟨v, rfl, ho7⟩
                      clear hld
                      have hst : Calls Try.prog 27 #[.pointer (some ⟨p, 0, none⟩), .int .i64 off, .int .i64 ((8 : Nat) : Int), .int .u64 5] w7 fun e w' => e = .returned (.int .i64 (if widthB ((8 : Nat) : Int) then wantOf true else 10)) ∧ ∃ d', Own W0 w' p (fun _ => False) d' := io_store ho7 hG6 hoff hn 5
                      rw [hwd] at hst
                      simp only [if_true, hw0] at hst
                      go_wp2_with fail
                      refine (hnum _ _).mono ?_
                      rintro e w8 ⟨rfl, rfl⟩
                      go_wp2_with fail
                      refine hst.mono ?_
                      rintro e w9 ⟨rfl, d9, ho9⟩
                      clear hst
                      have hbel := ho9.below hW
                      go_wp2_with fail
                      refine (hnum _ _).mono ?_
                      rintro e w10 ⟨rfl, rfl⟩
                      go_wp2_with fail
                      go_ret
                      exact ⟨rfl, hbel⟩
                · have hwd : widthB n = false := by
                    cases h : widthB n
                    · rfl
                    · have := widthB_true h
                      exact absurd ⟨by omega, by omega⟩ hnn
                  by_cases n0 : 0 ≤ n
                  · have n1 : ¬ n ≤ 4096 := fun h => hnn ⟨n0, h⟩
                    obtain ⟨x1, x2, x4, x8⟩ := widthB_false hwd
                    have y1 : (n != 1) = true := by simpa using x1
                    have y2 : (n != 2) = true := by simpa using x2
                    have y4 : (n != 4) = true := by simpa using x4
                    have y8 : (n != 8) = true := by simpa using x8
                    have hld := io_load ho6 hG6 hoff hn
                    rw [hwd] at hld
                    simp only [Bool.false_eq_true, if_false] at hld
                    go_wp2_with fail
                    refine hld.mono ?_
                    rintro e w7 ⟨v, rfl, ho7⟩
                    clear hld
                    have hst : Calls Try.prog 27 #[.pointer (some ⟨p, 0, none⟩), .int .i64 off, .int .i64 n, .int .u64 5] w7 fun e w' => e = .returned (.int .i64 (if widthB n then wantOf true else 10)) ∧ ∃ d', Own W0 w' p (fun _ => False) d' := io_store ho7 hG6 hoff hn 5
                    rw [hwd] at hst
                    simp only [Bool.false_eq_true, if_false] at hst
                    go_wp2_with fail
                    refine (hnum _ _).mono ?_
                    rintro e w8 ⟨rfl, rfl⟩
                    go_wp2_with fail
                    refine hst.mono ?_
                    rintro e w9 ⟨rfl, d9, ho9⟩
                    clear hst
                    have hbel := ho9.below hW
                    go_wp2_with fail
                    refine (hnum _ _).mono ?_
                    rintro e w10 ⟨rfl, rfl⟩
                    go_wp2_with fail
                    go_ret
                    exact ⟨rfl, hbel⟩
                  · exact absurd (by omega : 0 ≤ n) n0
end arenaInside
end Go.Proofs.Ytgmcpjklgacdpaa
