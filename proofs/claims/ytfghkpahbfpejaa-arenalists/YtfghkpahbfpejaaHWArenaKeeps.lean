/-
  ArenaKeeps, walked.
-/
import Derived.Test.YtfghkpahbfpejaaLi13
import Derived.Deep.QuietTactic
import Derived.BigQuiet
namespace Go.Proofs.Ytfghkpahbfpejaa
open Go.RowKit Go.Shelf
set_option linter.unusedVariables false
namespace arenaKeeps

def Post (w : World) (e : Ending) (w' : World) : Prop := e = .returned (.bool true) ∧ Below w.heap.size w w'
theorem fresh_well (n : Nat) : (AD.fresh n).Well := ⟨fun x xs h => by simp [AD.fresh] at h, fun y hy => by simp [AD.fresh] at hy, fun c => by simp [AD.fresh, classSum]⟩
theorem fresh_book (n : Nat) : Book (AD.fresh n) [] := Book.none (by simp [AD.fresh, livesOf])
/-- Limit. -/
theorem limit_any {w : World} {p : Nat} {c : AR} {d : AD} (h : ArenaAt w p c d) :
    Calls Try.prog 25 #[.pointer (some ⟨p, 0, none⟩)] w fun e w' => e = .returned (.int .i64 (d.limit : Int)) ∧ w' = w := by
  have c0 := h.cell0
  clear h
  go_enter Try.func25, Try.ntmps25
  go_wp2_with fail
  go_ret
  exact ⟨rfl, rfl⟩
theorem own_limit {w w1 : World} {p : Nat} {X : Nat → Prop} {d : AD} (h : Own w w1 p X d) : Calls Try.prog 25 #[.pointer (some ⟨p, 0, none⟩)] w1 fun e w' => e = .returned (.int .i64 (d.limit : Int)) ∧ w' = w1 := by
  obtain ⟨c, hc, _⟩ := h.arena
  exact limit_any hc

theorem fits_wrap (x : Int) : fitsI (wrap64 x) := fitsI_mk (by unfold wrap64; omega) (by unfold wrap64; omega)

set_option maxRecDepth 100000 in
set_option maxHeartbeats 1000000 in
theorem walk_no (n : Int) (v : Value) (w : World) (h : n < 0 ∨ 2097152 < n) : Calls Try.prog 7 #[.int .i64 n, v] w fun e w' => Post w e w' := by
  have hN := anew_no n w h
  have hnum := num_any
  by_cases h0 : n < 0
  · go_enter Try.func7, Try.ntmps7
    go_wp2_with fail
    refine hN.mono ?_
    rintro e w1 ⟨rfl, rfl⟩
    go_wp2_with fail
    refine (hnum _ _).mono ?_
    rintro e w2 ⟨rfl, rfl⟩
    go_wp2_with fail
    go_ret
    exact ⟨rfl, Below.refl _ _⟩
  · have h1 : 2097152 < n := by omega
    go_enter Try.func7, Try.ntmps7
    go_wp2_with fail
    refine hN.mono ?_
    rintro e w1 ⟨rfl, rfl⟩
    go_wp2_with fail
    refine (hnum _ _).mono ?_
    rintro e w2 ⟨rfl, rfl⟩
    go_wp2_with fail
    go_ret
    exact ⟨rfl, Below.refl _ _⟩

set_option maxRecDepth 100000 in
set_option maxHeartbeats 4000000 in
theorem walk_yes (n : Nat) (a : Option Addr) (cap : Nat) (ss : List (Int × Int)) (w : World) (h : n ≤ 2097152) (hl : ss.length ≤ 8796093022208) (hs : StepsIn w a ss) (hfit : ∀ x ∈ ss, fitsI x.1 ∧ fitsI x.2) :
    Calls Try.prog 7 #[.int .i64 (n : Int), .slice a ss.length cap] w fun e w' => Post w e w' := by
  have hN := own_new (w := w) n h
  have hnum := num_any
  have g1 : ¬ (n : Int) < 0 := by omega
  have g2 : ¬ (2097152 : Int) < (n : Int) := by omega
  go_enter Try.func7, Try.ntmps7
  go_wp2_with fail
  refine hN.mono ?_
  rintro e w1 ⟨p, rfl, ho⟩
  clear hN
  have hLi := own_limit ho
  have hLv := lo_live ho
  have hEn := lo_end ho
  go_wp2_with fail
  refine (hnum _ _).mono ?_
  rintro e w2 ⟨rfl, rfl⟩
  go_wp2_with fail
  refine hLi.mono ?_
  rintro e w2 ⟨rfl, rfl⟩
  go_wp2_with fail
  refine hLv.mono ?_
  rintro e w2 ⟨rfl, rfl⟩
  go_wp2_with fail
  refine hEn.mono ?_
  rintro e w2 ⟨rfl, rfl⟩
  go_wp2_with fail
  have hK0 : OwnK w w2 p (.slice none 0 0) [] (.slice none 0 0) [] (AD.fresh n) := ⟨ho.less (fun k _ _ e => by rcases e with e | e <;> cases e), ⟨rfl, Or.inl ⟨rfl, rfl⟩⟩, ⟨rfl, Or.inl ⟨rfl, rfl⟩⟩⟩
  have hHo : ∀ {W : World} (vb ve : Value) (L : List (Nat × Nat × Nat)) (ys : List Int) (d : AD), OwnK w W p vb L ve ys d → (d.limit = n ∧ d.Fine ∧ d.Well ∧ Book d L) → Calls Try.prog 28 #[.pointer (some ⟨p, 0, none⟩), vb] W fun e w' => e = .returned (.bool true) ∧ Keeps W w' (fun _ => False) := fun vb ve L ys d K ⟨_, hF, hW, hB⟩ => by
    obtain ⟨a', cap', rfl, hH⟩ := K.helds
    have h1 := tiles_length hF.tiles
    have h2 := hF.most
    exact holds_true a' cap' _ K.own.arena hF (by omega) hB hH (hB.few hF)
  clear hLi hLv hEn ho
  go_loopg [7, 8, 56] ss.length (fun g v7 v8 v56 wr => ∃ (i : Nat) (L : List (Nat × Nat × Nat)) (ys : List Int) (d : AD), g = ss.length - i ∧ i ≤ ss.length ∧ v56 = .int .i64 (i : Int) ∧ OwnK w wr p v7 L v8 ys d ∧ Hid (d.limit = n ∧ d.Fine ∧ d.Well ∧ Book d L) ∧ ys.length ≤ i ∧ (∀ z ∈ ys, fitsI z))
  case atStart => exact ⟨0, [], [], AD.fresh n, rfl, Nat.zero_le _, rfl, hK0, ⟨rfl, AD.fresh_fine h, fresh_well n, fresh_book n⟩, Nat.le_refl _, fun z hz => by cases hz⟩
  case round =>
    clear hK0
    obtain ⟨i, L, ys, d, rfl, hi, rfl, hK, HB, hyl, hyf⟩ := hrel
    by_cases hlt : i < ss.length
    · rcases hs with rfl | ⟨b1, o1, rfl, hb1, hc⟩
      · simp at hlt
      obtain ⟨x1, x2⟩ := hc i hlt
      replace x1 := hK.own.keeps.cellK x1
      replace x2 := hK.own.keeps.cellK x2
      obtain ⟨f1, f2⟩ := hfit _ (List.getElem_mem hlt)
      have hlt' : (i : Int) < (ss.length : Int) := by omega
      have hil : (i : Int) ≤ 8796093022208 := by omega
      generalize ss[i].1 = Nn at *
      generalize ss[i].2 = Fr at *
      clear hc hfit
      obtain ⟨hlim, hF, hW, hB⟩ := HB.out
      have hK1 := hK.stay ((Keeps.refl _ _).alloc (.cells #[.int .i64 Nn, .int .i64 Fr] 30))
      have hfew : (L.length : Int) ≤ 134217728 := by have := hB.few hF; omega
      obtain ⟨a7, c7, rfl, -⟩ := hK.helds
      obtain ⟨a8, c8, rfl, hrow, -⟩ := row_of_own hK1.ever
      have hyl' : (ys.length : Int) ≤ 8796093022208 := by omega
      clear hK HB
      by_cases hz : Fr = 0
      · subst hz
        obtain ⟨u, hu⟩ : ∃ u : UInt8, (u.toNat : Int) = (i : Int) % 255 + 1 := ⟨UInt8.ofNat (i % 255 + 1), by
          have : (UInt8.ofNat (i % 255 + 1)).toNat = i % 255 + 1 := by simp; omega
          rw [this]; omega⟩
        have hT := takes_any hK1 hF hW hB Nn u
        rw [hlim, hu] at hT
        have hu1 : (0 : Int) ≤ (i : Int) % 255 := by omega
        have hu2 : (i : Int) % 255 ≤ 254 := by omega
        clear hK1 hF hW hB
        go_wp2_with fail
        refine hT.mono ?_
        rintro e w8 ⟨vb', L', d', rfl, K8, hl8, hF8, hW8, hB8, hor⟩
        have HB8 : Hid (d'.limit = n ∧ d'.Fine ∧ d'.Well ∧ Book d' L') := ⟨hl8, hF8, hW8, hB8⟩
        have hF8' := hF8
        clear hT hF8 hW8
        rcases hor with ⟨rfl, rfl⟩ | ⟨x, rfl⟩
        · have K9 := K8
          have HB9 := HB8
          clear K8 HB8
          go_wp2_with fail
          refine (hHo _ _ _ _ _ K9 HB9.out).mono ?_
          rintro e w9 ⟨rfl, k9⟩
          go_wp2_with fail
          go_roundg (ss.length - (i + 1))
          case measure => omega
          case rel => exact ⟨i + 1, _, _, _, rfl, by omega, by simp, K9.stay k9, HB9, by omega, hyf⟩
        · have hx : x.1 ≤ 134217728 := by have := bound_of hF8' (hB8.live hF8' (y := x) (by simp)).1; simp at this; omega
          have hn8 : (L ++ [x]).length = L.length + 1 := by simp
          obtain ⟨a9, c9, rfl, hH9⟩ := K8.helds
          rcases hH9 with e0 | ⟨b9, o9, rfl, hc9⟩
          · simp at e0
          have x9 := (hc9 L.length (by simp)).1
          simp only [List.getElem_concat_length] at x9
          obtain ⟨g, cp, w9', hap, K9⟩ := K8.more (x.1 : Int) (by omega)
          have HB9 := HB8
          rw [hn8] at K9 ⊢
          have hyf9 : ∀ z ∈ ys ++ [(x.1 : Int)], fitsI z := fun z hz => by
            rcases List.mem_append.1 hz with hz | hz
            · exact hyf z hz
            · rw [List.mem_singleton.1 hz]
              exact fits_of hx
          clear K8 HB8 hc9 hB8 hF8'
          go_wp2_with (first | (at_builtin; have _t := hap; refine app_run _ rfl (.tmp 94) (.tmp 100) 28 rfl rfl rfl hap ?_; clear hap))
          refine (hHo _ _ _ _ _ K9 HB9.out).mono ?_
          rintro e w9 ⟨rfl, k9⟩
          go_wp2_with fail
          go_roundg (ss.length - (i + 1))
          case measure => omega
          case rel => exact ⟨i + 1, _, _, _, rfl, by omega, by simp, K9.stay k9, HB9, by simp; omega, hyf9⟩
      · have hz' : (Fr == 0) = false := by simpa using hz
        have hG := fun off (ho : fitsI off) => gives_any hK1 hF hW hB off ho
        rw [hlim] at hG
        clear hK1 hF hW hB
        by_cases hp : 0 < Fr
        · by_cases hle : Fr ≤ (ys.length : Int)
          · obtain ⟨k, rfl⟩ : ∃ k : Nat, Fr = (k : Int) + 1 := ⟨(Fr - 1).toNat, by omega⟩
            have hk : k < ys.length := by omega
            obtain ⟨b8, rfl, x8⟩ := hrow.at hk
            have hfz := hyf (at0 ys k) (by unfold at0; simp [hk])
            generalize at0 ys k = z at *
            go_wp2_with fail
            refine (hG _ hfz).mono ?_
            rintro e w8 ⟨vb', L', d', rfl, K9, hl8, hF8, hW8, hB8⟩
            have HB9 : Hid (d'.limit = n ∧ d'.Fine ∧ d'.Well ∧ Book d' L') := ⟨hl8, hF8, hW8, hB8⟩
            clear hF8 hW8 hG
            go_wp2_with fail
            refine (hHo _ _ _ _ _ K9 HB9.out).mono ?_
            rintro e w9 ⟨rfl, k9⟩
            go_wp2_with fail
            go_roundg (ss.length - (i + 1))
            case measure => omega
            case rel => exact ⟨i + 1, _, _, _, rfl, by omega, by simp, K9.stay k9, HB9, by omega, hyf⟩
          · go_wp2_with fail
            refine (hG _ (fits_wrap _)).mono ?_
            rintro e w8 ⟨vb', L', d', rfl, K9, hl8, hF8, hW8, hB8⟩
            have HB9 : Hid (d'.limit = n ∧ d'.Fine ∧ d'.Well ∧ Book d' L') := ⟨hl8, hF8, hW8, hB8⟩
            clear hF8 hW8 hG
            go_wp2_with fail
            refine (hHo _ _ _ _ _ K9 HB9.out).mono ?_
            rintro e w9 ⟨rfl, k9⟩
            go_wp2_with fail
            go_roundg (ss.length - (i + 1))
            case measure => omega
            case rel => exact ⟨i + 1, _, _, _, rfl, by omega, by simp, K9.stay k9, HB9, by omega, hyf⟩
        · go_wp2_with fail
          refine (hG _ (fits_wrap _)).mono ?_
          rintro e w8 ⟨vb', L', d', rfl, K9, hl8, hF8, hW8, hB8⟩
          have HB9 : Hid (d'.limit = n ∧ d'.Fine ∧ d'.Well ∧ Book d' L') := ⟨hl8, hF8, hW8, hB8⟩
          clear hF8 hW8 hG
          go_wp2_with fail
          refine (hHo _ _ _ _ _ K9 HB9.out).mono ?_
          rintro e w9 ⟨rfl, k9⟩
          go_wp2_with fail
          go_roundg (ss.length - (i + 1))
          case measure => omega
          case rel => exact ⟨i + 1, _, _, _, rfl, by omega, by simp, K9.stay k9, HB9, by omega, hyf⟩
    · obtain rfl : i = ss.length := by omega
      have hlt' : ¬ (ss.length : Int) < (ss.length : Int) := by omega
      have kf : Hid (Below w.heap.size w wr) := hK.own.below (Keeps.refl _ _)
      clear hs hfit hHo hK HB hyf hyl
      go_wp2_with fail
      go_ret
      exact ⟨rfl, kf.out⟩

theorem walk (n : Int) (a : Option Addr) (cap : Nat) (ss : List (Int × Int)) (w : World) (hl : ss.length ≤ 8796093022208) (hs : StepsIn w a ss) (hfit : ∀ x ∈ ss, fitsI x.1 ∧ fitsI x.2) :
    Calls Try.prog 7 #[.int .i64 n, .slice a ss.length cap] w fun e w' => Post w e w' := by
  by_cases h : n < 0 ∨ 2097152 < n
  · exact walk_no n _ w h
  · obtain ⟨m, rfl⟩ := Int.eq_ofNat_of_zero_le (show 0 ≤ n by omega)
    exact walk_yes m a cap ss w (by omega) hl hs hfit
end arenaKeeps
end Go.Proofs.Ytfghkpahbfpejaa
