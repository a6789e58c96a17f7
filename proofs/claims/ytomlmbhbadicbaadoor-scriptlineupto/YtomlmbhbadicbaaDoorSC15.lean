/-
  script: number.
-/
import Derived.Test.YtomlmbhbadicbaaDoorSCN
import Derived.Test.YtomlmbhbadicbaaDoorShelf5
import Derived.Lib.AtoiErrMem
namespace Go.Proofs.YtomlmbhbadicbaaDoor
open Go.RowKit
set_option linter.unusedVariables false

/-- The library's two errors and the longest search: some values. -/
structure ErrW (w : World) : Prop where
  syn : ∃ ev, w.cell? ⟨5, 0, none⟩ = some ev ∧ (ev = .nilIface ∨ ∃ te pe, ev = .iface te pe)
  rng : ∃ ev, w.cell? ⟨6, 0, none⟩ = some ev ∧ (ev = .nilIface ∨ ∃ te pe, ev = .iface te pe)
  max : ∃ m, w.cell? ⟨1, 0, none⟩ = some (.int .i64 m)
theorem ErrW.keeps {w w' : World} (h : ErrW w) (k : Keeps w w' (fun _ => False)) : ErrW w' := by
  obtain ⟨e1, a1, b1⟩ := h.syn
  obtain ⟨e2, a2, b2⟩ := h.rng
  obtain ⟨m, a3⟩ := h.max
  exact ⟨⟨e1, keeps_cell k a1, b1⟩, ⟨e2, keeps_cell k a2, b2⟩, ⟨m, keeps_cell k a3⟩⟩
theorem parse_fits {l : List UInt8} {v : Int} (h : Lib.parseIntB 64 l = .ok v) : -9223372036854775808 ≤ v ∧ v ≤ 9223372036854775807 := by
  unfold Lib.parseIntB at h
  split at h
  · cases h
  · dsimp only at h
    split at h
    · cases h
    · cases h
    · rename_i u heq
      split at h
      · cases h
      · rename_i q1
        split at h
        · cases h
        · rename_i q2
          injection h with h
          subst h
          split
          · rename_i q3
            have : ¬ 2 ^ (64 - 1) < u := fun z => q2 ⟨q3, z⟩
            have e : (2 : Nat) ^ (64 - 1) = 9223372036854775808 := by decide
            omega
          · rename_i q3
            have : ¬ 2 ^ (64 - 1) ≤ u := fun z => q1 ⟨q3, z⟩
            have e : (2 : Nat) ^ (64 - 1) = 9223372036854775808 := by decide
            omega
theorem bytesWorld_keeps (w : World) (e : TypeId) (t : ByteArray) : Keeps w (Lib.bytesWorld w e t) (fun _ => False) := keeps_of_below (Lib.bytesWorld_below w e t)
/-- ParseInt: a number, or some error. -/
theorem parse_any (s : ByteArray) (hs : s.size ≤ 8388608) (w : World) (he : ErrW w) : Calls Tryd.prog 36 #[.string s, .int .i64 10, .int .i64 64] w fun e w' => ((∃ n, e = .returned (.tuple #[.int .i64 n, .nilIface]) ∧ Fit n ∧ Lib.parseIntB 64 s.data.toList = .ok n) ∨ ∃ n te pe, e = .returned (.tuple #[.int .i64 n, .iface te pe]) ∧ ∀ v, Lib.parseIntB 64 s.data.toList ≠ .ok v) ∧ Keeps w w' (fun _ => False) := by
  cases h : Lib.parseIntB 64 s.data.toList with
  | ok v =>
    refine (Tryd.strconv_ParseInt_10_at64_ok s (by omega) v h w).mono ?_
    rintro e w' ⟨rfl, hw⟩
    refine ⟨Or.inl ⟨v, rfl, parse_fits h, rfl⟩, ?_⟩
    rcases hw with rfl | ⟨t, rfl⟩
    · exact Keeps.refl _ _
    · exact bytesWorld_keeps w 5 t
  | «syntax» =>
    obtain ⟨ev, h1, h2⟩ := he.syn
    refine (Tryd.strconv_ParseInt_10_at64_syntax s (by omega) h ev w h1 h2).mono ?_
    rintro e w' ⟨N, rfl, -, -, hb⟩
    exact ⟨Or.inr ⟨_, _, _, rfl, fun v e => by cases e⟩, keeps_of_below hb⟩
  | range =>
    obtain ⟨ev, h1, h2⟩ := he.rng
    refine (Tryd.strconv_ParseInt_10_at64_range s (by omega) h ev w h1 h2).mono ?_
    rintro e w' ⟨N, rfl, -, -, hb⟩
    exact ⟨Or.inr ⟨_, _, _, rfl, fun v e => by cases e⟩, keeps_of_below hb⟩
set_option maxRecDepth 100000 in
set_option maxHeartbeats 2000000 in
/-- number: what its text tells. -/
theorem number_any (s : ByteArray) (hs : s.size ≤ 8388608) (w : World) (he : ErrW w) : Calls Tryd.prog 26 #[.string s] w fun e w' => (∃ n er, e = .returned (.tuple #[.int .i64 n, .int .i64 er]) ∧ NumR s n) ∧ Keeps w w' (fun _ => False) := by
  have hT := Tryd.strings_TrimPrefix s ⟨#[45]⟩ w
  have hA := fun (t : ByteArray) (W : World) => allDigits_any t 10 (by omega) W
  have hP := fun (W : World) (k : Keeps w W (fun _ => False)) => parse_any s hs W (he.keeps k)
  have hN : ∀ m, s = numD m → allD 10 (⟨(Lib.trimPrefix s.data.toList (⟨#[45]⟩ : ByteArray).data.toList).toArray⟩ : ByteArray).data.toList = true := fun m e => by
    rw [e]
    show allD 10 (Lib.trimPrefix (strOf (Lib.itoa m)).data.toList [45]).toArray.toList = true
    rw [strOf_data]
    exact all_itoa m
  have hZ : s = ⟨#[]⟩ → allD 10 (⟨(Lib.trimPrefix s.data.toList (⟨#[45]⟩ : ByteArray).data.toList).toArray⟩ : ByteArray).data.toList = false := fun e => by
    rw [e]
    decide
  generalize (⟨(Lib.trimPrefix s.data.toList (⟨#[45]⟩ : ByteArray).data.toList).toArray⟩ : ByteArray) = T at *
  have HP := hide hP
  have hA1 := hA T w
  generalize allD 10 T.data.toList = A at *
  have HN := hide hN
  have HZ := hide hZ
  clear hP hA hN hZ
  go_enter Tryd.func26, Tryd.ntmps26
  go_wp2_with fail
  (with_reducible refine hT.mono ?_)
  rintro e w0 ⟨rfl, rfl⟩
  go_wp2_with fail
  (with_reducible refine hA1.mono ?_)
  rintro e w1 ⟨rfl, k1⟩
  have K1 := hide k1
  clear hT hA1 k1
  cases A with
  | false =>
    go_wp2_with fail
    refine bodyPost_ret (v := .tuple #[.int .i64 0, .int .i64 160]) (by simp [results, Tryd.results26, go_sem]) rfl ?_
    exact ⟨⟨0, 160, rfl, ⟨by omega, by omega⟩, fun m _ e => absurd (HN.out m e) (by decide), fun _ => rfl⟩, K1.out⟩
  | true =>
    go_wp2_with fail
    (with_reducible refine (HP.out _ K1.out).mono ?_)
    rintro e w2 ⟨⟨n, rfl, b1, b2⟩ | ⟨n, te, pe, rfl, b1⟩, k2⟩
    · have K2 := hide (K1.out.trans k2 (fun _ _ e => e))
      have B := hide (And.intro b1 b2)
      clear k2 b1 b2
      go_wp2_with fail
      refine bodyPost_ret (v := .tuple #[.int .i64 n, .int .i64 0]) (by simp [results, Tryd.results26, go_sem]) rfl ?_
      refine ⟨⟨n, 0, rfl, B.out.1, fun m hm e => ?_, fun e => absurd (HZ.out e) (by decide)⟩, K2.out⟩
      have h := B.out.2
      rw [e] at h
      have h2 : Lib.parseIntB 64 (numD m).data.toList = .ok m := by
        unfold numD
        rw [strOf_data]
        exact parse_itoa m hm
      rw [h2] at h
      injection h with h
      exact h.symm
    · have K2 := hide (K1.out.trans k2 (fun _ _ e => e))
      have B := hide b1
      clear k2 b1
      go_wp2_with fail
      refine bodyPost_ret (v := .tuple #[.int .i64 0, .int .i64 161]) (by simp [results, Tryd.results26, go_sem]) rfl ?_
      refine ⟨⟨0, 161, rfl, ⟨by omega, by omega⟩, fun m hm e => ?_, fun e => absurd (HZ.out e) (by decide)⟩, K2.out⟩
      refine absurd ?_ (B.out m)
      rw [e]
      unfold numD
      rw [strOf_data]
      exact parse_itoa m hm
end Go.Proofs.YtomlmbhbadicbaaDoor
