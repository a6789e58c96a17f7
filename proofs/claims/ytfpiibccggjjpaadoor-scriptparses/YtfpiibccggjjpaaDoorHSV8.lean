/-
  script: the reference's Bytes.
-/
import Derived.Test.YtfpiibccggjjpaaDoorHSV7
namespace Go.Proofs.YtfpiibccggjjpaaDoor
open Go.RowKit
set_option linter.unusedVariables false
theorem rdD16_neg {x : UInt8} : rdD (x.toNat : Int) 16 < 0 ↔ ¬ digD (x.toNat : Int) < 16 := by
  have := digD_pos (x.toNat : Int) (by omega)
  unfold rdD
  split
  · omega
  · omega
theorem rdD16_in {x : UInt8} (h : digD (x.toNat : Int) < 16) : rdD (x.toNat : Int) 16 = digD (x.toNat : Int) := if_pos h
theorem mod_even (n : Nat) : ((n : Int).tmod 2) = ((n % 2 : Nat) : Int) := by
  rw [Int.tmod_eq_emod_of_nonneg (by omega)]
  omega
/-- The three short ways. -/
theorem byt_dash : bytD ⟨#[45]⟩ = (⟨#[]⟩, 0) := by simp [bytD]
theorem byt_none : bytD ⟨#[]⟩ = (⟨#[]⟩, 160) := by decide
theorem byt_quote {s : ByteArray} (h1 : 1 < s.size) (h : s[0] = 39) : bytD s = (s.extract 1 s.size, 0) := by
  have h2 : s.data.toList[0]? = some 39 := by
    have hsz : s.data.toList.length = s.size := rfl
    rw [List.getElem?_eq_getElem (by omega), ← h]
    rfl
  unfold bytD
  rw [if_neg (fun e => by rw [e] at h1; exact absurd h1 (by decide)), if_pos ⟨h1, h2⟩]
theorem byt_rest {s : ByteArray} (h0 : s ≠ ⟨#[45]⟩) (h : ¬ (1 < s.size ∧ s.data.toList[0]? = some 39)) : bytD s = if s.size % 2 = 0 ∧ allD 16 s.data.toList = true then (strOf (pairsD s.data.toList), (0 : Int)) else (⟨#[]⟩, 160) := by
  unfold bytD
  rw [if_neg h0, if_neg h]
set_option maxRecDepth 100000 in
set_option maxHeartbeats 2000000 in
theorem rbytX_dash (w : World) : Calls Tryd.prog 57 #[.string ⟨#[45]⟩] w fun e w' => e = .returned (.tuple #[.string (bytD ⟨#[45]⟩).1, .int .i64 (bytD ⟨#[45]⟩).2]) ∧ Keeps w w' (fun _ => False) := by
  rw [byt_dash]
  go_enter Tryd.func57, Tryd.ntmps57
  go_wp2_with fail
  refine bodyPost_ret (v := .tuple #[.string ⟨#[]⟩, .int .i64 0]) (by simp [results, Tryd.results57, go_sem]) rfl ?_
  exact ⟨rfl, Keeps.refl _ _⟩
set_option maxRecDepth 100000 in
set_option maxHeartbeats 2000000 in
theorem rbytX_quote (s : ByteArray) (h1 : 1 < s.size) (h : s[0] = 39) (w : World) : Calls Tryd.prog 57 #[.string s] w fun e w' => e = .returned (.tuple #[.string (bytD s).1, .int .i64 (bytD s).2]) ∧ Keeps w w' (fun _ => False) := by
  rw [byt_quote h1 h]
  have y0 : (s.toList == [45]) = false := by
    rw [ByteArray.toList_eq, beq_eq_false_iff_ne]
    intro e
    have hsz : s.data.toList.length = s.size := rfl
    rw [e] at hsz
    simp at hsz
    omega
  have h1' : (1 : Int) < (s.size : Int) := by omega
  have h1'' : (1 : Int) ≤ (s.size : Int) := by omega
  have h1z : (0 : Int) < (s.size : Int) := by omega
  go_enter Tryd.func57, Tryd.ntmps57
  go_wp2_with fail
  refine bodyPost_ret (v := .tuple #[.string (s.extract 1 s.size), .int .i64 0]) (by simp [results, Tryd.results57, go_sem]) rfl ?_
  exact ⟨rfl, Keeps.refl _ _⟩
set_option maxRecDepth 100000 in
set_option maxHeartbeats 2000000 in
theorem rbytX_empty (w : World) : Calls Tryd.prog 57 #[.string ⟨#[]⟩] w fun e w' => e = .returned (.tuple #[.string (bytD ⟨#[]⟩).1, .int .i64 (bytD ⟨#[]⟩).2]) ∧ Keeps w w' (fun _ => False) := by
  rw [byt_none]
  go_enter Tryd.func57, Tryd.ntmps57
  go_wp2_with fail
  refine bodyPost_ret (v := .tuple #[.string ⟨#[]⟩, .int .i64 160]) (by simp [results, Tryd.results57, go_sem]) rfl ?_
  exact ⟨rfl, Keeps.refl _ _⟩
set_option maxRecDepth 100000 in
set_option maxHeartbeats 2000000 in
theorem rbytX_loop (s : ByteArray) (hs : s.size ≤ 8388608) (h1 : 1 ≤ s.size) (h0 : s ≠ ⟨#[45]⟩) (hq : ¬ (1 < s.size ∧ s.data.toList[0]? = some 39)) (w : World) : Calls Tryd.prog 57 #[.string s] w fun e w' => e = .returned (.tuple #[.string (bytD s).1, .int .i64 (bytD s).2]) ∧ Keeps w w' (fun _ => False) := by
  rw [byt_rest h0 hq]
  have hsz : s.data.toList.length = s.size := rfl
  have y0 : (s.toList == [45]) = false := by
    rw [ByteArray.toList_eq, beq_eq_false_iff_ne]
    intro e
    exact h0 (ByteArray.ext (Array.toList_inj.1 e))
  have y1 : (s.toList == []) = false := by
    rw [ByteArray.toList_eq, beq_eq_false_iff_ne]
    intro e
    rw [e] at hsz
    simp at hsz
    omega
  have h1z : (0 : Int) < (s.size : Int) := by omega
  have hm := mod_even s.size
  obtain ⟨y, hy⟩ : ∃ y, s[0] = y := ⟨_, rfl⟩
  have hq1 : 1 < s.size → ((y.toNat : Int) == 39) = false ∧ (y == 39) = false := fun h => by
    have hne : y ≠ 39 := fun e => hq ⟨h, by
      rw [List.getElem?_eq_getElem (by omega)]
      rw [← e, ← hy]
      rfl⟩
    refine ⟨?_, by simpa using hne⟩
    rw [beq_eq_false_iff_ne]
    intro e
    have e2 : y.toNat = 39 := by omega
    exact hne (UInt8.toNat_inj.1 e2)
  by_cases hodd : s.size % 2 = 0
  · have hm0 : ((s.size % 2 : Nat) : Int) = 0 := by omega
    rw [hm0] at hm
    have h2 : 1 < s.size := by omega
    have h2' : (1 : Int) < (s.size : Int) := by omega
    obtain ⟨q1, q2⟩ := hq1 h2
    have HA : Hid (allB 16 s.data.toList → (if s.size % 2 = 0 ∧ allD 16 s.data.toList = true then (strOf (pairsD s.data.toList), (0 : Int)) else (⟨#[]⟩, 160)) = (strOf (pairsD s.data.toList), 0)) := fun h => if_pos ⟨hodd, allD_iff.2 ⟨fun e => by rw [e] at hsz; simp at hsz; omega, h⟩⟩
    have HB : Hid (¬ allB 16 s.data.toList → (if s.size % 2 = 0 ∧ allD 16 s.data.toList = true then (strOf (pairsD s.data.toList), (0 : Int)) else (⟨#[]⟩, 160)) = (⟨#[]⟩, 160)) := fun h => if_neg (fun e => h (allD_iff.1 e.2).2)
    generalize (if s.size % 2 = 0 ∧ allD 16 s.data.toList = true then (strOf (pairsD s.data.toList), (0 : Int)) else ((⟨#[]⟩ : ByteArray), (160 : Int))) = RES at *
    have HD := hide (fun (c : Int) (W : World) => rdigit_any c 16 ⟨by omega, by omega⟩ W)
    have HE := hide hodd
    clear hq hq1 hm0 hodd h0
    go_enter Tryd.func57, Tryd.ntmps57
    go_wp2_with fail
    clear y0 y1 hm q1 q2 hy h2'
    go_loopw [4, 5] (fun v4 v5 wr => ∃ i : Nat, v5 = .int .i64 ((2 * i : Nat) : Int) ∧ 2 * i ≤ s.size ∧ wr.ownsRow w.heap.size 5 1 v4 i (cellsOf (pairsD (s.data.toList.take (2 * i)))) ∧ Hid (allB 16 (s.data.toList.take (2 * i))) ∧ Keeps w wr (fun _ => False)) (fun _ v5 _ => s.size - (intOf v5).toNat)
    case atStart => exact ⟨0, rfl, Nat.zero_le _, ⟨by simp [pairsD, cellsOf], Or.inl ⟨rfl, rfl⟩⟩, fun x hx => by simp at hx, Keeps.refl _ _⟩
    case round =>
      obtain ⟨i, rfl, hi, hrow, hal, K⟩ := hrel
      by_cases hlt : 2 * i < s.size
      · have he := HE.out
        have hlt2 : 2 * i + 1 < s.size := by omega
        obtain ⟨x, hx⟩ : ∃ x, s[2 * i] = x := ⟨_, rfl⟩
        obtain ⟨z, hz⟩ : ∃ z, s[2 * i + 1] = z := ⟨_, rfl⟩
        have hxl : s.data.toList[2 * i]'(by omega) = x := hx
        have hzl : s.data.toList[2 * i + 1]'(by omega) = z := hz
        have hmx : x ∈ s.data.toList := by rw [← hxl]; exact List.getElem_mem _
        have hmz : z ∈ s.data.toList := by rw [← hzl]; exact List.getElem_mem _
        have hpe := hide (pairs_even i s.data.toList (by omega))
        rw [hxl, hzl] at hpe
        have Hms : Hid (s.size - 2 * (i + 1) < s.size - 2 * i) := by show s.size - 2 * (i + 1) < s.size - 2 * i; omega
        have Hle : Hid (2 * (i + 1) ≤ s.size) := by show 2 * (i + 1) ≤ s.size; omega
        have HAl : Hid (digD (x.toNat : Int) < 16 → digD (z.toNat : Int) < 16 → allB 16 (s.data.toList.take (2 * (i + 1)))) := fun a b v hv => by
          rw [show 2 * (i + 1) = 2 * i + 1 + 1 by omega, List.take_succ_eq_append_getElem (by omega), List.take_succ_eq_append_getElem (by omega)] at hv
          simp only [List.mem_append, List.mem_singleton] at hv
          rcases hv with (hv | hv) | hv
          · exact hal.out v hv
          · rw [hv, hxl]; exact a
          · rw [hv, hzl]; exact b
        obtain ⟨j, hj⟩ : ∃ j, j = 2 * i := ⟨_, rfl⟩
        have Hj := hide hj
        rw [← hj]
        have hjs : j < s.size := by omega
        have hjs1 : j + 1 < s.size := by omega
        have hjx : s[j]'hjs = x := by subst hj; exact hx
        have hjz : s[j + 1]'hjs1 = z := by subst hj; exact hz
        have hlt' : (j : Int) < (s.size : Int) := by omega
        have hlt1 : (j : Int) + 1 < (s.size : Int) := by omega
        have hj0 : (0 : Int) ≤ (j : Int) + 1 := by omega
        have et : ((j : Int) + 1).toNat = j + 1 := by omega
        have hjz' : ∀ h, s[((j : Int) + 1).toNat]'h = z := fun h => by
          simp only [et]
          exact hjz
        obtain ⟨a6, a7⟩ := wr64s (n := j) (by omega)
        have a8 : wrap64 ((j : Int) + 2) = (j : Int) + 2 := by unfold wrap64; omega
        have a9 : IntKind.i64.wrap ((j : Int) + 2) = (j : Int) + 2 := by rw [IntKind.wrap_i64]; omega
        have hzK := K.size
        by_cases hdx : digD (x.toNat : Int) < 16
        · by_cases hdz : digD (z.toNat : Int) < 16
          · have p1 := digD_pos (x.toNat : Int) (by omega)
            have p2 := digD_pos (z.toNat : Int) (by omega)
            have hpv := pairB_val hdx hdz
            have ex := rdD16_in hdx
            have ez := rdD16_in hdz
            have HAll := hide (HAl.out hdx hdz)
            obtain ⟨R1, hR1⟩ : ∃ R1, digD (x.toNat : Int) = R1 := ⟨_, rfl⟩
            obtain ⟨R2, hR2⟩ : ∃ R2, digD (z.toNat : Int) = R2 := ⟨_, rfl⟩
            rw [hR1] at ex hdx p1 hpv
            rw [hR2] at ez hdz p2 hpv
            obtain ⟨g1, c1, w1, hr1, hown1, kk1, -⟩ := append_one (P := Tryd.prog) 54 5 (.int .u8 0) 1 Tryd.underlying54 Tryd.infoE rfl (hrow.alloc (.cells #[.int .u8 (16 * R1 + R2)] 5)) (heap_alloc_new wr (.cells #[.int .u8 (16 * R1 + R2)] 5)) rfl (by omega) (by simp only [maxLen]; omega) (by rw [World.size_alloc]; omega)
            have kW1 : Keeps w w1 (fun _ => False) := (K.alloc _).trans kk1 (fun q hq e => by
              have := (ownsRow_block hrow e).1
              omega)
            have HN : Hid (w1.ownsRow w.heap.size 5 1 (.slice (some ⟨g1, 0, none⟩) (i + 1) c1) (i + 1) (cellsOf (pairsD (s.data.toList.take (2 * (i + 1))))) ∧ Keeps w w1 (fun _ => False)) := by
              refine ⟨?_, kW1⟩
              rw [show 2 * (i + 1) = 2 * i + 2 by omega, hpe.out]
              simpa [cellsOf, cellOf, hpv] using hown1
            have e1 : wrap64 (16 * R1) = 16 * R1 := by unfold wrap64; omega
            have e1' : IntKind.i64.wrap (16 * R1) = 16 * R1 := by rw [IntKind.wrap_i64]; omega
            have e2 : wrap64 (16 * R1 + R2) = 16 * R1 + R2 := by unfold wrap64; omega
            have e2' : IntKind.i64.wrap (16 * R1 + R2) = 16 * R1 + R2 := by rw [IntKind.wrap_i64]; omega
            have e3 : IntKind.u8.wrap (16 * R1 + R2) = 16 * R1 + R2 := by rw [IntKind.wrap_u8]; omega
            have n1 : ¬ R1 < 0 := by omega
            have n2 : ¬ R2 < 0 := by omega
            clear hrow hal K hown1 kk1 kW1 hpe HAl hxl hzl hmx hmz hR1 hR2 hpv hx hz HA HB hzK hj hlt hlt2 he
            go_wp2_with fail
            (with_reducible refine (HD.out _ _).mono ?_)
            rintro e w2 ⟨rfl, rfl⟩
            rw [ex]
            go_wp2_with fail
            (with_reducible refine (HD.out _ _).mono ?_)
            rintro e w2 ⟨rfl, rfl⟩
            rw [ez]
            go_wp2_with (first | (at_builtin; have _t := hr1; refine app_run _ rfl (.tmp 49) (.tmp 55) 54 rfl rfl rfl hr1 ?_; clear hr1))
            go_roundw
            case rel => exact ⟨i + 1, by have := Hj.out; rw [show 2 * (i + 1) = j + 2 by omega]; go_num, Hle.out, HN.out.1, HAll, HN.out.2⟩
            case measure =>
              have := Hj.out
              have := Hms.out
              simp [intOf]
              omega
          · have p1 := digD_pos (x.toNat : Int) (by omega)
            obtain ⟨R1, ex⟩ : ∃ R1, rdD (x.toNat : Int) 16 = R1 := ⟨_, rfl⟩
            obtain ⟨R2, ez⟩ : ∃ R2, rdD (z.toNat : Int) 16 = R2 := ⟨_, rfl⟩
            have n1 : ¬ R1 < 0 := by rw [← ex, rdD16_in hdx]; omega
            have n2 : R2 < 0 := by rw [← ez]; exact rdD16_neg.2 hdz
            have HF := hide (HB.out (fun q => hdz (q z hmz)))
            have HK := hide K
            clear hrow hal K hpe HAl hxl hzl hmx hmz hx hz HA HB hzK hj hlt hlt2 he p1 hdx hdz
            go_wp2_with fail
            (with_reducible refine (HD.out _ _).mono ?_)
            rintro e w2 ⟨rfl, rfl⟩
            rw [ex]
            go_wp2_with fail
            (with_reducible refine (HD.out _ _).mono ?_)
            rintro e w2 ⟨rfl, rfl⟩
            rw [ez]
            go_wp2_with fail
            refine bodyPost_ret (v := .tuple #[.string ⟨#[]⟩, .int .i64 160]) (by simp [results, Tryd.results57, go_sem]) rfl ?_
            exact ⟨by rw [HF.out], HK.out⟩
        · obtain ⟨R1, ex⟩ : ∃ R1, rdD (x.toNat : Int) 16 = R1 := ⟨_, rfl⟩
          obtain ⟨R2, ez⟩ : ∃ R2, rdD (z.toNat : Int) 16 = R2 := ⟨_, rfl⟩
          have n1 : R1 < 0 := by rw [← ex]; exact rdD16_neg.2 hdx
          have HF := hide (HB.out (fun q => hdx (q x hmx)))
          have HK := hide K
          clear hrow hal K hpe HAl hxl hzl hmx hmz hx hz HA HB hzK hj hlt hlt2 he hdx
          go_wp2_with fail
          (with_reducible refine (HD.out _ _).mono ?_)
          rintro e w2 ⟨rfl, rfl⟩
          rw [ex]
          go_wp2_with fail
          (with_reducible refine (HD.out _ _).mono ?_)
          rintro e w2 ⟨rfl, rfl⟩
          rw [ez]
          go_wp2_with fail
          refine bodyPost_ret (v := .tuple #[.string ⟨#[]⟩, .int .i64 160]) (by simp [results, Tryd.results57, go_sem]) rfl ?_
          exact ⟨by rw [HF.out], HK.out⟩
      · have he2 : 2 * i = s.size := by omega
        have hlt' : ¬ ((2 * i : Nat) : Int) < (s.size : Int) := by omega
        rw [he2] at hlt' ⊢
        have htk : s.data.toList.take (2 * i) = s.data.toList := List.take_of_length_le (by omega)
        rw [htk] at hrow hal
        have HR := hide (HA.out hal.out)
        have hL : (pairsD s.data.toList).length = i := by rw [pairs_len]; omega
        rcases hrow.2 with ⟨rfl, e0⟩ | ⟨g, cap, cur, rfl, -, -, -⟩
        · exfalso
          omega
        · have htx := run_text wr ⟨g, 0, none⟩ cap i (pairsD s.data.toList) hL (fun j hj => by
            rw [addr_add, Nat.zero_add]
            have := hrow.cellAt j (by omega)
            rw [this]
            simp only [cellsOf, List.getElem?_map, List.getElem?_eq_getElem hj, Option.map_some, cellOf])
          obtain ⟨Z, hZ⟩ : ∃ Z, strOf (pairsD s.data.toList) = Z := ⟨_, rfl⟩
          rw [hZ] at htx HR
          clear hZ
          have HK := hide K
          clear hrow K HA HB hL hal htk
          go_wp2_with fail
          refine bodyPost_ret (v := .tuple #[.string Z, .int .i64 0]) (by simp [results, Tryd.results57, go_sem]) rfl ?_
          exact ⟨by rw [HR.out], HK.out⟩
  · have hm1 : ((s.size % 2 : Nat) : Int) = 1 := by omega
    rw [hm1] at hm
    rw [if_neg (fun e => hodd e.1)]
    by_cases h2 : 1 < s.size
    · have h2' : (1 : Int) < (s.size : Int) := by omega
      obtain ⟨q1, q2⟩ := hq1 h2
      clear hq hq1 hm1 hodd
      go_enter Tryd.func57, Tryd.ntmps57
      go_wp2_with fail
      refine bodyPost_ret (v := .tuple #[.string ⟨#[]⟩, .int .i64 160]) (by simp [results, Tryd.results57, go_sem]) rfl ?_
      exact ⟨rfl, Keeps.refl _ _⟩
    · have h2' : ¬ (1 : Int) < (s.size : Int) := by omega
      clear hq hq1 hm1 hodd
      go_enter Tryd.func57, Tryd.ntmps57
      go_wp2_with fail
      refine bodyPost_ret (v := .tuple #[.string ⟨#[]⟩, .int .i64 160]) (by simp [results, Tryd.results57, go_sem]) rfl ?_
      exact ⟨rfl, Keeps.refl _ _⟩
theorem rbytX_any (s : ByteArray) (hs : s.size ≤ 8388608) (w : World) : Calls Tryd.prog 57 #[.string s] w fun e w' => e = .returned (.tuple #[.string (bytD s).1, .int .i64 (bytD s).2]) ∧ Keeps w w' (fun _ => False) := by
  by_cases h0 : s = ⟨#[45]⟩
  · subst h0
    exact rbytX_dash w
  by_cases h1 : 1 ≤ s.size
  · by_cases hq : 1 < s.size ∧ s.data.toList[0]? = some 39
    · refine rbytX_quote s hq.1 ?_ w
      have h2 : s.data.toList[0]? = some s[0] := by
        have hsz : s.data.toList.length = s.size := rfl
        rw [List.getElem?_eq_getElem (by omega)]
        rfl
      rw [hq.2] at h2
      exact (Option.some.inj h2).symm
    · exact rbytX_loop s hs h1 h0 hq w
  · have : s = ⟨#[]⟩ := by
      apply ByteArray.ext
      apply Array.toList_inj.1
      apply List.eq_nil_of_length_eq_zero
      show s.size = 0
      omega
    subst this
    exact rbytX_empty w
end Go.Proofs.YtfpiibccggjjpaaDoor
