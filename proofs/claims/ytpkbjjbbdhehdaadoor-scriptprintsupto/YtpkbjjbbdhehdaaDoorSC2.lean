/-
  script: the reference's bytes.
-/
import Derived.Test.YtpkbjjbbdhehdaaDoorSC1
namespace Go.Proofs.YtpkbjjbbdhehdaaDoor
open Go.RowKit
set_option linter.unusedVariables false

set_option maxRecDepth 100000 in
set_option maxHeartbeats 2000000 in
theorem rbytes_any (s : ByteArray) (hs : s.size ≤ 8388608) (w : World) : Calls Tryd.prog 12 #[.string s] w fun e w' => e = .returned (.string (bytesD s)) ∧ Keeps w w' (fun _ => False) := by
  by_cases h0 : s.data.toList = []
  · have hs0 : s = ⟨#[]⟩ := by
      apply ByteArray.ext
      exact Array.toList_inj.1 h0
    subst hs0
    go_enter Tryd.func12, Tryd.ntmps12
    go_wp2_with fail
    go_ret
    exact ⟨by simp [bytesD], Keeps.refl _ _⟩
  · obtain ⟨S, hS⟩ : ∃ S, bytesD s = S := ⟨_, rfl⟩
    have hb : Hid (strOf (hexL s.data.toList) = S) := (if_neg h0).symm.trans hS
    rw [hS]
    clear hS
    have hne : s.toList.isEmpty = false := by
      rw [ByteArray.toList_eq, List.isEmpty_eq_false_iff]
      exact h0
    have hsz : s.data.toList.length = s.size := rfl
    go_enter Tryd.func12, Tryd.ntmps12
    go_wp2_with fail
    go_loopw [3, 4] (fun v3 v4 wr => ∃ i : Nat, v4 = .int .i64 (i : Int) ∧ i ≤ s.size ∧ wr.ownsRow w.heap.size 5 1 v3 (2 * i) (cellsOf (hexL (s.data.toList.take i))) ∧ Keeps w wr (fun _ => False)) (fun _ v4 _ => s.size - (intOf v4).toNat)
    case atStart => exact ⟨0, rfl, Nat.zero_le _, ⟨by simp [hexL, cellsOf], Or.inl ⟨rfl, rfl⟩⟩, Keeps.refl _ _⟩
    case round =>
      obtain ⟨i, rfl, hi, hrow, K⟩ := hrel
      by_cases hlt : i < s.size
      · have hlt' : (i : Int) < (s.size : Int) := by omega
        obtain ⟨x, hx⟩ : ∃ x, s[i] = x := ⟨_, rfl⟩
        have hxl : s.data.toList[i]'(by omega) = x := hx
        have hx256 := x.toNat_lt
        have hd1 : x.toNat / 16 < 16 := by omega
        have hd2 : x.toNat % 16 < 16 := by omega
        have a2 : ((x.toNat : Int)).tdiv 16 = ((x.toNat / 16 : Nat) : Int) := by rw [Int.tdiv_eq_ediv_of_nonneg (by omega)]; omega
        have a4 : ((x.toNat : Int)).tmod 16 = ((x.toNat % 16 : Nat) : Int) := by rw [Int.tmod_eq_emod_of_nonneg (by omega)]; omega
        have hz := K.size
        have hT := hide (hexL_take (s := s.data.toList) (i := i) (by omega))
        rw [hxl] at hT
        obtain ⟨g1, c1, w1, hr1, hown1, kk1, -⟩ := append_one (P := Tryd.prog) 39 5 (.int .u8 0) 1 Tryd.underlying39 Tryd.infoE rfl (hrow.alloc (.cells #[.int .u8 ((hexC (x.toNat / 16)).toNat : Int)] 5)) (heap_alloc_new wr (.cells #[.int .u8 ((hexC (x.toNat / 16)).toNat : Int)] 5)) rfl (by omega) (by simp only [maxLen]; omega) (by rw [World.size_alloc]; omega)
        have kW1 : Keeps w w1 (fun _ => False) := (K.alloc _).trans kk1 (fun q hq e => by
          have := (ownsRow_block hrow e).1
          omega)
        obtain ⟨g2, c2, w2, hr2, hown2, kk2, -⟩ := append_one (P := Tryd.prog) 39 5 (.int .u8 0) 1 Tryd.underlying39 Tryd.infoE rfl (hown1.alloc (.cells #[.int .u8 ((hexC (x.toNat % 16)).toNat : Int)] 5)) (heap_alloc_new w1 (.cells #[.int .u8 ((hexC (x.toNat % 16)).toNat : Int)] 5)) rfl (by omega) (by simp only [maxLen]; omega) (by rw [World.size_alloc]; have := kW1.size; omega)
        have kW2 : Keeps w w2 (fun _ => False) := (kW1.alloc _).trans kk2 (fun q hq e => by
          have := (ownsRow_block hown1 e).1
          omega)
        have HN : Hid (w2.ownsRow w.heap.size 5 1 (.slice (some ⟨g2, 0, none⟩) (2 * i + 1 + 1) c2) (2 * (i + 1)) (cellsOf (hexL (s.data.toList.take (i + 1)))) ∧ Keeps w w2 (fun _ => False)) := by
          refine ⟨?_, kW2⟩
          rw [hT.out, show 2 * (i + 1) = 2 * i + 1 + 1 by omega]
          simpa [cellsOf, hexD, cellOf] using hown2
        have hH1 := fun W => hex_any (x.toNat / 16) hd1 W
        have hH2 := fun W => hex_any (x.toNat % 16) hd2 W
        have b1 : x.toNat ≤ 1099511627776 := by omega
        have b2 : x.toNat / 16 ≤ 1099511627776 := by omega
        have b3 : x.toNat % 16 ≤ 1099511627776 := by omega
        have b4 : i ≤ 1099511627776 := by omega
        have Hi : Hid (i + 1 ≤ s.size) := hlt
        have Hms : Hid (s.size - (i + 1) < s.size - i) := by show s.size - (i + 1) < s.size - i; omega
        obtain ⟨a1, -⟩ := wr64 b1
        obtain ⟨a3, -⟩ := wr64 b2
        obtain ⟨a5, -⟩ := wr64 b3
        obtain ⟨a6, a7⟩ := wr64s b4
        clear b1 b2 b3 b4
        clear hrow K hown1 hown2 kk1 kk2 kW1 kW2 hT hxl hx256 hd1 hd2 hz hb h0 hsz
        generalize x.toNat / 16 = q1 at *
        generalize x.toNat % 16 = q2 at *
        go_wp2_with (first | (at_builtin; first | (have _t := hr1; refine app_run _ rfl (.tmp 13) (.tmp 20) 39 rfl rfl rfl hr1 ?_; clear hr1) | (have _t := hr2; refine app_run _ rfl (.tmp 22) (.tmp 29) 39 rfl rfl rfl hr2 ?_; clear hr2)) | (go_at_call 20; first | ((with_reducible refine (hH1 _).mono ?_); rintro e w' ⟨rfl, rfl⟩) | ((with_reducible refine (hH2 _).mono ?_); rintro e w' ⟨rfl, rfl⟩)))
        go_roundw
        case rel => exact ⟨i + 1, by go_num, Hi.out, HN.out.1, HN.out.2⟩
        case measure => simp [intOf]; exact Hms.out
      · obtain rfl : i = s.size := by omega
        have hlt' : ¬ (s.size : Int) < (s.size : Int) := by omega
        have hL : (hexL s.data.toList).length = 2 * s.size := by rw [hexL_length]; omega
        rw [List.take_of_length_le (Nat.le_of_eq hsz)] at hrow
        rcases hrow.2 with ⟨rfl, e0⟩ | ⟨g, cap, cur, rfl, -, -, -⟩
        · exfalso
          apply h0
          apply List.eq_nil_of_length_eq_zero
          omega
        · have htx := run_text wr ⟨g, 0, none⟩ cap (2 * s.size) (hexL s.data.toList) hL (fun j hj => by
            rw [addr_add, Nat.zero_add]
            have := hrow.cellAt j (by omega)
            rw [this]
            simp only [cellsOf, List.getElem?_map, List.getElem?_eq_getElem hj, Option.map_some, cellOf])
          rw [hb.out] at htx
          have HK := hide K
          clear hrow K hb hL
          go_wp2_with fail
          go_ret
          exact ⟨rfl, HK.out⟩
end Go.Proofs.YtpkbjjbbdhehdaaDoor
