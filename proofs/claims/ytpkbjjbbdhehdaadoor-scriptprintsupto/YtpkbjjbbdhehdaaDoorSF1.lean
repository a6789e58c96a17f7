/-
  script: a word of 64 bits as it is told; the reference's word.
-/
import Derived.Test.YtpkbjjbbdhehdaaDoorSC5
namespace Go.Proofs.YtpkbjjbbdhehdaaDoor
open Go.RowKit
set_option linter.unusedVariables false
/-- The digits of a word to the base 16. -/
def hexW (u : Nat) : List UInt8 := if h : u < 16 then [hexC u] else hexW (u / 16) ++ [hexC (u % 16)]
termination_by u
decreasing_by omega
theorem hexW_small {u : Nat} (h : u < 16) : hexW u = [hexC u] := by rw [hexW, dif_pos h]
theorem hexW_big {u : Nat} (h : ¬ u < 16) : hexW u = hexW (u / 16) ++ [hexC (u % 16)] := by rw [hexW, dif_neg h]
theorem hexW_len : ∀ (k u : Nat), u < 16 ^ (k + 1) → (hexW u).length ≤ k + 1
  | 0, u, h => by
    rw [hexW_small (by omega)]
    simp
  | k + 1, u, h => by
    by_cases h16 : u < 16
    · rw [hexW_small h16]
      simp
    · rw [hexW_big h16, List.length_append]
      have := hexW_len k (u / 16) (by rw [Nat.pow_succ] at h; omega)
      simp
      omega
theorem wrapu {q : Nat} (h : q < 18446744073709551616) : IntKind.u64.wrap (q : Int) = (q : Int) := by
  rw [IntKind.wrap_u64]
  omega
theorem quo16 (v p : Nat) (h : v / 16 = p) : ((v : Int)).tdiv 16 = (p : Int) ∧ (v : Int) / 16 = (p : Int) := by
  constructor
  · rw [Int.tdiv_eq_ediv_of_nonneg (by omega)]
    omega
  · omega
theorem rem16 (p : Nat) : ((p : Int)).tmod 16 = ((p % 16 : Nat) : Int) ∧ (p : Int) % 16 = ((p % 16 : Nat) : Int) := by
  constructor
  · rw [Int.tmod_eq_emod_of_nonneg (by omega)]
    omega
  · omega
def wordD (u : Nat) : ByteArray := strOf (48 :: 120 :: hexW u)
theorem one_text (w : World) (x : UInt8) : (convert 39 9 (.slice (some ⟨w.heap.size, 0, none⟩) 1 1)).run Tryd.prog (w.alloc (.cells #[.int .u8 (x.toNat : Int)] 5)) = .ok (.string (strOf [x])) (w.alloc (.cells #[.int .u8 (x.toNat : Int)] 5)) :=
  run_text (w.alloc (.cells #[.int .u8 (x.toNat : Int)] 5)) ⟨w.heap.size, 0, none⟩ 1 1 [x] rfl (fun j hj => by
    obtain rfl : j = 0 := by simpa using hj
    rw [addr_add]
    have := heap_alloc_new w (.cells #[.int .u8 (x.toNat : Int)] 5)
    simp only [World.cell?, this]
    simp)
set_option maxRecDepth 100000 in
set_option maxHeartbeats 2000000 in
theorem rword_any (u : Nat) (hu : u < 18446744073709551616) (w : World) : Calls Tryd.prog 13 #[.int .u64 (u : Int)] w fun e w' => e = .returned (.string (wordD u)) ∧ Keeps w w' (fun _ => False) := by
  obtain ⟨X, hX⟩ : ∃ X, wordD u = X := ⟨_, rfl⟩
  rw [hX]
  have HX := hide hX
  have hq : u % 16 < 16 := Nat.mod_lt _ (by decide)
  have hH := fun W => hex_any (u % 16) hq W
  have t4 : ((u : Int)).tmod 16 = ((u % 16 : Nat) : Int) := by rw [Int.tmod_eq_emod_of_nonneg (by omega)]; omega
  have t5 : (u : Int) % 16 = ((u % 16 : Nat) : Int) := by omega
  obtain ⟨a1, a2⟩ := wr64 (n := u % 16) (by omega)
  have htx := fun (W : World) => one_text W (hexC (u % 16))
  have hI : (u < 16 → hexW u = [hexC (u % 16)]) ∧ (¬ u < 16 → hexW u = hexW (u / 16) ++ [hexC (u % 16)]) := ⟨fun h => by rw [hexW_small h, Nat.mod_eq_of_lt h], hexW_big⟩
  have HI := hide hI
  obtain ⟨c, hc⟩ : ∃ c, hexC (u % 16) = c := ⟨_, rfl⟩
  rw [hc] at hH HI
  simp only [hc] at htx
  clear hX hI hc
  generalize u % 16 = q at *
  go_enter Tryd.func13, Tryd.ntmps13
  go_wp2_with fail
  (with_reducible refine (hH _).mono ?_)
  rintro e w1 ⟨rfl, rfl⟩
  have htx1 := htx w1
  clear htx hH
  go_wp2_with fail
  clear htx1
  go_loopw [0, 3] (fun v0 v3 wr => ∃ (v : Nat) (S : List UInt8), v0 = .int .u64 (v : Int) ∧ v ≤ u ∧ v3 = .string (strOf S) ∧ Hid ((v < 16 → hexW u = S) ∧ (¬ v < 16 → hexW u = hexW (v / 16) ++ S)) ∧ Keeps w1 wr (fun _ => False)) (fun v0 _ _ => (intOf v0).toNat)
  case atStart => exact ⟨u, [c], rfl, Nat.le_refl _, rfl, HI.out, (Keeps.refl _ _).alloc _⟩
  case round =>
    obtain ⟨v, S, rfl, hv, rfl, HS, K⟩ := hrel
    have hlen := hexW_len 15 u (by omega)
    by_cases h16 : v < 16
    · have h16' : ¬ (16 : Int) ≤ (v : Int) := by omega
      have e1 := HS.out.1 h16
      rw [e1] at hlen
      have hsz : (strOf S).size = S.length := strOf_size S
      have hX : ⟨#[48, 120]⟩ ++ strOf S = X := by
        rw [← HX.out]
        unfold wordD
        rw [e1]
        exact strOf_append [48, 120] S
      have HF := hide hX
      have HK := hide K
      obtain ⟨R, hR⟩ : ∃ R, strOf S = R := ⟨_, rfl⟩
      rw [hR] at HF hsz ⊢
      have hsum : 2 + R.size ≤ 9223372036854775807 := by omega
      clear hX K e1 HS hlen hR hsz
      go_wp2_with fail
      go_ret
      exact ⟨congrArg (fun z => Ending.returned (Value.string z)) HF.out, HK.out⟩
    · have h16' : (16 : Int) ≤ (v : Int) := by omega
      have e1 := HS.out.2 h16
      obtain ⟨p, hp⟩ : ∃ p, v / 16 = p := ⟨_, rfl⟩
      have hpl : p ≤ u := Nat.le_trans (hp ▸ Nat.div_le_self v 16) hv
      have hpv : p < v := hp ▸ Nat.div_lt_self (by omega) (by decide)
      obtain ⟨b1, b2⟩ := quo16 v p hp
      have hq2 : p % 16 < 16 := Nat.mod_lt _ (by decide)
      obtain ⟨b3, b4⟩ := rem16 p
      have b5 := wrapu (q := p) (Nat.lt_of_le_of_lt hpl hu)
      obtain ⟨d1, d2⟩ := wr64 (n := p % 16) (Nat.le_trans (Nat.le_of_lt hq2) (by decide))
      have d3 := wrapu (q := p % 16) (Nat.lt_trans hq2 (by decide))
      have hH := fun W => hex_any (p % 16) hq2 W
      have htx := one_text wr (hexC (p % 16))
      have hls : (hexW p).length + S.length ≤ 16 := by
        rw [hp] at e1
        rw [e1, List.length_append] at hlen
        exact hlen
      have HN : Hid ((p < 16 → hexW u = hexC (p % 16) :: S) ∧ (¬ p < 16 → hexW u = hexW (p / 16) ++ (hexC (p % 16) :: S))) := by
        rw [hp] at e1
        refine ⟨fun h => ?_, fun h => ?_⟩
        · rw [e1, hexW_small h, Nat.mod_eq_of_lt h]
          rfl
        · rw [e1, hexW_big h, List.append_assoc]
          rfl
      obtain ⟨c2, hc2⟩ : ∃ c2, hexC (p % 16) = c2 := ⟨_, rfl⟩
      rw [hc2] at hH htx HN
      have hcat : strOf [c2] ++ strOf S = strOf (c2 :: S) := strOf_append [c2] S
      have hsz : (strOf S).size = S.length := strOf_size S
      have hsz1 : (strOf [c2]).size = 1 := strOf_size [c2]
      obtain ⟨R, hR⟩ : ∃ R, strOf S = R := ⟨_, rfl⟩
      obtain ⟨R1, hR1⟩ : ∃ R1, strOf [c2] = R1 := ⟨_, rfl⟩
      rw [hR] at hcat hsz ⊢
      rw [hR1] at hcat hsz1 htx
      have hsum : R1.size + R.size ≤ 9223372036854775807 := by omega
      have Hcat := hide hcat
      have HK : Hid (Keeps w1 (wr.alloc (.cells #[.int .u8 (c2.toNat : Int)] 5)) (fun _ => False)) := K.alloc _
      have Hms := hide hpv
      have Hpl := hide hpl
      clear hcat K HS e1 hlen hls hsz hsz1 hR hR1 hc2 hp hpl hpv HI HX t4 t5 a1 a2 hq hu hv
      generalize p % 16 = q2 at *
      go_wp2_with fail
      (with_reducible refine (hH _).mono ?_)
      rintro e w2 ⟨rfl, rfl⟩
      clear hH
      go_wp2_with fail
      go_roundw
      case rel => exact ⟨p, c2 :: S, by first | rfl | go_num, Hpl.out, by rw [Hcat.out], HN, HK.out⟩
      case measure =>
        have := Hms.out
        simp [intOf]
        omega
end Go.Proofs.YtpkbjjbbdhehdaaDoor
