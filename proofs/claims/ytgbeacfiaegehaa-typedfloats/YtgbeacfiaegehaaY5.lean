/-
  typed: Text's Unpack; the reference's PackText and UnpackText.
-/
import Derived.Test.YtgbeacfiaegehaaY4
namespace Go.Proofs.Ytgbeacfiaegehaa
open Go.RowKit
set_option linter.unusedVariables false
theorem extract_eq (s : ByteArray) (a b : Nat) : s.extract a b = strOf ((s.data.toList.take b).drop a) := by
  apply ByteArray.ext
  apply Array.toList_inj.1
  rw [ByteArray.data_extract, strOf_data]
  simp [Array.toList_extract, List.drop_take]
theorem take_strOf (s : ByteArray) (n : Nat) : s.extract 0 n = strOf (s.data.toList.take n) := by rw [extract_eq, List.drop_zero]
theorem drop_strOf (s : ByteArray) (n : Nat) : s.extract n s.size = strOf (s.data.toList.drop n) := by
  rw [extract_eq, List.take_of_length_le (Nat.le_refl s.size)]
theorem txU_no {m : Int} {l : List UInt8} (h : inR m = false ∨ ¬ ((l.length : Int) = m + 1)) : txU m l = [] := by
  unfold txU
  rw [if_neg]
  rintro ⟨h1, h2⟩
  rcases h with h | h
  · rw [h1] at h; cases h
  · obtain ⟨M, rfl, hM⟩ := inR_yes h1
    simp at h2
    omega
theorem txU_yes {M : Nat} {s : ByteArray} (hM : M ≤ 127) (hs : s.size = M + 1) (hlt : M < s.size) : txU (M : Int) s.data.toList = if (s[M]'hlt).toNat ≤ M then s.data.toList.take (s[M]'hlt).toNat else [] := by
  have hl : s.data.toList.length = s.size := rfl
  unfold txU
  rw [if_pos ⟨inR_mk hM, by simp; omega⟩]
  have e : s.data.toList.getD (M : Int).toNat 0 = s[M]'hlt := by
    rw [Int.toNat_natCast, List.getD_eq_getElem?_getD, List.getElem?_eq_getElem (by omega)]
    rfl
  rw [e, Int.toNat_natCast]
set_option maxRecDepth 100000 in
set_option maxHeartbeats 1000000 in
theorem tyt_Unpack (m : Int) (hm : I64 m) (s : ByteArray) (w : World) : Calls Try.prog 24 #[.agg #[.int .i64 m], .string s] w fun e w' => e = .returned (.string (strOf (txU m s.data.toList))) ∧ Keeps w w' (fun _ => False) := by
  have hR := tyt_inRange m
  have hl : s.data.toList.length = s.size := rfl
  cases hi : inR m
  · rw [txU_no (Or.inl hi)]
    rw [hi] at hR
    go_enter Try.func24, Try.ntmps24
    go_wp2_with fail
    (with_reducible refine (hR _).mono ?_)
    rintro e w1 ⟨rfl, k1⟩
    go_wp2_with fail
    go_ret
    exact ⟨rfl, ((Keeps.refl _ _).alloc _).trans k1 (fun _ _ x => x)⟩
  · rw [hi] at hR
    have c0 := box1 w m
    by_cases hs : (s.size : Int) = m + 1
    · obtain ⟨M, rfl, hM⟩ := inR_yes hi
      have hs' : s.size = M + 1 := by omega
      have hlt : M < s.size := by omega
      rw [txU_yes hM hs' hlt]
      have hb : ((s.size : Int) != (M : Int) + 1) = false := by rw [hs]; simp
      have i1 : (M : Int) < (s.size : Int) := by omega
      have i0 : (0 : Int) ≤ (M : Int) := by omega
      obtain ⟨n, hn⟩ : ∃ n, (s[M]'hlt).toNat = n := ⟨_, rfl⟩
      have hn256 : n < 256 := by rw [← hn]; exact UInt8.toNat_lt _
      simp only [hn]
      by_cases hnM : n ≤ M
      · rw [if_pos hnM]
        have h1 : ¬ (M : Int) < (n : Int) := by omega
        have h2 : (n : Int) ≤ (s.size : Int) := by omega
        have ht := take_strOf s n
        clear hs hi
        go_enter Try.func24, Try.ntmps24
        go_wp2_with fail
        (with_reducible refine (hR _).mono ?_)
        rintro e w1 ⟨rfl, k1⟩
        have c1 := kcell k1 c0
        have K1 : Keeps w w1 (fun _ => False) := ((Keeps.refl _ _).alloc _).trans k1 (fun _ _ x => x)
        clear k1 c0
        go_wp2_with fail
        go_ret
        refine ⟨?_, K1⟩
        first | rfl | simp [ht]
      · rw [if_neg hnM]
        have h1 : (M : Int) < (n : Int) := by omega
        clear hs hi
        go_enter Try.func24, Try.ntmps24
        go_wp2_with fail
        (with_reducible refine (hR _).mono ?_)
        rintro e w1 ⟨rfl, k1⟩
        have c1 := kcell k1 c0
        have K1 : Keeps w w1 (fun _ => False) := ((Keeps.refl _ _).alloc _).trans k1 (fun _ _ x => x)
        clear k1 c0
        go_wp2_with fail
        go_ret
        exact ⟨rfl, K1⟩
    · rw [txU_no (Or.inr hs)]
      have hb : ((s.size : Int) != m + 1) = true := by rw [bne_iff_ne]; exact hs
      obtain ⟨M, rfl, hM⟩ := inR_yes hi
      clear hs hi
      go_enter Try.func24, Try.ntmps24
      go_wp2_with fail
      (with_reducible refine (hR _).mono ?_)
      rintro e w1 ⟨rfl, k1⟩
      have c1 := kcell k1 c0
      have K1 : Keeps w w1 (fun _ => False) := ((Keeps.refl _ _).alloc _).trans k1 (fun _ _ x => x)
      clear k1 c0
      go_wp2_with fail
      go_ret
      exact ⟨rfl, K1⟩

set_option maxRecDepth 100000 in
set_option maxHeartbeats 1000000 in
theorem rUnpackText (m : Int) (s : ByteArray) (w : World) : Calls Try.prog 52 #[.int .i64 m, .string s] w fun e w' => e = .returned (.string (strOf (txU m s.data.toList))) ∧ w' = w := by
  have hl : s.data.toList.length = s.size := rfl
  cases hi : inR m
  · rw [txU_no (Or.inl hi)]
    by_cases h0 : m < 0
    · go_enter Try.func52, Try.ntmps52
      go_wp2_with fail
      go_ret
      exact ⟨rfl, rfl⟩
    · have h1 : 127 < m := by rcases inR_no hi with h | h <;> omega
      go_enter Try.func52, Try.ntmps52
      go_wp2_with fail
      go_ret
      exact ⟨rfl, rfl⟩
  · by_cases hs : (s.size : Int) = m + 1
    · obtain ⟨M, rfl, hM⟩ := inR_yes hi
      have hs' : s.size = M + 1 := by omega
      have hlt : M < s.size := by omega
      rw [txU_yes hM hs' hlt]
      have hb : ((s.size : Int) != (M : Int) + 1) = false := by rw [hs]; simp
      have i1 : (M : Int) < (s.size : Int) := by omega
      have i0 : (0 : Int) ≤ (M : Int) := by omega
      have j0 : ¬ (M : Int) < 0 := by omega
      have j1 : ¬ (127 : Int) < (M : Int) := by omega
      obtain ⟨n, hn⟩ : ∃ n, (s[M]'hlt).toNat = n := ⟨_, rfl⟩
      have hn256 : n < 256 := by rw [← hn]; exact UInt8.toNat_lt _
      simp only [hn]
      by_cases hnM : n ≤ M
      · rw [if_pos hnM]
        have h1 : ¬ (M : Int) < (n : Int) := by omega
        have h2 : (n : Int) ≤ (s.size : Int) := by omega
        have ht := take_strOf s n
        clear hs hi
        go_enter Try.func52, Try.ntmps52
        go_wp2_with fail
        go_ret
        refine ⟨?_, rfl⟩
        first | rfl | simp [ht]
      · rw [if_neg hnM]
        have h1 : (M : Int) < (n : Int) := by omega
        clear hs hi
        go_enter Try.func52, Try.ntmps52
        go_wp2_with fail
        go_ret
        exact ⟨rfl, rfl⟩
    · rw [txU_no (Or.inr hs)]
      have hb : ((s.size : Int) != m + 1) = true := by rw [bne_iff_ne]; exact hs
      obtain ⟨M, rfl, hM⟩ := inR_yes hi
      have j0 : ¬ (M : Int) < 0 := by omega
      have j1 : ¬ (127 : Int) < (M : Int) := by omega
      clear hs hi
      go_enter Try.func52, Try.ntmps52
      go_wp2_with fail
      go_ret
      exact ⟨rfl, rfl⟩

set_option maxRecDepth 100000 in
theorem rPackText_no (m : Int) (v : ByteArray) (h : inR m = false ∨ m < (v.size : Int)) (w : World) : Calls Try.prog 49 #[.int .i64 m, .string v] w fun e w' => e = .returned (.tuple #[.string ⟨#[]⟩, .bool false]) ∧ w' = w := by
  by_cases h0 : m < 0
  · go_enter Try.func49, Try.ntmps49
    go_wp2_with fail
    go_ret2
    exact ⟨rfl, rfl⟩
  · by_cases h1 : 127 < m
    · go_enter Try.func49, Try.ntmps49
      go_wp2_with fail
      go_ret2
      exact ⟨rfl, rfl⟩
    · have h2 : m < (v.size : Int) := by
        rcases h with h | h
        · rcases inR_no h with q | q <;> omega
        · exact h
      go_enter Try.func49, Try.ntmps49
      go_wp2_with fail
      go_ret2
      exact ⟨rfl, rfl⟩
set_option maxRecDepth 100000 in
set_option maxHeartbeats 2000000 in
theorem rPackText_yes (M : Nat) (v : ByteArray) (hM : M ≤ 127) (hv : v.size ≤ M) (w : World) : Calls Try.prog 49 #[.int .i64 (M : Int), .string v] w fun e w' => e = .returned (.tuple #[.string (strOf (txB M v.data.toList)), .bool true]) ∧ Keeps w w' (fun _ => False) := by
  have hl : v.data.toList.length = v.size := rfl
  have j0 : ¬ (M : Int) < 0 := by omega
  have j1 : ¬ (127 : Int) < (M : Int) := by omega
  have j2 : ¬ (M : Int) < (v.size : Int) := by omega
  go_enter Try.func49, Try.ntmps49
  go_wp2_with fail
  go_loopw [6] (fun v6 wr => ∃ k : Nat, k ≤ M - v.size ∧ v6 = .string (strOf (v.data.toList ++ zeros k)) ∧ wr = w) (fun v6 _ => match v6 with | .string t => M - t.size | _ => 0)
  case atStart => exact ⟨0, by omega, by simp [zeros, strOf_self], rfl⟩
  case round =>
    obtain ⟨k, hk, rfl, rfl⟩ := hrel
    have hsz : (strOf (v.data.toList ++ zeros k)).size = v.size + k := by rw [strOf_size]; simp [zeros]
    obtain ⟨T, hT⟩ : ∃ T, strOf (v.data.toList ++ zeros k) = T := ⟨_, rfl⟩
    rw [hT] at hsz
    by_cases hlt : v.size + k < M
    · have e1 : ((T.size : Nat) : Int) < (M : Int) := by omega
      have hn : T ++ ⟨#[0]⟩ = strOf (v.data.toList ++ zeros (k + 1)) := by
        rw [← hT, show (⟨#[0]⟩ : ByteArray) = strOf [0] from rfl, strOf_append, List.append_assoc, show zeros k ++ [0] = zeros (k + 1) from (List.replicate_succ').symm]
      have HN := hide hn
      rw [hT]
      clear hn
      have q1 : (⟨#[0]⟩ : ByteArray).size = 1 := rfl
      go_wp2_with fail
      refine ⟨⟨k + 1, by omega, by rw [HN.out], trivial⟩, ?_⟩
      show M - (T ++ ⟨#[0]⟩).size < M - T.size
      rw [ByteArray.size_append, q1]
      omega
    · have hkM : k = M - v.size := by omega
      have e1 : ¬ ((T.size : Nat) : Int) < (M : Int) := by omega
      have hx : (UInt8.ofNat v.size).toNat = v.size := by
        rw [show UInt8.ofNat v.size = UInt8.ofNat (v.size % 256) by rw [Nat.mod_eq_of_lt (by omega)], byte_nat]
        omega
      have hn : T ++ strOf [UInt8.ofNat v.size] = strOf (txB M v.data.toList) := by
        rw [← hT, strOf_append, hkM]
        rfl
      have HN := hide hn
      rw [hT]
      obtain ⟨x, hx2⟩ : ∃ x, UInt8.ofNat v.size = x := ⟨_, rfl⟩
      rw [hx2] at hx HN
      have g1 := heap_alloc_new wr (.cells #[.int .u8 (x.toNat : Int)] 5)
      have t1 := one_text _ x wr.heap.size 1 g1
      have hs1 : (strOf [x]).size = 1 := rfl
      have e2 : ((v.size : Nat) : Int) = (x.toNat : Int) := by rw [hx]
      have K1 : Keeps wr (wr.alloc (.cells #[.int .u8 (x.toNat : Int)] 5)) (fun _ => False) := (Keeps.refl _ _).alloc _
      rw [hx] at g1 t1 K1
      obtain ⟨X, hX⟩ : ∃ X, strOf (txB M v.data.toList) = X := ⟨_, rfl⟩
      rw [hX] at HN
      clear hn hx2 hx e2 hT hl
      go_wp2_with fail
      go_ret2
      exact ⟨by rw [HN.out]; rfl, K1⟩
end Go.Proofs.Ytgbeacfiaegehaa
