import Derived.Test.YtlgmpnaalifegabWalks25
namespace Go.Proofs.Ytlgmpnaalifegab
open Go.RowKit

set_option maxHeartbeats 400000 in
theorem rstore_width (w : World) (p : Value) (off n : Int) (v : Int) (h : widthB n = false) :
    Calls Try.prog 35 #[p, .int .i64 off, .int .i64 n, .int .u64 v] w fun e w' => e = .returned (.int .i64 10) ∧ w' = w := by
  have hw := rwidth_any w n
  rw [h] at hw
  go_enter Try.func35, Try.ntmps35
  go_wp2_with fail
  refine hw.mono ?_
  rintro e w' ⟨rfl, rfl⟩
  clear hw
  go_wp2_with fail
  go_ret
  exact ⟨rfl, rfl⟩

set_option maxHeartbeats 400000 in
theorem rstore_out {B : Nat} {w : World} {rb sz : Nat} {av : Value} {xs : List ActD} (r : RefAt B w rb sz av xs) (off n : Int) (v : Int) (h : widthB n = true) (h2 : insideB sz off n = false) :
    Calls Try.prog 35 #[.pointer (some ⟨rb, 0, none⟩), .int .i64 off, .int .i64 n, .int .u64 v] w fun e w' => e = .returned (.int .i64 11) ∧ w' = w := by
  have hw := rwidth_any w n
  rw [h] at hw
  have hin := rin_no w rb sz r.cell0 r.hsz off n h2
  clear r
  go_enter Try.func35, Try.ntmps35
  go_wp2_with fail
  refine hw.mono ?_
  rintro e w' ⟨rfl, rfl⟩
  clear hw
  go_wp2_with fail
  refine hin.mono ?_
  rintro e w' ⟨rfl, rfl⟩
  clear hin
  go_wp2_with fail
  go_ret
  exact ⟨rfl, rfl⟩

theorem strOf_append (a b : List UInt8) : strOf a ++ strOf b = strOf (a ++ b) := by
  apply ByteArray.ext
  simp [strOf]
theorem strOf_size (a : List UInt8) : (strOf a).size = a.length := by simp [strOf, ByteArray.size]

set_option maxRecDepth 100000 in
set_option maxHeartbeats 1000000 in
theorem rstore_yes {B : Nat} {w : World} {rb sz : Nat} {av : Value} {xs : List ActD} (r : RefAt B w rb sz av xs) (hn : xs.length < 1048576) (hB : B ≤ w.heap.size) (o n v : Nat) (hv : v < 18446744073709551616) (h : widthB (n : Int) = true) (h2 : o + n ≤ sz) :
    Calls Try.prog 35 #[.pointer (some ⟨rb, 0, none⟩), .int .i64 (o : Int), .int .i64 (n : Int), .int .u64 (v : Int)] w fun e w' => ActPost B w rb sz av (xs ++ [⟨2, o, n, 0, 0, strOf (leBytes v n)⟩]) e w' := by
  have hw := rwidth_any w n
  rw [h] at hw
  have hin := rin_yes w rb sz r.cell0 r.hsz o n (insideB_mk h2)
  have hn8 : n ≤ 8 := by have := widthB_true h; omega
  have hsz := r.hsz
  have R : Hid (RefAt B w rb sz av xs) := r
  clear r
  go_enter Try.func35, Try.ntmps35
  go_wp2_with fail
  refine hw.mono ?_
  rintro e w' ⟨rfl, rfl⟩
  clear hw
  go_wp2_with fail
  refine hin.mono ?_
  rintro e w' ⟨rfl, rfl⟩
  clear hin
  go_wp2_with fail
  go_loopw [3, 9, 10] (fun v' s i wr => ∃ k : Nat, k ≤ n ∧ i = .int .i64 (k : Int) ∧ v' = .int .u64 ((v / 256 ^ k : Nat) : Int) ∧ s = .string (strOf (leBytes v k)) ∧ Keeps w' wr (fun _ => False)) (fun _ _ i _ => n - (intOf i).toNat)
  case atStart => exact ⟨0, Nat.zero_le _, rfl, by simp, rfl, Keeps.refl _ _⟩
  case round =>
    obtain ⟨k, hk, rfl, rfl, rfl, K⟩ := hrel
    by_cases hlt : k < n
    · have hstep : Hid (strOf (leBytes v k) ++ strOf [lowB v k] = strOf (leBytes v (k + 1))) := (show _ = _ by rw [strOf_append, leBytes_succ])
      have hlow : ((v / 256 ^ k : Nat) : Int) % 256 = ((lowB v k).toNat : Int) := by rw [lowB_toNat]; omega
      have hdiv : Hid (((v / 256 ^ k : Nat) : Int) / 256 = ((v / 256 ^ (k + 1) : Nat) : Int)) := (show _ = _ by rw [Nat.pow_succ, ← Nat.div_div_eq_div_mul]; omega)
      have hbig : v / 256 ^ k < 18446744073709551616 := Nat.lt_of_le_of_lt (Nat.div_le_self _ _) hv
      have hsl : (strOf (leBytes v k)).size ≤ 8 := by rw [strOf_size, leBytes_length]; omega
      have hconv : (convert 30 9 (.slice (some ⟨wr.heap.size, 0, none⟩) 1 1)).run Try.prog (wr.alloc (.cells #[.int .u8 ((lowB v k).toNat : Int)] 5)) = .ok (.string (strOf [lowB v k])) (wr.alloc (.cells #[.int .u8 ((lowB v k).toNat : Int)] 5)) :=
        run_text _ ⟨wr.heap.size, 0, none⟩ 1 1 [lowB v k] rfl (fun j hj => by
          have : j = 0 := by simp at hj; omega
          subst this
          rw [addr_add]
          simp only [World.cell?, heap_alloc_new]
          rfl)
      have hs1 : (strOf [lowB v k]).size = 1 := by rw [strOf_size]; rfl
      have K2 := K.alloc (.cells #[.int .u8 ((lowB v k).toNat : Int)] 5)
      generalize strOf (leBytes v k) = S at *
      generalize strOf [lowB v k] = S1 at *
      generalize v / 256 ^ k = V at *
      clear K
      go_wp2_with fail
      go_roundw
      case rel => exact ⟨k + 1, by omega, by go_num, by rw [← hdiv.out], by rw [hstep.out], K2⟩
      case measure => simp [intOf]; omega
    · obtain rfl : k = n := by omega
      have r := R.out.keepsNone K
      obtain ⟨w2, g2, c2, hap, hc0, hc1, hfz, hpost⟩ := act_append r ⟨2, o, k, 0, 0, strOf (leBytes v k)⟩ ⟨h2, by show 0 + k ≤ sz; omega, (fun _ => by show (strOf _).size = k; rw [strOf_size, leBytes_length]), by show 2 ≤ 3; omega⟩ hn (by have := K.size; omega)
      have hcell1 := r.cell1
      simp only [actVal] at hap
      rw [show ((2 : Nat) : Int) = 2 from rfl, show ((0 : Nat) : Int) = 0 from rfl, show ((UInt8.toNat 0 : Nat) : Int) = 0 from rfl] at hap
      clear r
      generalize hS : strOf (leBytes v k) = S at hap hpost ⊢
      go_wp2_with (first | (at_builtin; have _t := hap; refine wpList_append_run _ rfl (.tmp 37) (.tmp 42) 73 rfl rfl rfl hap ?_; clear hap))
      go_ret
      subst hS
      exact ⟨rfl, _, hpost.out.1, (K.mono (fun _ _ x => x.elim)).trans hpost.out.2.1 (fun _ _ x => x), fun k hk => by cases hk; exact hpost.out.2.2.imp id (fun h => Nat.le_trans K.size h)⟩
end Go.Proofs.Ytlgmpnaalifegab
