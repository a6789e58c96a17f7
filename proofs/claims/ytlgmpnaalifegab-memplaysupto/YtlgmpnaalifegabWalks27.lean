import Derived.Test.YtlgmpnaalifegabWalks26
namespace Go.Proofs.Ytlgmpnaalifegab
open Go.RowKit

theorem eqS_iff (x y : List UInt8) : eqS (strOf x) (strOf y) = decide (x = y) := by
  have e : ∀ z : List UInt8, (strOf z).toList = z := fun z => by rw [ByteArray.toList_eq]; simp [strOf]
  unfold eqS
  rw [e, e]
  by_cases h : x = y
  · simp [h]
  · simp [h]

set_option maxHeartbeats 400000 in
theorem requal_no {B : Nat} {w : World} {rb sz : Nat} {av : Value} {xs : List ActD} (r : RefAt B w rb sz av xs) (d s n : Int) (h : (insideB sz d n && insideB sz s n) = false) :
    Calls Try.prog 44 #[.pointer (some ⟨rb, 0, none⟩), .int .i64 d, .int .i64 s, .int .i64 n] w fun e w' => e = .returned (.tuple #[.bool false, .int .i64 11]) ∧ w' = w := by
  have hin1 := rin_any w rb sz r.cell0 r.hsz d n
  have hin2 := rin_any w rb sz r.cell0 r.hsz s n
  clear r
  cases h1 : insideB sz d n
  · rw [h1] at hin1
    clear hin2 h
    go_enter Try.func44, Try.ntmps44
    go_wp2_with fail
    refine hin1.mono ?_
    rintro e w' ⟨rfl, rfl⟩
    clear hin1
    go_wp2_with fail
    go_ret2
    exact ⟨rfl, rfl⟩
  · have h2 : insideB sz s n = false := by simpa [h1] using h
    rw [h1] at hin1
    rw [h2] at hin2
    clear h
    go_enter Try.func44, Try.ntmps44
    go_wp2_with fail
    refine hin1.mono ?_
    rintro e w' ⟨rfl, rfl⟩
    clear hin1
    go_wp2_with fail
    refine hin2.mono ?_
    rintro e w' ⟨rfl, rfl⟩
    clear hin2
    go_wp2_with fail
    go_ret2
    exact ⟨rfl, rfl⟩

def REqualPost (w : World) (v : Bool) (e : Ending) (w' : World) : Prop := e = .returned (.tuple #[.bool v, .int .i64 0]) ∧ Keeps w w' (fun _ => False)
set_option maxHeartbeats 1000000 in
theorem requal_yes {B : Nat} {w : World} {rb sz : Nat} {av : Value} {xs : List ActD} {bs : List UInt8} (r : RefAt B w rb sz av xs) (t : Told xs bs) (hbs : bs.length = sz) (d s n : Nat) (h1 : d + n ≤ sz) (h2 : s + n ≤ sz) :
    Calls Try.prog 44 #[.pointer (some ⟨rb, 0, none⟩), .int .i64 (d : Int), .int .i64 (s : Int), .int .i64 (n : Int)] w fun e w' => REqualPost w (decide ((bs.drop d).take n = (bs.drop s).take n)) e w' := by
  have hin1 := rin_yes w rb sz r.cell0 r.hsz d n (insideB_mk h1)
  have hin2 := rin_yes w rb sz r.cell0 r.hsz s n (insideB_mk h2)
  have hsz := r.hsz
  have R : Hid (RefAt B w rb sz av xs) := r
  have T : Hid (Told xs bs) := t
  clear r t
  go_enter Try.func44, Try.ntmps44
  go_wp2_with fail
  refine hin1.mono ?_
  rintro e w' ⟨rfl, rfl⟩
  clear hin1
  go_wp2_with fail
  refine hin2.mono ?_
  rintro e w' ⟨rfl, rfl⟩
  clear hin2
  go_wp2_with fail
  go_loopw [10] (fun i wr => ∃ k : Nat, k ≤ n ∧ i = .int .i64 (k : Int) ∧ Hid ((bs.drop d).take k = (bs.drop s).take k) ∧ Keeps w' wr (fun _ => False)) (fun i _ => n - (intOf i).toNat)
  case atStart => exact ⟨0, Nat.zero_le _, rfl, (show _ = _ by simp), Keeps.refl _ _⟩
  case round =>
    obtain ⟨k, hk, rfl, hsame, K⟩ := hrel
    by_cases hlt : k < n
    · have hat1 := rat_ref (R.out.keepsNone K) (d + k) (by omega)
      have hd : d + k < bs.length := by omega
      have hs : s + k < bs.length := by omega
      rw [Told.get T.out hd] at hat1
      have t1 : (bs.drop d).take (k + 1) = (bs.drop d).take k ++ [bs[d + k]] := by
        rw [List.take_succ_eq_append_getElem (by simp; omega)]; simp
      have t2 : (bs.drop s).take (k + 1) = (bs.drop s).take k ++ [bs[s + k]] := by
        rw [List.take_succ_eq_append_getElem (by simp; omega)]; simp
      have hx := (bs[d + k]).toNat_lt
      have hy := (bs[s + k]).toNat_lt
      rw [show ((d + k : Nat) : Int) = (d : Int) + (k : Int) from by omega] at hat1
      go_wp2_with fail
      refine hat1.mono ?_
      rintro e w2 ⟨rfl, K2⟩
      clear hat1
      have KK := K.trans K2 (fun _ _ x => x)
      have hat2 := rat_ref (R.out.keepsNone KK) (s + k) (by omega)
      rw [Told.get T.out hs, show ((s + k : Nat) : Int) = (s : Int) + (k : Int) from by omega] at hat2
      clear K K2
      go_wp2_with fail
      refine hat2.mono ?_
      rintro e w3 ⟨rfl, K3⟩
      clear hat2
      have K4 := KK.trans K3 (fun _ _ x => x)
      clear KK K3
      by_cases heq : bs[d + k] = bs[s + k]
      · rw [heq]
        have hb : (((bs[s + k]).toNat : Int) != ((bs[s + k]).toNat : Int)) = false := by simp
        have hsame2 : Hid ((bs.drop d).take (k + 1) = (bs.drop s).take (k + 1)) := (show _ = _ by rw [t1, t2, hsame.out, heq])
        go_wp2_with fail
        go_roundw
        case rel => exact ⟨k + 1, by omega, by go_num, hsame2, K4⟩
        case measure => simp [intOf]; omega
      · have hne : ¬ (bs[d + k]).toNat = (bs[s + k]).toNat := fun e => heq (UInt8.toNat_inj.1 e)
        have hb : (((bs[d + k]).toNat : Int) != ((bs[s + k]).toNat : Int)) = true := bne_iff_ne.2 (by omega)
        have hf : Hid (decide ((bs.drop d).take n = (bs.drop s).take n) = false) := (show _ = _ from decide_eq_false (fun e => by
          have e1 := congrArg (fun l => l[k]?) e
          simp only [List.getElem?_take_of_lt hlt, List.getElem?_drop, List.getElem?_eq_getElem hd, List.getElem?_eq_getElem hs, Option.some.injEq] at e1
          exact heq e1))
        go_wp2_with fail
        go_ret2
        rw [hf.out]
        exact ⟨rfl, K4⟩
    · obtain rfl : k = n := by omega
      have hf : Hid (decide ((bs.drop d).take k = (bs.drop s).take k) = true) := (show _ = _ from decide_eq_true hsame.out)
      go_wp2_with fail
      go_ret2
      rw [hf.out]
      exact ⟨rfl, K⟩
end Go.Proofs.Ytlgmpnaalifegab
