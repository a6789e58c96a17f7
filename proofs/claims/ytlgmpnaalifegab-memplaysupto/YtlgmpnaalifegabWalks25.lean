import Derived.Test.YtlgmpnaalifegabWalks24
namespace Go.Proofs.Ytlgmpnaalifegab
open Go.RowKit

/-- The acts tell the bytes. -/
def Told (xs : List ActD) (bs : List UInt8) : Prop := ∀ p, lookB xs.reverse p = bs.getD p 0
theorem Told.get {xs : List ActD} {bs : List UInt8} (t : Told xs bs) {p : Nat} (h : p < bs.length) : lookB xs.reverse p = bs[p] := by
  rw [t p, List.getD_eq_getElem?_getD, List.getElem?_eq_getElem h, Option.getD_some]

set_option maxHeartbeats 400000 in
theorem rload_width (w : World) (p : Value) (off n : Int) (h : widthB n = false) :
    Calls Try.prog 42 #[p, .int .i64 off, .int .i64 n] w fun e w' => e = .returned (.tuple #[.int .u64 0, .int .i64 10]) ∧ w' = w := by
  have hw := rwidth_any w n
  rw [h] at hw
  go_enter Try.func42, Try.ntmps42
  go_wp2_with fail
  refine hw.mono ?_
  rintro e w' ⟨rfl, rfl⟩
  clear hw
  go_wp2_with fail
  go_ret2
  exact ⟨rfl, rfl⟩

set_option maxHeartbeats 400000 in
theorem rload_out {B : Nat} {w : World} {rb sz : Nat} {av : Value} {xs : List ActD} (r : RefAt B w rb sz av xs) (off n : Int) (h : widthB n = true) (h2 : insideB sz off n = false) :
    Calls Try.prog 42 #[.pointer (some ⟨rb, 0, none⟩), .int .i64 off, .int .i64 n] w fun e w' => e = .returned (.tuple #[.int .u64 0, .int .i64 11]) ∧ w' = w := by
  have hw := rwidth_any w n
  rw [h] at hw
  have hin := rin_no w rb sz r.cell0 r.hsz off n h2
  clear r
  go_enter Try.func42, Try.ntmps42
  go_wp2_with fail
  refine hw.mono ?_
  rintro e w' ⟨rfl, rfl⟩
  clear hw
  go_wp2_with fail
  refine hin.mono ?_
  rintro e w' ⟨rfl, rfl⟩
  clear hin
  go_wp2_with fail
  go_ret2
  exact ⟨rfl, rfl⟩

def RLoadPost (w : World) (x : Nat) (e : Ending) (w' : World) : Prop := e = .returned (.tuple #[.int .u64 (x : Int), .int .i64 0]) ∧ Keeps w w' (fun _ => False)
set_option maxHeartbeats 1000000 in
theorem rload_yes {B : Nat} {w : World} {rb sz : Nat} {av : Value} {xs : List ActD} {bs : List UInt8} (r : RefAt B w rb sz av xs) (t : Told xs bs) (hbs : bs.length = sz) (o n : Nat) (h : widthB (n : Int) = true) (h2 : o + n ≤ sz) :
    Calls Try.prog 42 #[.pointer (some ⟨rb, 0, none⟩), .int .i64 (o : Int), .int .i64 (n : Int)] w fun e w' => RLoadPost w (numOf ((bs.drop o).take n)) e w' := by
  have hw := rwidth_any w n
  rw [h] at hw
  have hin := rin_yes w rb sz r.cell0 r.hsz o n (insideB_mk h2)
  have hn8 : n ≤ 8 := by have := widthB_true h; omega
  have hn1 : 1 ≤ n := by have := widthB_true h; omega
  have hsz := r.hsz
  have R : Hid (RefAt B w rb sz av xs) := r
  have T : Hid (Told xs bs) := t
  clear r t
  go_enter Try.func42, Try.ntmps42
  go_wp2_with fail
  refine hw.mono ?_
  rintro e w' ⟨rfl, rfl⟩
  clear hw
  go_wp2_with fail
  refine hin.mono ?_
  rintro e w' ⟨rfl, rfl⟩
  clear hin
  go_wp2_with fail
  go_loopw [8, 9] (fun v i wr => ∃ k : Nat, k ≤ n ∧ i = .int .i64 ((k : Int) - 1) ∧ v = .int .u64 (numOf ((bs.drop (o + k)).take (n - k)) : Int) ∧ Keeps w' wr (fun _ => False)) (fun _ i _ => (intOf i + 1).toNat)
  case atStart => exact ⟨n, Nat.le_refl _, rfl, by rw [Nat.sub_self, List.take_zero]; rfl, Keeps.refl _ _⟩
  case round =>
    obtain ⟨k, hk, rfl, rfl, K⟩ := hrel
    by_cases hk0 : k = 0
    · subst hk0
      go_wp2
      go_ret2
      exact ⟨rfl, K⟩
    · obtain ⟨k, rfl⟩ : ∃ k', k = k' + 1 := ⟨k - 1, by omega⟩
      have hat := rat_ref (R.out.keepsNone K) (o + k) (by omega)
      have hb : o + k < bs.length := by omega
      rw [Told.get T.out hb] at hat
      have e1 : (bs.drop (o + k)).take (n - k) = bs[o + k] :: (bs.drop (o + (k + 1))).take (n - (k + 1)) := by
        rw [List.drop_eq_getElem_cons hb, show n - k = (n - (k + 1)) + 1 from by omega, List.take_succ_cons]
        rfl
      have hlt := numOf_lt ((bs.drop (o + (k + 1))).take (n - (k + 1)))
      have hl7 : ((bs.drop (o + (k + 1))).take (n - (k + 1))).length ≤ 7 := by simp; omega
      have hpow : 256 ^ ((bs.drop (o + (k + 1))).take (n - (k + 1))).length ≤ 256 ^ 7 := Nat.pow_le_pow_right (by omega) hl7
      have e2 : numOf ((bs.drop (o + k)).take (n - k)) = (bs[o + k]).toNat + 256 * numOf ((bs.drop (o + (k + 1))).take (n - (k + 1))) := by rw [e1]; rfl
      have hx : (bs[o + k]).toNat < 256 := (bs[o + k]).toNat_lt
      generalize hN : numOf ((bs.drop (o + (k + 1))).take (n - (k + 1))) = N at *
      have hN2 : N < 72057594037927936 := by omega
      rw [show ((k + 1 : Nat) : Int) - 1 = (k : Int) from by omega]
      rw [show ((o + k : Nat) : Int) = (o : Int) + (k : Int) from by omega] at hat
      clear hlt hpow hl7 e1 hN
      go_wp2_with fail
      refine hat.mono ?_
      rintro e w2 ⟨rfl, K2⟩
      clear hat
      go_wp2_with fail
      go_roundw
      case rel => exact ⟨k, by omega, by go_num, by rw [e2]; go_num, K.trans K2 (fun _ _ x => x)⟩
      case measure => simp [intOf]
end Go.Proofs.Ytlgmpnaalifegab
