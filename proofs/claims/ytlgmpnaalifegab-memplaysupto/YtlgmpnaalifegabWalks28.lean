import Derived.Test.YtlgmpnaalifegabWalks27
namespace Go.Proofs.Ytlgmpnaalifegab
open Go.RowKit

set_option maxHeartbeats 400000 in
theorem rread_no {B : Nat} {w : World} {rb sz : Nat} {av : Value} {xs : List ActD} (r : RefAt B w rb sz av xs) (o n : Int) (h : insideB sz o n = false) :
    Calls Try.prog 45 #[.pointer (some ⟨rb, 0, none⟩), .int .i64 o, .int .i64 n] w fun e w' => e = .returned (.tuple #[.slice none 0 0, .int .i64 11]) ∧ w' = w := by
  have hin := rin_no w rb sz r.cell0 r.hsz o n h
  clear r
  go_enter Try.func45, Try.ntmps45
  go_wp2_with fail
  refine hin.mono ?_
  rintro e w' ⟨rfl, rfl⟩
  clear hin
  go_wp2_with fail
  go_ret2
  exact ⟨rfl, rfl⟩

def RReadPost (w : World) (x : List UInt8) (e : Ending) (w' : World) : Prop :=
  ∃ lv, e = .returned (.tuple #[lv, .int .i64 0]) ∧ w'.ownsRow w.heap.size 5 1 lv x.length (cellsOf x) ∧ Keeps w w' (fun _ => False)
set_option maxHeartbeats 1000000 in
theorem rread_yes {B : Nat} {w : World} {rb sz : Nat} {av : Value} {xs : List ActD} {bs : List UInt8} (r : RefAt B w rb sz av xs) (t : Told xs bs) (hbs : bs.length = sz) (o n : Nat) (h : o + n ≤ sz) :
    Calls Try.prog 45 #[.pointer (some ⟨rb, 0, none⟩), .int .i64 (o : Int), .int .i64 (n : Int)] w fun e w' => RReadPost w ((bs.drop o).take n) e w' := by
  have hin := rin_yes w rb sz r.cell0 r.hsz o n (insideB_mk h)
  have hsz := r.hsz
  have R : Hid (RefAt B w rb sz av xs) := r
  have T : Hid (Told xs bs) := t
  clear r t
  go_enter Try.func45, Try.ntmps45
  go_wp2_with fail
  refine hin.mono ?_
  rintro e w' ⟨rfl, rfl⟩
  clear hin
  go_wp2_with fail
  go_loopw [8, 9] (fun l i wr => ∃ k : Nat, k ≤ n ∧ i = .int .i64 (k : Int) ∧ Hid (wr.ownsRow w'.heap.size 5 1 l k (cellsOf ((bs.drop o).take k))) ∧ Keeps w' wr (fun _ => False)) (fun _ i _ => n - (intOf i).toNat)
  case atStart => exact ⟨0, Nat.zero_le _, rfl, World.ownsRow_nil _ _ _ _, Keeps.refl _ _⟩
  case round =>
    obtain ⟨k, hk, rfl, own, K⟩ := hrel
    by_cases hlt : k < n
    · have hat := rat_ref (R.out.keepsNone K) (o + k) (by omega)
      have hd : o + k < bs.length := by omega
      rw [Told.get T.out hd, show ((o + k : Nat) : Int) = (o : Int) + (k : Int) from by omega] at hat
      have t1 : (bs.drop o).take (k + 1) = (bs.drop o).take k ++ [bs[o + k]] := by
        rw [List.take_succ_eq_append_getElem (by simp; omega)]; simp
      go_wp2_with fail
      refine hat.mono ?_
      rintro e w2 ⟨rfl, K2⟩
      clear hat
      have KK := K.trans K2 (fun _ _ x => x)
      have own2 := ownsRow_keeps own.out K2 (fun _ _ => id)
      have k3 : Keeps w2 (w2.alloc (.cells #[.int .u8 ((bs[o + k]).toNat : Int)] 5)) (fun _ => False) := (Keeps.refl _ _).alloc _
      obtain ⟨g4, c4, w4, hap, own4, k4, _⟩ := append_one (P := Try.prog) 30 5 (.int .u8 0) 1 Try.underlying30 Try.infoE rfl (ownsRow_keeps own2 k3 (fun _ _ => id)) (heap_alloc_new w2 (.cells #[.int .u8 ((bs[o + k]).toNat : Int)] 5)) rfl (by omega) (by unfold maxLen; omega) (by have := KK.size; have := k3.size; omega)
      have own5 : Hid (w4.ownsRow w'.heap.size 5 1 (.slice (some ⟨g4, 0, none⟩) (k + 1) c4) (k + 1) (cellsOf ((bs.drop o).take (k + 1)))) := (show World.ownsRow _ _ _ _ _ _ _ by rw [t1, cellsOf_append]; exact own4)
      have K5 : Keeps w' w4 (fun _ => False) := (KK.trans k3 (fun _ _ x => x)).trans k4 (fun i hi e => by
        have := (ownsRow_block own2 e).1
        omega)
      clear K K2 own own2 k3 own4 k4 KK
      go_wp2_with (first | (at_builtin; have _t := hap; refine wpList_append_run _ rfl (.tmp 20) (.tmp 26) 30 rfl rfl rfl hap ?_; clear hap))
      go_roundw
      case rel => exact ⟨k + 1, by omega, by go_num, own5, K5⟩
      case measure => simp [intOf]; omega
    · obtain rfl : k = n := by omega
      go_wp2_with fail
      go_ret2
      have hl : ((bs.drop o).take k).length = k := by simp; omega
      exact ⟨_, rfl, by rw [hl]; exact own.out, K⟩
/-- All texts up to the k-th, as one. -/
def joinS (ts : List ByteArray) (k : Nat) : ByteArray := strOf (catTo (bytesOf ts) k)
theorem joinS_zero (ts : List ByteArray) : joinS ts 0 = ⟨#[]⟩ := by simp [joinS, catTo_zero, strOf]
theorem joinS_succ (ts : List ByteArray) (k : Nat) (h : k < ts.length) : joinS ts k ++ ts[k] = joinS ts (k + 1) := by
  have e : joinS ts k ++ ts[k] = strOf (catTo (bytesOf ts) k) ++ strOf ts[k].data.toList := by rw [strOf_data]; rfl
  rw [e, strOf_append, joinS, catTo_succ _ _ (by rw [bytesOf_length]; exact h)]
  simp [bytesOf]
theorem joinS_all (ts : List ByteArray) : joinS ts ts.length = strOf (catAll (bytesOf ts)) := by
  rw [joinS, ← catTo_all', bytesOf_length]
theorem joinS_size (ts : List ByteArray) (k : Nat) : (joinS ts k).size = (catTo (bytesOf ts) k).length := strOf_size _

def RWritePost (B : Nat) (w : World) (rb sz : Nat) (av : Value) (xs : List ActD) (o : Int) (x : List UInt8) (e : Ending) (w' : World) : Prop :=
  (insideB sz o x.length = false ∧ e = .returned (.int .i64 11) ∧ w' = w) ∨ (∃ q : Nat, o = q ∧ q + x.length ≤ sz ∧ ActPost B w rb sz av (xs ++ [⟨2, q, x.length, 0, 0, strOf x⟩]) e w')
set_option maxRecDepth 100000 in
set_option maxHeartbeats 1000000 in
theorem rwrite_any {B : Nat} {w : World} {rb sz : Nat} {av : Value} {xs : List ActD} (r : RefAt B w rb sz av xs) (hn : xs.length < 1048576) (hB : B ≤ w.heap.size) (o : Int) (ao : Option Addr) (cap : Nat) (ts : List ByteArray) (hts : StrsAt w w.heap.size ao ts) (htn : ts.length ≤ 1048576) (hc : (catAll (bytesOf ts)).length ≤ 1048576) :
    Calls Try.prog 38 #[.pointer (some ⟨rb, 0, none⟩), .int .i64 o, .slice ao ts.length cap] w fun e w' => RWritePost B w rb sz av xs o (catAll (bytesOf ts)) e w' := by
  generalize hX0 : catAll (bytesOf ts) = X at hc ⊢
  have HX0 : Hid (catAll (bytesOf ts) = X) := hX0
  clear hX0
  have hin := rin_any w rb sz r.cell0 r.hsz o X.length
  have hsz := r.hsz
  have R : Hid (RefAt B w rb sz av xs) := r
  clear r
  go_enter Try.func38, Try.ntmps38
  go_wp2_with fail
  go_loop [7, 8] (fun s i => ∃ k : Nat, k ≤ ts.length ∧ i = .int .i64 (k : Int) ∧ s = .string (joinS ts k)) (fun _ i => ts.length - (intOf i).toNat)
  case atStart => exact ⟨0, Nat.zero_le _, rfl, by rw [joinS_zero]⟩
  case round =>
    obtain ⟨kk, hk, rfl, rfl⟩ := hrel
    by_cases hlt : kk < ts.length
    · obtain ⟨bb, oo, rfl, hbb, hcell⟩ := hts kk hlt
      have HS : Hid (joinS ts kk ++ ts[kk] = joinS ts (kk + 1)) := joinS_succ ts kk hlt
      have hsum : (joinS ts kk).size + (ts[kk]).size ≤ 1048576 := by
        have h1 := catTo_le' (bytesOf ts) (kk + 1)
        rw [← joinS_size, ← joinS_succ ts kk hlt, HX0.out] at h1
        simp at h1
        omega
      clear hts hin hc
      generalize ts[kk] = tk at *
      generalize joinS ts kk = sk at *
      go_wp2
      go_round
      case rel => exact ⟨kk + 1, by omega, by go_num, by rw [← HS.out]⟩
      case measure => simp [intOf]; omega
    · obtain rfl : kk = ts.length := by omega
      have hS := joinS_all ts
      have hsz2 : (strOf X).size = X.length := strOf_size _
      rw [HX0.out] at hS
      rw [hS]
      generalize hSX : strOf X = S at *
      rw [← hsz2] at hin
      have HX : Hid (S.size = X.length) := hsz2
      have HSX : Hid (strOf X = S) := hSX
      have hc2 : S.size ≤ 1048576 := by omega
      clear hsz2 hSX hS hc
      cases hi : insideB sz o S.size
      · rw [hi] at hin
        go_wp2_with fail
        refine hin.mono ?_
        rintro e w' ⟨rfl, rfl⟩
        clear hin
        go_wp2_with fail
        go_ret
        exact Or.inl ⟨by rw [← HX.out]; exact hi, rfl, rfl⟩
      · rw [hi] at hin
        obtain ⟨q, n, rfl, hn2, hq⟩ := insideB_nat hi
        have hnS : S.size = n := by omega
        obtain ⟨w2, g2, c2, hap, hc0, hc1, hfz, hpost⟩ := act_append R.out ⟨2, q, S.size, 0, 0, S⟩ ⟨by show q + S.size ≤ sz; omega, by show 0 + S.size ≤ sz; omega, (fun _ => rfl), by show 2 ≤ 3; omega⟩ hn hB
        have hcell1 := R.out.cell1
        simp only [actVal] at hap
        rw [show ((2 : Nat) : Int) = 2 from rfl, show ((0 : Nat) : Int) = 0 from rfl, show ((UInt8.toNat 0 : Nat) : Int) = 0 from rfl] at hap
        have hqS : q + S.size ≤ sz := by omega
        clear hn2 hnS
        go_wp2_with fail
        refine hin.mono ?_
        rintro e w' ⟨rfl, rfl⟩
        clear hin
        go_wp2_with (first | (at_builtin; have _t := hap; refine wpList_append_run _ rfl (.tmp 31) (.tmp 37) 73 rfl rfl rfl hap ?_; clear hap) | (at_builtin; trace_state; sorry))
        go_ret
        refine Or.inr ⟨q, rfl, by rw [← HX.out]; exact hqS, rfl, .slice (some ⟨g2, 0, none⟩) (xs.length + 1) c2, ?_⟩
        rw [← HX.out, HSX.out]
        exact ⟨hpost.out.1, hpost.out.2.1, fun k hk => by cases hk; exact hpost.out.2.2⟩
end Go.Proofs.Ytlgmpnaalifegab
