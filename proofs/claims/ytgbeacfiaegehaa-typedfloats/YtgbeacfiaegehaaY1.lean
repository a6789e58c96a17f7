/-
  typed: bytesOf, numberOf; the reference's Bytes and Number.
-/
import Derived.Test.YtgbeacfiaegehaaY0
namespace Go.Proofs.Ytgbeacfiaegehaa
open Go.RowKit
set_option linter.unusedVariables false
theorem zero8 (W : World) : Sem.run Try.prog (zeroValue 103) W = .ok (.agg (rowOf (zeros 8))) W := by kernel_rfl
theorem len8 : Try.prog.arrayLen 103 = 8 := by kernel_rfl
theorem und8 : Try.prog.underlying 103 = some (.array (Try.prog.arrayLen 103) (Try.prog.elem 103)) := by kernel_rfl
theorem size8 (W : World) : (sizeOf (Try.prog.elem 103)).run Try.prog W = .ok 1 W := by kernel_rfl
theorem set_blk {w : World} {q : Nat} {cs : Array Value} {t : TypeId} (h : w.heap[q]? = some (.cells cs t)) (i : Nat) (v : Value) : (w.setCell ⟨q, i, none⟩ v).heap[q]? = some (.cells (cs.setIfInBounds i v) t) := by
  have hlt := (Array.getElem?_eq_some_iff.1 h).1
  have hv := (Array.getElem?_eq_some_iff.1 h).2
  simp only [World.setCell, Array.getElem?_modify]
  simp [hlt, hv]
theorem sl8 (W : World) (q : Nat) : Sem.run Try.prog (Instr.sliceAt 103 (.pointer (some ⟨q, 0, none⟩)) none none none) W = .ok (.slice (some ⟨q, 0, none⟩) 8 8) W := by
  rw [run_sliceAt_array_all W 103 ⟨q, 0, none⟩ und8, size8, len8]
  rfl
theorem row_step {l : List UInt8} {i m : Nat} (h : i < l.length) (z : Int) (hz : z = (l[i].toNat : Int)) : (rowOf (l.take i ++ zeros (m + 1))).setIfInBounds i (.int .u8 z) = rowOf (l.take (i + 1) ++ zeros m) := by
  have e : (l.take i).length = i := by rw [List.length_take]; omega
  subst hz
  apply Array.toList_inj.1
  rw [Array.toList_setIfInBounds, rowOf_toList, rowOf_toList, cellsOf_append, cellsOf_append, List.take_succ_eq_append_getElem h, cellsOf_append]
  have e2 : zeros (m + 1) = 0 :: zeros m := rfl
  have e3 : (cellsOf (l.take i)).length = i := by rw [cellsOf_length, e]
  rw [e2, List.set_append_right _ _ (by omega), e3, Nat.sub_self]
  simp [cellsOf, cellOf]
set_option maxRecDepth 100000 in
set_option maxHeartbeats 2000000 in
theorem bytesOf_any (n : Nat) (hn : n < 18446744073709551616) (w : World) : Calls Try.prog 30 #[.int .u64 (n : Int)] w fun e w' => e = .returned (.string (strOf (be 8 n))) ∧ Keeps w w' (fun _ => False) := by
  have hz := fun W => zero8 W
  have hl := be_length 8 n
  have hget := fun i => be_get 8 n i
  obtain ⟨L, hL, hl, hget⟩ : ∃ L : List UInt8, be 8 n = L ∧ ∃ hl : L.length = 8, ∀ i (h : i < 8), L[i] = UInt8.ofNat (n / 256 ^ (8 - 1 - i) % 256) := ⟨be 8 n, rfl, hl, hget⟩
  rw [hL]
  clear hL
  go_enter Try.func30, Try.ntmps30
  go_wp2_with fail
  go_loopw [5] (fun v5 wr => ∃ i : Nat, v5 = .int .i64 (i : Int) ∧ i ≤ 8 ∧ wr.heap[w.heap.size]? = some (.cells (rowOf (L.take i ++ zeros (8 - i))) 103) ∧ Keeps w wr (fun _ => False)) (fun v5 _ => 8 - (intOf v5).toNat)
  case atStart => exact ⟨0, rfl, by omega, heap_alloc_new _ _, (Keeps.refl _ _).alloc _⟩
  case round =>
    obtain ⟨i, rfl, hi, hb, K⟩ := hrel
    by_cases h8 : i < 8
    · have h8' : (i : Int) < 8 := by omega
      have i0 : (0 : Int) ≤ (i : Int) := by omega
      obtain ⟨m, hm⟩ : ∃ m, 8 - i = m + 1 := ⟨7 - i, by omega⟩
      rw [hm] at hb
      have hc : wr.cell? ⟨w.heap.size, i, none⟩ = some (.int .u8 0) := by
        simp only [World.cell?, hb]
        rw [rowOf_get _ i (by simp [zeros_length]; omega)]
        congr 1
        rw [List.getElem_append_right (by simp; omega)]
        simp [zeros]
      have hf : wr.frozen? ⟨w.heap.size, i, none⟩ = false := by simp [World.frozen?, hb]
      have hl8 := len8
      have hs8 := fun W => size8 W
      have hK2 := K.size
      have hb2 := fun v => set_blk hb i v
      have hk2 := fun v => K.setCell ⟨w.heap.size, i, none⟩ (by intro q; exact absurd q (Nat.lt_irrefl _)) v
      clear hb K
      obtain rfl : m = 7 - i := by omega
      clear hm
      rcases (show i = 0 ∨ i = 1 ∨ i = 2 ∨ i = 3 ∨ i = 4 ∨ i = 5 ∨ i = 6 ∨ i = 7 by omega) with rfl | rfl | rfl | rfl | rfl | rfl | rfl | rfl
      all_goals
        go_wp2_with fail
        refine ⟨⟨_, rfl, by decide, (hb2 _).trans (congrArg (fun c => some (Obj.cells c 103)) (row_step (by omega) _ ?_)), hk2 _⟩, by decide⟩
        rw [hget _ (by omega)]
        simp
        try omega
    · obtain rfl : i = 8 := by omega
      have hx := run_text wr ⟨w.heap.size, 0, none⟩ 8 8 L hl (fun j hj => by
        rw [addr_add, Nat.zero_add]
        simp only [World.cell?, hb]
        rw [rowOf_get _ j (by simp; omega)]
        congr 1
        have e0 : L.take 8 ++ zeros (8 - 8) = L := by rw [List.take_of_length_le (Nat.le_of_eq hl)]; simp [zeros]
        simp only [e0]
        rfl)
      have hs := sl8 wr w.heap.size
      clear hb
      go_wp2_with fail
      go_ret
      exact ⟨rfl, K⟩

theorem numberOf_no (s : ByteArray) (h : ¬ s.size = 8) (w : World) : Calls Try.prog 46 #[.string s] w fun e w' => e = .returned (.tuple #[.int .u64 0, .bool false]) ∧ w' = w := by
  have h1 : ((s.size : Int) != 8) = true := by rw [bne_iff_ne]; omega
  go_enter Try.func46, Try.ntmps46
  go_wp2_with fail
  go_ret2
  exact ⟨rfl, rfl⟩
theorem or_byte (a b : Nat) (ha : a < 72057594037927936) (hb : b < 256) : bits BinOp.or IntKind.u64 ((a * 256 : Nat) : Int) (b : Int) = ((a * 256 + b : Nat) : Int) := by
  rw [u64_or_nat _ _ (by omega) (by omega)]
  have := Nat.shiftLeft_add_eq_or_of_lt (show b < 2 ^ 8 by omega) a
  rw [Nat.shiftLeft_eq] at this
  rw [← this]
set_option maxRecDepth 100000 in
set_option maxHeartbeats 2000000 in
theorem numberOf_yes (s : ByteArray) (h : s.size = 8) (w : World) : Calls Try.prog 46 #[.string s] w fun e w' => e = .returned (.tuple #[.int .u64 (bnA 0 s.data.toList : Int), .bool true]) ∧ w' = w := by
  have h1 : ((s.size : Int) != 8) = false := by rw [h]; rfl
  go_enter Try.func46, Try.ntmps46
  go_wp2_with fail
  go_loopw [4, 11] (fun v4 v11 wr => ∃ i : Nat, v11 = .int .i64 (i : Int) ∧ i ≤ 8 ∧ v4 = .int .u64 (bnA 0 (s.data.toList.take i) : Int) ∧ wr = w) (fun _ v11 _ => 8 - (intOf v11).toNat)
  case atStart => exact ⟨0, rfl, by omega, rfl, rfl⟩
  case round =>
    obtain ⟨i, rfl, hi, rfl, rfl⟩ := hrel
    by_cases h8 : i < 8
    · have h8' : (i : Int) < (s.size : Int) := by omega
      have i0 : (0 : Int) ≤ (i : Int) := by omega
      have hlt := bnA_lt (s.data.toList.take i) 0 1 (by omega)
      have hA : bnA 0 (s.data.toList.take i) < 72057594037927936 := by
        rw [List.length_take, show min i s.data.toList.length = i from Nat.min_eq_left (by have : s.data.toList.length = s.size := rfl; omega), Nat.one_mul] at hlt
        exact Nat.lt_of_lt_of_le hlt (Nat.pow_le_pow_right (by omega) (show i ≤ 7 by omega))
      have hN : bnA 0 (s.data.toList.take (i + 1)) = bnA 0 (s.data.toList.take i) * 256 + s[i].toNat := by
        rw [List.take_succ_eq_append_getElem (by have : s.data.toList.length = s.size := rfl; omega), bnA_snoc]
        rfl
      have HN := hide hN
      have hx := s[i].toNat_lt
      clear hlt hN
      generalize bnA 0 (s.data.toList.take i) = A at *
      have b1 : i ≤ 1099511627776 := by omega
      have hor := or_byte A s[i].toNat hA (by omega)
      obtain ⟨a1, a2⟩ := wr64s b1
      go_wp2_with fail
      rw [Int.natCast_mul] at hor
      refine ⟨⟨i + 1, by go_num, by omega, ?_, trivial⟩, by simp [intOf]; omega⟩
      rw [HN.out, ← hor]
      rfl
    · obtain rfl : i = 8 := by omega
      have h8' : ¬ ((8 : Nat) : Int) < (s.size : Int) := by omega
      rw [List.take_of_length_le (show s.data.toList.length ≤ 8 by have : s.data.toList.length = s.size := rfl; omega)]
      go_wp2_with fail
      go_ret2
      exact ⟨rfl, rfl⟩

set_option maxRecDepth 100000 in
set_option maxHeartbeats 2000000 in
theorem rNumber_any (s : ByteArray) (w : World) : Calls Try.prog 40 #[.string s] w fun e w' => e = .returned (.int .u64 (num8 s.data.toList : Int)) ∧ w' = w := by
  have hsz : s.data.toList.length = s.size := rfl
  by_cases h : s.size = 8
  · rw [num8_yes h]
    have h1 : ((s.size : Int) != 8) = false := by rw [h]; rfl
    go_enter Try.func40, Try.ntmps40
    go_wp2_with fail
    go_loopw [3, 4] (fun v3 v4 wr => ∃ i : Nat, v4 = .int .i64 (i : Int) ∧ i ≤ 8 ∧ v3 = .int .u64 (bnA 0 (s.data.toList.take i) : Int) ∧ wr = w) (fun _ v4 _ => 8 - (intOf v4).toNat)
    case atStart => exact ⟨0, rfl, by omega, rfl, rfl⟩
    case round =>
      obtain ⟨i, rfl, hi, rfl, rfl⟩ := hrel
      by_cases h8 : i < 8
      · have h8' : (i : Int) < 8 := by omega
        have h8'' : (i : Int) < (s.size : Int) := by omega
        have i0 : (0 : Int) ≤ (i : Int) := by omega
        have hlt := bnA_lt (s.data.toList.take i) 0 1 (by omega)
        have hA : bnA 0 (s.data.toList.take i) < 72057594037927936 := by
          rw [List.length_take, show min i s.data.toList.length = i from Nat.min_eq_left (by omega), Nat.one_mul] at hlt
          exact Nat.lt_of_lt_of_le hlt (Nat.pow_le_pow_right (by omega) (show i ≤ 7 by omega))
        have hN : bnA 0 (s.data.toList.take (i + 1)) = bnA 0 (s.data.toList.take i) * 256 + s[i].toNat := by
          rw [List.take_succ_eq_append_getElem (by omega), bnA_snoc]
          rfl
        have HN := hide hN
        have hx := s[i].toNat_lt
        clear hlt hN
        generalize bnA 0 (s.data.toList.take i) = A at *
        have b1 : i ≤ 1099511627776 := by omega
        obtain ⟨a1, a2⟩ := wr64s b1
        go_wp2_with fail
        refine ⟨⟨i + 1, by go_num, by omega, ?_, trivial⟩, by simp [intOf]; omega⟩
        rw [HN.out]
        simp
      · obtain rfl : i = 8 := by omega
        rw [List.take_of_length_le (show s.data.toList.length ≤ 8 by omega)]
        go_wp2_with fail
        go_ret
        exact ⟨rfl, rfl⟩
  · rw [num8_no h]
    have h1 : ((s.size : Int) != 8) = true := by rw [bne_iff_ne]; omega
    go_enter Try.func40, Try.ntmps40
    go_wp2_with fail
    go_ret
    exact ⟨rfl, rfl⟩

theorem one_text (w : World) (x : UInt8) (q c : Nat) (h : w.heap[q]? = some (.cells #[.int .u8 (x.toNat : Int)] 5)) : (convert 88 9 (.slice (some ⟨q, 0, none⟩) 1 c)).run Try.prog w = .ok (.string (strOf [x])) w :=
  run_text w ⟨q, 0, none⟩ c 1 [x] rfl (fun j hj => by
    obtain rfl : j = 0 := by simp at hj; omega
    rw [addr_add]
    simp [World.cell?, h])
set_option maxRecDepth 100000 in
set_option maxHeartbeats 2000000 in
theorem rBytes_any (n : Nat) (hn : n < 18446744073709551616) (w : World) : Calls Try.prog 34 #[.int .u64 (n : Int)] w fun e w' => e = .returned (.string (strOf (be 8 n))) ∧ Keeps w w' (fun _ => False) := by
  go_enter Try.func34, Try.ntmps34
  go_wp2_with fail
  go_loopw [0, 3, 4] (fun v0 v3 v4 wr => ∃ i : Nat, v4 = .int .i64 (i : Int) ∧ i ≤ 8 ∧ v0 = .int .u64 ((n / 256 ^ i : Nat) : Int) ∧ v3 = .string (strOf (be i n)) ∧ Keeps w wr (fun _ => False)) (fun _ _ v4 _ => 8 - (intOf v4).toNat)
  case atStart => exact ⟨0, rfl, by omega, by simp, rfl, Keeps.refl _ _⟩
  case round =>
    obtain ⟨i, rfl, hi, rfl, rfl, K⟩ := hrel
    by_cases h8 : i < 8
    · have h8' : (i : Int) < 8 := by omega
      have hle : n / 256 ^ i ≤ n := Nat.div_le_self _ _
      have hdiv : n / 256 ^ (i + 1) = n / 256 ^ i / 256 := by rw [Nat.pow_succ, Nat.div_div_eq_div_mul]
      have hbe : be (i + 1) n = [UInt8.ofNat (n / 256 ^ i % 256)] ++ be i n := rfl
      have hle2 : (strOf (be i n)).size ≤ 8 := by rw [strOf_size, be_length]; omega
      have hcat := strOf_append [UInt8.ofNat (n / 256 ^ i % 256)] (be i n)
      rw [← hbe] at hcat
      have hx := byte_nat (n / 256 ^ i)
      have HD := hide hdiv
      have HC := hide hcat
      clear hdiv hbe hcat
      generalize hX : UInt8.ofNat (n / 256 ^ i % 256) = x at *
      generalize n / 256 ^ i = A at *
      have hA : A < 18446744073709551616 := by omega
      generalize strOf (be i n) = T at *
      have ht := fun (W : World) (q c : Nat) h => one_text W x q c h
      have hs1 : (strOf [x]).size = 1 := rfl
      have b1 : i ≤ 1099511627776 := by omega
      have g1 := heap_alloc_new wr (.cells #[.int .u8 (x.toNat : Int)] 5)
      have t1 := ht _ wr.heap.size 1 g1
      have e1 : (A : Int) % 256 = (x.toNat : Int) := by rw [hx]; omega
      have x256 := x.toNat_lt
      have e2 : IntKind.u8.wrap (x.toNat : Int) = (x.toNat : Int) := by rw [IntKind.wrap_u8]; omega
      clear hx hX ht
      obtain ⟨a1, a2⟩ := wr64s b1
      go_wp2_with fail
      refine ⟨⟨i + 1, by go_num, by omega, by rw [HD.out]; rfl, by rw [HC.out], K.alloc _⟩, by simp [intOf]; omega⟩
    · obtain rfl : i = 8 := by omega
      go_wp2_with fail
      go_ret
      exact ⟨rfl, K⟩
end Go.Proofs.Ytgbeacfiaegehaa
