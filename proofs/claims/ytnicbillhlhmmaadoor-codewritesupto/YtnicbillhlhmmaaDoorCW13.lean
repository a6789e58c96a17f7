/-
  code: the reference's numbers.
-/
import Derived.Test.YtnicbillhlhmmaaDoorCW12
namespace Go.Proofs.YtnicbillhlhmmaaDoor
namespace Cw
open Go.RowKit
set_option linter.unusedVariables false
def decX (n : Nat) : Bs := if n = 0 then [] else Lib.decDigits n
theorem decX_step {m : Nat} (h : m ≠ 0) : decX m = decX (m / 10) ++ [UInt8.ofNat (48 + m % 10)] := by
  unfold decX
  rw [if_neg h, dec_unfold]
  split
  · rename_i h10
    rw [if_pos (by omega), Nat.mod_eq_of_lt h10]
    rfl
  · rw [if_neg (by omega)]
theorem dec_decX (u : Nat) : Lib.decDigits u = decX (u / 10) ++ [UInt8.ofNat (48 + u % 10)] := by
  by_cases h : u = 0
  · subst h
    rw [dec_unfold]
    rfl
  · rw [← decX_step h]
    unfold decX
    rw [if_neg h]
/-- It fits into 64 bits. -/
def U64 (n : Nat) : Prop := n < 18446744073709551616
theorem u64_div {m n : Nat} (hm : m ≤ n) (hn : U64 n) : IntKind.u64.wrap ((m : Int) / 10) = ((m / 10 : Nat) : Int) := by
  unfold U64 at hn
  rw [IntKind.wrap_u64]
  omega
theorem decX_len (n : Nat) (hn : n < 18446744073709551616) : (decX n).length ≤ 20 := by
  unfold decX
  split
  · exact Nat.zero_le _
  · exact dec_len 19 n (by omega)
theorem infoB : (Tryd.prog.info? 5).map (fun i => (i.zero, i.size, i.bytes)) = some (some (.int .u8 0), 1, 1) := by kernel_rfl
/-- A byte ahead of bytes. -/
theorem byte_ahead {W : World} {base n : Nat} {v : Value} {bs : Bs} (own : W.ownsRow base 5 1 v n (cellsOf bs)) (hb0 : bs ≠ []) (hn : n ≤ 1000) (x : UInt8) (hbase : base ≤ W.heap.size) :
    ∃ g2 c2 W', (∀ ty, (Builtin.append_ #[38, 38] ty #[.slice (some ⟨W.heap.size, 0, none⟩) 1 1, v]).run Tryd.prog (W.alloc (.cells #[.int .u8 (x.toNat : Int)] 5)) = .ok (.slice (some ⟨g2, 0, none⟩) (n + 1) c2) W') ∧ W'.ownsRow base 5 1 (.slice (some ⟨g2, 0, none⟩) (n + 1) c2) (n + 1) (cellsOf (x :: bs)) ∧ Keeps W W' (fun _ => False) := by
  have hl : bs.length = n := by have := own.1; simpa [cellsOf_length] using this
  obtain ⟨i, q1, q2, q3, q4⟩ := info_parts infoB
  have fresh : (W.alloc (.cells #[.int .u8 (x.toNat : Int)] 5)).ownsRow W.heap.size 5 1 (.slice (some ⟨W.heap.size, 0, none⟩) 1 1) 1 [.int .u8 (x.toNat : Int)] :=
    ⟨rfl, Or.inr ⟨W.heap.size, 1, #[.int .u8 (x.toNat : Int)], rfl, Nat.le_refl _, heap_alloc_new _ _, Nat.le_refl _, by decide, rfl, rfl⟩⟩
  rcases own.2 with ⟨-, h0⟩ | ⟨g, cap, cur, e1, e2, e3, e4, e5, e6, e7⟩
  · exact absurd (List.length_eq_zero_iff.1 (hl.trans h0)) hb0
  · subst e1
    have kA : Keeps W (W.alloc (.cells #[.int .u8 (x.toNat : Int)] 5)) (fun _ => False) := (Keeps.refl _ _).alloc _
    have hg := (kA.block g (heap_lt e3) id).trans e3
    obtain ⟨g2, c2, W', hr, h2, h3, h4, _⟩ := run_append_lies (P := Tryd.prog) (W.alloc (.cells #[.int .u8 (x.toNat : Int)] 5)) 38 0 W.heap.size 5 i _ 1 1 Tryd.underlying38 q1 q2 q3 q4 rfl (by decide) _ 1 _ fresh ⟨g, 0, none⟩ n cap (cellsOf bs) (by rw [cellsOf_length, hl, Nat.mul_one])
      (fun j y hj => by
        rw [addr_add, Nat.zero_add]
        simp only [World.cell?, hg]
        rw [Nat.mul_one] at e7
        rw [← e7, List.getElem?_take] at hj
        split at hj
        · simpa using hj
        · cases hj) (fun u hu => cellsOf_one u hu) (by rw [← hl]; exact List.length_pos_iff.2 hb0) (by first | omega | (simp only [maxLen]; omega)) (by first | omega | (simp only [maxLen]; omega)) (by simp) (W.alloc (.cells #[.int .u8 (x.toNat : Int)] 5)).heap.size rfl
    rw [Nat.add_comm 1 n] at hr h2
    refine ⟨g2, c2, W', fun ty => hr, own_mono h2 hbase, kA.trans ⟨h3.os, h3.tape, h3.output, h3.size, fun k hk hn => h3.block k hk (fun e => hn e.symm)⟩ (fun q hq e => ?_)⟩
    have : W.heap.size = q := by simpa [Value.ownBlock] using e
    omega
set_option maxRecDepth 100000 in
set_option maxHeartbeats 2000000 in
theorem digits_any (n : Nat) (hn : n < 18446744073709551616) (last : UInt8) (w : World) : Calls Tryd.prog 35 #[.int .u64 (n : Int), .int .u8 (last.toNat : Int)] w fun e w' => e = .returned (.string (sB (decX n ++ [last]))) ∧ Keeps w w' (fun _ => False) := by
  have hnl := decX_len n hn
  obtain ⟨D, hD⟩ : ∃ D, decX n ++ [last] = D := ⟨_, rfl⟩
  have hDl : D.length ≤ 21 := by rw [← hD, List.length_append, List.length_singleton]; omega
  have HD := hide hD
  rw [hD]
  have hfr : (w.alloc (.cells #[.int .u8 (last.toNat : Int)] 5)).ownsRow w.heap.size 5 1 (.slice (some ⟨w.heap.size, 0, none⟩) 1 1) 1 (cellsOf [last]) :=
    ⟨rfl, Or.inr ⟨w.heap.size, 1, #[.int .u8 (last.toNat : Int)], rfl, Nat.le_refl _, heap_alloc_new _ _, Nat.le_refl _, by decide, rfl, rfl⟩⟩
  have H0 := hide (And.intro hfr hDl)
  clear hD hfr hDl hnl
  have Hn : U64 n := hn
  clear hn
  go_enter Tryd.func35, Tryd.ntmps35
  go_wp2_with fail
  go_loopw [0, 5] (fun v0 v5 wr => ∃ (m : Nat) (bs : Bs), v0 = .int .u64 (m : Int) ∧ m ≤ n ∧ Hid (wr.ownsRow w.heap.size 5 1 v5 bs.length (cellsOf bs) ∧ Keeps w wr (fun _ => False) ∧ decX m ++ bs = D ∧ bs ≠ [])) (fun v0 _ _ => (intOf v0).toNat)
  case atStart => exact ⟨n, [last], rfl, Nat.le_refl _, H0.out.1, (Keeps.refl _ _).alloc _, HD.out, by simp⟩
  case round =>
    obtain ⟨m, bs, rfl, hm, HR⟩ := hrel
    by_cases h0 : m = 0
    · subst h0
      obtain ⟨r1, r2, r3, r4⟩ := HR.out
      have r3' : bs = D := r3
      subst r3'
      rcases r1.2 with ⟨-, h00⟩ | ⟨g, cap, cur, e1, e2, e3, e4, e5, e6, e7⟩
      · exact absurd (List.length_eq_zero_iff.1 h00) r4
      · subst e1
        have hconv := run_text wr ⟨g, 0, none⟩ cap bs.length bs rfl (fun j hj => by
          rw [Nat.mul_one] at e7
          have : (cellsOf bs)[j]? = some (.int .u8 (bs[j].toNat : Int)) := by
            simp [cellsOf, cellOf, hj]
          rw [← e7, List.getElem?_take, if_pos hj, Array.getElem?_toList] at this
          rw [addr_add, Nat.zero_add]
          simp [World.cell?, e3, this])
        have HF := hide r2
        clear e2 e3 e4 e5 e6 e7 r1 r2 r3 r4 HR
        go_wp2_with fail
        go_ret
        exact ⟨rfl, HF.out⟩
    · have hpos : (0 : Int) < (m : Int) := by omega
      obtain ⟨r1, r2, r3, r4⟩ := HR.out
      obtain ⟨p2, l2, n2, hv⟩ := own_form r1
      obtain ⟨k, hk⟩ : ∃ k, bs.length = k := ⟨_, rfl⟩
      rw [hk] at r1
      obtain ⟨x, hx⟩ : ∃ x, UInt8.ofNat (48 + m % 10) = x := ⟨_, rfl⟩
      have hxv : (x.toNat : Int) = 48 + (m : Int) % 10 := by
        rw [← hx, UInt8.toNat_ofNat']
        omega
      obtain ⟨g2, c2, W', hap, own2, k2⟩ := byte_ahead r1 r4 (by have := H0.out.2; rw [← r3, List.length_append] at this; omega) x r2.size
      rw [hxv] at hap
      subst hv
      have HX : Hid (W'.ownsRow w.heap.size 5 1 (.slice (some ⟨g2, 0, none⟩) (k + 1) c2) (x :: bs).length (cellsOf (x :: bs)) ∧ Keeps w W' (fun _ => False) ∧ decX (m / 10) ++ (x :: bs) = D ∧ x :: bs ≠ []) := by
        refine ⟨by rw [List.length_cons, hk]; exact own2, r2.trans k2 (fun _ _ e => e), ?_, by simp⟩
        rw [← r3, decX_step h0, hx]
        simp
      have hwd := u64_div hm Hn
      have Hmm : Hid (m / 10 ≤ n ∧ m / 10 < m) := by constructor <;> omega
      clear own2 k2 hk r1 r2 r3 r4 HR hx hxv
      go_wp2_with (at_builtin; have _t := hap; refine app_run _ rfl (.tmp 14) (.tmp 15) 38 rfl rfl rfl hap ?_; clear hap)
      go_roundw
      case rel => exact ⟨m / 10, x :: bs, by simp, Hmm.out.1, HX⟩
      case measure => simp [intOf]; exact Hmm.out.2
end Cw
end Go.Proofs.YtnicbillhlhmmaaDoor
