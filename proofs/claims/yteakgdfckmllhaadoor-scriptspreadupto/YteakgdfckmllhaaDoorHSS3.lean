/-
  script: the law's spread, its walk.
-/
import Derived.Test.YteakgdfckmllhaaDoorHSS2
import Derived.Test.YteakgdfckmllhaaDoorUn13
import Derived.Lib.AppendStr
namespace Go.Proofs.YteakgdfckmllhaaDoor
open Go.RowKit
set_option linter.unusedVariables false

theorem app_run2 {P : Program} (w : World) {ops : Array Oper} {rest : List Oper} {o : Oper} {a : Act} {Q : Exit → Act → World → Prop}
    (hgd : o.guard = none) (s x : Operand) (t u : TypeId) (hop : o.op = Op.call { callee := Callee.builtin Builtin.append, args := #[s, x], argTypes := #[t, u] }) {v y v' : Value} {w' : World} (hs : a.eval s = v) (hx : a.eval x = y)
    (hrun : ∀ ty, (Builtin.append_ #[t, u] ty #[v, y]).run P w = .ok v' w') (hK : wpList P ops Q rest (a.put o.dst v') w') : wpList P ops Q (o :: rest) a w := by
  refine wpList_plain hgd fun K hK' => ?_
  unfold Oper.wp
  simp [execOp, hop, resolve, invoke, builtin, hs, hx, hrun, Result.andThen]
  exact hK' _ _ hK
/-- A list of bytes of one's own. -/
def BO (lo : Nat) (W : World) (v : Value) (l : List UInt8) : Prop := W.ownsRow lo 5 1 v l.length (cellsOf l)
theorem Tryd.infoB : (Tryd.prog.info? 5).map (fun i => (i.zero, i.size, i.bytes)) = some (some (.int .u8 0), 1, 1) := by kernel_rfl
theorem BO.byte {lo : Nat} {w : World} {r : Value} {l : List UInt8} (h : BO lo w r l) (x : UInt8) (hn : l.length ≤ 100000000000) (hlo : lo ≤ w.heap.size) :
    ∃ g m c w', (∀ ty, (Builtin.append_ #[54, 54] ty #[r, .slice (some ⟨w.heap.size, 0, none⟩) 1 1]).run Tryd.prog (w.alloc (.cells #[.int .u8 (x.toNat : Int)] 5)) = .ok (.slice (some ⟨g, 0, none⟩) m c) w') ∧ BO lo w' (.slice (some ⟨g, 0, none⟩) m c) (l ++ [x]) ∧ Keeps w w' (fun k => r.ownBlock = some k) := by
  obtain ⟨g, c, w', h1, h2, h3, -⟩ := append_one (P := Tryd.prog) 54 5 (.int .u8 0) 1 Tryd.underlying54 Tryd.infoB rfl (World.ownsRow.alloc h (.cells #[.int .u8 (x.toNat : Int)] 5)) (heap_alloc_new w (.cells #[.int .u8 (x.toNat : Int)] 5)) rfl (by omega) (by simp only [maxLen]; omega) (by rw [World.size_alloc]; omega)
  refine ⟨g, _, c, w', h1, ?_, (((Keeps.refl w (fun k => r.ownBlock = some k)).alloc _)).trans h3 (fun _ _ e => e)⟩
  unfold BO cellsOf
  rw [List.length_append, List.map_append]
  exact h2
theorem strCells_eq (s : ByteArray) : Lib.strCells s = cellsOf s.data.toList := by
  rfl
theorem BO.str {lo : Nat} {w : World} {r : Value} {l : List UInt8} (h : BO lo w r l) (s : ByteArray) (hs : 0 < s.size) (hn : l.length + s.size ≤ 100000000000) (hlo : lo ≤ w.heap.size) :
    ∃ g m c w', (∀ ty, (Builtin.append_ #[54, 9] ty #[r, .string s]).run Tryd.prog w = .ok (.slice (some ⟨g, 0, none⟩) m c) w') ∧ BO lo w' (.slice (some ⟨g, 0, none⟩) m c) (l ++ s.data.toList) ∧ Keeps w w' (fun k => r.ownBlock = some k) := by
  obtain ⟨i, q1, q2, q3, q4⟩ := info_parts Tryd.infoB
  obtain ⟨v', w', hr, ho, hg, -⟩ := Lib.run_append_own_string (P := Tryd.prog) (w := w) lo 54 9 0 5 i Tryd.underlying54 Tryd.underlying9 q1 q2 q3 q4 r l.length (cellsOf l) h s (by simp only [maxLen]; omega) (by omega) hlo
  have ho0 := ho
  rcases ho.2 with ⟨e1, e0⟩ | ⟨g, cap, cur, e1, -⟩
  · omega
  · subst e1
    refine ⟨g, _, cap, w', fun ty => hr, ?_, Keeps.ofGrown hg⟩
    unfold BO
    have e : (l ++ s.data.toList).length = l.length + s.size := by rw [List.length_append]; rfl
    rw [e]
    rw [strCells_eq] at ho0
    have e2 : cellsOf (l ++ s.data.toList) = cellsOf l ++ cellsOf s.data.toList := by unfold cellsOf; rw [List.map_append]
    rw [e2]
    exact ho0
theorem BO.keeps {lo : Nat} {w w' : World} {r : Value} {l : List UInt8} (h : BO lo w r l) (k : Keeps w w' (fun _ => False)) : BO lo w' r l := ownsRow_keeps h k (fun _ _ e => e)
theorem BO.out {lo : Nat} {w w1 w2 : World} {r : Value} {l : List UInt8} (h : BO lo w1 r l) (k0 : Keeps w w1 (fun _ => False)) (hlo : w.heap.size ≤ lo) (k : Keeps w1 w2 (fun k => r.ownBlock = some k)) : Keeps w w2 (fun _ => False) := k0.trans k (fun q hq e => by
  have := (ownsRow_block h e).1
  omega)
theorem p32o {k : Int} (h1 : ¬ k = 1) (h2 : ¬ k = 2) : pieceD k 32 = [32] := by
  unfold pieceD
  rw [if_neg (fun q => absurd q.2 (by decide)), if_neg h1, if_neg h2, if_neg (fun q => absurd q.2 (by decide)), if_neg (fun q => absurd q.2 (by decide))]
  rfl
theorem p10o {k : Int} (h1 : ¬ k = 1) (h2 : ¬ k = 2) (h3 : ¬ k = 3) (h4 : ¬ k = 4) (h5 : ¬ k = 5) : pieceD k 10 = [10] := by
  unfold pieceD
  rw [if_neg (fun q => h5 q.1), if_neg h1, if_neg h2, if_neg (fun q => h3 q.1), if_neg (fun q => h4 q.1)]
  rfl
theorem rem_nat (n m : Nat) : ((n : Int)).tmod (m : Int) = ((n % m : Nat) : Int) ∧ (n : Int) % (m : Int) = ((n % m : Nat) : Int) := by
  constructor
  · rw [Int.tmod_eq_emod_of_nonneg (by omega)]
    omega
  · omega
set_option maxRecDepth 100000 in
set_option maxHeartbeats 16000000 in
theorem spread_any (s : ByteArray) (v : Value) (hl : List Int) (w : World) (hs : s.size ≤ 500000000) (hv : IntsIn w v hl) (hll : hl.length ≤ 8388608) : Calls Tryd.prog 16 #[.string s, v] w fun e w' => e = .returned (.string (strOf (spF hl s.data.toList).1)) ∧ Keeps w w' (fun _ => False) := by
  obtain ⟨sv, cv, rfl⟩ := hv.len
  have HV := hide hv
  obtain ⟨R, hR⟩ : ∃ R, strOf (spF hl s.data.toList).1 = R := ⟨_, rfl⟩
  rw [hR]
  have HR := hide hR
  clear hR hv
  go_enter Tryd.func16, Tryd.ntmps16
  go_wp2_with fail
  go_loopw [5, 6, 7] (fun v5 v6 v7 wr => ∃ (i : Nat), v7 = .int .i64 (i : Int) ∧ i ≤ s.size ∧ v6 = .int .i64 ((spF hl (s.data.toList.take i)).2 : Int) ∧ (∃ so m c, v5 = .slice so m c) ∧ BO w.heap.size wr v5 (spF hl (s.data.toList.take i)).1 ∧ Keeps w wr (fun _ => False)) (fun _ _ v7 _ => s.size - (intOf v7).toNat)
  case atStart => exact ⟨0, rfl, Nat.zero_le _, rfl, ⟨none, 0, 0, rfl⟩, ⟨rfl, Or.inl ⟨rfl, rfl⟩⟩, Keeps.refl _ _⟩
  case round =>
    obtain ⟨i, rfl, hi, rfl, ⟨so5, m5, c5, rfl⟩, hB, K⟩ := hrel
    by_cases hlt : i < s.size
    · have hlt' : (i : Int) < (s.size : Int) := by omega
      have hi0 : (0 : Int) ≤ (i : Int) := by omega
      obtain ⟨x, hx⟩ : ∃ x, s[i] = x := ⟨_, rfl⟩
      have hxl : s.data.toList[i]'hlt = x := hx
      have hst := spF_take (hl := hl) (l := s.data.toList) (i := i) hlt
      rw [hxl] at hst
      obtain ⟨q1, q2⟩ := sp_len hl s.data.toList i hi
      have Hms : Hid (s.size - (i + 1) < s.size - i) := by show s.size - (i + 1) < s.size - i; omega
      have Hil : Hid (i + 1 ≤ s.size) := hlt
      generalize hSP : spF hl (s.data.toList.take i) = SP at *
      obtain ⟨l, n⟩ := SP
      dsimp only at hB q1 q2 ⊢
      have HST : Hid (∀ p n2, pieceD (kD hl n x) x = p → nD hl n x = n2 → spF hl (s.data.toList.take (i + 1)) = (l ++ p, n2)) := fun p n2 e1 e2 => by
        rw [hst, spS]
        dsimp only
        rw [e1, e2]
      have Hwr := hide (wr64s (n := i) (by omega))
      have Hwn := hide (wr64s (n := n) (by omega))
      have hnl : l.length ≤ 90000000000 := by omega
      have HB := hide hB
      have HK := hide K
      clear hst hSP hxl q1 hB K hi
      by_cases h0 : hl = []
      · subst h0
        have hk0 : kD [] n x = 0 := by unfold kD; rw [if_neg (fun q => q.1 rfl)]
        have hn0 : nD [] n x = n := by unfold nD; rw [if_neg (fun q => q.1 rfl)]
        rw [List.length_nil] at *
        obtain ⟨g1, m1, c1, W1, hap1, hB1, kk1⟩ := BO.byte HB.out x (by (try simp only [List.length_append, List.length_cons, List.length_nil]); omega) (Keeps.size HK.out)
        have KK1 := BO.out HB.out HK.out (Nat.le_refl _) kk1
        have HF : Hid (spF [] (s.data.toList.take (i + 1)) = (l ++ [x], n)) := HST.out _ _ (by rw [hk0]; rfl) (hn0)
        have HB2 : Hid (BO w.heap.size W1 (.slice (some ⟨g1, 0, none⟩) m1 c1) (l ++ [x])) := by
          have q := hB1
          (try simp only [List.append_assoc, List.cons_append, List.nil_append] at q)
          exact q
        have HK2 := hide KK1
        clear hB1 kk1 KK1 HST HB HK
        obtain ⟨a6, a7⟩ := Hwr.out
        obtain ⟨a8, a9⟩ := Hwn.out
        go_wp2_with (first | (at_builtin; have _t := hap1; refine app_run _ rfl (.tmp 49) (.tmp 53) 54 rfl rfl rfl hap1 ?_; clear hap1))
        go_roundw
        case rel => exact ⟨i + 1, by go_num, Hil.out, by first | (rw [HF.out]; done) | (rw [HF.out]; go_num), ⟨_, _, _, rfl⟩, by rw [HF.out]; exact HB2.out, HK2.out⟩
        case measure => simp [intOf]; exact Hms.out
      · have hpos : 0 < hl.length := List.length_pos_iff.2 h0
        have hpos' : (0 : Int) < (hl.length : Int) := by omega
        have hne0 : ((hl.length : Int) == 0) = false := by rw [beq_eq_false_iff_ne]; omega
        have hne1 : ¬ (hl.length : Int) = 0 := by omega
        obtain ⟨idx, hidx⟩ : ∃ idx, n % hl.length = idx := ⟨_, rfl⟩
        have hil : idx < hl.length := by rw [← hidx]; exact Nat.mod_lt _ hpos
        obtain ⟨t1, t2⟩ := rem_nat n hl.length
        rw [hidx] at t1 t2
        have hil' : (idx : Int) < (hl.length : Int) := by omega
        have hid0 : (0 : Int) ≤ (idx : Int) := by omega
        obtain ⟨b, o, rfl, hcell⟩ := (HV.out.keeps HK.out).at hil
        obtain ⟨kv, hkv⟩ : ∃ kv, hl[idx] = kv := ⟨_, rfl⟩
        rw [hkv] at hcell
        have hgd : hl.getD (n % hl.length) 0 = kv := by rw [hidx, List.getD_eq_getElem?_getD, List.getElem?_eq_getElem hil, Option.getD_some, hkv]
        clear hkv hidx
        by_cases h10 : x = 10
        · subst h10
          have hk0 : kD hl n 10 = kv := by unfold kD; rw [if_pos ⟨h0, Or.inr rfl⟩, hgd]
          have hn0 : nD hl n 10 = n + 1 := by unfold nD; rw [if_pos ⟨h0, Or.inr rfl⟩]
          clear hgd
          by_cases k1 : kv = 1
          · subst k1
            obtain ⟨g1, m1, c1, W1, hap1, hB1, kk1⟩ := BO.byte HB.out (10 : UInt8) (by (try simp only [List.length_append, List.length_cons, List.length_nil]); omega) (Keeps.size HK.out)
            have KK1 := BO.out HB.out HK.out (Nat.le_refl _) kk1
            obtain ⟨g2, m2, c2, W2, hap2, hB2, kk2⟩ := BO.byte hB1 (9 : UInt8) (by (try simp only [List.length_append, List.length_cons, List.length_nil]); omega) (Keeps.size KK1)
            have KK2 := BO.out hB1 KK1 (Nat.le_refl _) kk2
            have HF : Hid (spF hl (s.data.toList.take (i + 1)) = (l ++ [10, 9], n + 1)) := HST.out _ _ (by rw [hk0]; rfl) (hn0)
            have HB2 : Hid (BO w.heap.size W2 (.slice (some ⟨g2, 0, none⟩) m2 c2) (l ++ [10, 9])) := by
              have q := hB2
              (try simp only [List.append_assoc, List.cons_append, List.nil_append] at q)
              exact q
            have HK2 := hide KK2
            clear hB1 kk1 KK1 hB2 kk2 KK2 HST HB HK
            obtain ⟨a6, a7⟩ := Hwr.out
            obtain ⟨a8, a9⟩ := Hwn.out
            go_wp2_with (first | (at_builtin; have _t := hap1; refine app_run _ rfl (.tmp 49) (.tmp 53) 54 rfl rfl rfl hap1 ?_; clear hap1) | (at_builtin; have _t := hap2; refine app_run _ rfl (.tmp 58) (.tmp 59) 54 rfl rfl rfl hap2 ?_; clear hap2))
            go_roundw
            case rel => exact ⟨i + 1, by go_num, Hil.out, by first | (rw [HF.out]; done) | (rw [HF.out]; go_num), ⟨_, _, _, rfl⟩, by rw [HF.out]; exact HB2.out, HK2.out⟩
            case measure => simp [intOf]; exact Hms.out
          by_cases k2 : kv = 2
          · subst k2
            obtain ⟨g1, m1, c1, W1, hap1, hB1, kk1⟩ := BO.byte HB.out (10 : UInt8) (by (try simp only [List.length_append, List.length_cons, List.length_nil]); omega) (Keeps.size HK.out)
            have KK1 := BO.out HB.out HK.out (Nat.le_refl _) kk1
            obtain ⟨g2, m2, c2, W2, hap2, hB2, kk2⟩ := BO.str hB1 ⟨#[32, 32]⟩ (by decide) (by (try simp only [List.length_append, List.length_cons, List.length_nil]); show _ + 2 ≤ _; omega) (Keeps.size KK1)
            have KK2 := BO.out hB1 KK1 (Nat.le_refl _) kk2
            have HF : Hid (spF hl (s.data.toList.take (i + 1)) = (l ++ [10, 32, 32], n + 1)) := HST.out _ _ (by rw [hk0]; rfl) (hn0)
            have HB2 : Hid (BO w.heap.size W2 (.slice (some ⟨g2, 0, none⟩) m2 c2) (l ++ [10, 32, 32])) := by
              have q := hB2
              (try simp only [List.append_assoc, List.cons_append, List.nil_append] at q)
              exact q
            have HK2 := hide KK2
            clear hB1 kk1 KK1 hB2 kk2 KK2 HST HB HK
            obtain ⟨a6, a7⟩ := Hwr.out
            obtain ⟨a8, a9⟩ := Hwn.out
            go_wp2_with (first | (at_builtin; have _t := hap1; refine app_run _ rfl (.tmp 49) (.tmp 53) 54 rfl rfl rfl hap1 ?_; clear hap1) | (at_builtin; have _t := hap2; refine app_run2 _ rfl (.tmp 64) (.const (.string ⟨#[32, 32]⟩)) 54 9 rfl rfl rfl hap2 ?_; clear hap2))
            go_roundw
            case rel => exact ⟨i + 1, by go_num, Hil.out, by first | (rw [HF.out]; done) | (rw [HF.out]; go_num), ⟨_, _, _, rfl⟩, by rw [HF.out]; exact HB2.out, HK2.out⟩
            case measure => simp [intOf]; exact Hms.out
          by_cases k3 : kv = 3
          · subst k3
            obtain ⟨g1, m1, c1, W1, hap1, hB1, kk1⟩ := BO.byte HB.out (10 : UInt8) (by (try simp only [List.length_append, List.length_cons, List.length_nil]); omega) (Keeps.size HK.out)
            have KK1 := BO.out HB.out HK.out (Nat.le_refl _) kk1
            obtain ⟨g2, m2, c2, W2, hap2, hB2, kk2⟩ := BO.byte hB1 (10 : UInt8) (by (try simp only [List.length_append, List.length_cons, List.length_nil]); omega) (Keeps.size KK1)
            have KK2 := BO.out hB1 KK1 (Nat.le_refl _) kk2
            have HF : Hid (spF hl (s.data.toList.take (i + 1)) = (l ++ [10, 10], n + 1)) := HST.out _ _ (by rw [hk0]; rfl) (hn0)
            have HB2 : Hid (BO w.heap.size W2 (.slice (some ⟨g2, 0, none⟩) m2 c2) (l ++ [10, 10])) := by
              have q := hB2
              (try simp only [List.append_assoc, List.cons_append, List.nil_append] at q)
              exact q
            have HK2 := hide KK2
            clear hB1 kk1 KK1 hB2 kk2 KK2 HST HB HK
            obtain ⟨a6, a7⟩ := Hwr.out
            obtain ⟨a8, a9⟩ := Hwn.out
            go_wp2_with (first | (at_builtin; have _t := hap1; refine app_run _ rfl (.tmp 49) (.tmp 53) 54 rfl rfl rfl hap1 ?_; clear hap1) | (at_builtin; have _t := hap2; refine app_run _ rfl (.tmp 75) (.tmp 76) 54 rfl rfl rfl hap2 ?_; clear hap2))
            go_roundw
            case rel => exact ⟨i + 1, by go_num, Hil.out, by first | (rw [HF.out]; done) | (rw [HF.out]; go_num), ⟨_, _, _, rfl⟩, by rw [HF.out]; exact HB2.out, HK2.out⟩
            case measure => simp [intOf]; exact Hms.out
          by_cases k4 : kv = 4
          · subst k4
            obtain ⟨g1, m1, c1, W1, hap1, hB1, kk1⟩ := BO.byte HB.out (10 : UInt8) (by (try simp only [List.length_append, List.length_cons, List.length_nil]); omega) (Keeps.size HK.out)
            have KK1 := BO.out HB.out HK.out (Nat.le_refl _) kk1
            obtain ⟨g2, m2, c2, W2, hap2, hB2, kk2⟩ := BO.str hB1 ⟨#[9, 32, 35, 32, 108, 101, 110, 32, 49, 10]⟩ (by decide) (by (try simp only [List.length_append, List.length_cons, List.length_nil]); show _ + 10 ≤ _; omega) (Keeps.size KK1)
            have KK2 := BO.out hB1 KK1 (Nat.le_refl _) kk2
            have HF : Hid (spF hl (s.data.toList.take (i + 1)) = (l ++ [10, 9, 32, 35, 32, 108, 101, 110, 32, 49, 10], n + 1)) := HST.out _ _ (by rw [hk0]; rfl) (hn0)
            have HB2 : Hid (BO w.heap.size W2 (.slice (some ⟨g2, 0, none⟩) m2 c2) (l ++ [10, 9, 32, 35, 32, 108, 101, 110, 32, 49, 10])) := by
              have q := hB2
              (try simp only [List.append_assoc, List.cons_append, List.nil_append] at q)
              exact q
            have HK2 := hide KK2
            clear hB1 kk1 KK1 hB2 kk2 KK2 HST HB HK
            obtain ⟨a6, a7⟩ := Hwr.out
            obtain ⟨a8, a9⟩ := Hwn.out
            go_wp2_with (first | (at_builtin; have _t := hap1; refine app_run _ rfl (.tmp 49) (.tmp 53) 54 rfl rfl rfl hap1 ?_; clear hap1) | (at_builtin; have _t := hap2; refine app_run2 _ rfl (.tmp 87) (.const (.string ⟨#[9, 32, 35, 32, 108, 101, 110, 32, 49, 10]⟩)) 54 9 rfl rfl rfl hap2 ?_; clear hap2))
            go_roundw
            case rel => exact ⟨i + 1, by go_num, Hil.out, by first | (rw [HF.out]; done) | (rw [HF.out]; go_num), ⟨_, _, _, rfl⟩, by rw [HF.out]; exact HB2.out, HK2.out⟩
            case measure => simp [intOf]; exact Hms.out
          by_cases k5 : kv = 5
          · subst k5
            obtain ⟨g1, m1, c1, W1, hap1, hB1, kk1⟩ := BO.str HB.out ⟨#[32, 35, 108, 105, 109, 105, 116, 32, 55, 32, 255]⟩ (by decide) (by (try simp only [List.length_append, List.length_cons, List.length_nil]); show _ + 11 ≤ _; omega) (Keeps.size HK.out)
            have KK1 := BO.out HB.out HK.out (Nat.le_refl _) kk1
            obtain ⟨g2, m2, c2, W2, hap2, hB2, kk2⟩ := BO.byte hB1 (10 : UInt8) (by (try simp only [List.length_append, List.length_cons, List.length_nil]); omega) (Keeps.size KK1)
            have KK2 := BO.out hB1 KK1 (Nat.le_refl _) kk2
            have HF : Hid (spF hl (s.data.toList.take (i + 1)) = (l ++ [32, 35, 108, 105, 109, 105, 116, 32, 55, 32, 255, 10], n + 1)) := HST.out _ _ (by rw [hk0]; rfl) (hn0)
            have HB2 : Hid (BO w.heap.size W2 (.slice (some ⟨g2, 0, none⟩) m2 c2) (l ++ [32, 35, 108, 105, 109, 105, 116, 32, 55, 32, 255, 10])) := by
              have q := hB2
              (try simp only [List.append_assoc, List.cons_append, List.nil_append] at q)
              exact q
            have HK2 := hide KK2
            clear hB1 kk1 KK1 hB2 kk2 KK2 HST HB HK
            obtain ⟨a6, a7⟩ := Hwr.out
            obtain ⟨a8, a9⟩ := Hwn.out
            go_wp2_with (first | (at_builtin; have _t := hap1; refine app_run2 _ rfl (.tmp 47) (.const (.string ⟨#[32, 35, 108, 105, 109, 105, 116, 32, 55, 32, 255]⟩)) 54 9 rfl rfl rfl hap1 ?_; clear hap1) | (at_builtin; have _t := hap2; refine app_run _ rfl (.tmp 49) (.tmp 53) 54 rfl rfl rfl hap2 ?_; clear hap2))
            go_roundw
            case rel => exact ⟨i + 1, by go_num, Hil.out, by first | (rw [HF.out]; done) | (rw [HF.out]; go_num), ⟨_, _, _, rfl⟩, by rw [HF.out]; exact HB2.out, HK2.out⟩
            case measure => simp [intOf]; exact Hms.out
          have y1 : (kv == 1) = false := beq_eq_false_iff_ne.2 k1
          have y2 : (kv == 2) = false := beq_eq_false_iff_ne.2 k2
          have y3 : (kv == 3) = false := beq_eq_false_iff_ne.2 k3
          have y4 : (kv == 4) = false := beq_eq_false_iff_ne.2 k4
          have y5 : (kv == 5) = false := beq_eq_false_iff_ne.2 k5
          obtain ⟨g1, m1, c1, W1, hap1, hB1, kk1⟩ := BO.byte HB.out (10 : UInt8) (by (try simp only [List.length_append, List.length_cons, List.length_nil]); omega) (Keeps.size HK.out)
          have KK1 := BO.out HB.out HK.out (Nat.le_refl _) kk1
          have HF : Hid (spF hl (s.data.toList.take (i + 1)) = (l ++ [10], n + 1)) := HST.out _ _ (by rw [hk0]; exact p10o k1 k2 k3 k4 k5) (hn0)
          have HB2 : Hid (BO w.heap.size W1 (.slice (some ⟨g1, 0, none⟩) m1 c1) (l ++ [10])) := by
            have q := hB1
            (try simp only [List.append_assoc, List.cons_append, List.nil_append] at q)
            exact q
          have HK2 := hide KK1
          clear hB1 kk1 KK1 HST HB HK
          clear k1 k2 k3 k4 k5
          obtain ⟨a6, a7⟩ := Hwr.out
          obtain ⟨a8, a9⟩ := Hwn.out
          go_wp2_with (first | (at_builtin; have _t := hap1; refine app_run _ rfl (.tmp 49) (.tmp 53) 54 rfl rfl rfl hap1 ?_; clear hap1))
          go_roundw
          case rel => exact ⟨i + 1, by go_num, Hil.out, by first | (rw [HF.out]; done) | (rw [HF.out]; go_num), ⟨_, _, _, rfl⟩, by rw [HF.out]; exact HB2.out, HK2.out⟩
          case measure => simp [intOf]; exact Hms.out
        · by_cases h32 : x = 32
          · subst h32
            have hk0 : kD hl n 32 = kv := by unfold kD; rw [if_pos ⟨h0, Or.inl rfl⟩, hgd]
            have hn0 : nD hl n 32 = n + 1 := by unfold nD; rw [if_pos ⟨h0, Or.inl rfl⟩]
            clear hgd h10
            by_cases k1 : kv = 1
            · subst k1
              obtain ⟨g1, m1, c1, W1, hap1, hB1, kk1⟩ := BO.byte HB.out (32 : UInt8) (by (try simp only [List.length_append, List.length_cons, List.length_nil]); omega) (Keeps.size HK.out)
              have KK1 := BO.out HB.out HK.out (Nat.le_refl _) kk1
              obtain ⟨g2, m2, c2, W2, hap2, hB2, kk2⟩ := BO.byte hB1 (9 : UInt8) (by (try simp only [List.length_append, List.length_cons, List.length_nil]); omega) (Keeps.size KK1)
              have KK2 := BO.out hB1 KK1 (Nat.le_refl _) kk2
              have HF : Hid (spF hl (s.data.toList.take (i + 1)) = (l ++ [32, 9], n + 1)) := HST.out _ _ (by rw [hk0]; rfl) (hn0)
              have HB2 : Hid (BO w.heap.size W2 (.slice (some ⟨g2, 0, none⟩) m2 c2) (l ++ [32, 9])) := by
                have q := hB2
                (try simp only [List.append_assoc, List.cons_append, List.nil_append] at q)
                exact q
              have HK2 := hide KK2
              clear hB1 kk1 KK1 hB2 kk2 KK2 HST HB HK
              obtain ⟨a6, a7⟩ := Hwr.out
              obtain ⟨a8, a9⟩ := Hwn.out
              go_wp2_with (first | (at_builtin; have _t := hap1; refine app_run _ rfl (.tmp 49) (.tmp 53) 54 rfl rfl rfl hap1 ?_; clear hap1) | (at_builtin; have _t := hap2; refine app_run _ rfl (.tmp 58) (.tmp 59) 54 rfl rfl rfl hap2 ?_; clear hap2))
              go_roundw
              case rel => exact ⟨i + 1, by go_num, Hil.out, by first | (rw [HF.out]; done) | (rw [HF.out]; go_num), ⟨_, _, _, rfl⟩, by rw [HF.out]; exact HB2.out, HK2.out⟩
              case measure => simp [intOf]; exact Hms.out
            by_cases k2 : kv = 2
            · subst k2
              obtain ⟨g1, m1, c1, W1, hap1, hB1, kk1⟩ := BO.byte HB.out (32 : UInt8) (by (try simp only [List.length_append, List.length_cons, List.length_nil]); omega) (Keeps.size HK.out)
              have KK1 := BO.out HB.out HK.out (Nat.le_refl _) kk1
              obtain ⟨g2, m2, c2, W2, hap2, hB2, kk2⟩ := BO.str hB1 ⟨#[32, 32]⟩ (by decide) (by (try simp only [List.length_append, List.length_cons, List.length_nil]); show _ + 2 ≤ _; omega) (Keeps.size KK1)
              have KK2 := BO.out hB1 KK1 (Nat.le_refl _) kk2
              have HF : Hid (spF hl (s.data.toList.take (i + 1)) = (l ++ [32, 32, 32], n + 1)) := HST.out _ _ (by rw [hk0]; rfl) (hn0)
              have HB2 : Hid (BO w.heap.size W2 (.slice (some ⟨g2, 0, none⟩) m2 c2) (l ++ [32, 32, 32])) := by
                have q := hB2
                (try simp only [List.append_assoc, List.cons_append, List.nil_append] at q)
                exact q
              have HK2 := hide KK2
              clear hB1 kk1 KK1 hB2 kk2 KK2 HST HB HK
              obtain ⟨a6, a7⟩ := Hwr.out
              obtain ⟨a8, a9⟩ := Hwn.out
              go_wp2_with (first | (at_builtin; have _t := hap1; refine app_run _ rfl (.tmp 49) (.tmp 53) 54 rfl rfl rfl hap1 ?_; clear hap1) | (at_builtin; have _t := hap2; refine app_run2 _ rfl (.tmp 64) (.const (.string ⟨#[32, 32]⟩)) 54 9 rfl rfl rfl hap2 ?_; clear hap2))
              go_roundw
              case rel => exact ⟨i + 1, by go_num, Hil.out, by first | (rw [HF.out]; done) | (rw [HF.out]; go_num), ⟨_, _, _, rfl⟩, by rw [HF.out]; exact HB2.out, HK2.out⟩
              case measure => simp [intOf]; exact Hms.out
            by_cases k3 : kv = 3
            · subst k3
              obtain ⟨g1, m1, c1, W1, hap1, hB1, kk1⟩ := BO.byte HB.out (32 : UInt8) (by (try simp only [List.length_append, List.length_cons, List.length_nil]); omega) (Keeps.size HK.out)
              have KK1 := BO.out HB.out HK.out (Nat.le_refl _) kk1
              have HF : Hid (spF hl (s.data.toList.take (i + 1)) = (l ++ [32], n + 1)) := HST.out _ _ (by rw [hk0]; rfl) (hn0)
              have HB2 : Hid (BO w.heap.size W1 (.slice (some ⟨g1, 0, none⟩) m1 c1) (l ++ [32])) := by
                have q := hB1
                (try simp only [List.append_assoc, List.cons_append, List.nil_append] at q)
                exact q
              have HK2 := hide KK1
              clear hB1 kk1 KK1 HST HB HK
              obtain ⟨a6, a7⟩ := Hwr.out
              obtain ⟨a8, a9⟩ := Hwn.out
              go_wp2_with (first | (at_builtin; have _t := hap1; refine app_run _ rfl (.tmp 49) (.tmp 53) 54 rfl rfl rfl hap1 ?_; clear hap1))
              go_roundw
              case rel => exact ⟨i + 1, by go_num, Hil.out, by first | (rw [HF.out]; done) | (rw [HF.out]; go_num), ⟨_, _, _, rfl⟩, by rw [HF.out]; exact HB2.out, HK2.out⟩
              case measure => simp [intOf]; exact Hms.out
            by_cases k4 : kv = 4
            · subst k4
              obtain ⟨g1, m1, c1, W1, hap1, hB1, kk1⟩ := BO.byte HB.out (32 : UInt8) (by (try simp only [List.length_append, List.length_cons, List.length_nil]); omega) (Keeps.size HK.out)
              have KK1 := BO.out HB.out HK.out (Nat.le_refl _) kk1
              have HF : Hid (spF hl (s.data.toList.take (i + 1)) = (l ++ [32], n + 1)) := HST.out _ _ (by rw [hk0]; rfl) (hn0)
              have HB2 : Hid (BO w.heap.size W1 (.slice (some ⟨g1, 0, none⟩) m1 c1) (l ++ [32])) := by
                have q := hB1
                (try simp only [List.append_assoc, List.cons_append, List.nil_append] at q)
                exact q
              have HK2 := hide KK1
              clear hB1 kk1 KK1 HST HB HK
              obtain ⟨a6, a7⟩ := Hwr.out
              obtain ⟨a8, a9⟩ := Hwn.out
              go_wp2_with (first | (at_builtin; have _t := hap1; refine app_run _ rfl (.tmp 49) (.tmp 53) 54 rfl rfl rfl hap1 ?_; clear hap1))
              go_roundw
              case rel => exact ⟨i + 1, by go_num, Hil.out, by first | (rw [HF.out]; done) | (rw [HF.out]; go_num), ⟨_, _, _, rfl⟩, by rw [HF.out]; exact HB2.out, HK2.out⟩
              case measure => simp [intOf]; exact Hms.out
            by_cases k5 : kv = 5
            · subst k5
              obtain ⟨g1, m1, c1, W1, hap1, hB1, kk1⟩ := BO.byte HB.out (32 : UInt8) (by (try simp only [List.length_append, List.length_cons, List.length_nil]); omega) (Keeps.size HK.out)
              have KK1 := BO.out HB.out HK.out (Nat.le_refl _) kk1
              have HF : Hid (spF hl (s.data.toList.take (i + 1)) = (l ++ [32], n + 1)) := HST.out _ _ (by rw [hk0]; rfl) (hn0)
              have HB2 : Hid (BO w.heap.size W1 (.slice (some ⟨g1, 0, none⟩) m1 c1) (l ++ [32])) := by
                have q := hB1
                (try simp only [List.append_assoc, List.cons_append, List.nil_append] at q)
                exact q
              have HK2 := hide KK1
              clear hB1 kk1 KK1 HST HB HK
              obtain ⟨a6, a7⟩ := Hwr.out
              obtain ⟨a8, a9⟩ := Hwn.out
              go_wp2_with (first | (at_builtin; have _t := hap1; refine app_run _ rfl (.tmp 49) (.tmp 53) 54 rfl rfl rfl hap1 ?_; clear hap1))
              go_roundw
              case rel => exact ⟨i + 1, by go_num, Hil.out, by first | (rw [HF.out]; done) | (rw [HF.out]; go_num), ⟨_, _, _, rfl⟩, by rw [HF.out]; exact HB2.out, HK2.out⟩
              case measure => simp [intOf]; exact Hms.out
            have y1 : (kv == 1) = false := beq_eq_false_iff_ne.2 k1
            have y2 : (kv == 2) = false := beq_eq_false_iff_ne.2 k2
            have y3 : (kv == 3) = false := beq_eq_false_iff_ne.2 k3
            have y4 : (kv == 4) = false := beq_eq_false_iff_ne.2 k4
            have y5 : (kv == 5) = false := beq_eq_false_iff_ne.2 k5
            obtain ⟨g1, m1, c1, W1, hap1, hB1, kk1⟩ := BO.byte HB.out (32 : UInt8) (by (try simp only [List.length_append, List.length_cons, List.length_nil]); omega) (Keeps.size HK.out)
            have KK1 := BO.out HB.out HK.out (Nat.le_refl _) kk1
            have HF : Hid (spF hl (s.data.toList.take (i + 1)) = (l ++ [32], n + 1)) := HST.out _ _ (by rw [hk0]; exact p32o k1 k2) (hn0)
            have HB2 : Hid (BO w.heap.size W1 (.slice (some ⟨g1, 0, none⟩) m1 c1) (l ++ [32])) := by
              have q := hB1
              (try simp only [List.append_assoc, List.cons_append, List.nil_append] at q)
              exact q
            have HK2 := hide KK1
            clear hB1 kk1 KK1 HST HB HK
            clear k1 k2 k3 k4 k5
            obtain ⟨a6, a7⟩ := Hwr.out
            obtain ⟨a8, a9⟩ := Hwn.out
            go_wp2_with (first | (at_builtin; have _t := hap1; refine app_run _ rfl (.tmp 49) (.tmp 53) 54 rfl rfl rfl hap1 ?_; clear hap1))
            go_roundw
            case rel => exact ⟨i + 1, by go_num, Hil.out, by first | (rw [HF.out]; done) | (rw [HF.out]; go_num), ⟨_, _, _, rfl⟩, by rw [HF.out]; exact HB2.out, HK2.out⟩
            case measure => simp [intOf]; exact Hms.out
          · have hk0 : kD hl n x = 0 := by unfold kD; rw [if_neg (fun q => q.2.elim h32 h10)]
            have hn0 : nD hl n x = n := by unfold nD; rw [if_neg (fun q => q.2.elim h32 h10)]
            have z10 : ((x.toNat : Int) == 10) = false := by
              rw [beq_eq_false_iff_ne]
              intro e
              exact h10 (UInt8.toNat_inj.1 (show x.toNat = 10 by omega))
            have z32 : ((x.toNat : Int) == 32) = false := by
              rw [beq_eq_false_iff_ne]
              intro e
              exact h32 (UInt8.toNat_inj.1 (show x.toNat = 32 by omega))
            have z10' : (x == 10) = false := by simpa using h10
            have z32' : (x == 32) = false := by simpa using h32
            clear hgd
            obtain ⟨g1, m1, c1, W1, hap1, hB1, kk1⟩ := BO.byte HB.out x (by (try simp only [List.length_append, List.length_cons, List.length_nil]); omega) (Keeps.size HK.out)
            have KK1 := BO.out HB.out HK.out (Nat.le_refl _) kk1
            have HF : Hid (spF hl (s.data.toList.take (i + 1)) = (l ++ [x], n)) := HST.out _ _ (by rw [hk0]; rfl) (hn0)
            have HB2 : Hid (BO w.heap.size W1 (.slice (some ⟨g1, 0, none⟩) m1 c1) (l ++ [x])) := by
              have q := hB1
              (try simp only [List.append_assoc, List.cons_append, List.nil_append] at q)
              exact q
            have HK2 := hide KK1
            clear hB1 kk1 KK1 HST HB HK
            clear h10 h32
            obtain ⟨a6, a7⟩ := Hwr.out
            obtain ⟨a8, a9⟩ := Hwn.out
            go_wp2_with (first | (at_builtin; have _t := hap1; refine app_run _ rfl (.tmp 49) (.tmp 53) 54 rfl rfl rfl hap1 ?_; clear hap1))
            go_roundw
            case rel => exact ⟨i + 1, by go_num, Hil.out, by first | (rw [HF.out]; done) | (rw [HF.out]; go_num), ⟨_, _, _, rfl⟩, by rw [HF.out]; exact HB2.out, HK2.out⟩
            case measure => simp [intOf]; exact Hms.out
    · obtain rfl : i = s.size := by omega
      have hlt' : ¬ (s.size : Int) < (s.size : Int) := by omega
      rw [List.take_of_length_le (show s.data.toList.length ≤ s.size from Nat.le_refl _)] at hB ⊢
      generalize hL : (spF hl s.data.toList).1 = L at *
      obtain ⟨q1, q2⟩ := sp_len hl s.data.toList s.data.toList.length (Nat.le_refl _)
      rw [List.take_length] at q1
      have HK := hide K
      have HR2 : Hid (strOf L = R) := HR.out
      have htx : (convert 54 9 (.slice so5 m5 c5)).run Tryd.prog wr = .ok (.string R) wr := by
        rw [← HR2.out]
        rcases hB.2 with ⟨e, e0⟩ | ⟨g, cap, cur, e, -⟩
        · injection e with e1 e2 e3
          subst e1 e2 e3
          have : L = [] := List.eq_nil_of_length_eq_zero e0
          rw [this]
          first | rfl | exact run_convert_bytes_nil _ _ _ _ Tryd.underlying54 Tryd.underlying5 Tryd.underlying9 | (simp [convert, run_underlying Tryd.underlying54, run_underlying Tryd.underlying5, run_underlying Tryd.underlying9, strOf]; done) | (unfold convert; simp [Tryd.underlying54, Tryd.underlying5, Tryd.underlying9, strOf, go_sem])
        · injection e with e1 e2 e3
          subst e1 e2 e3
          exact run_text wr ⟨g, 0, none⟩ c5 L.length L rfl (fun j hj => by
            rw [addr_add, Nat.zero_add, hB.cellAt j (by omega)]
            unfold cellsOf
            rw [List.getElem?_map, List.getElem?_eq_getElem hj]
            rfl)
      clear hB hL q1 q2 HR HR2 K
      go_wp2_with fail
      refine bodyPost_ret (v := .string R) (by simp [results, Tryd.results16, go_sem]) rfl ?_
      exact ⟨rfl, HK.out⟩
end Go.Proofs.YteakgdfckmllhaaDoor
