import Derived.Deep.LoopGhost
import Derived.Test.YtfpiibccggjjpaaDoorUn7
/-
  script: rowNamed whole, mayFollow, fits.
-/
namespace Go.Proofs.YtfpiibccggjjpaaDoor
open Go.RowKit
set_option linter.unusedVariables false

set_option maxRecDepth 100000 in
set_option maxHeartbeats 2000000 in
theorem rowNamedF_any (name : ByteArray) (w : World) (hR : RowsF w) : Calls Tryd.prog 29 #[.string name] w fun e w' => ((∃ i, i < 16 ∧ nmN i = name ∧ e = .returned (.tuple #[.agg #[.string name, .int .i64 (kN i), .int .i64 (oN i), .string (fmN i)], .bool true])) ∨ ((∀ i, i < 16 → nmN i ≠ name) ∧ e = .returned (.tuple #[.agg #[.string ⟨#[]⟩, .int .i64 0, .int .i64 0, .string ⟨#[]⟩], .bool false]))) ∧ Keeps w w' (fun _ => False) := by
  have HR := hide hR
  clear hR
  go_enter Tryd.func29, Tryd.ntmps29
  go_wp2_with fail
  go_loopw [5] (fun v5 wr => ∃ i : Nat, v5 = .int .i64 (i : Int) ∧ i ≤ 16 ∧ Hid (∀ j, j < i → nmN j ≠ name) ∧ wr.heap[w.heap.size]? = some (.cells #[.string ⟨#[]⟩, .int .i64 0, .int .i64 0, .string ⟨#[]⟩] 68) ∧ Hid (Keeps w wr (fun _ => False))) (fun v5 _ => 16 - (intOf v5).toNat)
  case atStart => exact ⟨0, rfl, Nat.zero_le _, fun j hj => by omega, heap_alloc_new _ _, (Keeps.refl _ _).alloc _⟩
  case round =>
    obtain ⟨i, rfl, hi, hno, hb, HK⟩ := hrel
    have d0 : wr.cell? ⟨w.heap.size, 0, none⟩ = some (.string ⟨#[]⟩) := by simp [World.cell?, hb]
    have d1 : wr.cell? ⟨w.heap.size, 1, none⟩ = some (.int .i64 0) := by simp [World.cell?, hb]
    have d2 : wr.cell? ⟨w.heap.size, 2, none⟩ = some (.int .i64 0) := by simp [World.cell?, hb]
    have d3 : wr.cell? ⟨w.heap.size, 3, none⟩ = some (.string ⟨#[]⟩) := by simp [World.cell?, hb]
    have f0 : wr.frozen? ⟨w.heap.size, 0, none⟩ = false := by simp [World.frozen?, hb]
    have f1 : wr.frozen? ⟨w.heap.size, 1, none⟩ = false := by simp [World.frozen?, hb]
    have f2 : wr.frozen? ⟨w.heap.size, 2, none⟩ = false := by simp [World.frozen?, hb]
    have f3 : wr.frozen? ⟨w.heap.size, 3, none⟩ = false := by simp [World.frozen?, hb]
    by_cases hlt : i < 16
    · have hlt' : (i : Int) < 16 := by omega
      obtain ⟨c1, c2, c3, c4⟩ := (HR.out.keeps HK.out) i hlt
      obtain ⟨f, hf⟩ : ∃ f, fmN i = f := ⟨_, rfl⟩
      rw [hf] at c4
      have hi5 : i ≤ 1099511627776 := by omega
      have Hms : Hid (15 - i < 16 - i) := by show 15 - i < 16 - i; omega
      have Hnx : Hid (nmN i ≠ name → ∀ j, j < i + 1 → nmN j ≠ name) := fun q j hj => by
        by_cases e : j = i
        · rw [e]; exact q
        · exact hno.out j (by omega)
      by_cases h1 : nmN i = name
      · have H1 := hide h1
        rw [h1] at c1
        have e1 : (name.toList == name.toList) = true := by simp
        have hk : Keeps w ((((wr.setCell ⟨w.heap.size, 0, none⟩ (.string name)).setCell ⟨w.heap.size, 1, none⟩ (.int .i64 (kN i))).setCell ⟨w.heap.size, 2, none⟩ (.int .i64 (oN i))).setCell ⟨w.heap.size, 3, none⟩ (.string f)) (fun _ => False) := (((HK.out.setCell ⟨w.heap.size, 0, none⟩ (fun h => absurd h (Nat.lt_irrefl _)) _).setCell ⟨w.heap.size, 1, none⟩ (fun h => absurd h (Nat.lt_irrefl _)) _).setCell ⟨w.heap.size, 2, none⟩ (fun h => absurd h (Nat.lt_irrefl _)) _).setCell ⟨w.heap.size, 3, none⟩ (fun h => absurd h (Nat.lt_irrefl _)) _
        have Hk := hide hk
        have Hlt := hide hlt
        clear h1 hno Hnx hi5 hk
        have HF : Hid (∃ j, j < 16 ∧ nmN j = name ∧ (Ending.returned (.tuple #[.agg #[.string name, .int .i64 (kN i), .int .i64 (oN i), .string f], .bool true])) = .returned (.tuple #[.agg #[.string name, .int .i64 (kN j), .int .i64 (oN j), .string (fmN j)], .bool true])) := ⟨i, hlt, H1.out, by rw [hf]⟩
        clear hf
        generalize kN i = kk at *
        generalize oN i = oo at *
        go_wp2_with fail
        refine bodyPost_ret (v := .tuple #[.agg #[.string name, .int .i64 kk, .int .i64 oo, .string f], .bool true]) ?_ rfl ?_
        · simp [results, Tryd.results29, go_sem, d0, d1, d2, d3]
        · exact ⟨Or.inl HF.out, Hk.out⟩
      · have e1 := str_no h1
        have HX := hide (Hnx.out h1)
        have hb' := hide hb
        obtain ⟨a6, a7⟩ := wr64s hi5
        clear hf
        clear h1 hno Hnx hi5 d0 d1 d2 d3 f0 f1 f2 f3 c2 c3 c4 hb
        generalize nmN i = nn at *
        go_wp2_with fail
        go_roundw
        case rel => exact ⟨i + 1, by go_num, hlt, HX, hb'.out, HK⟩
        case measure => simp [intOf]; exact Hms.out
    · obtain rfl : i = 16 := by omega
      have hk : Keeps w ((((wr.setCell ⟨w.heap.size, 0, none⟩ (.string ⟨#[]⟩)).setCell ⟨w.heap.size, 1, none⟩ (.int .i64 0)).setCell ⟨w.heap.size, 2, none⟩ (.int .i64 0)).setCell ⟨w.heap.size, 3, none⟩ (.string ⟨#[]⟩)) (fun _ => False) := (((HK.out.setCell ⟨w.heap.size, 0, none⟩ (fun h => absurd h (Nat.lt_irrefl _)) _).setCell ⟨w.heap.size, 1, none⟩ (fun h => absurd h (Nat.lt_irrefl _)) _).setCell ⟨w.heap.size, 2, none⟩ (fun h => absurd h (Nat.lt_irrefl _)) _).setCell ⟨w.heap.size, 3, none⟩ (fun h => absurd h (Nat.lt_irrefl _)) _
      have Hk := hide hk
      clear hk
      go_wp2_with fail
      refine bodyPost_ret (v := .tuple #[.agg #[.string ⟨#[]⟩, .int .i64 0, .int .i64 0, .string ⟨#[]⟩], .bool false]) ?_ rfl ?_
      · simp [results, Tryd.results29, go_sem, d0, d1, d2, d3]
      · exact ⟨Or.inr ⟨hno.out, rfl⟩, Hk.out⟩
set_option maxRecDepth 100000 in
set_option maxHeartbeats 2000000 in
theorem may_any (last k : Int) (w : World) : Calls Tryd.prog 30 #[.int .i64 last, .int .i64 k] w fun e w' => e = .returned (.bool (mayF last k)) ∧ w' = w := by
  obtain ⟨D, hD⟩ : ∃ D, mayF last k = D := ⟨_, rfl⟩
  rw [hD]
  unfold mayF at hD
  by_cases h1 : k = 1
  · rw [if_pos h1] at hD
    have e1 : (k == 1) = true := by simp [h1]
    by_cases h2 : last = 0
    · have e2 : (last == 0) = true := by simp [h2]
      obtain rfl : D = true := by rw [← hD]; simp [h2]
      clear hD h1 h2
      go_enter Tryd.func30, Tryd.ntmps30
      go_wp2_with fail
      go_ret
      exact ⟨rfl, rfl⟩
    · have e2 : (last == 0) = false := beq_eq_false_iff_ne.2 h2
      obtain rfl : D = false := by rw [← hD]; simp [h2]
      clear hD h1 h2
      go_enter Tryd.func30, Tryd.ntmps30
      go_wp2_with fail
      go_ret
      exact ⟨rfl, rfl⟩
  · rw [if_neg h1] at hD
    have e1 : (k == 1) = false := beq_eq_false_iff_ne.2 h1
    by_cases h2 : last = 0
    · have e2 : (last != 0) = false := by simp [h2]
      obtain rfl : D = false := by rw [← hD]; simp [h2]
      clear hD h1 h2
      go_enter Tryd.func30, Tryd.ntmps30
      go_wp2_with fail
      go_ret
      exact ⟨rfl, rfl⟩
    · have e2 : (last != 0) = true := by simp [h2]
      by_cases h3 : last ≤ k
      · obtain rfl : D = true := by rw [← hD]; simp [h2, h3]
        have e3 : decide (last ≤ k) = true := decide_eq_true h3
        clear hD h1 h2
        go_enter Tryd.func30, Tryd.ntmps30
        go_wp2_with fail
        go_ret
        exact ⟨rfl, rfl⟩
      · obtain rfl : D = false := by rw [← hD]; simp [h2, h3]
        have e3 : decide (last ≤ k) = false := decide_eq_false h3
        clear hD h1 h2
        go_enter Tryd.func30, Tryd.ntmps30
        go_wp2_with fail
        go_ret
        exact ⟨rfl, rfl⟩
theorem many_eq (i : Nat) (hi : i < 16) : Lib.containsAny (fmN i).data.toList (⟨#[70, 83]⟩ : ByteArray).data.toList = many i ∧ (fmN i).size ≤ 3 ∧ ∀ b, b ∈ (fmN i).data.toList → b.toNat < 128 := by
  have : ∀ k : Fin 16, Lib.containsAny (fmN k.1).data.toList (⟨#[70, 83]⟩ : ByteArray).data.toList = many k.1 ∧ (fmN k.1).size ≤ 3 ∧ ∀ b, b ∈ (fmN k.1).data.toList → b.toNat < 128 := by decide +kernel
  exact this ⟨i, hi⟩
theorem many_pos (i : Nat) (hi : i < 16) (h : many i = true) : 1 ≤ (fmN i).size := by
  have : ∀ k : Fin 16, many k.1 = true → 1 ≤ (fmN k.1).size := by decide +kernel
  exact this ⟨i, hi⟩ h
theorem row_box {w : World} {a b c d : Value} {t : TypeId} {W : World} (h : W.heap[w.heap.size]? = some (.cells #[a, b, c, d] t)) : W.cell? ⟨w.heap.size, 0, none⟩ = some a ∧ W.cell? ⟨w.heap.size, 1, none⟩ = some b ∧ W.cell? ⟨w.heap.size, 2, none⟩ = some c ∧ W.cell? ⟨w.heap.size, 3, none⟩ = some d := by
  simp [World.cell?, h]
set_option maxRecDepth 100000 in
set_option maxHeartbeats 2000000 in
theorem fits_any (nm : ByteArray) (k o : Int) (i n : Nat) (hi : i < 16) (hn : n ≤ 8388608) (w : World) : Calls Tryd.prog 31 #[.agg #[.string nm, .int .i64 k, .int .i64 o, .string (fmN i)], .int .i64 (n : Int)] w fun e w' => e = .returned (.bool (fitN i n)) ∧ Keeps w w' (fun _ => False) := by
  obtain ⟨m1, m2, m3⟩ := many_eq i hi
  have hC := fun (W : World) => Tryd.strings_ContainsAny_laid (fmN i) ⟨#[70, 83]⟩ W (by omega) (by decide) (fun j b h => m3 b (List.mem_of_getElem? h)) (fun j b h => by
    have : b ∈ ([70, 83] : List UInt8) := List.mem_of_getElem? h
    simp only [List.mem_cons, List.not_mem_nil, or_false] at this
    rcases this with rfl | rfl <;> decide)
  rw [m1] at hC
  have mp := many_pos i hi
  obtain ⟨D, hD⟩ : ∃ D, fitN i n = D := ⟨_, rfl⟩
  rw [hD]
  unfold fitN at hD
  clear m1 m3 hi
  generalize many i = M at *
  generalize fmN i = F at *
  cases M with
  | true =>
    rw [if_pos rfl] at hD
    have m1 := mp rfl
    have hsz : (1 : Int) ≤ (F.size : Int) := by omega
    obtain ⟨z, hz⟩ : ∃ z : Int, (F.size : Int) - 1 = z := ⟨_, rfl⟩
    have hwz : IntKind.i64.wrap z = z := by rw [IntKind.wrap_i64]; omega
    have hwz2 : wrap64 z = z := by unfold wrap64; omega
    by_cases h : F.size ≤ n + 1
    · obtain rfl : D = true := by rw [← hD]; simp [h]
      have h1 : z ≤ (n : Int) := by omega
      have h2 : decide (z ≤ (n : Int)) = true := decide_eq_true h1
      have HZ := hide hz
      clear hD h mp m1 m2 hsz
      go_enter Tryd.func31, Tryd.ntmps31
      go_upto_region 1 with fail
      refine alloc1 (P := fun W => Code.wp _ _ _ _ W) fun W0 hb0 _ k0 => ?_
      obtain ⟨c0, c1, c2, c3⟩ := row_box hb0
      have K0 := hide k0
      clear k0
      go_wp2_with fail
      (with_reducible refine (hC _).mono ?_)
      rintro e w1 ⟨rfl, hb⟩
      have K1 := hide (K0.out.trans (keeps_of_below hb) (fun _ _ e => e))
      have c3' := keeps_cell (keeps_of_below hb) c3
      clear hb c0 c1 c2 c3 hb0 K0 hC
      go_wp2_with fail
      go_ret
      exact ⟨rfl, K1.out⟩
    · obtain rfl : D = false := by rw [← hD]; simp [h]
      have h1 : ¬ z ≤ (n : Int) := by omega
      have h2 : decide (z ≤ (n : Int)) = false := decide_eq_false h1
      have HZ := hide hz
      clear hD h mp m1 m2 hsz
      go_enter Tryd.func31, Tryd.ntmps31
      go_upto_region 1 with fail
      refine alloc1 (P := fun W => Code.wp _ _ _ _ W) fun W0 hb0 _ k0 => ?_
      obtain ⟨c0, c1, c2, c3⟩ := row_box hb0
      have K0 := hide k0
      clear k0
      go_wp2_with fail
      (with_reducible refine (hC _).mono ?_)
      rintro e w1 ⟨rfl, hb⟩
      have K1 := hide (K0.out.trans (keeps_of_below hb) (fun _ _ e => e))
      have c3' := keeps_cell (keeps_of_below hb) c3
      clear hb c0 c1 c2 c3 hb0 K0 hC
      go_wp2_with fail
      go_ret
      exact ⟨rfl, K1.out⟩
  | false =>
    rw [if_neg (by decide)] at hD
    by_cases h : n = F.size
    · obtain rfl : D = true := by rw [← hD]; simp [h]
      have h2 : ((n : Int) == (F.size : Int)) = true := by simp [h]
      clear hD h mp m2
      go_enter Tryd.func31, Tryd.ntmps31
      go_upto_region 1 with fail
      refine alloc1 (P := fun W => Code.wp _ _ _ _ W) fun W0 hb0 _ k0 => ?_
      obtain ⟨c0, c1, c2, c3⟩ := row_box hb0
      have K0 := hide k0
      clear k0
      go_wp2_with fail
      (with_reducible refine (hC _).mono ?_)
      rintro e w1 ⟨rfl, hb⟩
      have K1 := hide (K0.out.trans (keeps_of_below hb) (fun _ _ e => e))
      have c3' := keeps_cell (keeps_of_below hb) c3
      clear hb c0 c1 c2 c3 hb0 K0 hC
      go_wp2_with fail
      go_ret
      exact ⟨rfl, K1.out⟩
    · obtain rfl : D = false := by rw [← hD]; simp [h]
      have h2 : ((n : Int) == (F.size : Int)) = false := by rw [beq_eq_false_iff_ne]; omega
      clear hD h mp m2
      go_enter Tryd.func31, Tryd.ntmps31
      go_upto_region 1 with fail
      refine alloc1 (P := fun W => Code.wp _ _ _ _ W) fun W0 hb0 _ k0 => ?_
      obtain ⟨c0, c1, c2, c3⟩ := row_box hb0
      have K0 := hide k0
      clear k0
      go_wp2_with fail
      (with_reducible refine (hC _).mono ?_)
      rintro e w1 ⟨rfl, hb⟩
      have K1 := hide (K0.out.trans (keeps_of_below hb) (fun _ _ e => e))
      have c3' := keeps_cell (keeps_of_below hb) c3
      clear hb c0 c1 c2 c3 hb0 K0 hC
      go_wp2_with fail
      go_ret
      exact ⟨rfl, K1.out⟩
end Go.Proofs.YtfpiibccggjjpaaDoor
/-
  script: readLine.
-/
namespace Go.Proofs.YtfpiibccggjjpaaDoor
open Go.RowKit
set_option linter.unusedVariables false

def isL (p : Nat) : Bool := p == 72 || p == 78 || p == 85 || p == 86 || p == 75 || p == 69 || p == 70 || p == 83
theorem form_let (i : Nat) (hi : i < 16) (pos : Nat) (hp : pos < (fmN i).data.toList.length) : isL ((fmN i).data.toList[pos]).toNat = true ∧ ((fmN i).data.toList[pos]).toNat < 128 ∧ (¬ ((fmN i).data.toList[pos]).toNat = 70 → ¬ ((fmN i).data.toList[pos]).toNat = 83 → many i = true → pos + 1 < (fmN i).size) := by
  have h : ∀ k : Fin 16, ∀ q : Fin 3, q.1 < (fmN k.1).data.toList.length → isL ((fmN k.1).data.toList.getD q.1 0).toNat = true ∧ ((fmN k.1).data.toList.getD q.1 0).toNat < 128 ∧ (¬ ((fmN k.1).data.toList.getD q.1 0).toNat = 70 → ¬ ((fmN k.1).data.toList.getD q.1 0).toNat = 83 → many k.1 = true → q.1 + 1 < (fmN k.1).size) := by decide +kernel
  have h3 := (many_eq i hi).2.1
  have e : (fmN i).data.toList.length = (fmN i).size := rfl
  have := h ⟨i, hi⟩ ⟨pos, by omega⟩ hp
  rw [List.getD_eq_getElem?_getD, List.getElem?_eq_getElem hp, Option.getD_some] at this
  exact this
/-- A letter of a form has its field. -/
theorem form_fit {i n : Nat} (hi : i < 16) (hf : fitN i n = true) {pos : Nat} (hp : pos < (fmN i).data.toList.length) : pos ≤ n ∧ (¬ ((fmN i).data.toList[pos]).toNat = 70 → ¬ ((fmN i).data.toList[pos]).toNat = 83 → pos < n) := by
  obtain ⟨-, -, h3⟩ := form_let i hi pos hp
  have e : (fmN i).data.toList.length = (fmN i).size := rfl
  unfold fitN at hf
  cases hm : many i with
  | true =>
    rw [hm, if_pos rfl] at hf
    have := of_decide_eq_true hf
    exact ⟨by omega, fun a b => by have := h3 a b hm; omega⟩
  | false =>
    rw [hm, if_neg (by decide)] at hf
    have := of_decide_eq_true hf
    exact ⟨by omega, fun a b => by omega⟩
theorem rf_any (lo B : Nat) (c : CmdD) (fv hv v : Value) (fs : List (List UInt8)) (w : World) (hlo : lo ≤ w.heap.size) (hB : CmdO lo B c fv hv w) (hv2 : StrsIn w v fs) (hl : fs.length ≤ 8388608) (hz : ∀ x, x ∈ fs → x.length ≤ 8388608) (he : ErrW w) (p : Nat) (hp : isL p = true) (h0 : ¬ p = 70 → ¬ p = 83 → 0 < fs.length) : Calls Tryd.prog 32 #[.pointer (some ⟨B, 0, none⟩), .int .i32 (p : Int), v] w fun e w' => RdP lo B (rdF c (p : Int) fs) w e w' := by
  unfold isL at hp
  simp only [Bool.or_eq_true, beq_iff_eq] at hp
  rcases hp with ((((((rfl | rfl) | rfl) | rfl) | rfl) | rfl) | rfl) | rfl
  · exact rd_72 lo B c fv hv v fs w hB hv2 (h0 (by decide) (by decide)) hz he
  · exact rd_78 lo B c fv hv v fs w hB hv2 (h0 (by decide) (by decide)) hz he
  · exact rd_85 lo B c fv hv v fs w hB hv2 (h0 (by decide) (by decide)) hz he
  · exact rd_86 lo B c fv hv v fs w hB hv2 (h0 (by decide) (by decide)) hz he
  · exact rd_75 lo B c fv hv v fs w hB hv2 (h0 (by decide) (by decide)) hz he
  · exact rd_69 lo B c fv hv v fs w hB hv2 (h0 (by decide) (by decide)) hz he
  · exact rd_70 lo B c fv hv v fs w hlo hB hv2 hl hz he
  · exact rd_83 lo B c fv hv v fs w hlo hB hv2 hl hz he
theorem set9 {W : World} {B : Nat} {x0 x1 x2 x3 x4 x5 x6 x7 x8 : Value} {t : TypeId} (h : W.heap[B]? = some (.cells #[x0, x1, x2, x3, x4, x5, x6, x7, x8] t)) {a0 a1 a2 a3 a4 a5 a6 a7 a8 : Value} {P : World → Prop} (hP : ∀ W', W'.heap[B]? = some (.cells #[a0, a1, a2, a3, a4, a5, a6, a7, a8] t) → Keeps W W' (fun k => k = B) → P W') :
    P (((((((((W.setCell ⟨B, 0, none⟩ a0).setCell ⟨B, 1, none⟩ a1).setCell ⟨B, 2, none⟩ a2).setCell ⟨B, 3, none⟩ a3).setCell ⟨B, 4, none⟩ a4).setCell ⟨B, 5, none⟩ a5).setCell ⟨B, 6, none⟩ a6).setCell ⟨B, 7, none⟩ a7).setCell ⟨B, 8, none⟩ a8) := by
  refine hP _ ?_ ?_
  · simp [World.setCell, Array.getElem?_modify, h]
  · exact ((((((((((Keeps.refl W (fun k => k = B)).setCell ⟨B, 0, none⟩ (fun _ => rfl) a0).setCell ⟨B, 1, none⟩ (fun _ => rfl) a1).setCell ⟨B, 2, none⟩ (fun _ => rfl) a2).setCell ⟨B, 3, none⟩ (fun _ => rfl) a3).setCell ⟨B, 4, none⟩ (fun _ => rfl) a4).setCell ⟨B, 5, none⟩ (fun _ => rfl) a5).setCell ⟨B, 6, none⟩ (fun _ => rfl) a6).setCell ⟨B, 7, none⟩ (fun _ => rfl) a7).setCell ⟨B, 8, none⟩ (fun _ => rfl) a8)
theorem at9 {W : World} {q : Nat} {a0 a1 a2 a3 a4 a5 a6 a7 a8 : Value} {t : TypeId} (h : W.heap[q]? = some (.cells #[a0, a1, a2, a3, a4, a5, a6, a7, a8] t)) : W.cell? ⟨q, 0, none⟩ = some a0 ∧ W.cell? ⟨q, 1, none⟩ = some a1 ∧ W.cell? ⟨q, 2, none⟩ = some a2 ∧ W.cell? ⟨q, 3, none⟩ = some a3 ∧ W.cell? ⟨q, 4, none⟩ = some a4 ∧ W.cell? ⟨q, 5, none⟩ = some a5 ∧ W.cell? ⟨q, 6, none⟩ = some a6 ∧ W.cell? ⟨q, 7, none⟩ = some a7 ∧ W.cell? ⟨q, 8, none⟩ = some a8 := by
  simp [World.cell?, h]
theorem fro9 {W : World} {N : Nat} {cs : Array Value} {t : TypeId} (h : W.heap[N]? = some (.cells cs t)) : W.frozen? ⟨N, 0, none⟩ = false ∧ W.frozen? ⟨N, 1, none⟩ = false ∧ W.frozen? ⟨N, 2, none⟩ = false ∧ W.frozen? ⟨N, 3, none⟩ = false ∧ W.frozen? ⟨N, 4, none⟩ = false ∧ W.frozen? ⟨N, 5, none⟩ = false ∧ W.frozen? ⟨N, 6, none⟩ = false ∧ W.frozen? ⟨N, 7, none⟩ = false ∧ W.frozen? ⟨N, 8, none⟩ = false := by
  simp [World.frozen?, h]
theorem at4 {W : World} {q : Nat} {a b c d : Value} {t : TypeId} (h : W.heap[q]? = some (.cells #[a, b, c, d] t)) : W.cell? ⟨q, 0, none⟩ = some a ∧ W.cell? ⟨q, 1, none⟩ = some b ∧ W.cell? ⟨q, 2, none⟩ = some c ∧ W.cell? ⟨q, 3, none⟩ = some d := by
  simp [World.cell?, h]
/-- What readLine answers. -/
def RlP (R : Int × CmdD × Int) (w : World) (e : Ending) (w' : World) : Prop := ∃ fv hv, e = .returned (.tuple #[.int .i64 R.1, .agg (R.2.1.vals fv hv), .int .i64 R.2.2]) ∧ IntsO w.heap.size w' fv R.2.1.fl ∧ IntsO w.heap.size w' hv R.2.1.hl ∧ Keeps w w' (fun _ => False) ∧ ∀ g, fv.ownBlock = some g → ¬ hv.ownBlock = some g
theorem ints_none (lo : Nat) (w : World) : IntsO lo w (.slice none 0 0) [] := ⟨rfl, Or.inl ⟨rfl, rfl⟩⟩
theorem keeps_out {w W W' : World} {B : Nat} (k : Keeps w W (fun _ => False)) (hB : w.heap.size ≤ B) (k2 : Keeps W W' (fun x => x = B)) : Keeps w W' (fun _ => False) := k.trans k2 (fun q hq e => by omega)
set_option maxRecDepth 100000 in
set_option maxHeartbeats 4000000 in
theorem line_none (last : Int) (v : Value) (nm : List UInt8) (fs : List (List UInt8)) (w : World) (hv : StrsIn w v (nm :: fs)) (hR : RowsF w) (hno : ∀ i, i < 16 → (nmN i).data.toList ≠ nm) : Calls Tryd.prog 19 #[.int .i64 last, v] w fun e w' => RlP (0, zeroC, 160) w e w' := by
  obtain ⟨b, o, c, rfl, hc, hw⟩ := hv
  obtain ⟨fvv, hcut, hF⟩ := cut_strs (w := w) (b := b) (o := o) (n := (nm :: fs).length) (c := c) ⟨b, o, c, rfl, hc, hw⟩ 1 (by simp)
  have hcut1 : ∀ W, (Instr.slice 42 (.slice (some ⟨b, o, none⟩) (fs.length + 1) c) (some (.int .i64 1)) none none).run Tryd.prog W = .ok fvv W := hcut
  obtain ⟨b1, o1, c1, rfl, -, -⟩ := hF
  have q0 : w.cell? ⟨b, o, none⟩ = some (.string (strOf nm)) := hw 0 (by simp)
  have HR := hide hR
  have HN := hide hno
  clear hw hcut hc hR hno
  go_enter Tryd.func19, Tryd.ntmps19
  go_upto_region 1 with fail
  refine alloc1 (P := fun W => Code.wp _ _ _ _ W) fun W0 hb0 hs0 k0 => ?_
  have hrow := rowNamedF_any (strOf nm) W0 (HR.out.keeps k0)
  have q1 := keeps_cell k0 q0
  have Hb0 := hide hb0
  have K0 := hide k0
  clear q0 hs0 hb0 k0
  go_wp2_with fail
  (with_reducible refine hrow.mono ?_)
  rintro e w1 ⟨⟨i, hi, hnm, rfl⟩ | ⟨-, rfl⟩, k1⟩
  · exact absurd (by rw [hnm, strOf_data]) (HN.out i hi)
  · have K1 := hide (K0.out.trans k1 (fun _ _ e => e))
    have Hb1 := hide (k1.blk8 Hb0.out)
    clear hrow k1 q1 Hb0 K0
    go_upto_region 2 with fail
    refine alloc1 (P := fun W => Code.wp _ _ _ _ W) fun W2 hb2 hs2 k2 => ?_
    have K2 := hide (K1.out.trans k2 (fun _ _ e => e))
    have hb0 := k2.blk8 Hb1.out
    obtain ⟨e0, e1, e2, e3, e4, e5, e6, e7, e8⟩ := at9 hb0
    obtain ⟨f0, f1, f2, f3, f4, f5, f6, f7, f8⟩ := fro9 hb0
    have Hb2 := hide hb0
    clear hb2 hs2 k2 K1 Hb1 hb0
    go_wp2_with fail
    refine set9 (P := fun W => bodyPost _ _ _ _ _ W) Hb2.out fun W3 hb3 k3 => ?_
    obtain ⟨e0, e1, e2, e3, e4, e5, e6, e7, e8⟩ := at9 hb3
    refine bodyPost_ret (v := .tuple #[.int .i64 0, .agg #[.int .i64 0, .int .i64 0, .slice none 0 0, .slice none 0 0, .int .u64 0, .int .u64 0, .int .i64 0, .string ⟨#[]⟩, .string ⟨#[]⟩], .int .i64 160]) (by simp [results, Tryd.results19, go_sem, e0, e1, e2, e3, e4, e5, e6, e7, e8]) rfl ?_
    exact ⟨_, _, rfl, ints_none _ _, ints_none _ _, keeps_out K2.out (Nat.le_refl _) k3, fun _ q => nomatch q⟩
end Go.Proofs.YtfpiibccggjjpaaDoor
/-
  script: readLine of a line whose name is known.
-/
namespace Go.Proofs.YtfpiibccggjjpaaDoor
open Go.RowKit
set_option linter.unusedVariables false

set_option maxRecDepth 100000 in
set_option maxHeartbeats 4000000 in
theorem line_bad (last : Int) (v : Value) (nm : List UInt8) (fs : List (List UInt8)) (w : World) (hv : StrsIn w v (nm :: fs)) (hl : fs.length ≤ 8388600) (hR : RowsF w) (i : Nat) (hi : i < 16) (hn : (nmN i).data.toList = nm) (hbad : (mayF last (kN i) && fitN i fs.length) = false) : Calls Tryd.prog 19 #[.int .i64 last, v] w fun e w' => RlP (0, zeroC, 160) w e w' := by
  obtain ⟨b, o, c, rfl, hc, hw⟩ := hv
  obtain ⟨fvv, hcut, hF⟩ := cut_strs (w := w) (b := b) (o := o) (n := (nm :: fs).length) (c := c) ⟨b, o, c, rfl, hc, hw⟩ 1 (by simp)
  have hcut1 : ∀ W, (Instr.slice 42 (.slice (some ⟨b, o, none⟩) (fs.length + 1) c) (some (.int .i64 1)) none none).run Tryd.prog W = .ok fvv W := hcut
  obtain ⟨b1, o1, c1, e1, -, -⟩ := hF
  rw [show ((nm :: fs).drop 1).length = fs.length from rfl] at e1
  subst e1
  have q0 : w.cell? ⟨b, o, none⟩ = some (.string (strOf nm)) := hw 0 (by simp)
  have hM := fun W => may_any last (kN i) W
  have HFt := hide (fun W => fits_any (strOf nm) (kN i) (oN i) i fs.length hi (by omega) W)
  have HR := hide hR
  have Hi := hide hi
  have Hn : Hid (nmN i = strOf nm) := by
    rw [← hn, strOf_self]
    exact rfl
  clear hw hcut hc hR hi hn
  go_enter Tryd.func19, Tryd.ntmps19
  go_upto_region 1 with fail
  refine alloc1 (P := fun W => Code.wp _ _ _ _ W) fun W0 hb0 hs0 k0 => ?_
  have hrow := rowNamedF_any (strOf nm) W0 (HR.out.keeps k0)
  have q1 := keeps_cell k0 q0
  have Hb0 := hide hb0
  have K0 := hide k0
  clear q0 hs0 hb0 k0
  go_wp2_with fail
  (with_reducible refine hrow.mono ?_)
  rintro e w1 ⟨⟨i2, hi2, hnm, rfl⟩ | ⟨hno, rfl⟩, k1⟩
  · obtain rfl : i2 = i := by
      have := nm_inj ⟨i2, hi2⟩ ⟨i, Hi.out⟩ (by show (nmN i2).data.toList = (nmN i).data.toList; rw [hnm, Hn.out])
      simpa using this
    have K1 := hide (K0.out.trans k1 (fun _ _ e => e))
    have Hb1 := hide (k1.blk8 Hb0.out)
    clear hrow k1 q1 Hb0 K0 hnm hi2
    generalize kN i2 = kk at *
    generalize oN i2 = oo at *
    generalize fmN i2 = F at *
    go_upto_region 2 with fail
    refine alloc1 (P := fun W => Code.wp _ _ _ _ W) fun W2 hb2 hs2 k2 => ?_
    have K2 := hide (K1.out.trans k2 (fun _ _ e => e))
    have Hb2 := hide (k2.blk8 Hb1.out)
    obtain ⟨r0, r1, r2, r3⟩ := at4 hb2
    have Hrow := hide hb2
    clear hb2 hs2 k2 K1 Hb1
    generalize w1.heap.size = br at *
    cases hm : mayF last kk with
    | false =>
      rw [hm] at hM
      obtain ⟨e0, e1, e2, e3, e4, e5, e6, e7, e8⟩ := at9 Hb2.out
      obtain ⟨f0, f1, f2, f3, f4, f5, f6, f7, f8⟩ := fro9 Hb2.out
      clear hm hbad
      go_wp2_with fail
      (with_reducible refine (hM _).mono ?_)
      rintro e w3 ⟨rfl, rfl⟩
      go_wp2_with fail
      refine set9 (P := fun W => bodyPost _ _ _ _ _ W) Hb2.out fun W3 hb3 k3 => ?_
      obtain ⟨e0, e1, e2, e3, e4, e5, e6, e7, e8⟩ := at9 hb3
      refine bodyPost_ret (v := .tuple #[.int .i64 0, .agg #[.int .i64 0, .int .i64 0, .slice none 0 0, .slice none 0 0, .int .u64 0, .int .u64 0, .int .i64 0, .string ⟨#[]⟩, .string ⟨#[]⟩], .int .i64 160]) (by simp [results, Tryd.results19, go_sem, e0, e1, e2, e3, e4, e5, e6, e7, e8]) rfl ?_
      exact ⟨_, _, rfl, ints_none _ _, ints_none _ _, keeps_out K2.out (Nat.le_refl _) k3, fun _ q => nomatch q⟩
    | true =>
      rw [hm] at hM hbad
      rw [Bool.true_and] at hbad
      rw [hbad] at HFt
      clear hm hbad
      go_wp2_with fail
      (with_reducible refine (hM _).mono ?_)
      rintro e w3 ⟨rfl, rfl⟩
      go_wp2_with fail
      (with_reducible refine (HFt.out _).mono ?_)
      rintro e w4 ⟨rfl, k4⟩
      have K4 := hide (K2.out.trans k4 (fun _ _ e => e))
      have Hb4 := hide (k4.blk8 Hb2.out)
      obtain ⟨e0, e1, e2, e3, e4, e5, e6, e7, e8⟩ := at9 Hb4.out
      obtain ⟨f0, f1, f2, f3, f4, f5, f6, f7, f8⟩ := fro9 Hb4.out
      clear k4 K2 Hb2
      go_wp2_with fail
      refine set9 (P := fun W => bodyPost _ _ _ _ _ W) Hb4.out fun W3 hb3 k3 => ?_
      obtain ⟨e0, e1, e2, e3, e4, e5, e6, e7, e8⟩ := at9 hb3
      refine bodyPost_ret (v := .tuple #[.int .i64 0, .agg #[.int .i64 0, .int .i64 0, .slice none 0 0, .slice none 0 0, .int .u64 0, .int .u64 0, .int .i64 0, .string ⟨#[]⟩, .string ⟨#[]⟩], .int .i64 160]) (by simp [results, Tryd.results19, go_sem, e0, e1, e2, e3, e4, e5, e6, e7, e8]) rfl ?_
      exact ⟨_, _, rfl, ints_none _ _, ints_none _ _, keeps_out K4.out (Nat.le_refl _) k3, fun _ q => nomatch q⟩
  · exact absurd Hn.out (hno i Hi.out)
end Go.Proofs.YtfpiibccggjjpaaDoor
/-
  script: readLine of a line that is read.
-/
namespace Go.Proofs.YtfpiibccggjjpaaDoor
open Go.RowKit
set_option linter.unusedVariables false

abbrev z9 : Array Value := #[.int .i64 0, .int .i64 0, .slice none 0 0, .slice none 0 0, .int .u64 0, .int .u64 0, .int .i64 0, .string ⟨#[]⟩, .string ⟨#[]⟩]
structure RlS (w : World) (br B it : Nat) (nm F : ByteArray) (kk oo : Int) (pos : Nat) (c : CmdD) (fv hv : Value) (W : World) : Prop where
  res : W.heap[w.heap.size]? = some (.cells z9 33)
  row : W.heap[br]? = some (.cells #[.string nm, .int .i64 kk, .int .i64 oo, .string F] 68)
  cmd : CmdO w.heap.size B c fv hv W
  itr : W.heap[it]? = some (.stringIter F pos)
  keeps : Keeps w W (fun _ => False)
  ltB : w.heap.size < B
  ltI : w.heap.size ≤ it
theorem own_iter {W : World} {base : Nat} {e : TypeId} {size : Nat} {v : Value} {n : Nat} {xs : List Value} (h : W.ownsRow base e size v n xs) {it : Nat} {F : ByteArray} {pos : Nat} (hN : W.heap[it]? = some (.stringIter F pos)) : ∀ g, v.ownBlock = some g → ¬ g = it := fun g hg e1 => by
  subst e1
  obtain ⟨-, cur, hc⟩ := ownsRow_block h hg
  rw [hc] at hN
  cases hN
theorem keeps_putI (W : World) (it : Nat) (o : Obj) : Keeps W (W.putObj it o) (fun k => k = it) := ⟨rfl, rfl, rfl, by simp [World.putObj], fun q _ hn => World.putObj_heap_other hn⟩
theorem RlS.next {w W : World} {br B it : Nat} {nm F : ByteArray} {kk oo : Int} {pos : Nat} {c : CmdD} {fv hv : Value} (h : RlS w br B it nm F kk oo pos c fv hv W) (p2 : Nat) : RlS w br B it nm F kk oo p2 c fv hv (W.putObj it (.stringIter F p2)) := by
  have hne : ∀ {b : Nat} {cs : Array Value} {t : TypeId}, W.heap[b]? = some (.cells cs t) → ¬ b = it := fun {b cs t} hb e => by
    rw [e, h.itr] at hb
    cases hb
  have k := keeps_putI W it (.stringIter F p2)
  refine ⟨(k.block _ (heap_lt h.res) (hne h.res)).trans h.res, (k.block _ (heap_lt h.row) (hne h.row)).trans h.row, ⟨(k.block _ (heap_lt h.cmd.box) (hne h.cmd.box)).trans h.cmd.box, ownsRow_keeps h.cmd.f k (own_iter h.cmd.f h.itr), ownsRow_keeps h.cmd.s k (own_iter h.cmd.s h.itr), h.cmd.ap⟩, World.putObj_heap_same (heap_lt h.itr), h.keeps.trans k (fun q hq e => by have := h.ltI; omega), h.ltB, h.ltI⟩
theorem RlS.read {w W W' : World} {br B it : Nat} {nm F : ByteArray} {kk oo : Int} {pos : Nat} {c c2 : CmdD} {fv hv fv2 hv2 : Value} (h : RlS w br B it nm F kk oo pos c fv hv W) (hc : CmdO w.heap.size B c2 fv2 hv2 W') (k : Keeps W W' (fun x => x = B)) : RlS w br B it nm F kk oo pos c2 fv2 hv2 W' := by
  have hl := h.ltB
  have n1 : ¬ br = B := fun e => by
    have h1 := h.row
    rw [e, h.cmd.box] at h1
    injection h1 with h1
    injection h1 with _ h2 _
    exact absurd h2 (by decide)
  have n2 : ¬ it = B := fun e => by
    have h1 := h.itr
    rw [e, h.cmd.box] at h1
    cases h1
  exact ⟨(k.block _ (heap_lt h.res) (by omega)).trans h.res, (k.block _ (heap_lt h.row) n1).trans h.row, hc, (k.block _ (heap_lt h.itr) n2).trans h.itr, h.keeps.trans k (fun q hq e => by omega), h.ltB, h.ltI⟩
def C9 (W : World) (B : Nat) (c : CmdD) (fv hv : Value) : Prop := W.cell? ⟨B, 0, none⟩ = some (.int .i64 c.op) ∧ W.cell? ⟨B, 1, none⟩ = some (.int .i64 c.h) ∧ W.cell? ⟨B, 2, none⟩ = some fv ∧ W.cell? ⟨B, 3, none⟩ = some hv ∧ W.cell? ⟨B, 4, none⟩ = some (.int .u64 (c.u : Int)) ∧ W.cell? ⟨B, 5, none⟩ = some (.int .u64 (c.v : Int)) ∧ W.cell? ⟨B, 6, none⟩ = some (.int .i64 c.n) ∧ W.cell? ⟨B, 7, none⟩ = some (.string c.key) ∧ W.cell? ⟨B, 8, none⟩ = some (.string c.elem)
theorem keeps_cellB {w w' : World} {b0 : Nat} (k : Keeps w w' (fun x => x = b0)) {b j : Nat} {v : Value} (h : w.cell? ⟨b, j, none⟩ = some v) (hb : ¬ b = b0) : w'.cell? ⟨b, j, none⟩ = some v := by
  have hlt := World.block_lt_of_cell? w _ h
  have e := k.block b hlt hb
  unfold World.cell? at h ⊢
  simp only at h ⊢
  rw [e]
  exact h
theorem rl_end {R : CmdD × Int} {kk : Int} {w W : World} {br B it : Nat} {nm F : ByteArray} {oo : Int} {pos : Nat} {c : CmdD} {fv hv : Value} (h : RlS w br B it nm F kk oo pos c fv hv W) (hR : R = (c, 0)) {W' : World} (k : Keeps W W' (fun x => x = w.heap.size)) : RlP (if R.2 = 0 then (kk, R.1, 0) else (0, zeroC, R.2)) w (.returned (.tuple #[.int .i64 kk, .agg (c.vals fv hv), .int .i64 0])) W' := by
  subst hR
  have hne : ∀ {v : Value} {l : List Int}, IntsO w.heap.size W v l → IntsO w.heap.size W' v l := fun {v l} q => ownsRow_keeps q k (own_ne2 q h.res ints_ne)
  exact ⟨fv, hv, rfl, hne h.cmd.f, hne h.cmd.s, keeps_out h.keeps (Nat.le_refl _) k, h.cmd.ap⟩
theorem rl_err {R : CmdD × Int} {kk : Int} {w W : World} (k0 : Keeps w W (fun _ => False)) (x : Int) (hx : ¬ x = 0) (hR : R = (zeroC, x)) {W' : World} (k : Keeps W W' (fun x => x = w.heap.size)) : RlP (if R.2 = 0 then (kk, R.1, 0) else (0, zeroC, R.2)) w (.returned (.tuple #[.int .i64 0, .agg z9, .int .i64 x])) W' := by
  subst hR
  rw [if_neg hx]
  exact ⟨_, _, rfl, ints_none _ _, ints_none _ _, keeps_out k0 (Nat.le_refl _) k, fun _ q => nomatch q⟩
theorem letter_at (F : ByteArray) (pos : Nat) (h : pos < F.size) (hb : (F.data.toList[pos]'h).toNat < 128) : Utf8.decode F pos = ((F.data.toList[pos]'h).toNat, 1) := decode_ascii F pos h hb
set_option maxRecDepth 100000 in
set_option maxHeartbeats 8000000 in
theorem line_yes (last : Int) (v : Value) (nm : List UInt8) (fs : List (List UInt8)) (w : World) (hv : StrsIn w v (nm :: fs)) (hl : fs.length ≤ 8388600) (hz : ∀ x, x ∈ fs → x.length ≤ 8388608) (hR : RowsF w) (he : ErrW w) (i : Nat) (hi : i < 16) (hn : (nmN i).data.toList = nm) (hok : (mayF last (kN i) && fitN i fs.length) = true) : Calls Tryd.prog 19 #[.int .i64 last, v] w fun e w' => RlP (if (rowRd i fs).2 = 0 then (kN i, (rowRd i fs).1, 0) else (0, zeroC, (rowRd i fs).2)) w e w' := by
  obtain ⟨b, o, c, rfl, hc, hw⟩ := hv
  obtain ⟨fvv, hcut, hF⟩ := cut_strs (w := w) (b := b) (o := o) (n := (nm :: fs).length) (c := c) ⟨b, o, c, rfl, hc, hw⟩ 1 (by simp)
  have hcut1 : ∀ W, (Instr.slice 42 (.slice (some ⟨b, o, none⟩) (fs.length + 1) c) (some (.int .i64 1)) none none).run Tryd.prog W = .ok fvv W := hcut
  rw [show (nm :: fs).drop 1 = fs from rfl] at hF
  have HFS := hide hF
  obtain ⟨b1, o1, c1, rfl, -, -⟩ := hF
  have q0 : w.cell? ⟨b, o, none⟩ = some (.string (strOf nm)) := hw 0 (by simp)
  rw [Bool.and_eq_true] at hok
  have hM := fun W => may_any last (kN i) W
  rw [hok.1] at hM
  have HFt := hide (fun W => fits_any (strOf nm) (kN i) (oN i) i fs.length hi (by omega) W)
  rw [hok.2] at HFt
  have HL := hide (fun pos (hp : pos < (fmN i).data.toList.length) => And.intro (form_let i hi pos hp).1 (And.intro (form_let i hi pos hp).2.1 (form_fit hi hok.2 hp)))
  have HR := hide hR
  have Hi := hide hi
  have HE := hide he
  have Hz := hide hz
  have Hn : Hid (nmN i = strOf nm) := by
    rw [← hn, strOf_self]
    exact rfl
  obtain ⟨R, hRr⟩ : ∃ R, R = rowRd i fs := ⟨_, rfl⟩
  rw [← hRr]
  obtain ⟨RR, hRR⟩ : ∃ RR, RR = (if R.2 = 0 then (kN i, R.1, 0) else (0, zeroC, R.2)) := ⟨_, rfl⟩
  rw [← hRR]
  have HQ := hide hRR
  clear hRR
  unfold rowRd at hRr
  have HRr := hide hRr
  have Hin := hide (fun i2 (h2 : i2 < 16) (e : nmN i2 = strOf nm) => (show i2 = i from by
      have := nm_inj ⟨i2, h2⟩ ⟨i, hi⟩ (by show (nmN i2).data.toList = (nmN i).data.toList; rw [e, Hn.out])
      simpa using this))
  clear hw hcut hc hR hi hn hok he hz hRr
  go_enter Tryd.func19, Tryd.ntmps19
  go_upto_region 1 with fail
  refine alloc1 (P := fun W => Code.wp _ _ _ _ W) fun W0 hb0 hs0 k0 => ?_
  have hrow := rowNamedF_any (strOf nm) W0 (HR.out.keeps k0)
  have q1 := keeps_cell k0 q0
  have Hb0 := hide hb0
  have K0 := hide k0
  clear q0 hs0 hb0 k0
  go_wp2_with fail
  (with_reducible refine hrow.mono ?_)
  rintro e w1 ⟨⟨i2, hi2, hnm, rfl⟩ | ⟨hno, rfl⟩, k1⟩
  · obtain rfl : i2 = i := Hin.out i2 hi2 hnm
    have K1 := hide (K0.out.trans k1 (fun _ _ e => e))
    have Hb1 := hide (k1.blk8 Hb0.out)
    clear hrow k1 q1 Hb0 K0 hnm hi2 Hin Hn Hi
    generalize kN i2 = kk at *
    generalize oN i2 = oo at *
    generalize fmN i2 = F at *
    go_upto_region 2 with fail
    refine alloc1 (P := fun W => Code.wp _ _ _ _ W) fun W2 hb2 hs2 k2 => ?_
    have K2 := hide (K1.out.trans k2 (fun _ _ e => e))
    have Hb2 := hide (k2.blk8 Hb1.out)
    obtain ⟨r0, r1, r2, r3⟩ := at4 hb2
    have Hrow := hide hb2
    clear hb2 hs2 k2 K1 Hb1
    generalize w1.heap.size = br at *
    go_wp2_with fail
    (with_reducible refine (hM _).mono ?_)
    rintro e w3 ⟨rfl, rfl⟩
    go_wp2_with fail
    (with_reducible refine (HFt.out _).mono ?_)
    rintro e w4 ⟨rfl, k4⟩
    have K4 := hide (K2.out.trans k4 (fun _ _ e => e))
    have Hb4 := hide (k4.blk8 Hb2.out)
    have Hrow4 := hide (k4.blk8 Hrow.out)
    obtain ⟨r0, r1, r2, r3⟩ := at4 Hrow4.out
    clear k4 K2 Hb2 Hrow hM HFt
    go_upto_region 6 with fail
    refine alloc1 (P := fun W => Code.wp _ _ _ _ W) fun W5 hb5 hs5 k5 => ?_
    have K5 := hide (K4.out.trans k5 (fun _ _ e => e))
    have Hb5 := hide (k5.blk8 Hb4.out)
    have Hrow5 := hide (k5.blk8 Hrow4.out)
    obtain ⟨r0, r1, r2, r3⟩ := at4 Hrow5.out
    have Hc5 := hide hb5
    have HltB : Hid (w.heap.size < w4.heap.size) := heap_lt Hb4.out
    clear hb5 hs5 k5 K4 Hb4 Hrow4
    generalize w4.heap.size = B at *
    go_wp2_with fail
    clear r0 r1 r2 r3
    go_loopg [13] F.size (fun gm v13 wr => ∃ (pos : Nat) (c : CmdD) (fv hv : Value), gm = F.size - pos ∧ pos ≤ F.size ∧ RlS w br B W5.heap.size (strOf nm) F kk oo pos c fv hv wr ∧ Hid (R = rdFs c (F.data.toList.drop pos) (fs.drop pos)))
    case atStart =>
      have kI : Keeps W5 (W5.iter F 0) (fun _ => False) := (Keeps.refl _ _).alloc _
      refine ⟨0, { zeroC with op := oo }, .slice none 0 0, .slice none 0 0, rfl, Nat.zero_le _, ⟨kI.blk8 Hb5.out, kI.blk8 Hrow5.out, ⟨kI.blk8 Hc5.out, ints_none _ _, ints_none _ _, fun _ q => nomatch q⟩, World.iter_heap W5 F 0, K5.out.trans kI (fun _ _ e => e), HltB.out, K5.out.size⟩, HRr.out⟩
    case round =>
      obtain ⟨pos, c, fv, hv, rfl, hp, hs, HRR⟩ := hrel
      by_cases hlt : pos < F.size
      · have hN := fun ty => nextT_any (P := Tryd.prog) ty hs.itr hlt
        have hltl : pos < F.data.toList.length := hlt
        obtain ⟨l1, l2, l3, l4⟩ := HL.out pos hltl
        rw [letter_at F pos hlt l2] at hN
        have hs2 := hs.next (pos + 1)
        have hd : F.data.toList.drop pos = F.data.toList[pos] :: F.data.toList.drop (pos + 1) := List.drop_eq_getElem_cons hltl
        have hrr := HRR.out
        rw [hd, rdFs, List.drop_drop] at hrr
        obtain ⟨p, hpe⟩ : ∃ p, (F.data.toList[pos]'hltl).toNat = p := ⟨_, rfl⟩
        have hpe2 : (F.data.toList[pos]'hlt).toNat = p := hpe
        rw [hpe] at hrr l1 l2 l4
        rw [hpe2] at hN
        obtain ⟨b2, o2, c2, e2, hcl, hcw⟩ := HFS.out
        obtain ⟨fq, hcutp, hFq⟩ := cut_strs HFS.out pos l3
        have hcall := rf_any w.heap.size B c fv hv fq (fs.drop pos) (wr.putObj W5.heap.size (.stringIter F (pos + 1))) hs2.keeps.size hs2.cmd (hFq.keeps hs2.keeps) (by rw [List.length_drop]; omega) (fun x hx => Hz.out x (List.mem_of_mem_drop hx)) (HE.out.keeps hs2.keeps) p l1 (fun a b => by rw [List.length_drop]; have := l4 a b; omega)
        have Hms : Hid (F.size - (pos + 1) < F.size - pos) := by show F.size - (pos + 1) < F.size - pos; omega
        have Hs := hide hs2
        have Hrr := hide hrr
        obtain ⟨b3, o3, c3, rfl, -, -⟩ := hFq
        rw [List.length_drop] at hcall hcutp
        have hposi : (0 : Int) ≤ (pos : Int) := by omega
        clear hs hs2 hrr hd l1 l2 l4 hpe hpe2 hcl hcw e2 HRR hltl
        generalize hW1 : wr.putObj W5.heap.size (.stringIter F (pos + 1)) = W1 at *
        clear hW1
        generalize hG : rdF c (p : Int) (fs.drop pos) = G at *
        clear hG
        obtain ⟨G1, G2⟩ := G
        go_wp2_with fail
        (with_reducible refine hcall.mono ?_)
        rintro e W3 ⟨fv3, hv3, rfl, hO3, k3⟩
        have Hs3 := hide (Hs.out.read hO3 k3)
        clear hcall hO3 k3 Hs
        by_cases hG2 : G2 = 0
        · subst hG2
          have HRn : Hid (R = rdFs G1 (F.data.toList.drop (pos + 1)) (fs.drop (pos + 1))) := by
            have := Hrr.out
            rw [if_pos rfl] at this
            exact this
          clear Hrr
          go_wp2_with fail
          go_roundg (F.size - (pos + 1))
          case measure => exact Hms.out
          case rel => exact ⟨pos + 1, G1, fv3, hv3, rfl, hlt, Hs3.out, HRn.out⟩
        · have HRn : Hid (R = (zeroC, G2)) := by
            have := Hrr.out
            rw [if_neg hG2] at this
            exact this
          have hG2' : (G2 != 0) = true := by simpa using hG2
          have HG2 := hide hG2
          obtain ⟨e0, e1, e2, e3, e4, e5, e6, e7, e8⟩ := at9 Hs3.out.res
          obtain ⟨f0, f1, f2, f3, f4, f5, f6, f7, f8⟩ := fro9 Hs3.out.res
          clear Hrr hG2
          go_wp2_with fail
          refine set9 (P := fun W => bodyPost _ _ _ _ _ W) Hs3.out.res fun W9 hb9 k9 => ?_
          obtain ⟨e0, e1, e2, e3, e4, e5, e6, e7, e8⟩ := at9 hb9
          refine bodyPost_ret (v := .tuple #[.int .i64 0, .agg #[.int .i64 0, .int .i64 0, .slice none 0 0, .slice none 0 0, .int .u64 0, .int .u64 0, .int .i64 0, .string ⟨#[]⟩, .string ⟨#[]⟩], .int .i64 G2]) (by simp [results, Tryd.results19, go_sem, e0, e1, e2, e3, e4, e5, e6, e7, e8]) rfl ?_
          rw [HQ.out]
          exact rl_err Hs3.out.keeps G2 HG2.out HRn.out k9
      · obtain rfl : pos = F.size := by omega
        have hN := fun ty => nextT_end (P := Tryd.prog) ty hs.itr hlt
        have hrr := HRR.out
        rw [List.drop_of_length_le (show F.data.toList.length ≤ F.size from Nat.le_refl _), rdFs] at hrr
        have Hs := hide hs
        have Hrr := hide hrr
        clear hs hrr HRR
        obtain ⟨sf, nf, rfl⟩ := Hs.out.cmd.f.form
        obtain ⟨sh, nh, rfl⟩ := Hs.out.cmd.s.form
        obtain ⟨r0, r1, r2, r3⟩ := at4 Hs.out.row
        have hB9 : wr.heap[B]? = some (.cells #[.int .i64 c.op, .int .i64 c.h, .slice sf c.fl.length nf, .slice sh c.hl.length nh, .int .u64 (c.u : Int), .int .u64 (c.v : Int), .int .i64 c.n, .string c.key, .string c.elem] 33) := Hs.out.cmd.box
        have S0 : (fun w' : World => w'.cell? ⟨br, 1, none⟩ = some (.int .i64 kk) ∧ w'.cell? ⟨B, 0, none⟩ = some (.int .i64 c.op) ∧ w'.cell? ⟨B, 1, none⟩ = some (.int .i64 c.h) ∧ w'.cell? ⟨B, 2, none⟩ = some (.slice sf c.fl.length nf) ∧ w'.cell? ⟨B, 3, none⟩ = some (.slice sh c.hl.length nh) ∧ w'.cell? ⟨B, 4, none⟩ = some (.int .u64 (c.u : Int)) ∧ w'.cell? ⟨B, 5, none⟩ = some (.int .u64 (c.v : Int)) ∧ w'.cell? ⟨B, 6, none⟩ = some (.int .i64 c.n) ∧ w'.cell? ⟨B, 7, none⟩ = some (.string c.key) ∧ w'.cell? ⟨B, 8, none⟩ = some (.string c.elem)) wr.drew := ⟨r1, at9 hB9⟩
        obtain ⟨g0, g1, g2, g3, g4, g5, g6, g7, g8⟩ := at9 hB9
        obtain ⟨e0, e1, e2, e3, e4, e5, e6, e7, e8⟩ := at9 Hs.out.res
        obtain ⟨f0, f1, f2, f3, f4, f5, f6, f7, f8⟩ := fro9 Hs.out.res
        have d0 : wr.drew.cell? ⟨w.heap.size, 0, none⟩ = some (.int .i64 0) := e0
        have d1 : wr.drew.cell? ⟨w.heap.size, 1, none⟩ = some (.int .i64 0) := e1
        have d2 : wr.drew.cell? ⟨w.heap.size, 2, none⟩ = some (.slice none 0 0) := e2
        have d3 : wr.drew.cell? ⟨w.heap.size, 3, none⟩ = some (.slice none 0 0) := e3
        have d4 : wr.drew.cell? ⟨w.heap.size, 4, none⟩ = some (.int .u64 0) := e4
        have d5 : wr.drew.cell? ⟨w.heap.size, 5, none⟩ = some (.int .u64 0) := e5
        have d6 : wr.drew.cell? ⟨w.heap.size, 6, none⟩ = some (.int .i64 0) := e6
        have d7 : wr.drew.cell? ⟨w.heap.size, 7, none⟩ = some (.string ⟨#[]⟩) := e7
        have d8 : wr.drew.cell? ⟨w.heap.size, 8, none⟩ = some (.string ⟨#[]⟩) := e8
        have hnB : ¬ B = w.heap.size := by have := Hs.out.ltB; omega
        have hnR : ¬ br = w.heap.size := fun e => by
          have h1 := Hs.out.row
          rw [e, Hs.out.res] at h1
          injection h1 with h1
          injection h1 with _ h2 _
          exact absurd h2 (by decide)
        have S1 : (fun w' : World => w'.cell? ⟨br, 1, none⟩ = some (.int .i64 kk) ∧ w'.cell? ⟨B, 0, none⟩ = some (.int .i64 c.op) ∧ w'.cell? ⟨B, 1, none⟩ = some (.int .i64 c.h) ∧ w'.cell? ⟨B, 2, none⟩ = some (.slice sf c.fl.length nf) ∧ w'.cell? ⟨B, 3, none⟩ = some (.slice sh c.hl.length nh) ∧ w'.cell? ⟨B, 4, none⟩ = some (.int .u64 (c.u : Int)) ∧ w'.cell? ⟨B, 5, none⟩ = some (.int .u64 (c.v : Int)) ∧ w'.cell? ⟨B, 6, none⟩ = some (.int .i64 c.n) ∧ w'.cell? ⟨B, 7, none⟩ = some (.string c.key) ∧ w'.cell? ⟨B, 8, none⟩ = some (.string c.elem)) (((((((((wr.setCell ⟨w.heap.size, 0, none⟩ (.int .i64 c.op)).setCell ⟨w.heap.size, 1, none⟩ (.int .i64 c.h)).setCell ⟨w.heap.size, 2, none⟩ (.slice sf c.fl.length nf)).setCell ⟨w.heap.size, 3, none⟩ (.slice sh c.hl.length nh)).setCell ⟨w.heap.size, 4, none⟩ (.int .u64 (c.u : Int))).setCell ⟨w.heap.size, 5, none⟩ (.int .u64 (c.v : Int))).setCell ⟨w.heap.size, 6, none⟩ (.int .i64 c.n)).setCell ⟨w.heap.size, 7, none⟩ (.string c.key)).setCell ⟨w.heap.size, 8, none⟩ (.string c.elem)).drew := set9 (P := fun W => (fun w' : World => w'.cell? ⟨br, 1, none⟩ = some (.int .i64 kk) ∧ w'.cell? ⟨B, 0, none⟩ = some (.int .i64 c.op) ∧ w'.cell? ⟨B, 1, none⟩ = some (.int .i64 c.h) ∧ w'.cell? ⟨B, 2, none⟩ = some (.slice sf c.fl.length nf) ∧ w'.cell? ⟨B, 3, none⟩ = some (.slice sh c.hl.length nh) ∧ w'.cell? ⟨B, 4, none⟩ = some (.int .u64 (c.u : Int)) ∧ w'.cell? ⟨B, 5, none⟩ = some (.int .u64 (c.v : Int)) ∧ w'.cell? ⟨B, 6, none⟩ = some (.int .i64 c.n) ∧ w'.cell? ⟨B, 7, none⟩ = some (.string c.key) ∧ w'.cell? ⟨B, 8, none⟩ = some (.string c.elem)) W.drew) Hs.out.res (fun W' _ k' => ⟨keeps_cellB k' r1 hnR, keeps_cellB k' g0 hnB, keeps_cellB k' g1 hnB, keeps_cellB k' g2 hnB, keeps_cellB k' g3 hnB, keeps_cellB k' g4 hnB, keeps_cellB k' g5 hnB, keeps_cellB k' g6 hnB, keeps_cellB k' g7 hnB, keeps_cellB k' g8 hnB⟩)
        clear hnB hnR
        have HB9 := hide hB9
        clear hB9
        go_wp2_with fail
        go_region_held3 (fun w' : World => w'.cell? ⟨br, 1, none⟩ = some (.int .i64 kk) ∧ w'.cell? ⟨B, 0, none⟩ = some (.int .i64 c.op) ∧ w'.cell? ⟨B, 1, none⟩ = some (.int .i64 c.h) ∧ w'.cell? ⟨B, 2, none⟩ = some (.slice sf c.fl.length nf) ∧ w'.cell? ⟨B, 3, none⟩ = some (.slice sh c.hl.length nh) ∧ w'.cell? ⟨B, 4, none⟩ = some (.int .u64 (c.u : Int)) ∧ w'.cell? ⟨B, 5, none⟩ = some (.int .u64 (c.v : Int)) ∧ w'.cell? ⟨B, 6, none⟩ = some (.int .i64 c.n) ∧ w'.cell? ⟨B, 7, none⟩ = some (.string c.key) ∧ w'.cell? ⟨B, 8, none⟩ = some (.string c.elem)) (first | with_reducible exact S0 | with_reducible exact S1 | with_reducible assumption) (fail)
        refine set9 (P := fun W => Exit.then _ _ _ _ W.drew) Hs.out.res fun W9 h9 k9 => ?_
        clear S0 S1 g0 g1 g2 g3 g4 g5 g6 g7 g8 e0 e1 e2 e3 e4 e5 e6 e7 e8 d0 d1 d2 d3 d4 d5 d6 d7 d8 r0 r1 r2 r3
        have h9' : W9.drew.heap[w.heap.size]? = _ := h9
        obtain ⟨e0, e1, e2, e3, e4, e5, e6, e7, e8⟩ := at9 h9'
        have k9' : Keeps wr W9.drew (fun x => x = w.heap.size) := ⟨k9.os, k9.tape, k9.output, k9.size, k9.block⟩
        have HF : Hid (RlP RR w (.returned (.tuple #[.int .i64 kk, .agg (c.vals (.slice sf c.fl.length nf) (.slice sh c.hl.length nh)), .int .i64 0])) W9.drew) := by
          rw [HQ.out]
          exact rl_end Hs.out Hrr.out k9'
        clear k9 k9' h9 h9'
        go_wp2_with fail
        refine bodyPost_ret (v := .tuple #[.int .i64 kk, .agg #[.int .i64 c.op, .int .i64 c.h, .slice sf c.fl.length nf, .slice sh c.hl.length nh, .int .u64 (c.u : Int), .int .u64 (c.v : Int), .int .i64 c.n, .string c.key, .string c.elem], .int .i64 0]) (by simp [results, Tryd.results19, go_sem, e0, e1, e2, e3, e4, e5, e6, e7, e8]) rfl ?_
        exact HF.out
  · exact absurd Hn.out (hno i Hi.out)
end Go.Proofs.YtfpiibccggjjpaaDoor
