/-
  script: bytesText.
-/
import Derived.Test.YtpkbjjbbdhehdaaDoorSC2
import Derived.Laws.MakeOwn
import Derived.Deep.RegionHeld3
import Derived.Deep.RegionLaw
namespace Go.Proofs.YtpkbjjbbdhehdaaDoor
open Go.RowKit
set_option linter.unusedVariables false

/-- Several elements are appended: their cells lie in block h. -/
theorem append_list {P : Program} (t e : TypeId) (z : Value) (bytes : Nat) (ht : P.underlying t = some (.slice e)) (hi : (P.info? e).map (fun i => (i.zero, i.size, i.bytes)) = some (some z, 1, bytes)) (hz1 : z.cells.size = 1)
    {w : World} {base : Nat} {v : Value} {n : Nat} {xs : List Value} (hown : w.ownsRow base e 1 v n xs) {h m : Nat} {us : List Value} {ut : TypeId} {fz : Nat × Nat} (hu : w.heap[h]? = some (.cells us.toArray ut fz)) (hm : us.length = m) (h0 : 0 < m) (h1 : ∀ u ∈ us, u.oneCell' = true) (c : Nat)
    (hbytes : (n + m) * bytes ≤ 140737488355328) (hbn : n + m ≤ maxLen) (hbase : base ≤ w.heap.size) :
    ∃ g cap w', (∀ ty, (Builtin.append_ #[t, t] ty #[v, .slice (some ⟨h, 0, none⟩) m c]).run P w = .ok (.slice (some ⟨g, 0, none⟩) (n + m) cap) w') ∧
      w'.ownsRow base e 1 (.slice (some ⟨g, 0, none⟩) (n + m) cap) (n + m) (xs ++ us) ∧ Keeps w w' (fun k => v.ownBlock = some k) ∧ (v.ownBlock = some g ∨ g = w.heap.size) := by
  obtain ⟨i, hi1, hi2, hi3, hi4⟩ := info_parts hi
  obtain ⟨g, cap, w', hr, h2, h3, h4, _⟩ := run_append_lies (P := P) w t 0 base e i z 1 bytes ht hi1 hi2 hi3 hi4 hz1 (by omega) v n xs hown ⟨h, 0, none⟩ m c us (by omega)
    (fun j x hj => by
      rw [addr_add, Nat.zero_add]
      simp only [World.cell?, hu]
      simpa using hj) h1 h0 hbn hbytes hbase w.heap.size rfl
  exact ⟨g, cap, w', fun ty => hr, h2, Keeps.ofGrown h3, h4⟩
theorem step_append_run {P : Program} {w : World} {ops : Array Oper} {o : Oper} {a : Act} {K : Act → World → Prop} {Q : Exit → Act → World → Prop} {E : Prop} (hgd : o.guard = none) (s x : Operand) (t : TypeId)
    (ho : o.op = .call { callee := .builtin .append, args := #[s, x], argTypes := #[t, t] }) {v u v' : Value} {w' : World} (hs : a.eval s = v) (hx : a.eval x = u)
    (hrun : ∀ ty, (Builtin.append_ #[t, t] ty #[v, u]).run P w = .ok v' w') (h : K (a.put o.dst v') w') :
    if Region.wanted o (yielded ops a.tmps) = true then Oper.wp P o a w K Q else E := by
  have hw : Region.wanted o (yielded ops a.tmps) = true := by simp [Region.wanted, hgd]
  rw [if_pos hw]
  unfold Oper.wp execOp
  simp only [ho, resolve, invoke, builtin, Sem.run_bind, Sem.run_pure, Result.andThen_ok, List.map_toArray, List.map_cons, List.map_nil, hs, hx, hrun]
  exact h
set_option maxRecDepth 100000 in
theorem and15 (x : UInt8) : bits BinOp.and IntKind.u8 (x.toNat : Int) 15 = (x.toNat : Int) % 16 := by
  have : ∀ n : Fin 256, bits BinOp.and IntKind.u8 ((n.1 : Nat) : Int) 15 = ((n.1 : Nat) : Int) % 16 := by decide
  exact this ⟨x.toNat, x.toNat_lt⟩
def dig : ByteArray := ⟨#[48, 49, 50, 51, 52, 53, 54, 55, 56, 57, 97, 98, 99, 100, 101, 102]⟩
theorem dig_get {q : Nat} (h : q < 16) (h2 : q < dig.size) : dig[q] = hexC q := by
  have : ∀ q : Fin 16, dig[q.1]'(by have := q.2; exact this) = hexC q.1 := by decide
  exact this ⟨q, h⟩

set_option maxRecDepth 100000 in
set_option maxHeartbeats 2000000 in
theorem btext_any (s : ByteArray) (hs : s.size ≤ 8388608) (w : World) : Calls Tryd.prog 27 #[.string s] w fun e w' => e = .returned (.string (bytesD s)) ∧ Keeps w w' (fun _ => False) := by
  by_cases h0 : s.data.toList = []
  · have hs0 : s = ⟨#[]⟩ := by
      apply ByteArray.ext
      exact Array.toList_inj.1 h0
    subst hs0
    go_enter Tryd.func27, Tryd.ntmps27
    go_wp2_with fail
    go_ret
    exact ⟨by simp [bytesD], Keeps.refl _ _⟩
  · obtain ⟨S, hS⟩ : ∃ S, bytesD s = S := ⟨_, rfl⟩
    have hb : Hid (strOf (hexL s.data.toList) = S) := (if_neg h0).symm.trans hS
    rw [hS]
    clear hS
    have hne : s.toList.isEmpty = false := by
      rw [ByteArray.toList_eq, List.isEmpty_eq_false_iff]
      exact h0
    have hsz : s.data.toList.length = s.size := rfl
    obtain ⟨i5, q1, q2, q3, q4⟩ := info_parts Tryd.infoE
    obtain ⟨c0, hc0⟩ : ∃ c0, 2 * s.size = c0 := ⟨_, rfl⟩
    obtain ⟨w0, hmk, hown0, hgr0⟩ := run_make_own (P := Tryd.prog) w w.heap.size 39 5 i5 (.int .u8 0) 1 Tryd.underlying39 q1 q2 q3 .i64 .i64 c0 (by rw [q4]; omega) (by simp only [maxLen]; omega) (Nat.le_refl _)
    have K0 : Keeps w w0 (fun _ => False) := (Keeps.ofGrown hgr0).mono (fun _ _ e => by cases e)
    have e2 : (2 * (s.size : Int)) = (c0 : Int) := by omega
    rw [← e2] at hmk
    have HO := hide hown0
    have HK0 := hide K0
    clear hown0 K0 hgr0 e2 q1 q2 q3 q4 hc0
    go_enter Tryd.func27, Tryd.ntmps27
    go_wp2_with fail
    clear hmk
    go_loopw [3, 13] (fun v3 v13 wr => ∃ i : Nat, v13 = .int .i64 (i : Int) ∧ i ≤ s.size ∧ wr.ownsRow w.heap.size 5 1 v3 (2 * i) (cellsOf (hexL (s.data.toList.take i))) ∧ Keeps w wr (fun _ => False)) (fun _ v13 _ => s.size - (intOf v13).toNat)
    case atStart => exact ⟨0, rfl, Nat.zero_le _, HO.out, HK0.out⟩
    case round =>
      obtain ⟨i, rfl, hi, hrow, K⟩ := hrel
      by_cases hlt : i < s.size
      · have hlt' : (i : Int) < (s.size : Int) := by omega
        obtain ⟨x, hx⟩ : ∃ x, s[i] = x := ⟨_, rfl⟩
        have hxl : s.data.toList[i]'(by omega) = x := hx
        have hx256 := x.toNat_lt
        have hd1 : x.toNat / 16 < 16 := by omega
        have hd2 : x.toNat % 16 < 16 := by omega
        have hz := K.size
        have hT := hide (hexL_take (s := s.data.toList) (i := i) (by omega))
        rw [hxl] at hT
        obtain ⟨g1, c1, w1, hr1, hown1, kk1, -⟩ := append_list (P := Tryd.prog) 39 5 (.int .u8 0) 1 Tryd.underlying39 Tryd.infoE rfl ((ownsRow_drew hrow).alloc (.cells #[.int .u8 ((hexC (x.toNat / 16)).toNat : Int), .int .u8 ((hexC (x.toNat % 16)).toNat : Int)] 5)) (us := [.int .u8 ((hexC (x.toNat / 16)).toNat : Int), .int .u8 ((hexC (x.toNat % 16)).toNat : Int)]) (heap_alloc_new wr.drew (.cells #[.int .u8 ((hexC (x.toNat / 16)).toNat : Int), .int .u8 ((hexC (x.toNat % 16)).toNat : Int)] 5)) (m := 2) rfl (by omega) (by simp [Value.oneCell']) 2 (by omega) (by simp only [maxLen]; omega) (by rw [World.size_alloc]; show w.heap.size ≤ wr.heap.size + 1; omega)
        have kW1 : Keeps w w1 (fun _ => False) := (K.drew.alloc _).trans kk1 (fun q hq e => by
          have := (ownsRow_block hrow e).1
          omega)
        have HN : Hid (w1.ownsRow w.heap.size 5 1 (.slice (some ⟨g1, 0, none⟩) (2 * i + 2) c1) (2 * (i + 1)) (cellsOf (hexL (s.data.toList.take (i + 1)))) ∧ Keeps w w1 (fun _ => False)) := by
          refine ⟨?_, kW1⟩
          rw [hT.out, show 2 * (i + 1) = 2 * i + 2 by omega]
          simpa [cellsOf, hexD, cellOf] using hown1
        have hc1 : (0 : Int) ≤ (x.toNat : Int) / 16 := by omega
        have hc2 : (x.toNat : Int) / 16 < 16 := by omega
        have e1 : ((x.toNat : Int) / 16).toNat = x.toNat / 16 := by omega
        have g1' : ∀ h, (⟨#[48, 49, 50, 51, 52, 53, 54, 55, 56, 57, 97, 98, 99, 100, 101, 102]⟩ : ByteArray)[((x.toNat : Int) / 16).toNat]'h = hexC (x.toNat / 16) := fun h => by
          have := dig_get hd1 hd1
          simp only [e1]
          exact this
        clear e1
        have h15 := and15 x
        have hc3 : (0 : Int) ≤ (x.toNat : Int) % 16 := by omega
        have hc4 : (x.toNat : Int) % 16 < 16 := by omega
        have e2 : ((x.toNat : Int) % 16).toNat = x.toNat % 16 := by omega
        have g2' : ∀ h, (⟨#[48, 49, 50, 51, 52, 53, 54, 55, 56, 57, 97, 98, 99, 100, 101, 102]⟩ : ByteArray)[((x.toNat : Int) % 16).toNat]'h = hexC (x.toNat % 16) := fun h => by
          have := dig_get hd2 hd2
          simp only [e2]
          exact this
        clear e2
        have b4 : i ≤ 1099511627776 := by omega
        have Hi : Hid (i + 1 ≤ s.size) := hlt
        have Hms : Hid (s.size - (i + 1) < s.size - i) := by show s.size - (i + 1) < s.size - i; omega
        obtain ⟨a6, a7⟩ := wr64s b4
        clear b4
        clear hrow K hown1 kk1 kW1 hT hxl hz hb h0 hsz
        go_wp2_with fail
        go_region_law (refine step_append_run (by rfl) _ _ 39 (by rfl) (by rfl) (by rfl) hr1 ?_)
        all_goals (
          go_wp2_with fail
          refine ⟨⟨i + 1, by go_num, Hi.out, HN.out.1, HN.out.2⟩, ?_⟩
          simp [intOf]
          exact Hms.out)
      · obtain rfl : i = s.size := by omega
        have hlt' : ¬ (s.size : Int) < (s.size : Int) := by omega
        have hL : (hexL s.data.toList).length = 2 * s.size := by rw [hexL_length]; omega
        rw [List.take_of_length_le (Nat.le_of_eq hsz)] at hrow
        rcases hrow.2 with ⟨rfl, e0⟩ | ⟨g, cap, cur, rfl, -, -, -⟩
        · exfalso
          apply h0
          apply List.eq_nil_of_length_eq_zero
          omega
        · have htx := run_text wr ⟨g, 0, none⟩ cap (2 * s.size) (hexL s.data.toList) hL (fun j hj => by
            rw [addr_add, Nat.zero_add]
            have := hrow.cellAt j (by omega)
            rw [this]
            simp only [cellsOf, List.getElem?_map, List.getElem?_eq_getElem hj, Option.map_some, cellOf])
          rw [hb.out] at htx
          have HK := hide K
          clear hrow K hb hL
          go_wp2_with fail
          go_ret
          exact ⟨rfl, HK.out⟩
end Go.Proofs.YtpkbjjbbdhehdaaDoor
