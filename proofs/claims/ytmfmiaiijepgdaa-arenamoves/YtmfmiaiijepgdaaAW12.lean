import Derived.Test.YtmfmiaiijepgdaaAW11
namespace Go.Proofs.Ytmfmiaiijepgdaa
open Go.RowKit Go.Shelf

set_option maxHeartbeats 1000000 in
theorem search_nil (a : Option Addr) (cap : Nat) (x : Int) (w : World) : Calls Try.prog 56 #[.slice a 0 cap, .int .i64 x] w fun e w' => SearchPost w [] x e w' := by
  have K0 := Keeps.refl w (fun _ => False)
  go_enter Try.func56, Try.ntmps56
  go_wp2_with fail
  go_loop [7, 8] (fun i j => i = .int .i64 0 ∧ j = .int .i64 0) (fun _ _ => 0)
  case atStart => exact ⟨rfl, rfl⟩
  case round =>
    obtain ⟨rfl, rfl⟩ := hrel
    go_wp2_with fail
    go_ret2
    exact ⟨rfl, K0⟩

/-- The list of offsets is nil, or lies in a row. -/
theorem ArenaAt.begs {w : World} {p : Nat} {c : AR} {d : AD} (h : ArenaAt w p c d) : (c.v = .slice none 0 0 ∧ d.L = []) ∨ ∃ g cap, c.v = .slice (some ⟨g, 0, none⟩) d.L.length cap ∧ ∀ j (hj : j < d.L.length), w.cell? ⟨g, j, none⟩ = some (.int .i64 (d.L[j].1 : Int)) := by
  rcases h.beg.2 with ⟨h2, h3⟩ | ⟨g, cap, cur, hv, hb, hg, r⟩
  · exact Or.inl ⟨h2, List.eq_nil_of_length_eq_zero h3⟩
  · obtain ⟨r1, r2, r3, r4⟩ := r
    refine Or.inr ⟨g, cap, hv, fun j hj => ?_⟩
    have hj' : j < d.begins.length := by rw [AD.begins_length]; exact hj
    have hlt : j < (cur.toList.take (d.L.length * 1)).length := by rw [r4]; simpa using hj'
    have e1 : (cur.toList.take (d.L.length * 1))[j]? = some (.int .i64 (d.L[j].1 : Int)) := by
      rw [r4]
      simp [AD.begins, cellI, hj]
    rw [List.getElem?_take] at e1
    simp only [World.cell?, hg]
    simpa [hj] using e1

def BoolPost (w : World) (t : Bool) (e : Ending) (w' : World) : Prop := e = .returned (.bool t) ∧ Keeps w w' (fun _ => False)

set_option maxHeartbeats 400000 in
theorem ins_out (w : World) (p : Nat) (k off n : Int) (h : k < 0 ∨ n < 0) :
    Calls Try.prog 57 #[.pointer (some ⟨p, 0, none⟩), .int .i64 k, .int .i64 off, .int .i64 n] w fun e w' => BoolPost w false e w' := by
  have K0 := Keeps.refl w (fun _ => False)
  by_cases h0 : k < 0
  · go_enter Try.func57, Try.ntmps57
    go_wp2_with fail
    go_ret
    exact ⟨rfl, K0⟩
  · have h1 : n < 0 := by omega
    go_enter Try.func57, Try.ntmps57
    go_wp2_with fail
    go_ret
    exact ⟨rfl, K0⟩

set_option maxHeartbeats 1000000 in
set_option maxRecDepth 100000 in
theorem ins_core (w : World) (p g cap bl k x len : Nat) (sz off n : Int) (c3 : w.cell? ⟨p, 3, none⟩ = some (.slice (some ⟨g, 0, none⟩) len cap)) (c4 : w.cell? ⟨p, 4, none⟩ = some (.map (some bl))) (hck : w.cell? ⟨g, k, none⟩ = some (.int .i64 (x : Int)))
    (hk : k < len) (hn : 0 ≤ n) (hn2 : n ≤ 9223372036854775807) (ho : (x : Int) ≤ off) (ho2 : off ≤ 9223372036854775807) (hsz : 0 ≤ sz ∧ sz ≤ 134217728) (t : Bool)
    (hlk : (Instr.lookup 77 (.map (some bl)) (.int .i64 (x : Int)) true).run Try.prog w = .ok (.tuple #[.int .i64 sz, .bool t]) w) :
    Calls Try.prog 57 #[.pointer (some ⟨p, 0, none⟩), .int .i64 (k : Int), .int .i64 off, .int .i64 n] w fun e w' => BoolPost w (t && decide (off - x ≤ sz - n)) e w' := by
  have K0 : Hid (Keeps w w (fun _ => False)) := Keeps.refl w (fun _ => False)
  have hk0 : ¬ (k : Int) < 0 := by omega
  have hk1 : (k : Int) < (len : Int) := by omega
  cases t
  · go_enter Try.func57, Try.ntmps57
    go_wp2_with fail
    go_ret
    exact ⟨rfl, K0.out⟩
  · have hw1 : IntKind.i64.wrap (off - (x : Int)) = off - (x : Int) := by rw [IntKind.wrap_i64]; omega
    have hw2 : IntKind.i64.wrap (sz - n) = sz - n := by rw [IntKind.wrap_i64]; omega
    go_enter Try.func57, Try.ntmps57
    go_wp2_with fail
    go_ret
    exact ⟨rfl, K0.out⟩

set_option maxHeartbeats 1000000 in
theorem ins_at {w : World} {p : Nat} {c : AR} {d : AD} (h : ArenaAt w p c d) (hF : d.Fine) (k : Nat) (hk : k < d.L.length) (off n : Int) (hn : 0 ≤ n) (hn2 : n ≤ 9223372036854775807) (ho : (d.L[k].1 : Int) ≤ off) (ho2 : off ≤ 9223372036854775807) :
    Calls Try.prog 57 #[.pointer (some ⟨p, 0, none⟩), .int .i64 (k : Int), .int .i64 off, .int .i64 n] w fun e w' => BoolPost w (d.insideAt k off n) e w' := by
  have htm := tiles_mem hF.tiles (List.getElem_mem hk)
  have hmost := hF.most
  have c3 := h.cell3
  have c4 := h.cell4
  rcases h.begs with ⟨_, hnil⟩ | ⟨g, cap, hv, hcell⟩
  · rw [hnil] at hk
    simp at hk
  · rw [hv] at c3
    have hck := hcell k hk
    have hlk := look_ok_int (w := w) Try.underlying3 Try.underlying77 (Try.zeroI _) h.live (x := (d.L[k].1 : Int)) (fitsI_mk (by omega) (by omega))
    have hres : d.insideAt k off n = ((d.lv d.L[k].1).isSome && decide (off - d.L[k].1 ≤ ((d.lv d.L[k].1).getD 0) - n)) := by
      unfold AD.insideAt
      rw [if_neg (by omega), Int.toNat_natCast, List.getElem?_eq_getElem hk]
    rw [hres]
    have hsz : 0 ≤ (d.lv d.L[k].1).getD 0 ∧ (d.lv d.L[k].1).getD 0 ≤ 134217728 := by
      cases hl : d.lv d.L[k].1 with
      | none => simp
      | some s =>
        obtain ⟨x, m, _, e2, hm⟩ := hF.live _ _ hl
        have := tiles_mem hF.tiles hm
        simp at this ⊢
        omega
    exact ins_core w p g cap c.bl k d.L[k].1 d.L.length _ off n c3 c4 hck hk hn hn2 ho ho2 hsz _ hlk

set_option maxHeartbeats 1000000 in
set_option maxRecDepth 100000 in
theorem good_core (w : World) (p : Nat) (v : Value) (off n : Int) (i : Nat) (t1 t2 t3 : Bool) (c3 : w.cell? ⟨p, 3, none⟩ = some v) (hi : i ≤ 134217728)
    (hS : Calls Try.prog 56 #[v, .int .i64 off] w fun e w' => e = .returned (.tuple #[.int .i64 (i : Int), .bool t1]) ∧ Keeps w w' (fun _ => False))
    (h1 : t1 = true → ∀ W, Keeps w W (fun _ => False) → Calls Try.prog 57 #[.pointer (some ⟨p, 0, none⟩), .int .i64 (i : Int), .int .i64 off, .int .i64 n] W fun e w' => BoolPost W t2 e w')
    (h2 : ∀ W, Keeps w W (fun _ => False) → Calls Try.prog 57 #[.pointer (some ⟨p, 0, none⟩), .int .i64 ((i : Int) - 1), .int .i64 off, .int .i64 n] W fun e w' => BoolPost W t3 e w') :
    Calls Try.prog 36 #[.pointer (some ⟨p, 0, none⟩), .int .i64 off, .int .i64 n] w fun e w' => BoolPost w ((t1 && t2) || t3) e w' := by
  go_enter Try.func36, Try.ntmps36
  go_wp2_with fail
  refine hS.mono ?_
  rintro e w1 ⟨rfl, k1⟩
  clear hS c3
  have hm1 : IntKind.i64.wrap ((i : Int) - 1) = (i : Int) - 1 := by rw [IntKind.wrap_i64]; omega
  cases t1
  · replace h2 := h2 w1 k1
    clear h1
    have K1 : Hid (Keeps w w1 (fun _ => False)) := k1
    clear k1
    go_wp2_with fail
    refine h2.mono ?_
    rintro e w2 ⟨rfl, k2⟩
    have K2 : Hid (Keeps w w2 (fun _ => False)) := K1.out.trans k2 (fun _ _ e => e)
    clear h2 k2 K1
    go_wp2_with fail
    go_ret
    exact ⟨rfl, K2.out⟩
  · replace h1 := h1 rfl w1 k1
    go_wp2_with fail
    refine h1.mono ?_
    rintro e w2 ⟨rfl, k2⟩
    have k12 := k1.trans k2 (fun _ _ e => e)
    clear h1 k1 k2
    cases t2
    · replace h2 := h2 w2 k12
      have K1 : Hid (Keeps w w2 (fun _ => False)) := k12
      clear k12
      go_wp2_with fail
      refine h2.mono ?_
      rintro e w3 ⟨rfl, k3⟩
      have K2 : Hid (Keeps w w3 (fun _ => False)) := K1.out.trans k3 (fun _ _ e => e)
      clear h2 k3 K1
      go_wp2_with fail
      go_ret
      exact ⟨rfl, K2.out⟩
    · clear h2
      have K1 : Hid (Keeps w w2 (fun _ => False)) := k12
      clear k12
      go_wp2_with fail
      go_ret
      exact ⟨rfl, K1.out⟩

theorem insideAt_neg (d : AD) (k off n : Int) (h : k < 0 ∨ n < 0) : d.insideAt k off n = false := by
  unfold AD.insideAt
  rw [if_pos h]

theorem good_any {w : World} {p : Nat} {c : AR} {d : AD} (h : ArenaAt w p c d) (hF : d.Fine) (off n : Int) (ho : fitsI off) (hn : fitsI n) :
    Calls Try.prog 36 #[.pointer (some ⟨p, 0, none⟩), .int .i64 off, .int .i64 n] w fun e w' => BoolPost w (d.goodB off n) e w' := by
  have hob := fitsI_bounds ho
  have hnb := fitsI_bounds hn
  have hL : d.L.length ≤ 134217728 := by have := tiles_length hF.tiles; have := hF.most; omega
  have hbl : d.begins.length = d.L.length := AD.begins_length d
  have hcp : d.begins.countP (fun y => decide (y < off)) ≤ d.L.length := by rw [← hbl]; exact List.countP_le_length
  have hS : Calls Try.prog 56 #[c.v, .int .i64 off] w fun e w' => SearchPost w d.begins off e w' := by
    rcases h.begs with ⟨hv, hnil⟩ | ⟨g, cap, hv, hcell⟩
    · rw [hv]
      have : d.begins = [] := by simp [AD.begins, hnil]
      rw [this]
      exact search_nil none 0 off w
    · rw [hv, ← hbl]
      refine search_some g 0 cap d.begins off w (by omega) (fun j hj => ?_) (hF.begins_sorted.imp (fun h => by omega))
      have hj' : j < d.L.length := by omega
      rw [Nat.zero_add, hcell j hj']
      simp [AD.begins, hj']
  rw [← hF.good_eq off n]
  have hC := fun {i : Nat} (hi : i < d.begins.length) => countP_lt_of_sorted (x := off) hF.begins_sorted hi
  have hget : ∀ {i : Nat} (hi : i < d.L.length), d.begins[i]'(by rw [AD.begins_length]; exact hi) = (d.L[i].1 : Int) := fun hi => by simp [AD.begins]
  refine good_core w p c.v off n _ _ _ _ h.cell3 (by omega) hS ?_ ?_
  · intro ht W k
    have hW := h.keeps k (fun _ _ e => e)
    by_cases hn0 : n < 0
    · rw [insideAt_neg _ _ _ _ (Or.inr hn0)]
      exact ins_out W p _ off n (Or.inr hn0)
    · rw [List.contains_iff_mem] at ht
      obtain ⟨i, hi, e⟩ := List.getElem_of_mem ht
      have hi' : i < d.L.length := by rw [← hbl]; exact hi
      have hiq : i = d.begins.countP (fun y => decide (y < off)) := by
        have h3 := hC hi
        rw [e] at h3
        have h4 : ¬ i < d.begins.countP (fun y => decide (y < off)) := fun h => by have := h3.2 h; omega
        rcases Nat.lt_or_ge (d.begins.countP (fun y => decide (y < off))) i with h5 | h5
        · have h6 := hC (i := d.begins.countP (fun y => decide (y < off))) (by omega)
          have h7 : d.begins[d.begins.countP (fun y => decide (y < off))]'(by omega) < d.begins[i] := (List.pairwise_iff_getElem.1 hF.begins_sorted) _ i (by omega) hi h5
          rw [e] at h7
          have := h6.1 h7
          omega
        · omega
      rw [← hiq]
      exact ins_at hW hF i hi' off n (by omega) hnb.2 (by rw [← hget hi', e]; exact Int.le_refl _) hob.2
  · intro W k
    have hW := h.keeps k (fun _ _ e => e)
    by_cases hn0 : n < 0
    · rw [insideAt_neg _ _ _ _ (Or.inr hn0)]
      exact ins_out W p _ off n (Or.inr hn0)
    · by_cases h0 : d.begins.countP (fun y => decide (y < off)) = 0
      · rw [h0, insideAt_neg _ _ _ _ (Or.inl (by simp))]
        exact ins_out W p _ off n (Or.inl (by simp))
      · obtain ⟨q, hq⟩ : ∃ q, d.begins.countP (fun y => decide (y < off)) = q + 1 := ⟨d.begins.countP (fun y => decide (y < off)) - 1, by omega⟩
        rw [hq]
        have e1 : (((q + 1 : Nat) : Int) - 1) = (q : Int) := by omega
        rw [e1]
        have hk : q < d.L.length := by omega
        have h3 := (hC (i := q) (by rw [hbl]; exact hk)).2 (by omega)
        rw [hget hk] at h3
        exact ins_at hW hF q hk off n (by omega) hnb.2 (by omega) hob.2
end Go.Proofs.Ytmfmiaiijepgdaa
