import Derived.Test.YtlpfnikhnchpdaaDoorLn10
/-
  lang: the law's exprs of what is alike.
-/
namespace Go.Proofs.YtlpfnikhnchpdaaDoor
namespace Lg
open Go.RowKit
set_option linter.unusedVariables false
mutual
def exN : Ex → Nat
  | .mk _ _ _ _ l => exsN l + 1
def exsN : List Ex → Nat
  | [] => 0
  | x :: r => exN x + exsN r + 1
end
theorem exsN_len : ∀ l, List.length l ≤ exsN l
  | [] => Nat.le_refl _
  | x :: r => by
    have := exsN_len r
    simp only [List.length_cons, exsN]
    omega
theorem exsN_at : ∀ (l : List Ex) (i : Nat) (x : Ex), l[i]? = some x → exN x ≤ exsN l
  | [], i, x, h => by simp at h
  | y :: r, 0, x, h => by
    simp only [List.getElem?_cons_zero, Option.some.injEq] at h
    subst h
    simp only [exsN]
    omega
  | y :: r, i + 1, x, h => by
    rw [List.getElem?_cons_succ] at h
    have := exsN_at r i x h
    simp only [exsN]
    omega
/-- The cells of one expression of a list. -/
theorem ExsC.at {w : World} {P : Nat → Prop} : ∀ {l : List Ex} {cells : List Value}, ExsC w P l cells → ∀ (i : Nat) (x : Ex), l[i]? = some x → ∃ c, ExC w P x c ∧ ∀ j v, c[j]? = some v → cells[i * 5 + j]? = some v
  | _, _, .nil, i, x, h => by simp at h
  | _, _, .cons (x := y) (r := r) (c := c) (d := d) hx hr, 0, x, h => by
    simp only [List.getElem?_cons_zero, Option.some.injEq] at h
    subst h
    refine ⟨c, hx, fun j v hj => ?_⟩
    have hlt : j < c.length := by
      rcases Nat.lt_or_ge j c.length with h | h
      · exact h
      · rw [List.getElem?_eq_none h] at hj; cases hj
    rw [Nat.zero_mul, Nat.zero_add, List.getElem?_append_left hlt]
    exact hj
  | _, _, .cons (x := y) (r := r) (c := c) (d := d) hx hr, i + 1, x, h => by
    rw [List.getElem?_cons_succ] at h
    obtain ⟨c', h1, h2⟩ := ExsC.at hr i x h
    refine ⟨c', h1, fun j v hj => ?_⟩
    have hc : c.length = 5 := by
      obtain ⟨k, n, nm, op, sp, sm, sc, rfl⟩ := hx.form
      rfl
    rw [show (i + 1) * 5 + j = c.length + (i * 5 + j) by omega, List.getElem?_append_right (by omega), Nat.add_sub_cancel_left]
    exact h2 j v hj
/-- The expression number i of a list in memory: its five cells. -/
theorem ArgsV.at {w : World} {P : Nat → Prop} {l : List Ex} {v : Value} (h : ArgsV w P l v) {i : Nat} (hi : i < l.length) : ∃ g c k n nm op args sp sm sc, v = .slice (Option.some ⟨g, 0, none⟩) l.length c ∧ l.length ≤ c ∧ l[i]? = Option.some (.mk k n nm op args) ∧ w.cell? ⟨g, i * 5, none⟩ = Option.some (.int .i64 k) ∧ w.cell? ⟨g, i * 5 + 1, none⟩ = Option.some (.int .i64 n) ∧ w.cell? ⟨g, i * 5 + 2, none⟩ = Option.some (.string (sB nm)) ∧ w.cell? ⟨g, i * 5 + 3, none⟩ = Option.some (.string (sB op)) ∧ w.cell? ⟨g, i * 5 + 4, none⟩ = Option.some (.slice sp sm sc) ∧ ArgsV w P args (.slice sp sm sc) := by
  cases h with
  | nil => simp at hi
  | @some g c _ cells hg hl hc hr h =>
    obtain ⟨x, hx⟩ : ∃ x, l[i]? = Option.some x := ⟨l[i], List.getElem?_eq_getElem hi⟩
    obtain ⟨cs, hX, hcs⟩ := h.at i x hx
    cases hX with
    | @mk k n nm op args sv ha =>
      obtain ⟨sp, sm, sc, rfl⟩ := ha.form
      have q := fun j v hj => hr (i * 5 + j) v (hcs j v hj)
      simp only [Nat.zero_add] at q
      exact ⟨g, c, k, n, nm, op, args, sp, sm, sc, rfl, hc, hx, q 0 _ rfl, q 1 _ rfl, q 2 _ rfl, q 3 _ rfl, q 4 _ rfl, ha⟩
theorem ArgsV.len {w : World} {P : Nat → Prop} {l : List Ex} {v : Value} (h : ArgsV w P l v) : ∃ p c, v = .slice p l.length c := by
  cases h with
  | nil => exact ⟨none, 0, rfl⟩
  | some => exact ⟨_, _, rfl⟩
theorem kcell {w w' : World} (k : Keeps w w' (fun _ => False)) {p : Addr} {v : Value} (h : w.cell? p = some v) : w'.cell? p = some v := by
  have hb : p.block < w.heap.size := World.block_lt_of_cell? w p h
  rw [← h]
  simp only [World.cell?]
  rw [k.block _ hb id]

set_option maxRecDepth 100000 in
set_option maxHeartbeats 4000000 in
theorem exprs_nil (w : World) (p1 p2 : Option Addr) (c1 c2 : Nat) : Calls Tryd.prog 58 #[.slice p1 0 c1, .slice p2 0 c2] w fun e w' => e = .returned (.bool true) ∧ Keeps w w' (fun _ => False) := by
  go_enter Tryd.func58, Tryd.ntmps58
  go_wp2_with fail
  go_loopw [15] (fun v13 wr => v13 = .int .i64 0 ∧ wr = w) (fun _ _ => 0)
  case atStart => exact ⟨rfl, rfl⟩
  case round =>
    obtain ⟨rfl, rfl⟩ := hrel
    go_wp2_with fail
    go_ret
    exact ⟨rfl, Keeps.refl _ _⟩

set_option maxRecDepth 100000 in
set_option maxHeartbeats 4000000 in
theorem exprs_step {N : Nat} (hN : N < 1099511627776) (ih : ∀ (l : List Ex) (w : World) (P1 P2 : Nat → Prop) (v1 v2 : Value), exsN l ≤ N → ArgsV w P1 l v1 → ArgsV w P2 l v2 → Calls Tryd.prog 58 #[v1, v2] w fun e w' => e = .returned (.bool true) ∧ Keeps w w' (fun _ => False))
    (l : List Ex) (w : World) (P1 P2 : Nat → Prop) (v1 v2 : Value) (hl : exsN l ≤ N + 1) (h1 : ArgsV w P1 l v1) (h2 : ArgsV w P2 l v2) : Calls Tryd.prog 58 #[v1, v2] w fun e w' => e = .returned (.bool true) ∧ Keeps w w' (fun _ => False) := by
  obtain ⟨p1, c1, rfl⟩ := h1.len
  obtain ⟨p2, c2, rfl⟩ := h2.len
  have hlen := exsN_len l
  have HX := hide h1
  have HY := hide h2
  have HN := hide (And.intro hl hlen)
  have HH := hide hN
  have IH := hide ih
  clear h1 h2 hl hlen hN ih
  go_enter Tryd.func58, Tryd.ntmps58
  go_wp2_with fail
  go_loopw [15] (fun v13 wr => ∃ i : Nat, v13 = .int .i64 (i : Int) ∧ i ≤ l.length ∧ Keeps w wr (fun _ => False)) (fun v13 _ => l.length - (intOf v13).toNat)
  case atStart => exact ⟨0, rfl, Nat.zero_le _, Keeps.refl _ _⟩
  case round =>
    obtain ⟨i, rfl, hi, K⟩ := hrel
    by_cases hlt : i < l.length
    · have hlt' : (i : Int) < (l.length : Int) := by omega
      have h0' : (0 : Int) ≤ (i : Int) := by omega
      obtain ⟨g, c, k, n, nm, op, args, sp, sm, sc, e1, hc1, hx, q0, q1, q2, q3, q4, hA⟩ := HX.out.at hlt
      obtain ⟨g', c', k', n', nm', op', args', sp', sm', sc', e2, hc2, hx', r0, r1, r2, r3, r4, hA'⟩ := HY.out.at hlt
      rw [hx] at hx'
      injection hx' with hx'
      injection hx' with z1 z2 z3 z4 z5
      subst z1
      subst z2
      subst z3
      subst z4
      subst z5
      injection e1 with e1 _ d1
      injection e2 with e2 _ d2
      subst e1
      subst e2
      subst d1
      subst d2
      have Hms : Hid (l.length - (i + 1) < l.length - i) := by show l.length - (i + 1) < l.length - i; omega
      have Hi : Hid (i + 1 ≤ l.length) := hlt
      have hn : i ≤ 1099511627776 := by have := HN.out; have := HH.out; omega
      have a6 : IntKind.i64.wrap ((i : Int) + 1) = (i : Int) + 1 := by rw [IntKind.wrap_i64]; omega
      have hs1 : exsN args ≤ N := by
        have e := exsN_at _ _ _ hx
        simp only [exN] at e
        have := HN.out
        omega
      replace q0 := kcell K q0
      replace q1 := kcell K q1
      replace q2 := kcell K q2
      replace q3 := kcell K q3
      replace q4 := kcell K q4
      replace r0 := kcell K r0
      replace r1 := kcell K r1
      replace r2 := kcell K r2
      replace r3 := kcell K r3
      replace r4 := kcell K r4
      have HA := hide (And.intro (hA.keeps K (fun _ _ q => q)) (And.intro (hA'.keeps K (fun _ _ q => q)) hs1))
      have HK := hide K
      clear K hi hn hx hA hA' hc1 hc2 hs1
      go_upto_region 7 with fail
      refine alloc1 (P := fun W => Code.wp _ _ _ _ W) fun W1 b1 hz1 k1 => ?_
      replace r0 := kcell k1 r0
      replace r1 := kcell k1 r1
      replace r2 := kcell k1 r2
      replace r3 := kcell k1 r3
      replace r4 := kcell k1 r4
      clear q0 q1 q2 q3 q4
      have B1 : Hid (Xc W1 wr.heap.size (.int .i64 k) (.int .i64 n) (.string (sB nm)) (.string (sB op)) (.slice sp sm sc)) := hide b1
      replace HA := hide (And.intro (HA.out.1.keeps k1 (fun _ _ q => q)) (And.intro (HA.out.2.1.keeps k1 (fun _ _ q => q)) HA.out.2.2))
      replace HK := hide (HK.out.trans k1 (fun _ _ q => q))
      clear b1 hz1 k1
      generalize wr.heap.size = ga at *
      go_upto_region 8 with fail
      refine alloc1 (P := fun W => Code.wp _ _ _ _ W) fun W2 b2 hz2 k2 => ?_
      have B2 : Xc W2 W1.heap.size (.int .i64 k) (.int .i64 n) (.string (sB nm)) (.string (sB op)) (.slice sp' sm' sc') := b2
      have B1' := B1.out.keeps k2 id
      replace HA := hide (And.intro (HA.out.1.keeps k2 (fun _ _ q => q)) (And.intro (HA.out.2.1.keeps k2 (fun _ _ q => q)) HA.out.2.2))
      replace HK := hide (HK.out.trans k2 (fun _ _ q => q))
      clear r0 r1 r2 r3 r4 b2 hz2 k2 B1
      obtain ⟨⟨q0, q1, q2, q3, q4⟩, -⟩ := B1'.cells
      obtain ⟨⟨r0, r1, r2, r3, r4⟩, -⟩ := B2.cells
      have hc := IH.out args W2 _ _ _ _ HA.out.2.2 HA.out.1 HA.out.2.1
      clear B1' B2
      go_wp2_with fail
      refine hc.mono ?_
      rintro e w4 ⟨rfl, k4⟩
      replace HK := hide (HK.out.trans k4 (fun _ _ q => q))
      clear hc k4 q0 q1 q2 q3 q4 r0 r1 r2 r3 r4
      go_wp2_with fail
      go_roundw
      case rel => exact ⟨i + 1, by go_num, Hi.out, HK.out⟩
      case measure => simp [intOf]; exact Hms.out
    · obtain rfl : i = l.length := by omega
      have hlt' : ¬ (l.length : Int) < (l.length : Int) := by omega
      have HK := hide K
      clear K
      go_wp2_with fail
      go_ret
      exact ⟨rfl, HK.out⟩
theorem exprs_true : ∀ N, N ≤ 1099511627776 → ∀ (l : List Ex) (w : World) (P1 P2 : Nat → Prop) (v1 v2 : Value), exsN l ≤ N → ArgsV w P1 l v1 → ArgsV w P2 l v2 → Calls Tryd.prog 58 #[v1, v2] w fun e w' => e = .returned (.bool true) ∧ Keeps w w' (fun _ => False) := by
  intro N
  induction N with
  | zero =>
    intro _ l w P1 P2 v1 v2 hl h1 h2
    exact exprs_step (N := 0) (by decide) (fun l w P1 P2 v1 v2 hl h1 h2 => by
      have hlen := exsN_len l
      have : l = [] := List.length_eq_zero_iff.1 (by omega)
      subst this
      obtain ⟨p1, c1, rfl⟩ := h1.len
      obtain ⟨p2, c2, rfl⟩ := h2.len
      exact exprs_nil w p1 p2 c1 c2) l w P1 P2 v1 v2 (by omega) h1 h2
  | succ N ih =>
    intro hN l w P1 P2 v1 v2 hl h1 h2
    exact exprs_step (by omega) (fun l w P1 P2 v1 v2 hl h1 h2 => ih (by omega) l w P1 P2 v1 v2 hl h1 h2) l w P1 P2 v1 v2 hl h1 h2
end Lg
end Go.Proofs.YtlpfnikhnchpdaaDoor
/-
  lang: the law's stmts, names, same of what is alike.
-/
namespace Go.Proofs.YtlpfnikhnchpdaaDoor
namespace Lg
open Go.RowKit
set_option linter.unusedVariables false
mutual
def stN : St → Nat
  | .mk _ _ _ _ es bd el => exsN es + stsN bd + stsN el + 1
def stsN : List St → Nat
  | [] => 0
  | x :: r => stN x + stsN r + 1
end
theorem stsN_len : ∀ l, List.length l ≤ stsN l
  | [] => Nat.le_refl _
  | x :: r => by
    have := stsN_len r
    simp only [List.length_cons, stsN]
    omega
theorem stsN_at : ∀ (l : List St) (i : Nat) (x : St), l[i]? = some x → stN x ≤ stsN l
  | [], i, x, h => by simp at h
  | y :: r, 0, x, h => by
    simp only [List.getElem?_cons_zero, Option.some.injEq] at h
    subst h
    simp only [stsN]
    omega
  | y :: r, i + 1, x, h => by
    rw [List.getElem?_cons_succ] at h
    have := stsN_at r i x h
    simp only [stsN]
    omega
theorem StsC.at {w : World} {P : Nat → Prop} : ∀ {l : List St} {cells : List Value}, StsC w P l cells → ∀ (i : Nat) (x : St), l[i]? = some x → ∃ c, StC w P x c ∧ ∀ j v, c[j]? = some v → cells[i * 7 + j]? = some v
  | _, _, .nil, i, x, h => by simp at h
  | _, _, .cons (x := y) (r := r) (c := c) (d := d) hx hr, 0, x, h => by
    simp only [List.getElem?_cons_zero, Option.some.injEq] at h
    subst h
    refine ⟨c, hx, fun j v hj => ?_⟩
    have hlt : j < c.length := by
      rcases Nat.lt_or_ge j c.length with h | h
      · exact h
      · rw [List.getElem?_eq_none h] at hj; cases hj
    rw [Nat.zero_mul, Nat.zero_add, List.getElem?_append_left hlt]
    exact hj
  | _, _, .cons (x := y) (r := r) (c := c) (d := d) hx hr, i + 1, x, h => by
    rw [List.getElem?_cons_succ] at h
    obtain ⟨c', h1, h2⟩ := StsC.at hr i x h
    refine ⟨c', h1, fun j v hj => ?_⟩
    have hc : c.length = 7 := by
      obtain ⟨k, nm, ky, vl, ep, em, ec, bp, bm, bc, lp, lm, lc, rfl⟩ := hx.form
      rfl
    rw [show (i + 1) * 7 + j = c.length + (i * 7 + j) by omega, List.getElem?_append_right (by omega), Nat.add_sub_cancel_left]
    exact h2 j v hj
/-- The statement number i of a list in memory. -/
theorem StsV.at {w : World} {P : Nat → Prop} {l : List St} {v : Value} (h : StsV w P l v) {i : Nat} (hi : i < l.length) : ∃ g c k nm ky vl es bd el ep em ec bp bm bc lp lm lc, v = .slice (Option.some ⟨g, 0, none⟩) l.length c ∧ l[i]? = Option.some (.mk k nm ky vl es bd el) ∧ w.cell? ⟨g, i * 7, none⟩ = Option.some (.int .i64 k) ∧ w.cell? ⟨g, i * 7 + 1, none⟩ = Option.some (.string (sB nm)) ∧ w.cell? ⟨g, i * 7 + 2, none⟩ = Option.some (.string (sB ky)) ∧ w.cell? ⟨g, i * 7 + 3, none⟩ = Option.some (.string (sB vl)) ∧ w.cell? ⟨g, i * 7 + 4, none⟩ = Option.some (.slice ep em ec) ∧ w.cell? ⟨g, i * 7 + 5, none⟩ = Option.some (.slice bp bm bc) ∧ w.cell? ⟨g, i * 7 + 6, none⟩ = Option.some (.slice lp lm lc) ∧ ArgsV w P es (.slice ep em ec) ∧ StsV w P bd (.slice bp bm bc) ∧ StsV w P el (.slice lp lm lc) := by
  cases h with
  | nil => simp at hi
  | @some g c _ cells hg hl hc hr h =>
    obtain ⟨x, hx⟩ : ∃ x, l[i]? = Option.some x := ⟨l[i], List.getElem?_eq_getElem hi⟩
    obtain ⟨cs, hX, hcs⟩ := h.at i x hx
    cases hX with
    | @mk k nm ky vl es bd el ev bv lv he hb hl2 =>
      obtain ⟨ep, em, ec, rfl⟩ := he.form
      obtain ⟨bp, bm, bc, rfl⟩ := hb.form
      obtain ⟨lp, lm, lc, rfl⟩ := hl2.form
      have q := fun j v hj => hr (i * 7 + j) v (hcs j v hj)
      simp only [Nat.zero_add] at q
      exact ⟨g, c, k, nm, ky, vl, es, bd, el, ep, em, ec, bp, bm, bc, lp, lm, lc, rfl, hx, q 0 _ rfl, q 1 _ rfl, q 2 _ rfl, q 3 _ rfl, q 4 _ rfl, q 5 _ rfl, q 6 _ rfl, he, hb, hl2⟩
theorem StsV.len {w : World} {P : Nat → Prop} {l : List St} {v : Value} (h : StsV w P l v) : ∃ p c, v = .slice p l.length c := by
  cases h with
  | nil => exact ⟨none, 0, rfl⟩
  | some => exact ⟨_, _, rfl⟩

set_option maxRecDepth 100000 in
set_option maxHeartbeats 4000000 in
theorem stmts_nil (w : World) (p1 p2 : Option Addr) (c1 c2 : Nat) : Calls Tryd.prog 33 #[.slice p1 0 c1, .slice p2 0 c2] w fun e w' => e = .returned (.bool true) ∧ Keeps w w' (fun _ => False) := by
  go_enter Tryd.func33, Tryd.ntmps33
  go_wp2_with fail
  go_loopw [15] (fun v13 wr => v13 = .int .i64 0 ∧ wr = w) (fun _ _ => 0)
  case atStart => exact ⟨rfl, rfl⟩
  case round =>
    obtain ⟨rfl, rfl⟩ := hrel
    go_wp2_with fail
    go_ret
    exact ⟨rfl, Keeps.refl _ _⟩

set_option maxRecDepth 100000 in
set_option maxHeartbeats 4000000 in
theorem stmts_step {N : Nat} (hN : N < 1099511627776) (ih : ∀ (l : List St) (w : World) (P1 P2 : Nat → Prop) (v1 v2 : Value), stsN l ≤ N → StsV w P1 l v1 → StsV w P2 l v2 → Calls Tryd.prog 33 #[v1, v2] w fun e w' => e = .returned (.bool true) ∧ Keeps w w' (fun _ => False))
    (l : List St) (w : World) (P1 P2 : Nat → Prop) (v1 v2 : Value) (hl : stsN l ≤ N + 1) (h1 : StsV w P1 l v1) (h2 : StsV w P2 l v2) : Calls Tryd.prog 33 #[v1, v2] w fun e w' => e = .returned (.bool true) ∧ Keeps w w' (fun _ => False) := by
  obtain ⟨p1, c1, rfl⟩ := h1.len
  obtain ⟨p2, c2, rfl⟩ := h2.len
  have hlen := stsN_len l
  have HX := hide h1
  have HY := hide h2
  have HN := hide (And.intro hl hlen)
  have HH := hide hN
  have IH := hide ih
  clear h1 h2 hl hlen hN ih
  go_enter Tryd.func33, Tryd.ntmps33
  go_wp2_with fail
  go_loopw [15] (fun v13 wr => ∃ i : Nat, v13 = .int .i64 (i : Int) ∧ i ≤ l.length ∧ Keeps w wr (fun _ => False)) (fun v13 _ => l.length - (intOf v13).toNat)
  case atStart => exact ⟨0, rfl, Nat.zero_le _, Keeps.refl _ _⟩
  case round =>
    obtain ⟨i, rfl, hi, K⟩ := hrel
    by_cases hlt : i < l.length
    · have hlt' : (i : Int) < (l.length : Int) := by omega
      have h0' : (0 : Int) ≤ (i : Int) := by omega
      obtain ⟨g, c, k, nm, ky, vl, es, bd, el, ep, em, ec, bp, bm, bc, lp, lm, lc, e1, hx, q0, q1, q2, q3, q4, q5, q6, hE, hB, hL⟩ := HX.out.at hlt
      obtain ⟨g', c', k', nm', ky', vl', es', bd', el', ep', em', ec', bp', bm', bc', lp', lm', lc', e2, hx', r0, r1, r2, r3, r4, r5, r6, hE', hB', hL'⟩ := HY.out.at hlt
      rw [hx] at hx'
      injection hx' with hx'
      injection hx' with z1 z2 z3 z4 z5 z6 z7
      subst z1
      subst z2
      subst z3
      subst z4
      subst z5
      subst z6
      subst z7
      injection e1 with e1 _ d1
      injection e2 with e2 _ d2
      subst e1
      subst e2
      subst d1
      subst d2
      have Hms : Hid (l.length - (i + 1) < l.length - i) := by show l.length - (i + 1) < l.length - i; omega
      have Hi : Hid (i + 1 ≤ l.length) := hlt
      have hn : i ≤ 1099511627776 := by have := HN.out; have := HH.out; omega
      have a6 : IntKind.i64.wrap ((i : Int) + 1) = (i : Int) + 1 := by rw [IntKind.wrap_i64]; omega
      have hs1 : exsN es ≤ 1099511627776 ∧ stsN bd ≤ N ∧ stsN el ≤ N := by
        have e := stsN_at _ _ _ hx
        simp only [stN] at e
        have := HN.out
        have := HH.out
        omega
      replace q0 := kcell K q0
      replace q1 := kcell K q1
      replace q2 := kcell K q2
      replace q3 := kcell K q3
      replace q4 := kcell K q4
      replace q5 := kcell K q5
      replace q6 := kcell K q6
      replace r0 := kcell K r0
      replace r1 := kcell K r1
      replace r2 := kcell K r2
      replace r3 := kcell K r3
      replace r4 := kcell K r4
      replace r5 := kcell K r5
      replace r6 := kcell K r6
      have HA : Hid (∀ W, Keeps wr W (fun _ => False) → ArgsV W P1 es (.slice ep em ec) ∧ ArgsV W P2 es (.slice ep' em' ec') ∧ StsV W P1 bd (.slice bp bm bc) ∧ StsV W P2 bd (.slice bp' bm' bc') ∧ StsV W P1 el (.slice lp lm lc) ∧ StsV W P2 el (.slice lp' lm' lc')) := hide (fun W k =>
        ⟨ArgsV.keeps (K.trans k (fun _ _ q => q)) (fun _ _ q => q) hE, ArgsV.keeps (K.trans k (fun _ _ q => q)) (fun _ _ q => q) hE', StsV.keeps (K.trans k (fun _ _ q => q)) (fun _ _ q => q) hB, StsV.keeps (K.trans k (fun _ _ q => q)) (fun _ _ q => q) hB', StsV.keeps (K.trans k (fun _ _ q => q)) (fun _ _ q => q) hL, StsV.keeps (K.trans k (fun _ _ q => q)) (fun _ _ q => q) hL'⟩)
      have HS := hide hs1
      have HK0 := hide K
      have HK := hide (Keeps.refl wr (fun _ => False))
      clear K hi hn hx hE hE' hB hB' hL hL' hs1
      go_upto_region 7 with fail
      refine alloc1 (P := fun W => Code.wp _ _ _ _ W) fun W1 b1 hz1 k1 => ?_
      replace r0 := kcell k1 r0
      replace r1 := kcell k1 r1
      replace r2 := kcell k1 r2
      replace r3 := kcell k1 r3
      replace r4 := kcell k1 r4
      replace r5 := kcell k1 r5
      replace r6 := kcell k1 r6
      clear q0 q1 q2 q3 q4 q5 q6
      have B1 : Hid (Sc W1 wr.heap.size (.int .i64 k) (.string (sB nm)) (.string (sB ky)) (.string (sB vl)) (.slice ep em ec) (.slice bp bm bc) (.slice lp lm lc)) := hide b1
      replace HK := hide (HK.out.trans k1 (fun _ _ q => q))
      clear b1 hz1 k1
      generalize wr.heap.size = ga at *
      go_upto_region 8 with fail
      refine alloc1 (P := fun W => Code.wp _ _ _ _ W) fun W2 b2 hz2 k2 => ?_
      have B2 : Hid (Sc W2 W1.heap.size (.int .i64 k) (.string (sB nm)) (.string (sB ky)) (.string (sB vl)) (.slice ep' em' ec') (.slice bp' bm' bc') (.slice lp' lm' lc')) := hide b2
      replace B1 := hide (B1.out.keeps k2 id)
      replace HK := hide (HK.out.trans k2 (fun _ _ q => q))
      clear r0 r1 r2 r3 r4 r5 r6 b2 hz2 k2
      obtain ⟨⟨q0, q1, q2, q3, q4, q5, q6⟩, -⟩ := B1.out.cells
      obtain ⟨⟨r0, r1, r2, r3, r4, r5, r6⟩, -⟩ := B2.out.cells
      have hc := exprs_true _ (Nat.le_refl _) es W2 _ _ _ _ HS.out.1 (HA.out _ HK.out).1 (HA.out _ HK.out).2.1
      go_wp2_with fail
      refine hc.mono ?_
      rintro e w4 ⟨rfl, k4⟩
      replace HK := hide (HK.out.trans k4 (fun _ _ q => q))
      replace B1 := hide (B1.out.keeps k4 id)
      replace B2 := hide (B2.out.keeps k4 id)
      clear hc k4 q0 q1 q2 q3 q4 q5 q6 r0 r1 r2 r3 r4 r5 r6
      obtain ⟨⟨q0, q1, q2, q3, q4, q5, q6⟩, -⟩ := B1.out.cells
      obtain ⟨⟨r0, r1, r2, r3, r4, r5, r6⟩, -⟩ := B2.out.cells
      have hc := IH.out bd w4 _ _ _ _ HS.out.2.1 (HA.out _ HK.out).2.2.1 (HA.out _ HK.out).2.2.2.1
      go_wp2_with fail
      refine hc.mono ?_
      rintro e w5 ⟨rfl, k4⟩
      replace HK := hide (HK.out.trans k4 (fun _ _ q => q))
      replace B1 := hide (B1.out.keeps k4 id)
      replace B2 := hide (B2.out.keeps k4 id)
      clear hc k4 q0 q1 q2 q3 q4 q5 q6 r0 r1 r2 r3 r4 r5 r6
      obtain ⟨⟨q0, q1, q2, q3, q4, q5, q6⟩, -⟩ := B1.out.cells
      obtain ⟨⟨r0, r1, r2, r3, r4, r5, r6⟩, -⟩ := B2.out.cells
      have hc := IH.out el w5 _ _ _ _ HS.out.2.2 (HA.out _ HK.out).2.2.2.2.1 (HA.out _ HK.out).2.2.2.2.2
      go_wp2_with fail
      refine hc.mono ?_
      rintro e w6 ⟨rfl, k4⟩
      have HKE := hide (HK0.out.trans (HK.out.trans k4 (fun _ _ q => q)) (fun _ _ q => q))
      clear hc k4 q0 q1 q2 q3 q4 q5 q6 r0 r1 r2 r3 r4 r5 r6 HK B1 B2 HA HK0
      go_wp2_with fail
      go_roundw
      case rel => exact ⟨i + 1, by go_num, Hi.out, HKE.out⟩
      case measure => simp [intOf]; exact Hms.out
    · obtain rfl : i = l.length := by omega
      have hlt' : ¬ (l.length : Int) < (l.length : Int) := by omega
      have HK := hide K
      clear K
      go_wp2_with fail
      go_ret
      exact ⟨rfl, HK.out⟩
theorem stmts_true : ∀ N, N ≤ 1099511627776 → ∀ (l : List St) (w : World) (P1 P2 : Nat → Prop) (v1 v2 : Value), stsN l ≤ N → StsV w P1 l v1 → StsV w P2 l v2 → Calls Tryd.prog 33 #[v1, v2] w fun e w' => e = .returned (.bool true) ∧ Keeps w w' (fun _ => False) := by
  intro N
  induction N with
  | zero =>
    intro _ l w P1 P2 v1 v2 hl h1 h2
    exact stmts_step (N := 0) (by decide) (fun l w P1 P2 v1 v2 hl h1 h2 => by
      have hlen := stsN_len l
      have : l = [] := List.length_eq_zero_iff.1 (by omega)
      subst this
      obtain ⟨p1, c1, rfl⟩ := h1.len
      obtain ⟨p2, c2, rfl⟩ := h2.len
      exact stmts_nil w p1 p2 c1 c2) l w P1 P2 v1 v2 (by omega) h1 h2
  | succ N ih =>
    intro hN l w P1 P2 v1 v2 hl h1 h2
    exact stmts_step (by omega) (fun l w P1 P2 v1 v2 hl h1 h2 => ih (by omega) l w P1 P2 v1 v2 hl h1 h2) l w P1 P2 v1 v2 hl h1 h2
end Lg
end Go.Proofs.YtlpfnikhnchpdaaDoor
/-
  lang: the law's names, same of what is alike.
-/
namespace Go.Proofs.YtlpfnikhnchpdaaDoor
namespace Lg
open Go.RowKit
set_option linter.unusedVariables false
theorem StrsR.len {W : World} {base : Nat} {v : Value} {l : List Bs} (h : StrsR W base v l) : ∃ p c, v = .slice p l.length c := by
  rcases h.2 with ⟨rfl, hn⟩ | ⟨g, cap, cur, rfl, r⟩
  · rw [hn]
    exact ⟨none, 0, rfl⟩
  · exact ⟨_, _, rfl⟩
theorem StrsR.at {W : World} {base : Nat} {v : Value} {l : List Bs} (h : StrsR W base v l) {i : Nat} (hi : i < l.length) : ∃ g c s, v = .slice (some ⟨g, 0, none⟩) l.length c ∧ l[i]? = some s ∧ W.cell? ⟨g, i, none⟩ = some (.string (sB s)) := by
  have h0 := h
  rcases h.2 with ⟨rfl, hn⟩ | ⟨g, cap, cur, rfl, r⟩
  · omega
  · obtain ⟨-, -, -, hr⟩ := row_range h0 rfl
    refine ⟨g, cap, l[i], rfl, List.getElem?_eq_getElem hi, ?_⟩
    have q := hr i (.string (sB l[i])) (by rw [List.getElem?_map, List.getElem?_eq_getElem hi]; rfl)
    rwa [Nat.zero_add] at q

set_option maxRecDepth 100000 in
set_option maxHeartbeats 4000000 in
theorem names_true (l : List Bs) (hl : l.length ≤ 1099511627776) (w : World) (b1 b2 : Nat) (v1 v2 : Value) (h1 : StrsR w b1 v1 l) (h2 : StrsR w b2 v2 l) : Calls Tryd.prog 32 #[v1, v2] w fun e w' => e = .returned (.bool true) ∧ Keeps w w' (fun _ => False) := by
  obtain ⟨p1, c1, rfl⟩ := h1.len
  obtain ⟨p2, c2, rfl⟩ := h2.len
  have HX := hide h1
  have HY := hide h2
  have HN := hide hl
  clear h1 h2 hl
  go_enter Tryd.func32, Tryd.ntmps32
  go_wp2_with fail
  go_loopw [13] (fun v13 wr => ∃ i : Nat, v13 = .int .i64 (i : Int) ∧ i ≤ l.length ∧ Keeps w wr (fun _ => False)) (fun v13 _ => l.length - (intOf v13).toNat)
  case atStart => exact ⟨0, rfl, Nat.zero_le _, Keeps.refl _ _⟩
  case round =>
    obtain ⟨i, rfl, hi, K⟩ := hrel
    by_cases hlt : i < l.length
    · have hlt' : (i : Int) < (l.length : Int) := by omega
      have h0' : (0 : Int) ≤ (i : Int) := by omega
      obtain ⟨g, c, s, e1, hx, q0⟩ := HX.out.at hlt
      obtain ⟨g', c', s', e2, hx', r0⟩ := HY.out.at hlt
      rw [hx] at hx'
      injection hx' with hx'
      subst hx'
      injection e1 with e1 _ d1
      injection e2 with e2 _ d2
      subst e1
      subst e2
      subst d1
      subst d2
      have Hms : Hid (l.length - (i + 1) < l.length - i) := by show l.length - (i + 1) < l.length - i; omega
      have Hi : Hid (i + 1 ≤ l.length) := hlt
      have hn : i ≤ 1099511627776 := by have := HN.out; omega
      have a6 : IntKind.i64.wrap ((i : Int) + 1) = (i : Int) + 1 := by rw [IntKind.wrap_i64]; omega
      replace q0 := kcell K q0
      replace r0 := kcell K r0
      have HK := hide K
      clear K hi hn hx
      have S0 : (fun w' : World => w'.cell? ⟨g, i, none⟩ = some (.string (sB s)) ∧ w'.cell? ⟨g', i, none⟩ = some (.string (sB s))) wr.drew := ⟨q0, r0⟩
      go_wp2_with fail
      go_region_held3 (fun w' : World => w'.cell? ⟨g, i, none⟩ = some (.string (sB s)) ∧ w'.cell? ⟨g', i, none⟩ = some (.string (sB s))) (first | with_reducible exact S0 | with_reducible assumption) (fail)
      all_goals (
        go_wp2_with fail
        go_roundw
        case rel => exact ⟨i + 1, by go_num, Hi.out, HK.out.drew⟩
        case measure => simp [intOf]; exact Hms.out)
    · obtain rfl : i = l.length := by omega
      have hlt' : ¬ (l.length : Int) < (l.length : Int) := by omega
      have HK := hide K
      clear K
      go_wp2_with fail
      go_ret
      exact ⟨rfl, HK.out⟩
def pgN (p : Pg) : Nat := p.maps.length + stsN p.stmts

set_option maxRecDepth 100000 in
set_option maxHeartbeats 4000000 in
theorem same_true (p : Pg) (hp : pgN p ≤ 1099511627776) (w : World) (b1 b2 : Nat) (v1 v2 : Value) (h1 : PgG b1 p v1 w) (h2 : PgG b2 p v2 w) : Calls Tryd.prog 10 #[v1, v2] w fun e w' => e = .returned (.bool true) ∧ Keeps w w' (fun _ => False) := by
  obtain ⟨m1, l1, rfl, hm1, hl1⟩ := h1
  obtain ⟨m2, l2, rfl, hm2, hl2⟩ := h2
  obtain ⟨ma, mb, mc, rfl⟩ := hm1.form
  obtain ⟨na, nb, nc, rfl⟩ := hm2.form
  obtain ⟨la, lb, lc, rfl⟩ := hl1.form
  obtain ⟨oa, ob, oc, rfl⟩ := hl2.form
  have hN : p.maps.length ≤ 1099511627776 ∧ stsN p.stmts ≤ 1099511627776 := by unfold pgN at hp; omega
  have HN : Hid (∀ W, Keeps w W (fun _ => False) → Calls Tryd.prog 32 #[.slice ma mb mc, .slice na nb nc] W fun e w' => e = .returned (.bool true) ∧ Keeps W w' (fun _ => False)) := hide (fun W k => names_true _ hN.1 W b1 b2 _ _ (hm1.keeps k (fun _ _ q => q)) (hm2.keeps k (fun _ _ q => q)))
  have HS : Hid (∀ W, Keeps w W (fun _ => False) → Calls Tryd.prog 33 #[.slice la lb lc, .slice oa ob oc] W fun e w' => e = .returned (.bool true) ∧ Keeps W w' (fun _ => False)) := hide (fun W k => stmts_true _ (Nat.le_refl _) _ W _ _ _ _ hN.2 (StsV.keeps k (fun _ _ q => q) hl1) (StsV.keeps k (fun _ _ q => q) hl2))
  clear hm1 hm2 hl1 hl2 hN hp
  go_enter Tryd.func10, Tryd.ntmps10
  go_upto_region 1 with fail
  refine alloc2v (P := fun W => Code.wp _ _ _ _ W) fun W0 g0 g1 k0 => ?_
  have P0 : P2 W0 w.heap.size (.slice ma mb mc) (.slice la lb lc) := g0
  have P1 : P2 W0 (w.heap.size + 1) (.slice na nb nc) (.slice oa ob oc) := g1
  obtain ⟨⟨c0, c1⟩, -⟩ := P0.cells
  obtain ⟨⟨d0, d1⟩, -⟩ := P1.cells
  have hc := HN.out W0 k0
  have HK := hide k0
  clear g0 g1 k0
  go_wp2_with fail
  refine hc.mono ?_
  rintro e w4 ⟨rfl, k4⟩
  replace HK := hide (HK.out.trans k4 (fun _ _ q => q))
  replace P0 := P0.keeps k4 id
  replace P1 := P1.keeps k4 id
  clear hc k4 c0 c1 d0 d1
  obtain ⟨⟨c0, c1⟩, -⟩ := P0.cells
  obtain ⟨⟨d0, d1⟩, -⟩ := P1.cells
  have hc := HS.out w4 HK.out
  go_wp2_with fail
  refine hc.mono ?_
  rintro e w5 ⟨rfl, k5⟩
  have HKE := hide (HK.out.trans k5 (fun _ _ q => q))
  clear hc k5 c0 c1 d0 d1 P0 P1
  go_wp2_with fail
  go_ret
  exact ⟨rfl, HKE.out⟩
end Lg
end Go.Proofs.YtlpfnikhnchpdaaDoor
