import Derived.Lib.SlicesSearch
import Derived.Deep.LoopGhost
import Derived.Great.BuildSlice
import Derived.Laws.Bits64
import Derived.Test.YtdlibnjgmdffnaaGreatFn3
namespace Go.Proofs.YtdlibnjgmdffnaaGreat
open Go.RowKit Go.Shelf

theorem cnan_any (x : Int) (w : World) : Calls Tryz.prog 116 #[.int .i64 x] w fun e w' => e = .returned (.bool false) ∧ w' = w := by
  go_enter Tryz.func116, Tryz.ntmps116
  go_wp2
  go_ret
  exact ⟨by simp, rfl⟩
theorem snan_any (x : Int) (w : World) : Calls Tryz.prog 104 #[.int .i64 x] w fun e w' => e = .returned (.bool false) ∧ w' = w := by
  go_enter Tryz.func104, Tryz.ntmps104
  go_wp2
  go_ret
  exact ⟨by simp, rfl⟩
theorem less_any (x y : Int) (w : World) : Calls Tryz.prog 103 #[.int .i64 x, .int .i64 y] w fun e w' => e = .returned (.bool (decide (x < y))) ∧ w' = w := by
  have h := cnan_any x w
  go_enter Tryz.func103, Tryz.ntmps103
  go_wp2_with (go_at_call 116; refine (cnan_any _ _).mono ?_; rintro e w' ⟨rfl, rfl⟩)
  go_ret
  exact ⟨rfl, rfl⟩

def SearchPost (w : World) (zs : List Int) (x : Int) (e : Ending) (w' : World) : Prop :=
  e = .returned (.tuple #[.int .i64 ((zs.countP (fun y => decide (y < x)) : Nat) : Int), .bool (zs.contains x)]) ∧ Keeps w w' (fun _ => False)

set_option maxHeartbeats 4000000 in
set_option maxRecDepth 1000000 in
theorem search_some (b o cap : Nat) (zs : List Int) (x : Int) (w : World) (hbig : zs.length < 4611686018427387904) (hc : ∀ j, j < zs.length → w.cell? ⟨b, o + j, none⟩ = some (.int .i64 (zs.getD j 0))) (hs : zs.Pairwise (· ≤ ·)) :
    Calls Tryz.prog 84 #[.slice (some ⟨b, o, none⟩) zs.length cap, .int .i64 x] w fun e w' => SearchPost w zs x e w' := by
  have hs' : (zs.take zs.length).Pairwise (· ≤ ·) := by rw [List.take_length]; exact hs
  have S : Hid (∀ a b, a ≤ b → b < zs.length → zs.getD a 0 ≤ zs.getD b 0) := Lib.sorted_at zs zs.length (Nat.le_refl _) hs'
  clear hs hs'
  obtain ⟨n, hn⟩ : ∃ n, n = zs.length := ⟨_, rfl⟩
  have N : Hid (n = zs.length) := hn
  rw [← hn] at hbig hc S ⊢
  clear hn
  go_enter Tryz.func84, Tryz.ntmps84
  go_wp2_with fail
  go_loopg [7, 8] n (fun g s7 s8 wr => ∃ lo hi q : Nat, s7 = .int .i64 lo ∧ s8 = .int .i64 hi ∧ lo ≤ hi ∧ hi ≤ n ∧ hi - lo ≤ g ∧ wr = w.drewN q ∧ (∀ t, t < lo → zs.getD t 0 < x) ∧ (∀ t, hi ≤ t → t < n → x ≤ zs.getD t 0))
  case atStart => exact ⟨0, n, 0, rfl, rfl, Nat.zero_le _, Nat.le_refl _, by omega, rfl, fun t ht => absurd ht (Nat.not_lt_zero _), fun t h1 h2 => by omega⟩
  case round =>
    obtain ⟨lo, hi, q, rfl, rfl, hlh, hin, hg, rfl, h1, h2⟩ := hrel
    have I : Hid ((∀ t, t < lo → zs.getD t 0 < x) ∧ (∀ t, hi ≤ t → t < n → x ≤ zs.getD t 0)) := ⟨h1, h2⟩
    clear h1 h2
    by_cases hlt : lo < hi
    · have cm : w.cell? ⟨b, o + (lo + hi) / 2, none⟩ = some (.int .i64 (zs.getD ((lo + hi) / 2) 0)) := hc _ (by omega)
      clear hc
      generalize hy : zs.getD ((lo + hi) / 2) 0 = y at cm
      have Y : Hid (zs.getD ((lo + hi) / 2) 0 = y) := hy
      clear hy
      by_cases hyx : y < x
      · go_wp2_with (first | (go_at_call 103; refine (less_any _ _ _).mono ?_; rintro e w' ⟨rfl, rfl⟩))
        go_roundg (hi - ((lo + hi) / 2 + 1))
        case measure => omega
        case rel =>
          refine ⟨(lo + hi) / 2 + 1, hi, _, by rw [show ((lo : Int) + (hi : Int)) / 2 + 1 = (((lo + hi) / 2 + 1 : Nat) : Int) by omega], rfl, by omega, hin, Nat.le_refl _, rfl, fun t ht => ?_, I.out.2⟩
          have := S.out t ((lo + hi) / 2) (by omega) (by omega)
          rw [Y.out] at this
          omega
      · go_wp2_with (first | (go_at_call 103; refine (less_any _ _ _).mono ?_; rintro e w' ⟨rfl, rfl⟩))
        go_roundg ((lo + hi) / 2 - lo)
        case measure => omega
        case rel =>
          refine ⟨lo, (lo + hi) / 2, _, rfl, by rw [show ((lo : Int) + (hi : Int)) / 2 = (((lo + hi) / 2 : Nat) : Int) by omega], by omega, by omega, Nat.le_refl _, rfl, I.out.1, fun t ht htn => ?_⟩
          have := S.out ((lo + hi) / 2) t ht htn
          rw [Y.out] at this
          omega
    · have : hi = lo := by omega
      subst this
      have hE := Lib.search_end zs n hi x (by rw [N.out]; exact Nat.le_refl _) hin I.out.1 I.out.2 S.out
      rw [show zs.take n = zs from by rw [N.out, List.take_length]] at hE
      have E : Hid (zs.countP (fun y => decide (y < x)) = hi ∧ zs.contains x = decide (hi < n ∧ zs.getD hi 0 = x)) := hE
      clear hE
      have K0 := Keeps.refl w (fun _ => False)
      by_cases hn : hi < n
      · have cl : w.cell? ⟨b, o + hi, none⟩ = some (.int .i64 (zs.getD hi 0)) := hc _ (by omega)
        clear hc
        generalize hy : zs.getD hi 0 = y at cl
        have Y : Hid (zs.getD hi 0 = y) := hy
        clear hy
        by_cases hyx : y = x
        · go_wp2_with (first | (go_at_call 104; refine (snan_any _ _).mono ?_; rintro e w' ⟨rfl, rfl⟩))
          go_ret2
          refine ⟨?_, K0.drewN _⟩
          rw [E.out.1, E.out.2, Y.out, decide_eq_true (show hi < n ∧ y = x from ⟨hn, hyx⟩)]
          first | rfl | simp [*]
        · go_wp2_with (first | (go_at_call 104; refine (snan_any _ _).mono ?_; rintro e w' ⟨rfl, rfl⟩))
          go_ret2
          refine ⟨?_, K0.drewN _⟩
          rw [E.out.1, E.out.2, Y.out, decide_eq_false (show ¬ (hi < n ∧ y = x) from fun h => hyx h.2)]
          first | rfl | simp [*]
      · clear hc
        go_wp2_with (first | (go_at_call 104; refine (snan_any _ _).mono ?_; rintro e w' ⟨rfl, rfl⟩))
        go_ret2
        refine ⟨?_, K0.drewN _⟩
        rw [E.out.1, E.out.2, decide_eq_false (show ¬ (hi < n ∧ zs.getD hi 0 = x) from fun h => hn h.1)]
        first | rfl | simp [*]
end Go.Proofs.YtdlibnjgmdffnaaGreat
namespace Go.Proofs.YtdlibnjgmdffnaaGreat
open Go.RowKit Go.Shelf

set_option maxHeartbeats 1000000 in
theorem search_nil (a : Option Addr) (cap : Nat) (x : Int) (w : World) : Calls Tryz.prog 84 #[.slice a 0 cap, .int .i64 x] w fun e w' => SearchPost w [] x e w' := by
  have K0 := Keeps.refl w (fun _ => False)
  go_enter Tryz.func84, Tryz.ntmps84
  go_wp2_with fail
  go_loop [7, 8] (fun i j => i = .int .i64 0 ∧ j = .int .i64 0) (fun _ _ => 0)
  case atStart => exact ⟨rfl, rfl⟩
  case round =>
    obtain ⟨rfl, rfl⟩ := hrel
    go_wp2_with fail
    go_ret2
    exact ⟨rfl, K0⟩

/-- The list of offsets is nil, or lies in a row. -/
theorem ArenaAt.begs {w : World} {p : Nat} {c : AR} {d : AD} (h : ArenaAt w p c d) : (c.v = .slice none 0 0 ∧ d.L = []) ∨ ∃ g cap, c.v = .slice (some ⟨g, 0, none⟩) d.L.length cap ∧ ∀ j (hj : j < d.L.length), w.cell? ⟨g, j, none⟩ = some (.int .i64 (d.L[j].1 : Int)) := by
  rcases h.beg.2 with ⟨h2, h3⟩ | ⟨g, cap, cur, hv, hb, hg, r⟩
  · exact Or.inl ⟨h2, List.eq_nil_of_length_eq_zero h3⟩
  · obtain ⟨r1, r2, r3, r4⟩ := r
    refine Or.inr ⟨g, cap, hv, fun j hj => ?_⟩
    have hj' : j < d.begins.length := by rw [AD.begins_length]; exact hj
    have hlt : j < (cur.toList.take (d.L.length * 1)).length := by rw [r4]; simpa using hj'
    have e1 : (cur.toList.take (d.L.length * 1))[j]? = some (.int .i64 (d.L[j].1 : Int)) := by
      rw [r4]
      simp [AD.begins, cellI, hj]
    rw [List.getElem?_take] at e1
    simp only [World.cell?, hg]
    simpa [hj] using e1

def BoolPost (w : World) (t : Bool) (e : Ending) (w' : World) : Prop := e = .returned (.bool t) ∧ Keeps w w' (fun _ => False)

set_option maxHeartbeats 400000 in
theorem ins_out (w : World) (p : Nat) (k off n : Int) (h : k < 0 ∨ n < 0) :
    Calls Tryz.prog 85 #[.pointer (some ⟨p, 0, none⟩), .int .i64 k, .int .i64 off, .int .i64 n] w fun e w' => BoolPost w false e w' := by
  have K0 := Keeps.refl w (fun _ => False)
  by_cases h0 : k < 0
  · go_enter Tryz.func85, Tryz.ntmps85
    go_wp2_with fail
    go_ret
    exact ⟨rfl, K0⟩
  · have h1 : n < 0 := by omega
    go_enter Tryz.func85, Tryz.ntmps85
    go_wp2_with fail
    go_ret
    exact ⟨rfl, K0⟩

set_option maxHeartbeats 1000000 in
set_option maxRecDepth 100000 in
theorem ins_core (w : World) (p g cap bl k x len : Nat) (sz off n : Int) (c3 : w.cell? ⟨p, 3, none⟩ = some (.slice (some ⟨g, 0, none⟩) len cap)) (c4 : w.cell? ⟨p, 4, none⟩ = some (.map (some bl))) (hck : w.cell? ⟨g, k, none⟩ = some (.int .i64 (x : Int)))
    (hk : k < len) (hn : 0 ≤ n) (hn2 : n ≤ 9223372036854775807) (ho : (x : Int) ≤ off) (ho2 : off ≤ 9223372036854775807) (hsz : 0 ≤ sz ∧ sz ≤ 134217728) (t : Bool)
    (hlk : (Instr.lookup 52 (.map (some bl)) (.int .i64 (x : Int)) true).run Tryz.prog w = .ok (.tuple #[.int .i64 sz, .bool t]) w) :
    Calls Tryz.prog 85 #[.pointer (some ⟨p, 0, none⟩), .int .i64 (k : Int), .int .i64 off, .int .i64 n] w fun e w' => BoolPost w (t && decide (off - x ≤ sz - n)) e w' := by
  have K0 : Hid (Keeps w w (fun _ => False)) := Keeps.refl w (fun _ => False)
  have hk0 : ¬ (k : Int) < 0 := by omega
  have hk1 : (k : Int) < (len : Int) := by omega
  cases t
  · go_enter Tryz.func85, Tryz.ntmps85
    go_wp2_with fail
    go_ret
    exact ⟨rfl, K0.out⟩
  · have hw1 : IntKind.i64.wrap (off - (x : Int)) = off - (x : Int) := by rw [IntKind.wrap_i64]; omega
    have hw2 : IntKind.i64.wrap (sz - n) = sz - n := by rw [IntKind.wrap_i64]; omega
    go_enter Tryz.func85, Tryz.ntmps85
    go_wp2_with fail
    go_ret
    exact ⟨rfl, K0.out⟩

set_option maxHeartbeats 1000000 in
theorem ins_at {w : World} {p : Nat} {c : AR} {d : AD} (h : ArenaAt w p c d) (hF : d.Fine) (k : Nat) (hk : k < d.L.length) (off n : Int) (hn : 0 ≤ n) (hn2 : n ≤ 9223372036854775807) (ho : (d.L[k].1 : Int) ≤ off) (ho2 : off ≤ 9223372036854775807) :
    Calls Tryz.prog 85 #[.pointer (some ⟨p, 0, none⟩), .int .i64 (k : Int), .int .i64 off, .int .i64 n] w fun e w' => BoolPost w (d.insideAt k off n) e w' := by
  have htm := tiles_mem hF.tiles (List.getElem_mem hk)
  have hmost := hF.most
  have c3 := h.cell3
  have c4 := h.cell4
  rcases h.begs with ⟨_, hnil⟩ | ⟨g, cap, hv, hcell⟩
  · rw [hnil] at hk
    simp at hk
  · rw [hv] at c3
    have hck := hcell k hk
    have hlk := look_ok_int (w := w) Tryz.underlying3 Tryz.underlying52 (Tryz.zeroI _) h.live (x := (d.L[k].1 : Int)) (fitsI_mk (by omega) (by omega))
    have hres : d.insideAt k off n = ((d.lv d.L[k].1).isSome && decide (off - d.L[k].1 ≤ ((d.lv d.L[k].1).getD 0) - n)) := by
      unfold AD.insideAt
      rw [if_neg (by omega), Int.toNat_natCast, List.getElem?_eq_getElem hk]
    rw [hres]
    have hsz : 0 ≤ (d.lv d.L[k].1).getD 0 ∧ (d.lv d.L[k].1).getD 0 ≤ 134217728 := by
      cases hl : d.lv d.L[k].1 with
      | none => simp
      | some s =>
        obtain ⟨x, m, _, e2, hm⟩ := hF.live _ _ hl
        have := tiles_mem hF.tiles hm
        simp at this ⊢
        omega
    exact ins_core w p g cap c.bl k d.L[k].1 d.L.length _ off n c3 c4 hck hk hn hn2 ho ho2 hsz _ hlk

set_option maxHeartbeats 1000000 in
set_option maxRecDepth 100000 in
theorem good_core (w : World) (p : Nat) (v : Value) (off n : Int) (i : Nat) (t1 t2 t3 : Bool) (c3 : w.cell? ⟨p, 3, none⟩ = some v) (hi : i ≤ 134217728)
    (hS : Calls Tryz.prog 84 #[v, .int .i64 off] w fun e w' => e = .returned (.tuple #[.int .i64 (i : Int), .bool t1]) ∧ Keeps w w' (fun _ => False))
    (h1 : t1 = true → ∀ W, Keeps w W (fun _ => False) → Calls Tryz.prog 85 #[.pointer (some ⟨p, 0, none⟩), .int .i64 (i : Int), .int .i64 off, .int .i64 n] W fun e w' => BoolPost W t2 e w')
    (h2 : ∀ W, Keeps w W (fun _ => False) → Calls Tryz.prog 85 #[.pointer (some ⟨p, 0, none⟩), .int .i64 ((i : Int) - 1), .int .i64 off, .int .i64 n] W fun e w' => BoolPost W t3 e w') :
    Calls Tryz.prog 56 #[.pointer (some ⟨p, 0, none⟩), .int .i64 off, .int .i64 n] w fun e w' => BoolPost w ((t1 && t2) || t3) e w' := by
  go_enter Tryz.func56, Tryz.ntmps56
  go_wp2_with fail
  refine hS.mono ?_
  rintro e w1 ⟨rfl, k1⟩
  clear hS c3
  have hm1 : IntKind.i64.wrap ((i : Int) - 1) = (i : Int) - 1 := by rw [IntKind.wrap_i64]; omega
  cases t1
  · replace h2 := h2 w1 k1
    clear h1
    have K1 : Hid (Keeps w w1 (fun _ => False)) := k1
    clear k1
    go_wp2_with fail
    refine h2.mono ?_
    rintro e w2 ⟨rfl, k2⟩
    have K2 : Hid (Keeps w w2 (fun _ => False)) := K1.out.trans k2 (fun _ _ e => e)
    clear h2 k2 K1
    go_wp2_with fail
    go_ret
    exact ⟨rfl, K2.out⟩
  · replace h1 := h1 rfl w1 k1
    go_wp2_with fail
    refine h1.mono ?_
    rintro e w2 ⟨rfl, k2⟩
    have k12 := k1.trans k2 (fun _ _ e => e)
    clear h1 k1 k2
    cases t2
    · replace h2 := h2 w2 k12
      have K1 : Hid (Keeps w w2 (fun _ => False)) := k12
      clear k12
      go_wp2_with fail
      refine h2.mono ?_
      rintro e w3 ⟨rfl, k3⟩
      have K2 : Hid (Keeps w w3 (fun _ => False)) := K1.out.trans k3 (fun _ _ e => e)
      clear h2 k3 K1
      go_wp2_with fail
      go_ret
      exact ⟨rfl, K2.out⟩
    · clear h2
      have K1 : Hid (Keeps w w2 (fun _ => False)) := k12
      clear k12
      go_wp2_with fail
      go_ret
      exact ⟨rfl, K1.out⟩

theorem insideAt_neg (d : AD) (k off n : Int) (h : k < 0 ∨ n < 0) : d.insideAt k off n = false := by
  unfold AD.insideAt
  rw [if_pos h]

theorem good_any {w : World} {p : Nat} {c : AR} {d : AD} (h : ArenaAt w p c d) (hF : d.Fine) (off n : Int) (ho : fitsI off) (hn : fitsI n) :
    Calls Tryz.prog 56 #[.pointer (some ⟨p, 0, none⟩), .int .i64 off, .int .i64 n] w fun e w' => BoolPost w (d.goodB off n) e w' := by
  have hob := fitsI_bounds ho
  have hnb := fitsI_bounds hn
  have hL : d.L.length ≤ 134217728 := by have := tiles_length hF.tiles; have := hF.most; omega
  have hbl : d.begins.length = d.L.length := AD.begins_length d
  have hcp : d.begins.countP (fun y => decide (y < off)) ≤ d.L.length := by rw [← hbl]; exact List.countP_le_length
  have hS : Calls Tryz.prog 84 #[c.v, .int .i64 off] w fun e w' => SearchPost w d.begins off e w' := by
    rcases h.begs with ⟨hv, hnil⟩ | ⟨g, cap, hv, hcell⟩
    · rw [hv]
      have : d.begins = [] := by simp [AD.begins, hnil]
      rw [this]
      exact search_nil none 0 off w
    · rw [hv, ← hbl]
      refine search_some g 0 cap d.begins off w (by omega) (fun j hj => ?_) (hF.begins_sorted.imp (fun h => by omega))
      have hj' : j < d.L.length := by omega
      rw [Nat.zero_add, hcell j hj']
      simp [AD.begins, hj']
  rw [← hF.good_eq off n]
  have hC := fun {i : Nat} (hi : i < d.begins.length) => countP_lt_of_sorted (x := off) hF.begins_sorted hi
  have hget : ∀ {i : Nat} (hi : i < d.L.length), d.begins[i]'(by rw [AD.begins_length]; exact hi) = (d.L[i].1 : Int) := fun hi => by simp [AD.begins]
  refine good_core w p c.v off n _ _ _ _ h.cell3 (by omega) hS ?_ ?_
  · intro ht W k
    have hW := h.keeps k (fun _ _ e => e)
    by_cases hn0 : n < 0
    · rw [insideAt_neg _ _ _ _ (Or.inr hn0)]
      exact ins_out W p _ off n (Or.inr hn0)
    · rw [List.contains_iff_mem] at ht
      obtain ⟨i, hi, e⟩ := List.getElem_of_mem ht
      have hi' : i < d.L.length := by rw [← hbl]; exact hi
      have hiq : i = d.begins.countP (fun y => decide (y < off)) := by
        have h3 := hC hi
        rw [e] at h3
        have h4 : ¬ i < d.begins.countP (fun y => decide (y < off)) := fun h => by have := h3.2 h; omega
        rcases Nat.lt_or_ge (d.begins.countP (fun y => decide (y < off))) i with h5 | h5
        · have h6 := hC (i := d.begins.countP (fun y => decide (y < off))) (by omega)
          have h7 : d.begins[d.begins.countP (fun y => decide (y < off))]'(by omega) < d.begins[i] := (List.pairwise_iff_getElem.1 hF.begins_sorted) _ i (by omega) hi h5
          rw [e] at h7
          have := h6.1 h7
          omega
        · omega
      rw [← hiq]
      exact ins_at hW hF i hi' off n (by omega) hnb.2 (by rw [← hget hi', e]; exact Int.le_refl _) hob.2
  · intro W k
    have hW := h.keeps k (fun _ _ e => e)
    by_cases hn0 : n < 0
    · rw [insideAt_neg _ _ _ _ (Or.inr hn0)]
      exact ins_out W p _ off n (Or.inr hn0)
    · by_cases h0 : d.begins.countP (fun y => decide (y < off)) = 0
      · rw [h0, insideAt_neg _ _ _ _ (Or.inl (by simp))]
        exact ins_out W p _ off n (Or.inl (by simp))
      · obtain ⟨q, hq⟩ : ∃ q, d.begins.countP (fun y => decide (y < off)) = q + 1 := ⟨d.begins.countP (fun y => decide (y < off)) - 1, by omega⟩
        rw [hq]
        have e1 : (((q + 1 : Nat) : Int) - 1) = (q : Int) := by omega
        rw [e1]
        have hk : q < d.L.length := by omega
        have h3 := (hC (i := q) (by rw [hbl]; exact hk)).2 (by omega)
        rw [hget hk] at h3
        exact ins_at hW hF q hk off n (by omega) hnb.2 (by omega) hob.2
end Go.Proofs.YtdlibnjgmdffnaaGreat
namespace Go.Proofs.YtdlibnjgmdffnaaGreat
open Go.RowKit Go.Shelf

/-- A way to take a block: where it lies, what the arena is then. -/
theorem class_in (n : Nat) (h1 : 1 ≤ n) (h2 : n ≤ 1048576) : classN n ∈ classList := by
  obtain ⟨x, hx, e, _⟩ := class_spec n h1 h2
  rw [e]
  exact (List.of_mem_zip hx).1
theorem classI_in (z : Int) (h1 : 1 ≤ z) (h2 : z ≤ 1048576) : (classI z).toNat ∈ classList := by
  unfold classI
  rw [if_pos ⟨h1, h2⟩, Int.toNat_natCast]
  exact class_in z.toNat (by omega) (by omega)
structure TakeOK (T : AD → Nat → Nat × AD) (G : AD → Prop) : Prop where
  call : ∀ {w : World} {p : Nat} {F : Nat → Prop} {d : AD} (c : Nat), G d → d.Fine → Arena w p F d → c ∈ classList → c ≤ 1048576 → d.used + c ≤ d.limit →
    Calls Tryz.prog 74 #[.pointer (some ⟨p, 0, none⟩), .int .i64 (c : Int)] w fun e w' => TakePost w p F (T d c).1 (T d c).2 e w'
  fine : ∀ {d : AD} (c : Nat), G d → d.Fine → c ∈ classList → c ≤ 1048576 → d.used + c ≤ d.limit → (T d c).2.Fine ∧ G (T d c).2 ∧ (T d c).2.used = d.used + c ∧ (T d c).2.limit = d.limit ∧ (T d c).1 ≤ 134217728
def takeAll (T : AD → Nat → Nat × AD) : AD → List Int → List Int × AD
  | d, [] => ([], d)
  | d, z :: r => let x := T d (classI z).toNat; let y := takeAll T x.2 r; ((x.1 : Int) :: y.1, y.2)
theorem takeAll_length (T : AD → Nat → Nat × AD) : ∀ (zs : List Int) (d : AD), (takeAll T d zs).1.length = zs.length
  | [], _ => rfl
  | z :: r, d => by simp [takeAll, takeAll_length T r]
theorem takeAll_snoc (T : AD → Nat → Nat × AD) : ∀ (zs : List Int) (z : Int) (d : AD), takeAll T d (zs ++ [z]) = ((takeAll T d zs).1 ++ [((T (takeAll T d zs).2 (classI z).toNat).1 : Int)], (T (takeAll T d zs).2 (classI z).toNat).2)
  | [], _, _ => rfl
  | y :: r, z, d => by simp [takeAll, takeAll_snoc T r]
theorem fitsIn_len : ∀ (zs : List Int) (room : Int), fitsIn room zs = true → allOne zs → 0 ≤ room → 16 * (zs.length : Int) ≤ room
  | [], _, _, _, h => by simpa using h
  | z :: r, room, h, ha, _ => by
    unfold fitsIn at h
    split at h
    · cases h
    · rename_i hn
      have h1 : 1 ≤ z := ha z (by simp)
      have hc : 16 ≤ classI z := by
        unfold classI at hn ⊢
        by_cases hz : 1 ≤ z ∧ z ≤ 1048576
        · rw [if_pos hz]
          have := class_le z.toNat (by omega) (by omega)
          omega
        · rw [if_neg hz] at hn
          exact absurd (Or.inl rfl) hn
      have := fitsIn_len r (room - classI z) h (fun y hy => ha y (by simp [hy])) (by omega)
      simp
      omega
/-- What holds behind the first k of them. -/
theorem takeAll_take {T : AD → Nat → Nat × AD} {G : AD → Prop} (hT : TakeOK T G) {d : AD} (hG : G d) (hF : d.Fine) {zs : List Int} (ha : allOne zs) (hf : fitsIn ((d.limit : Int) - (d.used : Int)) zs = true) : ∀ k, k ≤ zs.length →
    (takeAll T d (zs.take k)).2.Fine ∧ G (takeAll T d (zs.take k)).2 ∧ (takeAll T d (zs.take k)).2.limit = d.limit ∧ fitsIn ((d.limit : Int) - ((takeAll T d (zs.take k)).2.used : Int)) (zs.drop k) = true
  | 0, _ => ⟨hF, hG, rfl, hf⟩
  | k + 1, hk => by
    obtain ⟨f1, f2, f3, f4⟩ := takeAll_take hT hG hF ha hf k (by omega)
    have hlt : k < zs.length := by omega
    rw [List.take_succ_eq_append_getElem hlt, takeAll_snoc]
    rw [fitsIn_drop_succ hlt] at f4
    have hz1 : 1 ≤ zs[k] := ha _ (List.getElem_mem hlt)
    split at f4
    · cases f4
    · rename_i hn
      have hb := classI_bounds zs[k]
      have hz2 : zs[k] ≤ 1048576 := by
        rcases Int.lt_or_le 1048576 zs[k] with h | h
        · exfalso
          exact hn (Or.inl (by unfold classI; rw [if_neg (by omega)]))
        · exact h
      have hc16 := classI_in zs[k] hz1 hz2
      obtain ⟨g1, g2, g3, g4, _⟩ := hT.fine (classI zs[k]).toNat f2 f1 hc16 (by omega) (by rw [f3]; omega)
      refine ⟨g1, g2, by rw [g4, f3], ?_⟩
      rw [g3]
      have e : (d.limit : Int) - (((takeAll T d (zs.take k)).2.used + (classI zs[k]).toNat : Nat) : Int) = (d.limit : Int) - ((takeAll T d (zs.take k)).2.used : Int) - classI zs[k] := by omega
      rw [e]
      exact f4
/-- .. and the next one. -/
theorem takeAll_next {T : AD → Nat → Nat × AD} {G : AD → Prop} (hT : TakeOK T G) {d : AD} (hG : G d) (hF : d.Fine) {zs : List Int} (ha : allOne zs) (hf : fitsIn ((d.limit : Int) - (d.used : Int)) zs = true) {k : Nat} (hk : k < zs.length) :
    (classI zs[k]).toNat ∈ classList ∧ (classI zs[k]).toNat ≤ 1048576 ∧ (takeAll T d (zs.take k)).2.used + (classI zs[k]).toNat ≤ (takeAll T d (zs.take k)).2.limit ∧ classI zs[k] = ((classI zs[k]).toNat : Int) := by
  obtain ⟨f1, f2, f3, f4⟩ := takeAll_take hT hG hF ha hf k (by omega)
  rw [fitsIn_drop_succ hk] at f4
  have hz1 : 1 ≤ zs[k] := ha _ (List.getElem_mem hk)
  split at f4
  · cases f4
  · rename_i hn
    have hb := classI_bounds zs[k]
    have hz2 : zs[k] ≤ 1048576 := by
      rcases Int.lt_or_le 1048576 zs[k] with h | h
      · exfalso
        exact hn (Or.inl (by unfold classI; rw [if_neg (by omega)]))
      · exact h
    have hc16 := classI_in zs[k] hz1 hz2
    exact ⟨hc16, by omega, by rw [f3]; omega, by omega⟩

/-- The row of k offsets that are told and zeros behind. -/
def offRow (n : Nat) (xs : List Int) : Array Value := ((xs ++ List.replicate (n - xs.length) 0).map cellI).toArray
theorem offRow_size {n : Nat} {xs : List Int} (h : xs.length ≤ n) : (offRow n xs).size = n := by simp [offRow]; omega
theorem offRow_zero (n : Nat) : madeCells (Value.int .i64 0).cells (n * 1) = offRow n [] := by
  apply Array.ext
  · simp [size_madeCells, offRow]
  · intro i h1 h2
    simp [madeCells, Value.cells, offRow, cellI, Nat.mod_one]
theorem offRow_set {n : Nat} {xs : List Int} (x : Int) (h : xs.length < n) : (offRow n xs).setIfInBounds xs.length (cellI x) = offRow n (xs ++ [x]) := by
  apply Array.ext'
  obtain ⟨m, hm⟩ : ∃ m, n - xs.length = m + 1 := ⟨n - xs.length - 1, by omega⟩
  have hm' : n - (xs.length + 1) = m := by omega
  rw [Array.toList_setIfInBounds]
  simp [offRow, hm, hm', List.replicate_succ]
theorem offRow_full (xs : List Int) : offRow xs.length xs = (xs.map cellI).toArray := by simp [offRow]

def AllPost (w : World) (p : Nat) (F : Nat → Prop) (offs : List Int) (d' : AD) (e : Ending) (w' : World) : Prop :=
  ∃ h, w.heap.size ≤ h ∧ e = .returned (.tuple #[.slice (some ⟨h, 0, none⟩) offs.length offs.length, .int .i64 0]) ∧ w'.heap[h]? = some (.cells (offs.map cellI).toArray 3) ∧
    Arena w' p (fun k => (F k ∨ w.heap.size ≤ k) ∧ k ≠ h) d' ∧ Keeps w w' F
end Go.Proofs.YtdlibnjgmdffnaaGreat
namespace Go.Proofs.YtdlibnjgmdffnaaGreat
open Go.RowKit Go.Shelf

/-- make of n ints. -/
theorem run_make_ints {P : Program} (w : World) (t : TypeId) (hu : P.underlying t = some (.slice 3)) (hi : (P.info? 3).map (fun i => (i.zero, i.size, i.bytes)) = some (some (.int .i64 0), 1, 8)) (n : Nat) (hn : n ≤ 134217728) :
    (Instr.makeSlice t (.int .i64 (n : Int)) (.int .i64 (n : Int))).run P w = .ok (.slice (some ⟨w.heap.size, 0, none⟩) n n) (w.alloc (.cells (offRow n []) 3)) := by
  obtain ⟨i, h1, h2, h3, h4⟩ := info_parts hi
  have h := run_make (P := P) w t 3 i (.int .i64 0) hu h1 h2 .i64 .i64 (n : Int) (n : Int) (by omega) (by omega) (by rw [h4]; omega) (by omega)
  rw [h, h3]
  simp only [Int.toNat_natCast, offRow_zero]

theorem allOne_fits_zero {d : AD} {zs : List Int} (ha : allOne zs) (hf : fitsIn ((d.limit : Int) - (d.used : Int)) zs = true) : refE d zs = 0 := by
  unfold refE
  rw [if_pos ha, if_pos hf]

/-- Behind k of them. -/
def AllRel (T : AD → Nat → Nat × AD) (w : World) (p : Nat) (F : Nat → Prop) (d : AD) (zs : List Int) (H k : Nat) (wr : World) : Prop :=
  wr.heap[H]? = some (.cells (offRow zs.length (takeAll T d (zs.take k)).1) 3) ∧ Arena wr p (fun x => (F x ∨ w.heap.size ≤ x) ∧ x ≠ H) (takeAll T d (zs.take k)).2 ∧ Keeps w wr F
theorem AllRel.step {T : AD → Nat → Nat × AD} {w wr w2 : World} {p : Nat} {F : Nat → Prop} {d : AD} {zs : List Int} {H k : Nat} (hR : AllRel T w p F d zs H k wr) (hH : w.heap.size ≤ H) (hk : k < zs.length)
    (ht : Turned wr w2 p (fun x => (F x ∨ w.heap.size ≤ x) ∧ x ≠ H) (T (takeAll T d (zs.take k)).2 (classI zs[k]).toNat).2) :
    w2.cell? ⟨H, k, none⟩ = some (.int .i64 0) ∧ w2.frozen? ⟨H, k, none⟩ = false ∧ AllRel T w p F d zs H (k + 1) (w2.setCell ⟨H, k, none⟩ (.int .i64 ((T (takeAll T d (zs.take k)).2 (classI zs[k]).toNat).1 : Int))) := by
  obtain ⟨r1, r2, r3⟩ := hR
  obtain ⟨a2, k2⟩ := ht
  have hHlt := heap_lt r1
  have r1' := (k2.block H hHlt (fun e => e.2 rfl)).trans r1
  have hlen : (takeAll T d (zs.take k)).1.length = k := by rw [takeAll_length, List.length_take]; omega
  have hz : (offRow zs.length (takeAll T d (zs.take k)).1)[k]? = some (.int .i64 0) := by
    obtain ⟨m, hm⟩ : ∃ m, zs.length - k = m + 1 := ⟨zs.length - k - 1, by omega⟩
    simp [offRow, hlen, hm, List.replicate_succ, cellI]
  refine ⟨by simp only [World.cell?, r1']; simpa using hz, by simp [World.frozen?, r1'], ?_, ?_, ?_⟩
  · rw [List.take_succ_eq_append_getElem hk, takeAll_snoc]
    have hs := setCell_eq_setRow w2 H k _ 3 (0, 0) (.int .i64 ((T (takeAll T d (zs.take k)).2 (classI zs[k]).toNat).1 : Int)) r1'
    rw [hs, heap_setRow_same r1']
    have := offRow_set (n := zs.length) (xs := (takeAll T d (zs.take k)).1) ((T (takeAll T d (zs.take k)).2 (classI zs[k]).toNat).1 : Int) (by omega)
    rw [hlen] at this
    rw [← this]
    rfl
  · rw [List.take_succ_eq_append_getElem hk, takeAll_snoc]
    have kS : Keeps w2 (w2.setCell ⟨H, k, none⟩ (.int .i64 ((T (takeAll T d (zs.take k)).2 (classI zs[k]).toNat).1 : Int))) (fun x => x = H) := (Keeps.refl w2 (fun x => x = H)).setCell ⟨H, k, none⟩ (fun _ => rfl) _
    have a3 := a2.keeps kS (fun i _ hi e => by
      rcases hi with hi | hi
      · exact hi.2 e
      · omega)
    refine a3.mono (fun i _ hi => ?_)
    rcases hi with hi | hi
    · exact hi
    · exact ⟨Or.inr (by have := r3.size; omega), by omega⟩
  · have kS : Keeps w2 (w2.setCell ⟨H, k, none⟩ (.int .i64 ((T (takeAll T d (zs.take k)).2 (classI zs[k]).toNat).1 : Int))) (fun x => x = H) := (Keeps.refl w2 (fun x => x = H)).setCell ⟨H, k, none⟩ (fun _ => rfl) _
    exact (r3.trans k2 (fun i hi e => by
      rcases e.1 with e1 | e1
      · exact e1
      · omega)).trans kS (fun i hi e => by omega)

set_option maxHeartbeats 2000000 in
theorem allocAll_some {T : AD → Nat → Nat × AD} {G : AD → Prop} (hT : TakeOK T G) {w : World} {p : Nat} {F : Nat → Prop} {d : AD} (h : Arena w p F d) (hG : G d) (hF : d.Fine) (b o cap : Nat) (zs : List Int) (hz : ∀ j (h : j < zs.length), w.cell? ⟨b, o + j, none⟩ = some (.int .i64 zs[j]))
    (hb : ¬ F b) (hbl : b < w.heap.size) (h0 : 0 < zs.length) (ha : Hid (allOne zs)) (hf : Hid (fitsIn ((d.limit : Int) - (d.used : Int)) zs = true)) :
    Calls Tryz.prog 42 #[.pointer (some ⟨p, 0, none⟩), .slice (some ⟨b, o, none⟩) zs.length cap] w fun e w' => AllPost w p F (takeAll T d zs).1 (takeAll T d zs).2 e w' := by
  have hlen := fitsIn_len zs _ hf.out ha.out (by have := hF.use; omega)
  have hlim := hF.lim
  have hbig : zs.length ≤ 134217728 := by omega
  have hR : Calls Tryz.prog 73 #[.pointer (some ⟨p, 0, none⟩), .slice (some ⟨b, o, none⟩) zs.length cap] w fun e w' => RefPost w 0 e w' := by
    obtain ⟨c, hc, _⟩ := h
    have := refused_any hc hF (some ⟨b, o, none⟩) cap zs (by omega) (fun j hj => ⟨b, o, rfl, hz j hj⟩)
    rwa [allOne_fits_zero ha.out hf.out] at this
  go_enter Tryz.func42, Tryz.ntmps42
  go_wp2_with fail
  refine hR.mono ?_
  rintro e w1 ⟨rfl, k1⟩
  clear hR
  have hmk := run_make_ints (P := Tryz.prog) w1 32 Tryz.underlying32 Tryz.infoI zs.length hbig
  have hrel0 : AllRel T w p F d zs w1.heap.size 0 (w1.alloc (.cells (offRow zs.length []) 3)) := by
    refine ⟨heap_alloc_new _ _, ?_, (k1.mono (fun _ _ e => e.elim)).alloc _⟩
    have k2 : Keeps w (w1.alloc (.cells (offRow zs.length []) 3)) (fun _ => False) := k1.alloc _
    have hs1 := k1.size
    exact (h.mono (G := fun x => (F x ∨ w.heap.size ≤ x) ∧ x ≠ w1.heap.size) (fun i hi hFi => ⟨Or.inl hFi, by omega⟩)).keeps k2 (fun _ _ _ e => e)
  have hH := k1.size
  go_wp2_with fail
  go_loopw [21] (fun i wr => ∃ k : Nat, i = .int .i64 (k : Int) ∧ k ≤ zs.length ∧ AllRel T w p F d zs w1.heap.size k wr) (fun i _ => zs.length - (intOf i).toNat)
  case atStart => exact ⟨0, rfl, Nat.zero_le _, hrel0⟩
  case round =>
    obtain ⟨k, rfl, hk, hR⟩ := hrel
    clear hrel0 hmk
    by_cases hlt : k < zs.length
    · have hlt' : (k : Int) < (zs.length : Int) := by omega
      have hck := (World.cell?_of_block (w := w) (a := ⟨b, o + k, none⟩) (hR.2.2.block b hbl hb)).trans (hz k hlt)
      obtain ⟨n1, n2, n3, n4⟩ := takeAll_next hT hG hF ha.out hf.out hlt
      obtain ⟨f1, f2, f3, f4⟩ := takeAll_take hT hG hF ha.out hf.out k hk
      have hfin := (hT.fine _ f2 f1 n1 n2 n3).2.2.2.2
      have hTk := hT.call (w := wr) (p := p) (F := fun x => (F x ∨ w.heap.size ≤ x) ∧ x ≠ w1.heap.size) (classI zs[k]).toNat f2 f1 hR.2.1 n1 n2 n3
      have hst := fun w2 => hR.step (w2 := w2) hH hlt
      have hcl := class_any zs[k] wr
      rw [n4] at hcl
      clear hz n4 f1 f2 f3 f4 n3 ha hf
      generalize (classI zs[k]).toNat = cz at *
      generalize zs[k]'hlt = z at *
      go_wp2_with fail
      refine hcl.mono ?_
      rintro e w2 ⟨rfl, rfl⟩
      clear hcl
      go_wp2_with fail
      refine hTk.mono ?_
      rintro e w3 ⟨rfl, ht⟩
      clear hTk
      obtain ⟨s1, s2, s3⟩ := hst w3 ht
      clear hst ht hR hck
      generalize (T (takeAll T d (zs.take k)).2 cz).1 = off at *
      go_wp2_with fail
      go_roundw
      case rel => exact ⟨k + 1, by go_num, by omega, s3⟩
      case measure => simp [intOf]; omega
    · have hlt' : ¬ (k : Int) < (zs.length : Int) := by omega
      have hfin : AllPost w p F (takeAll T d zs).1 (takeAll T d zs).2 (.returned (.tuple #[.slice (some ⟨w1.heap.size, 0, none⟩) zs.length zs.length, .int .i64 0])) wr := by
        obtain ⟨r1, r2, r3⟩ := hR
        have hkz : zs.take k = zs := List.take_of_length_le (by omega)
        rw [hkz] at r1 r2
        refine ⟨w1.heap.size, hH, by rw [takeAll_length], ?_, r2, r3⟩
        rw [r1]
        have := offRow_full (takeAll T d zs).1
        rw [takeAll_length] at this
        rw [this]
      clear hR hz
      go_wp2_with fail
      go_ret2
      exact hfin
end Go.Proofs.YtdlibnjgmdffnaaGreat
namespace Go.Proofs.YtdlibnjgmdffnaaGreat
open Go.RowKit Go.Shelf

set_option maxHeartbeats 400000 in
theorem anew_no (n : Int) (w : World) (h : n < 0 ∨ 2097152 < n) :
    Calls Tryz.prog 6 #[.int .i64 n] w fun e w' => e = .returned (.tuple #[.pointer none, .int .i64 20]) ∧ w' = w := by
  rcases h with h | h
  · go_enter Tryz.func6, Tryz.ntmps6
    go_wp2
    go_ret2
    exact ⟨rfl, rfl⟩
  · have h0 : ¬ n < 0 := by omega
    go_enter Tryz.func6, Tryz.ntmps6
    go_wp2
    go_ret2
    exact ⟨rfl, rfl⟩

/-- An arena without blocks. -/
def AD.fresh (limit : Nat) : AD := { limit := limit, used := 0, bs := zeros 16, L := [], lv := fun _ => none, fm := fun _ => none }
theorem AD.fresh_fine {limit : Nat} (h : limit ≤ 2097152) : (AD.fresh limit).Fine :=
  { tiles := by simp [AD.fresh, Tiles, zeros_length]
    live := fun x s hs => by simp [AD.fresh] at hs
    most := by simp [AD.fresh, zeros_length]
    lim := h
    use := Nat.zero_le _
    sum := rfl
    free := ⟨fun _ _ h => (nomatch h), fun _ _ h => (nomatch h), fun _ _ h => (nomatch h), fun _ h => (nomatch h)⟩ }
def ANewPost (w : World) (limit : Nat) (e : Ending) (w' : World) : Prop :=
  ∃ p, e = .returned (.tuple #[.pointer (some ⟨p, 0, none⟩), .int .i64 0]) ∧ Arena w' p (fun k => w.heap.size ≤ k) (AD.fresh limit) ∧ Keeps w w' (fun _ => False)

set_option maxHeartbeats 1000000 in
theorem anew_yes (n : Nat) (w : World) (h : n ≤ 2097152) :
    Calls Tryz.prog 6 #[.int .i64 (n : Int)] w fun e w' => ANewPost w n e w' := by
  have h0 : ¬ (n : Int) < 0 := by omega
  have h1 : ¬ (2097152 : Int) < (n : Int) := by omega
  have hnew := new_yes 16 w (by omega)
  have hmm := @run_makeMap Tryz.prog
  go_enter Tryz.func6, Tryz.ntmps6
  go_wp2_with fail
  refine hnew.mono ?_
  rintro e w1 ⟨b, g, hb, hg, rfl, m, k⟩
  clear hnew
  have hfin : ANewPost w n (.returned (.tuple #[.pointer (some ⟨w1.heap.size + 1 + 1, 0, none⟩), .int .i64 0])) (((w1.alloc (.map #[] 0)).alloc (.map #[] 0)).alloc (.cells #[.int .i64 (n : Int), .int .i64 0, .pointer (some ⟨b, 0, none⟩), .slice none 0 0, .map (some w1.heap.size), .map (some (w1.heap.size + 1))] 55)) := by
    have k1 : Keeps w1 (w1.alloc (.map #[] 0)) (fun _ => False) := (Keeps.refl _ _).alloc _
    have k2 : Keeps (w1.alloc (.map #[] 0)) ((w1.alloc (.map #[] 0)).alloc (.map #[] 0)) (fun _ => False) := (Keeps.refl _ _).alloc _
    have k3 : Keeps ((w1.alloc (.map #[] 0)).alloc (.map #[] 0)) (((w1.alloc (.map #[] 0)).alloc (.map #[] 0)).alloc (.cells #[.int .i64 (n : Int), .int .i64 0, .pointer (some ⟨b, 0, none⟩), .slice none 0 0, .map (some w1.heap.size), .map (some (w1.heap.size + 1))] 55)) (fun _ => False) := (Keeps.refl _ _).alloc _
    have e1 : (w1.alloc (.map #[] 0)).heap.size = w1.heap.size + 1 := by simp
    have e2 : ((w1.alloc (.map #[] 0)).alloc (.map #[] 0)).heap.size = w1.heap.size + 1 + 1 := by simp
    have K := ((k.trans k1 (fun _ _ e => e)).trans k2 (fun _ _ e => e)).trans k3 (fun _ _ e => e)
    have hs := k.size
    have m1 := MapTo.made (c := cInt) Tryz.prog w1
    have m2 := MapTo.made (c := cPtr) Tryz.prog (w1.alloc (.map #[] 0))
    rw [e1] at m2
    refine ⟨w1.heap.size + 1 + 1, rfl, ⟨{ b := b, g := g, bl := w1.heap.size, bf := w1.heap.size + 1, v := .slice none 0 0, sp := [], nl := 0, nf := 0, hb := fun _ => none, fv := fun _ => .slice none 0 0 }, ⟨?_, ?_, ?_, ?_, ?_, by simp, ⟨fun _ => rfl, fun _ _ _ e => (nomatch e), fun _ _ _ e => (nomatch e), fun _ _ _ _ _ e => (nomatch e)⟩⟩, ?_⟩, K⟩
    · have := heap_alloc_new ((w1.alloc (.map #[] 0)).alloc (.map #[] 0)) (.cells #[.int .i64 (n : Int), .int .i64 0, .pointer (some ⟨b, 0, none⟩), .slice none 0 0, .map (some w1.heap.size), .map (some (w1.heap.size + 1))] 55)
      rw [e2] at this
      exact this
    · exact ((m.keeps k1 id id).keeps k2 id id).keeps k3 id id
    · exact World.ownsRow_nil _ _ _ _
    · exact (m1.keeps k2 id).keeps k3 id
    · exact m2.keeps k3 id
    · intro x hx
      rcases hx with rfl | rfl | rfl | rfl | rfl | e | ⟨_, _, e, _⟩
      · omega
      · exact hb
      · exact hg
      · exact hs
      · show w.heap.size ≤ w1.heap.size + 1
        omega
      · cases e
      · cases e
  clear k m hb hg
  go_wp2_with fail
  go_ret2
  exact hfin
end Go.Proofs.YtdlibnjgmdffnaaGreat
namespace Go.Proofs.YtdlibnjgmdffnaaGreat
open Go.RowKit Go.Shelf

/-- While nothing was freed. -/
def newT (d : AD) (c : Nat) : Nat × AD := (d.bs.length, d.took c)
def newG (d : AD) : Prop := (∀ x, d.fm x = none) ∧ d.bs.length = 16 + d.used
theorem newG_fresh (limit : Nat) : newG (AD.fresh limit) := ⟨fun _ => rfl, by simp [AD.fresh, zeros_length]⟩
theorem newOK : TakeOK newT newG where
  call := fun {w p F d} c hG hF h _ _ h3 => by
    have := hF.lim
    have := hG.2
    exact take_new h hF c (by omega) (hG.1 _)
  fine := fun {d} c hG hF h1 _ h3 => by
    have h1 := (show ∀ c ∈ classList, 16 ≤ c by decide) c h1
    have := hF.lim
    have h4 := hG.2
    refine ⟨hF.took (by omega) (by omega) h3, ⟨hG.1, ?_⟩, rfl, rfl, by simp [newT]; omega⟩
    show (d.bs ++ zeros c).length = 16 + (d.used + c)
    rw [List.length_append, zeros_length]
    omega

def AllocPost (w : World) (p : Nat) (F : Nat → Prop) (o : Nat) (d' : AD) (e : Ending) (w' : World) : Prop := e = .returned (.tuple #[.int .i64 (o : Int), .int .i64 0]) ∧ Turned w w' p F d'

set_option maxHeartbeats 1000000 in
theorem alloc_yes {T : AD → Nat → Nat × AD} {G : AD → Prop} (hT : TakeOK T G) {w : World} {p : Nat} {F : Nat → Prop} {d : AD} (h : Arena w p F d) (hFl : ∀ k, F k → k < w.heap.size) (hG : G d) (hF : d.Fine) (n : Nat) (h1 : 1 ≤ n) (h2 : n ≤ 1048576) (h3 : d.used + classN n ≤ d.limit) :
    Calls Tryz.prog 16 #[.pointer (some ⟨p, 0, none⟩), .int .i64 (n : Int)] w fun e w' => AllocPost w p F (T d (classN n)).1 (T d (classN n)).2 e w' := by
  have hcn : classI (n : Int) = (classN n : Int) := by unfold classI; rw [if_pos (by omega)]; simp
  have hcl := class_le n h1 h2
  have hA : Calls Tryz.prog 42 #[.pointer (some ⟨p, 0, none⟩), .slice (some ⟨w.heap.size, 0, none⟩) 1 1] (w.alloc (.cells #[.int .i64 (n : Int)] 3)) fun e w' => AllPost (w.alloc (.cells #[.int .i64 (n : Int)] 3)) p F [((T d (classN n)).1 : Int)] (T d (classN n)).2 e w' := by
    have k0 : Keeps w (w.alloc (.cells #[.int .i64 (n : Int)] 3)) (fun _ => False) := (Keeps.refl _ _).alloc _
    have := allocAll_some hT (h.keeps k0 (fun _ _ _ e => e)) hG hF w.heap.size 0 1 [(n : Int)] (fun j hj => by
      have hj0 : j = 0 := by simpa using hj
      subst hj0
      simp only [World.cell?, heap_alloc_new]
      simp) (fun e => by have := hFl _ e; omega) (by simp) (by simp) (fun z hz => by simp at hz; omega) (by
      simp only [fitsIn]
      rw [if_neg (by rw [hcn]; omega)]
      rfl)
    simpa [takeAll, hcn] using this
  have hoff := (hT.fine (classN n) hG hF (class_in n h1 h2) hcl.2.2.1 h3).2.2.2.2
  have hs0 : ∀ W' p' F' x d' e, AllPost (w.alloc (.cells #[.int .i64 (n : Int)] 3)) p' F' [x] d' e W' → ∃ hh, w.heap.size ≤ hh ∧ e = .returned (.tuple #[.slice (some ⟨hh, 0, none⟩) 1 1, .int .i64 0]) ∧ W'.cell? ⟨hh, 0, none⟩ = some (.int .i64 x) ∧ Turned w W' p' F' d' := by
    rintro W' p' F' x d' e ⟨hh, a1, a2, a3, a4, a5⟩
    have k0 : Keeps w (w.alloc (.cells #[.int .i64 (n : Int)] 3)) F' := (Keeps.refl _ _).alloc _
    refine ⟨hh, by simp at a1; omega, a2, ?_, a4.mono (fun i _ hi => ?_), k0.trans a5 (fun _ _ e => e)⟩
    · simp [World.cell?, a3, cellI]
    · rcases hi.1 with hi | hi
      · exact Or.inl hi
      · exact Or.inr (by simp at hi; omega)
  generalize (T d (classN n)).1 = off at *
  generalize (T d (classN n)).2 = d2 at *
  clear h hG hF hcl h3 hcn
  go_enter Tryz.func16, Tryz.ntmps16
  go_wp2_with fail
  refine hA.mono ?_
  intro e w2 hp2
  obtain ⟨hh, _, rfl, hc, ht⟩ := hs0 _ _ _ _ _ _ hp2
  clear hA hs0 hp2
  go_wp2_with fail
  go_ret2
  exact ⟨rfl, ht⟩
end Go.Proofs.YtdlibnjgmdffnaaGreat
/-
  Plain laws on numbers of bytes, the lowest first.
-/
namespace Go.Proofs.YtdlibnjgmdffnaaGreat
open Go.RowKit

/-- The number of the bytes, the lowest first. -/
def numOf : List UInt8 → Nat
  | [] => 0
  | x :: r => x.toNat + 256 * numOf r
theorem numOf_lt : ∀ l : List UInt8, numOf l < 256 ^ l.length
  | [] => by simp [numOf]
  | x :: r => by
    have h := numOf_lt r
    have hx := x.toNat_lt
    simp only [numOf, List.length_cons, Nat.pow_succ]
    omega
theorem numOf_snoc (l : List UInt8) (x : UInt8) : numOf (l ++ [x]) = numOf l + x.toNat * 256 ^ l.length := by
  induction l with
  | nil => simp [numOf]
  | cons y r ih =>
    simp only [List.cons_append, numOf, ih, List.length_cons, Nat.pow_succ, Nat.mul_add]
    have : 256 * (x.toNat * 256 ^ r.length) = x.toNat * (256 ^ r.length * 256) := by rw [Nat.mul_comm, Nat.mul_assoc]
    omega
theorem numOf_append (a b : List UInt8) : numOf (a ++ b) = numOf a + 256 ^ a.length * numOf b := by
  induction a with
  | nil => simp [numOf]
  | cons y r ih =>
    simp only [List.cons_append, numOf, ih, List.length_cons, Nat.pow_succ, Nat.mul_add]
    have : 256 * (256 ^ r.length * numOf b) = 256 ^ r.length * 256 * numOf b := by rw [← Nat.mul_assoc, Nat.mul_comm 256]
    omega
theorem pow_byte (k : Nat) : (2 : Nat) ^ (8 * k) = 256 ^ k := by rw [Nat.pow_mul]

theorem bits_or_nat (a b : Nat) (ha : a < 18446744073709551616) (hb : b < 18446744073709551616) : bits .or .u64 (a : Int) (b : Int) = ((a ||| b : Nat) : Int) := by
  have hx : a ||| b < 2 ^ 64 := Nat.or_lt_two_pow (by omega) (by omega)
  have h1 : (BitVec.ofInt 64 (a : Int)).toNat = a := by
    rw [BitVec.ofInt_natCast, BitVec.toNat_ofNat]
    exact Nat.mod_eq_of_lt (by omega)
  have h2 : (BitVec.ofInt 64 (b : Int)).toNat = b := by
    rw [BitVec.ofInt_natCast, BitVec.toNat_ofNat]
    exact Nat.mod_eq_of_lt (by omega)
  show IntKind.u64.wrap ((BitVec.ofInt 64 (a : Int) ||| BitVec.ofInt 64 (b : Int)).toNat : Int) = _
  rw [BitVec.toNat_or, h1, h2, IntKind.wrap_u64]
  omega
theorem or_step (N k : Nat) (x : UInt8) (hN : N < 256 ^ k) (hk : k < 8) : bits .or .u64 (N : Int) (IntKind.u64.wrap ((x.toNat : Int) * 2 ^ (8 * k))) = ((N + x.toNat * 256 ^ k : Nat) : Int) := by
  have hx := x.toNat_lt
  have hp : (256 : Nat) ^ k ≤ 256 ^ 7 := Nat.pow_le_pow_right (by omega) (by omega)
  have hm : x.toNat * 256 ^ k ≤ 255 * 256 ^ 7 := Nat.mul_le_mul (by omega) hp
  have e : ((x.toNat : Int) * 2 ^ (8 * k)) = ((x.toNat * 256 ^ k : Nat) : Int) := by
    rw [← pow_byte]
    simp
  rw [e, IntKind.wrap_u64]
  have e2 : ((x.toNat * 256 ^ k : Nat) : Int) % 18446744073709551616 = ((x.toNat * 256 ^ k : Nat) : Int) := by
    have : x.toNat * 256 ^ k < 18446744073709551616 := by omega
    omega
  rw [e2, bits_or_nat _ _ (by omega) (by omega)]
  congr 1
  have h := Nat.shiftLeft_add_eq_or_of_lt (i := 8 * k) (b := N) (by rw [pow_byte]; exact hN) x.toNat
  rw [Nat.shiftLeft_eq, pow_byte] at h
  rw [Nat.or_comm, ← h, Nat.add_comm]
end Go.Proofs.YtdlibnjgmdffnaaGreat
namespace Go.Proofs.YtdlibnjgmdffnaaGreat
open Go.RowKit

/-- A number may have 1, 2, 4 or 8 bytes. -/
def widthB (n : Int) : Bool := decide (n = 1 ∨ n = 2 ∨ n = 4 ∨ n = 8)
theorem widthB_true {n : Int} (h : widthB n = true) : n = 1 ∨ n = 2 ∨ n = 4 ∨ n = 8 := of_decide_eq_true h
theorem widthB_false {n : Int} (h : widthB n = false) : n ≠ 1 ∧ n ≠ 2 ∧ n ≠ 4 ∧ n ≠ 8 := by
  have := of_decide_eq_false h
  omega

set_option maxHeartbeats 400000 in
theorem number_width (w : World) (p : Value) (off n : Int) (h : widthB n = false) :
    Calls Tryz.prog 92 #[p, .int .i64 off, .int .i64 n] w fun e w' => e = .returned (.int .i64 10) ∧ w' = w := by
  obtain ⟨h1, h2, h3, h4⟩ := widthB_false h
  have b1 : (n != 1) = true := bne_iff_ne.2 h1
  have b2 : (n != 2) = true := bne_iff_ne.2 h2
  have b3 : (n != 4) = true := bne_iff_ne.2 h3
  have b4 : (n != 8) = true := bne_iff_ne.2 h4
  clear h h1 h2 h3 h4
  go_enter Tryz.func92, Tryz.ntmps92
  go_wp2_with fail
  go_ret
  exact ⟨rfl, rfl⟩

set_option maxHeartbeats 400000 in
theorem number_out (w : World) (b g : Nat) (bs sp : List UInt8) (m : MemAt 88 5 w b g bs sp) (off n : Int) (h : widthB n = true) (h2 : insideB bs.length off n = false) :
    Calls Tryz.prog 92 #[.pointer (some ⟨b, 0, none⟩), .int .i64 off, .int .i64 n] w fun e w' => e = .returned (.int .i64 11) ∧ w' = w := by
  have hin := inside_no w b g bs sp m off n h2
  clear h2 m
  rcases widthB_true h with rfl | rfl | rfl | rfl
  all_goals
    clear h
    go_enter Tryz.func92, Tryz.ntmps92
    go_wp2_with fail
    refine hin.mono ?_
    rintro e w' ⟨rfl, rfl⟩
    clear hin
    go_wp2_with fail
    go_ret
    exact ⟨rfl, rfl⟩

set_option maxHeartbeats 400000 in
theorem number_yes (w : World) (b g : Nat) (bs sp : List UInt8) (m : MemAt 88 5 w b g bs sp) (off n : Int) (h : widthB n = true) (h2 : insideB bs.length off n = true) :
    Calls Tryz.prog 92 #[.pointer (some ⟨b, 0, none⟩), .int .i64 off, .int .i64 n] w fun e w' => e = .returned (.int .i64 0) ∧ w' = w := by
  have hin := inside_yes w b g bs sp m off n h2
  clear h2 m
  rcases widthB_true h with rfl | rfl | rfl | rfl
  all_goals
    clear h
    go_enter Tryz.func92, Tryz.ntmps92
    go_wp2_with fail
    refine hin.mono ?_
    rintro e w' ⟨rfl, rfl⟩
    clear hin
    go_wp2_with fail
    go_ret
    exact ⟨rfl, rfl⟩

set_option maxHeartbeats 400000 in
theorem load_width (w : World) (p : Value) (off n : Int) (h : widthB n = false) :
    Calls Tryz.prog 70 #[p, .int .i64 off, .int .i64 n] w fun e w' => e = .returned (.tuple #[.int .u64 0, .int .i64 10]) ∧ w' = w := by
  go_enter Tryz.func70, Tryz.ntmps70
  go_wp2_with fail
  refine (number_width _ _ _ _ h).mono ?_
  rintro e w' ⟨rfl, rfl⟩
  go_wp2_with fail
  go_ret2
  exact ⟨rfl, rfl⟩

set_option maxHeartbeats 400000 in
theorem load_out (w : World) (b g : Nat) (bs sp : List UInt8) (m : MemAt 88 5 w b g bs sp) (off n : Int) (h : widthB n = true) (h2 : insideB bs.length off n = false) :
    Calls Tryz.prog 70 #[.pointer (some ⟨b, 0, none⟩), .int .i64 off, .int .i64 n] w fun e w' => e = .returned (.tuple #[.int .u64 0, .int .i64 11]) ∧ w' = w := by
  go_enter Tryz.func70, Tryz.ntmps70
  go_wp2_with fail
  refine (number_out _ b g bs sp m _ _ h h2).mono ?_
  rintro e w' ⟨rfl, rfl⟩
  go_wp2_with fail
  go_ret2
  exact ⟨rfl, rfl⟩

set_option maxHeartbeats 1000000 in
theorem load_yes (w : World) (b g : Nat) (bs sp : List UInt8) (m : MemAt 88 5 w b g bs sp) (o n : Nat) (h : widthB (n : Int) = true) (h2 : o + n ≤ bs.length) :
    Calls Tryz.prog 70 #[.pointer (some ⟨b, 0, none⟩), .int .i64 (o : Int), .int .i64 (n : Int)] w fun e w' => e = .returned (.tuple #[.int .u64 (numOf ((bs.drop o).take n) : Int), .int .i64 0]) ∧ w' = w := by
  have hl : bs.length + sp.length ≤ 134217728 := m.hmax
  have hnum := number_yes w b g bs sp m o n h (insideB_mk h2)
  have hs1 := span_any w b g bs sp m o n h2
  obtain ⟨q, hq, hv⟩ := spanVal_eq g (bs.length + sp.length) o n
  rw [hv] at hs1
  have hn8 : n ≤ 8 := by have := widthB_true h; omega
  have hcell := fun j hj => m.gcell j hj
  clear hv m
  go_enter Tryz.func70, Tryz.ntmps70
  go_wp2_with fail
  refine hnum.mono ?_
  rintro e w' ⟨rfl, rfl⟩
  clear hnum
  go_wp2_with fail
  refine hs1.mono ?_
  rintro e w' ⟨rfl, rfl⟩
  clear hs1
  go_wp2_with fail
  go_loop [9, 24] (fun v i => ∃ k : Nat, k ≤ n ∧ i = .int .i64 (k : Int) ∧ v = .int .u64 (numOf ((bs.drop o).take k) : Int)) (fun _ i => n - (intOf i).toNat)
  case atStart => exact ⟨0, Nat.zero_le _, rfl, rfl⟩
  case round =>
    obtain ⟨k, hk, rfl, rfl⟩ := hrel
    by_cases hlt : k < n
    · have hqo : q = o := by
        rcases hq with hq | ⟨_, hz⟩
        · exact hq
        · omega
      have hc := hcell (q + k) (by omega)
      clear hcell
      have hstep : numOf ((bs.drop o).take (k + 1)) = numOf ((bs.drop o).take k) + (bs[q + k]'(by omega)).toNat * 256 ^ k := by
        have hl1 : ((bs.drop o).take k).length = k := by simp; omega
        have ht : (bs.drop o).take (k + 1) = (bs.drop o).take k ++ [bs[q + k]'(by omega)] := by
          rw [List.take_succ_eq_append_getElem (by simp; omega)]
          simp [hqo]
        rw [ht, numOf_snoc, hl1]
      have hlt8 := numOf_lt ((bs.drop o).take k)
      rw [show ((bs.drop o).take k).length = k from by simp; omega] at hlt8
      have HS : Hid (numOf ((bs.drop o).take (k + 1)) = numOf ((bs.drop o).take k) + (bs[q + k]'(by omega)).toNat * 256 ^ k) := hstep
      clear hstep
      generalize bs[q + k]'(by omega) = x at *
      generalize hN : numOf ((bs.drop o).take k) = N at *
      have hor := or_step N k x hlt8 (by omega)
      have HO : Hid (bits .or .u64 (N : Int) (IntKind.u64.wrap ((x.toNat : Int) * 2 ^ (8 * k))) = ((N + x.toNat * 256 ^ k : Nat) : Int)) := hor
      have hx := x.toNat_lt
      clear hN hqo hq h hlt8 hor
      go_wp2
      go_round
      case rel => exact ⟨k + 1, by omega, by go_num, by rw [HO.out, HS.out]⟩
      case measure => simp [intOf]; omega
    · have hall : k = n := by omega
      subst hall
      go_wp2
      go_ret2
      exact ⟨rfl, rfl⟩
end Go.Proofs.YtdlibnjgmdffnaaGreat
namespace Go.Proofs.YtdlibnjgmdffnaaGreat
open Go.RowKit

/-- The low k bytes of v, the lowest first. -/
def lowB (v i : Nat) : UInt8 := UInt8.ofNat (v / 256 ^ i % 256)
def leBytes (v k : Nat) : List UInt8 := (List.range k).map (lowB v)
theorem leBytes_length (v k : Nat) : (leBytes v k).length = k := by simp [leBytes]
theorem leBytes_succ (v k : Nat) : leBytes v k ++ [lowB v k] = leBytes v (k + 1) := by simp [leBytes, List.range_succ]
theorem lowB_toNat (v i : Nat) : (lowB v i).toNat = v / 256 ^ i % 256 := by
  unfold lowB
  rw [UInt8.toNat_ofNat_of_lt' (show v / 256 ^ i % 256 < 256 by omega)]

theorem lowB_int (v k : Nat) : (v : Int) / 2 ^ (8 * k) % 256 = ((lowB v k).toNat : Int) := by
  rw [lowB_toNat, ← pow_byte]
  simp
theorem numOf_le (v n : Nat) : numOf (leBytes v n) = v % 256 ^ n := by
  induction n with
  | zero => simp [leBytes, numOf, Nat.mod_one]
  | succ n ih =>
    rw [← leBytes_succ, numOf_snoc, ih, leBytes_length, lowB_toNat, Nat.pow_succ, Nat.mod_mul, Nat.mul_comm]
theorem splice_take {bs : List UInt8} {o n : Nat} {x : List UInt8} (hx : x.length = n) (h : o + n ≤ bs.length) : ((splice bs o x).drop o).take n = x := by
  subst hx
  unfold splice
  have h1 : (bs.take o).length = o := by simp; omega
  rw [List.append_assoc, List.drop_append, List.drop_of_length_le (by omega), h1, Nat.sub_self, List.nil_append, List.drop_zero, List.take_left' rfl]

set_option maxHeartbeats 400000 in
theorem store_width (w : World) (p : Value) (off n : Int) (v : Int) (h : widthB n = false) :
    Calls Tryz.prog 78 #[p, .int .i64 off, .int .i64 n, .int .u64 v] w fun e w' => e = .returned (.int .i64 10) ∧ w' = w := by
  go_enter Tryz.func78, Tryz.ntmps78
  go_wp2_with fail
  refine (number_width _ _ _ _ h).mono ?_
  rintro e w' ⟨rfl, rfl⟩
  go_wp2_with fail
  go_ret
  exact ⟨rfl, rfl⟩

set_option maxHeartbeats 400000 in
theorem store_out (w : World) (b g : Nat) (bs sp : List UInt8) (m : MemAt 88 5 w b g bs sp) (off n : Int) (v : Int) (h : widthB n = true) (h2 : insideB bs.length off n = false) :
    Calls Tryz.prog 78 #[.pointer (some ⟨b, 0, none⟩), .int .i64 off, .int .i64 n, .int .u64 v] w fun e w' => e = .returned (.int .i64 11) ∧ w' = w := by
  go_enter Tryz.func78, Tryz.ntmps78
  go_wp2_with fail
  refine (number_out _ b g bs sp m _ _ h h2).mono ?_
  rintro e w' ⟨rfl, rfl⟩
  go_wp2_with fail
  go_ret
  exact ⟨rfl, rfl⟩

set_option maxHeartbeats 1000000 in
theorem store_yes (w : World) (b g : Nat) (bs sp : List UInt8) (m : MemAt 88 5 w b g bs sp) (o n v : Nat) (h : widthB (n : Int) = true) (h2 : o + n ≤ bs.length) :
    Calls Tryz.prog 78 #[.pointer (some ⟨b, 0, none⟩), .int .i64 (o : Int), .int .i64 (n : Int), .int .u64 (v : Int)] w fun e w' => WritePost w b g (splice bs o (leBytes v n)) sp e w' := by
  have hl : bs.length + sp.length ≤ 134217728 := m.hmax
  have hnum := number_yes w b g bs sp m o n h (insideB_mk h2)
  have hs1 := span_any w b g bs sp m o n h2
  obtain ⟨q, hq, hv⟩ := spanVal_eq g (bs.length + sp.length) o n
  rw [hv] at hs1
  have hn8 : n ≤ 8 := by have := widthB_true h; omega
  clear hv
  go_enter Tryz.func78, Tryz.ntmps78
  go_wp2_with fail
  refine hnum.mono ?_
  rintro e w' ⟨rfl, rfl⟩
  clear hnum
  go_wp2_with fail
  refine hs1.mono ?_
  rintro e w' ⟨rfl, rfl⟩
  clear hs1
  go_wp2_with fail
  go_loopw [25] (fun i wr => ∃ k : Nat, k ≤ n ∧ i = .int .i64 (k : Int) ∧ MemAt 88 5 wr b g (splice bs o (leBytes v k)) sp ∧ Keeps w' wr (fun i => i = g)) (fun i _ => n - (intOf i).toNat)
  case atStart => exact ⟨0, Nat.zero_le _, rfl, by rw [show leBytes v 0 = [] from rfl, splice_nil]; exact m, Keeps.refl _ _⟩
  case round =>
    obtain ⟨k, hk, rfl, mk, kk⟩ := hrel
    have hsl := leBytes_length v k
    by_cases hlt : k < n
    · have hqo : q = o := by
        rcases hq with hq | ⟨_, hz⟩
        · exact hq
        · omega
      have hlen : (splice bs o (leBytes v k)).length = bs.length := splice_length (by omega)
      obtain ⟨v0, hv0⟩ := mk.gcell_any (q + k) (by rw [hlen]; omega)
      have hfz := mk.gfrozen (q + k)
      have hst := mk.store (q + k) (by rw [hlen]; omega) (lowB v k)
      rw [show q + k = o + k from by omega, splice_set hsl (by omega), leBytes_succ, ← show q + k = o + k from by omega] at hst
      have K2 := kk.trans hst.2 (fun _ _ x => x)
      have M2 := hst.1
      rw [← lowB_int] at K2 M2
      clear hst mk kk hsl hlen hqo hq m h
      go_wp2
      go_roundw
      case rel => exact ⟨k + 1, by omega, by go_num, M2, K2⟩
      case measure => simp [intOf]; omega
    · have hall : k = n := by omega
      subst hall
      go_wp2
      go_ret
      exact ⟨rfl, mk, kk⟩
end Go.Proofs.YtdlibnjgmdffnaaGreat
namespace Go.Proofs.YtdlibnjgmdffnaaGreat
open Go.RowKit Go.Shelf

theorem hide {p : Prop} (h : p) : Hid p := h
/-- Other bytes. -/
def AD.bytes (d : AD) (bs : List UInt8) : AD := { d with bs := bs }
theorem AD.Fine.bytes {d : AD} (F : d.Fine) {bs : List UInt8} (h : bs.length = d.bs.length) : (d.bytes bs).Fine :=
  { tiles := by show Tiles 16 d.L bs.length; rw [h]; exact F.tiles
    live := F.live
    most := by show bs.length ≤ _; rw [h]; exact F.most
    lim := F.lim
    use := F.use
    sum := F.sum
    free := F.free }
theorem ArenaAt.wrote {w w' : World} {p : Nat} {c : AR} {d : AD} (h : ArenaAt w p c d) {bs : List UInt8} (m : MemAt 88 5 w' c.b c.g bs c.sp) (k : Keeps w w' (fun i => i = c.g)) : ArenaAt w' p c (d.bytes bs) :=
  ⟨(k.block p (heap_lt h.hp) h.p_g).trans h.hp, m, ownsRow_keeps h.beg k (fun _ hg e => h.g_v hg e.symm), h.live.keeps k h.bl_g, h.free.keeps k h.bf_g, h.hlf, h.heaps.keeps k (fun _ hi e => (h.heap_ne hi).2.2.1 e)⟩
/-- Nothing has turned. -/
theorem Arena.same {w w' : World} {p : Nat} {F : Nat → Prop} {d : AD} (h : Arena w p F d) (k : Keeps w w' (fun _ => False)) : Turned w w' p F d :=
  ⟨(h.keeps k (fun _ _ _ e => e)).mono (fun _ _ e => Or.inl e), k.mono (fun _ _ e => e.elim)⟩
theorem Arena.at {w : World} {p : Nat} {F : Nat → Prop} {d : AD} (h : Arena w p F d) : ∃ c, ArenaAt w p c d ∧ ∀ k, c.foot p k → F k := h

set_option maxHeartbeats 400000 in
theorem anum_width (w : World) (p : Value) (off n : Int) (h : widthB n = false) : Calls Tryz.prog 69 #[p, .int .i64 off, .int .i64 n] w fun e w' => e = .returned (.int .i64 10) ∧ Keeps w w' (fun _ => False) := by
  obtain ⟨h1, h2, h3, h4⟩ := widthB_false h
  have b1 : (n != 1) = true := bne_iff_ne.2 h1
  have b2 : (n != 2) = true := bne_iff_ne.2 h2
  have b3 : (n != 4) = true := bne_iff_ne.2 h3
  have b4 : (n != 8) = true := bne_iff_ne.2 h4
  clear h1 h2 h3 h4
  have K0 : Hid (Keeps w w (fun _ => False)) := Keeps.refl w (fun _ => False)
  go_enter Tryz.func69, Tryz.ntmps69
  go_wp2_with fail
  go_ret
  exact ⟨rfl, K0.out⟩
set_option maxHeartbeats 400000 in
theorem anum_good (w : World) (p : Value) (off n : Int) (t : Bool) (h : widthB n = true) (hg : Calls Tryz.prog 56 #[p, .int .i64 off, .int .i64 n] w fun e w' => BoolPost w t e w') :
    Calls Tryz.prog 69 #[p, .int .i64 off, .int .i64 n] w fun e w' => e = .returned (.int .i64 (if t then 0 else 24)) ∧ Keeps w w' (fun _ => False) := by
  rcases widthB_true h with h | h | h | h
  all_goals subst h
  all_goals go_enter Tryz.func69, Tryz.ntmps69
  all_goals go_wp2_with fail
  all_goals refine hg.mono ?_
  all_goals rintro e w1 ⟨rfl, k1⟩
  all_goals have K1 : Hid (Keeps w w1 (fun _ => False)) := k1
  all_goals clear hg k1
  all_goals cases t
  all_goals go_wp2_with fail
  all_goals go_ret
  all_goals exact ⟨rfl, K1.out⟩

/-- What Load answers. -/
def loadV (d : AD) (off n : Int) : Int × Int := if widthB n then (if d.goodB off n then ((numOf ((d.bs.drop off.toNat).take n.toNat) : Int), 0) else (0, 24)) else (0, 10)
def LoadPost (w : World) (v e0 : Int) (e : Ending) (w' : World) : Prop := e = .returned (.tuple #[.int .u64 v, .int .i64 e0]) ∧ Keeps w w' (fun _ => False)
set_option maxHeartbeats 1000000 in
theorem aload_any {w : World} {p : Nat} {c : AR} {d : AD} (h : ArenaAt w p c d) (hF : d.Fine) (off n : Int) (ho : fitsI off) (hn : fitsI n) :
    Calls Tryz.prog 38 #[.pointer (some ⟨p, 0, none⟩), .int .i64 off, .int .i64 n] w fun e w' => LoadPost w (loadV d off n).1 (loadV d off n).2 e w' := by
  unfold loadV
  cases hw : widthB n
  · have hN := anum_width w (.pointer (some ⟨p, 0, none⟩)) off n hw
    simp only [Bool.false_eq_true, if_false]
    clear h hF
    go_enter Tryz.func38, Tryz.ntmps38
    go_wp2_with fail
    refine hN.mono ?_
    rintro e w1 ⟨rfl, k1⟩
    have K1 : Hid (Keeps w w1 (fun _ => False)) := k1
    clear hN k1
    go_wp2_with fail
    go_ret2
    exact ⟨rfl, K1.out⟩
  · have hN := anum_good w _ off n _ hw (good_any h hF off n ho hn)
    cases hg : d.goodB off n
    · rw [hg] at hN
      simp only [Bool.false_eq_true, if_false, if_true] at hN ⊢
      clear h hF
      go_enter Tryz.func38, Tryz.ntmps38
      go_wp2_with fail
      refine hN.mono ?_
      rintro e w1 ⟨rfl, k1⟩
      have K1 : Hid (Keeps w w1 (fun _ => False)) := k1
      clear hN k1
      go_wp2_with fail
      go_ret2
      exact ⟨rfl, K1.out⟩
    · rw [hg] at hN
      obtain ⟨o, k, rfl, rfl, ho16, hok⟩ := hF.span hg
      simp only [if_true, Int.toNat_natCast] at hN ⊢
      have hld := fun W (kW : Keeps w W (fun _ => False)) => load_yes W c.b c.g d.bs c.sp (h.mem.keeps kW id id) o k hw hok
      have hc2 := fun W (kW : Keeps w W (fun _ => False)) => (h.keeps kW (fun _ _ e => e)).cell2
      have hnum := numOf_lt ((d.bs.drop o).take k)
      clear h hF hg
      go_enter Tryz.func38, Tryz.ntmps38
      go_wp2_with fail
      refine hN.mono ?_
      rintro e w1 ⟨rfl, k1⟩
      have K1 : Hid (Keeps w w1 (fun _ => False)) := k1
      replace hld := hld w1 k1
      replace hc2 := hc2 w1 k1
      clear hN k1
      go_wp2_with fail
      refine hld.mono ?_
      rintro e w2 ⟨rfl, rfl⟩
      clear hld
      go_wp2_with fail
      go_ret2
      exact ⟨rfl, K1.out⟩
end Go.Proofs.YtdlibnjgmdffnaaGreat
