/-
  script: the law's ints, alike, same of what is alike.
-/
import Derived.Test.YtpkbjjbbdhehdaaDoorSG6
namespace Go.Proofs.YtpkbjjbbdhehdaaDoor
open Go.RowKit
set_option linter.unusedVariables false

theorem IntsIn.len {w : World} {v : Value} {l : List Int} (h : IntsIn w v l) : ∃ so c, v = .slice so l.length c := by
  rcases h.form with ⟨rfl, rfl⟩ | ⟨a, c, e, -⟩
  · exact ⟨none, 0, rfl⟩
  · exact ⟨some a, c, e⟩
theorem IntsIn.at {w : World} {so : Option Addr} {c : Nat} {l : List Int} (h : IntsIn w (.slice so l.length c) l) {i : Nat} (hi : i < l.length) : ∃ b o, so = some ⟨b, o, none⟩ ∧ w.cell? ⟨b, o + i, none⟩ = some (.int .i64 l[i]) := by
  rcases h.form with ⟨e, rfl⟩ | ⟨a, c', e, hc⟩
  · simp at hi
  · injection e with e1 e2 e3
    subst e1
    obtain ⟨b, o, rfl, -⟩ := plainA (hc 0 (by omega))
    have := hc i hi
    rw [addr_add] at this
    exact ⟨b, o, rfl, this⟩
set_option maxRecDepth 100000 in
set_option maxHeartbeats 2000000 in
theorem ints_true (x y : Value) (l : List Int) (hl : l.length ≤ 8388608) (w : World) (hx : IntsIn w x l) (hy : IntsIn w y l) : Calls Tryd.prog 23 #[x, y] w fun e w' => e = .returned (.bool true) ∧ Keeps w w' (fun _ => False) := by
  obtain ⟨sx, cx, rfl⟩ := hx.len
  obtain ⟨sy, cy, rfl⟩ := hy.len
  have HX := hide hx
  have HY := hide hy
  clear hx hy
  go_enter Tryd.func23, Tryd.ntmps23
  go_wp2_with fail
  go_loopw [13] (fun v13 wr => ∃ i : Nat, v13 = .int .i64 (i : Int) ∧ i ≤ l.length ∧ Keeps w wr (fun _ => False)) (fun v13 _ => l.length - (intOf v13).toNat)
  case atStart => exact ⟨0, rfl, Nat.zero_le _, Keeps.refl _ _⟩
  case round =>
    obtain ⟨i, rfl, hi, K⟩ := hrel
    by_cases hlt : i < l.length
    · have hlt' : (i : Int) < (l.length : Int) := by omega
      have h0' : (0 : Int) ≤ (i : Int) := by omega
      obtain ⟨b, o, rfl, q1⟩ := HX.out.at hlt
      obtain ⟨b2, o2, rfl, q2⟩ := HY.out.at hlt
      obtain ⟨z, hz⟩ : ∃ z, l[i] = z := ⟨_, rfl⟩
      rw [hz] at q1 q2
      replace q1 := keeps_cell K q1
      replace q2 := keeps_cell K q2
      have Hms : Hid (l.length - (i + 1) < l.length - i) := by show l.length - (i + 1) < l.length - i; omega
      have Hi : Hid (i + 1 ≤ l.length) := hlt
      obtain ⟨a6, a7⟩ := wr64s (n := i) (by omega)
      have HK := hide K
      clear K hi hz
      have S0 : (fun w' : World => w'.cell? ⟨b, o + i, none⟩ = some (.int .i64 z) ∧ w'.cell? ⟨b2, o2 + i, none⟩ = some (.int .i64 z)) wr.drew := ⟨q1, q2⟩
      go_wp2_with fail
      go_region_held3 (fun w' : World => w'.cell? ⟨b, o + i, none⟩ = some (.int .i64 z) ∧ w'.cell? ⟨b2, o2 + i, none⟩ = some (.int .i64 z)) (first | with_reducible exact S0 | with_reducible assumption) (fail)
      all_goals (
        go_wp2_with fail
        refine ⟨⟨i + 1, by go_num, Hi.out, HK.out.drew⟩, ?_⟩
        simp [intOf]
        exact Hms.out)
    · obtain rfl : i = l.length := by omega
      have hlt' : ¬ (l.length : Int) < (l.length : Int) := by omega
      have HK := hide K
      clear K
      go_wp2_with fail
      go_ret
      exact ⟨rfl, HK.out⟩
set_option maxRecDepth 100000 in
set_option maxHeartbeats 2000000 in
theorem alike_true (op h n : Int) (u v : Nat) (key elem : ByteArray) (fl hl : List Int) (f1 h1 f2 h2 : Value) (w : World) (hf1 : IntsIn w f1 fl) (hh1 : IntsIn w h1 hl) (hf2 : IntsIn w f2 fl) (hh2 : IntsIn w h2 hl) (lf : fl.length ≤ 8388608) (ls : hl.length ≤ 8388608) :
    Calls Tryd.prog 15 #[.agg #[.int .i64 op, .int .i64 h, f1, h1, .int .u64 (u : Int), .int .u64 (v : Int), .int .i64 n, .string key, .string elem], .agg #[.int .i64 op, .int .i64 h, f2, h2, .int .u64 (u : Int), .int .u64 (v : Int), .int .i64 n, .string key, .string elem]] w fun e w' => e = .returned (.bool true) ∧ Keeps w w' (fun _ => False) := by
  have HF := hide (fun W (k : Keeps w W (fun _ => False)) => ints_true f1 f2 fl lf W (hf1.keeps k) (hf2.keeps k))
  have HH := hide (fun W (k : Keeps w W (fun _ => False)) => ints_true h1 h2 hl ls W (hh1.keeps k) (hh2.keeps k))
  clear hf1 hh1 hf2 hh2 lf ls
  go_enter Tryd.func15, Tryd.ntmps15
  go_upto_region 1 with fail
  refine alloc2 (P := fun W => Code.wp _ _ _ _ W) fun W0 hb0 hb1 k0 => ?_
  obtain ⟨c0, c1, c2, c3, c4, c5, c6, c7, c8⟩ := nine_cells hb0
  obtain ⟨d0, d1, d2, d3, d4, d5, d6, d7, d8⟩ := nine_cells hb1
  have HK0 := hide k0
  clear hb0 hb1 k0
  go_wp2_with fail
  (with_reducible refine (HF.out _ HK0.out).mono ?_)
  rintro e w1 ⟨rfl, k1⟩
  replace c3 := keeps_cell k1 c3
  replace d3 := keeps_cell k1 d3
  have HK1 := hide (HK0.out.trans k1 (fun _ _ e => e))
  clear HF HK0 k1 c0 c1 c2 c4 c5 c6 c7 c8 d0 d1 d2 d4 d5 d6 d7 d8
  go_wp2_with fail
  (with_reducible refine (HH.out _ HK1.out).mono ?_)
  rintro e w2 ⟨rfl, k2⟩
  have HK2 := hide (HK1.out.trans k2 (fun _ _ e => e))
  clear HH HK1 k2 c3 d3
  go_wp2_with fail
  go_ret
  exact ⟨rfl, HK2.out⟩
end Go.Proofs.YtpkbjjbbdhehdaaDoor
