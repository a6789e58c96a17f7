import Derived.Test.YteokfhccfmeffabR3
import Derived.Deep.QuietTactic
import Derived.BigQuiet
namespace Go.Proofs.Yteokfhccfmeffab
open Go.RowKit
namespace layoutPlaces

def Post (w : World) (e : Ending) (w' : World) : Prop := e = .returned (.bool true) ∧ Below w.heap.size w w'

/-- The i-th ask in the memory: a layout and a number, in ten cells. -/
def AskAt (w : World) (b o : Nat) (l : Lay) (n : Int) : Prop :=
  w.cell? ⟨b, o, none⟩ = some (.int .i64 l.k) ∧ w.cell? ⟨b, o + 1, none⟩ = some (.int .i64 l.e) ∧ w.cell? ⟨b, o + 2, none⟩ = some (.int .i64 l.a) ∧ w.cell? ⟨b, o + 3, none⟩ = some (.int .i64 l.b) ∧ w.cell? ⟨b, o + 4, none⟩ = some (.int .i64 l.c) ∧
  w.cell? ⟨b, o + 5, none⟩ = some (.int .i64 l.eo) ∧ w.cell? ⟨b, o + 6, none⟩ = some (.int .i64 l.bo) ∧ w.cell? ⟨b, o + 7, none⟩ = some (.int .i64 l.s) ∧ w.cell? ⟨b, o + 8, none⟩ = some (.int .i64 l.g) ∧ w.cell? ⟨b, o + 9, none⟩ = some (.int .i64 n)
theorem AskAt.kp {w w1 : World} {b o : Nat} {l : Lay} {n : Int} (h : AskAt w b o l n) (k : Kp w w1) : AskAt w1 b o l n := by
  obtain ⟨h0, h1, h2, h3, h4, h5, h6, h7, h8, h9⟩ := h
  exact ⟨k.cell h0, k.cell h1, k.cell h2, k.cell h3, k.cell h4, k.cell h5, k.cell h6, k.cell h7, k.cell h8, k.cell h9⟩

theorem cell_lt0 {w : World} {b i : Nat} {v : Value} (h : w.cell? ⟨b, i, none⟩ = some v) : b < w.heap.size := by
  refine Nat.lt_of_not_le fun hn => ?_
  rw [World.cell?, Array.getElem?_eq_none hn] at h
  cases h

set_option maxRecDepth 100000 in
set_option maxHeartbeats 8000000 in
theorem walk (b o len cap : Nat) (L : Nat → Lay) (N : Nat → Int) (w : World) (hlen : len ≤ 9223372036854775807) (hA : ∀ i, i < len → AskAt w b (o + i * 10) (L i) (N i)) :
    Calls Try.prog 3 #[.slice (some ⟨b, o, none⟩) len cap] w fun r w' => Post w r w' := by
  go_enter Try.func3, Try.ntmps3
  go_wp2_with fail
  go_loopw [3] (fun v wr => ∃ i : Nat, v = .int .i64 (i : Int) ∧ i ≤ len ∧ Kp w wr) (fun v _ => len - (intOf v).toNat)
  case atStart => exact ⟨0, rfl, by omega, Kp.refl _⟩
  case round =>
    obtain ⟨i, rfl, hi, kr⟩ := hrel
    by_cases hlt : i < len
    · have hlt' : (i : Int) < (len : Int) := by omega
      obtain ⟨c0, c1, c2, c3, c4, c5, c6, c7, c8, c9⟩ := (hA i hlt).kp kr
      have hblt := cell_lt0 c0
      generalize L i = l at *
      generalize N i = n at *
      go_wp2_with fail
      refine alloc_any (P := fun W => Code.wp _ _ _ _ W) fun W hB kW => ?_
      replace kr := kr.trans kW
      clear hblt c0 c1 c2 c3 c4 c5 c6 c7 c8 c9 kW
      obtain ⟨a0, a1, a2, a3, a4, a5, a6, a7, a8, -⟩ := (Kp.refl W).nine hB
      clear hB
      generalize wr.heap.size = B at *
      have kw3 := kr
      have hS := And.intro a0 (And.intro a1 (And.intro a2 (And.intro a3 (And.intro a4 (And.intro a5 (And.intro a6 (And.intro a7 (And.intro a8 kw3))))))))
      have x1 := fun Z => valid_any l Z
      have x2 := fun Z => ref_valid l Z
      have y1 := fun Z => keyAt_any l n Z
      have y2 := fun Z => ref_keyAt l n Z
      have y3 := fun Z => elemAt_any l n Z
      have y4 := fun Z => ref_elemAt l n Z
      have y5 := fun Z => birthAt_any l n Z
      have y6 := fun Z => ref_birthAt l n Z
      have z1 := fun Z => groups_any l n Z
      have z2 := fun Z => ref_groups l n Z
      generalize validB l = V at x1 x2
      generalize placeD l n 0 = V1 at y1 y2
      generalize placeD l n l.eo = V2 at y3 y4
      generalize placeD l n l.bo = V3 at y5 y6
      generalize groupsD l n = V4 at z1 z2
      go_region_held3 (fun w' => w'.cell? ⟨B, 0, none⟩ = some (.int .i64 l.k) ∧ w'.cell? ⟨B, 1, none⟩ = some (.int .i64 l.e) ∧ w'.cell? ⟨B, 2, none⟩ = some (.int .i64 l.a) ∧ w'.cell? ⟨B, 3, none⟩ = some (.int .i64 l.b) ∧ w'.cell? ⟨B, 4, none⟩ = some (.int .i64 l.c) ∧ w'.cell? ⟨B, 5, none⟩ = some (.int .i64 l.eo) ∧ w'.cell? ⟨B, 6, none⟩ = some (.int .i64 l.bo) ∧ w'.cell? ⟨B, 7, none⟩ = some (.int .i64 l.s) ∧ w'.cell? ⟨B, 8, none⟩ = some (.int .i64 l.g) ∧ Kp w w')
        (first | with_reducible assumption | with_reducible exact hd_drew (by assumption) | with_reducible exact hd_call k5 (by assumption))
        (first | (go_at_call 4; refine (x1 _).mono ?_; rintro r w5 ⟨rfl, k5⟩) | (go_at_call 5; refine (x2 _).mono ?_; rintro r w5 ⟨rfl, k5⟩))
      have hS6 : (w5.cell? ⟨B, 0, none⟩ = some (.int .i64 l.k) ∧ w5.cell? ⟨B, 1, none⟩ = some (.int .i64 l.e) ∧ w5.cell? ⟨B, 2, none⟩ = some (.int .i64 l.a) ∧ w5.cell? ⟨B, 3, none⟩ = some (.int .i64 l.b) ∧ w5.cell? ⟨B, 4, none⟩ = some (.int .i64 l.c) ∧ w5.cell? ⟨B, 5, none⟩ = some (.int .i64 l.eo) ∧ w5.cell? ⟨B, 6, none⟩ = some (.int .i64 l.bo) ∧ w5.cell? ⟨B, 7, none⟩ = some (.int .i64 l.s) ∧ w5.cell? ⟨B, 8, none⟩ = some (.int .i64 l.g) ∧ Kp w w5) := by assumption
      clear hS a0 a1 a2 a3 a4 a5 a6 a7 a8 kw3
      obtain ⟨a0, a1, a2, a3, a4, a5, a6, a7, a8, kw3⟩ := hS6
      have hS := And.intro a0 (And.intro a1 (And.intro a2 (And.intro a3 (And.intro a4 (And.intro a5 (And.intro a6 (And.intro a7 (And.intro a8 kw3))))))))
      go_wp2_with fail
      go_region_held3 (fun w' => w'.cell? ⟨B, 0, none⟩ = some (.int .i64 l.k) ∧ w'.cell? ⟨B, 1, none⟩ = some (.int .i64 l.e) ∧ w'.cell? ⟨B, 2, none⟩ = some (.int .i64 l.a) ∧ w'.cell? ⟨B, 3, none⟩ = some (.int .i64 l.b) ∧ w'.cell? ⟨B, 4, none⟩ = some (.int .i64 l.c) ∧ w'.cell? ⟨B, 5, none⟩ = some (.int .i64 l.eo) ∧ w'.cell? ⟨B, 6, none⟩ = some (.int .i64 l.bo) ∧ w'.cell? ⟨B, 7, none⟩ = some (.int .i64 l.s) ∧ w'.cell? ⟨B, 8, none⟩ = some (.int .i64 l.g) ∧ Kp w w')
        (first | with_reducible assumption | with_reducible exact hd_drew (by assumption) | with_reducible exact hd_call k5 (by assumption))
        (first | (go_at_call 6; refine (y1 _).mono ?_; rintro r w5 ⟨rfl, k5⟩) | (go_at_call 7; refine (y2 _).mono ?_; rintro r w5 ⟨rfl, k5⟩) | (go_at_call 8; refine (y3 _).mono ?_; rintro r w5 ⟨rfl, k5⟩) | (go_at_call 9; refine (y4 _).mono ?_; rintro r w5 ⟨rfl, k5⟩) | (go_at_call 10; refine (y5 _).mono ?_; rintro r w5 ⟨rfl, k5⟩) | (go_at_call 11; refine (y6 _).mono ?_; rintro r w5 ⟨rfl, k5⟩))
      have hS6 : (w5.cell? ⟨B, 0, none⟩ = some (.int .i64 l.k) ∧ w5.cell? ⟨B, 1, none⟩ = some (.int .i64 l.e) ∧ w5.cell? ⟨B, 2, none⟩ = some (.int .i64 l.a) ∧ w5.cell? ⟨B, 3, none⟩ = some (.int .i64 l.b) ∧ w5.cell? ⟨B, 4, none⟩ = some (.int .i64 l.c) ∧ w5.cell? ⟨B, 5, none⟩ = some (.int .i64 l.eo) ∧ w5.cell? ⟨B, 6, none⟩ = some (.int .i64 l.bo) ∧ w5.cell? ⟨B, 7, none⟩ = some (.int .i64 l.s) ∧ w5.cell? ⟨B, 8, none⟩ = some (.int .i64 l.g) ∧ Kp w w5) := by assumption
      clear hS a0 a1 a2 a3 a4 a5 a6 a7 a8 kw3
      obtain ⟨a0, a1, a2, a3, a4, a5, a6, a7, a8, kw3⟩ := hS6
      have hS := And.intro a0 (And.intro a1 (And.intro a2 (And.intro a3 (And.intro a4 (And.intro a5 (And.intro a6 (And.intro a7 (And.intro a8 kw3))))))))
      go_wp2_with fail
      go_region_held3 (fun w' => w'.cell? ⟨B, 0, none⟩ = some (.int .i64 l.k) ∧ w'.cell? ⟨B, 1, none⟩ = some (.int .i64 l.e) ∧ w'.cell? ⟨B, 2, none⟩ = some (.int .i64 l.a) ∧ w'.cell? ⟨B, 3, none⟩ = some (.int .i64 l.b) ∧ w'.cell? ⟨B, 4, none⟩ = some (.int .i64 l.c) ∧ w'.cell? ⟨B, 5, none⟩ = some (.int .i64 l.eo) ∧ w'.cell? ⟨B, 6, none⟩ = some (.int .i64 l.bo) ∧ w'.cell? ⟨B, 7, none⟩ = some (.int .i64 l.s) ∧ w'.cell? ⟨B, 8, none⟩ = some (.int .i64 l.g) ∧ Kp w w')
        (first | with_reducible assumption | with_reducible exact hd_drew (by assumption) | with_reducible exact hd_call k5 (by assumption))
        (first | (go_at_call 12; refine (z1 _).mono ?_; rintro r w5 ⟨rfl, k5⟩) | (go_at_call 13; refine (z2 _).mono ?_; rintro r w5 ⟨rfl, k5⟩))
      have hS6 : (w5.cell? ⟨B, 0, none⟩ = some (.int .i64 l.k) ∧ w5.cell? ⟨B, 1, none⟩ = some (.int .i64 l.e) ∧ w5.cell? ⟨B, 2, none⟩ = some (.int .i64 l.a) ∧ w5.cell? ⟨B, 3, none⟩ = some (.int .i64 l.b) ∧ w5.cell? ⟨B, 4, none⟩ = some (.int .i64 l.c) ∧ w5.cell? ⟨B, 5, none⟩ = some (.int .i64 l.eo) ∧ w5.cell? ⟨B, 6, none⟩ = some (.int .i64 l.bo) ∧ w5.cell? ⟨B, 7, none⟩ = some (.int .i64 l.s) ∧ w5.cell? ⟨B, 8, none⟩ = some (.int .i64 l.g) ∧ Kp w w5) := by assumption
      clear hS a0 a1 a2 a3 a4 a5 a6 a7 a8 kw3
      obtain ⟨a0, a1, a2, a3, a4, a5, a6, a7, a8, kw3⟩ := hS6
      have hS := And.intro a0 (And.intro a1 (And.intro a2 (And.intro a3 (And.intro a4 (And.intro a5 (And.intro a6 (And.intro a7 (And.intro a8 kw3))))))))
      go_wp2_with fail
      go_roundw
      case rel => exact ⟨i + 1, rfl, by omega, kw3⟩
      case measure => simp [intOf]; omega
    · have hlt' : ¬ (i : Int) < (len : Int) := by omega
      go_wp2_with fail
      refine (fixed_any _).mono ?_
      rintro r w1 ⟨rfl, k1⟩
      go_wp2_with fail
      refine (example_any _).mono ?_
      rintro r w2 ⟨rfl, k2⟩
      go_wp2_with fail
      have hG := fun W => groups_any ⟨5, 4, 1, 4, 64, 8, 16, 24, 200⟩ 16 W
      have e4 : groupsD ⟨5, 4, 1, 4, 64, 8, 16, 24, 200⟩ 16 = 400 := by decide
      rw [e4] at hG
      refine (hG _).mono ?_
      rintro r w3 ⟨rfl, k3⟩
      clear hG
      go_wp2_with fail
      go_ret
      exact ⟨rfl, ((kr.trans k1).trans k2).trans k3⟩
set_option maxRecDepth 100000 in
set_option maxHeartbeats 8000000 in
theorem walk0 (so : Option Addr) (cap : Nat) (w : World) :
    Calls Try.prog 3 #[.slice so 0 cap] w fun r w' => Post w r w' := by
  go_enter Try.func3, Try.ntmps3
  go_wp2_with fail
  go_loopw [3] (fun v wr => v = .int .i64 0 ∧ Kp w wr) (fun _ _ => 0)
  case atStart => exact ⟨rfl, Kp.refl _⟩
  case round =>
    obtain ⟨rfl, kr⟩ := hrel
    go_wp2_with fail
    refine (fixed_any _).mono ?_
    rintro r w1 ⟨rfl, k1⟩
    go_wp2_with fail
    refine (example_any _).mono ?_
    rintro r w2 ⟨rfl, k2⟩
    go_wp2_with fail
    have hG := fun W => groups_any ⟨5, 4, 1, 4, 64, 8, 16, 24, 200⟩ 16 W
    have e4 : groupsD ⟨5, 4, 1, 4, 64, 8, 16, 24, 200⟩ 16 = 400 := by decide
    rw [e4] at hG
    refine (hG _).mono ?_
    rintro r w3 ⟨rfl, k3⟩
    clear hG
    go_wp2_with fail
    go_ret
    exact ⟨rfl, ((kr.trans k1).trans k2).trans k3⟩
end layoutPlaces
end Go.Proofs.Yteokfhccfmeffab
