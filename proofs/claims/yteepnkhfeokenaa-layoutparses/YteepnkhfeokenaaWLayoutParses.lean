import Derived.Test.YteepnkhfeokenaaS3
namespace Go.Proofs.Yteepnkhfeokenaa
open Go.RowKit
namespace layoutParses

def Post (w : World) (e : Ending) (w' : World) : Prop := e = .returned (.bool true) ∧ Below w.heap.size w w'

theorem cell_lt1 {w : World} {b i : Nat} {v : Value} (h : w.cell? ⟨b, i, none⟩ = some v) : b < w.heap.size := by
  refine Nat.lt_of_not_le fun hn => ?_
  rw [World.cell?, Array.getElem?_eq_none hn] at h
  cases h

set_option maxRecDepth 100000 in
set_option maxHeartbeats 8000000 in
theorem walk (b o len cap : Nat) (V : Nat → Value) (X : Nat → List Int) (w : World) (hlen : len ≤ 17592186044000) (hA : ∀ i, i < len → w.cell? ⟨b, o + i, none⟩ = some (V i) ∧ InAt w (V i) (X i) ∧ (X i).length ≤ 17592186044000) :
    Calls Try.prog 3 #[.slice (some ⟨b, o, none⟩) len cap] w fun r w' => Post w r w' := by
  go_enter Try.func3, Try.ntmps3
  go_wp2_with fail
  go_loopw [3] (fun v wr => ∃ i : Nat, v = .int .i64 (i : Int) ∧ i ≤ len ∧ Kp w wr) (fun v _ => len - (intOf v).toNat)
  case atStart => exact ⟨0, rfl, by omega, Kp.refl _⟩
  case round =>
    obtain ⟨i, rfl, hi, kr⟩ := hrel
    by_cases hlt : i < len
    · have hlt' : (i : Int) < (len : Int) := by omega
      obtain ⟨c0, hin, hxl⟩ := hA i hlt
      replace c0 := kr.cell c0
      replace hin := hin.kp kr
      generalize V i = v at *
      generalize X i = xs at *
      have hR := fun W (h : InAt W v xs) => ref_in h
      have hP := fun W (h cap : Nat) (p1 : ∀ j (hj : j < xs.length), World.cell? W ⟨h, j, none⟩ = some (.int .i64 xs[j])) => parse_row h cap p1
      generalize hM : parseD xs = M at hR hP
      obtain ⟨m, er⟩ := M
      unfold Lay.val at hR hP
      dsimp only at hR hP
      go_wp2_with fail
      refine (hR _ hin).mono ?_
      rintro r w1 ⟨rfl, k1⟩
      replace c0 := k1.cell c0
      replace hin := hin.kp k1
      have kw := kr.trans k1
      have hblt := cell_lt1 c0
      clear hR k1 kr
      go_wp2_with fail
      refine alloc_any (P := fun W => Calls _ _ _ W _) fun W1 hMb kW => ?_
      replace c0 := kW.cell c0
      replace hin := hin.kp kW
      replace kw := kw.trans kW
      clear kW hblt
      generalize w1.heap.size = Mb at *
      refine (spare_in hin hxl).mono ?_
      rintro r w2 ⟨h, cp, rfl, hc, hm, p1, p2, p3, hhb, k2⟩
      replace c0 := k2.cell c0
      replace hin := hin.kp k2
      replace kw := kw.trans k2
      replace hMb := k2.blk hMb
      clear k2 hhb
      go_wp2_with fail
      refine (hP _ h cp p1).mono ?_
      rintro r w3 ⟨rfl, k3⟩
      replace c0 := k3.cell c0
      replace hin := hin.kp k3
      replace kw := kw.trans k3
      replace hMb := k3.blk hMb
      replace p1 := fun j hj => k3.cell (p1 j hj)
      replace p2 := k3.cell p2
      replace p3 := k3.cell p3
      have hblt := cell_lt1 c0
      have hMlt : Mb < w3.heap.size := (Array.getElem?_eq_some_iff.1 hMb).1
      clear k3 hP
      obtain ⟨d0, d1, d2, d3, d4, d5, d6, d7, d8, -⟩ := (Kp.refl w3).nine hMb
      go_wp2_with fail
      refine alloc_any (P := fun W => Calls _ _ _ W _) fun W4 hLb kW => ?_
      replace hin := hin.kp kW
      replace kw := kw.trans kW
      replace p1 := fun j hj => kW.cell (p1 j hj)
      replace p2 := kW.cell p2
      replace p3 := kW.cell p3
      refine (same_in h cp hin hxl hc hm p1 p2 p3).mono ?_
      rintro r w5 ⟨rfl, k5⟩
      replace kw := kw.trans k5
      clear hin p1 p2 p3 hM hLb hMb k5 kW
      go_wp2_with fail
      go_roundw
      case rel => exact ⟨i + 1, rfl, by omega, kw⟩
      case measure => simp [intOf]; omega
    · have hlt' : ¬ (i : Int) < (len : Int) := by omega
      go_wp2_with fail
      refine (fixed_any _).mono ?_
      rintro r w1 ⟨rfl, k1⟩
      go_wp2_with fail
      go_ret
      exact ⟨rfl, kr.trans k1⟩

set_option maxRecDepth 100000 in
set_option maxHeartbeats 8000000 in
theorem walk0 (so : Option Addr) (cap : Nat) (w : World) :
    Calls Try.prog 3 #[.slice so 0 cap] w fun r w' => Post w r w' := by
  go_enter Try.func3, Try.ntmps3
  go_wp2_with fail
  go_loopw [3] (fun v wr => v = .int .i64 0 ∧ Kp w wr) (fun _ _ => 0)
  case atStart => exact ⟨rfl, Kp.refl _⟩
  case round =>
    obtain ⟨rfl, kr⟩ := hrel
    go_wp2_with fail
    refine (fixed_any _).mono ?_
    rintro r w1 ⟨rfl, k1⟩
    go_wp2_with fail
    go_ret
    exact ⟨rfl, kr.trans k1⟩
end layoutParses
end Go.Proofs.Yteepnkhfeokenaa
