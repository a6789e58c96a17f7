import Derived.Deep.QuietTactic
import Derived.BigQuiet
import Derived.Test.YtgmcpjklgacdpaaRows
import Derived.WalkKit
import Derived.ProofKit
import Derived.OpenShut
import Derived.ShutString
import Derived.ChangeOld
import Derived.Below
import Derived.Carry
import Derived.Lib.SmallJoins
import Derived.Test.YtgmcpjklgacdpaaLo12
namespace Go.Proofs.Ytgmcpjklgacdpaa
open Go.RowKit Go.Shelf
namespace arenaLowest

def Post (w : World) (e : Ending) (w' : World) : Prop := e = .returned (.bool true) ∧ Below w.heap.size w w'

set_option maxRecDepth 100000 in
set_option maxHeartbeats 4000000 in
theorem walk_yes (n : Nat) (many : Nat) (holes : Int) (down : Bool) (w : World) (h1 : 1 ≤ n) (h2 : n ≤ 1048576) (h3 : many ≤ 64) :
    Calls Try.prog 3 #[.agg #[.int .i64 (n : Int), .int .i64 (many : Int), .int .u64 holes, .bool down]] w fun e w' => Post w e w' := by
  have g1 : ¬ (n : Int) < 1 := by omega
  have g2 : ¬ (1048576 : Int) < (n : Int) := by omega
  have g3 : ¬ (many : Int) < 0 := by omega
  have g4 : ¬ (64 : Int) < (many : Int) := by omega
  have hN := fun W => own_new (w := W) 2097152 (by omega)
  have hnum := num_any
  have hcls := fun W => classOf_any n W h1 h2
  have hcl := class_le n h1 h2
  generalize hc : classN n = c at *
  go_enter Try.func3, Try.ntmps3
  go_wp2_with fail
  go_quiet (fail)
  go_wp2_with fail
  refine (hN _).mono ?_
  rintro e w1 ⟨p, rfl, ho⟩
  clear hN
  go_wp2_with fail
  refine (hnum _ _).mono ?_
  rintro e w2 ⟨rfl, rfl⟩
  go_wp2_with fail
  refine (hcls _).mono ?_
  rintro e w3 ⟨rfl, rfl⟩
  clear hcls
  go_wp2_with fail
  have hW : Keeps w ((w.alloc (.cells #[.int .i64 (n : Int), .int .i64 (many : Int), .int .u64 holes, .bool down] 24)).drewN nq) (fun _ => False) := by
    have k := (Keeps.refl w (fun _ => False)).alloc (.cells #[.int .i64 (n : Int), .int .i64 (many : Int), .int .u64 holes, .bool down] 24)
    exact ⟨k.os, k.tape, k.output, k.size, k.block⟩
  generalize ((w.alloc (.cells #[.int .i64 (n : Int), .int .i64 (many : Int), .int .u64 holes, .bool down] 24)).drewN nq) = W0 at *
  have hc16 : 16 ≤ c := hcl.2.1
  have hcb : c ≤ 1048576 := hcl.2.2.1
  have hcn : Hid (classN n = c) := hc
  have hci : Hid (c ∈ classList) := by rw [← hc]; exact class_in n h1 h2
  clear hcl hc g1 g2 g3 g4
  go_loopw [10, 11] (fun vg vi wr => ∃ (g i : Nat) (d : AD), vg = .int .i64 (g : Int) ∧ vi = .int .i64 (i : Int) ∧ i ≤ many ∧ g ≤ i ∧ Hid (g = i ∨ 2097152 < (g + 1) * c) ∧ Hid (g * c ≤ 2097152) ∧ St d c g [] ∧ Own W0 wr p (fun _ => False) d) (fun _ vi _ => many - (intOf vi).toNat)
  case atStart => exact ⟨0, 0, AD.fresh 2097152, rfl, rfl, by omega, by omega, Or.inl rfl, (by omega : 0 * c ≤ 2097152), St.fresh c, ho⟩
  case round =>
    clear ho
    obtain ⟨g, i, d, rfl, rfl, hi, hgi, hgo, hgl, hS, ho⟩ := hrel
    by_cases hlt : i < many
    · have hlt' : (i : Int) < (many : Int) := by omega
      obtain ⟨P, hP⟩ : ∃ P : Nat, i * c = P := ⟨_, rfl⟩
      have hPi : (i : Int) * (c : Int) = (P : Int) := by rw [← hP]; push_cast; rfl
      have hQi : ((i : Int) + 1) * (c : Int) = (P : Int) + (c : Int) := by rw [Int.add_mul, hPi]; omega
      have hQ : (i + 1) * c = P + c := by rw [Nat.add_mul, hP, Nat.one_mul]
      have hPb : P ≤ 64 * 1048576 := by rw [← hP]; exact Nat.mul_le_mul (by omega) hcb
      by_cases hr : P + c ≤ 2097152
      · have hge : g = i := by
          rcases hgo.out with e | e
          · exact e
          · by_cases h : g = i
            · exact h
            · exfalso
              have : (g + 1) * c ≤ i * c := Nat.mul_le_mul_right c (by omega)
              omega
        subst hge
        have hA := lo_more ho (fun _ e => e.elim) hS hcn.out h1 h2 (by rw [hQ]; exact hr)
        have hseat : seatAt c g = 16 + (P : Int) := by unfold seatAt; rw [hPi]
        rw [hseat] at hA
        have hr' : ¬ (2097152 : Int) < (P : Int) + (c : Int) := by omega
        have hPl : Hid ((g + 1) * c ≤ 2097152) := by show _ ≤ _; omega
        clear hS ho hgo hP hQ hseat hgl
        go_wp2_with fail
        refine hA.mono ?_
        rintro e w4 ⟨rfl, d', hS, ho, -⟩
        clear hA
        go_wp2_with fail
        refine (hnum _ _).mono ?_
        rintro e w5 ⟨rfl, rfl⟩
        go_wp2_with fail
        go_roundw
        case rel => exact ⟨g + 1, g + 1, d', rfl, rfl, by omega, by omega, Or.inl rfl, hPl, hS, ho⟩
        case measure => simp [intOf]; omega
      · have hno : 2097152 < (g + 1) * c := by
          rcases hgo.out with e | e
          · rw [e, hQ]; omega
          · exact e
        have hA := lo_no ho hS hcn.out h1 h2 hno
        have hr' : (2097152 : Int) < (P : Int) + (c : Int) := by omega
        have hno' : Hid (2097152 < (g + 1) * c) := hno
        clear ho hgo hP hQ hno
        go_wp2_with fail
        refine hA.mono ?_
        rintro e w4 ⟨rfl, ho, -⟩
        clear hA
        go_wp2_with fail
        refine (hnum _ _).mono ?_
        rintro e w5 ⟨rfl, rfl⟩
        go_wp2_with fail
        go_roundw
        case rel => exact ⟨g, i + 1, d, rfl, rfl, by omega, by omega, Or.inr hno'.out, hgl, hS, ho⟩
        case measure => simp [intOf]; omega
    · have hlt' : ¬ (i : Int) < (many : Int) := by omega
      go_wp2_with fail
      have hgm : g ≤ 64 := by omega
      clear hgo hgi hi hlt hlt'
      have hH : W0.heap.size ≤ wr.heap.size := ho.keeps.size
      have hof := ho.fence
      obtain ⟨H, hHe⟩ : ∃ H, wr.heap.size = H := ⟨_, rfl⟩
      have hHle : H ≤ wr.heap.size := by omega
      rw [hHe] at hof hH
      go_loopw [14, 15] (fun vf vi wq => ∃ (j : Nat) (fs : List Int), vi = .int .i64 (j : Int) ∧ j ≤ g ∧ Hid (FsOK c j fs) ∧ wq.ownsRow H 3 1 vf fs.length (fs.map cellI) ∧ H ≤ wq.heap.size ∧ Own W0 wq p (fun k => H ≤ k) d) (fun _ vi _ => g - (intOf vi).toNat)
      case atStart => exact ⟨0, [], rfl, by omega, ⟨List.Pairwise.nil, fun _ h => (by cases h), by simp⟩, World.ownsRow_nil _ _ _ _, hHle, hof⟩
      case round =>
        clear ho hof hHle hHe
        obtain ⟨j, fs, rfl, hj, hfs, hown, hHq, ho⟩ := hrel
        by_cases hlt : j < g
        · have hlt' : (j : Int) < (g : Int) := by omega
          obtain ⟨P, hP⟩ : ∃ P : Nat, j * c = P := ⟨_, rfl⟩
          have hPi : (j : Int) * (c : Int) = (P : Int) := by rw [← hP]; push_cast; rfl
          have hPb : P ≤ 64 * 1048576 := by rw [← hP]; exact Nat.mul_le_mul (by omega) hcb
          have hj64 : j < 64 := by omega
          by_cases hb : (bits .and .u64 (holes / 2 ^ j) 1 == 1) = true
          · have hseat : seatAt c j = 16 + (P : Int) := by unfold seatAt; rw [hPi]
            obtain ⟨g', cap', w', hap, hown', kk, -⟩ := append_one (P := Try.prog) 33 3 (.int .i64 0) 8 Try.underlying33 (by kernel_rfl) rfl (hown.alloc (.cells #[.int .i64 (16 + (P : Int))] 3)) (heap_alloc_new wr (.cells #[.int .i64 (16 + (P : Int))] 3)) rfl (by have := hfs.out.2.2; omega) (by have := hfs.out.2.2; simp only [maxLen]; omega) (by simp; omega)
            have kH : Keeps wr w' (fun k => H ≤ k) := (((Keeps.refl wr (fun k => H ≤ k)).alloc _).trans kk (fun i hi e => (hown.lt i e).1))
            have hrow' : w'.ownsRow H 3 1 (.slice (some ⟨g', 0, none⟩) (fs.length + 1) cap') (fs ++ [seatAt c j]).length ((fs ++ [seatAt c j]).map cellI) := by
              rw [hseat]
              simpa [cellI] using hown'
            have ho' := ho.grow hH kH
            have hHq' : H ≤ w'.heap.size := Nat.le_trans hHq kH.size
            have hfs' : Hid (FsOK c (j + 1) (fs ++ [seatAt c j])) := hfs.out.snoc (by omega)
            clear hown hown' ho kk kH hfs hHq hseat hP
            go_wp2_with (first | (at_builtin; have _t := hap; refine app_run _ rfl (.tmp 105) (.tmp 110) 33 rfl rfl rfl hap ?_; clear hap))
            go_roundw
            case rel => exact ⟨j + 1, fs ++ [seatAt c j], rfl, by omega, hfs', hrow', hHq', ho'⟩
            case measure => simp [intOf]; omega
          · have hb' : (bits .and .u64 (holes / 2 ^ j) 1 == 1) = false := by simpa using hb
            clear hb
            go_wp2_with fail
            go_roundw
            case rel => exact ⟨j + 1, fs, rfl, by omega, hfs.out.skip, hown, hHq, ho⟩
            case measure => simp [intOf]; omega
        · have hlt' : ¬ (j : Int) < (g : Int) := by omega
          have hjg : j = g := by omega
          rw [hjg] at hfs
          clear hjg
          obtain ⟨so, cp, rfl, hrow, hX⟩ := row_of_own hown
          have ho2 : Own W0 wr p (RowX so) d := ho.less (fun k _ _ e => (hX k e).1)
          have hXl : ∀ k, RowX so k → k < wr.heap.size := fun k e => (hX k e).2
          have hfl : fs.length ≤ 64 := by have := hfs.out.2.2; omega
          clear hown ho hX hHq hlt hj
          have hc0 : 0 < c := by omega
          by_cases hz : fs = []
          · subst hz
            clear hfs hrow
            have hSe := hS
            have ho := ho2
            clear ho2 hS
            go_wp2_with fail
            go_loopw [114] (fun vk wq => vk = .int .i64 0 ∧ Own W0 wq p (RowX so) d ∧ ∀ k, RowX so k → k < wq.heap.size) (fun _ _ => 0)
            case atStart => exact ⟨rfl, ho, hXl⟩
            case round =>
              clear ho hXl
              obtain ⟨rfl, ho, hXr⟩ := hrel
              go_wp2_with fail
              go_loopw [139] (fun vk wq => vk = .int .i64 0 ∧ Own W0 wq p (RowX so) d ∧ ∀ k, RowX so k → k < wq.heap.size) (fun _ _ => 0)
              case atStart => exact ⟨rfl, ho, hXr⟩
              case round =>
                clear ho hXr
                obtain ⟨rfl, ho, hXr⟩ := hrel
                have hXl : ∀ k, RowX so k → k < wr.heap.size := hXr
                have hcc : classN c = c := by
                  have := class_class n h1 h2
                  rwa [hcn.out] at this
                obtain ⟨P, hP⟩ : ∃ P : Nat, g * c = P := ⟨_, rfl⟩
                have hPi : (g : Int) * (c : Int) = (P : Int) := by rw [← hP]; push_cast; rfl
                have hQi : ((g : Int) + 1) * (c : Int) = (P : Int) + (c : Int) := by rw [Int.add_mul, hPi]; omega
                have hQ : (g + 1) * c = P + c := by rw [Nat.add_mul, hP, Nat.one_mul]
                have hPb : P ≤ 64 * 1048576 := by rw [← hP]; exact Nat.mul_le_mul (by omega) hcb
                by_cases hr : P + c ≤ 2097152
                · have hA := lo_more ho hXl hSe hcc (by omega) hcb (by rw [hQ]; exact hr)
                  have hseat : seatAt c g = 16 + (P : Int) := by unfold seatAt; rw [hPi]
                  rw [hseat] at hA
                  have hr' : ¬ (2097152 : Int) < (P : Int) + (c : Int) := by omega
                  clear ho hSe hXl hP hseat hcc
                  go_wp2_with fail
                  refine hA.mono ?_
                  rintro e w4 ⟨rfl, d3, hS3, ho3, -⟩
                  clear hA
                  have hE := lo_end ho3
                  have hL := lo_live ho3
                  have hlen : (d3.bs.length : Int) = 16 + ((P : Int) + (c : Int)) := by rw [hS3.len, hQ]; omega
                  have huse : (d3.used : Int) = (P : Int) + (c : Int) := by
                    have := hS3.use
                    simp only [List.length_nil, Nat.zero_mul, Nat.add_zero] at this
                    rw [this, hQ]
                    omega
                  rw [hlen] at hE
                  rw [huse] at hL
                  have hbel := ho3.below hW
                  clear hS3 ho3 hlen huse hQ
                  go_wp2_with fail
                  refine (hnum _ _).mono ?_
                  rintro e w5 ⟨rfl, rfl⟩
                  go_wp2_with fail
                  refine hE.mono ?_
                  rintro e w6 ⟨rfl, rfl⟩
                  go_wp2_with fail
                  refine hL.mono ?_
                  rintro e w7 ⟨rfl, rfl⟩
                  go_wp2_with fail
                  go_ret
                  exact ⟨rfl, hbel⟩
                · have hA := lo_no ho hSe hcc (by omega) hcb (by rw [hQ]; omega)
                  have hr' : (2097152 : Int) < (P : Int) + (c : Int) := by omega
                  clear ho hSe hXl hP hQ hcc
                  go_wp2_with fail
                  refine hA.mono ?_
                  rintro e w4 ⟨rfl, ho3, -⟩
                  clear hA
                  have hbel := ho3.below hW
                  clear ho3
                  go_wp2_with fail
                  refine (hnum _ _).mono ?_
                  rintro e w5 ⟨rfl, rfl⟩
                  go_wp2_with fail
                  go_ret
                  exact ⟨rfl, hbel⟩
          · have hpos : 0 < fs.length := List.length_pos_iff.2 hz
            obtain ⟨b, rfl, -⟩ := hrow 0 hpos
            clear hz
            have hrise : Hid (fs.Pairwise (· < ·)) := hfs.out.1
            have hseats : Hid (∀ z ∈ fs, ∃ i, i < g ∧ z = seatAt c i) := hfs.out.2.1
            have hS0 : St d c g (rising ((freeOrder down fs).take 0)) := by simpa [rising] using hS
            clear hS hfs
            go_wp2_with fail
            go_loopw [114] (fun vk wq => ∃ (k : Nat) (d' : AD), vk = .int .i64 (k : Int) ∧ k ≤ fs.length ∧ St d' c g (rising ((freeOrder down fs).take k)) ∧ Own W0 wq p (RowX (some ⟨b, 0, none⟩)) d' ∧ RowAt wq (some ⟨b, 0, none⟩) fs ∧ (∀ q, RowX (some ⟨b, 0, none⟩) q → q < wq.heap.size)) (fun vk _ => fs.length - (intOf vk).toNat)
            case atStart => exact ⟨0, d, rfl, by omega, hS0, ho2, hrow, hXl⟩
            case round =>
              clear ho2 hrow hXl hS0
              obtain ⟨k, d', rfl, hk, hS, ho, hrow, hXl⟩ := hrel
              by_cases hlt : k < fs.length
              · have hlt' : (k : Int) < (fs.length : Int) := by omega
                have hkl : k < (freeOrder down fs).length := by rw [freeOrder_length]; exact hlt
                obtain ⟨hnm, hri⟩ := free_step_data hkl hrise.out
                obtain ⟨i, hig, hie⟩ := hseats.out _ ((freeOrder_perm down fs).mem_iff.1 (List.getElem_mem hkl))
                have hbl := hXl b rfl
                rw [hie] at hnm hri
                have hA := lo_free ho hXl hS hig hnm hc0
                rw [hri] at hA
                clear hS ho hnm hri hig
                cases down
                · have hc1 := row_up hrow hkl
                  rw [hie] at hc1
                  clear hie hkl
                  go_wp2_with fail
                  refine hA.mono ?_
                  rintro e w4 ⟨rfl, d2, hS2, ho2, hkeep⟩
                  clear hA
                  have hrow2 := hrow.kept hkeep
                  have hXl2 := rowx_lt hXl hkeep
                  clear hrow hXl hkeep hbl
                  go_wp2_with fail
                  refine (hnum _ _).mono ?_
                  rintro e w5 ⟨rfl, rfl⟩
                  go_wp2_with fail
                  go_roundw
                  case rel => exact ⟨k + 1, d2, rfl, by omega, hS2, ho2, hrow2, hXl2⟩
                  case measure => simp [intOf]; omega
                · have hc1 := row_order hrow hkl
                  obtain ⟨b', eb, hck⟩ := hrow k hlt
                  cases eb
                  rw [hie] at hc1
                  have hidx : (fs.length : Int) - 1 - (k : Int) = ((fs.length - 1 - k : Nat) : Int) := by omega
                  have hilt : fs.length - 1 - k < fs.length := by omega
                  clear hie hkl
                  go_wp2_with fail
                  refine hA.mono ?_
                  rintro e w4 ⟨rfl, d2, hS2, ho2, hkeep⟩
                  clear hA
                  have hrow2 := hrow.kept hkeep
                  have hXl2 := rowx_lt hXl hkeep
                  clear hrow hXl hkeep hbl
                  go_wp2_with fail
                  refine (hnum _ _).mono ?_
                  rintro e w5 ⟨rfl, rfl⟩
                  go_wp2_with fail
                  go_roundw
                  case rel => exact ⟨k + 1, d2, rfl, by omega, hS2, ho2, hrow2, hXl2⟩
                  case measure => simp [intOf]; omega
              · have hlt' : ¬ (k : Int) < (fs.length : Int) := by omega
                have hSf : St d' c g (fs.drop 0) := by
                  have e1 : (freeOrder down fs).take k = freeOrder down fs := List.take_of_length_le (by rw [freeOrder_length]; omega)
                  rw [e1, rising_of_perm (freeOrder_perm down fs) hrise.out] at hS
                  simpa using hS
                clear hS hlt hk
                go_wp2_with fail
                go_loopw [139] (fun vk wq => ∃ (q : Nat) (d2 : AD), vk = .int .i64 (q : Int) ∧ q ≤ fs.length ∧ St d2 c g (fs.drop q) ∧ Own W0 wq p (RowX (some ⟨b, 0, none⟩)) d2 ∧ RowAt wq (some ⟨b, 0, none⟩) fs ∧ (∀ q, RowX (some ⟨b, 0, none⟩) q → q < wq.heap.size)) (fun vk _ => fs.length - (intOf vk).toNat)
                case atStart => exact ⟨0, d', rfl, by omega, hSf, ho, hrow, hXl⟩
                case round =>
                  clear ho hrow hXl hSf hlt'
                  obtain ⟨q, d2, rfl, hq, hS, ho, hrow, hXl⟩ := hrel
                  by_cases hlt : q < fs.length
                  · have hlt' : (q : Int) < (fs.length : Int) := by omega
                    obtain ⟨b', eb, hc1⟩ := hrow q hlt
                    cases eb
                    have hbl := hXl b rfl
                    rw [List.drop_eq_getElem_cons hlt] at hS
                    have hA := lo_again ho hXl hS hcn.out h1 h2 hgl.out
                    generalize fs[q] = y at *
                    clear hS ho
                    go_wp2_with fail
                    refine hA.mono ?_
                    rintro e w4 ⟨rfl, d3, hS3, ho3, hkeep⟩
                    clear hA
                    have hrow2 := hrow.kept hkeep
                    have hXl2 := rowx_lt hXl hkeep
                    clear hrow hXl hkeep hbl
                    go_wp2_with fail
                    refine (hnum _ _).mono ?_
                    rintro e w5 ⟨rfl, rfl⟩
                    go_wp2_with fail
                    go_roundw
                    case rel => exact ⟨q + 1, d3, rfl, by omega, hS3, ho3, hrow2, hXl2⟩
                    case measure => simp [intOf]; omega
                  · have hlt' : ¬ (q : Int) < (fs.length : Int) := by omega
                    have hSe : St d2 c g [] := by
                      rw [List.drop_eq_nil_of_le (by omega)] at hS
                      exact hS
                    clear hS hlt
                    have hcc : classN c = c := by
                      have := class_class n h1 h2
                      rwa [hcn.out] at this
                    obtain ⟨P, hP⟩ : ∃ P : Nat, g * c = P := ⟨_, rfl⟩
                    have hPi : (g : Int) * (c : Int) = (P : Int) := by rw [← hP]; push_cast; rfl
                    have hQi : ((g : Int) + 1) * (c : Int) = (P : Int) + (c : Int) := by rw [Int.add_mul, hPi]; omega
                    have hQ : (g + 1) * c = P + c := by rw [Nat.add_mul, hP, Nat.one_mul]
                    have hPb : P ≤ 64 * 1048576 := by rw [← hP]; exact Nat.mul_le_mul (by omega) hcb
                    by_cases hr : P + c ≤ 2097152
                    · have hA := lo_more ho hXl hSe hcc (by omega) hcb (by rw [hQ]; exact hr)
                      have hseat : seatAt c g = 16 + (P : Int) := by unfold seatAt; rw [hPi]
                      rw [hseat] at hA
                      have hr' : ¬ (2097152 : Int) < (P : Int) + (c : Int) := by omega
                      clear ho hSe hrow hXl hP hseat hcc
                      go_wp2_with fail
                      refine hA.mono ?_
                      rintro e w4 ⟨rfl, d3, hS3, ho3, -⟩
                      clear hA
                      have hE := lo_end ho3
                      have hL := lo_live ho3
                      have hlen : (d3.bs.length : Int) = 16 + ((P : Int) + (c : Int)) := by rw [hS3.len, hQ]; omega
                      have huse : (d3.used : Int) = (P : Int) + (c : Int) := by
                        have := hS3.use
                        simp only [List.length_nil, Nat.zero_mul, Nat.add_zero] at this
                        rw [this, hQ]
                        omega
                      rw [hlen] at hE
                      rw [huse] at hL
                      have hbel := ho3.below hW
                      clear hS3 ho3 hlen huse hQ
                      go_wp2_with fail
                      refine (hnum _ _).mono ?_
                      rintro e w5 ⟨rfl, rfl⟩
                      go_wp2_with fail
                      refine hE.mono ?_
                      rintro e w6 ⟨rfl, rfl⟩
                      go_wp2_with fail
                      refine hL.mono ?_
                      rintro e w7 ⟨rfl, rfl⟩
                      go_wp2_with fail
                      go_ret
                      exact ⟨rfl, hbel⟩
                    · have hA := lo_no ho hSe hcc (by omega) hcb (by rw [hQ]; omega)
                      have hr' : (2097152 : Int) < (P : Int) + (c : Int) := by omega
                      clear ho hSe hrow hXl hP hQ hcc
                      go_wp2_with fail
                      refine hA.mono ?_
                      rintro e w4 ⟨rfl, ho3, -⟩
                      clear hA
                      have hbel := ho3.below hW
                      clear ho3
                      go_wp2_with fail
                      refine (hnum _ _).mono ?_
                      rintro e w5 ⟨rfl, rfl⟩
                      go_wp2_with fail
                      go_ret
                      exact ⟨rfl, hbel⟩
set_option maxRecDepth 100000 in
set_option maxHeartbeats 4000000 in
theorem walk_no1 (n many holes : Int) (down : Bool) (w : World) (h : n < 1) :
    Calls Try.prog 3 #[.agg #[.int .i64 n, .int .i64 many, .int .u64 holes, .bool down]] w fun e w' => Post w e w' := by
  have hN := fun W => own_new (w := W) 2097152 (by omega)
  have hnum := num_any
  go_enter Try.func3, Try.ntmps3
  go_wp2_with fail
  go_quiet (fail)
  go_wp2_with fail
  refine (hN _).mono ?_
  rintro e w1 ⟨p, rfl, ho⟩
  clear hN
  have hW : Keeps w ((w.alloc (.cells #[.int .i64 n, .int .i64 many, .int .u64 holes, .bool down] 24)).drewN nq) (fun _ => False) := by
    have k := (Keeps.refl w (fun _ => False)).alloc (.cells #[.int .i64 n, .int .i64 many, .int .u64 holes, .bool down] 24)
    exact ⟨k.os, k.tape, k.output, k.size, k.block⟩
  have hbel := ho.below hW
  clear ho hW
  go_wp2_with fail
  refine (hnum _ _).mono ?_
  rintro e w2 ⟨rfl, rfl⟩
  go_wp2_with fail
  go_ret
  exact ⟨rfl, hbel⟩

set_option maxRecDepth 100000 in
set_option maxHeartbeats 4000000 in
theorem walk_no2 (n many holes : Int) (down : Bool) (w : World) (h0 : ¬ n < 1) (h : 1048576 < n) :
    Calls Try.prog 3 #[.agg #[.int .i64 n, .int .i64 many, .int .u64 holes, .bool down]] w fun e w' => Post w e w' := by
  have hN := fun W => own_new (w := W) 2097152 (by omega)
  have hnum := num_any
  go_enter Try.func3, Try.ntmps3
  go_wp2_with fail
  go_quiet (fail)
  go_wp2_with fail
  refine (hN _).mono ?_
  rintro e w1 ⟨p, rfl, ho⟩
  clear hN
  have hW : Keeps w ((w.alloc (.cells #[.int .i64 n, .int .i64 many, .int .u64 holes, .bool down] 24)).drewN nq) (fun _ => False) := by
    have k := (Keeps.refl w (fun _ => False)).alloc (.cells #[.int .i64 n, .int .i64 many, .int .u64 holes, .bool down] 24)
    exact ⟨k.os, k.tape, k.output, k.size, k.block⟩
  have hbel := ho.below hW
  clear ho hW
  go_wp2_with fail
  refine (hnum _ _).mono ?_
  rintro e w2 ⟨rfl, rfl⟩
  go_wp2_with fail
  go_ret
  exact ⟨rfl, hbel⟩

set_option maxRecDepth 100000 in
set_option maxHeartbeats 4000000 in
theorem walk_no3 (n many holes : Int) (down : Bool) (w : World) (h0 : ¬ n < 1) (h1 : ¬ 1048576 < n) (h : many < 0) :
    Calls Try.prog 3 #[.agg #[.int .i64 n, .int .i64 many, .int .u64 holes, .bool down]] w fun e w' => Post w e w' := by
  have hN := fun W => own_new (w := W) 2097152 (by omega)
  have hnum := num_any
  go_enter Try.func3, Try.ntmps3
  go_wp2_with fail
  go_quiet (fail)
  go_wp2_with fail
  refine (hN _).mono ?_
  rintro e w1 ⟨p, rfl, ho⟩
  clear hN
  have hW : Keeps w ((w.alloc (.cells #[.int .i64 n, .int .i64 many, .int .u64 holes, .bool down] 24)).drewN nq) (fun _ => False) := by
    have k := (Keeps.refl w (fun _ => False)).alloc (.cells #[.int .i64 n, .int .i64 many, .int .u64 holes, .bool down] 24)
    exact ⟨k.os, k.tape, k.output, k.size, k.block⟩
  have hbel := ho.below hW
  clear ho hW
  go_wp2_with fail
  refine (hnum _ _).mono ?_
  rintro e w2 ⟨rfl, rfl⟩
  go_wp2_with fail
  go_ret
  exact ⟨rfl, hbel⟩

set_option maxRecDepth 100000 in
set_option maxHeartbeats 4000000 in
theorem walk_no4 (n many holes : Int) (down : Bool) (w : World) (h0 : ¬ n < 1) (h1 : ¬ 1048576 < n) (h2 : ¬ many < 0) (h : 64 < many) :
    Calls Try.prog 3 #[.agg #[.int .i64 n, .int .i64 many, .int .u64 holes, .bool down]] w fun e w' => Post w e w' := by
  have hN := fun W => own_new (w := W) 2097152 (by omega)
  have hnum := num_any
  go_enter Try.func3, Try.ntmps3
  go_wp2_with fail
  go_quiet (fail)
  go_wp2_with fail
  refine (hN _).mono ?_
  rintro e w1 ⟨p, rfl, ho⟩
  clear hN
  have hW : Keeps w ((w.alloc (.cells #[.int .i64 n, .int .i64 many, .int .u64 holes, .bool down] 24)).drewN nq) (fun _ => False) := by
    have k := (Keeps.refl w (fun _ => False)).alloc (.cells #[.int .i64 n, .int .i64 many, .int .u64 holes, .bool down] 24)
    exact ⟨k.os, k.tape, k.output, k.size, k.block⟩
  have hbel := ho.below hW
  clear ho hW
  go_wp2_with fail
  refine (hnum _ _).mono ?_
  rintro e w2 ⟨rfl, rfl⟩
  go_wp2_with fail
  go_ret
  exact ⟨rfl, hbel⟩

theorem walk (n many holes : Int) (down : Bool) (w : World) :
    Calls Try.prog 3 #[.agg #[.int .i64 n, .int .i64 many, .int .u64 holes, .bool down]] w fun e w' => Post w e w' := by
  by_cases h1 : n < 1
  · exact walk_no1 n many holes down w h1
  by_cases h2 : 1048576 < n
  · exact walk_no2 n many holes down w h1 h2
  by_cases h3 : many < 0
  · exact walk_no3 n many holes down w h1 h2 h3
  by_cases h4 : 64 < many
  · exact walk_no4 n many holes down w h1 h2 h3 h4
  obtain ⟨n', rfl⟩ := Int.eq_ofNat_of_zero_le (show 0 ≤ n by omega)
  obtain ⟨m', rfl⟩ := Int.eq_ofNat_of_zero_le (show 0 ≤ many by omega)
  exact walk_yes n' m' holes down w (by omega) (by omega) (by omega)
end arenaLowest
end Go.Proofs.Ytgmcpjklgacdpaa
/-
  The statement on ArenaLowest out of its walk.
-/
namespace Go.Proofs.Ytgmcpjklgacdpaa
namespace arenaLowest
open Go.ChangeShapes Go.WideShapes Go.ChangeAt Go.RowKit
set_option linter.unusedVariables false

theorem own : ownKnob Try.prog.godebug = none := by kernel_rfl
theorem laidOut : laidOutB Try.prog = true := by kernel_rfl

set_option maxRecDepth 100000 in
theorem lifted (os : Os) (started : os.Started) (H : Type) (enc : TypeId × Value → H) :
    ReturnsInHanded {} Try.checked os 3 .any (Rows.arenaLowestSpec.pre6 enc Try.prog Try.f3 Rows.arenaLowestRow.domain false) (Rows.arenaLowestSpec.post enc Try.prog Try.f3 false true false false) := by
  refine returnsInHanded_of_change (C := Try.checked) own started (by kernel_rfl) Try.func3
    (ChangeSpec.witness6 (enc := enc) (C := Try.checked) false ⟨#[], #[.agg #[.int .i64 0, .int .i64 0, .int .u64 0, .bool false]], []⟩ 8 (by kernel_rfl) (by kernel_rfl) (by kernel_rfl) (by kernel_rfl)) ?_
  intro W base args ds gs before hval0 hW hcnd _
  have hval : ∀ (j : Nat) t v, Try.f3.params[j]? = some t → args[j]? = some v → Value.okWide Try.prog W .any base t v := hval0
  have hW' := hW
  obtain ⟨p, q, hA0, hV, rfl, hfz, hnd⟩ := hW
  have hA : DataW.TrodAll enc Try.prog W 0 (fun _ => true) true Try.f3.params.toList args.toList ds p := hA0
  rw [Try.params3] at hA hval
  obtain ⟨v0, vs0, d0, ds0, p0, q0, hargs, rfl, rfl, h0, r0⟩ := trodAll_cons hA
  obtain ⟨rfl, rfl, rfl⟩ := trodAll_nil r0
  obtain rfl : args = #[v0] := by cases args; simp_all
  obtain ⟨rfl, rfl⟩ := trodVars_none hV
  have k0 := h0
  have lt0 : ∀ x ∈ p0, x.block < W.heap.size := by obtain ⟨m, hm⟩ := k0; exact DataW.trod_lt m _ _ _ hm
  obtain ⟨c0, c1, c2, c3, y0, y1, y2, y3, n, rfl, rfl, rfl, t0, t1, t2, t3⟩ := Go.Joins.open_agg4 Try.underlying24 (by kernel_rfl) (by kernel_rfl) (hval 0 24 v0 rfl rfl) h0
  obtain ⟨x0, e0, rfl, w0⟩ := DataW.trod_int Try.underlying3 t0
  obtain ⟨x1, e1, rfl, w1⟩ := DataW.trod_int Try.underlying3 t1
  obtain ⟨x2, e2, rfl, w2⟩ := DataW.trod_int Try.underlying22 t2
  obtain ⟨x3, e3, h3⟩ := DataW.trod_bool Try.underlying4 t3
  simp only [List.cons.injEq, and_true] at e0 e1 e2 e3
  subst e0 e1 e2 e3
  clear hA0 hval0
  refine (walk x0 x1 x2 x3 W).mono fun e W' ⟨he, bel⟩ => ?_
  subst he
  exact ⟨_, rfl, _, _, _, [], _, [], hW', (trodAll_cons_mk (shut_bool Try.underlying4 _) trodAll_mk0), (trodAll_cons_mk (Below.trod laidOut (by kernel_rfl) (of_decide_eq_true (by kernel_rfl)) k0 bel lt0) trodAll_mk0), rfl, bel.frame _, fun h => by cases h⟩

theorem over : Rows.arenaLowestRow.holds Try.pinned (OpenSpec.ofChange Rows.arenaLowestSpec) :=
  OpenClaim.holds_of_wide 3 Try.f3 rfl rfl rfl rfl rfl rfl rfl ⟨rfl, rfl, rfl, rfl, rfl⟩ rfl rfl rfl rfl rfl (by kernel_rfl) Try.func3 (by kernel_rfl)
    (of_decide_eq_true (by kernel_rfl)) (by unfold Func.isWrapper; first | (rw [if_pos (by decide +kernel)]; kernel_rfl) | (rw [if_neg (by decide +kernel)]; exact ⟨rfl, rfl⟩))
    (fun os started H enc _ => lifted os started H enc)

end arenaLowest

theorem arenaLowest_holds : Rows.ArenaLowestSaid :=
  arenaLowest.over
end Go.Proofs.Ytgmcpjklgacdpaa
