/-
  TB9 beside the pointer's box. (made by gentc.py)
-/
import Derived.Test.YtmdnknbolgedgaaGreatDoorHTC7
import Derived.BigQuiet
namespace Go.Proofs.YtmdnknbolgedgaaGreatDoor
open Go.RowKit Go.Shelf Ly Ct
set_option linter.unusedVariables false
set_option linter.unusedSectionVars false
namespace Bx
variable [BoxNo]
section
variable {w wr : World} {b p : Nat} {l : Lay} {G j g o nh hc : Nat} {hv : Nat → Nat} {fs ts lv : Value} {L : List LifeD} {ad : Nat} {d : AD} {f : Nat → Int} {c : Nat → GC}
set_option maxRecDepth 100000 in
set_option maxHeartbeats 4000000 in
theorem asks_no (h : BM w wr b p l G fs ts (.slice (some ⟨g, o, none⟩) nh hc) lv L ad d f c) (P : PlanAt w l G j g o nh hv) (tie : LTie c G f (hsT hv nh) L ad) (n : Int) (hn : fitsI n) (hno : ∀ x, x ∈ L → x.key ≠ keyT l n) :
    Calls Tryz.prog 28 #[.pointer (some ⟨b, 0, none⟩), .int .i64 n] wr fun e w' => e = .returned (.bool true) ∧ Keeps wr w' (fun _ => False) := by
  have hG8 := P.le
  have hfew := tie.few
  have hK := keyT_size h.tab.valid n
  have hKey := bm_key h P n hn
  have hGet : Hid (∀ W, Keeps wr W (fun _ => False) → _) := fun W q => bm_get_no (h.stay q) P tie hK hno
  have hFi : Hid (∀ W, Keeps wr W (fun _ => False) → _) := fun W q => bm_find_no (h.stay q) P tie hK hno
  have hPl : Hid (∀ W, Keeps wr W (fun _ => False) → _) := fun W q => bm_place (h.stay q) (by omega) (keyT l n)
  have ep : placeL (keyT l n) L 0 = -1 := by
    rcases placeL_spec (keyT l n) L 0 with q | ⟨i, hi, q1, q2⟩
    · exact q.1
    · exact absurd q2 (hno _ (List.getElem_mem hi))
  rw [ep] at hPl
  have hB : Hid (∀ W, Keeps wr W (fun _ => False) → W.heap[b]? = some (.cells (benC p l 16 fs ((8 * G : Nat) : Int) (.slice (some ⟨g, o, none⟩) nh hc) ts lv (ad : Int)) 57)) := fun W q => q.blk h.blk
  have hNum := fun x W => num8_any x W
  clear ep hK h tie hno hn P hG8 hfew
  generalize hsT hv nh (keyT l n) = H at *
  generalize keyT l n = K at *
  go_enter Tryz.func28, Tryz.ntmps28
  go_wp2_with fail
  (with_reducible refine hKey.mono ?_)
  rintro r w1 ⟨rfl, k1⟩
  obtain ⟨t0, t1, t2, t3, t4, t5, t6, t7, t8, t9, t10⟩ := ben_T (hB.out _ k1)
  clear hKey
  go_wp2_with fail
  (with_reducible refine (hGet.out _ k1).mono ?_)
  rintro r w2 ⟨rfl, k2⟩
  have k3 : Keeps wr (w2.alloc (.cells #[.int .i64 0, .int .i64 0, .string ByteArray.empty, .string ByteArray.empty, .int .i64 0] 83)) (fun _ => False) := (k1.trans k2 (fun _ _ e => e)).alloc _
  clear t0 t1 t2 t3 t4 t5 t6 t7 t8 t9 t10
  obtain ⟨t0, t1, t2, t3, t4, t5, t6, t7, t8, t9, t10⟩ := ben_T (hB.out _ k3)
  have hc3 := heap_alloc_new w2 (.cells #[.int .i64 0, .int .i64 0, .string ByteArray.empty, .string ByteArray.empty, .int .i64 0] 83)
  clear k2 k1 hGet
  go_wp2_with fail
  generalize w2.alloc (.cells #[.int .i64 0, .int .i64 0, .string ByteArray.empty, .string ByteArray.empty, .int .i64 0] 83) = W3 at *
  generalize w2.heap.size = B3 at *
  (with_reducible refine (hFi.out _ k3).mono ?_)
  rintro r w4 ⟨rfl, k4⟩
  have k5 := k3.trans k4 (fun _ _ e => e)
  obtain ⟨u0, u1, u2, u3, u4, -⟩ := five_cells (k4.blk hc3)
  clear t0 t1 t2 t3 t4 t5 t6 t7 t8 t9 t10 hFi hB k3 hc3
  go_wp2_with fail
  refine (hNum _ _).mono ?_
  rintro r w6 ⟨rfl, hw⟩
  subst hw
  go_wp2_with fail
  refine (hNum _ _).mono ?_
  rintro r w7 ⟨rfl, hw⟩
  subst hw
  go_wp2_with fail
  (with_reducible refine (hPl.out _ k5).mono ?_)
  rintro r w8 ⟨rfl, k8⟩
  have v0 := keeps_cell k8 id u0
  have v1 := keeps_cell k8 id u1
  have v2 := keeps_cell k8 id u2
  have v3 := keeps_cell k8 id u3
  have v4 := keeps_cell k8 id u4
  have k9 := k5.trans k8 (fun _ _ e => e)
  clear u0 u1 u2 u3 u4 k5 k8 k4
  go_wp2_with fail
  go_ret
  exact ⟨rfl, k9⟩
set_option maxRecDepth 100000 in
set_option maxHeartbeats 4000000 in
theorem asks_yes (h : BM w wr b p l G fs ts (.slice (some ⟨g, o, none⟩) nh hc) lv L ad d f c) (P : PlanAt w l G j g o nh hv) (tie : LTie c G f (hsT hv nh) L ad) (n : Int) (hn : fitsI n) {i : Nat} (hi : i < L.length) (hk : L[i].key = keyT l n) (hp : placeL (keyT l n) L 0 = (i : Int)) :
    Calls Tryz.prog 28 #[.pointer (some ⟨b, 0, none⟩), .int .i64 n] wr fun e w' => e = .returned (.bool true) ∧ Keeps wr w' (fun _ => False) := by
  have hG8 := P.le
  have hfew := tie.few
  have hK := keyT_size h.tab.valid n
  have hKey := bm_key h P n hn
  have hGet : Hid (∀ W, Keeps wr W (fun _ => False) → _) := fun W q => bm_get_yes (h.stay q) P tie hK hi hk
  have hFi : Hid (∀ W, Keeps wr W (fun _ => False) → _) := fun W q => bm_find_yes (h.stay q) P tie hK hi hk
  have hPl : Hid (∀ W, Keeps wr W (fun _ => False) → _) := fun W q => bm_place (h.stay q) (by omega) (keyT l n)
  rw [hp] at hPl
  have hB : Hid (∀ W, Keeps wr W (fun _ => False) → W.heap[b]? = some (.cells (benC p l 16 fs ((8 * G : Nat) : Int) (.slice (some ⟨g, o, none⟩) nh hc) ts lv (ad : Int)) 57)) := fun W q => q.blk h.blk
  have hNum := fun x W => num8_any x W
  obtain ⟨a, cap, hlv, hL, hcap⟩ := h.lives
  have hRow : Hid (∃ gl ol, a = some ⟨gl, ol, none⟩ ∧ ∀ W, Keeps wr W (fun _ => False) → W.cell? ⟨gl, ol + i * 5, none⟩ = some (.string L[i].key) ∧ W.cell? ⟨gl, ol + i * 5 + 1, none⟩ = some (.string L[i].elem) ∧ W.cell? ⟨gl, ol + i * 5 + 2, none⟩ = some (.int .u64 (L[i].hash : Int)) ∧ W.cell? ⟨gl, ol + i * 5 + 3, none⟩ = some (.int .i64 L[i].birth) ∧ W.cell? ⟨gl, ol + i * 5 + 4, none⟩ = some (.int .i64 L[i].slot)) := by
    rcases hL with rfl | ⟨gl, ol, e, hc⟩
    · simp at hi
    · refine ⟨gl, ol, e, fun W q => ?_⟩
      obtain ⟨x1, x2, x3, x4, x5⟩ := hc i hi
      exact ⟨keeps_cell q id x1, keeps_cell q id x2, keeps_cell q id x3, keeps_cell q id x4, keeps_cell q id x5⟩
  have hw64 := P.word (numT (keyT l n) % nh)
  have hmod : Hid (∀ H : Nat, H < 18446744073709551616 → ((H : Int)).tmod 128 = (H : Int) % 128 ∧ IntKind.u64.wrap ((H : Int) % 128) = (H : Int) % 128 ∧ IntKind.i64.wrap ((H : Int) % 128) = (H : Int) % 128) := fun H hH => ⟨Int.tmod_eq_emod_of_nonneg (by omega), by rw [IntKind.wrap_u64]; omega, by rw [IntKind.wrap_i64]; omega⟩
  obtain ⟨m1, m2, m3⟩ := hmod.out (hsT hv nh (keyT l n)) hw64
  have hlt' : (i : Int) < (L.length : Int) := by omega
  have hi0 : ¬ (i : Int) < 0 := by omega
  clear hmod hK h tie hn P hG8 hfew hp hcap hL hw64
  subst hlv
  generalize hsT hv nh (keyT l n) = H at *
  generalize keyT l n = K at *
  obtain ⟨gl, ol, rfl, hR⟩ := hRow.out
  generalize (H : Int) % 128 = M at *
  generalize L[i].elem = y2 at *
  generalize L[i].hash = y3 at *
  generalize L[i].birth = y4 at *
  generalize L[i].slot = y5 at *
  rw [hk] at hR
  replace hR := hide hR
  clear hRow hk
  go_enter Tryz.func28, Tryz.ntmps28
  go_wp2_with fail
  (with_reducible refine hKey.mono ?_)
  rintro r w1 ⟨rfl, k1⟩
  obtain ⟨t0, t1, t2, t3, t4, t5, t6, t7, t8, t9, t10⟩ := ben_T (hB.out _ k1)
  clear hKey
  go_wp2_with fail
  (with_reducible refine (hGet.out _ k1).mono ?_)
  rintro r w2 ⟨rfl, k2⟩
  have k3 : Keeps wr (w2.alloc (.cells #[.int .i64 2, .int .i64 M, .string K, .string y2, .int .i64 y4] 83)) (fun _ => False) := (k1.trans k2 (fun _ _ e => e)).alloc _
  clear t0 t1 t2 t3 t4 t5 t6 t7 t8 t9 t10
  obtain ⟨t0, t1, t2, t3, t4, t5, t6, t7, t8, t9, t10⟩ := ben_T (hB.out _ k3)
  have hc3 := heap_alloc_new w2 (.cells #[.int .i64 2, .int .i64 M, .string K, .string y2, .int .i64 y4] 83)
  clear k2 k1 hGet
  go_wp2_with fail
  generalize w2.alloc (.cells #[.int .i64 2, .int .i64 M, .string K, .string y2, .int .i64 y4] 83) = W3 at *
  generalize w2.heap.size = B3 at *
  (with_reducible refine (hFi.out _ k3).mono ?_)
  rintro r w4 ⟨rfl, k4⟩
  have k5 := k3.trans k4 (fun _ _ e => e)
  have hc5 := k4.blk hc3
  clear t0 t1 t2 t3 t4 t5 t6 t7 t8 t9 t10 hFi k3 hc3
  go_wp2_with fail
  refine (hNum _ _).mono ?_
  rintro r w6 ⟨rfl, hw⟩
  subst hw
  go_wp2_with fail
  refine (hNum _ _).mono ?_
  rintro r w7 ⟨rfl, hw⟩
  subst hw
  go_wp2_with fail
  (with_reducible refine (hPl.out _ k5).mono ?_)
  rintro r w8 ⟨rfl, k8⟩
  have k9 := k5.trans k8 (fun _ _ e => e)
  obtain ⟨x1, x2, x3, x4, x5⟩ := hR.out _ k9
  obtain ⟨z25, -⟩ := ben_25 (hB.out _ k9)
  have hc9 := k8.blk hc5
  have kA : Keeps w8 (w8.alloc (.cells #[.string K, .string y2, .int .u64 (y3 : Int), .int .i64 y4, .int .i64 y5] 75)) (fun _ => False) := (Keeps.refl _ _).alloc _
  have hKA := hide (k9.trans kA (fun _ _ e => e))
  obtain ⟨v0, v1, v2, v3, v4, -⟩ := five_cells (kA.blk hc9)
  clear k5 k8 k4 hPl hR hB hNum hc5 hc9 kA k9
  go_wp2_with fail
  go_ret
  exact ⟨rfl, hKA.out⟩
theorem asks_any (h : BM w wr b p l G fs ts (.slice (some ⟨g, o, none⟩) nh hc) lv L ad d f c) (P : PlanAt w l G j g o nh hv) (tie : LTie c G f (hsT hv nh) L ad) (n : Int) (hn : fitsI n) :
    Calls Tryz.prog 28 #[.pointer (some ⟨b, 0, none⟩), .int .i64 n] wr fun e w' => e = .returned (.bool true) ∧ Keeps wr w' (fun _ => False) := by
  rcases placeL_spec (keyT l n) L 0 with ⟨-, q⟩ | ⟨i, hi, q1, q2⟩
  · exact asks_no h P tie n hn q
  · exact asks_yes h P tie n hn hi q2 (by rw [q1]; simp)
end
end Bx
end Go.Proofs.YtmdnknbolgedgaaGreatDoor
