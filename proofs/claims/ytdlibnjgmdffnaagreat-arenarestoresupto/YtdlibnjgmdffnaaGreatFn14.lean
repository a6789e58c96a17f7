import Derived.Test.YtdlibnjgmdffnaaGreatRows
import Derived.ProofKit
import Derived.OpenShut
import Derived.ShutString
import Derived.ChangeOld
import Derived.JoinedCond
import Derived.SliceStrings
import Derived.Deep.Slices
import Derived.Test.YtdlibnjgmdffnaaGreatFn13
/-
  The law's plays: what it hands on.
-/
namespace Go.Proofs.YtdlibnjgmdffnaaGreat
open Go.RowKit Go.Shelf
set_option linter.unusedVariables false

set_option maxRecDepth 100000 in
set_option maxHeartbeats 4000000 in
theorem hand_store {w : World} {p r : Nat} {F : Nat → Prop} (X Y N V : Int) (l s : Value) (hA : Calls Tryz.prog 20 #[.pointer (some ⟨p, 0, none⟩), .pointer (some ⟨r, 0, none⟩), op2Arg 7 X Y N V l s] (w.alloc (.cells (op2Cells 7 X Y N V l s) 35)) fun e w' => DuoPost (w.alloc (.cells (op2Cells 7 X Y N V l s) 35)) p r F e w') :
    Calls Tryz.prog 9 #[.pointer (some ⟨p, 0, none⟩), .pointer (some ⟨r, 0, none⟩), op2Arg 7 X Y N V l s] w fun e w' => DuoPost w p r F e w' := by
  have k1 : Keeps w (w.alloc (.cells (op2Cells 7 X Y N V l s) 35)) (fun _ => False) := (Keeps.refl _ _).alloc _
  have K1 := hide k1
  clear k1
  unfold op2Arg op2Cells at *
  go_enter Tryz.func9, Tryz.ntmps9
  go_wp2_with fail
  (with_reducible refine hA.mono ?_)
  intro e w2 hp
  have HP := hide (DuoPost.before K1.out hp)
  obtain ⟨rfl, _⟩ := hp
  clear hA
  go_wp2_with fail
  go_ret
  exact HP.out

set_option maxRecDepth 100000 in
set_option maxHeartbeats 4000000 in
theorem hand_fill {w : World} {p r : Nat} {F : Nat → Prop} (X Y N V : Int) (l s : Value) (hA : Calls Tryz.prog 20 #[.pointer (some ⟨p, 0, none⟩), .pointer (some ⟨r, 0, none⟩), op2Arg 8 X Y N V l s] (w.alloc (.cells (op2Cells 8 X Y N V l s) 35)) fun e w' => DuoPost (w.alloc (.cells (op2Cells 8 X Y N V l s) 35)) p r F e w') :
    Calls Tryz.prog 9 #[.pointer (some ⟨p, 0, none⟩), .pointer (some ⟨r, 0, none⟩), op2Arg 8 X Y N V l s] w fun e w' => DuoPost w p r F e w' := by
  have k1 : Keeps w (w.alloc (.cells (op2Cells 8 X Y N V l s) 35)) (fun _ => False) := (Keeps.refl _ _).alloc _
  have K1 := hide k1
  clear k1
  unfold op2Arg op2Cells at *
  go_enter Tryz.func9, Tryz.ntmps9
  go_wp2_with fail
  (with_reducible refine hA.mono ?_)
  intro e w2 hp
  have HP := hide (DuoPost.before K1.out hp)
  obtain ⟨rfl, _⟩ := hp
  clear hA
  go_wp2_with fail
  go_ret
  exact HP.out

set_option maxRecDepth 100000 in
set_option maxHeartbeats 4000000 in
theorem hand_copy {w : World} {p r : Nat} {F : Nat → Prop} (X Y N V : Int) (l s : Value) (hA : Calls Tryz.prog 20 #[.pointer (some ⟨p, 0, none⟩), .pointer (some ⟨r, 0, none⟩), op2Arg 9 X Y N V l s] (w.alloc (.cells (op2Cells 9 X Y N V l s) 35)) fun e w' => DuoPost (w.alloc (.cells (op2Cells 9 X Y N V l s) 35)) p r F e w') :
    Calls Tryz.prog 9 #[.pointer (some ⟨p, 0, none⟩), .pointer (some ⟨r, 0, none⟩), op2Arg 9 X Y N V l s] w fun e w' => DuoPost w p r F e w' := by
  have k1 : Keeps w (w.alloc (.cells (op2Cells 9 X Y N V l s) 35)) (fun _ => False) := (Keeps.refl _ _).alloc _
  have K1 := hide k1
  clear k1
  unfold op2Arg op2Cells at *
  go_enter Tryz.func9, Tryz.ntmps9
  go_wp2_with fail
  (with_reducible refine hA.mono ?_)
  intro e w2 hp
  have HP := hide (DuoPost.before K1.out hp)
  obtain ⟨rfl, _⟩ := hp
  clear hA
  go_wp2_with fail
  go_ret
  exact HP.out

set_option maxRecDepth 100000 in
set_option maxHeartbeats 4000000 in
theorem hand_write {w : World} {p r : Nat} {F : Nat → Prop} (X Y N V : Int) (l s : Value) (hA : Calls Tryz.prog 20 #[.pointer (some ⟨p, 0, none⟩), .pointer (some ⟨r, 0, none⟩), op2Arg 12 X Y N V l s] (w.alloc (.cells (op2Cells 12 X Y N V l s) 35)) fun e w' => DuoPost (w.alloc (.cells (op2Cells 12 X Y N V l s) 35)) p r F e w') :
    Calls Tryz.prog 9 #[.pointer (some ⟨p, 0, none⟩), .pointer (some ⟨r, 0, none⟩), op2Arg 12 X Y N V l s] w fun e w' => DuoPost w p r F e w' := by
  have k1 : Keeps w (w.alloc (.cells (op2Cells 12 X Y N V l s) 35)) (fun _ => False) := (Keeps.refl _ _).alloc _
  have K1 := hide k1
  clear k1
  unfold op2Arg op2Cells at *
  go_enter Tryz.func9, Tryz.ntmps9
  go_wp2_with fail
  (with_reducible refine hA.mono ?_)
  intro e w2 hp
  have HP := hide (DuoPost.before K1.out hp)
  obtain ⟨rfl, _⟩ := hp
  clear hA
  go_wp2_with fail
  go_ret
  exact HP.out

set_option maxRecDepth 100000 in
set_option maxHeartbeats 4000000 in
theorem hand_size {w : World} {p r : Nat} {F : Nat → Prop} (X Y N V : Int) (l s : Value) (hA : Calls Tryz.prog 14 #[.pointer (some ⟨p, 0, none⟩), .pointer (some ⟨r, 0, none⟩), op2Arg 4 X Y N V l s] (w.alloc (.cells (op2Cells 4 X Y N V l s) 35)) fun e w' => DuoPost (w.alloc (.cells (op2Cells 4 X Y N V l s) 35)) p r F e w') :
    Calls Tryz.prog 9 #[.pointer (some ⟨p, 0, none⟩), .pointer (some ⟨r, 0, none⟩), op2Arg 4 X Y N V l s] w fun e w' => DuoPost w p r F e w' := by
  have k1 : Keeps w (w.alloc (.cells (op2Cells 4 X Y N V l s) 35)) (fun _ => False) := (Keeps.refl _ _).alloc _
  have K1 := hide k1
  clear k1
  unfold op2Arg op2Cells at *
  go_enter Tryz.func9, Tryz.ntmps9
  go_wp2_with fail
  (with_reducible refine hA.mono ?_)
  intro e w2 hp
  have HP := hide (DuoPost.before K1.out hp)
  obtain ⟨rfl, _⟩ := hp
  clear hA
  go_wp2_with fail
  go_ret
  exact HP.out

set_option maxRecDepth 100000 in
set_option maxHeartbeats 4000000 in
theorem hand_blocks {w : World} {p r : Nat} {F : Nat → Prop} (X Y N V : Int) (l s : Value) (hA : Calls Tryz.prog 14 #[.pointer (some ⟨p, 0, none⟩), .pointer (some ⟨r, 0, none⟩), op2Arg 5 X Y N V l s] (w.alloc (.cells (op2Cells 5 X Y N V l s) 35)) fun e w' => DuoPost (w.alloc (.cells (op2Cells 5 X Y N V l s) 35)) p r F e w') :
    Calls Tryz.prog 9 #[.pointer (some ⟨p, 0, none⟩), .pointer (some ⟨r, 0, none⟩), op2Arg 5 X Y N V l s] w fun e w' => DuoPost w p r F e w' := by
  have k1 : Keeps w (w.alloc (.cells (op2Cells 5 X Y N V l s) 35)) (fun _ => False) := (Keeps.refl _ _).alloc _
  have K1 := hide k1
  clear k1
  unfold op2Arg op2Cells at *
  go_enter Tryz.func9, Tryz.ntmps9
  go_wp2_with fail
  (with_reducible refine hA.mono ?_)
  intro e w2 hp
  have HP := hide (DuoPost.before K1.out hp)
  obtain ⟨rfl, _⟩ := hp
  clear hA
  go_wp2_with fail
  go_ret
  exact HP.out

set_option maxRecDepth 100000 in
set_option maxHeartbeats 4000000 in
theorem hand_parts {w : World} {p r : Nat} {F : Nat → Prop} (X Y N V : Int) (l s : Value) (hA : Calls Tryz.prog 14 #[.pointer (some ⟨p, 0, none⟩), .pointer (some ⟨r, 0, none⟩), op2Arg 13 X Y N V l s] (w.alloc (.cells (op2Cells 13 X Y N V l s) 35)) fun e w' => DuoPost (w.alloc (.cells (op2Cells 13 X Y N V l s) 35)) p r F e w') :
    Calls Tryz.prog 9 #[.pointer (some ⟨p, 0, none⟩), .pointer (some ⟨r, 0, none⟩), op2Arg 13 X Y N V l s] w fun e w' => DuoPost w p r F e w' := by
  have k1 : Keeps w (w.alloc (.cells (op2Cells 13 X Y N V l s) 35)) (fun _ => False) := (Keeps.refl _ _).alloc _
  have K1 := hide k1
  clear k1
  unfold op2Arg op2Cells at *
  go_enter Tryz.func9, Tryz.ntmps9
  go_wp2_with fail
  (with_reducible refine hA.mono ?_)
  intro e w2 hp
  have HP := hide (DuoPost.before K1.out hp)
  obtain ⟨rfl, _⟩ := hp
  clear hA
  go_wp2_with fail
  go_ret
  exact HP.out

set_option maxRecDepth 100000 in
set_option maxHeartbeats 4000000 in
theorem hand_load {w : World} {p r : Nat} {F : Nat → Prop} (X Y N V : Int) (l s : Value) (hA : Calls Tryz.prog 14 #[.pointer (some ⟨p, 0, none⟩), .pointer (some ⟨r, 0, none⟩), op2Arg 6 X Y N V l s] (w.alloc (.cells (op2Cells 6 X Y N V l s) 35)) fun e w' => DuoPost (w.alloc (.cells (op2Cells 6 X Y N V l s) 35)) p r F e w') :
    Calls Tryz.prog 9 #[.pointer (some ⟨p, 0, none⟩), .pointer (some ⟨r, 0, none⟩), op2Arg 6 X Y N V l s] w fun e w' => DuoPost w p r F e w' := by
  have k1 : Keeps w (w.alloc (.cells (op2Cells 6 X Y N V l s) 35)) (fun _ => False) := (Keeps.refl _ _).alloc _
  have K1 := hide k1
  clear k1
  unfold op2Arg op2Cells at *
  go_enter Tryz.func9, Tryz.ntmps9
  go_wp2_with fail
  (with_reducible refine hA.mono ?_)
  intro e w2 hp
  have HP := hide (DuoPost.before K1.out hp)
  obtain ⟨rfl, _⟩ := hp
  clear hA
  go_wp2_with fail
  go_ret
  exact HP.out

set_option maxRecDepth 100000 in
set_option maxHeartbeats 4000000 in
theorem hand_equal {w : World} {p r : Nat} {F : Nat → Prop} (X Y N V : Int) (l s : Value) (hA : Calls Tryz.prog 14 #[.pointer (some ⟨p, 0, none⟩), .pointer (some ⟨r, 0, none⟩), op2Arg 10 X Y N V l s] (w.alloc (.cells (op2Cells 10 X Y N V l s) 35)) fun e w' => DuoPost (w.alloc (.cells (op2Cells 10 X Y N V l s) 35)) p r F e w') :
    Calls Tryz.prog 9 #[.pointer (some ⟨p, 0, none⟩), .pointer (some ⟨r, 0, none⟩), op2Arg 10 X Y N V l s] w fun e w' => DuoPost w p r F e w' := by
  have k1 : Keeps w (w.alloc (.cells (op2Cells 10 X Y N V l s) 35)) (fun _ => False) := (Keeps.refl _ _).alloc _
  have K1 := hide k1
  clear k1
  unfold op2Arg op2Cells at *
  go_enter Tryz.func9, Tryz.ntmps9
  go_wp2_with fail
  (with_reducible refine hA.mono ?_)
  intro e w2 hp
  have HP := hide (DuoPost.before K1.out hp)
  obtain ⟨rfl, _⟩ := hp
  clear hA
  go_wp2_with fail
  go_ret
  exact HP.out

set_option maxRecDepth 100000 in
set_option maxHeartbeats 4000000 in
theorem hand_read {w : World} {p r : Nat} {F : Nat → Prop} (X Y N V : Int) (l s : Value) (hA : Calls Tryz.prog 14 #[.pointer (some ⟨p, 0, none⟩), .pointer (some ⟨r, 0, none⟩), op2Arg 11 X Y N V l s] (w.alloc (.cells (op2Cells 11 X Y N V l s) 35)) fun e w' => DuoPost (w.alloc (.cells (op2Cells 11 X Y N V l s) 35)) p r F e w') :
    Calls Tryz.prog 9 #[.pointer (some ⟨p, 0, none⟩), .pointer (some ⟨r, 0, none⟩), op2Arg 11 X Y N V l s] w fun e w' => DuoPost w p r F e w' := by
  have k1 : Keeps w (w.alloc (.cells (op2Cells 11 X Y N V l s) 35)) (fun _ => False) := (Keeps.refl _ _).alloc _
  have K1 := hide k1
  clear k1
  unfold op2Arg op2Cells at *
  go_enter Tryz.func9, Tryz.ntmps9
  go_wp2_with fail
  (with_reducible refine hA.mono ?_)
  intro e w2 hp
  have HP := hide (DuoPost.before K1.out hp)
  obtain ⟨rfl, _⟩ := hp
  clear hA
  go_wp2_with fail
  go_ret
  exact HP.out

set_option maxRecDepth 100000 in
set_option maxHeartbeats 4000000 in
theorem plays_other {w : World} {p r : Nat} {F : Nat → Prop} {d : AD} (h : Duo w p r F d) (K X Y N V : Int) (l s : Value) (hK : K < 1 ∨ 13 < K) :
    Calls Tryz.prog 9 #[.pointer (some ⟨p, 0, none⟩), .pointer (some ⟨r, 0, none⟩), op2Arg K X Y N V l s] w fun e w' => DuoPost w p r F e w' := by
  have k1 : Keeps w (w.alloc (.cells (op2Cells K X Y N V l s) 35)) (fun _ => False) := (Keeps.refl _ _).alloc _
  have HD := hide (h.same (e := .returned (.bool true)) ⟨rfl, k1⟩)
  have b1 : (K == 1) = false := beq_eq_false_iff_ne.2 (by omega)
  have b2 : (K == 2) = false := beq_eq_false_iff_ne.2 (by omega)
  have b3 : (K == 3) = false := beq_eq_false_iff_ne.2 (by omega)
  have b4 : (K == 4) = false := beq_eq_false_iff_ne.2 (by omega)
  have b5 : (K == 5) = false := beq_eq_false_iff_ne.2 (by omega)
  have b6 : (K == 6) = false := beq_eq_false_iff_ne.2 (by omega)
  have b7 : (K == 7) = false := beq_eq_false_iff_ne.2 (by omega)
  have b8 : (K == 8) = false := beq_eq_false_iff_ne.2 (by omega)
  have b9 : (K == 9) = false := beq_eq_false_iff_ne.2 (by omega)
  have b10 : (K == 10) = false := beq_eq_false_iff_ne.2 (by omega)
  have b11 : (K == 11) = false := beq_eq_false_iff_ne.2 (by omega)
  have b12 : (K == 12) = false := beq_eq_false_iff_ne.2 (by omega)
  have b13 : (K == 13) = false := beq_eq_false_iff_ne.2 (by omega)
  clear h k1 hK
  unfold op2Arg op2Cells at *
  go_enter Tryz.func9, Tryz.ntmps9
  go_wp2_with fail
  go_ret
  exact HD.out

/-- What came in as a step of the script. -/
structure OpD where
  K : Int
  X : Int
  Y : Int
  N : Int
  V : Nat
  la : Option Addr
  lc : Nat
  zs : List Int
  sa : Option Addr
  sc : Nat
  ts : List ByteArray
def OpD.cells (o : OpD) : Array Value := op2Cells o.K o.X o.Y o.N (o.V : Int) (.slice o.la o.zs.length o.lc) (.slice o.sa o.ts.length o.sc)
def OpD.val (o : OpD) : Value := .agg o.cells
structure OpD.Ok (w : World) (F : Nat → Prop) (o : OpD) : Prop where
  x : fitsI o.X
  y : fitsI o.Y
  n : fitsI o.N
  v : o.V < 18446744073709551616
  l : LIn w F o.la o.zs
  la : o.la = none → o.lc = 0
  ln : o.zs.length ≤ 134217728
  lf : ∀ z ∈ o.zs, fitsI z
  s : TIn w F o.sa o.ts
  sa : o.sa = none → o.sc = 0
  sn : o.ts.length ≤ 134217728
  sl : lens o.ts ≤ 1048576
theorem OpD.Ok.keeps {w w' : World} {F : Nat → Prop} {o : OpD} (h : o.Ok w F) (k : Keeps w w' F) : o.Ok w' F := ⟨h.x, h.y, h.n, h.v, h.l.keeps k, h.la, h.ln, h.lf, h.s.keeps k, h.sa, h.sn, h.sl⟩

theorem plays_any {w : World} {p r : Nat} {F : Nat → Prop} {d : AD} (h : Duo w p r F d) (hFl : ∀ k, F k → k < w.heap.size) (o : OpD) (ho : o.Ok w F) :
    Calls Tryz.prog 9 #[.pointer (some ⟨p, 0, none⟩), .pointer (some ⟨r, 0, none⟩), o.val] w fun e w' => DuoPost w p r F e w' := by
  obtain ⟨K, X, Y, N, V, la, lc, zs, sa, sc, ts⟩ := o
  obtain ⟨hx, hy, hn, hv, hl, hla, hln, hlf, hs, hsa, hsn, hsl⟩ := ho
  simp only [] at hx hy hn hv hl hla hln hlf hs hsa hsn hsl
  show Calls Tryz.prog 9 #[.pointer (some ⟨p, 0, none⟩), .pointer (some ⟨r, 0, none⟩), op2Arg K X Y N (V : Int) (.slice la zs.length lc) (.slice sa ts.length sc)] w fun e w' => DuoPost w p r F e w'
  by_cases hk : K < 1 ∨ 13 < K
  · exact plays_other h K X Y N V _ _ hk
  have hb := fun o => box_duo h hFl o
  have kb : ∀ o : Obj, Keeps w (w.alloc o) F := fun o => ((Keeps.refl w (fun _ => False)).alloc o).mono (fun _ _ e => e.elim)
  have hT : ∀ o : Obj, (∀ P R d, Arena (w.alloc o) p P d → Ref (w.alloc o) r R d → d.Fine → d.Well → ∀ K, Calls Tryz.prog 14 K (w.alloc o) (fun e w' => YesKeeps (w.alloc o) e w') → Calls Tryz.prog 14 K (w.alloc o) (fun e w' => DuoPost (w.alloc o) p r F e w')) := fun o P R d _ _ _ _ K hc => hc.mono (fun e w' hy => (hb o).same hy)
  have hcs : K = 1 ∨ K = 2 ∨ K = 3 ∨ K = 4 ∨ K = 5 ∨ K = 6 ∨ K = 7 ∨ K = 8 ∨ K = 9 ∨ K = 10 ∨ K = 11 ∨ K = 12 ∨ K = 13 := by omega
  rcases hcs with rfl | rfl | rfl | rfl | rfl | rfl | rfl | rfl | rfl | rfl | rfl | rfl | rfl
  · exact plays_alloc h X Y N V _ _
  · exact plays_all h hFl X Y N V _ la lc zs hl hla hln
  · exact plays_free h hFl X Y N V _ la lc zs hl hla hln hlf
  · obtain ⟨P, R, m, f1, f2⟩ := hb (.cells (op2Cells 4 X Y N (V : Int) (.slice la zs.length lc) (.slice sa ts.length sc)) 35)
    exact hand_size X Y N V _ _ (hT _ P R d m.a m.b f1 f2 _ (tells_size m.a m.b f1 X Y N V _ _ hx))
  · obtain ⟨P, R, m, f1, f2⟩ := hb (.cells (op2Cells 5 X Y N (V : Int) (.slice la zs.length lc) (.slice sa ts.length sc)) 35)
    exact hand_blocks X Y N V _ _ (hT _ P R d m.a m.b f1 f2 _ (tells_blocks m.a m.b f1 f2 X Y N V _ _))
  · obtain ⟨P, R, m, f1, f2⟩ := hb (.cells (op2Cells 6 X Y N (V : Int) (.slice la zs.length lc) (.slice sa ts.length sc)) 35)
    exact hand_load X Y N V _ _ (hT _ P R d m.a m.b f1 f2 _ (tells_load m.a m.b f1 X Y N V _ _ hx hn))
  · exact hand_store X Y N V _ _ (lays_store (hb _) X Y N V _ _ hv hx hn)
  · exact hand_fill X Y N V _ _ (lays_fill (hb _) X Y N V _ _ hv hx hn)
  · exact hand_copy X Y N V _ _ (lays_copy (hb _) X Y N V _ _ hv hx hy hn)
  · obtain ⟨P, R, m, f1, f2⟩ := hb (.cells (op2Cells 10 X Y N (V : Int) (.slice la zs.length lc) (.slice sa ts.length sc)) 35)
    exact hand_equal X Y N V _ _ (hT _ P R d m.a m.b f1 f2 _ (tells_equal m.a m.b f1 X Y N V _ _ hx hy hn))
  · obtain ⟨P, R, m, f1, f2⟩ := hb (.cells (op2Cells 11 X Y N (V : Int) (.slice la zs.length lc) (.slice sa ts.length sc)) 35)
    exact hand_read X Y N V _ _ (hT _ P R d m.a m.b f1 f2 _ (tells_read m.a m.b f1 X Y N V _ _ hx hn))
  · exact hand_write X Y N V _ _ (lays_write (hb _) X Y N V _ sa sc ts hx (hs.keeps (kb _)) hsa hsn hsl)
  · obtain ⟨P, R, m, f1, f2⟩ := hb (.cells (op2Cells 13 X Y N (V : Int) (.slice la zs.length lc) (.slice sa ts.length sc)) 35)
    exact hand_parts X Y N V _ _ (hT _ P R d m.a m.b f1 f2 _ (tells_parts m.a m.b f1 X Y N V _ _))
end Go.Proofs.YtdlibnjgmdffnaaGreat
/-
  The law's ends.
-/
namespace Go.Proofs.YtdlibnjgmdffnaaGreat
open Go.RowKit Go.Shelf
set_option linter.unusedVariables false

theorem flat_two : ∀ (l : List (Nat × Nat)) (j : Nat) (h : j < l.length), (flatOf l)[2 * j]? = some (l[j].1 : Int) ∧ (flatOf l)[2 * j + 1]? = some (l[j].2 : Int)
  | [], j, h => by simp at h
  | x :: r, 0, _ => by
    have e : flatOf (x :: r) = [(x.1 : Int), (x.2 : Int)] ++ flatOf r := by simp [flatOf]
    rw [e]
    simp
  | x :: r, j + 1, h => by
    have e : flatOf (x :: r) = [(x.1 : Int), (x.2 : Int)] ++ flatOf r := by simp [flatOf]
    have ih := flat_two r j (by simpa using h)
    rw [e, List.getElem?_append_right (by simp; omega), List.getElem?_append_right (by simp; omega)]
    have e1 : 2 * (j + 1) - [(x.1 : Int), (x.2 : Int)].length = 2 * j := by simp; omega
    have e2 : 2 * (j + 1) + 1 - [(x.1 : Int), (x.2 : Int)].length = 2 * j + 1 := by simp; omega
    rw [e1, e2]
    simpa using ih
theorem lives_good {d : AD} (hF : d.Fine) {j : Nat} (h : j < (livesOf d.L d.lv).length) : d.goodB ((livesOf d.L d.lv)[j].1 : Int) ((livesOf d.L d.lv)[j].2 : Int) = true ∧ (livesOf d.L d.lv)[j].1 ≤ 134217728 ∧ (livesOf d.L d.lv)[j].2 ≤ 134217728 := by
  have hm := List.getElem_mem h
  generalize (livesOf d.L d.lv)[j] = x at *
  unfold livesOf at hm
  obtain ⟨h1, h2⟩ := List.mem_filter.1 hm
  obtain ⟨t, ht⟩ := Option.isSome_iff_exists.1 h2
  obtain ⟨o, n, e1, e2, hm2⟩ := hF.live _ _ ht
  have e3 := tiles_unique hF.tiles hm2 h1 (by simp; omega)
  have hb := tiles_mem hF.tiles h1
  have hmost := hF.most
  have : d.lv (x.1 : Int) = some (x.2 : Int) := by
    rw [ht, e2]
    have : n = x.2 := by rw [← e3]
    rw [this]
  exact ⟨AD.goodB_mk h1 this (by omega) (by simp) (by simp), by omega, by omega⟩

set_option maxRecDepth 100000 in
set_option maxHeartbeats 8000000 in
theorem ends_any {w : World} {p r : Nat} {F : Nat → Prop} {d : AD} (h : Duo w p r F d) :
    Calls Tryz.prog 10 #[.pointer (some ⟨p, 0, none⟩), .pointer (some ⟨r, 0, none⟩)] w fun e w' => YesKeeps w e w' := by
  obtain ⟨P, R, m, hF, hW⟩ := h
  have hs1 := ref_blocks m.b hF
  have hfew := lives_few hF hW
  have hfl := flat_len (livesOf d.L d.lv)
  have hrdA : ∀ W : World, Keeps w W (fun _ => False) → ∀ j (hj : j < (livesOf d.L d.lv).length), Calls Tryz.prog 22 #[.pointer (some ⟨p, 0, none⟩), .int .i64 ((livesOf d.L d.lv)[j].1 : Int), .int .i64 ((livesOf d.L d.lv)[j].2 : Int)] W fun e w' => ReadAPost W (strOf (d.span ((livesOf d.L d.lv)[j].1 : Int) ((livesOf d.L d.lv)[j].2 : Int))) 0 e w' := fun W kW j hj => by
    obtain ⟨g1, g2, g3⟩ := lives_good hF hj
    obtain ⟨c, hc, _⟩ := m.a.keeps kW (fun _ _ _ e => e)
    have := aread_any hc hF ((livesOf d.L d.lv)[j].1 : Int) ((livesOf d.L d.lv)[j].2 : Int) (fitsI_mk (by omega) (by omega)) (fitsI_mk (by omega) (by omega))
    unfold readV at this
    rwa [if_pos g1] at this
  have hrdR : ∀ W : World, Keeps w W (fun _ => False) → ∀ j (hj : j < (livesOf d.L d.lv).length), Calls Tryz.prog 23 #[.pointer (some ⟨r, 0, none⟩), .int .i64 ((livesOf d.L d.lv)[j].1 : Int), .int .i64 ((livesOf d.L d.lv)[j].2 : Int)] W fun e w' => ReadAPost W (strOf (d.span ((livesOf d.L d.lv)[j].1 : Int) ((livesOf d.L d.lv)[j].2 : Int))) 0 e w' := fun W kW j hj => by
    obtain ⟨g1, g2, g3⟩ := lives_good hF hj
    have := ref_read (m.b.stay kW) hF ((livesOf d.L d.lv)[j].1 : Int) ((livesOf d.L d.lv)[j].2 : Int) (fitsI_mk (by omega) (by omega))
    unfold readV at this
    rwa [if_pos g1] at this
  have htB : ∀ W : World, Keeps w W (fun _ => False) → Calls Tryz.prog 14 #[.pointer (some ⟨p, 0, none⟩), .pointer (some ⟨r, 0, none⟩), op2Arg 5 0 0 0 0 (.slice none 0 0) (.slice none 0 0)] W fun e w' => YesKeeps W e w' := fun W kW => tells_blocks (m.a.keeps kW (fun _ _ _ e => e)) (m.b.stay kW) hF hW 0 0 0 0 _ _
  have htP : ∀ W : World, Keeps w W (fun _ => False) → Calls Tryz.prog 14 #[.pointer (some ⟨p, 0, none⟩), .pointer (some ⟨r, 0, none⟩), op2Arg 13 0 0 0 0 (.slice none 0 0) (.slice none 0 0)] W fun e w' => YesKeeps W e w' := fun W kW => tells_parts (m.a.keeps kW (fun _ _ _ e => e)) (m.b.stay kW) hF 0 0 0 0 _ _
  have hgets := fun j hj => flat_two (livesOf d.L d.lv) j hj
  have HRA := hide hrdA
  have HRR := hide hrdR
  have HTB := hide htB
  have HTP := hide htP
  have HGT := hide hgets
  have HFL := hide hfl
  have HFW := hide hfew
  clear hfl hfew
  clear m hF hW hrdA hrdR htB htP hgets
  generalize livesOf d.L d.lv = L at *
  generalize hys : flatOf L = ys at *
  clear hys
  go_enter Tryz.func10, Tryz.ntmps10
  go_wp2_with fail
  (with_reducible refine hs1.mono ?_)
  rintro e w1 ⟨so, cap, rfl, hBL⟩
  obtain ⟨so', cap', hv, hIy⟩ := row_ints hBL.1
  injection hv with hv1 _ hv3
  subst hv1
  clear hv3 hs1
  have hcell : Hid (∀ W : World, Keeps w1 W (fun _ => False) → ∀ j (hj : j < ys.length), ∃ b o, so = some ⟨b, o, none⟩ ∧ W.cell? ⟨b, o + j, none⟩ = some (.int .i64 ys[j])) := fun W kW j hj => by
    obtain ⟨b, o, e, hc⟩ := hIy j hj
    exact ⟨b, o, e, keep_cell kW hc⟩
  have KB := hide hBL.2
  clear hBL hIy
  go_wp2_with fail
  go_loopw [6] (fun i wr => ∃ k : Nat, 2 * k ≤ ys.length ∧ i = .int .i64 ((2 * k : Nat) : Int) ∧ Hid (Keeps w1 wr (fun _ => False))) (fun i _ => ys.length - (intOf i).toNat)
  case atStart => exact ⟨0, Nat.zero_le _, rfl, Keeps.refl _ _⟩
  case round =>
    obtain ⟨k, hk, rfl, hK⟩ := hrel
    by_cases hlt : 2 * k < ys.length
    · have hlt' : ((2 * k : Nat) : Int) < (ys.length : Int) := by omega
      have hkL : k < L.length := by have := HFL.out; omega
      have hlt2 : 2 * k + 1 < ys.length := by have := HFL.out; omega
      have hlt2' : ((2 * k : Nat) : Int) + 1 < (ys.length : Int) := by omega
      obtain ⟨e0, e1⟩ := HGT.out k hkL
      have e0' : ys[2 * k] = (L[k].1 : Int) := by rw [List.getElem?_eq_getElem hlt] at e0; injection e0
      have e1' : ys[2 * k + 1] = (L[k].2 : Int) := by rw [List.getElem?_eq_getElem hlt2] at e1; injection e1
      have hS : Hid (∀ W : World, Keeps w1 W (fun _ => False) → ∃ b o, so = some ⟨b, o, none⟩ ∧ W.cell? ⟨b, o + 2 * k, none⟩ = some (.int .i64 (L[k].1 : Int)) ∧ W.cell? ⟨b, o + (2 * k + 1), none⟩ = some (.int .i64 (L[k].2 : Int))) := fun W kW => by
        obtain ⟨b, o, e, hc⟩ := hcell.out W kW (2 * k) hlt
        obtain ⟨b2, o2, e2, hc2⟩ := hcell.out W kW (2 * k + 1) hlt2
        rw [e] at e2
        cases e2
        exact ⟨b, o, e, by rw [hc, e0'], by rw [hc2, e1']⟩
      obtain ⟨b, o, rfl, _, _⟩ := hS.out wr hK.out
      have hS2 : Hid (∀ W : World, Keeps w1 W (fun _ => False) → W.cell? ⟨b, o + 2 * k, none⟩ = some (.int .i64 (L[k].1 : Int)) ∧ W.cell? ⟨b, o + (2 * k + 1), none⟩ = some (.int .i64 (L[k].2 : Int))) := fun W kW => by
        obtain ⟨b2, o2, e2, hc⟩ := hS.out W kW
        cases e2
        exact hc
      have kd : Keeps w1 wr.drew (fun _ => False) := hK.out.drew
      have hA := HRA.out wr.drew (KB.out.trans kd (fun _ _ e => e)) k hkL
      have hR : Hid (∀ W, Keeps w1 W (fun _ => False) → Calls Tryz.prog 23 #[.pointer (some ⟨r, 0, none⟩), .int .i64 (L[k].1 : Int), .int .i64 (L[k].2 : Int)] W fun e w' => ReadAPost W (strOf (d.span (L[k].1 : Int) (L[k].2 : Int))) 0 e w') := fun W kW => HRR.out W (KB.out.trans kW (fun _ _ e => e)) k hkL
      have S0 := hS2.out wr.drew kd
      have h0k : (0 : Int) ≤ ((2 * k : Nat) : Int) := by omega
      have hlen : ys.length ≤ 134217728 := by have := HFL.out; have := HFW.out; omega
      have hwr : IntKind.i64.wrap (((2 * k : Nat) : Int) + 1) = ((2 * k : Nat) : Int) + 1 := by rw [IntKind.wrap_i64]; omega
      have h0k1 : (0 : Int) ≤ ((2 * k : Nat) : Int) + 1 := by omega
      have htn : (((2 * k : Nat) : Int) + 1).toNat = 2 * k + 1 := by omega
      clear e0 e1 e0' e1' hS hcell HGT
      generalize strOf (d.span (L[k].1 : Int) (L[k].2 : Int)) = S at *
      generalize L[k].1 = u1 at *
      generalize L[k].2 = u2 at *
      generalize hkk : 2 * k = kk at *
      have HKK := hide hkk
      clear hkk
      go_wp2_with fail
      go_region_held3 (fun w' => w'.cell? ⟨b, o + kk, none⟩ = some (.int .i64 (u1 : Int)) ∧ w'.cell? ⟨b, o + (kk + 1), none⟩ = some (.int .i64 (u2 : Int))) (first | with_reducible assumption | exact S0 | exact hS2.out _ (by assumption)) (first | (go_at_call 22; (with_reducible refine hA.mono ?_); rintro e w5 ⟨rfl, k5⟩; replace k5 := kd.trans k5 (fun _ _ e => e)))
      have k5d : Keeps w1 w5.drew (fun _ => False) := k5.drew
      have hR5 := hR.out w5.drew k5d
      have S5 := hS2.out w5.drew k5d
      clear hA hR
      go_wp2_with fail
      go_region_held3 (fun w' => w'.cell? ⟨b, o + kk, none⟩ = some (.int .i64 (u1 : Int)) ∧ w'.cell? ⟨b, o + (kk + 1), none⟩ = some (.int .i64 (u2 : Int))) (first | with_reducible assumption | exact S5 | exact hS2.out _ (by assumption)) (first | (go_at_call 23; (with_reducible refine hR5.mono ?_); rintro e w6 ⟨rfl, k6⟩; replace k6 := k5d.trans k6 (fun _ _ e => e)))
      have hnm := num_any 0 w6
      have K6 := hide k6
      clear hR5 S5 S0 k5d k5 kd k6
      go_wp2_with fail
      (with_reducible refine hnm.mono ?_)
      rintro e w7 ⟨rfl, hw7⟩
      subst hw7
      clear hnm
      go_wp2_with fail
      go_roundw
      case rel => exact ⟨k + 1, by have := HKK.out; omega, by have := HKK.out; rw [show ((2 * (k + 1) : Nat) : Int) = (kk : Int) + 2 from by omega], K6⟩
      case measure => simp [intOf]; omega
    · have hkE : 2 * k = ys.length := by omega
      rw [hkE]
      have hlt' : ¬ (ys.length : Int) < (ys.length : Int) := by omega
      have kw := KB.out.trans hK.out (fun _ _ e => e)
      have hB := HTB.out wr kw
      have HP2 : Hid (∀ W, Keeps wr W (fun _ => False) → Calls Tryz.prog 14 #[.pointer (some ⟨p, 0, none⟩), .pointer (some ⟨r, 0, none⟩), op2Arg 13 0 0 0 0 (.slice none 0 0) (.slice none 0 0)] W fun e w' => YesKeeps W e w') := fun W kW => HTP.out W (kw.trans kW (fun _ _ e => e))
      have KW := hide kw
      have hlen : ys.length ≤ 134217728 := by have := HFL.out; have := HFW.out; omega
      clear hcell HGT kw hkE
      unfold op2Arg op2Cells at hB HP2
      go_wp2_with fail
      (with_reducible refine hB.mono ?_)
      rintro e w5 ⟨rfl, k5⟩
      have hP := HP2.out w5 k5
      have K5 := hide (KW.out.trans k5 (fun _ _ e => e))
      clear hB k5
      go_wp2_with fail
      (with_reducible refine hP.mono ?_)
      rintro e w6 ⟨rfl, k6⟩
      have K6 := hide (K5.out.trans k6 (fun _ _ e => e))
      clear hP k6
      go_wp2_with fail
      go_ret
      exact ⟨rfl, K6.out⟩
end Go.Proofs.YtdlibnjgmdffnaaGreat
/-
  The scripts of ArenaExact and ArenaTwo.
-/
namespace Go.Proofs.YtdlibnjgmdffnaaGreat
open Go.RowKit Go.Shelf
set_option linter.unusedVariables false

theorem fresh_wellX (n : Nat) : (AD.fresh n).Well := ⟨fun x xs h => by simp [AD.fresh] at h, fun y hy => by simp [AD.fresh] at hy, fun c => by simp [AD.fresh, classSum]⟩
/-- A script that came in. -/
def OpsIn (w : World) (so : Option Addr) (ops : List OpD) : Prop := ∀ i (h : i < ops.length), ∃ b o, so = some ⟨b, o, none⟩ ∧ b < w.heap.size ∧ (∀ j (hj : j < 7), w.cell? ⟨b, o + (i * 7 + j), none⟩ = ops[i].cells[j]?) ∧ ops[i].Ok w (fun k => w.heap.size ≤ k)
theorem OpD.Ok.less {w : World} {F G : Nat → Prop} {o : OpD} (h : o.Ok w F) (hG : ∀ k, k < w.heap.size → G k → F k) : o.Ok w G := ⟨h.x, h.y, h.n, h.v, h.l.less hG, h.la, h.ln, h.lf, fun j hj => by
  obtain ⟨b, q, e, h1, h2, h3⟩ := h.s j hj
  exact ⟨b, q, e, h1, fun x => h2 (hG b h1 x), h3⟩, h.sa, h.sn, h.sl⟩
theorem OpD.Ok.later {w W : World} {o : OpD} {G : Nat → Prop} (h : o.Ok w (fun k => w.heap.size ≤ k)) (k : Keeps w W (fun _ => False)) (hG : ∀ i, G i → w.heap.size ≤ i) : o.Ok W G :=
  (h.keeps (k.mono (fun _ _ e => e.elim))).less (fun i _ e => hG i e)

/-- Since w: the two arenas; all else that was there stands. -/
structure Tale (w W : World) (p r : Nat) (F : Nat → Prop) (d : AD) : Prop where
  duo : Duo W p r F d
  lt : ∀ k, F k → w.heap.size ≤ k ∧ k < W.heap.size
  kp : Keeps w W (fun _ => False)
theorem Tale.stay {w W W2 : World} {p r : Nat} {F : Nat → Prop} {d : AD} (h : Tale w W p r F d) (k : Keeps W W2 (fun _ => False)) : Tale w W2 p r F d :=
  ⟨h.duo.keeps k (fun _ _ e => e) (fun i e => (h.lt i e).2), fun i e => ⟨(h.lt i e).1, Nat.lt_of_lt_of_le (h.lt i e).2 k.size⟩, h.kp.trans k (fun _ _ e => e)⟩
theorem tale_new {w w1 w2 : World} {p r n : Nat} (hn : n ≤ 2097152) (hA : Arena w1 p (fun k => w.heap.size ≤ k) (AD.fresh n)) (k1 : Keeps w w1 (fun _ => False)) (hR : Ref w2 r (fun k => w1.heap.size ≤ k) (AD.fresh n)) (k2 : Keeps w1 w2 (fun _ => False)) : Tale w w2 p r (fun k => w.heap.size ≤ k ∧ k < w2.heap.size) (AD.fresh n) := by
  have hs1 := k1.size
  have hs2 := k2.size
  refine ⟨⟨fun k => w.heap.size ≤ k ∧ k < w1.heap.size, fun k => w1.heap.size ≤ k ∧ k < w2.heap.size, ⟨?_, ?_, fun k hk => ⟨Or.inl ⟨hk.1, by omega⟩, by omega, id⟩, fun k hk => ⟨Or.inl ⟨by omega, hk.2⟩, hk.2, id⟩, fun k hk hr => by omega, fun k hk => hk.elim, Keeps.refl _ _⟩, AD.fresh_fine hn, fresh_wellX n⟩, fun k hk => hk, k1.trans k2 (fun _ _ e => e)⟩
  · exact (hA.mono (fun i hi e => ⟨e, hi⟩)).keeps k2 (fun _ _ _ e => e)
  · exact hR.mono (fun i hi e => ⟨e, hi⟩)
/-- A step of the script. -/
def TalePost (w W : World) (p r : Nat) (F : Nat → Prop) (e : Ending) (W2 : World) : Prop := e = .returned (.bool true) ∧ Keeps W W2 F ∧ ∃ d', Tale w W2 p r (fun k => (F k ∨ W.heap.size ≤ k) ∧ k < W2.heap.size) d'
theorem tale_play {w W : World} {p r : Nat} {F : Nat → Prop} {d : AD} (h : Tale w W p r F d) (o : OpD) (ho : o.Ok w (fun k => w.heap.size ≤ k)) :
    Calls Tryz.prog 9 #[.pointer (some ⟨p, 0, none⟩), .pointer (some ⟨r, 0, none⟩), o.val] W fun e w' => TalePost w W p r F e w' := by
  refine (plays_any h.duo (fun k hk => (h.lt k hk).2) o (ho.later h.kp (fun i e => (h.lt i e).1))).mono ?_
  rintro e W2 ⟨h1, h2, d', h3⟩
  have hs := h.kp.size
  refine ⟨h1, h2, d', h3.mono (fun i hi e => ⟨e, hi⟩), fun k hk => ⟨?_, hk.2⟩, h.kp.trans h2 (fun i hi e => ?_)⟩
  · rcases hk.1 with e | e
    · exact (h.lt k e).1
    · omega
  · have := (h.lt i e).1
    omega

namespace arenaExact
set_option maxRecDepth 100000 in
set_option maxHeartbeats 4000000 in
theorem no (lim : Int) (v : Value) (w : World) (hl : lim < 0 ∨ 2097152 < lim) :
    Calls Tryz.prog 3 #[.int .i64 lim, v] w fun e w' => YesKeeps w e w' := by
  have h1 := anew_no lim w hl
  have h2 := r2new_no lim w hl
  have hn := num_any 20 w
  clear hl
  go_enter Tryz.func3, Tryz.ntmps3
  go_wp2_with fail
  (with_reducible refine h1.mono ?_)
  rintro e w1 ⟨rfl, hw⟩
  subst hw
  clear h1
  go_wp2_with fail
  (with_reducible refine h2.mono ?_)
  rintro e w1 ⟨rfl, hw⟩
  subst hw
  clear h2
  go_wp2_with fail
  (with_reducible refine hn.mono ?_)
  rintro e w1 ⟨rfl, hw⟩
  subst hw
  clear hn
  go_wp2_with fail
  go_ret
  exact ⟨rfl, Keeps.refl _ _⟩

set_option maxRecDepth 100000 in
set_option maxHeartbeats 4000000 in
theorem yes (n : Nat) (so : Option Addr) (cap : Nat) (ops : List OpD) (w : World) (hn : n ≤ 2097152) (hops : OpsIn w so ops) (hlen : ops.length ≤ 134217728) :
    Calls Tryz.prog 3 #[.int .i64 (n : Int), .slice so ops.length cap] w fun e w' => YesKeeps w e w' := by
  have h1 := anew_yes n w hn
  have HOPS := hide hops
  clear hops
  go_enter Tryz.func3, Tryz.ntmps3
  go_wp2_with fail
  (with_reducible refine h1.mono ?_)
  rintro e w1 ⟨p, rfl, hA, k1⟩
  have h2 := r2new_yes n w1 hn
  clear h1
  go_wp2_with fail
  (with_reducible refine h2.mono ?_)
  rintro e w2 ⟨r, rfl, hR, k2⟩
  have hT := hide (tale_new hn hA k1 hR k2)
  have hnm := num_any 0 w2
  clear h2 hA k1 hR k2
  go_wp2_with fail
  (with_reducible refine hnm.mono ?_)
  rintro e w3 ⟨rfl, hw⟩
  subst hw
  clear hnm
  go_wp2_with fail
  go_loopw [33] (fun i wr => ∃ k : Nat, k ≤ ops.length ∧ i = .int .i64 (k : Int) ∧ Hid (∃ F d, Tale w wr p r F d)) (fun i _ => ops.length - (intOf i).toNat)
  case atStart => exact ⟨0, Nat.zero_le _, rfl, (show ∃ F d, Tale w _ p r F d from ⟨_, _, hT.out⟩)⟩
  case round =>
    clear hT
    obtain ⟨k, hk, rfl, hTT⟩ := hrel
    obtain ⟨F, d, hT⟩ := hTT.out
    by_cases hlt : k < ops.length
    · have hlt' : (k : Int) < (ops.length : Int) := by omega
      obtain ⟨b, o, rfl, hb, hc, hok⟩ := HOPS.out k hlt
      have hcr : ∀ j (hj : j < 7) v, ops[k].cells[j]? = some v → wr.cell? ⟨b, o + (k * 7 + j), none⟩ = some v := fun j hj v hv => keep_cell hT.kp ((hc j hj).trans hv)
      have hP : ∀ ob : Obj, Calls Tryz.prog 9 #[.pointer (some ⟨p, 0, none⟩), .pointer (some ⟨r, 0, none⟩), ops[k].val] (wr.alloc ob) fun e w' => TalePost w (wr.alloc ob) p r F e w' := fun ob => tale_play (hT.stay ((Keeps.refl _ _).alloc ob)) ops[k] hok
      generalize ops[k] = od at *
      obtain ⟨K, X, Y, N, V, la, lc, zs, sa, sc, ts⟩ := od
      have q0 := hcr 0 (by omega) (.int .i64 K) rfl
      have q1 := hcr 1 (by omega) (.int .i64 X) rfl
      have q2 := hcr 2 (by omega) (.int .i64 Y) rfl
      have q3 := hcr 3 (by omega) (.int .i64 N) rfl
      have q4 := hcr 4 (by omega) (.int .u64 (V : Int)) rfl
      have q5 := hcr 5 (by omega) (.slice la zs.length lc) rfl
      have q6 := hcr 6 (by omega) (.slice sa ts.length sc) rfl
      simp only [Nat.add_zero] at q0
      rw [← Nat.add_assoc] at q1 q2 q3 q4 q5 q6
      have hP := hP (.cells (op2Cells K X Y N (V : Int) (.slice la zs.length lc) (.slice sa ts.length sc)) 35)
      unfold OpD.val OpD.cells op2Cells at hP
      simp only [] at hP
      clear hc hcr hok hT hTT HOPS
      go_wp2_with fail
      (with_reducible refine hP.mono ?_)
      rintro e w5 ⟨rfl, _, d', hT'⟩
      have HT' : Hid (∃ F d, Tale w w5 p r F d) := (show ∃ F d, Tale w w5 p r F d from ⟨_, _, hT'⟩)
      clear hP hT'
      go_wp2_with fail
      go_roundw
      case rel => exact ⟨k + 1, by omega, by go_num, HT'⟩
      case measure => simp [intOf]; omega
    · obtain rfl : k = ops.length := by omega
      have hlt' : ¬ (ops.length : Int) < (ops.length : Int) := by omega
      have hE := ends_any hT.duo
      have KW := hide hT.kp
      clear hT hTT HOPS
      go_wp2_with fail
      (with_reducible refine hE.mono ?_)
      rintro e w5 ⟨rfl, k5⟩
      have K5 := hide (KW.out.trans k5 (fun _ _ e => e))
      clear hE k5
      go_wp2_with fail
      go_ret
      exact ⟨rfl, K5.out⟩
end arenaExact
end Go.Proofs.YtdlibnjgmdffnaaGreat
/-
  ArenaTwo, walked.
-/
namespace Go.Proofs.YtdlibnjgmdffnaaGreat
open Go.RowKit Go.Shelf
set_option linter.unusedVariables false

theorem tale_of {w W : World} {p r : Nat} {P R : Nat → Prop} {d : AD} (hA : Arena W p P d) (hR : Ref W r R d) (hp : ∀ k, P k → w.heap.size ≤ k ∧ k < W.heap.size) (hr : ∀ k, R k → w.heap.size ≤ k ∧ k < W.heap.size) (hap : ∀ k, P k → ¬ R k) (hF : d.Fine) (hW : d.Well) (kp : Keeps w W (fun _ => False)) : Tale w W p r (fun k => P k ∨ R k) d :=
  ⟨⟨P, R, ⟨hA, hR, fun k hk => ⟨Or.inl (Or.inl hk), (hp k hk).2, id⟩, fun k hk => ⟨Or.inl (Or.inr hk), (hr k hk).2, id⟩, hap, fun k hk => hk.elim, Keeps.refl _ _⟩, hF, hW⟩, fun k hk => hk.elim (hp k) (hr k), kp⟩
theorem Tale.other {w W W2 : World} {p r : Nat} {F S : Nat → Prop} {d : AD} (h : Tale w W p r F d) (k : Keeps W W2 S) (hS : ∀ i, F i → ¬ S i) (kw : Keeps w W2 (fun _ => False)) : Tale w W2 p r F d :=
  ⟨h.duo.keeps k hS (fun i e => (h.lt i e).2), fun i e => ⟨(h.lt i e).1, Nat.lt_of_lt_of_le (h.lt i e).2 k.size⟩, kw⟩
/-- Two tales beside one another. -/
def Twos (w W : World) (p r q s : Nat) : Prop := ∃ F1 d1 F2 d2, Tale w W p r F1 d1 ∧ Tale w W q s F2 d2 ∧ ∀ i, F1 i → ¬ F2 i
theorem Twos.swap {w W : World} {p r q s : Nat} (h : Twos w W p r q s) : Twos w W q s p r := by
  obtain ⟨F1, d1, F2, d2, h1, h2, h3⟩ := h
  exact ⟨F2, d2, F1, d1, h2, h1, fun i a b => h3 i b a⟩
theorem Twos.stay {w W W2 : World} {p r q s : Nat} (h : Twos w W p r q s) (k : Keeps W W2 (fun _ => False)) : Twos w W2 p r q s := by
  obtain ⟨F1, d1, F2, d2, h1, h2, h3⟩ := h
  exact ⟨F1, d1, F2, d2, h1.stay k, h2.stay k, h3⟩
def TwosPost (w : World) (p r q s : Nat) (e : Ending) (W2 : World) : Prop := e = .returned (.bool true) ∧ Twos w W2 p r q s
theorem twos_play {w W : World} {p r q s : Nat} (h : Twos w W p r q s) (o : OpD) (ho : o.Ok w (fun k => w.heap.size ≤ k)) :
    Calls Tryz.prog 9 #[.pointer (some ⟨p, 0, none⟩), .pointer (some ⟨r, 0, none⟩), o.val] W fun e w' => TwosPost w p r q s e w' := by
  obtain ⟨F1, d1, F2, d2, h1, h2, h3⟩ := h
  refine (tale_play h1 o ho).mono ?_
  rintro e W2 ⟨e1, k, d', hT⟩
  refine ⟨e1, _, d', F2, d2, hT, h2.other k (fun i a b => h3 i b a) hT.kp, fun i a b => ?_⟩
  rcases a.1 with a | a
  · exact h3 i a b
  · have := (h2.lt i b).2
    omega
theorem twos_new {w w1 w2 w3 w4 : World} {p q r s n m : Nat} (hn : n ≤ 2097152) (hm : m ≤ 2097152) (hA : Arena w1 p (fun k => w.heap.size ≤ k) (AD.fresh n)) (k1 : Keeps w w1 (fun _ => False)) (hB : Arena w2 q (fun k => w1.heap.size ≤ k) (AD.fresh m)) (k2 : Keeps w1 w2 (fun _ => False)) (hR : Ref w3 r (fun k => w2.heap.size ≤ k) (AD.fresh n)) (k3 : Keeps w2 w3 (fun _ => False)) (hS : Ref w4 s (fun k => w3.heap.size ≤ k) (AD.fresh m)) (k4 : Keeps w3 w4 (fun _ => False)) : Twos w w4 p r q s := by
  have s1 := k1.size
  have s2 := k2.size
  have s3 := k3.size
  have s4 := k4.size
  have k34 : Keeps w2 w4 (fun _ => False) := k3.trans k4 (fun _ _ e => e)
  have k24 : Keeps w1 w4 (fun _ => False) := k2.trans k34 (fun _ _ e => e)
  have k04 : Keeps w w4 (fun _ => False) := k1.trans k24 (fun _ _ e => e)
  have t1 : Tale w w4 p r _ (AD.fresh n) := tale_of (P := fun k => w.heap.size ≤ k ∧ k < w1.heap.size) (R := fun k => w2.heap.size ≤ k ∧ k < w3.heap.size) ((hA.mono (fun i hi e => ⟨e, hi⟩)).keeps k24 (fun _ _ _ e => e)) ((hR.mono (fun i hi e => ⟨e, hi⟩)).stay k4) (fun k hk => by omega) (fun k hk => by omega) (fun k a b => by omega) (AD.fresh_fine hn) (fresh_wellX n) k04
  have t2 : Tale w w4 q s _ (AD.fresh m) := tale_of (P := fun k => w1.heap.size ≤ k ∧ k < w2.heap.size) (R := fun k => w3.heap.size ≤ k ∧ k < w4.heap.size) ((hB.mono (fun i hi e => ⟨e, hi⟩)).keeps k34 (fun _ _ _ e => e)) (hS.mono (fun i hi e => ⟨e, hi⟩)) (fun k hk => by omega) (fun k hk => by omega) (fun k a b => by omega) (AD.fresh_fine hm) (fresh_wellX m) k04
  exact ⟨_, _, _, _, t1, t2, fun i a b => by omega⟩

namespace arenaTwo
set_option maxRecDepth 100000 in
set_option maxHeartbeats 4000000 in
theorem no_any (n m : Int) (v : Value) (w : World) (hn : n < 0 ∨ 2097152 < n) (x : Int)
    (h2 : ∀ W, Keeps w W (fun _ => False) → Calls Tryz.prog 6 #[.int .i64 m] W fun e w' => ∃ pp, e = .returned (.tuple #[.pointer pp, .int .i64 x]) ∧ Keeps W w' (fun _ => False)) (h4 : ∀ W, Keeps w W (fun _ => False) → Calls Tryz.prog 7 #[.int .i64 m] W fun e w' => ∃ pp, e = .returned (.tuple #[.pointer pp, .int .i64 x]) ∧ Keeps W w' (fun _ => False)) :
    Calls Tryz.prog 4 #[.int .i64 n, .int .i64 m, v] w fun e w' => YesKeeps w e w' := by
  have h1 := anew_no n w hn
  have hh2 := h2 w (Keeps.refl _ _)
  have h3 : Hid (∀ W, Calls Tryz.prog 7 #[.int .i64 n] W fun e w' => e = .returned (.tuple #[.pointer none, .int .i64 20]) ∧ w' = W) := fun W => r2new_no n W hn
  have H4 := hide h4
  clear hn h2 h4
  go_enter Tryz.func4, Tryz.ntmps4
  go_wp2_with fail
  (with_reducible refine h1.mono ?_)
  rintro e w1 ⟨rfl, hw⟩
  subst hw
  clear h1
  go_wp2_with fail
  (with_reducible refine hh2.mono ?_)
  rintro e w2 ⟨pp, rfl, k2⟩
  have hh3 := h3.out w2
  clear hh2
  go_wp2_with fail
  (with_reducible refine hh3.mono ?_)
  rintro e w3 ⟨rfl, hw⟩
  subst hw
  have hh4 := H4.out w3 k2
  clear hh3
  go_wp2_with fail
  (with_reducible refine hh4.mono ?_)
  rintro e w4 ⟨pp4, rfl, k4⟩
  have K4 := hide (k2.trans k4 (fun _ _ e => e))
  have hn1 := num_any 20 w4
  have hn2 := num_any x w4
  clear hh4 k2 k4
  go_wp2_with fail
  (with_reducible refine hn1.mono ?_)
  rintro e w5 ⟨rfl, hw⟩
  subst hw
  clear hn1
  go_wp2_with fail
  (with_reducible refine hn2.mono ?_)
  rintro e w6 ⟨rfl, hw⟩
  subst hw
  clear hn2
  go_wp2_with fail
  go_ret
  exact ⟨rfl, K4.out⟩

set_option maxRecDepth 100000 in
set_option maxHeartbeats 4000000 in
theorem yes_no (n : Nat) (m : Int) (v : Value) (w : World) (hn : n ≤ 2097152) (hm : m < 0 ∨ 2097152 < m) :
    Calls Tryz.prog 4 #[.int .i64 (n : Int), .int .i64 m, v] w fun e w' => YesKeeps w e w' := by
  have h1 := anew_yes n w hn
  have h2 : Hid (∀ W, Calls Tryz.prog 6 #[.int .i64 m] W fun e w' => e = .returned (.tuple #[.pointer none, .int .i64 20]) ∧ w' = W) := fun W => anew_no m W hm
  have h3 : Hid (∀ W, Calls Tryz.prog 7 #[.int .i64 (n : Int)] W fun e w' => R2NewPost W n e w') := fun W => r2new_yes n W hn
  have h4 : Hid (∀ W, Calls Tryz.prog 7 #[.int .i64 m] W fun e w' => e = .returned (.tuple #[.pointer none, .int .i64 20]) ∧ w' = W) := fun W => r2new_no m W hm
  clear hm
  go_enter Tryz.func4, Tryz.ntmps4
  go_wp2_with fail
  (with_reducible refine h1.mono ?_)
  rintro e w1 ⟨p, rfl, hA, k1⟩
  have hh2 := h2.out w1
  clear h1 hA
  go_wp2_with fail
  (with_reducible refine hh2.mono ?_)
  rintro e w2 ⟨rfl, hw⟩
  subst hw
  have hh3 := h3.out w2
  clear hh2
  go_wp2_with fail
  (with_reducible refine hh3.mono ?_)
  rintro e w3 ⟨r, rfl, hR, k3⟩
  have hh4 := h4.out w3
  have K3 := hide (k1.trans k3 (fun _ _ e => e))
  clear hh3 hR k1 k3
  go_wp2_with fail
  (with_reducible refine hh4.mono ?_)
  rintro e w4 ⟨rfl, hw⟩
  subst hw
  have hn1 := num_any 0 w4
  have hn2 := num_any 20 w4
  clear hh4
  go_wp2_with fail
  (with_reducible refine hn1.mono ?_)
  rintro e w5 ⟨rfl, hw⟩
  subst hw
  clear hn1
  go_wp2_with fail
  (with_reducible refine hn2.mono ?_)
  rintro e w6 ⟨rfl, hw⟩
  subst hw
  clear hn2
  go_wp2_with fail
  go_ret
  exact ⟨rfl, K3.out⟩

set_option maxRecDepth 100000 in
set_option maxHeartbeats 8000000 in
theorem yes (n m : Nat) (so : Option Addr) (cap : Nat) (ops : List OpD) (w : World) (hn : n ≤ 2097152) (hm : m ≤ 2097152) (hops : OpsIn w so ops) (hlen : ops.length ≤ 134217728) :
    Calls Tryz.prog 4 #[.int .i64 (n : Int), .int .i64 (m : Int), .slice so ops.length cap] w fun e w' => YesKeeps w e w' := by
  have h1 := anew_yes n w hn
  have HOPS := hide hops
  clear hops
  go_enter Tryz.func4, Tryz.ntmps4
  go_wp2_with fail
  (with_reducible refine h1.mono ?_)
  rintro e w1 ⟨p, rfl, hA, k1⟩
  have h2 := anew_yes m w1 hm
  clear h1
  go_wp2_with fail
  (with_reducible refine h2.mono ?_)
  rintro e w2 ⟨q, rfl, hB, k2⟩
  have h3 := r2new_yes n w2 hn
  clear h2
  go_wp2_with fail
  (with_reducible refine h3.mono ?_)
  rintro e w3 ⟨r, rfl, hR, k3⟩
  have h4 := r2new_yes m w3 hm
  clear h3
  go_wp2_with fail
  (with_reducible refine h4.mono ?_)
  rintro e w4 ⟨s, rfl, hS, k4⟩
  have hT := hide (twos_new hn hm hA k1 hB k2 hR k3 hS k4)
  have hn1 := num_any 0 w4
  have hn2 := num_any 0 w4
  clear h4 hA k1 hB k2 hR k3 hS k4
  go_wp2_with fail
  (with_reducible refine hn1.mono ?_)
  rintro e w5 ⟨rfl, hw⟩
  subst hw
  clear hn1
  go_wp2_with fail
  (with_reducible refine hn2.mono ?_)
  rintro e w6 ⟨rfl, hw⟩
  subst hw
  clear hn2
  go_wp2_with fail
  go_loopw [62] (fun i wr => ∃ k : Nat, k ≤ ops.length ∧ i = .int .i64 (k : Int) ∧ Hid (Twos w wr p r q s)) (fun i _ => ops.length - (intOf i).toNat)
  case atStart => exact ⟨0, Nat.zero_le _, rfl, hT⟩
  case round =>
    clear hT
    obtain ⟨k, hk, rfl, hT⟩ := hrel
    by_cases hlt : k < ops.length
    · have hlt' : (k : Int) < (ops.length : Int) := by omega
      obtain ⟨b, o, rfl, hb, hc, hok⟩ := HOPS.out k hlt
      have hkp : Keeps w wr (fun _ => False) := by
        obtain ⟨F1, d1, F2, d2, h1, _⟩ := hT.out
        exact h1.kp
      have hcr : ∀ j (hj : j < 7) v, ops[k].cells[j]? = some v → wr.cell? ⟨b, o + (k * 7 + j), none⟩ = some v := fun j hj v hv => keep_cell hkp ((hc j hj).trans hv)
      have hP1 : ∀ ob : Obj, Calls Tryz.prog 9 #[.pointer (some ⟨p, 0, none⟩), .pointer (some ⟨r, 0, none⟩), ops[k].val] (wr.alloc ob) fun e w' => TwosPost w p r q s e w' := fun ob => twos_play (hT.out.stay ((Keeps.refl _ _).alloc ob)) ops[k] hok
      have hP2 : ∀ ob : Obj, Calls Tryz.prog 9 #[.pointer (some ⟨q, 0, none⟩), .pointer (some ⟨s, 0, none⟩), ops[k].val] (wr.alloc ob) fun e w' => TwosPost w q s p r e w' := fun ob => twos_play (hT.out.swap.stay ((Keeps.refl _ _).alloc ob)) ops[k] hok
      have hyf := hok.y
      generalize ops[k] = od at *
      obtain ⟨K, X, Y, N, V, la, lc, zs, sa, sc, ts⟩ := od
      have q0 := hcr 0 (by omega) (.int .i64 K) rfl
      have q1 := hcr 1 (by omega) (.int .i64 X) rfl
      have q2 := hcr 2 (by omega) (.int .i64 Y) rfl
      have q3 := hcr 3 (by omega) (.int .i64 N) rfl
      have q4 := hcr 4 (by omega) (.int .u64 (V : Int)) rfl
      have q5 := hcr 5 (by omega) (.slice la zs.length lc) rfl
      have q6 := hcr 6 (by omega) (.slice sa ts.length sc) rfl
      simp only [Nat.add_zero] at q0
      rw [← Nat.add_assoc] at q1 q2 q3 q4 q5 q6
      have hP1 := hP1 (.cells (op2Cells K X Y N (V : Int) (.slice la zs.length lc) (.slice sa ts.length sc)) 35)
      have hP2 := hP2 (.cells (op2Cells K X Y N (V : Int) (.slice la zs.length lc) (.slice sa ts.length sc)) 35)
      unfold OpD.val OpD.cells op2Cells at hP1 hP2
      simp only [] at hP1 hP2 hyf
      clear hc hcr hok hT HOPS hkp
      by_cases hy : Y.tmod 2 = 0
      · have hy2 : (Y.tmod 2 == 0) = true := by simpa using hy
        clear hP2
        go_wp2_with fail
        (with_reducible refine hP1.mono ?_)
        rintro e w5 ⟨rfl, hT'⟩
        have HT' := hide hT'
        clear hP1 hT'
        go_wp2_with fail
        go_roundw
        case rel => exact ⟨k + 1, by omega, by go_num, HT'⟩
        case measure => simp [intOf]; omega
      · have hy2 : (Y.tmod 2 == 0) = false := beq_eq_false_iff_ne.2 hy
        clear hP1
        go_wp2_with fail
        (with_reducible refine hP2.mono ?_)
        rintro e w5 ⟨rfl, hT'⟩
        have HT' := hide hT'.swap
        clear hP2 hT'
        go_wp2_with fail
        go_roundw
        case rel => exact ⟨k + 1, by omega, by go_num, HT'⟩
        case measure => simp [intOf]; omega
    · obtain rfl : k = ops.length := by omega
      have hlt' : ¬ (ops.length : Int) < (ops.length : Int) := by omega
      obtain ⟨F1, d1, F2, d2, t1, t2, _⟩ := hT.out
      have hE := ends_any t1.duo
      have KW := hide t1.kp
      have hE2 : Hid (∀ W, Keeps wr W (fun _ => False) → Calls Tryz.prog 10 #[.pointer (some ⟨q, 0, none⟩), .pointer (some ⟨s, 0, none⟩)] W fun e w' => YesKeeps W e w') := fun W kW => ends_any (t2.stay kW).duo
      clear hT t1 t2 HOPS
      go_wp2_with fail
      (with_reducible refine hE.mono ?_)
      rintro e w5 ⟨rfl, k5⟩
      have hE3 := hE2.out w5 k5
      have K5 := hide (KW.out.trans k5 (fun _ _ e => e))
      clear hE k5
      go_wp2_with fail
      (with_reducible refine hE3.mono ?_)
      rintro e w6 ⟨rfl, k6⟩
      have K6 := hide (K5.out.trans k6 (fun _ _ e => e))
      clear hE3 k6
      go_wp2_with fail
      go_ret
      exact ⟨rfl, K6.out⟩
end arenaTwo
end Go.Proofs.YtdlibnjgmdffnaaGreat
/-
  Scripts that came in for ArenaExact and ArenaTwo, up to a size.
-/
namespace Go.Proofs.YtdlibnjgmdffnaaGreat
open Go.ChangeShapes Go.WideShapes Go.ChangeAt Go.RowKit
open Go.ChangeMaps (open_string shut_string)
set_option linter.unusedVariables false

theorem plain_of_cell {w : World} {a : Addr} {v : Value} (h : w.cell? (a.add 0) = some v) : ∃ bb oo, a = ⟨bb, oo, none⟩ ∧ bb < w.heap.size := by
  obtain ⟨bb, oo, sp⟩ := a
  have h' : w.cell? ⟨bb, oo, sp⟩ = some v := h
  have hlt : bb < w.heap.size := by
    rcases Nat.lt_or_ge bb w.heap.size with h1 | h1
    · exact h1
    · simp [World.cell?, Array.getElem?_eq_none h1] at h'
  cases sp with
  | none => exact ⟨bb, oo, rfl, hlt⟩
  | some s =>
    exfalso
    unfold World.cell? at h'
    split at h' <;> simp at h'
theorem one_le {H : Type} (d : DataW H) : 1 ≤ Rows.uptoBulk d := by
  cases d with
  | lit l => cases l <;> simp [Rows.uptoBulk]
  | _ => simp [Rows.uptoBulk]
theorem part_le {H : Type} {d : DataW H} {l : List (DataW H)} (h : d ∈ l) : Rows.uptoBulk d ≤ Rows.uptoBulkAll l := by
  induction l with
  | nil => cases h
  | cons x r ih =>
    simp only [Rows.uptoBulkAll]
    cases List.mem_cons.1 h with
    | inl e => subst e; omega
    | inr e => have := ih e; omega
theorem length_le {H : Type} (l : List (DataW H)) : l.length ≤ Rows.uptoBulkAll l := by
  induction l with
  | nil => simp [Rows.uptoBulkAll]
  | cons x r ih => have := one_le x; simp only [Rows.uptoBulkAll, List.length_cons]; omega
theorem bulk_strs {H : Type} (ts : List ByteArray) : Rows.uptoBulkAll (strs (H := H) ts) = lens ts + ts.length := by
  induction ts with
  | nil => simp [strs, Rows.uptoBulkAll, lens]
  | cons t r ih =>
    have e : strs (H := H) (t :: r) = .lit (.string t.data.toList) :: strs r := by simp [strs]
    have e2 : lens (t :: r) = t.size + lens r := rfl
    have e3 : t.data.toList.length = t.size := by simp
    rw [e, e2]
    simp only [Rows.uptoBulkAll, Rows.uptoBulk, ih, List.length_cons, e3]
    omega

section
variable {H : Type} {enc : TypeId × Value → H} {w : World} {held : Bool}
set_option maxRecDepth 100000 in
theorem open_texts {n : Nat} {v : Value} {y : DataW H × List MemPlace} (h : DataW.trod enc Tryz.prog w 0 (fun _ => true) held n 33 [v] = some y) (hk : Rows.uptoBulk y.1 ≤ 1048576) :
    ∃ (ao : Option Addr) (cap : Nat) (ts : List ByteArray), v = .slice ao ts.length cap ∧ TIn w (fun k => w.heap.size ≤ k) ao ts ∧ (ao = none → cap = 0) ∧ ts.length ≤ 1048576 ∧ lens ts ≤ 1048576 := by
  rcases open_strings Tryz.underlying33 Tryz.underlying9 (by kernel_rfl) h with ⟨hcs, _⟩ | ⟨x, l, c, ss, hcs, _, hl, hm, hzz, hx, hcell, hws⟩
  · injection hcs with e1 _
    exact ⟨none, 0, [], e1, (fun i hi => by simp at hi), fun _ => rfl, by simp, by simp [lens]⟩
  · injection hcs with e1 _
    have hss : ss.length = c := by simpa using hzz
    have htl : (ss.take l).length = l := by simp; omega
    rw [hx] at hk
    simp only [Rows.uptoBulk] at hk
    have h1 := length_le (strs (H := H) (ss.take l))
    have h2 : (strs (H := H) (ss.take l)).length = l := by simp [strs]; omega
    refine ⟨some x, c, ss.take l, by rw [htl]; exact e1, fun i hi => ?_, fun e => (by cases e), by omega, by have := bulk_strs (H := H) (ss.take l); omega⟩
    obtain ⟨bb, oo, e1, e2⟩ := plain_of_cell (hcell 0 (by omega))
    have e3 := hcell i (by omega)
    rw [e1, addr_add] at e3
    refine ⟨bb, oo, by rw [e1], e2, by omega, ?_⟩
    rw [e3]
    congr 2
    rw [List.getD_eq_getElem?_getD, List.getElem?_eq_getElem (by omega), Option.getD_some]
    simp
set_option maxRecDepth 100000 in
theorem open_nums {n : Nat} {v : Value} {y : DataW H × List MemPlace} (h : DataW.trod enc Tryz.prog w 0 (fun _ => true) held n 32 [v] = some y) (hk : Rows.uptoBulk y.1 ≤ 1048576) :
    ∃ (ao : Option Addr) (cap : Nat) (zs : List Int), v = .slice ao zs.length cap ∧ LIn w (fun k => w.heap.size ≤ k) ao zs ∧ (ao = none → cap = 0) ∧ zs.length ≤ 1048576 ∧ ∀ z ∈ zs, fitsI z := by
  rcases Go.Deep.open_slice1 Tryz.underlying32 (by kernel_rfl) h with ⟨hcs, _⟩ | ⟨a, len, cap, m, n', V, D, Pl, hcs, _, hl, hm, hmm, hy, hx⟩
  · injection hcs with e1 _
    exact ⟨none, 0, [], e1, (fun i hi => by simp at hi), fun _ => rfl, by simp, fun z hz => by cases hz⟩
  · injection hcs with e1 _
    have hmc : m = cap := by simpa using hmm
    subst hmc
    rw [hy] at hk
    simp only [Rows.uptoBulk] at hk
    have hn := length_le ((List.range len).map D)
    rw [List.length_map, List.length_range] at hn
    obtain ⟨f, hf⟩ := Go.Deep.choose_lt (α := Int) (n := len) (p := fun i x => w.cell? (a.add i) = some (.int .i64 x) ∧ fitsI x) (fun i hi => by
      obtain ⟨g1, g2⟩ := hx i (by omega)
      obtain ⟨x, e, _, hw⟩ := DataW.trod_int Tryz.underlying3 g2
      simp at e
      exact ⟨x, by rw [g1, e], hw⟩)
    refine ⟨some a, m, (List.range len).map f, by rw [List.length_map, List.length_range]; exact e1, fun j hj => ?_, fun e => (by cases e), by rw [List.length_map, List.length_range]; omega, fun z hz => ?_⟩
    · have hj' : j < len := by simpa using hj
      obtain ⟨bb, oo, rfl, hlt⟩ := plain_of_cell (w := w) (a := a) (hf 0 (by omega)).1
      have h3 := (hf j hj').1
      rw [addr_add] at h3
      refine ⟨bb, oo, rfl, hlt, by omega, ?_⟩
      rw [h3]
      simp
    · obtain ⟨i, hi, rfl⟩ := List.mem_map.1 hz
      exact (hf i (List.mem_range.1 hi)).2

set_option maxRecDepth 100000 in
theorem open_op2 {fuel : Nat} {cs : List Value} {x : DataW H × List MemPlace} (h : DataW.trod enc Tryz.prog w 0 (fun _ => true) held fuel 35 cs = some x) (hk : Rows.uptoBulk x.1 ≤ 1048576) :
    ∃ o : OpD, cs = o.cells.toList ∧ o.Ok w (fun k => w.heap.size ≤ k) := by
  obtain ⟨xs, n, _, rfl, hl, hlen, hf⟩ := DataW.trod_struct Tryz.underlying35 h
  have hl7 : cs.length = 7 := hl.trans (by kernel_rfl)
  have hlen7 : xs.length = 7 := hlen
  have c3 : Tryz.prog.cellsOf 3 = 1 := by kernel_rfl
  have c35 : Tryz.prog.cellsOf 31 = 1 := by kernel_rfl
  have ci : Tryz.prog.cellsOf 32 = 1 := by kernel_rfl
  have cs22 : Tryz.prog.cellsOf 33 = 1 := by kernel_rfl
  match cs, hl7, xs, hlen7 with
  | [v0, v1, v2, v3, v4, v5, v6], _, [y0, y1, y2, y3, y4, y5, y6], _ =>
    have f0 := hf 0 _ rfl
    have f1 := hf 1 _ rfl
    have f2 := hf 2 _ rfl
    have f3 := hf 3 _ rfl
    have f4 := hf 4 _ rfl
    have f5 := hf 5 _ rfl
    have f6 := hf 6 _ rfl
    clear hf h
    simp only [List.getElem?_cons_zero, List.getElem?_cons_succ] at f0 f1 f2 f3 f4 f5 f6
    obtain ⟨k0, e0, rfl, w0⟩ := DataW.trod_int Tryz.underlying3 f0
    obtain ⟨k1, e1, rfl, w1⟩ := DataW.trod_int Tryz.underlying3 f1
    obtain ⟨k2, e2, rfl, w2⟩ := DataW.trod_int Tryz.underlying3 f2
    obtain ⟨k3, e3, rfl, w3⟩ := DataW.trod_int Tryz.underlying3 f3
    obtain ⟨k4, e4, rfl, w4⟩ := DataW.trod_int Tryz.underlying31 f4
    have p4 : 0 ≤ k4 ∧ k4 < 18446744073709551616 := by
      have hm : IntKind.u64.min = 0 := by decide
      have hM : IntKind.u64.max = 18446744073709551615 := by decide
      simp [Lit.wf] at w4
      omega
    obtain ⟨V, rfl⟩ := Int.eq_ofNat_of_zero_le p4.1
    have hall : ∀ z ∈ List.map (·.1) [((.lit (.int .i64 k0), []) : DataW H × List MemPlace), (.lit (.int .i64 k1), []), (.lit (.int .i64 k2), []), (.lit (.int .i64 k3), []), (.lit (.int .u64 (V : Int)), []), y5, y6], Rows.uptoBulk z ≤ 1048576 := fun z hz => by
      have := part_le hz
      simp only [Rows.uptoBulk] at hk
      omega
    obtain ⟨la, lc, zs, rfl, hz1, hz2, hz3, hz4⟩ := open_nums f5 (hall _ (by simp))
    obtain ⟨sa, sc, ts, rfl, ht1, ht2, ht3, ht4⟩ := open_texts f6 (hall _ (by simp))
    have hV := p4.2
    refine ⟨⟨k0, k1, k2, k3, V, la, lc, zs, sa, sc, ts⟩, ?_, ⟨w1, w2, w3, by show V < _; omega, hz1, hz2, by show zs.length ≤ _; omega, hz4, ht1, ht2, by show ts.length ≤ _; omega, ht4⟩⟩
    clear hV p4 hall hz1 hz2 hz3 hz4 ht1 ht2 ht3 ht4
    simp only [OpD.cells, op2Cells]
    simp_all

instance : Inhabited OpD := ⟨⟨0, 0, 0, 0, 0, none, 0, [], none, 0, []⟩⟩

set_option maxRecDepth 100000 in
theorem open_ops2 {fuel : Nat} {so : Option Addr} {len cap : Nat} {x : DataW H × List MemPlace} (h : DataW.trod enc Tryz.prog w 0 (fun _ => true) held fuel 22 [.slice so len cap] = some x) (hk : Rows.uptoBulk x.1 ≤ 1048576) :
    ∃ ops : List OpD, len = ops.length ∧ OpsIn w so ops ∧ ops.length ≤ 1048576 := by
  rcases Go.Deep.open_slice Tryz.underlying22 h with ⟨hcs, _⟩ | ⟨a, l, c, m, n, D, Pl, hcs, _, hl, hm, hmm, rfl, hx⟩
  · injection hcs with e1 _
    injection e1 with e1 e2 e3
    subst e2
    exact ⟨[], rfl, (fun i hi => by simp at hi), by simp⟩
  · injection hcs with e1 _
    injection e1 with e1 e2 e3
    subst e1 e2 e3
    have hmc : m = cap := by simpa using hmm
    subst hmc
    have c7 : Tryz.prog.cellsOf 35 = 7 := by kernel_rfl
    rw [c7] at hx
    simp only [Rows.uptoBulk] at hk
    have hn := length_le ((List.range len).map D)
    rw [List.length_map, List.length_range] at hn
    obtain ⟨f, hf⟩ := Go.Deep.choose_lt (α := OpD) (n := len) (p := fun i o => (∀ j, j < 7 → w.cell? (a.add (i * 7 + j)) = o.cells[j]?) ∧ o.Ok w (fun k => w.heap.size ≤ k)) (fun i hi => by
      obtain ⟨cs', g1, g2⟩ := hx i (by omega)
      have hD : D i ∈ (List.range len).map D := List.mem_map.2 ⟨i, List.mem_range.2 hi, rfl⟩
      have hp := part_le hD
      obtain ⟨o, ho, hs⟩ := open_op2 g2 (by show Rows.uptoBulk (D i) ≤ _; omega)
      refine ⟨o, fun j hj => ?_, hs⟩
      have g3 := (World.cells?_some g1).2.2 j hj
      rw [Go.Deep.add_add] at g3
      rw [g3, ho]
      simp)
    refine ⟨(List.range len).map f, by simp, fun i hi => ?_, by rw [List.length_map, List.length_range]; omega⟩
    have hi' : i < len := by simpa using hi
    obtain ⟨q1, q2⟩ := hf i hi'
    have z := (hf 0 (by omega)).1 0 (by omega)
    obtain ⟨bb, oo, rfl, hbb⟩ := plain_of_cell (w := w) (a := a) (v := .int .i64 (f 0).K) (by simpa [OpD.cells, op2Cells] using z)
    refine ⟨bb, oo, rfl, hbb, fun j hj => ?_, ?_⟩
    · have := q1 j hj
      rw [addr_add] at this
      rw [this]
      simp
    · simpa using q2
end
end Go.Proofs.YtdlibnjgmdffnaaGreat
namespace Go.Proofs.YtdlibnjgmdffnaaGreat
open Go.RowKit
theorem Keeps.cellK {w w' : World} (k : Keeps w w' (fun _ => False)) {p : Addr} {v : Value} (h : w.cell? p = some v) : w'.cell? p = some v := by
  have : p.block < w.heap.size := by
    refine Nat.lt_of_not_le fun hn => ?_
    rw [World.cell?, Array.getElem?_eq_none hn] at h
    cases h
  exact (World.cell?_of_block (w := w) (k.block p.block this (fun x => x))).trans h
end Go.Proofs.YtdlibnjgmdffnaaGreat
