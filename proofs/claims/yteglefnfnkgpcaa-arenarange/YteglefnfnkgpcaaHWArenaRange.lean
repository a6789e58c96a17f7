/-
  ArenaRange's walk.
-/
import Derived.Test.YteglefnfnkgpcaaRn15
import Derived.Deep.RegionHeld3
import Derived.Stop.RegionWithIn
import Derived.Sort.AtCallIn
import Derived.RangeFuncLeaves
import Derived.OwnWalkIn
import Derived.TacticsInMore
namespace Go.Proofs.Yteglefnfnkgpcaa
open Go.RowKit Go.Shelf
set_option linter.unusedVariables false
namespace arenaRange

attribute [local go_sem] Oper.semAt_some
theorem run_store_func (P : Program) (w : World) (a : Addr) (m : Mode) (f : Fn) (x y : Array Value) : (store a (.func f x y) m).run P w = stored P w a (.func f x y) m := run_store P w a _ m rfl
attribute [local go_sem] run_store_func
def Post (w : World) (e : Ending) (w' : World) : Prop := e = .returned (.bool true) ∧ Below w.heap.size w w'

theorem cells_of {w : World} {so : Option Addr} {cp : Nat} {zs : List Int} (h : InZ w (.slice so zs.length cp) zs) : ∀ j (hj : j < zs.length), ∃ b o, so = some ⟨b, o, none⟩ ∧ w.cell? ⟨b, o + j, none⟩ = some (.int .i64 zs[j]) := by
  obtain ⟨so', cp', e, hc⟩ := h.form
  injection e with e1 e2 e3
  subst e1
  exact hc
theorem alloc1 {w : World} {o1 : Obj} {P : World → Prop} (h : ∀ W, W.heap[w.heap.size]? = some o1 → W.heap.size = w.heap.size + 1 → Keeps w W (fun _ => False) → P W) : P (w.alloc o1) :=
  h _ (heap_alloc_new w o1) (by simp) ((Keeps.refl w _).alloc _)
theorem alloc2 {w : World} {o1 o2 : Obj} {P : World → Prop} (h : ∀ W, W.heap[w.heap.size]? = some o1 → W.heap[w.heap.size + 1]? = some o2 → W.heap.size = w.heap.size + 2 → Keeps w W (fun _ => False) → P W) : P ((w.alloc o1).alloc o2) := by
  refine h _ ?_ ?_ (by simp) (((Keeps.refl w _).alloc _).alloc _)
  · exact ((Keeps.refl (w.alloc o1) (fun _ => False)).alloc o2).blk (heap_alloc_new w o1)
  · have := heap_alloc_new (w.alloc o1) o2
    simpa using this
theorem alloc3 {w : World} {o1 o2 o3 : Obj} {P : World → Prop} (h : ∀ W, W.heap[w.heap.size]? = some o1 → W.heap[w.heap.size + 1]? = some o2 → W.heap[w.heap.size + 1 + 1]? = some o3 → W.heap.size = w.heap.size + 1 + 1 + 1 → Keeps w W (fun _ => False) → P W) : P (((w.alloc o1).alloc o2).alloc o3) := by
  refine h _ ?_ ?_ ?_ (by simp) ((((Keeps.refl w _).alloc _).alloc _).alloc _)
  · exact (((Keeps.refl (w.alloc o1) (fun _ => False)).alloc o2).alloc o3).blk (heap_alloc_new w o1)
  · have := ((Keeps.refl ((w.alloc o1).alloc o2) (fun _ => False)).alloc o3).blk (heap_alloc_new (w.alloc o1) o2)
    simpa using this
  · have := heap_alloc_new ((w.alloc o1).alloc o2) o3
    simpa using this
theorem one_cell {w : World} {b : Nat} {v : Value} {t : TypeId} (h : w.heap[b]? = some (.cells #[v] t)) : w.cell? ⟨b, 0, none⟩ = some v ∧ w.frozen? ⟨b, 0, none⟩ = false := by
  constructor
  · simp [World.cell?, h]
  · simp [World.frozen?, h]
theorem put_blk {W : World} {l q : Nat} {o o' : Obj} (h : W.heap[q]? = some o') (hne : q ≠ l) : (W.putObj l o).heap[q]? = some o' :=
  ((grownBy_putObj' W l o).block q (Array.getElem?_eq_some_iff.1 h).1 (fun e => hne (by cases e; rfl))).trans h
theorem set_blk {W : World} {l q : Nat} {v : Value} {o' : Obj} (h : W.heap[q]? = some o') (hne : q ≠ l) : (W.setCell ⟨l, 0, none⟩ v).heap[q]? = some o' := (Below.heap_setCell W ⟨l, 0, none⟩ v q hne).trans h
theorem res4 (tmps : Array Value) (w : World) (B : Nat) (v : Value) (hp : tmps.getD 4 undef = .pointer (some ⟨B, 0, none⟩)) (hc : w.cell? ⟨B, 0, none⟩ = some v) : (results Try.f4 tmps).run Try.prog w = .ok v w := by
  have hp' : tmps[4]?.getD undef = .pointer (some ⟨B, 0, none⟩) := by simpa using hp
  simp [results, Try.results4, go_sem, hp', hc]
/-- The end: the marks of the ranges have nothing to do. -/
theorem leave {w : World} {B : Nat} (tmps : Array Value) (hp : tmps.getD 4 undef = .pointer (some ⟨B, 0, none⟩)) : ∀ (rs : List Nat) (W : World), rs.Nodup → (∀ r ∈ rs, W.heap[r]? = some (.deferred (some [])) ∧ w.heap.size ≤ r) → W.heap[B]? = some (.cells #[.bool true] 4) → Keeps w W (fun _ => False) →
    LeavesInM Fence.wide 8 Try.prog Try.f4 tmps (fun e w' => Post w e w') (rs.map fun r => { target := .collected r, args := #[] }) .returning W
  | [], W, _, _, hB, k => ⟨_, res4 _ _ _ _ hp (one_cell hB).1, rfl, k.below (Nat.le_refl _) (fun _ _ e => e)⟩
  | r :: rs, W, hn, hr, hB, k => by
    obtain ⟨h1, h2⟩ := hr r (by simp)
    have hBr : B ≠ r := fun e => by subst e; rw [hB] at h1; cases h1
    have kp : Keeps W (W.putObj r (.deferred none)) (fun i => i = r) := (Keeps.ofGrown (grownBy_putObj' W r _)).mono (fun i _ e => by cases e; rfl)
    refine ⟨by simp, .inl ⟨r, _, rfl, run_takeDeferred h1, ?_⟩⟩
    refine leave tmps hp rs _ (List.nodup_cons.1 hn).2 (fun q hq => ⟨put_blk (hr q (by simp [hq])).1 (fun e => (List.nodup_cons.1 hn).1 (e ▸ hq)), (hr q (by simp [hq])).2⟩) (put_blk hB hBr) (k.trans kp (fun i hi e => by omega))
set_option maxRecDepth 100000 in
set_option maxHeartbeats 200000000 in
theorem walk (v : Value) (stop : Int) (zs : List Int) (w : World) (hv : InZ w v zs) (hfs : fitsI stop) :
  Calls Try.prog 4 #[v, .int .i64 stop] w fun e w' => Post w e w' := by
 have hN := fun W => own_new (w := W) 2097152 (by omega)
 have hnum := num_any
 obtain ⟨sv, cv, rfl, -⟩ := hv.form
 have HV := hide hv
 have HC := hide (cells_of hv)
 clear hv
 refine (callsIn_wide (n := 8)).1 ?_
 refine callsIn_of_wp_marks Try.func4 rfl trivial ?_ rfl
 simp only [Try.ntmps4, List.size_toArray, List.length_cons, List.length_nil, Nat.reduceAdd, Nat.reduceSub, Array.replicate_succ, Array.replicate_zero, List.push_toArray, List.append_toArray, List.nil_append, List.cons_append]
 rw [wpIn_wide]
 go_wp2_with fail
 refine alloc3 (P := fun W => Calls _ _ _ W _) fun W0 b2 b3 b4 hs0 K0 => ?_
 refine (hN W0).mono ?_
 rintro e w1 ⟨p, rfl, ho⟩
 have hR0 : Rg W0 w1 p (fun _ => False) (AD.fresh 2097152) := ⟨ho, fun _ e => e.elim⟩
 have k01 := ho.keeps
 have hs1 := k01.size
 clear hN ho
 go_wp2_with fail
 refine (hnum _ _).mono ?_
 rintro e w3 ⟨rfl, rfl⟩
 have b5 := heap_alloc_new w1 (.cells #[.pointer (some ⟨p, 0, none⟩)] 23)
 have kA : Keeps w1 (w1.alloc (.cells #[.pointer (some ⟨p, 0, none⟩)] 23)) (fun _ => False) := (Keeps.refl _ _).alloc _
 have hsA : (w1.alloc (.cells #[.pointer (some ⟨p, 0, none⟩)] 23)).heap.size = w1.heap.size + 1 := by simp
 generalize w1.alloc (.cells #[.pointer (some ⟨p, 0, none⟩)] 23) = W1 at *
 have K1 : Keeps W0 W1 (fun _ => False) := k01.trans kA (fun _ _ e => e)
 have hR1 : Rg W0 W1 p (fun k => k = w1.heap.size) (AD.fresh 2097152) := hR0.keep kA (fun _ e => e.elim) (fun i e => ⟨Or.inr (by omega), by omega⟩)
 obtain ⟨c2, -⟩ := one_cell (K1.blk b2)
 obtain ⟨c3, -⟩ := one_cell (K1.blk b3)
 obtain ⟨c4, f4⟩ := one_cell (K1.blk b4)
 obtain ⟨c5, -⟩ := one_cell b5
 have HR1 := hide hR1
 have HK1 := hide K1
 have HK0 := hide K0
 have Hb2 := hide b2
 have Hb3 := hide b3
 have Hb4 := hide b4
 have Hb5 := hide b5
 have HZ := hide (HV.out.keeps (K0.trans K1 (fun _ _ e => e)))
 have HCW : Hid (∀ j (hj : j < zs.length), ∃ b o, sv = some ⟨b, o, none⟩ ∧ W1.cell? ⟨b, o + j, none⟩ = some (.int .i64 zs[j])) := hide (fun j hj => by
  obtain ⟨b, o, e1, e2⟩ := HC.out j hj
  exact ⟨b, o, e1, (K0.trans K1 (fun _ _ e => e)).cellK e2⟩)
 have HL : Hid (∀ tmps : Array Value, tmps.getD 4 undef = .pointer (some ⟨w.heap.size + 1 + 1, 0, none⟩) → LeavesInM Fence.wide 8 Try.prog Try.f4 tmps (fun e w' => Post w e w') [] .returning (W1.setCell ⟨w.heap.size + 1 + 1, 0, none⟩ (.bool true))) := hide (fun tmps ht => by
  obtain ⟨s1, s2⟩ := set_one (v := .bool true) (K1.blk b4)
  exact leave tmps ht [] _ (by simp) (by simp) s1 ((K0.trans K1 (fun _ _ e => e)).trans s2 (fun i hi e => by omega)))
 generalize hB5 : w1.heap.size = B5 at *
 clear hR1 K1 K0 b2 b3 b4 b5 hR0 k01 kA
 by_cases h64 : 64 < zs.length
 ·
  have h64' : (64 : Int) < (zs.length : Int) := by omega
  go_wp2_with fail
  exact HL.out _ rfl
 ·
  have h64' : ¬ (64 : Int) < (zs.length : Int) := by omega
  go_wp2_with fail
  go_loopw [45] (fun vi wr => ∃ k : Nat, vi = .int .i64 (k : Int) ∧ k ≤ zs.length ∧ wr = W1 ∧ ∀ j (hj : j < zs.length), j < k → 1 ≤ zs[j] ∧ zs[j] ≤ 4096) (fun vi _ => zs.length - (intOf vi).toNat)
  case atStart => exact ⟨0, rfl, Nat.zero_le _, rfl, fun j hj h => by omega⟩
  case round =>
   obtain ⟨k, rfl, hk, hwr, hgood⟩ := hrel
   replace hwr := hwr.symm
   subst hwr
   by_cases hlt : k < zs.length
   ·
    have hlt' : (k : Int) < (zs.length : Int) := by omega
    obtain ⟨bz, oz, rfl, hcz⟩ := HCW.out k hlt
    by_cases hsm : zs[k] < 1
    ·
     have HG := hide hgood
     clear hgood
     go_wp2_with fail
     exact HL.out _ rfl
    ·
     by_cases hgr : 4096 < zs[k]
     ·
      have HG := hide hgood
      clear hgood
      go_wp2_with fail
      exact HL.out _ rfl
     ·
      have HG : Hid (∀ j (hj : j < zs.length), j < k + 1 → 1 ≤ zs[j] ∧ zs[j] ≤ 4096) := hide (fun j hj h => by
       rcases Nat.lt_or_ge j k with h' | h'
       ·
        exact hgood j hj h'
       ·
        obtain rfl : j = k := by omega
        omega)
      clear hgood
      go_wp2_with fail
      go_roundw
      case rel => exact ⟨k + 1, by go_num, by omega, trivial, HG.out⟩
      case measure => simp [intOf]; omega
   ·
    have hlt' : ¬ (k : Int) < (zs.length : Int) := by omega
    have HG : Hid (∀ z ∈ zs, 1 ≤ z ∧ z ≤ 4096) := hide (fun z hz => by
     obtain ⟨j, hj, rfl⟩ := List.getElem_of_mem hz
     exact hgood j hj (by omega))
    clear hgood
    go_wp2_with fail
    have hb0 : w.heap.size < W0.heap.size := by omega
    apply twice
    case h =>
     intro hrest
     have hQ0 : Q12 W0 W1 W1.drew p B5 w.heap.size (fun k => k = B5) (AD.fresh 2097152) := ⟨HR1.out.stay (Keeps.refl W1 _).drew, rfl, rfl, rfl⟩
     refine wp_region_noPanic ?_
     refine wp_region_held_drew (S := fun w' => w'.heap[B5]? = W1.heap[B5]? ∧ w'.heap[w.heap.size]? = W1.heap[w.heap.size]?) (by kernel_rfl) ⟨rfl, rfl⟩ (fun hH => ?_)
     refine wpAnyH_take (i := 0) (oi := { dst := some 57, op := Op.load 23 (Operand.tmp 5), type := 23, pos := "outright.go:503", after := #[], guard := none }) (v := ?_) rfl (by kernel_rfl) (by kernel_rfl) (by kernel_rfl) (fun _ _ _ h => h) (Or.inl ⟨by rfl, ?_⟩) (by assumption) ?_
     rotate_left
     ·
      intro w hSw
      obtain ⟨z5, -⟩ := one_cell (hSw.1.trans Hb5.out); go_simp <;> with_reducible rfl
     simp only [Act.put, List.setIfInBounds_toArray, List.set_cons_zero, List.set_cons_succ]
     refine wpAnyH_take (i := 2) (oi := { dst := some 59, op := Op.load 28 (Operand.tmp 2), type := 28, pos := "outright.go:503", after := #[], guard := none }) (v := ?_) rfl (by kernel_rfl) (by kernel_rfl) (by kernel_rfl) (fun _ _ _ h => h) (Or.inl ⟨by rfl, ?_⟩) (by assumption) ?_
     rotate_left
     ·
      intro w hSw
      obtain ⟨z2, -⟩ := one_cell (hSw.2.trans (HK1.out.blk Hb2.out)); go_simp <;> with_reducible rfl
     simp only [Act.put, List.setIfInBounds_toArray, List.set_cons_zero, List.set_cons_succ]
     generalize W1.drew = V0 at *
     refine wpAnyH_ready (rs := [1, 8]) (by kernel_rfl) (by simp) ?_
     refine AllReadyH.cons (o := { dst := some 58, op := Op.buildSlice 28 0 #[], type := 28, pos := "outright.go:503", after := #[], guard := none }) rfl (fun K hK => ?_) (AllReadyH.cons (o := { dst := some 9, op := Op.alloc 28, type := 0, pos := "outright.go:503", after := #[], guard := none }) rfl (fun K hK => ?_) AllReadyH.nil)
     ·
      skip
      go_simp
      have hQ1 := hQ0.alloc hb0 (.cells #[] 3)
      refine hK.out _ _ ⟨hQ1.s5, hQ1.sb⟩ (fun hH1 => ?_)
      clear hK K
      try simp only [Act.put, List.setIfInBounds_toArray, List.set_cons_zero, List.set_cons_succ]
      have hq := heap_alloc_new V0 (.cells #[] 3)
      have kk1 : Keeps V0 (V0.alloc (.cells #[] 3)) (fun _ => False) := (Keeps.refl _ _).alloc _
      generalize V0.alloc (.cells #[] 3) = V1 at *
      generalize V0.heap.size = q at *
      clear kk1
      refine wpAnyH_ready (rs := [3, 8]) (by kernel_rfl) (by simp) ?_
      refine AllReadyH.cons (o := { dst := some 60, op := Op.call { callee := Callee.builtin Builtin.append, args := #[Operand.tmp 58, Operand.tmp 59], argTypes := #[28, 28] }, type := 28, pos := "outright.go:503", after := #[{ on := 1, ground := Ground.data }, { on := 2, ground := Ground.data }], guard := none }) rfl (fun K hK => ?_) (AllReadyH.cons (o := { dst := some 9, op := Op.alloc 28, type := 0, pos := "outright.go:503", after := #[], guard := none }) rfl (fun K hK => ?_) AllReadyH.nil)
      ·
       skip
       obtain ⟨a1, c1, V2, hap, hcl, ha1, ha2, ka⟩ := copyQ (hQ1.inz HV.out HK0.out) (by omega) hq
       rw [if_pos (by rfl)]
       refine app_ready (.tmp 58) (.tmp 59) 28 rfl rfl rfl hap ?_
       have hQ2 : Q12 W0 W1 V2 p B5 w.heap.size (fun k => ((k = B5) ∨ k = q) ∨ k = a1) (AD.fresh 2097152) := hQ1.app hb0 ka hq ha1 ha2 (by simp) Hb5.out
       refine hK.out _ _ ⟨hQ2.s5, hQ2.sb⟩ (fun hH2 => ?_)
       clear hK K hap
       try simp only [Act.put, List.setIfInBounds_toArray, List.set_cons_zero, List.set_cons_succ]
       clear ka hq
       refine wpAnyH_ready (rs := [4, 8]) (by kernel_rfl) (by simp) ?_
       refine AllReadyH.cons (o := { dst := some 61, op := Op.call { callee := Callee.value (Operand.func 12), args := #[Operand.tmp 57, Operand.tmp 60], argTypes := #[23, 28] }, type := 34, pos := "outright.go:503", after := #[{ on := 0, ground := Ground.data }, { on := 3, ground := Ground.data }, { on := 3, ground := Ground.chain }], guard := none }) rfl (fun K hK => ?_) (AllReadyH.cons (o := { dst := some 9, op := Op.alloc 28, type := 0, pos := "outright.go:503", after := #[], guard := none }) rfl (fun K hK => ?_) AllReadyH.nil)
       ·
        skip
        go_simp
        refine (q12_all hQ2 hb0 (cap := c1) (by simp) zs HG.out (by omega) hcl).mono ?_
        rintro r V3 ⟨g, hgs, rfl, hg, hQ3, hst⟩
        refine hK.out _ _ ⟨hQ3.s5, hQ3.sb⟩ (fun hH3 => ?_)
        clear hK K hcl
        try simp only [Act.put, List.setIfInBounds_toArray, List.set_cons_zero, List.set_cons_succ]
        refine wpAnyH_take (i := 5) (oi := { dst := some 56, op := Op.move (Operand.tmp 61), type := 34, pos := "outright.go:503", after := #[{ on := 4, ground := Ground.data }], guard := none }) (v := ?_) rfl (by kernel_rfl) (by kernel_rfl) (by kernel_rfl) (fun _ _ _ h => h) (Or.inl ⟨by rfl, ?_⟩) (by assumption) ?_
        rotate_left
        ·
         intro w hSw
         go_simp <;> with_reducible rfl
        simp only [Act.put, List.setIfInBounds_toArray, List.set_cons_zero, List.set_cons_succ]
        refine wpAnyH_take (i := 6) (oi := { dst := some 62, op := Op.extract (Operand.tmp 56) 0, type := 28, pos := "outright.go:503", after := #[{ on := 5, ground := Ground.data }], guard := none }) (v := ?_) rfl (by kernel_rfl) (by kernel_rfl) (by kernel_rfl) (fun _ _ _ h => h) (Or.inl ⟨by rfl, ?_⟩) (by assumption) ?_
        rotate_left
        ·
         intro w hSw
         go_simp <;> with_reducible rfl
        simp only [Act.put, List.setIfInBounds_toArray, List.set_cons_zero, List.set_cons_succ]
        refine wpAnyH_take (i := 7) (oi := { dst := some 63, op := Op.extract (Operand.tmp 56) 1, type := 24, pos := "outright.go:503", after := #[{ on := 5, ground := Ground.data }, { on := 9, ground := Ground.gcOnly Departure.lateStores }], guard := none }) (v := ?_) rfl (by kernel_rfl) (by kernel_rfl) (by kernel_rfl) (fun _ _ _ h => h) (Or.inl ⟨by rfl, ?_⟩) (by assumption) ?_
        rotate_left
        ·
         intro w hSw
         go_simp <;> with_reducible rfl
        simp only [Act.put, List.setIfInBounds_toArray, List.set_cons_zero, List.set_cons_succ]
        refine wpAnyH_ready (rs := [8]) (by kernel_rfl) (by simp) ?_
        refine AllReadyH.cons (o := { dst := some 9, op := Op.alloc 28, type := 0, pos := "outright.go:503", after := #[], guard := none }) rfl (fun K hK => ?_) AllReadyH.nil
        go_simp
        have hQ4 := hQ3.alloc hb0 (.cells #[.slice none 0 0] 28)
        refine hK.out _ _ ⟨hQ4.s5, hQ4.sb⟩ (fun hH4 => ?_)
        clear hK K
        try simp only [Act.put, List.setIfInBounds_toArray, List.set_cons_zero, List.set_cons_succ]
        have hB9 := heap_alloc_new V3 (.cells #[.slice none 0 0] 28)
        have kk4 : Keeps V3 (V3.alloc (.cells #[.slice none 0 0] 28)) (fun _ => False) := (Keeps.refl _ _).alloc _
        generalize V3.alloc (.cells #[.slice none 0 0] 28) = V4 at *
        generalize V3.heap.size = B9 at *
        replace hg := kk4.blk hg
        clear kk4
        refine wpAnyH_ready (rs := [9]) (by kernel_rfl) (by simp) ?_
        refine AllReadyH.cons (o := { dst := none, op := Op.store 28 (Operand.tmp 9) (Operand.tmp 62), type := 0, pos := "outright.go:503", after := #[{ on := 8, ground := Ground.data }, { on := 6, ground := Ground.data }, { on := 4, ground := Ground.chain }, { on := 0, ground := Ground.phase }, { on := 1, ground := Ground.phase }, { on := 2, ground := Ground.phase }, { on := 3, ground := Ground.phase }, { on := 4, ground := Ground.phase }, { on := 5, ground := Ground.phase }, { on := 6, ground := Ground.phase }, { on := 7, ground := Ground.textOnly Departure.lateStores }, { on := 8, ground := Ground.phase }], guard := none }) rfl (fun K hK => ?_) AllReadyH.nil
        obtain ⟨z9, y9⟩ := one_cell hB9
        go_simp
        obtain ⟨s9, k9⟩ := set_one (v := .slice (some ⟨g, 0, none⟩) zs.length zs.length) hB9
        have hQl := hQ4.set hb0 hB9 (by simp) Hb5.out (.slice (some ⟨g, 0, none⟩) zs.length zs.length)
        refine hK.out _ _ ⟨hQl.s5, hQl.sb⟩ (fun hHl => ?_)
        clear hK K
        try simp only [Act.put, List.setIfInBounds_toArray, List.set_cons_zero, List.set_cons_succ]
        refine wpAnyH_take (i := 10) (oi := { dst := some 10, op := Op.assign (Operand.tmp 63), type := 24, pos := "outright.go:503", after := #[{ on := 7, ground := Ground.data }, { on := 9, ground := Ground.chain }, { on := 0, ground := Ground.phase }, { on := 1, ground := Ground.phase }, { on := 2, ground := Ground.phase }, { on := 3, ground := Ground.phase }, { on := 4, ground := Ground.phase }, { on := 5, ground := Ground.phase }, { on := 6, ground := Ground.phase }, { on := 7, ground := Ground.phase }, { on := 8, ground := Ground.phase }, { on := 9, ground := Ground.phase }], guard := none }) (v := ?_) rfl (by kernel_rfl) (by kernel_rfl) (by kernel_rfl) (fun _ _ _ h => h) (Or.inl ⟨by rfl, ?_⟩) (by assumption) ?_
        rotate_left
        ·
         intro w hSw
         go_simp <;> with_reducible rfl
        simp only [Act.put, List.setIfInBounds_toArray, List.set_cons_zero, List.set_cons_succ]
        refine wpAnyH_done (by kernel_rfl) (NoPanic.normal ?_) _
        have hFF : F12 W0 _ p B5 B9 g (takeAll listT (AD.fresh 2097152) zs).1 (takeAll listT (AD.fresh 2097152) zs).2 := hQl.fin (by simp) (by simp) Hb5.out (by rw [takeAll_length]; exact s9) (k9.blkF hg (fun e => by rw [e, hB9] at hg; simp at hg))
        have HFF := hide hFF
        clear hFF hQl s9 k9 hB9 hg hHl z9 y9
        generalize V4.setCell ⟨B9, 0, none⟩ (.slice (some ⟨g, 0, none⟩) zs.length zs.length) = WF at HFF ⊢
        clear hQ1 hH1 hQ2 hH2 hQ3 hH3 hQ4 hH4 ha1 ha2 hgs hst
        revert HFF
        revert WF B9 g c1 a1 q
        exact hrest.out
       ·
        skip
        go_simp
        have hQ5 := hQ2.alloc hb0 (.cells #[.slice none 0 0] 28)
        refine hK.out _ _ ⟨hQ5.s5, hQ5.sb⟩ (fun hH5 => ?_)
        clear hK K
        try simp only [Act.put, List.setIfInBounds_toArray, List.set_cons_zero, List.set_cons_succ]
        have hB9 := heap_alloc_new V2 (.cells #[.slice none 0 0] 28)
        have kk5 : Keeps V2 (V2.alloc (.cells #[.slice none 0 0] 28)) (fun _ => False) := (Keeps.refl _ _).alloc _
        generalize V2.alloc (.cells #[.slice none 0 0] 28) = V5 at *
        generalize V2.heap.size = B9 at *
        replace hcl := fun j hj => kk5.cellK (hcl j hj)
        clear kk5
        refine wpAnyH_ready (rs := [4]) (by kernel_rfl) (by simp) ?_
        refine AllReadyH.cons (o := { dst := some 61, op := Op.call { callee := Callee.value (Operand.func 12), args := #[Operand.tmp 57, Operand.tmp 60], argTypes := #[23, 28] }, type := 34, pos := "outright.go:503", after := #[{ on := 0, ground := Ground.data }, { on := 3, ground := Ground.data }, { on := 3, ground := Ground.chain }], guard := none }) rfl (fun K hK => ?_) AllReadyH.nil
        go_simp
        refine (q12_all hQ5 hb0 (cap := c1) (by simp) zs HG.out (by omega) hcl).mono ?_
        rintro r V6 ⟨g, hgs, rfl, hg, hQ6, hst⟩
        refine hK.out _ _ ⟨hQ6.s5, hQ6.sb⟩ (fun hH6 => ?_)
        clear hK K hcl
        try simp only [Act.put, List.setIfInBounds_toArray, List.set_cons_zero, List.set_cons_succ]
        replace hB9 := (hst B9 (by simp)).trans hB9
        refine wpAnyH_take (i := 5) (oi := { dst := some 56, op := Op.move (Operand.tmp 61), type := 34, pos := "outright.go:503", after := #[{ on := 4, ground := Ground.data }], guard := none }) (v := ?_) rfl (by kernel_rfl) (by kernel_rfl) (by kernel_rfl) (fun _ _ _ h => h) (Or.inl ⟨by rfl, ?_⟩) (by assumption) ?_
        rotate_left
        ·
         intro w hSw
         go_simp <;> with_reducible rfl
        simp only [Act.put, List.setIfInBounds_toArray, List.set_cons_zero, List.set_cons_succ]
        refine wpAnyH_take (i := 6) (oi := { dst := some 62, op := Op.extract (Operand.tmp 56) 0, type := 28, pos := "outright.go:503", after := #[{ on := 5, ground := Ground.data }], guard := none }) (v := ?_) rfl (by kernel_rfl) (by kernel_rfl) (by kernel_rfl) (fun _ _ _ h => h) (Or.inl ⟨by rfl, ?_⟩) (by assumption) ?_
        rotate_left
        ·
         intro w hSw
         go_simp <;> with_reducible rfl
        simp only [Act.put, List.setIfInBounds_toArray, List.set_cons_zero, List.set_cons_succ]
        refine wpAnyH_take (i := 7) (oi := { dst := some 63, op := Op.extract (Operand.tmp 56) 1, type := 24, pos := "outright.go:503", after := #[{ on := 5, ground := Ground.data }, { on := 9, ground := Ground.gcOnly Departure.lateStores }], guard := none }) (v := ?_) rfl (by kernel_rfl) (by kernel_rfl) (by kernel_rfl) (fun _ _ _ h => h) (Or.inl ⟨by rfl, ?_⟩) (by assumption) ?_
        rotate_left
        ·
         intro w hSw
         go_simp <;> with_reducible rfl
        simp only [Act.put, List.setIfInBounds_toArray, List.set_cons_zero, List.set_cons_succ]
        refine wpAnyH_ready (rs := [9]) (by kernel_rfl) (by simp) ?_
        refine AllReadyH.cons (o := { dst := none, op := Op.store 28 (Operand.tmp 9) (Operand.tmp 62), type := 0, pos := "outright.go:503", after := #[{ on := 8, ground := Ground.data }, { on := 6, ground := Ground.data }, { on := 4, ground := Ground.chain }, { on := 0, ground := Ground.phase }, { on := 1, ground := Ground.phase }, { on := 2, ground := Ground.phase }, { on := 3, ground := Ground.phase }, { on := 4, ground := Ground.phase }, { on := 5, ground := Ground.phase }, { on := 6, ground := Ground.phase }, { on := 7, ground := Ground.textOnly Departure.lateStores }, { on := 8, ground := Ground.phase }], guard := none }) rfl (fun K hK => ?_) AllReadyH.nil
        obtain ⟨z9, y9⟩ := one_cell hB9
        go_simp
        obtain ⟨s9, k9⟩ := set_one (v := .slice (some ⟨g, 0, none⟩) zs.length zs.length) hB9
        have hQl := hQ6.set hb0 hB9 (by simp) Hb5.out (.slice (some ⟨g, 0, none⟩) zs.length zs.length)
        refine hK.out _ _ ⟨hQl.s5, hQl.sb⟩ (fun hHl => ?_)
        clear hK K
        try simp only [Act.put, List.setIfInBounds_toArray, List.set_cons_zero, List.set_cons_succ]
        refine wpAnyH_take (i := 10) (oi := { dst := some 10, op := Op.assign (Operand.tmp 63), type := 24, pos := "outright.go:503", after := #[{ on := 7, ground := Ground.data }, { on := 9, ground := Ground.chain }, { on := 0, ground := Ground.phase }, { on := 1, ground := Ground.phase }, { on := 2, ground := Ground.phase }, { on := 3, ground := Ground.phase }, { on := 4, ground := Ground.phase }, { on := 5, ground := Ground.phase }, { on := 6, ground := Ground.phase }, { on := 7, ground := Ground.phase }, { on := 8, ground := Ground.phase }, { on := 9, ground := Ground.phase }], guard := none }) (v := ?_) rfl (by kernel_rfl) (by kernel_rfl) (by kernel_rfl) (fun _ _ _ h => h) (Or.inl ⟨by rfl, ?_⟩) (by assumption) ?_
        rotate_left
        ·
         intro w hSw
         go_simp <;> with_reducible rfl
        simp only [Act.put, List.setIfInBounds_toArray, List.set_cons_zero, List.set_cons_succ]
        refine wpAnyH_done (by kernel_rfl) (NoPanic.normal ?_) _
        have hFF : F12 W0 _ p B5 B9 g (takeAll listT (AD.fresh 2097152) zs).1 (takeAll listT (AD.fresh 2097152) zs).2 := hQl.fin (by simp) (by simp) Hb5.out (by rw [takeAll_length]; exact s9) (k9.blkF hg (fun e => by rw [e, hB9] at hg; simp at hg))
        have HFF := hide hFF
        clear hFF hQl s9 k9 hB9 hg hHl z9 y9
        generalize V6.setCell ⟨B9, 0, none⟩ (.slice (some ⟨g, 0, none⟩) zs.length zs.length) = WF at HFF ⊢
        clear hQ1 hH1 hQ2 hH2 hQ5 hH5 hQ6 hH6 ha1 ha2 hgs hst
        exact hrest.out q a1 c1 g B9 WF HFF
      ·
       skip
       go_simp
       have hQ7 := hQ1.alloc hb0 (.cells #[.slice none 0 0] 28)
       refine hK.out _ _ ⟨hQ7.s5, hQ7.sb⟩ (fun hH7 => ?_)
       clear hK K
       try simp only [Act.put, List.setIfInBounds_toArray, List.set_cons_zero, List.set_cons_succ]
       have hB9 := heap_alloc_new V1 (.cells #[.slice none 0 0] 28)
       have kk7 : Keeps V1 (V1.alloc (.cells #[.slice none 0 0] 28)) (fun _ => False) := (Keeps.refl _ _).alloc _
       generalize V1.alloc (.cells #[.slice none 0 0] 28) = V7 at *
       generalize V1.heap.size = B9 at *
       replace hq := kk7.blk hq
       clear kk7
       refine wpAnyH_ready (rs := [3]) (by kernel_rfl) (by simp) ?_
       refine AllReadyH.cons (o := { dst := some 60, op := Op.call { callee := Callee.builtin Builtin.append, args := #[Operand.tmp 58, Operand.tmp 59], argTypes := #[28, 28] }, type := 28, pos := "outright.go:503", after := #[{ on := 1, ground := Ground.data }, { on := 2, ground := Ground.data }], guard := none }) rfl (fun K hK => ?_) AllReadyH.nil
       obtain ⟨a1, c1, V8, hap, hcl, ha1, ha2, ka⟩ := copyQ (hQ7.inz HV.out HK0.out) (by omega) hq
       rw [if_pos (by rfl)]
       refine app_ready (.tmp 58) (.tmp 59) 28 rfl rfl rfl hap ?_
       have hQ8 : Q12 W0 W1 V8 p B5 w.heap.size (fun k => (((k = B5) ∨ k = q) ∨ k = B9) ∨ k = a1) (AD.fresh 2097152) := hQ7.app hb0 ka hq ha1 ha2 (by simp) Hb5.out
       refine hK.out _ _ ⟨hQ8.s5, hQ8.sb⟩ (fun hH8 => ?_)
       clear hK K hap
       try simp only [Act.put, List.setIfInBounds_toArray, List.set_cons_zero, List.set_cons_succ]
       replace hB9 := ka.blkF hB9 (fun e => by rw [e, hq] at hB9; simp at hB9)
       clear ka hq
       refine wpAnyH_ready (rs := [4]) (by kernel_rfl) (by simp) ?_
       refine AllReadyH.cons (o := { dst := some 61, op := Op.call { callee := Callee.value (Operand.func 12), args := #[Operand.tmp 57, Operand.tmp 60], argTypes := #[23, 28] }, type := 34, pos := "outright.go:503", after := #[{ on := 0, ground := Ground.data }, { on := 3, ground := Ground.data }, { on := 3, ground := Ground.chain }], guard := none }) rfl (fun K hK => ?_) AllReadyH.nil
       go_simp
       refine (q12_all hQ8 hb0 (cap := c1) (by simp) zs HG.out (by omega) hcl).mono ?_
       rintro r V9 ⟨g, hgs, rfl, hg, hQ9, hst⟩
       refine hK.out _ _ ⟨hQ9.s5, hQ9.sb⟩ (fun hH9 => ?_)
       clear hK K hcl
       try simp only [Act.put, List.setIfInBounds_toArray, List.set_cons_zero, List.set_cons_succ]
       replace hB9 := (hst B9 (by simp)).trans hB9
       refine wpAnyH_take (i := 5) (oi := { dst := some 56, op := Op.move (Operand.tmp 61), type := 34, pos := "outright.go:503", after := #[{ on := 4, ground := Ground.data }], guard := none }) (v := ?_) rfl (by kernel_rfl) (by kernel_rfl) (by kernel_rfl) (fun _ _ _ h => h) (Or.inl ⟨by rfl, ?_⟩) (by assumption) ?_
       rotate_left
       ·
        intro w hSw
        go_simp <;> with_reducible rfl
       simp only [Act.put, List.setIfInBounds_toArray, List.set_cons_zero, List.set_cons_succ]
       refine wpAnyH_take (i := 6) (oi := { dst := some 62, op := Op.extract (Operand.tmp 56) 0, type := 28, pos := "outright.go:503", after := #[{ on := 5, ground := Ground.data }], guard := none }) (v := ?_) rfl (by kernel_rfl) (by kernel_rfl) (by kernel_rfl) (fun _ _ _ h => h) (Or.inl ⟨by rfl, ?_⟩) (by assumption) ?_
       rotate_left
       ·
        intro w hSw
        go_simp <;> with_reducible rfl
       simp only [Act.put, List.setIfInBounds_toArray, List.set_cons_zero, List.set_cons_succ]
       refine wpAnyH_take (i := 7) (oi := { dst := some 63, op := Op.extract (Operand.tmp 56) 1, type := 24, pos := "outright.go:503", after := #[{ on := 5, ground := Ground.data }, { on := 9, ground := Ground.gcOnly Departure.lateStores }], guard := none }) (v := ?_) rfl (by kernel_rfl) (by kernel_rfl) (by kernel_rfl) (fun _ _ _ h => h) (Or.inl ⟨by rfl, ?_⟩) (by assumption) ?_
       rotate_left
       ·
        intro w hSw
        go_simp <;> with_reducible rfl
       simp only [Act.put, List.setIfInBounds_toArray, List.set_cons_zero, List.set_cons_succ]
       refine wpAnyH_ready (rs := [9]) (by kernel_rfl) (by simp) ?_
       refine AllReadyH.cons (o := { dst := none, op := Op.store 28 (Operand.tmp 9) (Operand.tmp 62), type := 0, pos := "outright.go:503", after := #[{ on := 8, ground := Ground.data }, { on := 6, ground := Ground.data }, { on := 4, ground := Ground.chain }, { on := 0, ground := Ground.phase }, { on := 1, ground := Ground.phase }, { on := 2, ground := Ground.phase }, { on := 3, ground := Ground.phase }, { on := 4, ground := Ground.phase }, { on := 5, ground := Ground.phase }, { on := 6, ground := Ground.phase }, { on := 7, ground := Ground.textOnly Departure.lateStores }, { on := 8, ground := Ground.phase }], guard := none }) rfl (fun K hK => ?_) AllReadyH.nil
       obtain ⟨z9, y9⟩ := one_cell hB9
       go_simp
       obtain ⟨s9, k9⟩ := set_one (v := .slice (some ⟨g, 0, none⟩) zs.length zs.length) hB9
       have hQl := hQ9.set hb0 hB9 (by simp) Hb5.out (.slice (some ⟨g, 0, none⟩) zs.length zs.length)
       refine hK.out _ _ ⟨hQl.s5, hQl.sb⟩ (fun hHl => ?_)
       clear hK K
       try simp only [Act.put, List.setIfInBounds_toArray, List.set_cons_zero, List.set_cons_succ]
       refine wpAnyH_take (i := 10) (oi := { dst := some 10, op := Op.assign (Operand.tmp 63), type := 24, pos := "outright.go:503", after := #[{ on := 7, ground := Ground.data }, { on := 9, ground := Ground.chain }, { on := 0, ground := Ground.phase }, { on := 1, ground := Ground.phase }, { on := 2, ground := Ground.phase }, { on := 3, ground := Ground.phase }, { on := 4, ground := Ground.phase }, { on := 5, ground := Ground.phase }, { on := 6, ground := Ground.phase }, { on := 7, ground := Ground.phase }, { on := 8, ground := Ground.phase }, { on := 9, ground := Ground.phase }], guard := none }) (v := ?_) rfl (by kernel_rfl) (by kernel_rfl) (by kernel_rfl) (fun _ _ _ h => h) (Or.inl ⟨by rfl, ?_⟩) (by assumption) ?_
       rotate_left
       ·
        intro w hSw
        go_simp <;> with_reducible rfl
       simp only [Act.put, List.setIfInBounds_toArray, List.set_cons_zero, List.set_cons_succ]
       refine wpAnyH_done (by kernel_rfl) (NoPanic.normal ?_) _
       have hFF : F12 W0 _ p B5 B9 g (takeAll listT (AD.fresh 2097152) zs).1 (takeAll listT (AD.fresh 2097152) zs).2 := hQl.fin (by simp) (by simp) Hb5.out (by rw [takeAll_length]; exact s9) (k9.blkF hg (fun e => by rw [e, hB9] at hg; simp at hg))
       have HFF := hide hFF
       clear hFF hQl s9 k9 hB9 hg hHl z9 y9
       generalize V9.setCell ⟨B9, 0, none⟩ (.slice (some ⟨g, 0, none⟩) zs.length zs.length) = WF at HFF ⊢
       clear hQ1 hH1 hQ7 hH7 hQ8 hH8 hQ9 hH9 ha1 ha2 hgs hst
       exact hrest.out q a1 c1 g B9 WF HFF
     ·
      skip
      go_simp
      have hQ10 := hQ0.alloc hb0 (.cells #[.slice none 0 0] 28)
      refine hK.out _ _ ⟨hQ10.s5, hQ10.sb⟩ (fun hH10 => ?_)
      clear hK K
      try simp only [Act.put, List.setIfInBounds_toArray, List.set_cons_zero, List.set_cons_succ]
      have hB9 := heap_alloc_new V0 (.cells #[.slice none 0 0] 28)
      have kk10 : Keeps V0 (V0.alloc (.cells #[.slice none 0 0] 28)) (fun _ => False) := (Keeps.refl _ _).alloc _
      generalize V0.alloc (.cells #[.slice none 0 0] 28) = V10 at *
      generalize V0.heap.size = B9 at *
      clear kk10
      refine wpAnyH_ready (rs := [1]) (by kernel_rfl) (by simp) ?_
      refine AllReadyH.cons (o := { dst := some 58, op := Op.buildSlice 28 0 #[], type := 28, pos := "outright.go:503", after := #[], guard := none }) rfl (fun K hK => ?_) AllReadyH.nil
      go_simp
      have hQ11 := hQ10.alloc hb0 (.cells #[] 3)
      refine hK.out _ _ ⟨hQ11.s5, hQ11.sb⟩ (fun hH11 => ?_)
      clear hK K
      try simp only [Act.put, List.setIfInBounds_toArray, List.set_cons_zero, List.set_cons_succ]
      have hq := heap_alloc_new V10 (.cells #[] 3)
      have kk11 : Keeps V10 (V10.alloc (.cells #[] 3)) (fun _ => False) := (Keeps.refl _ _).alloc _
      generalize V10.alloc (.cells #[] 3) = V11 at *
      generalize V10.heap.size = q at *
      replace hB9 := kk11.blk hB9
      clear kk11
      refine wpAnyH_ready (rs := [3]) (by kernel_rfl) (by simp) ?_
      refine AllReadyH.cons (o := { dst := some 60, op := Op.call { callee := Callee.builtin Builtin.append, args := #[Operand.tmp 58, Operand.tmp 59], argTypes := #[28, 28] }, type := 28, pos := "outright.go:503", after := #[{ on := 1, ground := Ground.data }, { on := 2, ground := Ground.data }], guard := none }) rfl (fun K hK => ?_) AllReadyH.nil
      obtain ⟨a1, c1, V12, hap, hcl, ha1, ha2, ka⟩ := copyQ (hQ11.inz HV.out HK0.out) (by omega) hq
      rw [if_pos (by rfl)]
      refine app_ready (.tmp 58) (.tmp 59) 28 rfl rfl rfl hap ?_
      have hQ12 : Q12 W0 W1 V12 p B5 w.heap.size (fun k => (((k = B5) ∨ k = B9) ∨ k = q) ∨ k = a1) (AD.fresh 2097152) := hQ11.app hb0 ka hq ha1 ha2 (by simp) Hb5.out
      refine hK.out _ _ ⟨hQ12.s5, hQ12.sb⟩ (fun hH12 => ?_)
      clear hK K hap
      try simp only [Act.put, List.setIfInBounds_toArray, List.set_cons_zero, List.set_cons_succ]
      replace hB9 := ka.blkF hB9 (fun e => by rw [e, hq] at hB9; simp at hB9)
      clear ka hq
      refine wpAnyH_ready (rs := [4]) (by kernel_rfl) (by simp) ?_
      refine AllReadyH.cons (o := { dst := some 61, op := Op.call { callee := Callee.value (Operand.func 12), args := #[Operand.tmp 57, Operand.tmp 60], argTypes := #[23, 28] }, type := 34, pos := "outright.go:503", after := #[{ on := 0, ground := Ground.data }, { on := 3, ground := Ground.data }, { on := 3, ground := Ground.chain }], guard := none }) rfl (fun K hK => ?_) AllReadyH.nil
      go_simp
      refine (q12_all hQ12 hb0 (cap := c1) (by simp) zs HG.out (by omega) hcl).mono ?_
      rintro r V13 ⟨g, hgs, rfl, hg, hQ13, hst⟩
      refine hK.out _ _ ⟨hQ13.s5, hQ13.sb⟩ (fun hH13 => ?_)
      clear hK K hcl
      try simp only [Act.put, List.setIfInBounds_toArray, List.set_cons_zero, List.set_cons_succ]
      replace hB9 := (hst B9 (by simp)).trans hB9
      refine wpAnyH_take (i := 5) (oi := { dst := some 56, op := Op.move (Operand.tmp 61), type := 34, pos := "outright.go:503", after := #[{ on := 4, ground := Ground.data }], guard := none }) (v := ?_) rfl (by kernel_rfl) (by kernel_rfl) (by kernel_rfl) (fun _ _ _ h => h) (Or.inl ⟨by rfl, ?_⟩) (by assumption) ?_
      rotate_left
      ·
       intro w hSw
       go_simp <;> with_reducible rfl
      simp only [Act.put, List.setIfInBounds_toArray, List.set_cons_zero, List.set_cons_succ]
      refine wpAnyH_take (i := 6) (oi := { dst := some 62, op := Op.extract (Operand.tmp 56) 0, type := 28, pos := "outright.go:503", after := #[{ on := 5, ground := Ground.data }], guard := none }) (v := ?_) rfl (by kernel_rfl) (by kernel_rfl) (by kernel_rfl) (fun _ _ _ h => h) (Or.inl ⟨by rfl, ?_⟩) (by assumption) ?_
      rotate_left
      ·
       intro w hSw
       go_simp <;> with_reducible rfl
      simp only [Act.put, List.setIfInBounds_toArray, List.set_cons_zero, List.set_cons_succ]
      refine wpAnyH_take (i := 7) (oi := { dst := some 63, op := Op.extract (Operand.tmp 56) 1, type := 24, pos := "outright.go:503", after := #[{ on := 5, ground := Ground.data }, { on := 9, ground := Ground.gcOnly Departure.lateStores }], guard := none }) (v := ?_) rfl (by kernel_rfl) (by kernel_rfl) (by kernel_rfl) (fun _ _ _ h => h) (Or.inl ⟨by rfl, ?_⟩) (by assumption) ?_
      rotate_left
      ·
       intro w hSw
       go_simp <;> with_reducible rfl
      simp only [Act.put, List.setIfInBounds_toArray, List.set_cons_zero, List.set_cons_succ]
      refine wpAnyH_ready (rs := [9]) (by kernel_rfl) (by simp) ?_
      refine AllReadyH.cons (o := { dst := none, op := Op.store 28 (Operand.tmp 9) (Operand.tmp 62), type := 0, pos := "outright.go:503", after := #[{ on := 8, ground := Ground.data }, { on := 6, ground := Ground.data }, { on := 4, ground := Ground.chain }, { on := 0, ground := Ground.phase }, { on := 1, ground := Ground.phase }, { on := 2, ground := Ground.phase }, { on := 3, ground := Ground.phase }, { on := 4, ground := Ground.phase }, { on := 5, ground := Ground.phase }, { on := 6, ground := Ground.phase }, { on := 7, ground := Ground.textOnly Departure.lateStores }, { on := 8, ground := Ground.phase }], guard := none }) rfl (fun K hK => ?_) AllReadyH.nil
      obtain ⟨z9, y9⟩ := one_cell hB9
      go_simp
      obtain ⟨s9, k9⟩ := set_one (v := .slice (some ⟨g, 0, none⟩) zs.length zs.length) hB9
      have hQl := hQ13.set hb0 hB9 (by simp) Hb5.out (.slice (some ⟨g, 0, none⟩) zs.length zs.length)
      refine hK.out _ _ ⟨hQl.s5, hQl.sb⟩ (fun hHl => ?_)
      clear hK K
      try simp only [Act.put, List.setIfInBounds_toArray, List.set_cons_zero, List.set_cons_succ]
      refine wpAnyH_take (i := 10) (oi := { dst := some 10, op := Op.assign (Operand.tmp 63), type := 24, pos := "outright.go:503", after := #[{ on := 7, ground := Ground.data }, { on := 9, ground := Ground.chain }, { on := 0, ground := Ground.phase }, { on := 1, ground := Ground.phase }, { on := 2, ground := Ground.phase }, { on := 3, ground := Ground.phase }, { on := 4, ground := Ground.phase }, { on := 5, ground := Ground.phase }, { on := 6, ground := Ground.phase }, { on := 7, ground := Ground.phase }, { on := 8, ground := Ground.phase }, { on := 9, ground := Ground.phase }], guard := none }) (v := ?_) rfl (by kernel_rfl) (by kernel_rfl) (by kernel_rfl) (fun _ _ _ h => h) (Or.inl ⟨by rfl, ?_⟩) (by assumption) ?_
      rotate_left
      ·
       intro w hSw
       go_simp <;> with_reducible rfl
      simp only [Act.put, List.setIfInBounds_toArray, List.set_cons_zero, List.set_cons_succ]
      refine wpAnyH_done (by kernel_rfl) (NoPanic.normal ?_) _
      have hFF : F12 W0 _ p B5 B9 g (takeAll listT (AD.fresh 2097152) zs).1 (takeAll listT (AD.fresh 2097152) zs).2 := hQl.fin (by simp) (by simp) Hb5.out (by rw [takeAll_length]; exact s9) (k9.blkF hg (fun e => by rw [e, hB9] at hg; simp at hg))
      have HFF := hide hFF
      clear hFF hQl s9 k9 hB9 hg hHl z9 y9
      generalize V13.setCell ⟨B9, 0, none⟩ (.slice (some ⟨g, 0, none⟩) zs.length zs.length) = WF at HFF ⊢
      clear hQ10 hH10 hQ11 hH11 hQ12 hH12 hQ13 hH13 ha1 ha2 hgs hst
      exact hrest.out q a1 c1 g B9 WF HFF
    case r =>
     intro q a1 c1 g B9 WF HFF
     obtain ⟨bk, e1, e2, e3, e4, e5⟩ := all_al zs (AD.fresh 2097152) [] Al.fresh (fresh_wellR _) HG.out (by simp; omega)
     rw [List.nil_append] at e2
     obtain ⟨d1, hd1⟩ : ∃ d1, (takeAll listT (AD.fresh 2097152) zs).2 = d1 := ⟨_, rfl⟩
     have HF : Hid (F12 W0 WF p B5 B9 g (bk.map fun x => (x.1 : Int)) d1) := hide (by rw [← e4, ← hd1]; exact HFF.out)
     rw [hd1] at e2 e3
     have KW := HF.out.rg.own.keeps
     have b9 : WF.heap[B9]? = some (.cells #[.slice (some ⟨g, 0, none⟩) zs.length zs.length] 28) := by
      have := HF.out.b9
      rw [List.length_map, e1] at this
      exact this
     have HAl := hide e2
     have HW1 := hide e3
     have HE5 := hide e5
     have HKW := hide KW
     have Hb9 := hide b9
     clear HFF e4 hd1 e2 e3 e5 c2 c3 c4 f4 c5 HR1 HK1 Hb5 HZ HCW HL hk
     obtain ⟨c2, -⟩ := one_cell (KW.blk Hb2.out)
     obtain ⟨c3, -⟩ := one_cell (KW.blk Hb3.out)
     obtain ⟨c5, -⟩ := one_cell HF.out.b5
     obtain ⟨c9, -⟩ := one_cell b9
     have hnil := eq_nil_func
     clear KW b9
     go_wp2_with fail
     refine (hnum _ _).mono ?_
     rintro e w3 ⟨rfl, rfl⟩
     go_wp2_with fail
     refine (blocks_call _ p).mono ?_
     rintro e W4 ⟨rfl, hW4⟩
     have k4 : Keeps w3 W4 (fun _ => False) := by rw [hW4]; exact (Keeps.refl _ _).alloc _
     have bs4 : W4.heap[w3.heap.size]? = some (.cells #[.pointer (some ⟨p, 0, none⟩)] 23) := by rw [hW4]; exact heap_alloc_new _ _
     have Hs4 : Hid (W4.heap.size = w3.heap.size + 1) := hide (by rw [hW4]; simp)
     clear hW4 c2 c3 c5 c9
     go_wp2_with fail
     clear hnil
     refine alloc2 (P := fun W => Code.wp _ _ _ _ W) fun U b11 b12 hsU kU => ?_
     have hsF := HKW.out.size
     have hs4 := Hs4.out
     have hgl := heap_lt HF.out.bg
     have hVU : V1 W0 U p B5 B9 g w3.heap.size W4.heap.size (W4.heap.size + 1) (fun _ => False) (bk.map fun x => (x.1 : Int)) 0 d1 := by
      have k2 := k4.trans kU (fun _ _ e => e)
      refine ⟨HF.out.rg.keep k2 (fun _ e => e.elim) (fun i x => ?_), k2.blk HF.out.b5, k2.blk HF.out.b9, k2.blk HF.out.bg, kU.blk bs4, b11, b12⟩
      rcases x with x | x | x | x | x | x | x
      ·
       exact ⟨Or.inl (Or.inl x), by have := (HF.out.rg.xs i (Or.inl x)).2; omega⟩
      ·
       exact ⟨Or.inl (Or.inr (Or.inl x)), by have := (HF.out.rg.xs i (Or.inr (Or.inl x))).2; omega⟩
      ·
       exact ⟨Or.inl (Or.inr (Or.inr x)), by have := (HF.out.rg.xs i (Or.inr (Or.inr x))).2; omega⟩
      ·
       exact ⟨Or.inr (by omega), by omega⟩
      ·
       exact ⟨Or.inr (by omega), by omega⟩
      ·
       exact ⟨Or.inr (by omega), by omega⟩
      ·
       exact x.elim
     have hg12 : W4.heap.size + 1 ≠ g := by omega
     have hbs : U.cell? ⟨w3.heap.size, 0, none⟩ = some (.pointer (some ⟨p, 0, none⟩)) := (one_cell hVU.bs).1
     have hLU : W0.heap.size ≤ U.heap.size := by omega
     have HVU := hide hVU
     have hlivs := HAl.out.lives
     generalize w3.heap.size = Bs at *
     generalize W4.heap.size = B11 at *
     clear b11 b12 kU k4 bs4 Hs4 hs4 hsF hgl HF Hb9 hVU
     have H0 : Hid (∀ r, V1 W0 ((U.alloc (.deferred (some []))).alloc (.loop r)) p B5 B9 g Bs B11 (B11 + 1) (fun k => k = U.heap.size ∨ k = U.heap.size + 1) (bk.map fun x => (x.1 : Int)) 0 d1) := hide (fun r => HVU.out.more (((Keeps.refl U _).alloc _).alloc _) (fun i y => by
      rcases y with y | y
      ·
       exact ⟨Or.inr (by omega), by simp; omega⟩
      ·
       exact ⟨Or.inr (by omega), by simp; omega⟩))
     obtain ⟨LU, hLUe⟩ : ∃ LU, LU = U.heap.size := ⟨_, rfl⟩
     refine rangeB (n := 8) (by omega) rfl HAl.out.fine (by rw [HAl.out.L]; omega) HVU.out.rg.own.arena hbs rfl
      (fun a x a' W => a' = { tmps := (((a.tmps.setIfInBounds 79 (.int .i64 (x.1 : Int))).setIfInBounds 80 (.int .i64 (x.2 : Int))).setIfInBounds 13 (.int .i64 (x.1 : Int))).setIfInBounds 14 (.int .i64 (x.2 : Int)), defers := [] })
      (fun _ _ _ _ _ h _ => h)
      (fun s W => ∃ d, Hid (V1 W0 W p B5 B9 g Bs B11 (B11 + 1) (fun k => k = LU ∨ k = LU + 1) (bk.map fun x => (x.1 : Int)) s d) ∧ Hid (Rd d bk (bk.length * 4096 + s * 8192) (bk.length + s) (fun j => s = 0 ∨ s < j)) ∧ s ≤ bk.length ∧ ¬ (1 ≤ stop ∧ stop ≤ (s : Int)))
      (fun c W => c = .exit 2 ∧ ∃ d s, Hid (V1 W0 W p B5 B9 g Bs B11 (B11 + 1) (fun k => k = LU ∨ k = LU + 1) (bk.map fun x => (x.1 : Int)) s d) ∧ Hid (Rd d bk (bk.length * 4096 + s * 8192) (bk.length + s) (fun _ => False)) ∧ s ≤ bk.length ∧ 1 ≤ s ∧ stop = (s : Int))
      ?hI ?hIp ?hXp ?h0
      (fun W => ∃ d s, Hid (V1 W0 W p B5 B9 g Bs B11 (B11 + 1) (fun k => k = LU ∨ k = LU + 1) (bk.map fun x => (x.1 : Int)) s d) ∧ Hid (Rd d bk (bk.length * 4096 + s * 8192) (bk.length + s) (fun _ => False)) ∧ s ≤ bk.length ∧ ((1 ≤ s ∧ stop = (s : Int)) ∨ (s = bk.length ∧ ¬ (1 ≤ stop ∧ stop ≤ (s : Int)))))
      ?tail ?hassign ?hbody ?hdone ?hstop
     case hI =>
      rintro s V V' ⟨d, h1, h2, h3, h4⟩ k
      exact ⟨d, hide (h1.out.stay k), h2, h3, h4⟩
     case hIp =>
      rintro s V r o ⟨d, h1, h2, h3, h4⟩ hr
      exact ⟨d, hide (h1.out.putLoop hr (by omega) o), h2, h3, h4⟩
     case hXp =>
      rintro c V r o ⟨hc, d, s, h1, h2, h3⟩ hr
      exact ⟨hc, d, s, hide (h1.out.putLoop hr (by omega) o), h2, h3⟩
     case h0 =>
      intro r
      subst hLUe
      refine ⟨d1, hide (H0.out r), hide ((Rd.start HAl.out HW1.out _).less (by omega) (by omega) (fun _ _ h => h)), Nat.zero_le _, by omega⟩
     case hdone =>
      rintro W ⟨d, h1, h2, h3, h4⟩
      rw [hlivs] at h1 h2 h4
      exact ⟨d, bk.length, h1, hide (h2.out.less (Nat.le_refl _) (Nat.le_refl _) (fun _ _ h => h.elim)), Nat.le_refl _, Or.inr ⟨rfl, h4⟩⟩
     case hstop =>
      rintro c W ⟨rfl, d, s, h1, h2, h3, h4, h5⟩
      exact ⟨⟨d, s, h1, h2, h3, Or.inl ⟨h4, h5⟩⟩, fun a' W' h => wpIn_exit h⟩
     case hassign =>
      rintro ⟨xo, xn⟩ s V K' - hK'
      have hK2 := hide hK'
      clear hK'
      gi_wp2_with fail
      refine hK2.out _ _ (Keeps.refl _ _) ?_
      simp only [List.setIfInBounds_toArray, List.set_cons_zero, List.set_cons_succ]
     case hbody =>
      rintro ⟨xo, xn⟩ s a' W ⟨d, HV1, HRd, hsl, hns⟩ rfl hx ⟨r, hl⟩
      rw [hlivs] at hx
      obtain ⟨hs, hxe⟩ := List.getElem?_eq_some_iff.1 hx
      have hsz : s < zs.length := by omega
      have hcls := HE5.out s hs hsz
      have hzr := HG.out zs[s] (List.getElem_mem hsz)
      obtain ⟨z, hzz⟩ : ∃ z : Nat, zs[s] = (z : Int) := ⟨zs[s].toNat, by omega⟩
      rw [hzz] at hzr hcls
      rw [hxe] at hcls
      have hcls2 : xn = classN z := by simpa using hcls
      subst hcls2
      have hz1 : 1 ≤ z := by omega
      have hz2 : z ≤ 4096 := by omega
      have hcl := fun W => classOf_any z W hz1 (by omega)
      generalize classN z = xn at *
      have kW := HV1.out.rg.own.keeps
      obtain ⟨bz, oz, rfl, hcz⟩ := HC.out s hsz
      have hcz2 := (HK0.out.trans kW (fun _ _ e => e)).cellK hcz
      rw [hzz] at hcz2
      have hgc : W.cell? ⟨g, s, none⟩ = some (.int .i64 (xo : Int)) := by
       have h1 := HV1.out.bg
       simp only [World.cell?, h1]
       simp [hs, hxe, cellI]
      obtain ⟨c5, -⟩ := one_cell HV1.out.b5
      obtain ⟨c9, -⟩ := one_cell HV1.out.b9
      obtain ⟨c12, f12⟩ := one_cell HV1.out.b12
      obtain ⟨c2, -⟩ := one_cell (kW.blk Hb2.out)
      obtain ⟨c3, -⟩ := one_cell (kW.blk Hb3.out)
      rw [List.length_map, e1] at c9
      have hsz' : (s : Int) < (zs.length : Int) := by omega
      have hszn : ¬ zs.length ≤ s := by omega
      have hfs1 : fitsI ((s : Int) + 1) := fitsI_mk (by omega) (by omega)
      have Hl := hide hl
      clear hcls hcz kW hl hx
      obtain ⟨hV5, k5⟩ := HV1.out.set hg12 (s + 1)
      rw [show ((s + 1 : Nat) : Int) = (s : Int) + 1 by omega] at hV5 k5
      have hp5 := set_parts HV1.out.b12 (.int .i64 ((s : Int) + 1))
      have K5 := hV5.rg.own.keeps
      obtain ⟨d5, -⟩ := one_cell hV5.b5
      obtain ⟨d9, -⟩ := one_cell hV5.b9
      obtain ⟨d12, -⟩ := one_cell hV5.b12
      rw [show ((s + 1 : Nat) : Int) = (s : Int) + 1 by omega] at d12
      obtain ⟨d3, -⟩ := one_cell (K5.blk Hb3.out)
      rw [List.length_map, e1] at d9
      have HV5 := hide hV5
      have Hk5 := hide k5
      have Hp5 := hide hp5
      have HsU := hide hsU
      have HLU := hide hLUe
      clear hV5 k5 hp5 K5 hsU hLUe
      simp only [List.setIfInBounds_toArray, List.set_cons_zero, List.set_cons_succ]
      gi_wp2_with fail
      refine ⟨trivial, (CallsIn.inRound _ (callsIn_wide.2 (hcl _))).mono ?_⟩
      rintro e w5 ⟨rfl, rfl⟩
      have Hzz := hide hzz
      have He1 := hide e1
      have Hliv := hide hlivs
      have Hs0 := hide hs0
      have Hxe := hide hxe
      have Hns := hide hns
      have HLk : Hid (∀ k, k = U.heap.size ∨ k = U.heap.size + 1 → (w5.setCell ⟨B11 + 1, 0, none⟩ (.int .i64 ((s : Int) + 1))).heap[k]? = w5.heap[k]?) := hide (fun k hk => Hk5.out.block k (HV1.out.rg.xs k (Or.inr (Or.inr (Or.inr (Or.inr (Or.inr (Or.inr (by have := HLU.out; omega)))))))).2 (by have := HsU.out; omega))
      clear hcl hxe hgc hcz2 hzr c5 c9 hzz hlivs hs0 hLU hb0 hz1 hz2 hlt' h64' hns
      by_cases hst : (s : Int) + 1 = stop
      ·
       subst hst
       gi_wp2_with fail
       refine ⟨HLk.out, rfl, d, s + 1, HV5, hide (HRd.out.less (by omega) (by omega) (fun _ _ h => h.elim)), by omega, by omega, by omega⟩
      ·
       skip
       have hstb : ((s : Int) + 1 == stop) = false := by simpa using hst
       by_cases hs00 : s = 0
       ·
        have hs0b : ((s : Int) + 1 = 1) = True := eq_true (by omega)
        have Hs00 := hide hs00
        obtain ⟨s7, hlv⟩ := HRd.out.lv hs (Or.inl hs00)
        rw [Hxe.out] at hlv
        have Hlv := hide hlv
        clear hlv hs00
        gi_wp2_with fail
        have hsz5 : (w5.setCell ⟨B11 + 1, 0, none⟩ (.int .i64 ((s : Int) + 1))).heap.size = w5.heap.size := by simp
        have hfr := rg_free HV5.out.rg HRd.out.fine (xo : Int) s7 Hlv.out
        rw [hsz5] at hfr
        refine ⟨trivial, (CallsIn.inRound _ (callsIn_wide.2 hfr)).mono ?_⟩
        clear hfr hsz5
        rintro e V0 ⟨rfl, d2, hG2, hR2, hs2, hp2⟩
        have HVx := hide (HV5.out.call hR2 hs2)
        have HRx : Hid (Rd d2 bk (bk.length * 4096 + s * 8192) (bk.length + s) (fun j => s < j)) := hide ((HRd.out.free hs (by rw [Hxe.out]; exact hG2) HAl.out.ne).less (Nat.le_refl _) (Nat.le_refl _) (fun j _ h => ⟨Or.inr h, by omega⟩))
        have HPx := hide (Hp5.out.trans hp2)
        have HLx : Hid (∀ k, k = U.heap.size ∨ k = U.heap.size + 1 → V0.heap[k]? = w5.heap[k]?) := hide (fun k hk => (hs2 k (Or.inr (Or.inr (Or.inr (Or.inr (Or.inr (Or.inr (by have := HLU.out; omega)))))))).trans (HLk.out k hk))
        clear hG2 hR2 hs2 hp2 d3 d5 d9 d12 c12 f12 c2 c3
        gi_wp2_with fail
        refine ⟨trivial, (CallsIn.inRound _ (callsIn_wide.2 (hnum _ _))).mono ?_⟩
        rintro e V ⟨rfl, rfl⟩
        clear HV5 Hk5 Hp5 HLk HRd HV1
        gi_wp2_with fail
        have HC28 : Hid (∀ w' : World, (∀ k, (XB B5 B9 g Bs B11 (B11 + 1) (fun k => k = LU ∨ k = LU + 1)) k → w'.heap[k]? = V.heap[k]?) → w'.cell? ⟨B11 + 1, 0, none⟩ = some (.int .i64 ((s : Int) + 1)) ∧ w'.cell? ⟨B9, 0, none⟩ = some (.slice (some ⟨g, 0, none⟩) zs.length zs.length) ∧ w'.cell? ⟨B5, 0, none⟩ = some (.pointer (some ⟨p, 0, none⟩)) ∧ w'.heap[g]? = some (.cells ((bk.map fun x => (x.1 : Int)).map cellI).toArray 3)) := hide (fun w' h => by
         have h12 := HVx.out.b12
         rw [show ((s + 1 : Nat) : Int) = (s : Int) + 1 by omega] at h12
         have h9 := HVx.out.b9
         rw [List.length_map, He1.out] at h9
         exact ⟨(one_cell ((h _ (Or.inr (Or.inr (Or.inr (Or.inr (Or.inr (Or.inl rfl))))))).trans h12)).1, (one_cell ((h _ (Or.inr (Or.inl rfl))).trans h9)).1, (one_cell ((h _ (Or.inl rfl)).trans HVx.out.b5)).1, (h _ (Or.inr (Or.inr (Or.inl rfl)))).trans HVx.out.bg⟩)
        have hSd : ∀ k, (XB B5 B9 g Bs B11 (B11 + 1) (fun k => k = LU ∨ k = LU + 1)) k → V.drew.heap[k]? = V.heap[k]? := fun _ _ => rfl
        have HVd := hide (HVx.out.stay ((Keeps.refl V (fun _ => False)).drew))
        have HPd : Hid (PartsStay w5 V.drew) := hide (HPx.out.trans (PartsStay.keeps ((Keeps.refl V (fun _ => False)).drew)))
        refine wpIn_region_only (fun w' => ∀ k, (XB B5 B9 g Bs B11 (B11 + 1) (fun k => k = LU ∨ k = LU + 1)) k → w'.heap[k]? = V.heap[k]?) (by kernel_rfl) (noDefers_spec (by decide +kernel)) hSd (fun hH => ?_)
        generalize V.drew = Vd at *
        refine wpAnyH_take (i := 0) (oi := { dst := some 117, op := Op.load 3 (Operand.tmp 12), type := 3, pos := "outright.go:523", after := #[], guard := none }) (v := ?_) rfl (by kernel_rfl) (by kernel_rfl) (by kernel_rfl) (fun _ _ _ h => h) (Or.inl ⟨by rfl, ?_⟩) (by assumption) ?_
        rotate_left
        ·
         intro w hSw
         obtain ⟨z12, z9, z5, -⟩ := HC28.out w hSw; go_simp <;> first | with_reducible rfl | omega
        simp only [Act.put, List.setIfInBounds_toArray, List.set_cons_zero, List.set_cons_succ]
        refine wpAnyH_take (i := 1) (oi := { dst := some 118, op := Op.load 28 (Operand.tmp 9), type := 28, pos := "outright.go:523", after := #[], guard := none }) (v := ?_) rfl (by kernel_rfl) (by kernel_rfl) (by kernel_rfl) (fun _ _ _ h => h) (Or.inl ⟨by rfl, ?_⟩) (by assumption) ?_
        rotate_left
        ·
         intro w hSw
         obtain ⟨z12, z9, z5, -⟩ := HC28.out w hSw; go_simp <;> first | with_reducible rfl | omega
        simp only [Act.put, List.setIfInBounds_toArray, List.set_cons_zero, List.set_cons_succ]
        refine wpAnyH_take (i := 2) (oi := { dst := some 119, op := Op.call { callee := Callee.builtin Builtin.len, args := #[Operand.tmp 118], argTypes := #[28] }, type := 3, pos := "outright.go:523", after := #[{ on := 1, ground := Ground.data }], guard := none }) (v := ?_) rfl (by kernel_rfl) (by kernel_rfl) (by kernel_rfl) (fun _ _ _ h => h) (Or.inl ⟨by rfl, ?_⟩) (by assumption) ?_
        rotate_left
        ·
         intro w hSw
         go_simp <;> first | with_reducible rfl | omega
        simp only [Act.put, List.setIfInBounds_toArray, List.set_cons_zero, List.set_cons_succ]
        by_cases hl1 : s + 1 < zs.length
        ·
         have hl1' : (s : Int) + 1 < (zs.length : Int) := by omega
         refine wpAnyH_take (i := 3) (oi := { dst := some 120, op := Op.binOp BinOp.lss 3 (Operand.tmp 117) (Operand.tmp 119) 3, type := 4, pos := "outright.go:523", after := #[{ on := 0, ground := Ground.data }, { on := 2, ground := Ground.data }], guard := none }) (v := Value.bool true) rfl (by kernel_rfl) (by kernel_rfl) (by kernel_rfl) (fun _ _ _ h => h) (Or.inl ⟨by rfl, ?_⟩) (by assumption) ?_
         ·
          intro w hSw
          go_simp <;> first | with_reducible rfl | omega
         simp only [Act.put, List.setIfInBounds_toArray, List.set_cons_zero, List.set_cons_succ]
         refine wpAnyH_take (i := 4) (oi := { dst := some 121, op := Op.move (Operand.tmp 120), type := 4, pos := "outright.go:523", after := #[{ on := 3, ground := Ground.data }], guard := none }) (v := ?_) rfl (by kernel_rfl) (by kernel_rfl) (by kernel_rfl) (fun _ _ _ h => h) (Or.inl ⟨by rfl, ?_⟩) (by assumption) ?_
         rotate_left
         ·
          intro w hSw
          go_simp <;> first | with_reducible rfl | omega
         simp only [Act.put, List.setIfInBounds_toArray, List.set_cons_zero, List.set_cons_succ]
         refine wpAnyH_take (i := 5) (oi := { dst := some 122, op := Op.load 23 (Operand.tmp 5), type := 23, pos := "outright.go:523", after := #[{ on := 4, ground := Ground.guard }], guard := some (4, true) }) (v := ?_) rfl (by kernel_rfl) (by kernel_rfl) (by kernel_rfl) (fun _ _ _ h => h) (Or.inl ⟨by rfl, ?_⟩) (by assumption) ?_
         rotate_left
         ·
          intro w hSw
          obtain ⟨z12, z9, z5, -⟩ := HC28.out w hSw; go_simp <;> first | with_reducible rfl | omega
         simp only [Act.put, List.setIfInBounds_toArray, List.set_cons_zero, List.set_cons_succ]
         refine wpAnyH_take (i := 6) (oi := { dst := some 123, op := Op.load 28 (Operand.tmp 9), type := 28, pos := "outright.go:523", after := #[{ on := 4, ground := Ground.guard }], guard := some (4, true) }) (v := ?_) rfl (by kernel_rfl) (by kernel_rfl) (by kernel_rfl) (fun _ _ _ h => h) (Or.inl ⟨by rfl, ?_⟩) (by assumption) ?_
         rotate_left
         ·
          intro w hSw
          obtain ⟨z12, z9, z5, -⟩ := HC28.out w hSw; go_simp <;> first | with_reducible rfl | omega
         simp only [Act.put, List.setIfInBounds_toArray, List.set_cons_zero, List.set_cons_succ]
         refine wpAnyH_take (i := 7) (oi := { dst := some 124, op := Op.load 3 (Operand.tmp 12), type := 3, pos := "outright.go:523", after := #[{ on := 4, ground := Ground.guard }], guard := some (4, true) }) (v := ?_) rfl (by kernel_rfl) (by kernel_rfl) (by kernel_rfl) (fun _ _ _ h => h) (Or.inl ⟨by rfl, ?_⟩) (by assumption) ?_
         rotate_left
         ·
          intro w hSw
          obtain ⟨z12, z9, z5, -⟩ := HC28.out w hSw; go_simp <;> first | with_reducible rfl | omega
         simp only [Act.put, List.setIfInBounds_toArray, List.set_cons_zero, List.set_cons_succ]
         have hl1b : s + 1 < bk.length := by have := He1.out; omega
         refine wpAnyH_take (i := 8) (oi := { dst := some 125, op := Op.indexAddr 28 (Operand.tmp 123) (Operand.tmp 124), type := 0, pos := "outright.go:523", after := #[{ on := 6, ground := Ground.data }, { on := 7, ground := Ground.data }, { on := 4, ground := Ground.guard }], guard := some (4, true) }) (v := Value.pointer (some ⟨g, s + 1, none⟩)) rfl (by kernel_rfl) (by kernel_rfl) (by kernel_rfl) (fun _ _ _ h => h) (Or.inl ⟨by rfl, ?_⟩) (by assumption) ?_
         ·
          intro w hSw
          have hix : ((s : Int) + 1).toNat = s + 1 := (by omega); go_simp <;> first | with_reducible rfl | omega
         simp only [Act.put, List.setIfInBounds_toArray, List.set_cons_zero, List.set_cons_succ]
         have HG28 : Hid (∀ w' : World, (∀ k, (XB B5 B9 g Bs B11 (B11 + 1) (fun k => k = LU ∨ k = LU + 1)) k → w'.heap[k]? = V.heap[k]?) → w'.cell? ⟨g, s + 1, none⟩ = some (.int .i64 (bk[s + 1].1 : Int))) := hide (fun w' h => by
          have h1 := (HC28.out w' h).2.2.2
          simp only [World.cell?, h1]
          simp [hl1b, cellI])
         refine wpAnyH_take (i := 9) (oi := { dst := some 126, op := Op.load 3 (Operand.tmp 125), type := 3, pos := "outright.go:523", after := #[{ on := 8, ground := Ground.data }, { on := 4, ground := Ground.guard }], guard := some (4, true) }) (v := ?_) rfl (by kernel_rfl) (by kernel_rfl) (by kernel_rfl) (fun _ _ _ h => h) (Or.inl ⟨by rfl, ?_⟩) (by assumption) ?_
         rotate_left
         ·
          intro w hSw
          have zg := HG28.out w hSw; go_simp <;> first | with_reducible rfl | omega
         simp only [Act.put, List.setIfInBounds_toArray, List.set_cons_zero, List.set_cons_succ]
         clear HG28
         have Hl1 := hide hl1b
         obtain ⟨s8, hlv⟩ := HRx.out.lv hl1b (show s < s + 1 by omega)
         refine wpAnyH_ready (rs := [10]) (by kernel_rfl) (by simp) ?_
         refine AllReadyH.cons (o := { dst := some 127, op := Op.buildSlice 28 1 #[(0, Operand.tmp 126)], type := 28, pos := "outright.go:523", after := #[{ on := 9, ground := Ground.data }, { on := 4, ground := Ground.guard }], guard := some (4, true) }) rfl (fun K hK => ?_) AllReadyH.nil
         go_simp
         refine hK.out _ _ (fun k x => (((Keeps.refl Vd (fun _ => False)).alloc _).block k (HVd.out.rg.xs k x).2 id).trans (hSd k x)) (fun hH1 => ?_)
         clear hK K
         try simp only [Act.put, List.setIfInBounds_toArray, List.set_cons_zero, List.set_cons_succ]
         refine wpAnyH_ready (rs := [11]) (by kernel_rfl) (by simp) ?_
         refine AllReadyH.cons (o := { dst := some 128, op := Op.call { callee := Callee.value (Operand.func 16), args := #[Operand.tmp 122, Operand.tmp 127], argTypes := #[23, 28] }, type := 24, pos := "outright.go:523", after := #[{ on := 5, ground := Ground.data }, { on := 10, ground := Ground.data }, { on := 4, ground := Ground.chain }, { on := 4, ground := Ground.guard }], guard := some (4, true) }) rfl (fun K hK => ?_) AllReadyH.nil
         go_simp
         refine (rg_free HVd.out.rg HRx.out.fine (bk[s + 1].1 : Int) s8 hlv).mono ?_
         rintro r V2 ⟨rfl, d3, hG3, hR3, hs3, hp3⟩
         refine hK.out _ _ (fun k x => (hs3 k x).trans (hSd k x)) (fun hH2 => ?_)
         clear hK K
         try simp only [Act.put, List.setIfInBounds_toArray, List.set_cons_zero, List.set_cons_succ]
         refine wpAnyH_ready (rs := [12]) (by kernel_rfl) (by simp) ?_
         refine AllReadyH.cons (o := { dst := some 129, op := Op.call { callee := Callee.value (Operand.func 9), args := #[Operand.tmp 128], argTypes := #[24] }, type := 3, pos := "outright.go:523", after := #[{ on := 11, ground := Ground.data }, { on := 11, ground := Ground.chain }, { on := 4, ground := Ground.guard }], guard := some (4, true) }) rfl (fun K hK => ?_) AllReadyH.nil
         go_simp
         refine (hnum _ _).mono ?_
         rintro r V3 ⟨rfl, rfl⟩
         refine hK.out _ _ (fun k x => (hs3 k x).trans (hSd k x)) (fun hH3 => ?_)
         clear hK K
         try simp only [Act.put, List.setIfInBounds_toArray, List.set_cons_zero, List.set_cons_succ]
         refine wpAnyH_take (i := 13) (oi := { dst := some 130, op := Op.binOp BinOp.neq 3 (Operand.tmp 129) (Operand.const (Value.int IntKind.i64 0)) 3, type := 4, pos := "outright.go:523", after := #[{ on := 12, ground := Ground.data }, { on := 4, ground := Ground.guard }], guard := some (4, true) }) (v := ?_) rfl (by kernel_rfl) (by kernel_rfl) (by kernel_rfl) (fun _ _ _ h => h) (Or.inl ⟨by rfl, ?_⟩) (by assumption) ?_
         rotate_left
         ·
          intro w hSw
          go_simp <;> first | with_reducible rfl | omega
         simp only [Act.put, List.setIfInBounds_toArray, List.set_cons_zero, List.set_cons_succ]
         refine wpAnyH_take (i := 14) (oi := { dst := some 131, op := Op.pick (Operand.tmp 121) (Operand.tmp 130) (Operand.const (Value.bool false)), type := 4, pos := "outright.go:523", after := #[{ on := 4, ground := Ground.data }, { on := 13, ground := Ground.data }], guard := none }) (v := ?_) rfl (by kernel_rfl) (by kernel_rfl) (by kernel_rfl) (fun _ _ _ h => h) (Or.inl ⟨by rfl, ?_⟩) (by assumption) ?_
         rotate_left
         ·
          intro w hSw
          go_simp <;> first | with_reducible rfl | omega
         simp only [Act.put, List.setIfInBounds_toArray, List.set_cons_zero, List.set_cons_succ]
         refine wpAnyH_done (by kernel_rfl) (Only.normal ?_) _
         have hV2 := HVd.out.call hR3 hs3
         have hR2 : Rd d3 bk (bk.length * 4096 + s * 8192) (bk.length + s) (fun j => s + 1 < j) := (HRx.out.free hl1b hG3 HAl.out.ne).less (Nat.le_refl _) (Nat.le_refl _) (fun j _ h => ⟨show s < j by omega, by omega⟩)
         have hP2 := HPd.out.trans hp3
         have hL2 : ∀ k, k = U.heap.size ∨ k = U.heap.size + 1 → V3.heap[k]? = w5.heap[k]? := fun k hk => (hs3 k (Or.inr (Or.inr (Or.inr (Or.inr (Or.inr (Or.inr (by have := HLU.out; omega)))))))).trans ((hSd k (Or.inr (Or.inr (Or.inr (Or.inr (Or.inr (Or.inr (by have := HLU.out; omega)))))))).trans (HLx.out k hk))
         clear hG3 hR3 hs3 hp3 hlv hH hH1 hH2 hH3 hSd HC28 HVd HPd HVx HRx HPx HLx hl1 hl1'
         obtain ⟨e5, -⟩ := one_cell hV2.b5
         have Hroom : Hid (d3.used + classN 8192 ≤ d3.limit) := hide (by have h1 := hR2.use; have h2 := hR2.lim; have h3 : classN 8192 = 8192 := (by decide); omega)
         have HV2 := hide hV2
         have HR2 := hide hR2
         have HP2 := hide hP2
         have HL2 := hide hL2
         clear hV2 hR2 hP2 hL2
         gi_wp2_with fail
         refine ⟨trivial, (CallsIn.inRound _ (callsIn_wide.2 (rg_alloc HV2.out.rg HR2.out.fine HR2.out.well 8192 (by omega) (by omega) Hroom.out))).mono ?_⟩
         rintro e W4 ⟨o4, d4, rfl, hT4, hR4, hs4, hp4⟩
         have HV4 := hide (HV2.out.call hR4 hs4)
         have HR4 := hide (HR2.out.take hT4)
         have HP4 := hide (HP2.out.trans hp4)
         have HL4 : Hid (∀ k, k = U.heap.size ∨ k = U.heap.size + 1 → W4.heap[k]? = w5.heap[k]?) := hide (fun k hk => (hs4 k (Or.inr (Or.inr (Or.inr (Or.inr (Or.inr (Or.inr (by have := HLU.out; omega)))))))).trans (HL2.out k hk))
         clear hT4 hR4 hs4 hp4 e5 HV2 HR2 HP2 HL2 Hroom
         gi_wp2_with fail
         refine ⟨trivial, (CallsIn.inRound _ (callsIn_wide.2 (hnum _ _))).mono ?_⟩
         rintro e W6 ⟨rfl, rfl⟩
         gi_wp2_with fail
         refine ⟨HL4.out, HP4.out, d4, HV4, hide (HR4.out.less (by have h3 : classN 8192 = 8192 := (by decide); omega) (by omega) (fun j hj h => ?_)), by omega, by have := Hns.out; omega⟩
         exact h.resolve_left (by omega)
        ·
         have hl1' : ¬ (s : Int) + 1 < (zs.length : Int) := by omega
         refine wpAnyH_take (i := 3) (oi := { dst := some 120, op := Op.binOp BinOp.lss 3 (Operand.tmp 117) (Operand.tmp 119) 3, type := 4, pos := "outright.go:523", after := #[{ on := 0, ground := Ground.data }, { on := 2, ground := Ground.data }], guard := none }) (v := Value.bool false) rfl (by kernel_rfl) (by kernel_rfl) (by kernel_rfl) (fun _ _ _ h => h) (Or.inl ⟨by rfl, ?_⟩) (by assumption) ?_
         ·
          intro w hSw
          go_simp <;> first | with_reducible rfl | omega
         simp only [Act.put, List.setIfInBounds_toArray, List.set_cons_zero, List.set_cons_succ]
         refine wpAnyH_take (i := 4) (oi := { dst := some 121, op := Op.move (Operand.tmp 120), type := 4, pos := "outright.go:523", after := #[{ on := 3, ground := Ground.data }], guard := none }) (v := ?_) rfl (by kernel_rfl) (by kernel_rfl) (by kernel_rfl) (fun _ _ _ h => h) (Or.inl ⟨by rfl, ?_⟩) (by assumption) ?_
         rotate_left
         ·
          intro w hSw
          go_simp <;> first | with_reducible rfl | omega
         simp only [Act.put, List.setIfInBounds_toArray, List.set_cons_zero, List.set_cons_succ]
         refine wpAnyH_take (i := 5) (oi := { dst := some 122, op := Op.load 23 (Operand.tmp 5), type := 23, pos := "outright.go:523", after := #[{ on := 4, ground := Ground.guard }], guard := some (4, true) }) (v := undef) rfl (by kernel_rfl) (by kernel_rfl) (by kernel_rfl) (fun _ _ _ h => h) (Or.inr ⟨by rfl, rfl⟩) (by assumption) ?_
         simp only [Act.put, List.setIfInBounds_toArray, List.set_cons_zero, List.set_cons_succ]
         refine wpAnyH_take (i := 6) (oi := { dst := some 123, op := Op.load 28 (Operand.tmp 9), type := 28, pos := "outright.go:523", after := #[{ on := 4, ground := Ground.guard }], guard := some (4, true) }) (v := undef) rfl (by kernel_rfl) (by kernel_rfl) (by kernel_rfl) (fun _ _ _ h => h) (Or.inr ⟨by rfl, rfl⟩) (by assumption) ?_
         simp only [Act.put, List.setIfInBounds_toArray, List.set_cons_zero, List.set_cons_succ]
         refine wpAnyH_take (i := 7) (oi := { dst := some 124, op := Op.load 3 (Operand.tmp 12), type := 3, pos := "outright.go:523", after := #[{ on := 4, ground := Ground.guard }], guard := some (4, true) }) (v := undef) rfl (by kernel_rfl) (by kernel_rfl) (by kernel_rfl) (fun _ _ _ h => h) (Or.inr ⟨by rfl, rfl⟩) (by assumption) ?_
         simp only [Act.put, List.setIfInBounds_toArray, List.set_cons_zero, List.set_cons_succ]
         refine wpAnyH_take (i := 8) (oi := { dst := some 125, op := Op.indexAddr 28 (Operand.tmp 123) (Operand.tmp 124), type := 0, pos := "outright.go:523", after := #[{ on := 6, ground := Ground.data }, { on := 7, ground := Ground.data }, { on := 4, ground := Ground.guard }], guard := some (4, true) }) (v := undef) rfl (by kernel_rfl) (by kernel_rfl) (by kernel_rfl) (fun _ _ _ h => h) (Or.inr ⟨by rfl, rfl⟩) (by assumption) ?_
         simp only [Act.put, List.setIfInBounds_toArray, List.set_cons_zero, List.set_cons_succ]
         refine wpAnyH_take (i := 9) (oi := { dst := some 126, op := Op.load 3 (Operand.tmp 125), type := 3, pos := "outright.go:523", after := #[{ on := 8, ground := Ground.data }, { on := 4, ground := Ground.guard }], guard := some (4, true) }) (v := undef) rfl (by kernel_rfl) (by kernel_rfl) (by kernel_rfl) (fun _ _ _ h => h) (Or.inr ⟨by rfl, rfl⟩) (by assumption) ?_
         simp only [Act.put, List.setIfInBounds_toArray, List.set_cons_zero, List.set_cons_succ]
         refine wpAnyH_take (i := 10) (oi := { dst := some 127, op := Op.buildSlice 28 1 #[(0, Operand.tmp 126)], type := 28, pos := "outright.go:523", after := #[{ on := 9, ground := Ground.data }, { on := 4, ground := Ground.guard }], guard := some (4, true) }) (v := undef) rfl (by kernel_rfl) (by kernel_rfl) (by kernel_rfl) (fun _ _ _ h => h) (Or.inr ⟨by rfl, rfl⟩) (by assumption) ?_
         simp only [Act.put, List.setIfInBounds_toArray, List.set_cons_zero, List.set_cons_succ]
         refine wpAnyH_take (i := 11) (oi := { dst := some 128, op := Op.call { callee := Callee.value (Operand.func 16), args := #[Operand.tmp 122, Operand.tmp 127], argTypes := #[23, 28] }, type := 24, pos := "outright.go:523", after := #[{ on := 5, ground := Ground.data }, { on := 10, ground := Ground.data }, { on := 4, ground := Ground.chain }, { on := 4, ground := Ground.guard }], guard := some (4, true) }) (v := undef) rfl (by kernel_rfl) (by kernel_rfl) (by kernel_rfl) (fun _ _ _ h => h) (Or.inr ⟨by rfl, rfl⟩) (by assumption) ?_
         simp only [Act.put, List.setIfInBounds_toArray, List.set_cons_zero, List.set_cons_succ]
         refine wpAnyH_take (i := 12) (oi := { dst := some 129, op := Op.call { callee := Callee.value (Operand.func 9), args := #[Operand.tmp 128], argTypes := #[24] }, type := 3, pos := "outright.go:523", after := #[{ on := 11, ground := Ground.data }, { on := 11, ground := Ground.chain }, { on := 4, ground := Ground.guard }], guard := some (4, true) }) (v := undef) rfl (by kernel_rfl) (by kernel_rfl) (by kernel_rfl) (fun _ _ _ h => h) (Or.inr ⟨by rfl, rfl⟩) (by assumption) ?_
         simp only [Act.put, List.setIfInBounds_toArray, List.set_cons_zero, List.set_cons_succ]
         refine wpAnyH_take (i := 13) (oi := { dst := some 130, op := Op.binOp BinOp.neq 3 (Operand.tmp 129) (Operand.const (Value.int IntKind.i64 0)) 3, type := 4, pos := "outright.go:523", after := #[{ on := 12, ground := Ground.data }, { on := 4, ground := Ground.guard }], guard := some (4, true) }) (v := undef) rfl (by kernel_rfl) (by kernel_rfl) (by kernel_rfl) (fun _ _ _ h => h) (Or.inr ⟨by rfl, rfl⟩) (by assumption) ?_
         simp only [Act.put, List.setIfInBounds_toArray, List.set_cons_zero, List.set_cons_succ]
         refine wpAnyH_take (i := 14) (oi := { dst := some 131, op := Op.pick (Operand.tmp 121) (Operand.tmp 130) (Operand.const (Value.bool false)), type := 4, pos := "outright.go:523", after := #[{ on := 4, ground := Ground.data }, { on := 13, ground := Ground.data }], guard := none }) (v := ?_) rfl (by kernel_rfl) (by kernel_rfl) (by kernel_rfl) (fun _ _ _ h => h) (Or.inl ⟨by rfl, ?_⟩) (by assumption) ?_
         rotate_left
         ·
          intro w hSw
          go_simp <;> first | with_reducible rfl | omega
         simp only [Act.put, List.setIfInBounds_toArray, List.set_cons_zero, List.set_cons_succ]
         refine wpAnyH_done (by kernel_rfl) (Only.normal ?_) _
         have hV2 := HVd.out
         have hR2 := HRx.out
         have hP2 := HPd.out
         have hL2 : ∀ k, k = U.heap.size ∨ k = U.heap.size + 1 → Vd.heap[k]? = w5.heap[k]? := fun k hk => (hSd k (Or.inr (Or.inr (Or.inr (Or.inr (Or.inr (Or.inr (by have := HLU.out; omega)))))))).trans (HLx.out k hk)
         have Hl1 := hide hl1
         clear hH hSd HC28 HVd HPd HVx HRx HPx HLx hl1 hl1'
         obtain ⟨e5, -⟩ := one_cell hV2.b5
         have Hroom : Hid (d2.used + classN 8192 ≤ d2.limit) := hide (by have h1 := hR2.use; have h2 := hR2.lim; have h3 : classN 8192 = 8192 := (by decide); omega)
         have HV2 := hide hV2
         have HR2 := hide hR2
         have HP2 := hide hP2
         have HL2 := hide hL2
         clear hV2 hR2 hP2 hL2
         gi_wp2_with fail
         refine ⟨trivial, (CallsIn.inRound _ (callsIn_wide.2 (rg_alloc HV2.out.rg HR2.out.fine HR2.out.well 8192 (by omega) (by omega) Hroom.out))).mono ?_⟩
         rintro e W4 ⟨o4, d4, rfl, hT4, hR4, hs4, hp4⟩
         have HV4 := hide (HV2.out.call hR4 hs4)
         have HR4 := hide (HR2.out.take hT4)
         have HP4 := hide (HP2.out.trans hp4)
         have HL4 : Hid (∀ k, k = U.heap.size ∨ k = U.heap.size + 1 → W4.heap[k]? = w5.heap[k]?) := hide (fun k hk => (hs4 k (Or.inr (Or.inr (Or.inr (Or.inr (Or.inr (Or.inr (by have := HLU.out; omega)))))))).trans (HL2.out k hk))
         clear hT4 hR4 hs4 hp4 e5 HV2 HR2 HP2 HL2 Hroom
         gi_wp2_with fail
         refine ⟨trivial, (CallsIn.inRound _ (callsIn_wide.2 (hnum _ _))).mono ?_⟩
         rintro e W6 ⟨rfl, rfl⟩
         gi_wp2_with fail
         refine ⟨HL4.out, HP4.out, d4, HV4, hide (HR4.out.less (by have h3 : classN 8192 = 8192 := (by decide); omega) (by omega) (fun j hj h => ?_)), by omega, by have := Hns.out; omega⟩
         have := Hl1.out; have := He1.out; omega
       ·
        have hs0n : ¬ ((s : Int) + 1 = 1) := by omega
        gi_wp2_with fail
        refine ⟨trivial, ?_⟩
        gi_wp2_with fail
        refine ⟨trivial, ?_⟩
        gi_wp2_with fail
        have HRx : Hid (Rd d bk (bk.length * 4096 + s * 8192) (bk.length + s) (fun j => s < j)) := hide (HRd.out.less (Nat.le_refl _) (Nat.le_refl _) (fun j _ h => Or.inr h))
        have HVx := HV5
        have HPx := Hp5
        have HLx := HLk
        clear d3 d5 d9 d12 c12 f12 c2 c3 HV5 Hk5 Hp5 HLk HRd HV1
        obtain ⟨d2, hd2⟩ : ∃ d2, d = d2 := ⟨_, rfl⟩
        subst hd2
        generalize w5.setCell ⟨B11 + 1, 0, none⟩ (.int .i64 ((s : Int) + 1)) = V at *
        have HC28 : Hid (∀ w' : World, (∀ k, (XB B5 B9 g Bs B11 (B11 + 1) (fun k => k = LU ∨ k = LU + 1)) k → w'.heap[k]? = V.heap[k]?) → w'.cell? ⟨B11 + 1, 0, none⟩ = some (.int .i64 ((s : Int) + 1)) ∧ w'.cell? ⟨B9, 0, none⟩ = some (.slice (some ⟨g, 0, none⟩) zs.length zs.length) ∧ w'.cell? ⟨B5, 0, none⟩ = some (.pointer (some ⟨p, 0, none⟩)) ∧ w'.heap[g]? = some (.cells ((bk.map fun x => (x.1 : Int)).map cellI).toArray 3)) := hide (fun w' h => by
         have h12 := HVx.out.b12
         rw [show ((s + 1 : Nat) : Int) = (s : Int) + 1 by omega] at h12
         have h9 := HVx.out.b9
         rw [List.length_map, He1.out] at h9
         exact ⟨(one_cell ((h _ (Or.inr (Or.inr (Or.inr (Or.inr (Or.inr (Or.inl rfl))))))).trans h12)).1, (one_cell ((h _ (Or.inr (Or.inl rfl))).trans h9)).1, (one_cell ((h _ (Or.inl rfl)).trans HVx.out.b5)).1, (h _ (Or.inr (Or.inr (Or.inl rfl)))).trans HVx.out.bg⟩)
        have hSd : ∀ k, (XB B5 B9 g Bs B11 (B11 + 1) (fun k => k = LU ∨ k = LU + 1)) k → V.drew.heap[k]? = V.heap[k]? := fun _ _ => rfl
        have HVd := hide (HVx.out.stay ((Keeps.refl V (fun _ => False)).drew))
        have HPd : Hid (PartsStay w5 V.drew) := hide (HPx.out.trans (PartsStay.keeps ((Keeps.refl V (fun _ => False)).drew)))
        refine wpIn_region_only (fun w' => ∀ k, (XB B5 B9 g Bs B11 (B11 + 1) (fun k => k = LU ∨ k = LU + 1)) k → w'.heap[k]? = V.heap[k]?) (by kernel_rfl) (noDefers_spec (by decide +kernel)) hSd (fun hH => ?_)
        generalize V.drew = Vd at *
        refine wpAnyH_take (i := 0) (oi := { dst := some 117, op := Op.load 3 (Operand.tmp 12), type := 3, pos := "outright.go:523", after := #[], guard := none }) (v := ?_) rfl (by kernel_rfl) (by kernel_rfl) (by kernel_rfl) (fun _ _ _ h => h) (Or.inl ⟨by rfl, ?_⟩) (by assumption) ?_
        rotate_left
        ·
         intro w hSw
         obtain ⟨z12, z9, z5, -⟩ := HC28.out w hSw; go_simp <;> first | with_reducible rfl | omega
        simp only [Act.put, List.setIfInBounds_toArray, List.set_cons_zero, List.set_cons_succ]
        refine wpAnyH_take (i := 1) (oi := { dst := some 118, op := Op.load 28 (Operand.tmp 9), type := 28, pos := "outright.go:523", after := #[], guard := none }) (v := ?_) rfl (by kernel_rfl) (by kernel_rfl) (by kernel_rfl) (fun _ _ _ h => h) (Or.inl ⟨by rfl, ?_⟩) (by assumption) ?_
        rotate_left
        ·
         intro w hSw
         obtain ⟨z12, z9, z5, -⟩ := HC28.out w hSw; go_simp <;> first | with_reducible rfl | omega
        simp only [Act.put, List.setIfInBounds_toArray, List.set_cons_zero, List.set_cons_succ]
        refine wpAnyH_take (i := 2) (oi := { dst := some 119, op := Op.call { callee := Callee.builtin Builtin.len, args := #[Operand.tmp 118], argTypes := #[28] }, type := 3, pos := "outright.go:523", after := #[{ on := 1, ground := Ground.data }], guard := none }) (v := ?_) rfl (by kernel_rfl) (by kernel_rfl) (by kernel_rfl) (fun _ _ _ h => h) (Or.inl ⟨by rfl, ?_⟩) (by assumption) ?_
        rotate_left
        ·
         intro w hSw
         go_simp <;> first | with_reducible rfl | omega
        simp only [Act.put, List.setIfInBounds_toArray, List.set_cons_zero, List.set_cons_succ]
        by_cases hl1 : s + 1 < zs.length
        ·
         have hl1' : (s : Int) + 1 < (zs.length : Int) := by omega
         refine wpAnyH_take (i := 3) (oi := { dst := some 120, op := Op.binOp BinOp.lss 3 (Operand.tmp 117) (Operand.tmp 119) 3, type := 4, pos := "outright.go:523", after := #[{ on := 0, ground := Ground.data }, { on := 2, ground := Ground.data }], guard := none }) (v := Value.bool true) rfl (by kernel_rfl) (by kernel_rfl) (by kernel_rfl) (fun _ _ _ h => h) (Or.inl ⟨by rfl, ?_⟩) (by assumption) ?_
         ·
          intro w hSw
          go_simp <;> first | with_reducible rfl | omega
         simp only [Act.put, List.setIfInBounds_toArray, List.set_cons_zero, List.set_cons_succ]
         refine wpAnyH_take (i := 4) (oi := { dst := some 121, op := Op.move (Operand.tmp 120), type := 4, pos := "outright.go:523", after := #[{ on := 3, ground := Ground.data }], guard := none }) (v := ?_) rfl (by kernel_rfl) (by kernel_rfl) (by kernel_rfl) (fun _ _ _ h => h) (Or.inl ⟨by rfl, ?_⟩) (by assumption) ?_
         rotate_left
         ·
          intro w hSw
          go_simp <;> first | with_reducible rfl | omega
         simp only [Act.put, List.setIfInBounds_toArray, List.set_cons_zero, List.set_cons_succ]
         refine wpAnyH_take (i := 5) (oi := { dst := some 122, op := Op.load 23 (Operand.tmp 5), type := 23, pos := "outright.go:523", after := #[{ on := 4, ground := Ground.guard }], guard := some (4, true) }) (v := ?_) rfl (by kernel_rfl) (by kernel_rfl) (by kernel_rfl) (fun _ _ _ h => h) (Or.inl ⟨by rfl, ?_⟩) (by assumption) ?_
         rotate_left
         ·
          intro w hSw
          obtain ⟨z12, z9, z5, -⟩ := HC28.out w hSw; go_simp <;> first | with_reducible rfl | omega
         simp only [Act.put, List.setIfInBounds_toArray, List.set_cons_zero, List.set_cons_succ]
         refine wpAnyH_take (i := 6) (oi := { dst := some 123, op := Op.load 28 (Operand.tmp 9), type := 28, pos := "outright.go:523", after := #[{ on := 4, ground := Ground.guard }], guard := some (4, true) }) (v := ?_) rfl (by kernel_rfl) (by kernel_rfl) (by kernel_rfl) (fun _ _ _ h => h) (Or.inl ⟨by rfl, ?_⟩) (by assumption) ?_
         rotate_left
         ·
          intro w hSw
          obtain ⟨z12, z9, z5, -⟩ := HC28.out w hSw; go_simp <;> first | with_reducible rfl | omega
         simp only [Act.put, List.setIfInBounds_toArray, List.set_cons_zero, List.set_cons_succ]
         refine wpAnyH_take (i := 7) (oi := { dst := some 124, op := Op.load 3 (Operand.tmp 12), type := 3, pos := "outright.go:523", after := #[{ on := 4, ground := Ground.guard }], guard := some (4, true) }) (v := ?_) rfl (by kernel_rfl) (by kernel_rfl) (by kernel_rfl) (fun _ _ _ h => h) (Or.inl ⟨by rfl, ?_⟩) (by assumption) ?_
         rotate_left
         ·
          intro w hSw
          obtain ⟨z12, z9, z5, -⟩ := HC28.out w hSw; go_simp <;> first | with_reducible rfl | omega
         simp only [Act.put, List.setIfInBounds_toArray, List.set_cons_zero, List.set_cons_succ]
         have hl1b : s + 1 < bk.length := by have := He1.out; omega
         refine wpAnyH_take (i := 8) (oi := { dst := some 125, op := Op.indexAddr 28 (Operand.tmp 123) (Operand.tmp 124), type := 0, pos := "outright.go:523", after := #[{ on := 6, ground := Ground.data }, { on := 7, ground := Ground.data }, { on := 4, ground := Ground.guard }], guard := some (4, true) }) (v := Value.pointer (some ⟨g, s + 1, none⟩)) rfl (by kernel_rfl) (by kernel_rfl) (by kernel_rfl) (fun _ _ _ h => h) (Or.inl ⟨by rfl, ?_⟩) (by assumption) ?_
         ·
          intro w hSw
          have hix : ((s : Int) + 1).toNat = s + 1 := (by omega); go_simp <;> first | with_reducible rfl | omega
         simp only [Act.put, List.setIfInBounds_toArray, List.set_cons_zero, List.set_cons_succ]
         have HG28 : Hid (∀ w' : World, (∀ k, (XB B5 B9 g Bs B11 (B11 + 1) (fun k => k = LU ∨ k = LU + 1)) k → w'.heap[k]? = V.heap[k]?) → w'.cell? ⟨g, s + 1, none⟩ = some (.int .i64 (bk[s + 1].1 : Int))) := hide (fun w' h => by
          have h1 := (HC28.out w' h).2.2.2
          simp only [World.cell?, h1]
          simp [hl1b, cellI])
         refine wpAnyH_take (i := 9) (oi := { dst := some 126, op := Op.load 3 (Operand.tmp 125), type := 3, pos := "outright.go:523", after := #[{ on := 8, ground := Ground.data }, { on := 4, ground := Ground.guard }], guard := some (4, true) }) (v := ?_) rfl (by kernel_rfl) (by kernel_rfl) (by kernel_rfl) (fun _ _ _ h => h) (Or.inl ⟨by rfl, ?_⟩) (by assumption) ?_
         rotate_left
         ·
          intro w hSw
          have zg := HG28.out w hSw; go_simp <;> first | with_reducible rfl | omega
         simp only [Act.put, List.setIfInBounds_toArray, List.set_cons_zero, List.set_cons_succ]
         clear HG28
         have Hl1 := hide hl1b
         obtain ⟨s8, hlv⟩ := HRx.out.lv hl1b (show s < s + 1 by omega)
         refine wpAnyH_ready (rs := [10]) (by kernel_rfl) (by simp) ?_
         refine AllReadyH.cons (o := { dst := some 127, op := Op.buildSlice 28 1 #[(0, Operand.tmp 126)], type := 28, pos := "outright.go:523", after := #[{ on := 9, ground := Ground.data }, { on := 4, ground := Ground.guard }], guard := some (4, true) }) rfl (fun K hK => ?_) AllReadyH.nil
         go_simp
         refine hK.out _ _ (fun k x => (((Keeps.refl Vd (fun _ => False)).alloc _).block k (HVd.out.rg.xs k x).2 id).trans (hSd k x)) (fun hH1 => ?_)
         clear hK K
         try simp only [Act.put, List.setIfInBounds_toArray, List.set_cons_zero, List.set_cons_succ]
         refine wpAnyH_ready (rs := [11]) (by kernel_rfl) (by simp) ?_
         refine AllReadyH.cons (o := { dst := some 128, op := Op.call { callee := Callee.value (Operand.func 16), args := #[Operand.tmp 122, Operand.tmp 127], argTypes := #[23, 28] }, type := 24, pos := "outright.go:523", after := #[{ on := 5, ground := Ground.data }, { on := 10, ground := Ground.data }, { on := 4, ground := Ground.chain }, { on := 4, ground := Ground.guard }], guard := some (4, true) }) rfl (fun K hK => ?_) AllReadyH.nil
         go_simp
         refine (rg_free HVd.out.rg HRx.out.fine (bk[s + 1].1 : Int) s8 hlv).mono ?_
         rintro r V2 ⟨rfl, d3, hG3, hR3, hs3, hp3⟩
         refine hK.out _ _ (fun k x => (hs3 k x).trans (hSd k x)) (fun hH2 => ?_)
         clear hK K
         try simp only [Act.put, List.setIfInBounds_toArray, List.set_cons_zero, List.set_cons_succ]
         refine wpAnyH_ready (rs := [12]) (by kernel_rfl) (by simp) ?_
         refine AllReadyH.cons (o := { dst := some 129, op := Op.call { callee := Callee.value (Operand.func 9), args := #[Operand.tmp 128], argTypes := #[24] }, type := 3, pos := "outright.go:523", after := #[{ on := 11, ground := Ground.data }, { on := 11, ground := Ground.chain }, { on := 4, ground := Ground.guard }], guard := some (4, true) }) rfl (fun K hK => ?_) AllReadyH.nil
         go_simp
         refine (hnum _ _).mono ?_
         rintro r V3 ⟨rfl, rfl⟩
         refine hK.out _ _ (fun k x => (hs3 k x).trans (hSd k x)) (fun hH3 => ?_)
         clear hK K
         try simp only [Act.put, List.setIfInBounds_toArray, List.set_cons_zero, List.set_cons_succ]
         refine wpAnyH_take (i := 13) (oi := { dst := some 130, op := Op.binOp BinOp.neq 3 (Operand.tmp 129) (Operand.const (Value.int IntKind.i64 0)) 3, type := 4, pos := "outright.go:523", after := #[{ on := 12, ground := Ground.data }, { on := 4, ground := Ground.guard }], guard := some (4, true) }) (v := ?_) rfl (by kernel_rfl) (by kernel_rfl) (by kernel_rfl) (fun _ _ _ h => h) (Or.inl ⟨by rfl, ?_⟩) (by assumption) ?_
         rotate_left
         ·
          intro w hSw
          go_simp <;> first | with_reducible rfl | omega
         simp only [Act.put, List.setIfInBounds_toArray, List.set_cons_zero, List.set_cons_succ]
         refine wpAnyH_take (i := 14) (oi := { dst := some 131, op := Op.pick (Operand.tmp 121) (Operand.tmp 130) (Operand.const (Value.bool false)), type := 4, pos := "outright.go:523", after := #[{ on := 4, ground := Ground.data }, { on := 13, ground := Ground.data }], guard := none }) (v := ?_) rfl (by kernel_rfl) (by kernel_rfl) (by kernel_rfl) (fun _ _ _ h => h) (Or.inl ⟨by rfl, ?_⟩) (by assumption) ?_
         rotate_left
         ·
          intro w hSw
          go_simp <;> first | with_reducible rfl | omega
         simp only [Act.put, List.setIfInBounds_toArray, List.set_cons_zero, List.set_cons_succ]
         refine wpAnyH_done (by kernel_rfl) (Only.normal ?_) _
         have hV2 := HVd.out.call hR3 hs3
         have hR2 : Rd d3 bk (bk.length * 4096 + s * 8192) (bk.length + s) (fun j => s + 1 < j) := (HRx.out.free hl1b hG3 HAl.out.ne).less (Nat.le_refl _) (Nat.le_refl _) (fun j _ h => ⟨show s < j by omega, by omega⟩)
         have hP2 := HPd.out.trans hp3
         have hL2 : ∀ k, k = U.heap.size ∨ k = U.heap.size + 1 → V3.heap[k]? = w5.heap[k]? := fun k hk => (hs3 k (Or.inr (Or.inr (Or.inr (Or.inr (Or.inr (Or.inr (by have := HLU.out; omega)))))))).trans ((hSd k (Or.inr (Or.inr (Or.inr (Or.inr (Or.inr (Or.inr (by have := HLU.out; omega)))))))).trans (HLx.out k hk))
         clear hG3 hR3 hs3 hp3 hlv hH hH1 hH2 hH3 hSd HC28 HVd HPd HVx HRx HPx HLx hl1 hl1'
         obtain ⟨e5, -⟩ := one_cell hV2.b5
         have Hroom : Hid (d3.used + classN 8192 ≤ d3.limit) := hide (by have h1 := hR2.use; have h2 := hR2.lim; have h3 : classN 8192 = 8192 := (by decide); omega)
         have HV2 := hide hV2
         have HR2 := hide hR2
         have HP2 := hide hP2
         have HL2 := hide hL2
         clear hV2 hR2 hP2 hL2
         gi_wp2_with fail
         refine ⟨trivial, (CallsIn.inRound _ (callsIn_wide.2 (rg_alloc HV2.out.rg HR2.out.fine HR2.out.well 8192 (by omega) (by omega) Hroom.out))).mono ?_⟩
         rintro e W4 ⟨o4, d4, rfl, hT4, hR4, hs4, hp4⟩
         have HV4 := hide (HV2.out.call hR4 hs4)
         have HR4 := hide (HR2.out.take hT4)
         have HP4 := hide (HP2.out.trans hp4)
         have HL4 : Hid (∀ k, k = U.heap.size ∨ k = U.heap.size + 1 → W4.heap[k]? = w5.heap[k]?) := hide (fun k hk => (hs4 k (Or.inr (Or.inr (Or.inr (Or.inr (Or.inr (Or.inr (by have := HLU.out; omega)))))))).trans (HL2.out k hk))
         clear hT4 hR4 hs4 hp4 e5 HV2 HR2 HP2 HL2 Hroom
         gi_wp2_with fail
         refine ⟨trivial, (CallsIn.inRound _ (callsIn_wide.2 (hnum _ _))).mono ?_⟩
         rintro e W6 ⟨rfl, rfl⟩
         gi_wp2_with fail
         refine ⟨HL4.out, HP4.out, d4, HV4, hide (HR4.out.less (by have h3 : classN 8192 = 8192 := (by decide); omega) (by omega) (fun j hj h => ?_)), by omega, by have := Hns.out; omega⟩
         exact h.resolve_left (by omega)
        ·
         have hl1' : ¬ (s : Int) + 1 < (zs.length : Int) := by omega
         refine wpAnyH_take (i := 3) (oi := { dst := some 120, op := Op.binOp BinOp.lss 3 (Operand.tmp 117) (Operand.tmp 119) 3, type := 4, pos := "outright.go:523", after := #[{ on := 0, ground := Ground.data }, { on := 2, ground := Ground.data }], guard := none }) (v := Value.bool false) rfl (by kernel_rfl) (by kernel_rfl) (by kernel_rfl) (fun _ _ _ h => h) (Or.inl ⟨by rfl, ?_⟩) (by assumption) ?_
         ·
          intro w hSw
          go_simp <;> first | with_reducible rfl | omega
         simp only [Act.put, List.setIfInBounds_toArray, List.set_cons_zero, List.set_cons_succ]
         refine wpAnyH_take (i := 4) (oi := { dst := some 121, op := Op.move (Operand.tmp 120), type := 4, pos := "outright.go:523", after := #[{ on := 3, ground := Ground.data }], guard := none }) (v := ?_) rfl (by kernel_rfl) (by kernel_rfl) (by kernel_rfl) (fun _ _ _ h => h) (Or.inl ⟨by rfl, ?_⟩) (by assumption) ?_
         rotate_left
         ·
          intro w hSw
          go_simp <;> first | with_reducible rfl | omega
         simp only [Act.put, List.setIfInBounds_toArray, List.set_cons_zero, List.set_cons_succ]
         refine wpAnyH_take (i := 5) (oi := { dst := some 122, op := Op.load 23 (Operand.tmp 5), type := 23, pos := "outright.go:523", after := #[{ on := 4, ground := Ground.guard }], guard := some (4, true) }) (v := undef) rfl (by kernel_rfl) (by kernel_rfl) (by kernel_rfl) (fun _ _ _ h => h) (Or.inr ⟨by rfl, rfl⟩) (by assumption) ?_
         simp only [Act.put, List.setIfInBounds_toArray, List.set_cons_zero, List.set_cons_succ]
         refine wpAnyH_take (i := 6) (oi := { dst := some 123, op := Op.load 28 (Operand.tmp 9), type := 28, pos := "outright.go:523", after := #[{ on := 4, ground := Ground.guard }], guard := some (4, true) }) (v := undef) rfl (by kernel_rfl) (by kernel_rfl) (by kernel_rfl) (fun _ _ _ h => h) (Or.inr ⟨by rfl, rfl⟩) (by assumption) ?_
         simp only [Act.put, List.setIfInBounds_toArray, List.set_cons_zero, List.set_cons_succ]
         refine wpAnyH_take (i := 7) (oi := { dst := some 124, op := Op.load 3 (Operand.tmp 12), type := 3, pos := "outright.go:523", after := #[{ on := 4, ground := Ground.guard }], guard := some (4, true) }) (v := undef) rfl (by kernel_rfl) (by kernel_rfl) (by kernel_rfl) (fun _ _ _ h => h) (Or.inr ⟨by rfl, rfl⟩) (by assumption) ?_
         simp only [Act.put, List.setIfInBounds_toArray, List.set_cons_zero, List.set_cons_succ]
         refine wpAnyH_take (i := 8) (oi := { dst := some 125, op := Op.indexAddr 28 (Operand.tmp 123) (Operand.tmp 124), type := 0, pos := "outright.go:523", after := #[{ on := 6, ground := Ground.data }, { on := 7, ground := Ground.data }, { on := 4, ground := Ground.guard }], guard := some (4, true) }) (v := undef) rfl (by kernel_rfl) (by kernel_rfl) (by kernel_rfl) (fun _ _ _ h => h) (Or.inr ⟨by rfl, rfl⟩) (by assumption) ?_
         simp only [Act.put, List.setIfInBounds_toArray, List.set_cons_zero, List.set_cons_succ]
         refine wpAnyH_take (i := 9) (oi := { dst := some 126, op := Op.load 3 (Operand.tmp 125), type := 3, pos := "outright.go:523", after := #[{ on := 8, ground := Ground.data }, { on := 4, ground := Ground.guard }], guard := some (4, true) }) (v := undef) rfl (by kernel_rfl) (by kernel_rfl) (by kernel_rfl) (fun _ _ _ h => h) (Or.inr ⟨by rfl, rfl⟩) (by assumption) ?_
         simp only [Act.put, List.setIfInBounds_toArray, List.set_cons_zero, List.set_cons_succ]
         refine wpAnyH_take (i := 10) (oi := { dst := some 127, op := Op.buildSlice 28 1 #[(0, Operand.tmp 126)], type := 28, pos := "outright.go:523", after := #[{ on := 9, ground := Ground.data }, { on := 4, ground := Ground.guard }], guard := some (4, true) }) (v := undef) rfl (by kernel_rfl) (by kernel_rfl) (by kernel_rfl) (fun _ _ _ h => h) (Or.inr ⟨by rfl, rfl⟩) (by assumption) ?_
         simp only [Act.put, List.setIfInBounds_toArray, List.set_cons_zero, List.set_cons_succ]
         refine wpAnyH_take (i := 11) (oi := { dst := some 128, op := Op.call { callee := Callee.value (Operand.func 16), args := #[Operand.tmp 122, Operand.tmp 127], argTypes := #[23, 28] }, type := 24, pos := "outright.go:523", after := #[{ on := 5, ground := Ground.data }, { on := 10, ground := Ground.data }, { on := 4, ground := Ground.chain }, { on := 4, ground := Ground.guard }], guard := some (4, true) }) (v := undef) rfl (by kernel_rfl) (by kernel_rfl) (by kernel_rfl) (fun _ _ _ h => h) (Or.inr ⟨by rfl, rfl⟩) (by assumption) ?_
         simp only [Act.put, List.setIfInBounds_toArray, List.set_cons_zero, List.set_cons_succ]
         refine wpAnyH_take (i := 12) (oi := { dst := some 129, op := Op.call { callee := Callee.value (Operand.func 9), args := #[Operand.tmp 128], argTypes := #[24] }, type := 3, pos := "outright.go:523", after := #[{ on := 11, ground := Ground.data }, { on := 11, ground := Ground.chain }, { on := 4, ground := Ground.guard }], guard := some (4, true) }) (v := undef) rfl (by kernel_rfl) (by kernel_rfl) (by kernel_rfl) (fun _ _ _ h => h) (Or.inr ⟨by rfl, rfl⟩) (by assumption) ?_
         simp only [Act.put, List.setIfInBounds_toArray, List.set_cons_zero, List.set_cons_succ]
         refine wpAnyH_take (i := 13) (oi := { dst := some 130, op := Op.binOp BinOp.neq 3 (Operand.tmp 129) (Operand.const (Value.int IntKind.i64 0)) 3, type := 4, pos := "outright.go:523", after := #[{ on := 12, ground := Ground.data }, { on := 4, ground := Ground.guard }], guard := some (4, true) }) (v := undef) rfl (by kernel_rfl) (by kernel_rfl) (by kernel_rfl) (fun _ _ _ h => h) (Or.inr ⟨by rfl, rfl⟩) (by assumption) ?_
         simp only [Act.put, List.setIfInBounds_toArray, List.set_cons_zero, List.set_cons_succ]
         refine wpAnyH_take (i := 14) (oi := { dst := some 131, op := Op.pick (Operand.tmp 121) (Operand.tmp 130) (Operand.const (Value.bool false)), type := 4, pos := "outright.go:523", after := #[{ on := 4, ground := Ground.data }, { on := 13, ground := Ground.data }], guard := none }) (v := ?_) rfl (by kernel_rfl) (by kernel_rfl) (by kernel_rfl) (fun _ _ _ h => h) (Or.inl ⟨by rfl, ?_⟩) (by assumption) ?_
         rotate_left
         ·
          intro w hSw
          go_simp <;> first | with_reducible rfl | omega
         simp only [Act.put, List.setIfInBounds_toArray, List.set_cons_zero, List.set_cons_succ]
         refine wpAnyH_done (by kernel_rfl) (Only.normal ?_) _
         have hV2 := HVd.out
         have hR2 := HRx.out
         have hP2 := HPd.out
         have hL2 : ∀ k, k = U.heap.size ∨ k = U.heap.size + 1 → Vd.heap[k]? = w5.heap[k]? := fun k hk => (hSd k (Or.inr (Or.inr (Or.inr (Or.inr (Or.inr (Or.inr (by have := HLU.out; omega)))))))).trans (HLx.out k hk)
         have Hl1 := hide hl1
         clear hH hSd HC28 HVd HPd HVx HRx HPx HLx hl1 hl1'
         obtain ⟨e5, -⟩ := one_cell hV2.b5
         have Hroom : Hid (d.used + classN 8192 ≤ d.limit) := hide (by have h1 := hR2.use; have h2 := hR2.lim; have h3 : classN 8192 = 8192 := (by decide); omega)
         have HV2 := hide hV2
         have HR2 := hide hR2
         have HP2 := hide hP2
         have HL2 := hide hL2
         clear hV2 hR2 hP2 hL2
         gi_wp2_with fail
         refine ⟨trivial, (CallsIn.inRound _ (callsIn_wide.2 (rg_alloc HV2.out.rg HR2.out.fine HR2.out.well 8192 (by omega) (by omega) Hroom.out))).mono ?_⟩
         rintro e W4 ⟨o4, d4, rfl, hT4, hR4, hs4, hp4⟩
         have HV4 := hide (HV2.out.call hR4 hs4)
         have HR4 := hide (HR2.out.take hT4)
         have HP4 := hide (HP2.out.trans hp4)
         have HL4 : Hid (∀ k, k = U.heap.size ∨ k = U.heap.size + 1 → W4.heap[k]? = w5.heap[k]?) := hide (fun k hk => (hs4 k (Or.inr (Or.inr (Or.inr (Or.inr (Or.inr (Or.inr (by have := HLU.out; omega)))))))).trans (HL2.out k hk))
         clear hT4 hR4 hs4 hp4 e5 HV2 HR2 HP2 HL2 Hroom
         gi_wp2_with fail
         refine ⟨trivial, (CallsIn.inRound _ (callsIn_wide.2 (hnum _ _))).mono ?_⟩
         rintro e W6 ⟨rfl, rfl⟩
         gi_wp2_with fail
         refine ⟨HL4.out, HP4.out, d4, HV4, hide (HR4.out.less (by have h3 : classN 8192 = 8192 := (by decide); omega) (by omega) (fun j hj h => ?_)), by omega, by have := Hns.out; omega⟩
         have := Hl1.out; have := He1.out; omega
     case tail =>
      rintro W ⟨d, s, HVt, HRt, hsl, hcase⟩ hdf
      rw [← hLUe] at hdf
      have kW := HVt.out.rg.own.keeps
      obtain ⟨c3, -⟩ := one_cell (kW.blk Hb3.out)
      obtain ⟨c5, -⟩ := one_cell HVt.out.b5
      obtain ⟨c9, -⟩ := one_cell HVt.out.b9
      obtain ⟨c11, -⟩ := one_cell HVt.out.b11
      obtain ⟨c12, -⟩ := one_cell HVt.out.b12
      rw [List.length_map, e1] at c9
      have c11a := ((Keeps.refl W (fun _ => False)).alloc (.cells #[.slice none 0 0] 28)).cellK c11
      have hszl : s ≤ zs.length := by omega
      have Hcase := hide hcase
      clear hcase hlivs kW
      iterate 4 (first | go_values | go_guarded | go_step | go_back)
      refine gen_wp [140, 141, 142, 143, 144, 145, 146, 147, 148, 149, 150, 151, 152, 153, 154, 155, 156, 157, 158, 159, 160, 161, 162, 163, 164, 165, 166, 167] 168 (.bool false) ?_ (fun us => ?_)
      ·
       have hc3 : (stop = (s : Int) ∧ 1 ≤ s) ∨ (s = zs.length ∧ stop < 1) ∨ (s = zs.length ∧ (zs.length : Int) < stop) := by have := Hcase.out; omega
       rcases hc3 with ⟨hst, h1⟩ | ⟨hsz, hlt1⟩ | ⟨hsz, hgt1⟩
       ·
        skip
        have hA0 : ((s : Int) != stop) = false := by rw [hst]; simp
        have hA1 : (1 : Int) ≤ stop := by omega
        have hA2 : stop ≤ (zs.length : Int) := by omega
        have hA3 : ¬ stop < 1 := by omega
        have hA4 : ¬ (zs.length : Int) < stop := by omega
        clear hst h1
        go_wp2_with fail
        exact GenPost.mk (by kernel_rfl)
       ·
        skip
        have hA0 : ((s : Int) != (zs.length : Int)) = false := by rw [hsz]; simp
        have hA1 : ¬ (1 : Int) ≤ stop := by omega
        have hA2 : stop < 1 := by omega
        clear hsz hlt1
        go_wp2_with fail
        exact GenPost.mk (by kernel_rfl)
       ·
        skip
        have hA0 : ((s : Int) != (zs.length : Int)) = false := by rw [hsz]; simp
        have hA1 : (1 : Int) ≤ stop := by omega
        have hA2 : ¬ stop ≤ (zs.length : Int) := by omega
        have hA3 : ¬ stop < 1 := by omega
        have hA4 : (zs.length : Int) < stop := by omega
        clear hsz hgt1
        go_wp2_with fail
        exact GenPost.mk (by kernel_rfl)
      ·
       clear Hcase
       simp only [List.foldl_cons, List.foldl_nil, List.setIfInBounds_toArray, List.set_cons_zero, List.set_cons_succ]
       go_wp2_with fail
       clear c11a
       refine alloc1 (P := fun W => Code.wp _ _ _ _ W) fun W1 b13 hs13 k13 => ?_
       have HLV1 : Hid (LV W0 W1 p B5 B9 g Bs B11 (B11 + 1) W.heap.size (fun k => k = LU) (bk.map fun x => (x.1 : Int)) s d (.slice none 0 0) []) := hide ⟨HVt.out.more k13 (fun i y => by
        rcases y with y | y | y
        ·
         exact ⟨Or.inl (Or.inr (Or.inr (Or.inr (Or.inr (Or.inr (Or.inr (Or.inl y))))))), by have := heap_lt hdf; omega⟩
        ·
         exact ⟨Or.inr (by omega), by omega⟩
        ·
         simp [Value.ownBlock] at y), b13, World.ownsRow_nil _ _ _ _⟩
       have hDL1 := k13.blk hdf
       have hlow : B5 < W.heap.size ∧ B9 < W.heap.size ∧ g < W.heap.size ∧ Bs < W.heap.size ∧ B11 < W.heap.size ∧ B11 + 1 < W.heap.size := ⟨heap_lt HVt.out.b5, heap_lt HVt.out.b9, heap_lt HVt.out.bg, heap_lt HVt.out.bs, heap_lt HVt.out.b11, heap_lt HVt.out.b12⟩
       have hLUB : LU < W.heap.size := heap_lt hdf
       have hbs1 := (one_cell HLV1.out.v1.bs).1
       have hW01 : W0.heap.size ≤ W1.heap.size := HLV1.out.v1.rg.own.keeps.size
       generalize W.heap.size = B13 at *
       clear c3 c5 c9 c11 c12 hdf k13 b13 HVt
       obtain ⟨L2, hL2⟩ : ∃ L2, L2 = W1.heap.size := ⟨_, rfl⟩
       obtain ⟨lvs, hlvs⟩ : ∃ l, l = livesOf d.L d.lv := ⟨_, rfl⟩
       have hfew : lvs.length ≤ 128 := by rw [hlvs]; have := HRt.out.few; omega
       have hLl : d.L.length ≤ 134217728 := by have := tiles_length HRt.out.fine.tiles; have := HRt.out.fine.most; omega
       refine rangeB (n := 8) (by omega) rfl HRt.out.fine hLl HLV1.out.v1.rg.own.arena hbs1 rfl
        (fun a x a' W => a' = { tmps := (((a.tmps.setIfInBounds 170 (.int .i64 (x.1 : Int))).setIfInBounds 171 (.int .i64 (x.2 : Int))).setIfInBounds 18 (.int .i64 (x.1 : Int))).setIfInBounds 19 (.int .i64 (x.2 : Int)), defers := [] })
        (fun _ _ _ _ _ h _ => h)
        (fun k W => ∃ v, Hid (LV W0 W p B5 B9 g Bs B11 (B11 + 1) B13 (fun k => k = LU ∨ k = L2 ∨ k = L2 + 1) (bk.map fun x => (x.1 : Int)) s d v (flatOf (lvs.take k))) ∧ W.heap[LU]? = some (.deferred (some [])) ∧ W.heap[L2]? = some (.deferred (some [])))
        (fun _ _ => False)
        ?hI ?hIp ?hXp ?h0
        (fun W => ∃ v, Hid (LV W0 W p B5 B9 g Bs B11 (B11 + 1) B13 (fun k => k = LU ∨ k = L2 ∨ k = L2 + 1) (bk.map fun x => (x.1 : Int)) s d v (flatOf lvs)) ∧ W.heap[LU]? = some (.deferred (some [])) ∧ W.heap[L2]? = some (.deferred (some [])))
        ?tail ?hassign ?hbody ?hdone ?hstop
       case hI =>
        rintro k V V' ⟨v, h1, h2, h3⟩ kk
        exact ⟨v, hide (h1.out.stay kk), kk.blk h2, kk.blk h3⟩
       case hIp =>
        rintro k V r o ⟨v, h1, h2, h3⟩ hr
        exact ⟨v, hide (h1.out.putLoop hr (by omega) o), put_blk h2 (by omega), put_blk h3 (by omega)⟩
       case hXp => exact fun _ _ _ _ h _ => h.elim
       case h0 =>
        intro r
        refine ⟨_, hide (HLV1.out.more (((Keeps.refl W1 (fun _ => False)).alloc _).alloc _) (fun i y => ?_)), (((Keeps.refl W1 (fun _ => False)).alloc _).alloc _).blk hDL1, ?_⟩
        ·
         rcases y with y | y | y
         ·
          exact ⟨Or.inl y, by simp; omega⟩
         ·
          exact ⟨Or.inr (by omega), by simp; omega⟩
         ·
          exact ⟨Or.inr (by omega), by simp; omega⟩
        ·
         rw [hL2]
         exact ((Keeps.refl (W1.alloc (.deferred (some []))) (fun _ => False)).alloc _).blk (heap_alloc_new W1 _)
       case hdone =>
        rintro V ⟨v, h1, h2, h3⟩
        rw [← hlvs, List.take_length] at h1
        exact ⟨v, h1, h2, h3⟩
       case hstop => exact fun _ _ h => h.elim
       case hassign =>
        rintro ⟨xo, xn⟩ k V K' - hK'
        have hK2 := hide hK'
        clear hK'
        gi_wp2_with fail
        refine hK2.out _ _ (Keeps.refl _ _) ?_
        simp only [List.setIfInBounds_toArray, List.set_cons_zero, List.set_cons_succ]
       case hbody =>
        rintro ⟨xo, xn⟩ k a' W2 ⟨v, HL, hDL, hD2⟩ rfl hx ⟨r, hl⟩
        rw [← hlvs] at hx
        obtain ⟨hk, -⟩ := List.getElem?_eq_some_iff.1 hx
        have hfl := flatOf_length (lvs.take k)
        rw [List.length_take, Nat.min_eq_left (by omega)] at hfl
        obtain ⟨g', cap, w2, hap, h13, hLV2, K2, s13⟩ := HL.out.push hlow (by rw [hfl]; omega) (xo : Int) (xn : Int)
        rw [← flat_take hx] at hLV2
        rw [hfl] at hap hLV2 K2 s13
        have c17 := (one_cell HL.out.b13).1
        obtain ⟨e17, f17⟩ := one_cell h13
        obtain ⟨g17, -⟩ := one_cell s13
        have H2 := hide hLV2
        have HK2 := hide K2
        have HDL := hide hDL
        have HD2 := hide hD2
        have Hl := hide hl
        have Hx := hide hx
        have hgt : ¬ (256 : Int) < ((2 * k + 2 : Nat) : Int) := by omega
        have HhL2 := hide hL2
        clear hLV2 K2 hDL hD2 hl hx s13 h13 hfl hLUe hsU hL2 hlvs hs13
        simp only [List.setIfInBounds_toArray, List.set_cons_zero, List.set_cons_succ]
        gi_wp2_with (first | (gi_at_builtin; have _t := hap; refine app_runIn _ rfl (.tmp 172) (.tmp 175) 28 rfl rfl rfl hap ?_; clear hap))
        refine ⟨fun k' hk' => ?_, HL.out.parts HK2.out, ⟨_, H2⟩, ?_, ?_⟩
        ·
         rcases hk' with e | e
         ·
          rw [e, ← HhL2.out]
          exact HK2.out.block _ (heap_lt HD2.out) (HL.out.apart HD2.out rfl)
         ·
          rw [e]
          exact HK2.out.block _ (heap_lt Hl.out) (HL.out.apart Hl.out rfl)
        ·
         exact HK2.out.blkF HDL.out (HL.out.apart HDL.out rfl)
        ·
         exact HK2.out.blkF HD2.out (HL.out.apart HD2.out rfl)
       case tail =>
        rintro Wa ⟨v, HL, hDL, hD2⟩ hdf2
        clear hdf2
        obtain ⟨so, cl, rfl⟩ := HL.out.form
        rw [flatOf_length] at HL
        have c11 := (one_cell HL.out.v1.b11).1
        have c11a := ((Keeps.refl Wa (fun _ => False)).alloc (.cells #[.int .i64 0] 3)).cellK c11
        go_wp2_with fail
        clear c11 c11a
        refine alloc1 (P := fun W => Code.wp _ _ _ _ W) fun W3 b14 hs14 k14 => ?_
        have hDL3 := k14.blk hDL
        have hD23 := k14.blk hD2
        have hB13a : B13 < Wa.heap.size := heap_lt HL.out.b13
        have hL2a : L2 < Wa.heap.size := heap_lt hD2
        have Hrb : Hid (∀ q, (Value.slice so (2 * lvs.length) cl).ownBlock = some q → q < Wa.heap.size) := hide (fun q e => (HL.out.row.lt q e).2)
        have HL3 : Hid (LV W0 W3 p B5 B9 g Bs B11 (B11 + 1) B13 (fun k => k = LU ∨ k = L2 ∨ k = Wa.heap.size) (bk.map fun x => (x.1 : Int)) s d (.slice so (2 * lvs.length) cl) (flatOf lvs)) := hide (HL.out.more k14 (fun i y => by
         rcases y with y | y | y
         ·
          exact ⟨Or.inl (Or.inl y), by omega⟩
         ·
          exact ⟨Or.inl (Or.inr (Or.inl y)), by omega⟩
         ·
          exact ⟨Or.inr (by omega), by omega⟩))
        generalize Wa.heap.size = B14 at *
        clear HL hDL hD2 k14
        have hbs3 := (one_cell HL3.out.v1.bs).1
        have hW03 : W0.heap.size ≤ W3.heap.size := HL3.out.v1.rg.own.keeps.size
        obtain ⟨L3, hL3⟩ : ∃ L3, L3 = W3.heap.size := ⟨_, rfl⟩
        have hB14L : B14 < L3 := by omega
        refine rangeB (n := 8) (by omega) rfl HRt.out.fine hLl HL3.out.v1.rg.own.arena hbs3 rfl
         (fun a x a' W => a' = { tmps := ((a.tmps.setIfInBounds 181 (.int .i64 (x.1 : Int))).setIfInBounds 182 (.int .i64 (x.2 : Int))).setIfInBounds 21 (.int .i64 (x.1 : Int)), defers := [] })
         (fun _ _ _ _ _ h _ => h)
         (fun k W => Hid (LV W0 W p B5 B9 g Bs B11 (B11 + 1) B13 (fun k => k = LU ∨ k = L2 ∨ k = B14 ∨ k = L3 ∨ k = L3 + 1) (bk.map fun x => (x.1 : Int)) s d (.slice so (2 * lvs.length) cl) (flatOf lvs)) ∧ W.heap[LU]? = some (.deferred (some [])) ∧ W.heap[L2]? = some (.deferred (some [])) ∧ W.heap[L3]? = some (.deferred (some [])) ∧ W.heap[B14]? = some (.cells #[.int .i64 (k : Int)] 3))
         (fun _ _ => False)
         ?hI ?hIp ?hXp ?h0
         (fun W => Hid (LV W0 W p B5 B9 g Bs B11 (B11 + 1) B13 (fun k => k = LU ∨ k = L2 ∨ k = B14 ∨ k = L3 ∨ k = L3 + 1) (bk.map fun x => (x.1 : Int)) s d (.slice so (2 * lvs.length) cl) (flatOf lvs)) ∧ W.heap[LU]? = some (.deferred (some [])) ∧ W.heap[L2]? = some (.deferred (some [])) ∧ W.heap[L3]? = some (.deferred (some [])) ∧ W.heap[B14]? = some (.cells #[.int .i64 (lvs.length : Int)] 3))
         ?tail ?hassign ?hbody ?hdone ?hstop
        case hI =>
         rintro k V V' ⟨h1, h2, h3, h4, h5⟩ kk
         exact ⟨hide (h1.out.stay kk), kk.blk h2, kk.blk h3, kk.blk h4, kk.blk h5⟩
        case hIp =>
         rintro k V r o ⟨h1, h2, h3, h4, h5⟩ hr
         exact ⟨hide (h1.out.putLoop hr (by omega) o), put_blk h2 (by omega), put_blk h3 (by omega), put_blk h4 (by omega), put_blk h5 (by omega)⟩
        case hXp => exact fun _ _ _ _ h _ => h.elim
        case h0 =>
         intro r
         have kk : Keeps W3 ((W3.alloc (.deferred (some []))).alloc (.loop r)) (fun _ => False) := ((Keeps.refl W3 (fun _ => False)).alloc _).alloc _
         have hsz2 : ((W3.alloc (.deferred (some []))).alloc (.loop r)).heap.size = W3.heap.size + 2 := by simp
         refine ⟨hide (HL3.out.more kk (fun i y => ?_)), kk.blk hDL3, kk.blk hD23, ?_, kk.blk b14⟩
         ·
          rcases y with y | y | y | y | y
          ·
           exact ⟨Or.inl (Or.inl y), by omega⟩
          ·
           exact ⟨Or.inl (Or.inr (Or.inl y)), by omega⟩
          ·
           exact ⟨Or.inl (Or.inr (Or.inr y)), by omega⟩
          ·
           exact ⟨Or.inr (by omega), by omega⟩
          ·
           exact ⟨Or.inr (by omega), by omega⟩
         ·
          rw [hL3]
          exact ((Keeps.refl (W3.alloc (.deferred (some []))) (fun _ => False)).alloc _).blk (heap_alloc_new W3 _)
        case hdone =>
         intro V h
         rw [← hlvs] at h
         exact h
        case hstop => exact fun _ _ h => h.elim
        case hassign =>
         rintro ⟨xo, xn⟩ k V K' - hK'
         have hK2 := hide hK'
         clear hK'
         gi_wp2_with fail
         refine hK2.out _ _ (Keeps.refl _ _) ?_
         simp only [List.setIfInBounds_toArray, List.set_cons_zero, List.set_cons_succ]
        case hbody =>
         rintro ⟨xo, xn⟩ k a' W2 ⟨HL5, hDL, hD2, hD3, h14⟩ rfl hx ⟨r, hl⟩
         rw [← hlvs] at hx
         obtain ⟨hk, hxe⟩ := List.getElem?_eq_some_iff.1 hx
         have c11 := (one_cell HL5.out.v1.b11).1
         have c11a := ((Keeps.refl W2 (fun _ => False)).alloc (.cells #[.int .i64 0] 3)).cellK c11
         have HLUe := hide hLUe
         have HsU := hide hsU
         have HhL2 := hide hL2
         have HhL3 := hide hL3
         have Hlvs := hide hlvs
         have Hs13 := hide hs13
         have Hs14 := hide hs14
         have HhDL := hide hDL
         have HhD2 := hide hD2
         have HhD3 := hide hD3
         have Hh14 := hide h14
         have Hl := hide hl
         have Hx := hide hx
         clear hLUe hsU hL2 hL3 hlvs hs13 hs14 hDL hD2 hD3 h14 hl hx hbs3 hDL3 hD23 b14 hxe
         simp only [List.setIfInBounds_toArray, List.set_cons_zero, List.set_cons_succ]
         gi_wp2_with fail
         clear c11 c11a
         refine alloc1 (P := fun W => Code.wpIn _ _ _ _ _ _ W) fun W4 b15 hs15 k15 => ?_
         have hl4 := k15.blk Hl.out
         rw [← HhL3.out] at hl4
         have hl2w := Hl.out
         rw [← HhL3.out] at hl2w
         have hL3a : L3 + 1 < W2.heap.size := heap_lt hl2w
         have hB14a : B14 < W2.heap.size := heap_lt Hh14.out
         have hL3W := HhL3.out
         have HL6 : Hid (LV W0 W4 p B5 B9 g Bs B11 (B11 + 1) B13 (fun k => k = LU ∨ k = L2 ∨ k = B14 ∨ k = L3 ∨ k = L3 + 1 ∨ k = W2.heap.size) (bk.map fun x => (x.1 : Int)) s d (.slice so (2 * lvs.length) cl) (flatOf lvs)) := hide (HL5.out.more k15 (fun i y => by
          rcases y with y | y | y | y | y | y
          ·
           exact ⟨Or.inl (Or.inl y), by omega⟩
          ·
           exact ⟨Or.inl (Or.inr (Or.inl y)), by omega⟩
          ·
           exact ⟨Or.inl (Or.inr (Or.inr (Or.inl y))), by omega⟩
          ·
           exact ⟨Or.inl (Or.inr (Or.inr (Or.inr (Or.inl y)))), by omega⟩
          ·
           exact ⟨Or.inl (Or.inr (Or.inr (Or.inr (Or.inr y)))), by omega⟩
          ·
           exact ⟨Or.inr (by omega), by omega⟩))
         have hP4 : PartsStay W2 W4 := PartsStay.keeps k15
         have hDL4 := k15.blk HhDL.out
         have hD24 := k15.blk HhD2.out
         have hD34 := k15.blk HhD3.out
         have h144 := k15.blk Hh14.out
         have hbs4 := (one_cell HL6.out.v1.bs).1
         have hW04 : W0.heap.size ≤ W4.heap.size := HL6.out.v1.rg.own.keeps.size
         obtain ⟨B15, hB15⟩ : ∃ B15, B15 = W2.heap.size := ⟨_, rfl⟩
         rw [← hB15] at b15 HL6 hL3a hB14a hs15 ⊢
         clear hB15
         obtain ⟨L4, hL4⟩ : ∃ L4, L4 = W4.heap.size := ⟨_, rfl⟩
         refine rangeBN (n := 8 - 1 - 1) (l₀ := W3.heap.size + 1) (r₀ := r) rfl (by rw [← hL3W]; exact hl4) (by omega) rfl HRt.out.fine hLl HL6.out.v1.rg.own.arena hbs4 rfl
          (fun a x a' W => a' = { tmps := (((a.tmps.setIfInBounds 184 (.int .i64 (x.1 : Int))).setIfInBounds 185 (.int .i64 (x.2 : Int))).setIfInBounds 23 (.int .i64 (x.1 : Int))).setIfInBounds 24 (.int .i64 (x.2 : Int)), defers := [] })
          (fun _ _ _ _ _ h _ => h)
          (fun j W => Hid (LV W0 W p B5 B9 g Bs B11 (B11 + 1) B13 (fun k => k = LU ∨ k = L2 ∨ k = B14 ∨ k = L3 ∨ k = L3 + 1 ∨ k = B15 ∨ k = L4) (bk.map fun x => (x.1 : Int)) s d (.slice so (2 * lvs.length) cl) (flatOf lvs)) ∧ W.heap[LU]? = some (.deferred (some [])) ∧ W.heap[L2]? = some (.deferred (some [])) ∧ W.heap[L3]? = some (.deferred (some [])) ∧ W.heap[L3 + 1]? = some (.loop r) ∧ W.heap[B14]? = some (.cells #[.int .i64 (k : Int)] 3) ∧ W.heap[B15]? = some (.cells #[.int .i64 (j : Int)] 3) ∧ PartsStay W2 W)
          (fun _ _ => False)
          ?hI ?hIp ?hXp ?h0 ?hassign ?hbody ?hdone ?hstop
         case hI =>
          rintro j V V' ⟨h1, h2, h3, h4, h5, h6, h7, h8⟩ kk
          exact ⟨hide (h1.out.stay kk), kk.blk h2, kk.blk h3, kk.blk h4, kk.blk h5, kk.blk h6, kk.blk h7, h8.trans (PartsStay.keeps kk)⟩
         case hIp =>
          rintro j V r' o ⟨h1, h2, h3, h4, h5, h6, h7, h8⟩ hr
          exact ⟨hide (h1.out.putLoop hr (by omega) o), put_blk h2 (by omega), put_blk h3 (by omega), put_blk h4 (by omega), put_blk h5 (by omega), put_blk h6 (by omega), put_blk h7 (by omega), h8.trans (PartsStay.put hr rfl o)⟩
         case hXp => exact fun _ _ _ _ h _ => h.elim
         case h0 =>
          intro r'
          have kk : Keeps W4 (W4.alloc (.loop r')) (fun _ => False) := (Keeps.refl W4 (fun _ => False)).alloc _
          have hsz2 : (W4.alloc (.loop r')).heap.size = W4.heap.size + 1 := by simp
          refine ⟨hide (HL6.out.more kk (fun i y => ?_)), kk.blk hDL4, kk.blk hD24, kk.blk hD34, kk.blk hl4, kk.blk h144, kk.blk b15, hP4.trans (PartsStay.keeps kk)⟩
          rcases y with y | y | y | y | y | y | y
          ·
           exact ⟨Or.inl (Or.inl y), by omega⟩
          ·
           exact ⟨Or.inl (Or.inr (Or.inl y)), by omega⟩
          ·
           exact ⟨Or.inl (Or.inr (Or.inr (Or.inl y))), by omega⟩
          ·
           exact ⟨Or.inl (Or.inr (Or.inr (Or.inr (Or.inl y)))), by omega⟩
          ·
           exact ⟨Or.inl (Or.inr (Or.inr (Or.inr (Or.inr (Or.inl y))))), by omega⟩
          ·
           exact ⟨Or.inl (Or.inr (Or.inr (Or.inr (Or.inr (Or.inr y))))), by omega⟩
          ·
           exact ⟨Or.inr (by omega), by omega⟩
         case hstop => exact fun _ _ h => h.elim
         case hassign =>
          rintro ⟨yo, yn⟩ j V K' - hK'
          have hK2 := hide hK'
          clear hK'
          gi_wp2_with fail
          refine hK2.out _ _ (Keeps.refl _ _) ?_
          simp only [List.setIfInBounds_toArray, List.set_cons_zero, List.set_cons_succ]
         case hbody =>
          rintro ⟨yo, yn⟩ j a' V ⟨h1, h2, h3, h4, h5, h6, h7, h8⟩ rfl hy
          rw [← Hlvs.out] at hy
          obtain ⟨hj, hye⟩ := List.getElem?_eq_some_iff.1 hy
          obtain ⟨hf1, hf2⟩ := flat_at lvs j hj
          rw [hye] at hf1 hf2
          have hfl := flatOf_length lvs
          obtain ⟨-, hcs⟩ := h1.out.cells
          obtain ⟨b, rfl, q1⟩ := hcs (2 * j) (by omega)
          obtain ⟨b', eb, q2⟩ := hcs (2 * j + 1) (by omega)
          obtain rfl : b' = b := by cases eb; rfl
          rw [(List.getElem?_eq_some_iff.1 hf1).2, Nat.zero_add] at q1
          rw [(List.getElem?_eq_some_iff.1 hf2).2, Nat.zero_add] at q2
          have c17 := (one_cell h1.out.b13).1
          obtain ⟨c22, f22⟩ := one_cell h7
          have m1 : fitsI (2 * (j : Int)) := fitsI_mk (by omega) (by omega)
          have m2 : fitsI (2 * (j : Int) + 1) := fitsI_mk (by omega) (by omega)
          have m3 : fitsI ((j : Int) + 1) := fitsI_mk (by omega) (by omega)
          have n1 : ¬ ((2 * lvs.length : Nat) : Int) ≤ 2 * (j : Int) + 1 := by omega
          have n2 : ¬ 2 * (lvs.length : Int) ≤ 2 * (j : Int) + 1 := by omega
          have i1 : (2 * (j : Int)).toNat = 2 * j := by omega
          have i2 : (2 * (j : Int) + 1).toNat = 2 * j + 1 := by omega
          have l1 : 2 * (j : Int) < 2 * (lvs.length : Int) := by omega
          have l2 : 2 * (j : Int) + 1 < 2 * (lvs.length : Int) := by omega
          obtain ⟨hn, kn, sn15⟩ := h1.out.put h7 (by simp) (by omega) (by omega) (fun e => by have := Hrb.out _ e; omega) (.int .i64 ((j + 1 : Nat) : Int))
          have hcast : ((j + 1 : Nat) : Int) = (j : Int) + 1 := by omega
          have Hfin : Hid ((∀ k', k' = W4.heap.size → (V.setCell ⟨B15, 0, none⟩ (.int .i64 ((j + 1 : Nat) : Int))).heap[k']? = V.heap[k']?) ∧ PartsStay V (V.setCell ⟨B15, 0, none⟩ (.int .i64 ((j + 1 : Nat) : Int))) ∧ Hid (LV W0 (V.setCell ⟨B15, 0, none⟩ (.int .i64 ((j + 1 : Nat) : Int))) p B5 B9 g Bs B11 (B11 + 1) B13 (fun k => k = LU ∨ k = L2 ∨ k = B14 ∨ k = L3 ∨ k = L3 + 1 ∨ k = B15 ∨ k = L4) (bk.map fun x => (x.1 : Int)) s d (.slice (some ⟨b', 0, none⟩) (2 * lvs.length) cl) (flatOf lvs)) ∧ (V.setCell ⟨B15, 0, none⟩ (.int .i64 ((j + 1 : Nat) : Int))).heap[LU]? = some (.deferred (some [])) ∧ (V.setCell ⟨B15, 0, none⟩ (.int .i64 ((j + 1 : Nat) : Int))).heap[L2]? = some (.deferred (some [])) ∧ (V.setCell ⟨B15, 0, none⟩ (.int .i64 ((j + 1 : Nat) : Int))).heap[L3]? = some (.deferred (some [])) ∧ (V.setCell ⟨B15, 0, none⟩ (.int .i64 ((j + 1 : Nat) : Int))).heap[L3 + 1]? = some (.loop r) ∧ (V.setCell ⟨B15, 0, none⟩ (.int .i64 ((j + 1 : Nat) : Int))).heap[B14]? = some (.cells #[.int .i64 (k : Int)] 3) ∧ (V.setCell ⟨B15, 0, none⟩ (.int .i64 ((j + 1 : Nat) : Int))).heap[B15]? = some (.cells #[.int .i64 ((j + 1 : Nat) : Int)] 3) ∧ PartsStay W2 (V.setCell ⟨B15, 0, none⟩ (.int .i64 ((j + 1 : Nat) : Int)))) := hide ⟨fun k' hk' => kn.block k' (h1.out.ylt k' (by rw [hk', ← hL4]; simp)) (by omega), one_parts h7 kn, hide hn, kn.blkF h2 (by omega), kn.blkF h3 (by omega), kn.blkF h4 (by omega), kn.blkF h5 (by omega), kn.blkF h6 (by omega), sn15, h8.trans (one_parts h7 kn)⟩
          generalize hcn : ((j + 1 : Nat) : Int) = cn at Hfin
          rw [hcast] at hcn
          subst hcn
          clear hn kn sn15 h1 h2 h3 h4 h5 h6 h7 h8 hL4 hs15 hcast hcs hf1 hf2 hfl hl4 hl2w hL3W b15 hDL4 hD24 hD34 h144 hbs4 hy hye eb
          simp only [List.setIfInBounds_toArray, List.set_cons_zero, List.set_cons_succ]
          gi_wp2_with fail
          exact Hfin.out
         case hdone =>
          intro V h
          rw [← Hlvs.out] at h
          obtain ⟨h1, h2, h3, h4, h5, h6, h7, h8⟩ := h
          have hx := Hx.out
          obtain ⟨hk', hxe⟩ := List.getElem?_eq_some_iff.1 hx
          obtain ⟨hf1, -⟩ := flat_at lvs k hk'
          rw [hxe] at hf1
          have hfl := flatOf_length lvs
          obtain ⟨-, hcs⟩ := h1.out.cells
          obtain ⟨b, rfl, q1⟩ := hcs (2 * k) (by omega)
          rw [(List.getElem?_eq_some_iff.1 hf1).2, Nat.zero_add] at q1
          have c17 := (one_cell h1.out.b13).1
          obtain ⟨c20, f20⟩ := one_cell h6
          obtain ⟨c22, -⟩ := one_cell h7
          have m1 : fitsI (2 * (k : Int)) := fitsI_mk (by omega) (by omega)
          have m2 : fitsI (2 * (lvs.length : Int)) := fitsI_mk (by omega) (by omega)
          have m3 : fitsI ((k : Int) + 1) := fitsI_mk (by omega) (by omega)
          have n1 : ¬ ((2 * lvs.length : Nat) : Int) ≤ 2 * (k : Int) := by omega
          have n2 : ¬ 2 * (lvs.length : Int) ≤ 2 * (k : Int) := by omega
          have n3 : ¬ lvs.length ≤ k := by omega
          have n4 : ¬ (lvs.length : Int) ≤ (k : Int) := by omega
          have l3 : k < lvs.length := by omega
          have i1 : (2 * (k : Int)).toNat = 2 * k := by omega
          have l1 : 2 * (k : Int) < 2 * (lvs.length : Int) := by omega
          obtain ⟨hn, kn, sn14⟩ := h1.out.put h6 (by simp) (by omega) (by omega) (fun e => by have := Hrb.out _ e; omega) (.int .i64 ((k + 1 : Nat) : Int))
          have Hfin : Hid ((∀ k', k' = W3.heap.size ∨ k' = W3.heap.size + 1 → (V.setCell ⟨B14, 0, none⟩ (.int .i64 ((k + 1 : Nat) : Int))).heap[k']? = W2.heap[k']?) ∧ PartsStay W2 (V.setCell ⟨B14, 0, none⟩ (.int .i64 ((k + 1 : Nat) : Int))) ∧ Hid (LV W0 (V.setCell ⟨B14, 0, none⟩ (.int .i64 ((k + 1 : Nat) : Int))) p B5 B9 g Bs B11 (B11 + 1) B13 (fun k => k = LU ∨ k = L2 ∨ k = B14 ∨ k = L3 ∨ k = L3 + 1) (bk.map fun x => (x.1 : Int)) s d (.slice (some ⟨b, 0, none⟩) (2 * lvs.length) cl) (flatOf lvs)) ∧ (V.setCell ⟨B14, 0, none⟩ (.int .i64 ((k + 1 : Nat) : Int))).heap[LU]? = some (.deferred (some [])) ∧ (V.setCell ⟨B14, 0, none⟩ (.int .i64 ((k + 1 : Nat) : Int))).heap[L2]? = some (.deferred (some [])) ∧ (V.setCell ⟨B14, 0, none⟩ (.int .i64 ((k + 1 : Nat) : Int))).heap[L3]? = some (.deferred (some [])) ∧ (V.setCell ⟨B14, 0, none⟩ (.int .i64 ((k + 1 : Nat) : Int))).heap[B14]? = some (.cells #[.int .i64 ((k + 1 : Nat) : Int)] 3)) := by
           refine hide ⟨fun k' hk' => ?_, h8.trans (one_parts h6 kn), hide (hn.more (Keeps.refl _ _) (fun i y => ?_)), kn.blkF h2 (by omega), kn.blkF h3 (by omega), kn.blkF h4 (by omega), sn14⟩
           ·
            rcases hk' with e | e
            ·
             rw [e, ← hL3W]
             exact (kn.blkF h4 (by omega)).trans HhD3.out.symm
            ·
             rw [e, ← hL3W]
             exact (kn.blkF h5 (by omega)).trans hl2w.symm
           ·
            have y' : i = LU ∨ i = L2 ∨ i = B14 ∨ i = L3 ∨ i = L3 + 1 ∨ i = B15 ∨ i = L4 := by omega
            exact ⟨Or.inl y', hn.ylt i y'⟩
          have hcast : ((k + 1 : Nat) : Int) = (k : Int) + 1 := by omega
          generalize hcn : ((k + 1 : Nat) : Int) = cn at Hfin
          rw [hcast] at hcn
          subst hcn
          clear hn kn sn14 h1 h2 h3 h4 h5 h6 h7 h8 hL4 hs15 hcast hcs hf1 hfl hl4 hl2w hL3W b15 hDL4 hD24 hD34 h144 hbs4 hx hxe hk'
          gi_wp2_with fail
          exact Hfin.out
        case tail =>
         rintro Wb ⟨HL, hDL, hD2, hD3, h14⟩ hdf3
         clear hdf3
         have c17 := (one_cell HL.out.b13).1
         obtain ⟨c20, -⟩ := one_cell h14
         have m2 : fitsI (2 * (lvs.length : Int)) := fitsI_mk (by omega) (by omega)
         have HLUe := hide hLUe
         have HsU := hide hsU
         have HhL2 := hide hL2
         have HhL3 := hide hL3
         have Hlvs := hide hlvs
         have Hs13 := hide hs13
         have Hs14 := hide hs14
         have HhDL := hide hDL
         have HhD2 := hide hD2
         have HhD3 := hide hD3
         clear hLUe hsU hL2 hL3 hlvs hs13 hs14 hDL hD2 hD3 h14 hbs3 hDL3 hD23 b14
         go_wp2_with fail
         go_loopw [25, 26] (fun v25 v26 wr => ∃ k : Nat, k ≤ lvs.length ∧ v25 = .int .i64 (sumB (lvs.take k) : Int) ∧ v26 = .int .i64 (2 * (k : Int)) ∧ Hid (LV W0 wr p B5 B9 g Bs B11 (B11 + 1) B13 (fun k => k = LU ∨ k = L2 ∨ k = B14 ∨ k = L3 ∨ k = L3 + 1) (bk.map fun x => (x.1 : Int)) s d (.slice so (2 * lvs.length) cl) (flatOf lvs)) ∧ wr.heap[LU]? = some (.deferred (some [])) ∧ wr.heap[L2]? = some (.deferred (some [])) ∧ wr.heap[L3]? = some (.deferred (some []))) (fun _ v26 _ => 2 * lvs.length - (intOf v26).toNat)
         case atStart => exact ⟨0, Nat.zero_le _, by simp [sumB], by simp, HL, HhDL.out, HhD2.out, HhD3.out⟩
         case round =>
          obtain ⟨k, hk, rfl, rfl, HLr, hDLr, hD2r, hD3r⟩ := hrel
          clear HL HhDL HhD2 HhD3 c17 c20
          have c17 := (one_cell HLr.out.b13).1
          have HDL := hide hDLr
          have HD2 := hide hD2r
          have HD3 := hide hD3r
          clear hDLr hD2r hD3r
          by_cases hlt : k < lvs.length
          ·
           have n1 : 2 * (k : Int) < 2 * (lvs.length : Int) := by omega
           have n2 : (k : Int) < (lvs.length : Int) := by omega
           go_wp2_with fail
           obtain ⟨hf1, hf2⟩ := flat_at lvs k hlt
           have hfl := flatOf_length lvs
           obtain ⟨-, hcs⟩ := HLr.out.cells
           obtain ⟨b, rfl, q1⟩ := hcs (2 * k) (by omega)
           obtain ⟨b', eb, q2⟩ := hcs (2 * k + 1) (by omega)
           obtain rfl : b' = b := by cases eb; rfl
           rw [(List.getElem?_eq_some_iff.1 hf1).2, Nat.zero_add] at q1
           rw [(List.getElem?_eq_some_iff.1 hf2).2, Nat.zero_add] at q2
           have hlvk : d.lv (lvs[k].1 : Int) = some (lvs[k].2 : Int) := lives_lv HRt.out.fine (by rw [← Hlvs.out]; exact List.getElem_mem hlt)
           have hsk := sumB_take hlt
           have hsl2 := sumB_le (l := lvs) (k + 1)
           have husd : sumB lvs = d.used := by rw [HRt.out.fine.sum, liveSum_lives, Hlvs.out]; rfl
           have hlim := HRt.out.fine.lim
           have huse := HRt.out.fine.use
           have Hprev : Hid (∀ w', Keeps wr w' (fun _ => False) → 1 ≤ k → w'.cell? ⟨b', 2 * k - 2, none⟩ = some (.int .i64 (lvs[k - 1].1 : Int)) ∧ w'.cell? ⟨b', 2 * k - 1, none⟩ = some (.int .i64 (lvs[k - 1].2 : Int)) ∧ lvs[k - 1].1 + lvs[k - 1].2 ≤ lvs[k].1) := hide (fun w' kw h1 => by
            obtain ⟨p1, p2⟩ := flat_at lvs (k - 1) (by omega)
            obtain ⟨b2, eb2, r1⟩ := hcs (2 * (k - 1)) (by omega)
            obtain ⟨b3, eb3, r2⟩ := hcs (2 * (k - 1) + 1) (by omega)
            cases eb2
            cases eb3
            rw [(List.getElem?_eq_some_iff.1 p1).2, Nat.zero_add, show 2 * (k - 1) = 2 * k - 2 by omega] at r1
            rw [(List.getElem?_eq_some_iff.1 p2).2, Nat.zero_add, show 2 * (k - 1) + 1 = 2 * k - 1 by omega] at r2
            refine ⟨kw.cellK r1, kw.cellK r2, ?_⟩
            have hnx := lives_next HRt.out.fine (k - 1) (by rw [← Hlvs.out]; omega)
            simp only [← Hlvs.out, show k - 1 + 1 = k by omega] at hnx
            exact hnx)
           have HC : Hid (∀ w', Keeps wr w' (fun _ => False) → w'.cell? ⟨B5, 0, none⟩ = some (.pointer (some ⟨p, 0, none⟩)) ∧ w'.cell? ⟨B13, 0, none⟩ = some (.slice (some ⟨b', 0, none⟩) (2 * lvs.length) cl) ∧ w'.cell? ⟨b', 2 * k, none⟩ = some (.int .i64 (lvs[k].1 : Int)) ∧ w'.cell? ⟨b', 2 * k + 1, none⟩ = some (.int .i64 (lvs[k].2 : Int))) := hide (fun w' kw => ⟨kw.cellK (one_cell HLr.out.v1.b5).1, kw.cellK c17, kw.cellK q1, kw.cellK q2⟩)
           have i1 : (2 * (k : Int)).toNat = 2 * k := by omega
           have i2 : (2 * (k : Int) + 1).toNat = 2 * k + 1 := by omega
           have l2 : 2 * (k : Int) + 1 < 2 * (lvs.length : Int) := by omega
           have l2a : (0 : Int) ≤ 2 * (k : Int) + 1 := by omega
           have m1 : fitsI (2 * (k : Int) + 1) := fitsI_mk (by omega) (by omega)
           have m3 : fitsI (2 * (k : Int) + 2) := fitsI_mk (by omega) (by omega)
           have m4 : fitsI ((sumB (lvs.take k) : Int) + (lvs[k].2 : Int)) := fitsI_mk (by omega) (by omega)
           clear hf1 hf2 hfl hcs q1 q2 eb c17
           refine wp_region_noPanic ?_
           refine wp_region_held_drew (S := fun w' => Keeps wr w' (fun _ => False)) (by kernel_rfl) ((Keeps.refl wr (fun _ => False)).drew) (fun hH => ?_)
           refine wpAnyH_take (i := 0) (oi := { dst := some 248, op := Op.load 23 (Operand.tmp 5), type := 23, pos := "outright.go:559", after := #[], guard := none }) (v := ?_) rfl (by kernel_rfl) (by kernel_rfl) (by kernel_rfl) (fun _ _ _ h => h) (Or.inl ⟨by rfl, ?_⟩) (by assumption) ?_
           rotate_left
           ·
            intro w hSw
            obtain ⟨z5, z17, z1, z2⟩ := HC.out w hSw; go_simp <;> first | with_reducible rfl | omega
           simp only [Act.put, List.setIfInBounds_toArray, List.set_cons_zero, List.set_cons_succ]
           refine wpAnyH_take (i := 1) (oi := { dst := some 249, op := Op.load 28 (Operand.tmp 17), type := 28, pos := "outright.go:559", after := #[], guard := none }) (v := ?_) rfl (by kernel_rfl) (by kernel_rfl) (by kernel_rfl) (fun _ _ _ h => h) (Or.inl ⟨by rfl, ?_⟩) (by assumption) ?_
           rotate_left
           ·
            intro w hSw
            obtain ⟨z5, z17, z1, z2⟩ := HC.out w hSw; go_simp <;> first | with_reducible rfl | omega
           simp only [Act.put, List.setIfInBounds_toArray, List.set_cons_zero, List.set_cons_succ]
           refine wpAnyH_take (i := 2) (oi := { dst := some 250, op := Op.move (Operand.tmp 26), type := 3, pos := "outright.go:559", after := #[], guard := none }) (v := ?_) rfl (by kernel_rfl) (by kernel_rfl) (by kernel_rfl) (fun _ _ _ h => h) (Or.inl ⟨by rfl, ?_⟩) (by assumption) ?_
           rotate_left
           ·
            intro w hSw
            go_simp <;> first | with_reducible rfl | omega
           simp only [Act.put, List.setIfInBounds_toArray, List.set_cons_zero, List.set_cons_succ]
           refine wpAnyH_take (i := 3) (oi := { dst := some 251, op := Op.indexAddr 28 (Operand.tmp 249) (Operand.tmp 250), type := 0, pos := "outright.go:559", after := #[{ on := 1, ground := Ground.data }, { on := 2, ground := Ground.data }], guard := none }) (v := Value.pointer (some ⟨b', 2 * k, none⟩)) rfl (by kernel_rfl) (by kernel_rfl) (by kernel_rfl) (fun _ _ _ h => h) (Or.inl ⟨by rfl, ?_⟩) (by assumption) ?_
           ·
            intro w hSw
            go_simp <;> first | with_reducible rfl | omega
           simp only [Act.put, List.setIfInBounds_toArray, List.set_cons_zero, List.set_cons_succ]
           refine wpAnyH_take (i := 4) (oi := { dst := some 252, op := Op.load 3 (Operand.tmp 251), type := 3, pos := "outright.go:559", after := #[{ on := 3, ground := Ground.data }], guard := none }) (v := ?_) rfl (by kernel_rfl) (by kernel_rfl) (by kernel_rfl) (fun _ _ _ h => h) (Or.inl ⟨by rfl, ?_⟩) (by assumption) ?_
           rotate_left
           ·
            intro w hSw
            obtain ⟨z5, z17, z1, z2⟩ := HC.out w hSw; go_simp <;> first | with_reducible rfl | omega
           simp only [Act.put, List.setIfInBounds_toArray, List.set_cons_zero, List.set_cons_succ]
           have HLd := hide (HLr.out.stay hH)
           generalize wr.drew = Vd at *
           refine wpAnyH_ready (rs := [5]) (by kernel_rfl) (by simp) ?_
           refine AllReadyH.cons (o := { dst := some 253, op := Op.call { callee := Callee.value (Operand.func 18), args := #[Operand.tmp 248, Operand.tmp 252], argTypes := #[23, 3] }, type := 45, pos := "outright.go:559", after := #[{ on := 0, ground := Ground.data }, { on := 4, ground := Ground.data }], guard := none }) rfl (fun K hK => ?_) AllReadyH.nil
           go_simp
           obtain ⟨cA, hcA, -⟩ := HLd.out.v1.rg.own.arena
           have hfo : fitsI (lvs[k].1 : Int) := by obtain ⟨o', n', f1, f2, f3, f4, f5⟩ := live_fits HRt.out.fine hlvk; have := HRt.out.fine.most; exact fitsI_mk (by omega) (by omega)
           have hSz := size_any hcA (lvs[k].1 : Int) hfo
           rw [hlvk] at hSz
           refine hSz.mono ?_
           rintro r V2 ⟨rfl, rfl⟩
           refine hK.out _ _ hH (fun hH2 => ?_)
           clear hK K hSz hcA cA hH2
           try simp only [Act.put, List.setIfInBounds_toArray, List.set_cons_zero, List.set_cons_succ]
           refine wpAnyH_take (i := 6) (oi := { dst := some 247, op := Op.move (Operand.tmp 253), type := 45, pos := "outright.go:559", after := #[{ on := 5, ground := Ground.data }], guard := none }) (v := ?_) rfl (by kernel_rfl) (by kernel_rfl) (by kernel_rfl) (fun _ _ _ h => h) (Or.inl ⟨by rfl, ?_⟩) (by assumption) ?_
           rotate_left
           ·
            intro w hSw
            go_simp <;> first | with_reducible rfl | omega
           simp only [Act.put, List.setIfInBounds_toArray, List.set_cons_zero, List.set_cons_succ]
           refine wpAnyH_take (i := 7) (oi := { dst := some 254, op := Op.extract (Operand.tmp 247) 0, type := 3, pos := "outright.go:559", after := #[{ on := 6, ground := Ground.data }], guard := none }) (v := ?_) rfl (by kernel_rfl) (by kernel_rfl) (by kernel_rfl) (fun _ _ _ h => h) (Or.inl ⟨by rfl, ?_⟩) (by assumption) ?_
           rotate_left
           ·
            intro w hSw
            go_simp <;> first | with_reducible rfl | omega
           simp only [Act.put, List.setIfInBounds_toArray, List.set_cons_zero, List.set_cons_succ]
           refine wpAnyH_take (i := 8) (oi := { dst := some 255, op := Op.extract (Operand.tmp 247) 1, type := 24, pos := "outright.go:559", after := #[{ on := 6, ground := Ground.data }, { on := 9, ground := Ground.gcOnly Departure.lateStores }], guard := none }) (v := ?_) rfl (by kernel_rfl) (by kernel_rfl) (by kernel_rfl) (fun _ _ _ h => h) (Or.inl ⟨by rfl, ?_⟩) (by assumption) ?_
           rotate_left
           ·
            intro w hSw
            go_simp <;> first | with_reducible rfl | omega
           simp only [Act.put, List.setIfInBounds_toArray, List.set_cons_zero, List.set_cons_succ]
           refine wpAnyH_take (i := 9) (oi := { dst := some 27, op := Op.assign (Operand.tmp 254), type := 3, pos := "outright.go:559", after := #[{ on := 7, ground := Ground.data }, { on := 5, ground := Ground.chain }, { on := 0, ground := Ground.phase }, { on := 1, ground := Ground.phase }, { on := 2, ground := Ground.phase }, { on := 3, ground := Ground.phase }, { on := 4, ground := Ground.phase }, { on := 5, ground := Ground.phase }, { on := 6, ground := Ground.phase }, { on := 7, ground := Ground.phase }, { on := 8, ground := Ground.textOnly Departure.lateStores }], guard := none }) (v := ?_) rfl (by kernel_rfl) (by kernel_rfl) (by kernel_rfl) (fun _ _ _ h => h) (Or.inl ⟨by rfl, ?_⟩) (by assumption) ?_
           rotate_left
           ·
            intro w hSw
            go_simp <;> first | with_reducible rfl | omega
           simp only [Act.put, List.setIfInBounds_toArray, List.set_cons_zero, List.set_cons_succ]
           refine wpAnyH_take (i := 10) (oi := { dst := some 28, op := Op.assign (Operand.tmp 255), type := 24, pos := "outright.go:559", after := #[{ on := 8, ground := Ground.data }, { on := 9, ground := Ground.chain }, { on := 0, ground := Ground.phase }, { on := 1, ground := Ground.phase }, { on := 2, ground := Ground.phase }, { on := 3, ground := Ground.phase }, { on := 4, ground := Ground.phase }, { on := 5, ground := Ground.phase }, { on := 6, ground := Ground.phase }, { on := 7, ground := Ground.phase }, { on := 8, ground := Ground.phase }, { on := 9, ground := Ground.phase }], guard := none }) (v := ?_) rfl (by kernel_rfl) (by kernel_rfl) (by kernel_rfl) (fun _ _ _ h => h) (Or.inl ⟨by rfl, ?_⟩) (by assumption) ?_
           rotate_left
           ·
            intro w hSw
            go_simp <;> first | with_reducible rfl | omega
           simp only [Act.put, List.setIfInBounds_toArray, List.set_cons_zero, List.set_cons_succ]
           refine wpAnyH_done (by kernel_rfl) (NoPanic.normal ?_) _
           simp only [Option.getD_some, Option.isSome_some, if_true]
           go_wp2_with fail
           have w1 : IntKind.i64.wrap (2 * (k : Int) + 1) = 2 * (k : Int) + 1 := by rw [IntKind.wrap_i64]; omega
           have HLe := hide hlvk
           clear hlvk HLd
           refine wp_region_noPanic ?_
           refine wp_region_held_drew (S := fun w' => Keeps V2 w' (fun _ => False)) (by kernel_rfl) ((Keeps.refl V2 (fun _ => False)).drew) (fun hHx => ?_)
           have hWd := hH.trans (Keeps.refl V2 (fun _ => False)).drew (fun _ _ e => e)
           have hVd : Keeps V2 V2.drew (fun _ => False) := (Keeps.refl V2 (fun _ => False)).drew
           generalize V2.drew = Ve at *
           refine wpAnyH_take (i := 0) (oi := { dst := some 256, op := Op.move (Operand.tmp 28), type := 24, pos := "outright.go:560", after := #[], guard := none }) (v := ?_) rfl (by kernel_rfl) (by kernel_rfl) (by kernel_rfl) (fun _ _ _ h => h) (Or.inl ⟨by rfl, ?_⟩) (by assumption) ?_
           rotate_left
           ·
            intro w hSw
            go_simp <;> first | with_reducible rfl | omega
           simp only [Act.put, List.setIfInBounds_toArray, List.set_cons_zero, List.set_cons_succ]
           refine wpAnyH_ready (rs := [1]) (by kernel_rfl) (by simp) ?_
           refine AllReadyH.cons (o := { dst := some 257, op := Op.call { callee := Callee.value (Operand.func 9), args := #[Operand.tmp 256], argTypes := #[24] }, type := 3, pos := "outright.go:560", after := #[{ on := 0, ground := Ground.data }], guard := none }) rfl (fun K hK => ?_) AllReadyH.nil
           go_simp
           refine (hnum _ _).mono ?_
           rintro r V3 ⟨rfl, rfl⟩
           refine hK.out _ _ hVd (fun hH2 => ?_)
           clear hK K
           try simp only [Act.put, List.setIfInBounds_toArray, List.set_cons_zero, List.set_cons_succ]
           refine wpAnyH_take (i := 2) (oi := { dst := some 258, op := Op.binOp BinOp.neq 3 (Operand.tmp 257) (Operand.const (Value.int IntKind.i64 0)) 3, type := 4, pos := "outright.go:560", after := #[{ on := 1, ground := Ground.data }], guard := none }) (v := Value.bool false) rfl (by kernel_rfl) (by kernel_rfl) (by kernel_rfl) (fun _ _ _ h => h) (Or.inl ⟨by rfl, ?_⟩) (by assumption) ?_
           ·
            intro w hSw
            go_simp <;> first | with_reducible rfl | omega
           simp only [Act.put, List.setIfInBounds_toArray, List.set_cons_zero, List.set_cons_succ]
           refine wpAnyH_take (i := 3) (oi := { dst := some 259, op := Op.move (Operand.tmp 258), type := 4, pos := "outright.go:560", after := #[{ on := 2, ground := Ground.data }, { on := 1, ground := Ground.chain }], guard := none }) (v := ?_) rfl (by kernel_rfl) (by kernel_rfl) (by kernel_rfl) (fun _ _ _ h => h) (Or.inl ⟨by rfl, ?_⟩) (by assumption) ?_
           rotate_left
           ·
            intro w hSw
            go_simp <;> first | with_reducible rfl | omega
           simp only [Act.put, List.setIfInBounds_toArray, List.set_cons_zero, List.set_cons_succ]
           refine wpAnyH_take (i := 4) (oi := { dst := some 260, op := Op.move (Operand.tmp 27), type := 3, pos := "outright.go:560", after := #[{ on := 3, ground := Ground.guard }], guard := some (3, false) }) (v := ?_) rfl (by kernel_rfl) (by kernel_rfl) (by kernel_rfl) (fun _ _ _ h => h) (Or.inl ⟨by rfl, ?_⟩) (by assumption) ?_
           rotate_left
           ·
            intro w hSw
            go_simp <;> first | with_reducible rfl | omega
           simp only [Act.put, List.setIfInBounds_toArray, List.set_cons_zero, List.set_cons_succ]
           refine wpAnyH_take (i := 5) (oi := { dst := some 261, op := Op.load 28 (Operand.tmp 17), type := 28, pos := "outright.go:560", after := #[{ on := 3, ground := Ground.guard }], guard := some (3, false) }) (v := ?_) rfl (by kernel_rfl) (by kernel_rfl) (by kernel_rfl) (fun _ _ _ h => h) (Or.inl ⟨by rfl, ?_⟩) (by assumption) ?_
           rotate_left
           ·
            intro w hSw
            obtain ⟨z5, z17, z1, z2⟩ := HC.out w (hH.trans hSw (fun _ _ e => e)); go_simp <;> first | with_reducible rfl | omega
           simp only [Act.put, List.setIfInBounds_toArray, List.set_cons_zero, List.set_cons_succ]
           refine wpAnyH_take (i := 6) (oi := { dst := some 262, op := Op.move (Operand.tmp 26), type := 3, pos := "outright.go:560", after := #[{ on := 3, ground := Ground.guard }], guard := some (3, false) }) (v := ?_) rfl (by kernel_rfl) (by kernel_rfl) (by kernel_rfl) (fun _ _ _ h => h) (Or.inl ⟨by rfl, ?_⟩) (by assumption) ?_
           rotate_left
           ·
            intro w hSw
            go_simp <;> first | with_reducible rfl | omega
           simp only [Act.put, List.setIfInBounds_toArray, List.set_cons_zero, List.set_cons_succ]
           refine wpAnyH_take (i := 7) (oi := { dst := some 263, op := Op.binOp BinOp.add 3 (Operand.tmp 262) (Operand.const (Value.int IntKind.i64 1)) 3, type := 3, pos := "outright.go:560", after := #[{ on := 6, ground := Ground.data }, { on := 3, ground := Ground.guard }], guard := some (3, false) }) (v := ?_) rfl (by kernel_rfl) (by kernel_rfl) (by kernel_rfl) (fun _ _ _ h => h) (Or.inl ⟨by rfl, ?_⟩) (by assumption) ?_
           rotate_left
           ·
            intro w hSw
            go_simp <;> first | with_reducible rfl | omega
           simp only [Act.put, List.setIfInBounds_toArray, List.set_cons_zero, List.set_cons_succ]
           refine wpAnyH_take (i := 8) (oi := { dst := some 264, op := Op.indexAddr 28 (Operand.tmp 261) (Operand.tmp 263), type := 0, pos := "outright.go:560", after := #[{ on := 5, ground := Ground.data }, { on := 7, ground := Ground.data }, { on := 3, ground := Ground.guard }], guard := some (3, false) }) (v := Value.pointer (some ⟨b', 2 * k + 1, none⟩)) rfl (by kernel_rfl) (by kernel_rfl) (by kernel_rfl) (fun _ _ _ h => h) (Or.inl ⟨by rfl, ?_⟩) (by assumption) ?_
           ·
            intro w hSw
            go_simp <;> first | with_reducible rfl | omega
           simp only [Act.put, List.setIfInBounds_toArray, List.set_cons_zero, List.set_cons_succ]
           refine wpAnyH_take (i := 9) (oi := { dst := some 265, op := Op.load 3 (Operand.tmp 264), type := 3, pos := "outright.go:560", after := #[{ on := 8, ground := Ground.data }, { on := 3, ground := Ground.guard }], guard := some (3, false) }) (v := ?_) rfl (by kernel_rfl) (by kernel_rfl) (by kernel_rfl) (fun _ _ _ h => h) (Or.inl ⟨by rfl, ?_⟩) (by assumption) ?_
           rotate_left
           ·
            intro w hSw
            obtain ⟨z5, z17, z1, z2⟩ := HC.out w (hH.trans hSw (fun _ _ e => e)); go_simp <;> first | with_reducible rfl | omega
           simp only [Act.put, List.setIfInBounds_toArray, List.set_cons_zero, List.set_cons_succ]
           refine wpAnyH_take (i := 10) (oi := { dst := some 266, op := Op.binOp BinOp.neq 3 (Operand.tmp 260) (Operand.tmp 265) 3, type := 4, pos := "outright.go:560", after := #[{ on := 4, ground := Ground.data }, { on := 9, ground := Ground.data }, { on := 3, ground := Ground.guard }], guard := some (3, false) }) (v := Value.bool false) rfl (by kernel_rfl) (by kernel_rfl) (by kernel_rfl) (fun _ _ _ h => h) (Or.inl ⟨by rfl, ?_⟩) (by assumption) ?_
           ·
            intro w hSw
            go_simp <;> first | with_reducible rfl | omega
           simp only [Act.put, List.setIfInBounds_toArray, List.set_cons_zero, List.set_cons_succ]
           refine wpAnyH_take (i := 11) (oi := { dst := some 267, op := Op.pick (Operand.tmp 259) (Operand.const (Value.bool true)) (Operand.tmp 266), type := 4, pos := "outright.go:560", after := #[{ on := 3, ground := Ground.data }, { on := 10, ground := Ground.data }], guard := none }) (v := ?_) rfl (by kernel_rfl) (by kernel_rfl) (by kernel_rfl) (fun _ _ _ h => h) (Or.inl ⟨by rfl, ?_⟩) (by assumption) ?_
           rotate_left
           ·
            intro w hSw
            go_simp <;> first | with_reducible rfl | omega
           simp only [Act.put, List.setIfInBounds_toArray, List.set_cons_zero, List.set_cons_succ]
           refine wpAnyH_take (i := 12) (oi := { dst := some 268, op := Op.move (Operand.tmp 267), type := 4, pos := "outright.go:560", after := #[{ on := 11, ground := Ground.data }, { on := 3, ground := Ground.chain }], guard := none }) (v := ?_) rfl (by kernel_rfl) (by kernel_rfl) (by kernel_rfl) (fun _ _ _ h => h) (Or.inl ⟨by rfl, ?_⟩) (by assumption) ?_
           rotate_left
           ·
            intro w hSw
            go_simp <;> first | with_reducible rfl | omega
           simp only [Act.put, List.setIfInBounds_toArray, List.set_cons_zero, List.set_cons_succ]
           refine wpAnyH_take (i := 13) (oi := { dst := some 269, op := Op.move (Operand.tmp 26), type := 3, pos := "outright.go:560", after := #[{ on := 12, ground := Ground.guard }], guard := some (12, false) }) (v := ?_) rfl (by kernel_rfl) (by kernel_rfl) (by kernel_rfl) (fun _ _ _ h => h) (Or.inl ⟨by rfl, ?_⟩) (by assumption) ?_
           rotate_left
           ·
            intro w hSw
            go_simp <;> first | with_reducible rfl | omega
           simp only [Act.put, List.setIfInBounds_toArray, List.set_cons_zero, List.set_cons_succ]
           by_cases hk1 : 1 ≤ k
           ·
            have n3 : (0 : Int) < 2 * (k : Int) := by omega
            have n4 : (0 : Int) < (k : Int) := by omega
            have n5 : 0 < k := by omega
            have i3 : (2 * (k : Int) - 2).toNat = 2 * k - 2 := by omega
            have i4 : (2 * (k : Int) - 1).toNat = 2 * k - 1 := by omega
            have m5 : fitsI (2 * (k : Int) - 2) := fitsI_mk (by omega) (by omega)
            have m6 : fitsI (2 * (k : Int) - 1) := fitsI_mk (by omega) (by omega)
            have l5 : 2 * (k : Int) - 2 < 2 * (lvs.length : Int) := by omega
            have l6 : 2 * (k : Int) - 1 < 2 * (lvs.length : Int) := by omega
            have l7 : (0 : Int) ≤ 2 * (k : Int) - 2 := by omega
            have l8 : (0 : Int) ≤ 2 * (k : Int) - 1 := by omega
            have l9 : ¬ 2 * (k : Int) - 2 < 0 := by omega
            have l10 : ¬ 2 * (k : Int) - 1 < 0 := by omega
            obtain ⟨-, -, hnx⟩ := Hprev.out V2 hH hk1
            have w5 : IntKind.i64.wrap (2 * (k : Int) - 2) = 2 * (k : Int) - 2 := by rw [IntKind.wrap_i64]; omega
            have w6 : IntKind.i64.wrap (2 * (k : Int) - 1) = 2 * (k : Int) - 1 := by rw [IntKind.wrap_i64]; omega
            have w7 : IntKind.i64.wrap ((lvs[k - 1].1 : Int) + (lvs[k - 1].2 : Int)) = (lvs[k - 1].1 : Int) + (lvs[k - 1].2 : Int) := by obtain ⟨o', n', f1, f2, f3, f4, f5⟩ := live_fits HRt.out.fine HLe.out; rw [IntKind.wrap_i64]; omega
            have l12 : (2 : Int) ≤ 2 * (k : Int) := by omega
            have l13 : (1 : Int) ≤ 2 * (k : Int) := by omega
            have l14 : (1 : Int) ≤ (k : Int) := by omega
            have l15 : ¬ lvs[k].1 < lvs[k - 1].1 + lvs[k - 1].2 := by omega
            have m7 : fitsI ((lvs[k - 1].1 : Int) + (lvs[k - 1].2 : Int)) := by obtain ⟨o', n', f1, f2, f3, f4, f5⟩ := live_fits HRt.out.fine HLe.out; have := HRt.out.fine.most; exact fitsI_mk (by omega) (by omega)
            have l11 : ¬ (lvs[k].1 : Int) < (lvs[k - 1].1 : Int) + (lvs[k - 1].2 : Int) := by omega
            refine wpAnyH_take (i := 14) (oi := { dst := some 270, op := Op.binOp BinOp.gtr 3 (Operand.tmp 269) (Operand.const (Value.int IntKind.i64 0)) 3, type := 4, pos := "outright.go:560", after := #[{ on := 13, ground := Ground.data }, { on := 12, ground := Ground.guard }], guard := some (12, false) }) (v := Value.bool true) rfl (by kernel_rfl) (by kernel_rfl) (by kernel_rfl) (fun _ _ _ h => h) (Or.inl ⟨by rfl, ?_⟩) (by assumption) ?_
            ·
             intro w hSw
             go_simp <;> first | with_reducible rfl | omega
            simp only [Act.put, List.setIfInBounds_toArray, List.set_cons_zero, List.set_cons_succ]
            refine wpAnyH_take (i := 15) (oi := { dst := some 271, op := Op.move (Operand.tmp 270), type := 4, pos := "outright.go:560", after := #[{ on := 14, ground := Ground.data }, { on := 12, ground := Ground.chain }, { on := 12, ground := Ground.guard }], guard := some (12, false) }) (v := ?_) rfl (by kernel_rfl) (by kernel_rfl) (by kernel_rfl) (fun _ _ _ h => h) (Or.inl ⟨by rfl, ?_⟩) (by assumption) ?_
            rotate_left
            ·
             intro w hSw
             go_simp <;> first | with_reducible rfl | omega
            simp only [Act.put, List.setIfInBounds_toArray, List.set_cons_zero, List.set_cons_succ]
            refine wpAnyH_take (i := 16) (oi := { dst := some 272, op := Op.load 28 (Operand.tmp 17), type := 28, pos := "outright.go:560", after := #[{ on := 15, ground := Ground.guard }], guard := some (15, true) }) (v := ?_) rfl (by kernel_rfl) (by kernel_rfl) (by kernel_rfl) (fun _ _ _ h => h) (Or.inl ⟨by rfl, ?_⟩) (by assumption) ?_
            rotate_left
            ·
             intro w hSw
             obtain ⟨z5, z17, z1, z2⟩ := HC.out w (hH.trans hSw (fun _ _ e => e)); go_simp <;> first | with_reducible rfl | omega
            simp only [Act.put, List.setIfInBounds_toArray, List.set_cons_zero, List.set_cons_succ]
            refine wpAnyH_take (i := 17) (oi := { dst := some 273, op := Op.move (Operand.tmp 26), type := 3, pos := "outright.go:560", after := #[{ on := 15, ground := Ground.guard }], guard := some (15, true) }) (v := ?_) rfl (by kernel_rfl) (by kernel_rfl) (by kernel_rfl) (fun _ _ _ h => h) (Or.inl ⟨by rfl, ?_⟩) (by assumption) ?_
            rotate_left
            ·
             intro w hSw
             go_simp <;> first | with_reducible rfl | omega
            simp only [Act.put, List.setIfInBounds_toArray, List.set_cons_zero, List.set_cons_succ]
            refine wpAnyH_take (i := 18) (oi := { dst := some 274, op := Op.indexAddr 28 (Operand.tmp 272) (Operand.tmp 273), type := 0, pos := "outright.go:560", after := #[{ on := 16, ground := Ground.data }, { on := 17, ground := Ground.data }, { on := 15, ground := Ground.guard }], guard := some (15, true) }) (v := Value.pointer (some ⟨b', 2 * k, none⟩)) rfl (by kernel_rfl) (by kernel_rfl) (by kernel_rfl) (fun _ _ _ h => h) (Or.inl ⟨by rfl, ?_⟩) (by assumption) ?_
            ·
             intro w hSw
             go_simp <;> first | with_reducible rfl | omega
            simp only [Act.put, List.setIfInBounds_toArray, List.set_cons_zero, List.set_cons_succ]
            refine wpAnyH_take (i := 19) (oi := { dst := some 275, op := Op.load 3 (Operand.tmp 274), type := 3, pos := "outright.go:560", after := #[{ on := 18, ground := Ground.data }, { on := 15, ground := Ground.guard }], guard := some (15, true) }) (v := ?_) rfl (by kernel_rfl) (by kernel_rfl) (by kernel_rfl) (fun _ _ _ h => h) (Or.inl ⟨by rfl, ?_⟩) (by assumption) ?_
            rotate_left
            ·
             intro w hSw
             obtain ⟨z5, z17, z1, z2⟩ := HC.out w (hH.trans hSw (fun _ _ e => e)); go_simp <;> first | with_reducible rfl | omega
            simp only [Act.put, List.setIfInBounds_toArray, List.set_cons_zero, List.set_cons_succ]
            refine wpAnyH_take (i := 20) (oi := { dst := some 276, op := Op.load 28 (Operand.tmp 17), type := 28, pos := "outright.go:560", after := #[{ on := 15, ground := Ground.guard }], guard := some (15, true) }) (v := ?_) rfl (by kernel_rfl) (by kernel_rfl) (by kernel_rfl) (fun _ _ _ h => h) (Or.inl ⟨by rfl, ?_⟩) (by assumption) ?_
            rotate_left
            ·
             intro w hSw
             obtain ⟨z5, z17, z1, z2⟩ := HC.out w (hH.trans hSw (fun _ _ e => e)); go_simp <;> first | with_reducible rfl | omega
            simp only [Act.put, List.setIfInBounds_toArray, List.set_cons_zero, List.set_cons_succ]
            refine wpAnyH_take (i := 21) (oi := { dst := some 277, op := Op.move (Operand.tmp 26), type := 3, pos := "outright.go:560", after := #[{ on := 15, ground := Ground.guard }], guard := some (15, true) }) (v := ?_) rfl (by kernel_rfl) (by kernel_rfl) (by kernel_rfl) (fun _ _ _ h => h) (Or.inl ⟨by rfl, ?_⟩) (by assumption) ?_
            rotate_left
            ·
             intro w hSw
             go_simp <;> first | with_reducible rfl | omega
            simp only [Act.put, List.setIfInBounds_toArray, List.set_cons_zero, List.set_cons_succ]
            refine wpAnyH_take (i := 22) (oi := { dst := some 278, op := Op.binOp BinOp.sub 3 (Operand.tmp 277) (Operand.const (Value.int IntKind.i64 2)) 3, type := 3, pos := "outright.go:560", after := #[{ on := 21, ground := Ground.data }, { on := 15, ground := Ground.guard }], guard := some (15, true) }) (v := ?_) rfl (by kernel_rfl) (by kernel_rfl) (by kernel_rfl) (fun _ _ _ h => h) (Or.inl ⟨by rfl, ?_⟩) (by assumption) ?_
            rotate_left
            ·
             intro w hSw
             go_simp <;> first | with_reducible rfl | omega
            simp only [Act.put, List.setIfInBounds_toArray, List.set_cons_zero, List.set_cons_succ]
            refine wpAnyH_take (i := 23) (oi := { dst := some 279, op := Op.indexAddr 28 (Operand.tmp 276) (Operand.tmp 278), type := 0, pos := "outright.go:560", after := #[{ on := 20, ground := Ground.data }, { on := 22, ground := Ground.data }, { on := 15, ground := Ground.guard }], guard := some (15, true) }) (v := Value.pointer (some ⟨b', 2 * k - 2, none⟩)) rfl (by kernel_rfl) (by kernel_rfl) (by kernel_rfl) (fun _ _ _ h => h) (Or.inl ⟨by rfl, ?_⟩) (by assumption) ?_
            ·
             intro w hSw
             go_simp <;> first | with_reducible rfl | omega
            simp only [Act.put, List.setIfInBounds_toArray, List.set_cons_zero, List.set_cons_succ]
            refine wpAnyH_take (i := 24) (oi := { dst := some 280, op := Op.load 3 (Operand.tmp 279), type := 3, pos := "outright.go:560", after := #[{ on := 23, ground := Ground.data }, { on := 15, ground := Ground.guard }], guard := some (15, true) }) (v := ?_) rfl (by kernel_rfl) (by kernel_rfl) (by kernel_rfl) (fun _ _ _ h => h) (Or.inl ⟨by rfl, ?_⟩) (by assumption) ?_
            rotate_left
            ·
             intro w hSw
             obtain ⟨z5, z17, z1, z2⟩ := HC.out w (hH.trans hSw (fun _ _ e => e)); obtain ⟨y1, y2, -⟩ := Hprev.out w (hH.trans hSw (fun _ _ e => e)) hk1; go_simp <;> first | with_reducible rfl | omega
            simp only [Act.put, List.setIfInBounds_toArray, List.set_cons_zero, List.set_cons_succ]
            refine wpAnyH_take (i := 25) (oi := { dst := some 281, op := Op.load 28 (Operand.tmp 17), type := 28, pos := "outright.go:560", after := #[{ on := 15, ground := Ground.guard }], guard := some (15, true) }) (v := ?_) rfl (by kernel_rfl) (by kernel_rfl) (by kernel_rfl) (fun _ _ _ h => h) (Or.inl ⟨by rfl, ?_⟩) (by assumption) ?_
            rotate_left
            ·
             intro w hSw
             obtain ⟨z5, z17, z1, z2⟩ := HC.out w (hH.trans hSw (fun _ _ e => e)); go_simp <;> first | with_reducible rfl | omega
            simp only [Act.put, List.setIfInBounds_toArray, List.set_cons_zero, List.set_cons_succ]
            refine wpAnyH_take (i := 26) (oi := { dst := some 282, op := Op.move (Operand.tmp 26), type := 3, pos := "outright.go:560", after := #[{ on := 15, ground := Ground.guard }], guard := some (15, true) }) (v := ?_) rfl (by kernel_rfl) (by kernel_rfl) (by kernel_rfl) (fun _ _ _ h => h) (Or.inl ⟨by rfl, ?_⟩) (by assumption) ?_
            rotate_left
            ·
             intro w hSw
             go_simp <;> first | with_reducible rfl | omega
            simp only [Act.put, List.setIfInBounds_toArray, List.set_cons_zero, List.set_cons_succ]
            refine wpAnyH_take (i := 27) (oi := { dst := some 283, op := Op.binOp BinOp.sub 3 (Operand.tmp 282) (Operand.const (Value.int IntKind.i64 1)) 3, type := 3, pos := "outright.go:560", after := #[{ on := 26, ground := Ground.data }, { on := 15, ground := Ground.guard }], guard := some (15, true) }) (v := ?_) rfl (by kernel_rfl) (by kernel_rfl) (by kernel_rfl) (fun _ _ _ h => h) (Or.inl ⟨by rfl, ?_⟩) (by assumption) ?_
            rotate_left
            ·
             intro w hSw
             go_simp <;> first | with_reducible rfl | omega
            simp only [Act.put, List.setIfInBounds_toArray, List.set_cons_zero, List.set_cons_succ]
            refine wpAnyH_take (i := 28) (oi := { dst := some 284, op := Op.indexAddr 28 (Operand.tmp 281) (Operand.tmp 283), type := 0, pos := "outright.go:560", after := #[{ on := 25, ground := Ground.data }, { on := 27, ground := Ground.data }, { on := 15, ground := Ground.guard }], guard := some (15, true) }) (v := Value.pointer (some ⟨b', 2 * k - 1, none⟩)) rfl (by kernel_rfl) (by kernel_rfl) (by kernel_rfl) (fun _ _ _ h => h) (Or.inl ⟨by rfl, ?_⟩) (by assumption) ?_
            ·
             intro w hSw
             go_simp <;> first | with_reducible rfl | omega
            simp only [Act.put, List.setIfInBounds_toArray, List.set_cons_zero, List.set_cons_succ]
            refine wpAnyH_take (i := 29) (oi := { dst := some 285, op := Op.load 3 (Operand.tmp 284), type := 3, pos := "outright.go:560", after := #[{ on := 28, ground := Ground.data }, { on := 15, ground := Ground.guard }], guard := some (15, true) }) (v := ?_) rfl (by kernel_rfl) (by kernel_rfl) (by kernel_rfl) (fun _ _ _ h => h) (Or.inl ⟨by rfl, ?_⟩) (by assumption) ?_
            rotate_left
            ·
             intro w hSw
             obtain ⟨z5, z17, z1, z2⟩ := HC.out w (hH.trans hSw (fun _ _ e => e)); obtain ⟨y1, y2, -⟩ := Hprev.out w (hH.trans hSw (fun _ _ e => e)) hk1; go_simp <;> first | with_reducible rfl | omega
            simp only [Act.put, List.setIfInBounds_toArray, List.set_cons_zero, List.set_cons_succ]
            refine wpAnyH_take (i := 30) (oi := { dst := some 286, op := Op.binOp BinOp.add 3 (Operand.tmp 280) (Operand.tmp 285) 3, type := 3, pos := "outright.go:560", after := #[{ on := 24, ground := Ground.data }, { on := 29, ground := Ground.data }, { on := 15, ground := Ground.guard }], guard := some (15, true) }) (v := ?_) rfl (by kernel_rfl) (by kernel_rfl) (by kernel_rfl) (fun _ _ _ h => h) (Or.inl ⟨by rfl, ?_⟩) (by assumption) ?_
            rotate_left
            ·
             intro w hSw
             go_simp <;> first | with_reducible rfl | omega
            simp only [Act.put, List.setIfInBounds_toArray, List.set_cons_zero, List.set_cons_succ]
            refine wpAnyH_take (i := 31) (oi := { dst := some 287, op := Op.binOp BinOp.lss 3 (Operand.tmp 275) (Operand.tmp 286) 3, type := 4, pos := "outright.go:560", after := #[{ on := 19, ground := Ground.data }, { on := 30, ground := Ground.data }, { on := 15, ground := Ground.guard }], guard := some (15, true) }) (v := Value.bool false) rfl (by kernel_rfl) (by kernel_rfl) (by kernel_rfl) (fun _ _ _ h => h) (Or.inl ⟨by rfl, ?_⟩) (by assumption) ?_
            ·
             intro w hSw
             go_simp <;> first | with_reducible rfl | omega
            simp only [Act.put, List.setIfInBounds_toArray, List.set_cons_zero, List.set_cons_succ]
            refine wpAnyH_take (i := 32) (oi := { dst := some 288, op := Op.pick (Operand.tmp 271) (Operand.tmp 287) (Operand.const (Value.bool false)), type := 4, pos := "outright.go:560", after := #[{ on := 15, ground := Ground.data }, { on := 31, ground := Ground.data }, { on := 12, ground := Ground.guard }], guard := some (12, false) }) (v := ?_) rfl (by kernel_rfl) (by kernel_rfl) (by kernel_rfl) (fun _ _ _ h => h) (Or.inl ⟨by rfl, ?_⟩) (by assumption) ?_
            rotate_left
            ·
             intro w hSw
             go_simp <;> first | with_reducible rfl | omega
            simp only [Act.put, List.setIfInBounds_toArray, List.set_cons_zero, List.set_cons_succ]
            refine wpAnyH_take (i := 33) (oi := { dst := some 289, op := Op.pick (Operand.tmp 268) (Operand.const (Value.bool true)) (Operand.tmp 288), type := 4, pos := "outright.go:560", after := #[{ on := 12, ground := Ground.data }, { on := 32, ground := Ground.data }], guard := none }) (v := ?_) rfl (by kernel_rfl) (by kernel_rfl) (by kernel_rfl) (fun _ _ _ h => h) (Or.inl ⟨by rfl, ?_⟩) (by assumption) ?_
            rotate_left
            ·
             intro w hSw
             go_simp <;> first | with_reducible rfl | omega
            simp only [Act.put, List.setIfInBounds_toArray, List.set_cons_zero, List.set_cons_succ]
            refine wpAnyH_done (by kernel_rfl) (NoPanic.normal ?_) _
            have HWd := hide hWd
            go_wp2_with fail
            go_roundw
            case rel => exact ⟨k + 1, by omega, congrArg (Value.int .i64) (by omega), congrArg (Value.int .i64) (by omega), hide (HLr.out.stay HWd.out), HWd.out.blk HDL.out, HWd.out.blk HD2.out, HWd.out.blk HD3.out⟩
            case measure => simp [intOf]; omega
           ·
            have hk0 : k = 0 := by omega
            have n3 : ¬ (0 : Int) < 2 * (k : Int) := by omega
            have n4 : ¬ (0 : Int) < (k : Int) := by omega
            have n5 : ¬ 0 < k := by omega
            have Hk0 := hide hk0
            clear hk0
            refine wpAnyH_take (i := 14) (oi := { dst := some 270, op := Op.binOp BinOp.gtr 3 (Operand.tmp 269) (Operand.const (Value.int IntKind.i64 0)) 3, type := 4, pos := "outright.go:560", after := #[{ on := 13, ground := Ground.data }, { on := 12, ground := Ground.guard }], guard := some (12, false) }) (v := Value.bool false) rfl (by kernel_rfl) (by kernel_rfl) (by kernel_rfl) (fun _ _ _ h => h) (Or.inl ⟨by rfl, ?_⟩) (by assumption) ?_
            ·
             intro w hSw
             go_simp <;> first | with_reducible rfl | omega
            simp only [Act.put, List.setIfInBounds_toArray, List.set_cons_zero, List.set_cons_succ]
            refine wpAnyH_take (i := 15) (oi := { dst := some 271, op := Op.move (Operand.tmp 270), type := 4, pos := "outright.go:560", after := #[{ on := 14, ground := Ground.data }, { on := 12, ground := Ground.chain }, { on := 12, ground := Ground.guard }], guard := some (12, false) }) (v := ?_) rfl (by kernel_rfl) (by kernel_rfl) (by kernel_rfl) (fun _ _ _ h => h) (Or.inl ⟨by rfl, ?_⟩) (by assumption) ?_
            rotate_left
            ·
             intro w hSw
             go_simp <;> first | with_reducible rfl | omega
            simp only [Act.put, List.setIfInBounds_toArray, List.set_cons_zero, List.set_cons_succ]
            refine wpAnyH_take (i := 16) (oi := { dst := some 272, op := Op.load 28 (Operand.tmp 17), type := 28, pos := "outright.go:560", after := #[{ on := 15, ground := Ground.guard }], guard := some (15, true) }) (v := undef) rfl (by kernel_rfl) (by kernel_rfl) (by kernel_rfl) (fun _ _ _ h => h) (Or.inr ⟨by rfl, rfl⟩) (by assumption) ?_
            simp only [Act.put, List.setIfInBounds_toArray, List.set_cons_zero, List.set_cons_succ]
            refine wpAnyH_take (i := 17) (oi := { dst := some 273, op := Op.move (Operand.tmp 26), type := 3, pos := "outright.go:560", after := #[{ on := 15, ground := Ground.guard }], guard := some (15, true) }) (v := undef) rfl (by kernel_rfl) (by kernel_rfl) (by kernel_rfl) (fun _ _ _ h => h) (Or.inr ⟨by rfl, rfl⟩) (by assumption) ?_
            simp only [Act.put, List.setIfInBounds_toArray, List.set_cons_zero, List.set_cons_succ]
            refine wpAnyH_take (i := 18) (oi := { dst := some 274, op := Op.indexAddr 28 (Operand.tmp 272) (Operand.tmp 273), type := 0, pos := "outright.go:560", after := #[{ on := 16, ground := Ground.data }, { on := 17, ground := Ground.data }, { on := 15, ground := Ground.guard }], guard := some (15, true) }) (v := undef) rfl (by kernel_rfl) (by kernel_rfl) (by kernel_rfl) (fun _ _ _ h => h) (Or.inr ⟨by rfl, rfl⟩) (by assumption) ?_
            simp only [Act.put, List.setIfInBounds_toArray, List.set_cons_zero, List.set_cons_succ]
            refine wpAnyH_take (i := 19) (oi := { dst := some 275, op := Op.load 3 (Operand.tmp 274), type := 3, pos := "outright.go:560", after := #[{ on := 18, ground := Ground.data }, { on := 15, ground := Ground.guard }], guard := some (15, true) }) (v := undef) rfl (by kernel_rfl) (by kernel_rfl) (by kernel_rfl) (fun _ _ _ h => h) (Or.inr ⟨by rfl, rfl⟩) (by assumption) ?_
            simp only [Act.put, List.setIfInBounds_toArray, List.set_cons_zero, List.set_cons_succ]
            refine wpAnyH_take (i := 20) (oi := { dst := some 276, op := Op.load 28 (Operand.tmp 17), type := 28, pos := "outright.go:560", after := #[{ on := 15, ground := Ground.guard }], guard := some (15, true) }) (v := undef) rfl (by kernel_rfl) (by kernel_rfl) (by kernel_rfl) (fun _ _ _ h => h) (Or.inr ⟨by rfl, rfl⟩) (by assumption) ?_
            simp only [Act.put, List.setIfInBounds_toArray, List.set_cons_zero, List.set_cons_succ]
            refine wpAnyH_take (i := 21) (oi := { dst := some 277, op := Op.move (Operand.tmp 26), type := 3, pos := "outright.go:560", after := #[{ on := 15, ground := Ground.guard }], guard := some (15, true) }) (v := undef) rfl (by kernel_rfl) (by kernel_rfl) (by kernel_rfl) (fun _ _ _ h => h) (Or.inr ⟨by rfl, rfl⟩) (by assumption) ?_
            simp only [Act.put, List.setIfInBounds_toArray, List.set_cons_zero, List.set_cons_succ]
            refine wpAnyH_take (i := 22) (oi := { dst := some 278, op := Op.binOp BinOp.sub 3 (Operand.tmp 277) (Operand.const (Value.int IntKind.i64 2)) 3, type := 3, pos := "outright.go:560", after := #[{ on := 21, ground := Ground.data }, { on := 15, ground := Ground.guard }], guard := some (15, true) }) (v := undef) rfl (by kernel_rfl) (by kernel_rfl) (by kernel_rfl) (fun _ _ _ h => h) (Or.inr ⟨by rfl, rfl⟩) (by assumption) ?_
            simp only [Act.put, List.setIfInBounds_toArray, List.set_cons_zero, List.set_cons_succ]
            refine wpAnyH_take (i := 23) (oi := { dst := some 279, op := Op.indexAddr 28 (Operand.tmp 276) (Operand.tmp 278), type := 0, pos := "outright.go:560", after := #[{ on := 20, ground := Ground.data }, { on := 22, ground := Ground.data }, { on := 15, ground := Ground.guard }], guard := some (15, true) }) (v := undef) rfl (by kernel_rfl) (by kernel_rfl) (by kernel_rfl) (fun _ _ _ h => h) (Or.inr ⟨by rfl, rfl⟩) (by assumption) ?_
            simp only [Act.put, List.setIfInBounds_toArray, List.set_cons_zero, List.set_cons_succ]
            refine wpAnyH_take (i := 24) (oi := { dst := some 280, op := Op.load 3 (Operand.tmp 279), type := 3, pos := "outright.go:560", after := #[{ on := 23, ground := Ground.data }, { on := 15, ground := Ground.guard }], guard := some (15, true) }) (v := undef) rfl (by kernel_rfl) (by kernel_rfl) (by kernel_rfl) (fun _ _ _ h => h) (Or.inr ⟨by rfl, rfl⟩) (by assumption) ?_
            simp only [Act.put, List.setIfInBounds_toArray, List.set_cons_zero, List.set_cons_succ]
            refine wpAnyH_take (i := 25) (oi := { dst := some 281, op := Op.load 28 (Operand.tmp 17), type := 28, pos := "outright.go:560", after := #[{ on := 15, ground := Ground.guard }], guard := some (15, true) }) (v := undef) rfl (by kernel_rfl) (by kernel_rfl) (by kernel_rfl) (fun _ _ _ h => h) (Or.inr ⟨by rfl, rfl⟩) (by assumption) ?_
            simp only [Act.put, List.setIfInBounds_toArray, List.set_cons_zero, List.set_cons_succ]
            refine wpAnyH_take (i := 26) (oi := { dst := some 282, op := Op.move (Operand.tmp 26), type := 3, pos := "outright.go:560", after := #[{ on := 15, ground := Ground.guard }], guard := some (15, true) }) (v := undef) rfl (by kernel_rfl) (by kernel_rfl) (by kernel_rfl) (fun _ _ _ h => h) (Or.inr ⟨by rfl, rfl⟩) (by assumption) ?_
            simp only [Act.put, List.setIfInBounds_toArray, List.set_cons_zero, List.set_cons_succ]
            refine wpAnyH_take (i := 27) (oi := { dst := some 283, op := Op.binOp BinOp.sub 3 (Operand.tmp 282) (Operand.const (Value.int IntKind.i64 1)) 3, type := 3, pos := "outright.go:560", after := #[{ on := 26, ground := Ground.data }, { on := 15, ground := Ground.guard }], guard := some (15, true) }) (v := undef) rfl (by kernel_rfl) (by kernel_rfl) (by kernel_rfl) (fun _ _ _ h => h) (Or.inr ⟨by rfl, rfl⟩) (by assumption) ?_
            simp only [Act.put, List.setIfInBounds_toArray, List.set_cons_zero, List.set_cons_succ]
            refine wpAnyH_take (i := 28) (oi := { dst := some 284, op := Op.indexAddr 28 (Operand.tmp 281) (Operand.tmp 283), type := 0, pos := "outright.go:560", after := #[{ on := 25, ground := Ground.data }, { on := 27, ground := Ground.data }, { on := 15, ground := Ground.guard }], guard := some (15, true) }) (v := undef) rfl (by kernel_rfl) (by kernel_rfl) (by kernel_rfl) (fun _ _ _ h => h) (Or.inr ⟨by rfl, rfl⟩) (by assumption) ?_
            simp only [Act.put, List.setIfInBounds_toArray, List.set_cons_zero, List.set_cons_succ]
            refine wpAnyH_take (i := 29) (oi := { dst := some 285, op := Op.load 3 (Operand.tmp 284), type := 3, pos := "outright.go:560", after := #[{ on := 28, ground := Ground.data }, { on := 15, ground := Ground.guard }], guard := some (15, true) }) (v := undef) rfl (by kernel_rfl) (by kernel_rfl) (by kernel_rfl) (fun _ _ _ h => h) (Or.inr ⟨by rfl, rfl⟩) (by assumption) ?_
            simp only [Act.put, List.setIfInBounds_toArray, List.set_cons_zero, List.set_cons_succ]
            refine wpAnyH_take (i := 30) (oi := { dst := some 286, op := Op.binOp BinOp.add 3 (Operand.tmp 280) (Operand.tmp 285) 3, type := 3, pos := "outright.go:560", after := #[{ on := 24, ground := Ground.data }, { on := 29, ground := Ground.data }, { on := 15, ground := Ground.guard }], guard := some (15, true) }) (v := undef) rfl (by kernel_rfl) (by kernel_rfl) (by kernel_rfl) (fun _ _ _ h => h) (Or.inr ⟨by rfl, rfl⟩) (by assumption) ?_
            simp only [Act.put, List.setIfInBounds_toArray, List.set_cons_zero, List.set_cons_succ]
            refine wpAnyH_take (i := 31) (oi := { dst := some 287, op := Op.binOp BinOp.lss 3 (Operand.tmp 275) (Operand.tmp 286) 3, type := 4, pos := "outright.go:560", after := #[{ on := 19, ground := Ground.data }, { on := 30, ground := Ground.data }, { on := 15, ground := Ground.guard }], guard := some (15, true) }) (v := undef) rfl (by kernel_rfl) (by kernel_rfl) (by kernel_rfl) (fun _ _ _ h => h) (Or.inr ⟨by rfl, rfl⟩) (by assumption) ?_
            simp only [Act.put, List.setIfInBounds_toArray, List.set_cons_zero, List.set_cons_succ]
            refine wpAnyH_take (i := 32) (oi := { dst := some 288, op := Op.pick (Operand.tmp 271) (Operand.tmp 287) (Operand.const (Value.bool false)), type := 4, pos := "outright.go:560", after := #[{ on := 15, ground := Ground.data }, { on := 31, ground := Ground.data }, { on := 12, ground := Ground.guard }], guard := some (12, false) }) (v := ?_) rfl (by kernel_rfl) (by kernel_rfl) (by kernel_rfl) (fun _ _ _ h => h) (Or.inl ⟨by rfl, ?_⟩) (by assumption) ?_
            rotate_left
            ·
             intro w hSw
             go_simp <;> first | with_reducible rfl | omega
            simp only [Act.put, List.setIfInBounds_toArray, List.set_cons_zero, List.set_cons_succ]
            refine wpAnyH_take (i := 33) (oi := { dst := some 289, op := Op.pick (Operand.tmp 268) (Operand.const (Value.bool true)) (Operand.tmp 288), type := 4, pos := "outright.go:560", after := #[{ on := 12, ground := Ground.data }, { on := 32, ground := Ground.data }], guard := none }) (v := ?_) rfl (by kernel_rfl) (by kernel_rfl) (by kernel_rfl) (fun _ _ _ h => h) (Or.inl ⟨by rfl, ?_⟩) (by assumption) ?_
            rotate_left
            ·
             intro w hSw
             go_simp <;> first | with_reducible rfl | omega
            simp only [Act.put, List.setIfInBounds_toArray, List.set_cons_zero, List.set_cons_succ]
            refine wpAnyH_done (by kernel_rfl) (NoPanic.normal ?_) _
            have HWd := hide hWd
            go_wp2_with fail
            go_roundw
            case rel => exact ⟨k + 1, by omega, congrArg (Value.int .i64) (by omega), congrArg (Value.int .i64) (by omega), hide (HLr.out.stay HWd.out), HWd.out.blk HDL.out, HWd.out.blk HD2.out, HWd.out.blk HD3.out⟩
            case measure => simp [intOf]; omega
          ·
           obtain rfl : k = lvs.length := by omega
           have n1 : ¬ 2 * (lvs.length : Int) < 2 * (lvs.length : Int) := by omega
           rw [List.take_length]
           have husd : sumB lvs = d.used := by rw [HRt.out.fine.sum, liveSum_lives, Hlvs.out]; rfl
           rw [husd]
           have c5 := (one_cell HLr.out.v1.b5).1
           have hLv : Calls Try.prog 19 #[.pointer (some ⟨p, 0, none⟩)] wr fun e w' => e = .returned (.int .i64 (d.used : Int)) ∧ w' = wr := by
            obtain ⟨cA, hcA, -⟩ := HLr.out.v1.rg.own.arena
            exact live_any hcA
           have HkW := hide (HK0.out.trans HLr.out.v1.rg.own.keeps (fun _ _ e => e))
           have HkR := hide HLr.out.v1.rg.own.keeps
           obtain ⟨c4, f4⟩ := one_cell (HkR.out.blk Hb4.out)
           go_wp2_with fail
           refine hLv.mono ?_
           rintro e V9 ⟨rfl, rfl⟩
           clear hLv
           go_wp2_with fail
           obtain ⟨s1, k1⟩ := set_one (v := .bool true) (HkR.out.blk Hb4.out)
           have h0s := hs0
           have hs13v := Hs13.out
           have hs14v := Hs14.out
           have hLUv := HLUe.out
           have hsUv := HsU.out
           have hL2v := HhL2.out
           have hL3v := HhL3.out
           have hsz0 := HKW.out.size
           have hkf := HkW.out.trans k1 (fun i hi e => by omega)
           first
           | refine leave _ rfl [W3.heap.size, W1.heap.size, B11 + 2] _ ?_ ?_ s1 hkf
           | refine leave _ rfl [W3.heap.size, W1.heap.size, U.heap.size] _ ?_ ?_ s1 hkf
           | refine leave _ rfl [W3.heap.size, W1.heap.size, LU] _ ?_ ?_ s1 hkf
           ·
            simp; omega
           ·
            intro r hr
            simp only [List.mem_cons, List.not_mem_nil, or_false] at hr
            rcases hr with rfl | rfl | rfl
            ·
             exact ⟨by rw [← hL3v]; exact set_blk HD3.out (by omega), by omega⟩
            ·
             exact ⟨by rw [← hL2v]; exact set_blk HD2.out (by omega), by omega⟩
            ·
             exact ⟨by first | exact set_blk HDL.out (by omega) | (rw [← hLUv]; exact set_blk HDL.out (by omega)) | (rw [← hsUv, ← hLUv]; exact set_blk HDL.out (by omega)), by omega⟩
end arenaRange
end Go.Proofs.Yteglefnfnkgpcaa
